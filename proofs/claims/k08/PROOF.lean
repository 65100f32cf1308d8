import PyProof.Rows.All
import Wide.All
import OpenK.AllK
import Wide.FinOn
import HandS.Base
import HandS.Call
import HandS.List
import HandS.Comp
import HandS.Ends
import HandS.Iter
import HandS.Words
import HandS.WordsList
import HandS.Star
import HandS.More
import HandS.ForMost
import HandS.IsInst
import HandS.TupAny
import HandS.Wide
import HandS.Strs
import PyProof.AutoSeq1
import HandS.DictComp
import HandS.SetKeys
import KE.KDictZip
import HandS.Zip
import HandS.Defaults
import HandS.Deep
import HandS.TupSets
import KE.KeyNested
import HandS.SetFor
import HandS.SetTxt0
import HandS.DictTup
import PyProof.EqAt
import PyProof.NeKinds
import HandS.Style
import PySem.Challenge.RW_stillruns_k08_whole_fits_is_an_order
set_option Elab.async false
set_option linter.unusedVariables false
set_option maxRecDepth 100000
namespace My
open PySem L2
/-! a def that stands behind the top, by what a caller needs of it -/
structure Cal (P : Program) (w : World) (K : PySem.W.Frag) (mg : Str → Option Value) (base : Heap) (x : Str) (n : Nat) (ps : List Str) (sp : Sp) : Prop where
  ex : ∃ (f : Addr) (fd : FuncData), FnOk P w K mg base CX0 n f fd ps sp ∧
    mg x = some (.ref f) ∧ PySem.W.keepIn K (.ref f) = true ∧ Binds K fd ps []
/-- how one keyword binds (the only parameter) -/
structure CalK (P : Program) (w : World) (K : PySem.W.Frag) (mg : Str → Option Value) (base : Heap) (x : Str) (n : Nat) (y : Str) (sp : Sp) : Prop where
  ex : ∃ (f : Addr) (fd : FuncData), FnOk P w K mg base CX0 n f fd [y] sp ∧
    mg x = some (.ref f) ∧ PySem.W.keepIn K (.ref f) = true ∧ KBinds K fd [y] [y] (fun us ws => us ++ ws) (fun vs zs => vs ++ zs)
section
variable {X : Cx} {x : Str} {n m : Nat} {ps : List Str} {sp : Sp} {es : List Expr} {e : Expr} {t tk : TA} {p pos : Pos} {y : Str} {kws : List Keyword}
theorem kbinds1 {K : PySem.W.Frag} {x qual : Str} {st : Stmt} {f : Addr} {fd : FuncData} {y : Str} (F : Fun K x qual st f fd)
    (h1 : ∀ (kV doc pm : Value) (an : Option Addr) (cdv ct u : Value), bindArgs (PySem.W.fnOf x qual (defArgs st) (defBody st) (defScope st) .none kV doc pm an cdv ct) ⟨[u], []⟩ = pure [(y, u)])
    (h2 : ∀ (kV doc pm : Value) (an : Option Addr) (cdv ct u : Value), bindArgs (PySem.W.fnOf x qual (defArgs st) (defBody st) (defScope st) .none kV doc pm an cdv ct) ⟨[], [(y, u)]⟩ = pure [(y, u)]) :
    KBinds K fd [y] [y] (fun us ws => us ++ ws) (fun vs zs => vs ++ zs) := by
  obtain ⟨oc, od, kV, doc, pm, an, cdv, ct, osl, rfl, lk, hcd⟩ := F.ex
  refine ⟨fun s us ws _ hl => ?_, fun r1 r2 => r1.append r2⟩
  match us, ws, hl with
  | [u], [], _ => exact .of_eq (h1 kV doc pm an cdv ct u)
  | [], [u], _ => exact .of_eq (h2 kV doc pm an cdv ct u)
theorem pc (C : Cal X.prog X.w X.K X.mg X.base x n ps sp) (hr : Room n X.A) (ha : PA X (e :: es) t) (hg : Gl X x := by rfl)
    (hdb : (x == ("__debug__" : Str)) = false := by decide)
    (he : starEach (e :: es) X.env = (false, eval e X.env) :: starEach es X.env := by rfl)
    (hpl : (backTo pos (starEach es X.env)).any (·.1) = false := by rfl) :
    PE X (.Call (.Name x p) (e :: es) [] pos) (tCall sp [] E0 t) := by
  obtain ⟨f, fd, F, hm, hk, hb⟩ := C.ex
  exact pe_call F hr hg hm hk hb .nil pass0 ha hdb he hpl
theorem pck0 (C : CalK X.prog X.w X.K X.mg X.base x n y sp) (hr : Room n X.A) (hkw : PK X kws tk) (hg : Gl X x := by rfl)
    (hdb : (x == ("__debug__" : Str)) = false := by decide)
    (hall : (backToKw pos (keywordEach kws X.env)).all (·.1.isSome) = true := by rfl)
    (hks : (backToKw pos (keywordEach kws X.env)).filterMap (·.1) = [y] := by rfl)
    (hpl : ((backTo pos (starEach [] X.env)).any (·.1) || (backToKw pos (keywordEach kws X.env)).any (·.1.isNone)) = false := by rfl) :
    PE X (.Call (.Name x p) [] kws pos) (fun σ H Q => tk σ H fun zs H2 => sp zs H2 Q E0) := by
  obtain ⟨f, fd, F, hm, hk, hb⟩ := C.ex
  refine ⟨fun pins s σ H Q I h => ?_⟩
  refine wpAny_Call_Name_kw (ld_glob I hg hm ?_ hdb)
  refine PySem.W.callWith_KW0 (h₀ := X.base) I.ok.mod.kin hk hall ?_ hpl
  refine thn (hkw.run pos pins s σ H _ I h) fun ws s2 ⟨zs, H2, I2, rz, q2⟩ => ⟨I2.kIn, ?_⟩
  rw [hks]
  exact run_fnk (us := []) (vs := []) F hr hb pass0 I2 .nil rz q2
end
/-! the rules that speak of the written part, told its name (so they stand in a comprehension's block, too) -/
section
variable {X : Cx} (K : PySem.W.Frag) (h : X.K = K)
include h
theorem ixL : IxR X (rIxL K) := by subst h; exact ix_list
theorem ixT : IxR X (rIxT K) := by subst h; exact ix_tup
theorem inSeq : OpR X (compareOp .In) (rIn K false) := by subst h; exact op_in_seq
theorem notInSeq : OpR X (compareOp .NotIn) (rIn K true) := by subst h; exact op_notIn_seq
theorem eqD (hu : X.A.units + 64 < cLine) : OpR X (compareOp .Eq) (rEqD K) := by subst h; exact op_eqD hu
theorem neD (hu : X.A.units + 64 < cLine) : OpR X (compareOp .NotEq) (rNeD K) := by subst h; exact op_neD hu
theorem lenSeq : CallR X (.builtin "len") (fun xs H Q => ∃ p ys, xs = [.ref p] ∧ (SqL K H p ys ∨ SqT K H p ys) ∧ Q (.int ys.length) H) := by
  subst h; exact call_len_seq
theorem listOf : CallR X (.type "list") (fun xs H Q => ∃ p ys, xs = [.ref p] ∧ (SqL K H p ys ∨ SqT K H p ys) ∧
    ∀ l, H l = none → Q (.ref l) (upd H l (.lst ys))) := by subst h; exact call_list_of
theorem tupleOf : CallR X (.type "tuple") (fun xs H Q => ∃ p ys, xs = [.ref p] ∧
    ((SqL K H p ys ∧ ∀ l, H l = none → Q (.ref l) (upd H l (.tup ys))) ∨ (SqT K H p ys ∧ Q (.ref p) H))) := by subst h; exact call_tuple_of
theorem isInst : CallR X (.builtin "isinstance") (rIsi K) := by subst h; exact call_isi
theorem isInstT : CallR X (.builtin "isinstance") (rIsiT K) := by subst h; exact call_isiT
theorem sumOf (hc : X.calm = true) : CallR X (.builtin "sum") (rSum K) := by subst h; exact cr_sum hc
theorem maxOf (hc : X.calm = true) : CallR X (.builtin "max") (rMax K) := by subst h; exact cr_max hc
theorem minOf (hc : X.calm = true) : CallR X (.builtin "min") (rMin K) := by subst h; exact cr_min hc
theorem allOf (hc : X.calm = true) : CallR X (.builtin "all") (rAll K) := by subst h; exact cr_all hc
theorem anyOf (hc : X.calm = true) : CallR X (.builtin "any") (rAny K) := by subst h; exact cr_any hc
theorem slL : SlR X (rSlL K) := by subst h; exact sl_list
theorem slT : SlR X (rSlA K) := by subst h; exact sl_tupA
theorem catT : OpR X (binaryOp .Add) (rCatA K) := by subst h; exact op_catA
theorem truth {a : Expr} {ta : TE} (ha : PE X a ta)
    (he : ∀ whole, isTrue a X.env whole = (do let v ← whole; standAt a.pos; holding [v] (truthy v)) := by intro _; rfl) :
    PT X a (fun σ H Q => ta σ H fun x H' => ∃ k, TruV K x H' k ∧ Q k H') := by subst h; exact pt_truth ha he
theorem piL {tg l : Expr} {tl : TE} (hl : PE X l tl) : PI X tg l (iList K tl) := by subst h; exact pi_list hl
theorem piT {tg l : Expr} {tl : TE} (hl : PE X l tl) : PI X tg l (iTup K tl) := by subst h; exact pi_tup hl
theorem star {e : Expr} {es : List Expr} {te : TE} {t : TA} {p : Pos} (he : PE X e te) (hr : PA X es t)
    (hs : starEach (.Starred e p :: es) X.env = (true, eval e X.env) :: starEach es X.env := by rfl) :
    PA X (.Starred e p :: es) (StX.tStar K te t) := by subst h; exact StX.pa_star he hr hs
end
/-- a text so many times (a few) -/
theorem op_mul_str {X : Cx} : OpR X (binaryOp .Mult) (fun x y H Q => ∃ (z : Str) (n : Int), x = .str z ∧ y = .int n ∧ 1 ≤ n ∧ n ≤ 1000 ∧ z.length ≤ 1000 ∧ Q (.str (Txt.mul z n)) H) := by
  intro pins s σ H x y v u Q I rx ry h
  obtain ⟨z, n, rfl, rfl, h1, h2, h3, q⟩ := h
  obtain ⟨t, rfl⟩ := rx
  obtain ⟨t2, rfl⟩ := ry
  refine SB.mul ⟨by simp; omega, fun _ _ => ?_, fun _ _ => ?_⟩ fun t' k => ⟨.str _, H, I.tok k, ⟨t', rfl⟩, q⟩
  · have e : (9223372036854775 : Int) ≤ (2 ^ 63 - 1) / n := by
      rw [Int.le_ediv_iff_mul_le (by omega)]
      omega
    omega
  · have e : z.length * n.toNat ≤ 1000 * 1000 := Nat.mul_le_mul h3 (by omega)
    unfold Builtin.Str.tooLong
    rw [sizeLine_eq]
    simp
    omega
/-- a text so many times (a few, or none) -/
theorem op_mul_str0 {X : Cx} : OpR X (binaryOp .Mult) (fun x y H Q => ∃ (z : Str) (n : Int), x = .str z ∧ y = .int n ∧ 0 ≤ n ∧ n ≤ 1000 ∧ z.length ≤ 1000 ∧ Q (.str (Txt.mul z n)) H) := by
  intro pins s σ H x y v u Q I rx ry h
  obtain ⟨z, n, rfl, rfl, h1, h2, h3, q⟩ := h
  obtain ⟨t, rfl⟩ := rx
  obtain ⟨t2, rfl⟩ := ry
  refine SB.mul ⟨by simp; omega, fun hn _ => ?_, fun hn _ => ?_⟩ fun t' k => ⟨.str _, H, I.tok k, ⟨t', rfl⟩, q⟩
  · have e : (9223372036854775 : Int) ≤ (2 ^ 63 - 1) / n := by
      rw [Int.le_ediv_iff_mul_le (by omega)]
      omega
    omega
  · have e : z.length * n.toNat ≤ 1000 * 1000 := Nat.mul_le_mul h3 (by omega)
    unfold Builtin.Str.tooLong
    rw [sizeLine_eq]
    simp
    omega
theorem ifT {c : Bool} {A B : Prop} (hc : c = true) (h : A) : if c = true then A else B := by
  rw [if_pos hc]
  exact h
theorem ifF {c : Bool} {A B : Prop} (hc : c = false) (h : B) : if c = true then A else B := by
  rw [if_neg (by rw [hc]; exact Bool.false_ne_true)]
  exact h
theorem Paired.at {α β : Type} {F : α → β → Prop} : ∀ {l₁ : List α} {l₂ : List β}, Paired F l₁ l₂ → ∀ (i : Nat) (x : α), l₁[i]? = some x → ∃ y, l₂[i]? = some y ∧ F x y
  | _, _, .nil, i, x, h => by simp at h
  | _, _, .cons r t, 0, x, h => by
    have e := Option.some.inj h
    subst e
    exact ⟨_, rfl, r⟩
  | _, _, .cons r t, i + 1, x, h => Paired.at t i x h
theorem take_next {α : Type} {l : List α} {i : Nat} {x : α} (h : l[i]? = some x) : l.take i ++ [x] = l.take (i + 1) := by
  rw [List.take_succ, h]
  rfl
theorem tyL {K : PySem.W.Frag} {H : Hp} {p : Addr} {xs : List V} (h : H p = some (.lst xs)) : tyV K "list" (.ref p) H := Or.inl ⟨rfl, _, SqL.of h⟩
theorem seq_set {te : TE} {i : Nat} {u : TS} {D : Ends} {σ : St} {H : Hp} (h : te σ H fun x H1 => u D (σ.set i (some x)) H1) : tSeq (tAsg te (gName i)) u D σ H := h
theorem gn {i : Nat} {v : V} {σ : St} {H : Hp} {Q : St → Hp → Prop} (h : Q (σ.set i (some v)) H) : gName i v σ H Q := h
theorem seq_abs {t u : TS} {D : Ends} {σ : St} {H : Hp} (R : St → Hp → Prop) (hd : ∀ σ' H', R σ' H' → u D σ' H')
    (h : ∀ nx : St → Hp → Prop, (∀ σ' H', R σ' H' → nx σ' H') → t { D with nx := nx } σ H) : tSeq t u D σ H := h (u D) hd
/-! constants of a module -/
theorem pgS {X : Cx} {x z : Str} {pos : Pos} (hm : ∃ t, X.mg x = some (.str z t)) (hg : Gl X x := by rfl) (hd : (x == ("__debug__" : Str)) = false := by decide) : PE X (.Name x pos) (tC (.str z)) := by
  obtain ⟨t, hm⟩ := hm
  exact pe_glob hg hm ⟨t, rfl⟩ hd
theorem pgI {X : Cx} {x : Str} {n : Int} {pos : Pos} (hm : ∃ t, X.mg x = some (.int n t)) (hg : Gl X x := by rfl) (hd : (x == ("__debug__" : Str)) = false := by decide) : PE X (.Name x pos) (tC (.int n)) := by
  obtain ⟨t, hm⟩ := hm
  exact pe_glob hg hm ⟨t, rfl⟩ hd
theorem pgT {X : Cx} {x : Str} {a : Addr} {pos : Pos} (hm : X.mg x = some (.ref a)) (hg : Gl X x := by rfl) (hd : (x == ("__debug__" : Str)) = false := by decide) : PE X (.Name x pos) (tC (.ref a)) :=
  pe_glob hg hm rfl hd
/-- what the modules' constants are -/
structure Mn (K : PySem.W.Frag) (mg : Str → Option Value) (aT aF : Addr) : Prop where
  m_LETTERS : ∃ t, mg "LETTERS" = some (.str "abcdefghijklmnopqrstuvwxyz" t)
  m_LONGEST : ∃ t, mg "LONGEST" = some (.int 8 t)
  m_TAKEN : mg "TAKEN" = some (.ref aT)
  q_TAKEN : ∀ H, SqT K H aT [.str "num", .str "text"]
  m_MOST_KINDS : ∃ t, mg "MOST_KINDS" = some (.int 12 t)
  m_MOST_DOORS : ∃ t, mg "MOST_DOORS" = some (.int 16 t)
  m_MOST_ROWS : ∃ t, mg "MOST_ROWS" = some (.int 6 t)
  m_MOST_CALLED : ∃ t, mg "MOST_CALLED" = some (.int 3 t)
  m_DEEPEST : ∃ t, mg "DEEPEST" = some (.int 4 t)
  m_FIRST : mg "FIRST" = some (.ref aF)
  q_FIRST : ∀ H, SqT K H aF [.int 1, .int 0, .int 0]
/-- a def called by keywords alone (their names ks, in the order in which they are written) -/
structure CalN (P : Program) (w : World) (K : PySem.W.Frag) (mg : Str → Option Value) (base : Heap) (x : Str) (n : Nat) (ps ks : List Str) (gV : List V → List V → List V) (sp : Sp) : Prop where
  ex : ∃ (f : Addr) (fd : FuncData) (g : List Value → List Value → List Value), FnOk P w K mg base CX0 n f fd ps sp ∧ mg x = some (.ref f) ∧ PySem.W.keepIn K (.ref f) = true ∧ KBinds K fd ps ks g gV
theorem pckN {X : Cx} {x : Str} {n : Nat} {ps ks : List Str} {sp : Sp} {gV : List V → List V → List V} {kws : List Keyword} {tk : TA} {p pos : Pos} (C : CalN X.prog X.w X.K X.mg X.base x n ps ks gV sp) (hr : Room n X.A) (hkw : PK X kws tk) (hg : Gl X x := by rfl)
    (hdb : (x == ("__debug__" : Str)) = false := by decide)
    (hall : (backToKw pos (keywordEach kws X.env)).all (·.1.isSome) = true := by rfl)
    (hks : (backToKw pos (keywordEach kws X.env)).filterMap (·.1) = ks := by rfl)
    (hpl : ((backTo pos (starEach [] X.env)).any (·.1) || (backToKw pos (keywordEach kws X.env)).any (·.1.isNone)) = false := by rfl) :
    PE X (.Call (.Name x p) [] kws pos) (fun σ H Q => tk σ H fun zs H2 => sp (gV [] zs) H2 Q E0) := by
  obtain ⟨f, fd, g, F, hm, hk, hb⟩ := C.ex
  refine ⟨fun pins s σ H Q I h => ?_⟩
  refine wpAny_Call_Name_kw (ld_glob I hg hm ?_ hdb)
  refine PySem.W.callWith_KW0 (h₀ := X.base) I.ok.mod.kin hk hall ?_ hpl
  refine thn (hkw.run pos pins s σ H _ I h) fun ws s2 ⟨zs, H2, I2, rz, q2⟩ => ⟨I2.kIn, ?_⟩
  rw [hks]
  exact run_fnk (us := []) (vs := []) F hr hb pass0 I2 .nil rz q2
end My
namespace My
open PySem L2
/-! general: heaps, pairs, lists -/
def But (d g : Addr) (H H' : Hp) : Prop := ∀ a o, a ≠ d → a ≠ g → H a = some o → H' a = some o
theorem But.refl (d g : Addr) (H : Hp) : But d g H H := fun _ _ _ _ h => h
theorem But.trans {d g : Addr} {H H1 H2 : Hp} (a : But d g H H1) (b : But d g H1 H2) : But d g H H2 := fun x o h1 h2 h => b x o h1 h2 (a x o h1 h2 h)
theorem But.new {d g p : Addr} {H H1 : Hp} {o : HO} (a : But d g H H1) (hp : H1 p = none) : But d g H (upd H1 p o) := fun x u h1 h2 h => by
  have q := a x u h1 h2 h
  rw [upd_ne (ne_of_none q hp)]
  exact q
theorem But.atD {d g : Addr} {H H1 : Hp} {o : HO} (a : But d g H H1) : But d g H (upd H1 d o) := fun x u h1 h2 h => by
  rw [upd_ne h1]
  exact a x u h1 h2 h
theorem But.atG {d g : Addr} {H H1 : Hp} {o : HO} (a : But d g H H1) : But d g H (upd H1 g o) := fun x u h1 h2 h => by
  rw [upd_ne h2]
  exact a x u h1 h2 h
theorem But.of_same {d g : Addr} {H H1 : Hp} (a : Same H H1) : But d g H H1 := fun x u _ _ h => a x u h
theorem same_new {H : Hp} {p : Addr} (h : H p = none) (o : HO) : Same H (upd H p o) := fun b u q => by rw [upd_ne (ne_of_none q h)]; exact q
theorem shaped_ints (ns : List Int) : SeqAt.shaped (.list (ns.map PyData.int)) = true := by
  have a : PyData.canLayAll0 (ns.map PyData.int) = true := by
    induction ns with
    | nil => rfl
    | cons x r ih => rw [List.map_cons, PyData.canLayAll0, ih]; rfl
  have b : PyData.depthAll (ns.map PyData.int) = 0 := by
    induction ns with
    | nil => rfl
    | cons x r ih => rw [List.map_cons, PyData.depthAll, ih (by rw [List.map_cons, PyData.canLayAll0] at a; exact (Bool.and_eq_true_iff.mp a).2)]; rfl
  unfold SeqAt.shaped
  rw [PyData.canLay0, a, PyData.depth, b]
  rfl
theorem dp_ints {K : PySem.W.Frag} {H : Hp} (ns : List Int) : DpAll K H (ns.map V.int) (ns.map PyData.int) := by
  induction ns with
  | nil => exact .nil
  | cons x r ih => exact .cons (.int x) ih
theorem eqv_nil (ns : List Int) : PyData.eqv (.list (ns.map PyData.int)) (.list []) = ns.isEmpty := by
  cases ns with
  | nil => simp [PyData.eqv, PyData.eqvAll]
  | cons x r => simp [PyData.eqv, PyData.eqvAll]
theorem last_of {ns : List Int} (h : ns ≠ []) : ∃ l x, ns = l ++ [x] := ⟨ns.dropLast, ns.getLast h, (List.dropLast_concat_getLast h).symm⟩
theorem abs_if (n : Int) : (if n < 0 then -n else n) = (n.natAbs : Int) := by split <;> omega
theorem Same.atNew {H0 H : Hp} {g : Addr} {o : HO} (s : Same H0 H) (h : H0 g = none) : Same H0 (upd H g o) := fun b u q => by
  rw [upd_ne (ne_of_none q h)]
  exact s b u q
def Tups (H H' : Hp) : Prop := ∀ a xs, H a = some (.tup xs) → H' a = some (.tup xs)
theorem Tups.of_same {H H' : Hp} (s : Same H H') : Tups H H' := fun a xs h => s a _ h
theorem Tups.refl (H : Hp) : Tups H H := fun _ _ h => h
theorem Tups.trans {H H1 H2 : Hp} (a : Tups H H1) (b : Tups H1 H2) : Tups H H2 := fun x xs h => b x xs (a x xs h)
theorem line5 {n : Nat} (h : n ≤ 100000) : n < sizeLine := Nat.lt_of_le_of_lt h (by decide)
theorem cut_last {K : List V} {v : V} (h : K ≠ []) : ¬ (HT.sIx (K ++ [v]).length 0 (some (-1)) = 0 ∧ HT.sIx (K ++ [v]).length (K ++ [v]).length none = (K ++ [v]).length) ∧ cutV (K ++ [v]) (some (-1)) none = [v] := by
  have e : HT.sIx (K ++ [v]).length 0 (some (-1)) = K.length := by
    show (if (-1 : Int) < 0 then ((-1 : Int) + ((K ++ [v]).length : Int)).toNat else min (-1 : Int).toNat (K ++ [v]).length) = K.length
    rw [if_pos (by decide), List.length_append, List.length_singleton]
    omega
  have e2 : HT.sIx (K ++ [v]).length (K ++ [v]).length none = K.length + 1 := by
    rw [HT.sIx_none, List.length_append, List.length_singleton]
  constructor
  · rintro ⟨a, _⟩
    rw [e] at a
    exact h (List.eq_nil_of_length_eq_zero a)
  · unfold cutV
    rw [e, e2, List.drop_left, Nat.add_sub_cancel_left]
    rfl
theorem pair_app {α β : Type} {F : α → β → Prop} : ∀ {l₁ r₁ : List α} {l₂ r₂ : List β}, Paired F l₁ l₂ → Paired F r₁ r₂ → Paired F (l₁ ++ r₁) (l₂ ++ r₂)
  | _, _, _, _, .nil, h => h
  | _, _, _, _, .cons r t, h => .cons r (pair_app t h)
theorem pair_snoc {α β : Type} {F : α → β → Prop} {x : α} : ∀ {l : List α} {ns : List β}, Paired F (l ++ [x]) ns → ∃ nl k, ns = nl ++ [k] ∧ Paired F l nl ∧ F x k
  | [], _, .cons r .nil => ⟨[], _, rfl, .nil, r⟩
  | _ :: l, _, .cons r t => by
    obtain ⟨nl, k, e, p, q⟩ := pair_snoc (l := l) t
    exact ⟨_ :: nl, k, by rw [e]; rfl, .cons r p, q⟩
theorem le_sum {k : Nat} : ∀ {ns : List Nat}, k ∈ ns → k ≤ ns.sum
  | x :: r, h => by
    rw [List.sum_cons]
    rcases List.mem_cons.mp h with rfl | h
    · omega
    · have := le_sum h
      omega
theorem sum_cast (ns : List Nat) : (ns.map fun n : Nat => (n : Int)).sum = (ns.sum : Int) := by
  induction ns with
  | nil => rfl
  | cons x r ih => rw [List.map_cons, List.sum_cons, ih, List.sum_cons]; omega
theorem Tups.upd {H : Hp} {p : Addr} {xs : List V} {o : HO} (h : H p = some (.lst xs)) : Tups H (upd H p o) := fun a ys e => by
  rw [upd_ne (ne_of e h (by intro z; cases z))]
  exact e
theorem pair_take {α β : Type} {F : α → β → Prop} : ∀ {l₁ : List α} {l₂ : List β} (k : Nat), Paired F l₁ l₂ → Paired F (l₁.take k) (l₂.take k)
  | _, _, 0, _ => .nil
  | _, _, _ + 1, .nil => .nil
  | _, _, k + 1, .cons r t => .cons r (pair_take k t)
theorem take_sum_le : ∀ (ns : List Nat) (k : Nat), (ns.take k).sum ≤ ns.sum
  | [], k => by simp
  | x :: r, 0 => by simp
  | x :: r, k + 1 => by
    have := take_sum_le r k
    rw [List.take_succ_cons, List.sum_cons, List.sum_cons]
    omega
theorem cut_ints (ns : List Int) (lo hi : Option Int) : ∃ ns' : List Int, cutV (ns.map V.int) lo hi = ns'.map V.int ∧ ns'.length ≤ ns.length := by
  refine ⟨(ns.drop (HT.sIx (ns.map V.int).length 0 lo)).take (HT.sIx (ns.map V.int).length (ns.map V.int).length hi - HT.sIx (ns.map V.int).length 0 lo), ?_, ?_⟩
  · unfold cutV
    rw [List.map_take, List.map_drop]
  · rw [List.length_take, List.length_drop]
    omega
theorem But.atNew {d g p : Addr} {H0 H : Hp} {o : HO} (b : But d g H0 H) (h : H0 p = none) : But d g H0 (upd H p o) := fun a u h1 h2 e => by
  rw [upd_ne (ne_of_none e h)]
  exact b a u h1 h2 e
end My
namespace My
open PySem L2
def top (i : Nat) : Stmt := PySem.Challenge.pw_stillruns_k08_whole_fits_is_an_order.main.body.getD i (.Pass ⟨0, 0, 0, 0⟩)
def inClass (s : Stmt) : List Stmt := match s with
  | .ClassDef (body := b) .. => b
  | _ => []
abbrev s_kinds_directly_in : Stmt := top 4
theorem sc_kinds_directly_in : FnScope ["kind"] ["kind"] (defScope s_kinds_directly_in) := ⟨rfl, rfl, rfl, by decide +kernel, rfl, by decide +kernel, by decide +kernel⟩
abbrev s_depth : Stmt := top 5
theorem sc_depth : FnScope ["kind", "levels", "level", "outer", "inner"] ["kind"] (defScope s_depth) := ⟨rfl, rfl, rfl, by decide +kernel, rfl, by decide +kernel, by decide +kernel⟩
abbrev s_kinds_in : Stmt := top 6
theorem sc_kinds_in : FnScope ["kind", "found", "waiting", "each"] ["kind"] (defScope s_kinds_in) := ⟨rfl, rfl, rfl, by decide +kernel, rfl, by decide +kernel, by decide +kernel⟩
abbrev s_names_in : Stmt := top 7
theorem sc_names_in : FnScope ["kind", "each"] ["kind"] (defScope s_names_in) := ⟨rfl, rfl, rfl, by decide +kernel, rfl, by decide +kernel, by decide +kernel⟩
abbrev s_calls_in : Stmt := top 8
theorem sc_calls_in : FnScope ["kind", "each"] ["kind"] (defScope s_calls_in) := ⟨rfl, rfl, rfl, by decide +kernel, rfl, by decide +kernel, by decide +kernel⟩
abbrev s_has_calls_in_calls : Stmt := top 9
theorem sc_has_calls_in_calls : FnScope ["kind", "each"] ["kind"] (defScope s_has_calls_in_calls) := ⟨rfl, rfl, rfl, by decide +kernel, rfl, by decide +kernel, by decide +kernel⟩
abbrev s_directly_above : Stmt := top 11
theorem sc_directly_above : FnScope ["declaration"] ["declaration"] (defScope s_directly_above) := ⟨rfl, rfl, rfl, by decide +kernel, rfl, by decide +kernel, by decide +kernel⟩
abbrev s_names_above : Stmt := top 12
theorem sc_names_above : FnScope ["declared", "name", "found", "waiting", "each"] ["declared", "name"] (defScope s_names_above) := ⟨rfl, rfl, rfl, by decide +kernel, rfl, by decide +kernel, by decide +kernel⟩
abbrev s_table_above : Stmt := top 13
theorem sc_table_above : FnScope ["declared", "name"] ["declared"] (defScope s_table_above) := ⟨rfl, rfl, rfl, by decide +kernel, rfl, by decide +kernel, by decide +kernel⟩
abbrev s_all_declared : Stmt := top 14
theorem sc_all_declared : FnScope ["above", "kind", "name"] ["above", "kind"] (defScope s_all_declared) := ⟨rfl, rfl, rfl, by decide +kernel, rfl, by decide +kernel, by decide +kernel⟩
abbrev s_pairs_asked : Stmt := top 15
theorem sc_pairs_asked : FnScope ["above", "given", "wanted", "words"] ["above", "given", "wanted"] (defScope s_pairs_asked) := ⟨rfl, rfl, rfl, by decide +kernel, rfl, by decide +kernel, by decide +kernel⟩
abbrev s_fits_by : Stmt := top 16
theorem sc_fits_by : FnScope ["above", "given", "wanted", "waiting", "asked", "lower", "upper"] ["above", "given", "wanted"] (defScope s_fits_by) := ⟨rfl, rfl, rfl, by decide +kernel, rfl, by decide +kernel, by decide +kernel⟩
abbrev s_is_name : Stmt := top 21
theorem sc_is_name : FnScope ["text", "sign"] ["text"] (defScope s_is_name) := ⟨rfl, rfl, rfl, by decide +kernel, rfl, by decide +kernel, by decide +kernel⟩
abbrev s_any_twice : Stmt := top 22
theorem sc_any_twice : FnScope ["names"] ["names"] (defScope s_any_twice) := ⟨rfl, rfl, rfl, by decide +kernel, rfl, by decide +kernel, by decide +kernel⟩
abbrev s_first_declared : Stmt := top 29
theorem sc_first_declared : FnScope ["kinds", "declared", "name", "declaration"] ["kinds"] (defScope s_first_declared) := ⟨rfl, rfl, rfl, by decide +kernel, rfl, by decide +kernel, by decide +kernel⟩
abbrev s_kind_is_sound : Stmt := top 30
theorem sc_kind_is_sound : FnScope ["declared", "kind", "each", "name"] ["declared", "kind"] (defScope s_kind_is_sound) := ⟨rfl, rfl, rfl, by decide +kernel, rfl, by decide +kernel, by decide +kernel⟩
abbrev s_names_are_sound : Stmt := top 31
theorem sc_names_are_sound : FnScope ["names", "name"] ["names"] (defScope s_names_are_sound) := ⟨rfl, rfl, rfl, by decide +kernel, rfl, by decide +kernel, by decide +kernel⟩
abbrev s_above_is_sound : Stmt := top 32
theorem sc_above_is_sound : FnScope ["declared", "name", "declaration", "above", "allowed", "uppers", "upper"] ["declared", "name", "declaration", "above"] (defScope s_above_is_sound) := ⟨rfl, rfl, rfl, by decide +kernel, rfl, by decide +kernel, by decide +kernel⟩
abbrev s_has_fields_of : Stmt := top 33
theorem sc_has_fields_of : FnScope ["above", "fields", "wanted", "own", "own_kind", "own_needed", "field", "kind", "needed"] ["above", "fields", "wanted"] (defScope s_has_fields_of) := ⟨rfl, rfl, rfl, by decide +kernel, rfl, by decide +kernel, by decide +kernel⟩
abbrev s_record_is_sound : Stmt := top 34
theorem sc_record_is_sound : FnScope ["declared", "declaration", "above", "fields", "uppers", "upper", "field", "_", "kind"] ["declared", "declaration", "above"] (defScope s_record_is_sound) := ⟨rfl, rfl, rfl, by decide +kernel, rfl, by decide +kernel, by decide +kernel⟩
abbrev s_choice_is_sound : Stmt := top 35
theorem sc_choice_is_sound : FnScope ["declared", "declaration", "cases", "_", "kind", "name"] ["declared", "declaration"] (defScope s_choice_is_sound) := ⟨rfl, rfl, rfl, by decide +kernel, rfl, by decide +kernel, by decide +kernel⟩
abbrev s_declaration_is_sound : Stmt := top 36
theorem sc_declaration_is_sound : FnScope ["declared", "name", "declaration", "above"] ["declared", "name", "declaration", "above"] (defScope s_declaration_is_sound) := ⟨rfl, rfl, rfl, by decide +kernel, rfl, by decide +kernel, by decide +kernel⟩
abbrev s_door_is_sound : Stmt := top 37
theorem sc_door_is_sound : FnScope ["declared", "door", "kinds", "name", "parameters", "answer", "_", "kind", "parameter"] ["declared", "door"] (defScope s_door_is_sound) := ⟨rfl, rfl, rfl, by decide +kernel, rfl, by decide +kernel, by decide +kernel⟩
abbrev s_check_lengths : Stmt := top 38
theorem sc_check_lengths : FnScope ["kinds", "doors"] ["kinds", "doors"] (defScope s_check_lengths) := ⟨rfl, rfl, rfl, by decide +kernel, rfl, by decide +kernel, by decide +kernel⟩
abbrev s_check_kinds : Stmt := top 39
theorem sc_check_kinds : FnScope ["kinds", "declared", "above", "seen", "name", "declaration"] ["kinds"] (defScope s_check_kinds) := ⟨rfl, rfl, rfl, by decide +kernel, rfl, by decide +kernel, by decide +kernel⟩
abbrev s_check_doors : Stmt := top 40
theorem sc_check_doors : FnScope ["kinds", "doors", "declared", "seen", "door"] ["kinds", "doors"] (defScope s_check_doors) := ⟨rfl, rfl, rfl, by decide +kernel, rfl, by decide +kernel, by decide +kernel⟩
abbrev s_fits : Stmt := top 44
theorem sc_fits : FnScope ["edition", "given", "wanted"] ["edition", "given", "wanted"] (defScope s_fits) := ⟨rfl, rfl, rfl, by decide +kernel, rfl, by decide +kernel, by decide +kernel⟩
abbrev s__law_tray : Stmt := top 46
theorem sc__law_tray : FnScope ["script", "fold", "great", "cell", "much"] ["script"] (defScope s__law_tray) := ⟨rfl, rfl, rfl, by decide +kernel, rfl, by decide +kernel, by decide +kernel⟩
abbrev s__law_draw : Stmt := top 47
theorem sc__law_draw : FnScope ["tray", "many", "mixed", "found"] ["tray", "many"] (defScope s__law_draw) := ⟨rfl, rfl, rfl, by decide +kernel, rfl, by decide +kernel, by decide +kernel⟩
abbrev s__law_name : Stmt := top 48
theorem sc__law_name : FnScope ["tray", "used", "letters", "way", "letter", "name", "some", "words", "old", "at", "k", "one"] ["tray", "used"] (defScope s__law_name) := ⟨rfl, rfl, rfl, by decide +kernel, rfl, by decide +kernel, by decide +kernel⟩
abbrev s__law_names : Stmt := top 49
theorem sc__law_names : FnScope ["tray", "many", "used", "found", "k"] ["tray", "many", "used"] (defScope s__law_names) := ⟨rfl, rfl, rfl, by decide +kernel, rfl, by decide +kernel, by decide +kernel⟩
abbrev s__law_flat_kind : Stmt := top 50
theorem sc__law_flat_kind : FnScope ["tray", "names", "deep", "way"] ["tray", "names", "deep"] (defScope s__law_flat_kind) := ⟨rfl, rfl, rfl, by decide +kernel, rfl, by decide +kernel, by decide +kernel⟩
abbrev s__law_kind : Stmt := top 51
theorem sc__law_kind : FnScope ["tray", "names", "deep", "way", "many", "called", "k"] ["tray", "names", "deep"] (defScope s__law_kind) := ⟨rfl, rfl, rfl, by decide +kernel, rfl, by decide +kernel, by decide +kernel⟩
abbrev s__law_lesser : Stmt := top 52
theorem sc__law_lesser : FnScope ["tray", "kind", "under", "some", "one", "other"] ["tray", "kind", "under"] (defScope s__law_lesser) := ⟨rfl, rfl, rfl, by decide +kernel, rfl, by decide +kernel, by decide +kernel⟩
abbrev s__law_record : Stmt := top 53
theorem sc__law_record : FnScope ["tray", "names", "done", "under", "above", "fields", "field", "name", "declaration", "takes", "own", "more", "clash", "row"] ["tray", "names", "done", "under"] (defScope s__law_record) := ⟨rfl, rfl, rfl, by decide +kernel, rfl, by decide +kernel, by decide +kernel⟩
abbrev s__law_declaration : Stmt := top 54
theorem sc__law_declaration : FnScope ["tray", "names", "done", "under", "way", "above", "cases", "case", "bare", "name", "declaration"] ["tray", "names", "done", "under"] (defScope s__law_declaration) := ⟨rfl, rfl, rfl, by decide +kernel, rfl, by decide +kernel, by decide +kernel⟩
abbrev s__law_kinds : Stmt := top 55
theorem sc__law_kinds : FnScope ["tray", "most", "names", "done", "under", "name", "found", "one", "declaration", "above", "lower", "other"] ["tray", "most"] (defScope s__law_kinds) := ⟨rfl, rfl, rfl, by decide +kernel, rfl, by decide +kernel, by decide +kernel⟩
abbrev s__law_family : Stmt := top 57
theorem sc__law_family : FnScope ["tray", "names", "under", "found", "k", "one", "name", "other"] ["tray", "names", "under"] (defScope s__law_family) := ⟨rfl, rfl, rfl, by decide +kernel, rfl, by decide +kernel, by decide +kernel⟩
abbrev s__law_pairs : Stmt := top 58
theorem sc__law_pairs : FnScope ["kinds", "found", "turn", "name", "declaration", "above", "more", "one", "lower", "other"] ["kinds"] (defScope s__law_pairs) := ⟨rfl, rfl, rfl, by decide +kernel, rfl, by decide +kernel, by decide +kernel⟩
abbrev s__law_made_of : Stmt := top 59
theorem sc__law_made_of : FnScope ["own", "one", "other", "due"] ["own", "one", "other"] (defScope s__law_made_of) := ⟨rfl, rfl, rfl, by decide +kernel, rfl, by decide +kernel, by decide +kernel⟩
abbrev s_law : Stmt := top 60
theorem sc_law : FnScope ["script", "tray", "k", "kinds", "own", "some", "one", "other", "both", "third", "name", "declaration"] ["script"] (defScope s_law) := ⟨rfl, rfl, rfl, by decide +kernel, rfl, by decide +kernel, by decide +kernel⟩
abbrev s_Edition___init__ : Stmt := (inClass (top 43)).getD 0 (.Pass ⟨0, 0, 0, 0⟩)
theorem sc_Edition___init__ : FnScope ["self", "kinds", "doors", "number", "name", "declaration", "door"] ["self", "kinds", "doors", "number"] (defScope s_Edition___init__) := ⟨rfl, rfl, rfl, by decide +kernel, rfl, by decide +kernel, by decide +kernel⟩
abbrev s_Edition_kind_fits : Stmt := (inClass (top 43)).getD 5 (.Pass ⟨0, 0, 0, 0⟩)
theorem sc_Edition_kind_fits : FnScope ["self", "given", "wanted"] ["self", "given", "wanted"] (defScope s_Edition_kind_fits) := ⟨rfl, rfl, rfl, by decide +kernel, rfl, by decide +kernel, by decide +kernel⟩
structure Bn (mg : Str → Option Value) : Prop where
  b_abs : mg "abs" = none
  b_all : mg "all" = none
  b_any : mg "any" = none
  b_isinstance : mg "isinstance" = none
  b_len : mg "len" = none
  b_list : mg "list" = none
  b_max : mg "max" = none
  b_range : mg "range" = none
  b_set : mg "set" = none
  b_sorted : mg "sorted" = none
  b_tuple : mg "tuple" = none
  b_zip : mg "zip" = none
end My
namespace My
open PySem L2
/-! texts of small letters -/
def LtA (z : Str) : Prop := ∀ c ∈ z.cps.toList, 97 ≤ c ∧ c ≤ 122
def LtS (z : Str) : Prop := z.length ≤ 8 ∧ LtA z
/-- a name -/
def Nm (z : Str) : Prop := LtS z ∧ z ≠ "" ∧ z ≠ "num" ∧ z ≠ "text"
theorem LtA.app {x y : Str} (a : LtA x) (b : LtA y) : LtA (x ++ y) := fun c h => by
  have h : c ∈ (x.cps ++ y.cps).toList := h
  rw [Array.toList_append] at h
  rcases List.mem_append.mp h with h | h
  · exact a c h
  · exact b c h
theorem LtA.cut {z : Str} (a : LtA z) (lo hi : Option Int) : LtA (cutS z lo hi) := fun c h => by
  have h : c ∈ (z.cps.toList.drop (HT.sIx z.length 0 lo)).take (HT.sIx z.length z.length hi - HT.sIx z.length 0 lo) := by
    have e : (cutS z lo hi).cps.toList = (z.cps.toList.drop (HT.sIx z.length 0 lo)).take (HT.sIx z.length z.length hi - HT.sIx z.length 0 lo) := by
      unfold cutS
      simp
    rw [e] at h
    exact h
  exact a c (List.mem_of_mem_drop (List.mem_of_mem_take h))
theorem LtA.one {c : Nat} (h0 : 97 ≤ c) (h1 : c ≤ 122) : LtA ⟨#[c]⟩ := fun x h => by
  have : x = c := by simpa using h
  omega
theorem LtA.nil : LtA "" := fun c h => by
  have h : c ∈ ([] : List Nat) := h
  cases h
theorem len_app (x y : Str) : (x ++ y).length = x.length + y.length := by
  show (x.cps ++ y.cps).size = _
  rw [Array.size_append]
  rfl
theorem cut8 (z : Str) : (cutS z none (some 8)).length ≤ 8 := by
  have e : (cutS z none (some 8)).length = ((z.cps.toList.drop (HT.sIx z.length 0 none)).take (HT.sIx z.length z.length (some ((8 : Nat) : Int)) - HT.sIx z.length 0 none)).length := by
    unfold cutS
    show (List.toArray _).size = _
    rw [List.size_toArray]
    rfl
  rw [e, List.length_take, HT.sIx_nat, HT.sIx_none]
  omega
theorem join_lt : ∀ ys : List Str, (∀ y ∈ ys, LtA y) → LtA (Str.join "" ys)
  | [], _ => LtA.nil
  | [x], h => h x (by simp)
  | x :: y :: r, h => ((h x (by simp)).app LtA.nil).app (join_lt (y :: r) fun z hz => h z (by simp [hz]))
theorem join_len : ∀ ys : List Str, (Str.join "" ys).length = (ys.map (·.length)).sum
  | [] => rfl
  | [x] => by simp [Str.join]
  | x :: y :: r => by
    have ih := join_len (y :: r)
    show ((x ++ "") ++ Str.join "" (y :: r)).length = _
    rw [len_app, len_app, ih, List.map_cons, List.sum_cons]
    rfl
abbrev abc : Str := "abcdefghijklmnopqrstuvwxyz"
theorem abc_list : abc.cps.toList = (List.range 26).map (fun k => 97 + k) := by decide +kernel
theorem abc_at {r : Int} (h0 : 0 ≤ r) (h1 : r < 26) : atI abc.cps.toList r = some (97 + r.toNat) := by
  have e : r = ((r.toNat : Nat) : Int) := by omega
  rw [abc_list]
  have h : ((List.range 26).map (fun k => 97 + k))[r.toNat]? = some (97 + r.toNat) := by
    rw [List.getElem?_map, List.getElem?_range (by omega)]
    rfl
  rw [e]
  exact atI_nat h
theorem abc_len : abc.length ≤ sizeLine := by decide
/-- some = [..]: texts made by a turn's number -/
def Pf (H0 : Hp) (D : Addr) (f : Nat → Str) (i : Nat) (H : Hp) : Prop := Same H0 H ∧ H D = some (.lst (((List.range i).map f).map V.str))
theorem Pf.next {H0 H : Hp} {D : Addr} {f : Nat → Str} {i : Nat} (p : Pf H0 D f i H) (n : H0 D = none) : Pf H0 D f (i + 1) (upd H D (.lst ((((List.range i).map f).map V.str) ++ [.str (f i)]))) := by
  refine ⟨Same.atNew p.1 n, ?_⟩
  rw [upd_same, List.range_succ, List.map_append, List.map_append]
  rfl
def one1 (k : Nat) : Str := ⟨#[97 + k]⟩
theorem one1_inj {a b : Nat} (h : one1 a = one1 b) : a = b := by
  have e : #[97 + a] = #[97 + b] := congrArg Str.cps h
  simp at e
  exact e
/-- a list without what stands twice, all in another one, is no longer -/
theorem nodup_len {α : Type} [DecidableEq α] : ∀ {l m : List α}, l.Nodup → (∀ x ∈ l, x ∈ m) → l.length ≤ m.length
  | [], _, _, _ => Nat.zero_le _
  | x :: r, m, h, s => by
    have hx := s x (by simp)
    have hr := (List.nodup_cons.mp h)
    have ih := nodup_len (l := r) (m := m.erase x) hr.2 fun y hy => by
      have hne : y ≠ x := fun e => hr.1 (e ▸ hy)
      exact (List.mem_erase_of_ne hne).mpr (s y (by simp [hy]))
    rw [List.length_erase_of_mem hx] at ih
    have := List.length_pos_of_mem hx
    rw [List.length_cons]
    omega
abbrev taken : List Str := ["", "num", "text"]
def keepN (us : List Str) (s : Str) : Bool := !inV (.str s) (us.map V.str ++ [.str "", .str "num", .str "text"])
theorem inV_str {s : Str} {us : List Str} : inV (.str s) (us.map V.str) = decide (s ∈ us) := by
  induction us with
  | nil => rfl
  | cons x r ih =>
    have e : inV (.str s) ((x :: r).map V.str) = (eqV (.str x) (.str s) || inV (.str s) (r.map V.str)) := rfl
    rw [e, ih]
    show ((x == s) || decide (s ∈ r)) = _
    by_cases h : x = s
    · subst h; simp
    · have h2 : ¬ s = x := fun z => h z.symm
      simp [h, h2]
theorem keepN_iff {us : List Str} {s : Str} : keepN us s = true ↔ s ∉ us ++ taken := by
  unfold keepN
  have e : us.map V.str ++ [.str "", .str "num", .str "text"] = (us ++ taken).map V.str := by rw [List.map_append]; rfl
  rw [e, inV_str]
  simp
theorem some_kept {us : List Str} (h : us.length ≤ 22) (ss : List Str) (hs : ∀ k, k < 26 → one1 k ∈ ss) : ∃ z r, ss.filter (keepN us) = z :: r := by
  cases e : ss.filter (keepN us) with
  | cons z r => exact ⟨z, r, rfl⟩
  | nil =>
    exfalso
    have all : ∀ x ∈ (List.range 26).map one1, x ∈ us ++ taken := fun x hx => by
      obtain ⟨k, hk, rfl⟩ := List.mem_map.mp hx
      have hm := hs k (List.mem_range.mp hk)
      have hn := List.filter_eq_nil_iff.mp e _ hm
      rw [keepN_iff] at hn
      exact Classical.byContradiction hn
    have nd : ((List.range 26).map one1).Nodup := by
      rw [List.nodup_iff_pairwise_ne, List.pairwise_map]
      exact (List.nodup_range (n := 26)).imp fun h z => h (one1_inj z)
    have := nodup_len nd all
    rw [List.length_map, List.length_range, List.length_append] at this
    have e3 : taken.length = 3 := rfl
    omega
end My
namespace My
open PySem L2
/-! texts: helpers -/
theorem sum_ones : ∀ {ys : List Str}, (∀ y ∈ ys, LtA y ∧ y.length = 1) → (ys.map (·.length)).sum = ys.length
  | [], _ => rfl
  | x :: r, h => by
    rw [List.map_cons, List.sum_cons, sum_ones (ys := r) fun y hy => h y (by simp [hy]), (h x (by simp)).2, List.length_cons]
    omega
theorem dp_strs {K : PySem.W.Frag} {H : Hp} (us : List Str) : DpAll K H (us.map V.str) (us.map PyData.str) := by
  induction us with
  | nil => exact .nil
  | cons x r ih => exact .cons (.str x) ih
theorem eqv_nils (us : List Str) : PyData.eqv (.list (us.map PyData.str)) (.list []) = us.isEmpty := by
  cases us with
  | nil => simp [PyData.eqv, PyData.eqvAll]
  | cons x r => simp [PyData.eqv, PyData.eqvAll]
theorem strOk_lt {x : Str} (h : LtA x) : PyData.strOk x = true := by
  unfold PyData.strOk
  rw [← Array.all_toList, List.all_eq_true]
  intro c hc
  have := h c hc
  exact decide_eq_true (by omega)
theorem shaped_strs {us : List Str} (h : ∀ x ∈ us, LtA x) : SeqAt.shaped (.list (us.map PyData.str)) = true := by
  have a : PyData.canLayAll0 (us.map PyData.str) = true := by
    induction us with
    | nil => rfl
    | cons x r ih =>
      rw [List.map_cons, PyData.canLayAll0, ih fun y hy => h y (by simp [hy]), PyData.canLay0, strOk_lt (h x (by simp))]
      rfl
  have b : PyData.depthAll (us.map PyData.str) = 0 := by
    clear a
    induction us with
    | nil => rfl
    | cons x r ih =>
      rw [List.map_cons, PyData.depthAll, ih fun y hy => h y (by simp [hy])]
      rfl
  unfold SeqAt.shaped
  rw [PyData.canLay0, a, PyData.depth, b]
  rfl
theorem filt1 {α : Type} {p : α → Bool} {x : α} (h : p x = true) : [x].filter p = [x] := by simp [h]
theorem filt0 {α : Type} {p : α → Bool} {x : α} (h : p x = false) : [x].filter p = [] := by simp [h]
theorem str_at {us : List Str} {r : Int} (h0 : 0 ≤ r) (h1 : r < (us.length : Int)) : ∃ x : Str, atI (us.map V.str) r = some (.str x) ∧ x ∈ us := by
  have e : r = ((r.toNat : Nat) : Int) := by omega
  have hl : r.toNat < us.length := by omega
  refine ⟨us[r.toNat], ?_, List.getElem_mem hl⟩
  exact at_of e (by rw [List.getElem?_map, List.getElem?_eq_getElem hl]; rfl)
end My
namespace My
open PySem L2
/-! kinds -/
inductive Kd where
  | num | text
  | of (x : Str)
  | row (k : Kd)
  | calls (ps : List Kd) (r : Kd)
  | answers (n : Int) (k : Kd)
mutual
def Kd.depth : Kd → Nat
  | .num => 1
  | .text => 1
  | .of _ => 1
  | .row k => Kd.depth k + 1
  | .calls ps r => max (Kd.depths ps) (Kd.depth r) + 1
  | .answers _ k => Kd.depth k + 1
def Kd.depths : List Kd → Nat
  | [] => 0
  | k :: r => max (Kd.depth k) (Kd.depths r)
end
mutual
def Kd.size : Kd → Nat
  | .num => 1
  | .text => 1
  | .of _ => 1
  | .row k => Kd.size k + 1
  | .calls ps r => Kd.sizes ps + Kd.size r + 1
  | .answers _ k => Kd.size k + 1
def Kd.sizes : List Kd → Nat
  | [] => 0
  | k :: r => Kd.size k + Kd.sizes r
end
mutual
/-- v stands for the kind k -/
inductive KdAt (H : Hp) : V → Kd → Prop
  | num {a : Addr} (h : H a = some (.tup [.str "num"])) : KdAt H (.ref a) .num
  | text {a : Addr} (h : H a = some (.tup [.str "text"])) : KdAt H (.ref a) .text
  | of {a : Addr} {x : Str} (h : H a = some (.tup [.str "of", .str x])) : KdAt H (.ref a) (.of x)
  | row {a : Addr} {v : V} {k : Kd} (h : H a = some (.tup [.str "row", v])) (hk : KdAt H v k) : KdAt H (.ref a) (.row k)
  | calls {a b : Addr} {vs : List V} {v : V} {ps : List Kd} {r : Kd} (h : H a = some (.tup [.str "calls", .ref b, v])) (hb : H b = some (.tup vs)) (hp : KdsAt H vs ps) (hr : KdAt H v r) : KdAt H (.ref a) (.calls ps r)
  | answers {a : Addr} {n : Int} {v : V} {k : Kd} (h : H a = some (.tup [.str "answers", .int n, v])) (hk : KdAt H v k) : KdAt H (.ref a) (.answers n k)
inductive KdsAt (H : Hp) : List V → List Kd → Prop
  | nil : KdsAt H [] []
  | cons {v : V} {vs : List V} {k : Kd} {ks : List Kd} (h : KdAt H v k) (t : KdsAt H vs ks) : KdsAt H (v :: vs) (k :: ks)
end
mutual
theorem KdAt.mono {H H' : Hp} (t : Tups H H') : ∀ {k : Kd} {v : V}, KdAt H v k → KdAt H' v k
  | .num, _, .num h => .num (t _ _ h)
  | .text, _, .text h => .text (t _ _ h)
  | .of _, _, .of h => .of (t _ _ h)
  | .row _, _, .row h hk => .row (t _ _ h) (KdAt.mono t hk)
  | .calls _ _, _, .calls h hb hp hr => .calls (t _ _ h) (t _ _ hb) (KdsAt.mono t hp) (KdAt.mono t hr)
  | .answers _ _, _, .answers h hk => .answers (t _ _ h) (KdAt.mono t hk)
theorem KdsAt.mono {H H' : Hp} (t : Tups H H') : ∀ {ks : List Kd} {vs : List V}, KdsAt H vs ks → KdsAt H' vs ks
  | [], _, .nil => .nil
  | _ :: _, _, .cons h r => .cons (KdAt.mono t h) (KdsAt.mono t r)
end
theorem KdsAt.len {H : Hp} : ∀ {ks : List Kd} {vs : List V}, KdsAt H vs ks → vs.length = ks.length
  | [], _, .nil => rfl
  | _ :: _, _, .cons _ r => by rw [List.length_cons, KdsAt.len r, List.length_cons]
theorem KdsAt.app {H : Hp} : ∀ {ks ls : List Kd} {vs ws : List V}, KdsAt H vs ks → KdsAt H ws ls → KdsAt H (vs ++ ws) (ks ++ ls)
  | [], _, _, _, .nil, h => h
  | _ :: _, _, _, _, .cons a r, h => .cons a (KdsAt.app r h)
theorem KdsAt.get {H : Hp} : ∀ {ks : List Kd} {vs : List V}, KdsAt H vs ks → ∀ (i : Nat) (v : V), vs[i]? = some v → ∃ k, ks[i]? = some k ∧ KdAt H v k
  | [], _, .nil, i, v, h => by simp at h
  | _ :: _, _, .cons a r, 0, v, h => by
    have e := Option.some.inj h
    subst e
    exact ⟨_, rfl, a⟩
  | _ :: _, _, .cons a r, i + 1, v, h => KdsAt.get r i v h
theorem Kd.depths_app : ∀ (a b : List Kd), Kd.depths (a ++ b) = max (Kd.depths a) (Kd.depths b)
  | [], b => by simp [Kd.depths]
  | k :: r, b => by
    rw [List.cons_append, Kd.depths, Kd.depths, Kd.depths_app r b]
    omega
theorem Kd.sizes_app : ∀ (a b : List Kd), Kd.sizes (a ++ b) = Kd.sizes a + Kd.sizes b
  | [], b => by simp [Kd.sizes]
  | k :: r, b => by
    rw [List.cons_append, Kd.sizes, Kd.sizes, Kd.sizes_app r b]
    omega
/-- what stands within, by one step -/
def Kd.inner : Kd → List Kd
  | .row k => [k]
  | .calls ps r => ps ++ [r]
  | .answers _ k => [k]
  | _ => []
theorem Kd.depth_inner (k : Kd) : k.depth = Kd.depths k.inner + 1 := by
  cases k with
  | num => rfl
  | text => rfl
  | of x => rfl
  | row k => simp [Kd.depth, Kd.inner, Kd.depths]
  | calls ps r => simp [Kd.depth, Kd.inner, Kd.depths, Kd.depths_app]
  | answers n k => simp [Kd.depth, Kd.inner, Kd.depths]
theorem Kd.size_inner (k : Kd) : k.size = Kd.sizes k.inner + 1 := by
  cases k with
  | num => rfl
  | text => rfl
  | of x => rfl
  | row k => simp [Kd.size, Kd.inner, Kd.sizes]
  | calls ps r => simp [Kd.size, Kd.inner, Kd.sizes, Kd.sizes_app]
  | answers n k => simp [Kd.size, Kd.inner, Kd.sizes]
theorem Kd.len_sizes : ∀ (ks : List Kd), ks.length ≤ Kd.sizes ks
  | [] => Nat.le_refl _
  | k :: r => by
    have := Kd.len_sizes r
    have h : 1 ≤ k.size := by rw [Kd.size_inner]; omega
    rw [List.length_cons, Kd.sizes]
    omega
/-- no callback in it -/
def Kd.flat : Kd → Bool
  | .num => true
  | .text => true
  | .of _ => true
  | .row k => k.flat
  | _ => false
/-- a kind as the law's writings have it: no answer literals, no calls in calls, three called at most -/
def Kd.plain : Kd → Bool
  | .num => true
  | .text => true
  | .of _ => true
  | .row k => k.plain
  | .calls ps r => ps.all Kd.flat && r.flat && decide (ps.length ≤ 3)
  | .answers _ _ => false
mutual
def Kd.names : Kd → List Str
  | .num => []
  | .text => []
  | .of x => [x]
  | .row k => Kd.names k
  | .calls ps r => Kd.namesL ps ++ Kd.names r
  | .answers _ k => Kd.names k
def Kd.namesL : List Kd → List Str
  | [] => []
  | k :: r => Kd.names k ++ Kd.namesL r
end
end My
namespace My
open PySem L2
theorem Kd.plain_of_flat : ∀ {k : Kd}, k.flat = true → k.plain = true
  | .num, _ => rfl
  | .text, _ => rfl
  | .of _, _ => rfl
  | .row k, h => Kd.plain_of_flat (k := k) h
theorem Kd.namesL_app : ∀ (a b : List Kd), Kd.namesL (a ++ b) = Kd.namesL a ++ Kd.namesL b
  | [], b => rfl
  | k :: r, b => by
    rw [List.cons_append, Kd.namesL, Kd.namesL, Kd.namesL_app r b, List.append_assoc]
theorem FnOk_any {P : Program} {w : World} {K : PySem.W.Frag} {mg : Str → Option Value} {base : Heap} {n : Nat} {f : Addr} {fd : FuncData} {ps : List Str} {sp : Nat → Sp} {E : Nat}
    (h : ∀ e, e ≤ E → FnOk P w K mg base CX0 n f fd ps (sp e)) : FnOk P w K mg base CX0 n f fd ps (fun vs H Q X => ∃ e, e ≤ E ∧ sp e vs H Q X) :=
  ⟨fun vs H Q X ⟨e, l, z⟩ => (h e l).len vs H Q X z, fun A outer s H args us vs Q X a b c d ⟨e, l, z⟩ => (h e l).run A outer s H args us vs Q X a b c d z⟩
mutual
def Kd.data : Kd → PyData
  | .num => .tuple [.str "num"]
  | .text => .tuple [.str "text"]
  | .of x => .tuple [.str "of", .str x]
  | .row k => .tuple [.str "row", Kd.data k]
  | .calls ps r => .tuple [.str "calls", .tuple (Kd.datas ps), Kd.data r]
  | .answers n k => .tuple [.str "answers", .int n, Kd.data k]
def Kd.datas : List Kd → List PyData
  | [] => []
  | k :: r => Kd.data k :: Kd.datas r
end
mutual
theorem KdAt.dp {K : PySem.W.Frag} {H : Hp} : ∀ {k : Kd} {v : V}, KdAt H v k → Dp K H v k.data
  | .num, _, .num h => .tup (SqT.of h) (.cons (.str _) .nil)
  | .text, _, .text h => .tup (SqT.of h) (.cons (.str _) .nil)
  | .of _, _, .of h => .tup (SqT.of h) (.cons (.str _) (.cons (.str _) .nil))
  | .row _, _, .row h hk => .tup (SqT.of h) (.cons (.str _) (.cons (KdAt.dp hk) .nil))
  | .calls _ _, _, .calls h hb hp hr => .tup (SqT.of h) (.cons (.str _) (.cons (.tup (SqT.of hb) (KdsAt.dp hp)) (.cons (KdAt.dp hr) .nil)))
  | .answers _ _, _, .answers h hk => .tup (SqT.of h) (.cons (.str _) (.cons (.int _) (.cons (KdAt.dp hk) .nil)))
theorem KdsAt.dp {K : PySem.W.Frag} {H : Hp} : ∀ {ks : List Kd} {vs : List V}, KdsAt H vs ks → DpAll K H vs (Kd.datas ks)
  | [], _, .nil => .nil
  | _ :: _, _, .cons h r => .cons (KdAt.dp h) (KdsAt.dp r)
end
mutual
theorem Kd.data_depth : ∀ (k : Kd), PyData.depth k.data ≤ 2 * k.depth
  | .num => by simp [Kd.data, Kd.depth, PyData.depth, PyData.depthAll]
  | .text => by simp [Kd.data, Kd.depth, PyData.depth, PyData.depthAll]
  | .of x => by simp [Kd.data, Kd.depth, PyData.depth, PyData.depthAll]
  | .row k => by
    have := Kd.data_depth k
    simp [Kd.data, Kd.depth, PyData.depth, PyData.depthAll]
    omega
  | .calls ps r => by
    have a := Kd.datas_depth ps
    have b := Kd.data_depth r
    simp [Kd.data, Kd.depth, PyData.depth, PyData.depthAll]
    omega
  | .answers n k => by
    have := Kd.data_depth k
    simp [Kd.data, Kd.depth, PyData.depth, PyData.depthAll]
    omega
theorem Kd.datas_depth : ∀ (ks : List Kd), PyData.depthAll (Kd.datas ks) ≤ 2 * Kd.depths ks
  | [] => by simp [Kd.datas, PyData.depthAll, Kd.depths]
  | k :: r => by
    have a := Kd.data_depth k
    have b := Kd.datas_depth r
    simp [Kd.datas, PyData.depthAll, Kd.depths]
    omega
end
mutual
theorem Kd.data_lay : ∀ (k : Kd), (∀ x ∈ k.names, LtA x) → PyData.canLay0 k.data = true
  | .num, _ => by decide +kernel
  | .text, _ => by decide +kernel
  | .of x, h => by
    have := strOk_lt (h x (by simp [Kd.names]))
    simp [Kd.data, PyData.canLay0, PyData.canLayAll0, this]
    decide +kernel
  | .row k, h => by
    have := Kd.data_lay k h
    simp [Kd.data, PyData.canLay0, PyData.canLayAll0, this]
    decide +kernel
  | .calls ps r, h => by
    have a := Kd.datas_lay ps fun x hx => h x (List.mem_append_left _ hx)
    have b := Kd.data_lay r fun x hx => h x (List.mem_append_right _ hx)
    simp [Kd.data, PyData.canLay0, PyData.canLayAll0, a, b]
    decide +kernel
  | .answers n k, h => by
    have := Kd.data_lay k h
    simp [Kd.data, PyData.canLay0, PyData.canLayAll0, this]
    decide +kernel
theorem Kd.datas_lay : ∀ (ks : List Kd), (∀ x ∈ Kd.namesL ks, LtA x) → PyData.canLayAll0 (Kd.datas ks) = true
  | [], _ => rfl
  | k :: r, h => by
    have a := Kd.data_lay k fun x hx => h x (List.mem_append_left _ hx)
    have b := Kd.datas_lay r fun x hx => h x (List.mem_append_right _ hx)
    simp [Kd.datas, PyData.canLayAll0, a, b]
end
/-- kinds_directly_in -/
def spInner : Sp := fun vs H Q _ => ∃ (v : V) (k : Kd), vs = [v] ∧ KdAt H v k ∧ k.size ≤ 100000 ∧
  ∀ (r : Addr) (ws : List V) (H' : Hp), H r = none → H' r = some (.lst ws) → KdsAt H' ws k.inner → Same H H' → Q (.ref r) H'
/-- depth -/
def spDepth : Sp := fun vs H Q _ => ∃ (v : V) (k : Kd), vs = [v] ∧ KdAt H v k ∧ k.size ≤ 100000 ∧ ∀ H', Same H H' → Q (.int (k.depth : Int)) H'
def Kd.inners : List Kd → List Kd
  | [] => []
  | k :: r => k.inner ++ Kd.inners r
theorem Kd.inners_app : ∀ (a b : List Kd), Kd.inners (a ++ b) = Kd.inners a ++ Kd.inners b
  | [], b => rfl
  | k :: r, b => by
    rw [List.cons_append, Kd.inners, Kd.inners, Kd.inners_app r b, List.append_assoc]
theorem Kd.depths_inners : ∀ (ks : List Kd), ks ≠ [] → Kd.depths ks = Kd.depths (Kd.inners ks) + 1
  | [k], _ => by
    rw [Kd.depths, Kd.depths, Kd.inners, Kd.inners, List.append_nil, Kd.depth_inner]
    omega
  | k :: k2 :: r, _ => by
    have ih := Kd.depths_inners (k2 :: r) (by simp)
    rw [Kd.depths, Kd.inners, Kd.depths_app, ih, Kd.depth_inner]
    omega
theorem Kd.sizes_inners : ∀ (ks : List Kd), Kd.sizes (Kd.inners ks) + ks.length = Kd.sizes ks
  | [] => rfl
  | k :: r => by
    have ih := Kd.sizes_inners r
    rw [Kd.inners, Kd.sizes_app, List.length_cons, Kd.sizes, Kd.size_inner k]
    omega
theorem Kd.sizes_mem {k : Kd} : ∀ {ks : List Kd}, k ∈ ks → k.size ≤ Kd.sizes ks
  | x :: r, h => by
    rw [Kd.sizes]
    rcases List.mem_cons.mp h with rfl | h
    · omega
    · have := Kd.sizes_mem h
      omega
theorem Kd.sizes_take : ∀ (ks : List Kd) (i : Nat), Kd.sizes (ks.take i) ≤ Kd.sizes ks
  | [], i => by simp
  | x :: r, 0 => by simp [Kd.sizes]
  | x :: r, i + 1 => by
    have := Kd.sizes_take r i
    rw [List.take_succ_cons, Kd.sizes, Kd.sizes]
    omega
def Wdep (v : V) (k : Kd) (H0 : Hp) (m : Nat) (σ : St) (H : Hp) : Prop :=
  ∃ (l : Addr) (ws : List V) (ks : List Kd) (lv : Nat) (u3 u4 : Option V), σ = [some v, some (.int (lv : Int)), some (.ref l), u3, u4] ∧ Same H0 H ∧ H l = some (.lst ws) ∧ KdsAt H ws ks ∧ lv + Kd.depths ks = k.depth ∧ Kd.sizes ks ≤ 100000 ∧ m = Kd.depths ks
def Pdep (H0 : Hp) (D : Addr) (ks : List Kd) (i : Nat) (H : Hp) : Prop := Same H0 H ∧ ∃ acc, H D = some (.lst acc) ∧ KdsAt H acc (Kd.inners (ks.take i))
def Pdep2 (H1 H3 : Hp) (r D : Addr) (ys acc : List V) (j : Nat) (H : Hp) : Prop := Same H1 H ∧ Tups H3 H ∧ H r = some (.lst ys) ∧ H D = some (.lst (acc ++ ys.take j))
section
variable {P : Program} {w : World} {K : PySem.W.Frag} {mg : Str → Option Value} {base : Heap} {f : Addr} {fd : FuncData}
theorem ok_inner (F : Fun K "kinds_directly_in" "kinds_directly_in" s_kinds_directly_in f fd) : FnOk P w K mg base CX0 1 f fd ["kind"] spInner := by
  refine F.ok sc_kinds_directly_in (fun vs H Q E h => ?_) (fun cdv A outer s H vs Q E hr h => ?_)
  · obtain ⟨v, k, rfl, _⟩ := h
    rfl
  obtain ⟨v, k, rfl, hk, hs, q⟩ := h
  refine ⟨_, (pss_cons (ps_if (pt_cmpR op_eq (pe_ix (ixT K rfl) (pv 0) pe_int (fun _ _ => rfl)) pe_str (nomark _)) (pss_one (ps_ret (pe_lst (pa_cons (pe_ix (ixT K rfl) (pv 0) pe_int (fun _ _ => rfl)) pa_nil)))) pss_nil)
    (pss_cons (ps_if (pt_cmpR op_eq (pe_ix (ixT K rfl) (pv 0) pe_int (fun _ _ => rfl)) pe_str (nomark _)) (pss_one (ps_ret (pe_lst (star K rfl (pe_ix (ixT K rfl) (pv 0) pe_int (fun _ _ => rfl)) (pa_cons (pe_ix (ixT K rfl) (pv 0) pe_int (fun _ _ => rfl)) pa_nil))))) pss_nil)
    (pss_cons (ps_if (pt_cmpR op_eq (pe_ix (ixT K rfl) (pv 0) pe_int (fun _ _ => rfl)) pe_str (nomark _)) (pss_one (ps_ret (pe_lst (pa_cons (pe_ix (ixT K rfl) (pv 0) pe_int (fun _ _ => rfl)) pa_nil)))) pss_nil)
    (pss_one (ps_ret (pe_lst pa_nil)))))), ?_⟩
  cases hk with
  | num ha =>
    refine ⟨_, rfl, _, _, _, _, rfl, rfl, SqT.of ha, at_of rfl rfl, rfl, _, rfl, ifF (by decide) ?_⟩
    refine ⟨_, rfl, _, _, _, _, rfl, rfl, SqT.of ha, at_of rfl rfl, rfl, _, rfl, ifF (by decide) ?_⟩
    refine ⟨_, rfl, _, _, _, _, rfl, rfl, SqT.of ha, at_of rfl rfl, rfl, _, rfl, ifF (by decide) ?_⟩
    exact ⟨Nat.zero_le _, fun r nr => q r _ _ nr upd_same .nil (same_new nr _)⟩
  | text ha =>
    refine ⟨_, rfl, _, _, _, _, rfl, rfl, SqT.of ha, at_of rfl rfl, rfl, _, rfl, ifF (by decide) ?_⟩
    refine ⟨_, rfl, _, _, _, _, rfl, rfl, SqT.of ha, at_of rfl rfl, rfl, _, rfl, ifF (by decide) ?_⟩
    refine ⟨_, rfl, _, _, _, _, rfl, rfl, SqT.of ha, at_of rfl rfl, rfl, _, rfl, ifF (by decide) ?_⟩
    exact ⟨Nat.zero_le _, fun r nr => q r _ _ nr upd_same .nil (same_new nr _)⟩
  | of ha =>
    refine ⟨_, rfl, _, _, _, _, rfl, rfl, SqT.of ha, at_of rfl rfl, rfl, _, rfl, ifF (by decide) ?_⟩
    refine ⟨_, rfl, _, _, _, _, rfl, rfl, SqT.of ha, at_of rfl rfl, rfl, _, rfl, ifF (by decide) ?_⟩
    refine ⟨_, rfl, _, _, _, _, rfl, rfl, SqT.of ha, at_of rfl rfl, rfl, _, rfl, ifF (by decide) ?_⟩
    exact ⟨Nat.zero_le _, fun r nr => q r _ _ nr upd_same .nil (same_new nr _)⟩
  | row ha hk =>
    refine ⟨_, rfl, _, _, _, _, rfl, rfl, SqT.of ha, at_of rfl rfl, rfl, _, rfl, ifT (by decide) ?_⟩
    refine ⟨_, rfl, _, _, _, _, rfl, rfl, SqT.of ha, at_of rfl rfl, (by show 1 ≤ sizeLine; decide), fun r nr => ?_⟩
    exact q r _ _ nr upd_same (.cons (hk.mono (Tups.of_same (same_new nr _))) .nil) (same_new nr _)
  | @calls a b ws v ps r ha hb hp hr2 =>
    refine ⟨_, rfl, _, _, _, _, rfl, rfl, SqT.of ha, at_of rfl rfl, rfl, _, rfl, ifF (by decide) ?_⟩
    refine ⟨_, rfl, _, _, _, _, rfl, rfl, SqT.of ha, at_of rfl rfl, rfl, _, rfl, ifT (by decide) ?_⟩
    refine ⟨_, rfl, _, _, _, _, rfl, rfl, SqT.of ha, at_of rfl rfl, b, ws, rfl, .inl (SqT.of hb), _, rfl, _, _, _, _, rfl, rfl, SqT.of ha, at_of rfl rfl, ?_, fun p np => ?_⟩
    · have h1 := hp.len
      have h2 := Kd.len_sizes ps
      have h3 : (Kd.calls ps r).size = Kd.sizes ps + r.size + 1 := rfl
      rw [List.length_append, h1]
      exact Nat.le_of_lt (line5 (show ps.length + 1 ≤ 100000 by omega))
    · have T := Tups.of_same (same_new np (.lst (ws ++ [v])))
      exact q p _ _ np upd_same ((hp.mono T).app (.cons (hr2.mono T) .nil)) (same_new np _)
  | answers ha hk =>
    refine ⟨_, rfl, _, _, _, _, rfl, rfl, SqT.of ha, at_of rfl rfl, rfl, _, rfl, ifF (by decide) ?_⟩
    refine ⟨_, rfl, _, _, _, _, rfl, rfl, SqT.of ha, at_of rfl rfl, rfl, _, rfl, ifF (by decide) ?_⟩
    refine ⟨_, rfl, _, _, _, _, rfl, rfl, SqT.of ha, at_of rfl rfl, rfl, _, rfl, ifT (by decide) ?_⟩
    refine ⟨_, rfl, _, _, _, _, rfl, rfl, SqT.of ha, at_of rfl rfl, (by show 1 ≤ sizeLine; decide), fun r nr => ?_⟩
    exact q r _ _ nr upd_same (.cons (hk.mono (Tups.of_same (same_new nr _))) .nil) (same_new nr _)
theorem ok_depth (F : Fun K "depth" "depth" s_depth f fd) (c_kinds_directly_in : Cal P w K mg base "kinds_directly_in" 1 ["kind"] spInner) : FnOk P w K mg base CX0 2 f fd ["kind"] spDepth := by
  refine F.ok sc_depth (fun vs H Q E h => ?_) (fun cdv A outer s H vs Q E hr h => ?_)
  · obtain ⟨v, k, rfl, _⟩ := h
    rfl
  obtain ⟨v, k, rfl, hk, hs, q⟩ := h
  refine ⟨_, (pss_cons (ps_set (i := 1) sc_depth.nd rfl (Or.inl rfl) pe_int)
    (pss_cons (ps_set (i := 2) sc_depth.nd rfl (Or.inl rfl) (pe_lst (pa_cons (pv 0) pa_nil)))
    (pss_cons (ps_while PassesOwn.never (truth K rfl (pv 2)) (pss_cons (ps_aug (i := 1) sc_depth.nd rfl (Or.inl rfl) pe_int ip_add)
    (pss_one (ps_setLc2 (i := 2) (own := [("outer", 3), ("inner", 4)]) (g := (gName 3)) (g1 := (gName 4)) (vs1 := [4]) rfl sc_depth.nd rfl rfl (sw_true rfl rfl rfl (by decide +kernel)) (piL K rfl (pv 2)) (blkOk_by (N := ["kind", "levels", "level", "outer", "inner"]) (sc := defScope s_depth) (by decide +kernel)) (by decide) (fun _ _ _ _ _ => (pg_name (i := 3) sc_depth.nd rfl (Or.inl rfl) (hf := Or.inr rfl))) (fun _ _ _ _ _ => pts_nil) (fun _ _ _ _ _ => (piL K rfl (pc c_kinds_directly_in (hr.mono (by first | decide | omega)) (pa_cons (pv 3) pa_nil)))) (fun _ _ _ _ _ => (pg_name (i := 4) sc_depth.nd rfl (Or.inl rfl) (hf := Or.inr rfl))) (fun _ _ _ _ _ => pts_nil) (fun _ _ _ _ _ => (pv 4))))))
    (pss_one (ps_ret (pv 1)))))), ?_⟩
  refine ⟨_, rfl, (by show 1 ≤ sizeLine; decide), fun l0 n0 => ?_⟩
  refine ⟨Wdep v k H, ⟨k.depth, l0, [v], [k], 0, none, none, rfl, same_new n0 _, upd_same, .cons (hk.mono (Tups.of_same (same_new n0 _))) .nil, by simp [Kd.depths], by simp [Kd.sizes]; omega, by simp [Kd.depths]⟩, fun m σ H1 w1 => ?_⟩
  obtain ⟨l, ws, ks, lv, u3, u4, rfl, s1, hl, hks, hd, hz, rfl⟩ := w1
  refine ⟨_, rfl, _, .inl ⟨ws, SqL.of hl, rfl⟩, ?_⟩
  have hlen := hks.len
  by_cases hn : ws = []
  · subst hn
    refine iteF ⟨_, rfl, ?_⟩
    have e : ks = [] := List.eq_nil_of_length_eq_zero hlen.symm
    subst e
    have e2 : k.depth = lv := by simp [Kd.depths] at hd; omega
    rw [← e2]
    exact q _ s1
  · have hkn : ks ≠ [] := fun e => hn (by subst e; exact List.eq_nil_of_length_eq_zero hlen)
    refine ifT (by cases ws with | nil => exact absurd rfl hn | cons a b => rfl) ?_
    have hdi := Kd.depths_inners ks hkn
    have hsi := Kd.sizes_inners ks
    refine ⟨fun σ' H' => ∃ m', m' < Kd.depths ks ∧ Wdep v k H m' σ' H', fun _ _ h => h, ?_⟩
    refine ⟨_, rfl, _, _, rfl, rfl, _, rfl, l, rfl, ⟨_, SqL.of hl⟩, fun D nD => ?_⟩
    have nlD : l ≠ D := ne_of_none hl nD
    refine ⟨fun i m H' => m = ws.length - i ∧ i ≤ ws.length ∧ Pdep H1 D ks i H', ⟨ws.length, by simp, Nat.zero_le _, same_new nD _, [], upd_same, .nil⟩, ?_⟩
    rintro i m H2 ⟨rfl, hi, s2, acc, hacc, kacc⟩
    have hl2 : SqL K H2 l ws := SqL.of (s2 _ _ hl)
    by_cases hlt : i < ws.length
    · refine .inr ⟨⟨ws, ws[i], hl2, by simp [hlt]⟩, Pdep H1 D ks (i + 1), fun H' p' => ⟨ws.length - (i + 1), by omega, rfl, hlt, p'⟩, fun x H' y => ?_⟩
      obtain ⟨e, y⟩ := y
      subst e
      have hx := y ws hl2
      obtain ⟨kx, hkx, kdx⟩ := hks.get i x hx
      have hkm : kx ∈ ks := List.mem_of_getElem? hkx
      have hkz := Kd.sizes_mem hkm
      refine ⟨rfl, _, rfl, x, kx, rfl, kdx.mono (Tups.of_same s2), by omega, fun r ys H3 nr hr3 kys s3 => ?_⟩
      have accl := kacc.len
      have ysl := kys.len
      have bound : acc.length + ys.length ≤ 100000 := by
        have h1 : Kd.sizes (Kd.inners (ks.take (i + 1))) ≤ Kd.sizes ks := by
          have a := Kd.sizes_inners (ks.take (i + 1))
          have b := Kd.sizes_take ks (i + 1)
          omega
        rw [← take_next hkx, Kd.inners_app, Kd.sizes_app] at h1
        have h2 := Kd.len_sizes (Kd.inners (ks.take i))
        have h3 := Kd.len_sizes kx.inner
        have h4 : Kd.inners [kx] = kx.inner := by simp [Kd.inners]
        rw [h4] at h1
        omega
      have hacc3 := s3 _ _ hacc
      have nrD : r ≠ D := (ne_of_none hacc nr).symm
      refine ⟨r, rfl, ⟨_, SqL.of hr3⟩, fun j m' H' => m' = ys.length - j ∧ j ≤ ys.length ∧ Pdep2 H1 H3 r D ys acc j H', ⟨ys.length, by simp, Nat.zero_le _, s2.trans s3, Tups.refl _, hr3, by simpa using hacc3⟩, ?_⟩
      rintro j m' H4 ⟨rfl, hj, s4, t4, hr4, hD4⟩
      have hr4' : SqL K H4 r ys := SqL.of hr4
      by_cases hlt2 : j < ys.length
      · refine .inr ⟨⟨ys, ys[j], hr4', by simp [hlt2]⟩, Pdep2 H1 H3 r D ys acc (j + 1), fun H' p' => ⟨ys.length - (j + 1), by omega, rfl, hlt2, p'⟩, fun z H' y2 => ?_⟩
        obtain ⟨e, y2⟩ := y2
        subst e
        have hz2 := y2 ys hr4'
        refine ⟨rfl, _, rfl, _, hD4, ?_, Same.atNew s4 nD, t4.trans (Tups.upd hD4), by rw [upd_ne nrD]; exact hr4, ?_⟩
        · have := List.length_take_le' j ys
          rw [List.length_append]
          exact line5 (by omega)
        · rw [upd_same, List.append_assoc, take_next hz2]
      · have e : j = ys.length := by omega
        subst e
        rw [List.take_length] at hD4
        refine .inl ⟨⟨ys, hr4', Nat.le_refl _⟩, s4, acc ++ ys, hD4, ?_⟩
        rw [← take_next hkx, Kd.inners_app]
        have h4 : Kd.inners [kx] = kx.inner := by simp [Kd.inners]
        rw [h4]
        exact (kacc.mono ((Tups.of_same s3).trans t4)).app (kys.mono t4)
    · have e : i = ws.length := by omega
      subst e
      rw [hlen, List.take_length] at kacc
      exact .inl ⟨⟨ws, hl2, Nat.le_refl _⟩, _, by omega, D, acc, Kd.inners ks, lv + 1, _, _, rfl, s1.trans s2, hacc, kacc, by omega, by omega, rfl⟩
end
end My
namespace My
open PySem PySem.Spec PyProof.Rows L2
/-! len(set(xs)) of any texts (a few hundred) -/
def onceF (acc : List Str) (x : Str) : List Str := if x ∈ acc then acc else acc ++ [x]
/-- each once, as first met -/
def once (xs : List Str) : List Str := xs.foldl onceF []
theorem onceF_mem {acc : List Str} {x k : Str} : k ∈ onceF acc x ↔ k ∈ acc ∨ k = x := by
  unfold onceF
  by_cases h : x ∈ acc
  · rw [if_pos h]
    constructor
    · exact .inl
    · rintro (a | rfl)
      · exact a
      · exact h
  · rw [if_neg h, List.mem_append, List.mem_singleton]
theorem fold_mem (xs : List Str) (k : Str) : ∀ acc, k ∈ xs.foldl onceF acc ↔ k ∈ acc ∨ k ∈ xs := by
  induction xs with
  | nil => intro acc; simp
  | cons x r ih =>
    intro acc
    rw [List.foldl_cons, ih, onceF_mem, List.mem_cons, or_assoc]
theorem once_mem (xs : List Str) (k : Str) : k ∈ once xs ↔ k ∈ xs := by
  unfold once
  rw [fold_mem]
  simp
theorem fold_len (xs : List Str) : ∀ acc, (xs.foldl onceF acc).length ≤ acc.length + xs.length := by
  induction xs with
  | nil => intro acc; simp
  | cons x r ih =>
    intro acc
    have := ih (onceF acc x)
    have h : (onceF acc x).length ≤ acc.length + 1 := by unfold onceF; split <;> simp
    rw [List.foldl_cons, List.length_cons]
    omega
theorem once_len (xs : List Str) : (once xs).length ≤ xs.length := by
  have h := fold_len xs []
  rw [List.length_nil, Nat.zero_add] at h
  exact h
theorem fold_nodup (xs : List Str) : ∀ acc, acc.Nodup → (xs.foldl onceF acc).Nodup := by
  induction xs with
  | nil => intro acc h; exact h
  | cons x r ih =>
    intro acc h
    rw [List.foldl_cons]
    refine ih _ ?_
    unfold onceF
    split
    · exact h
    · rename_i hx
      rw [List.nodup_append]
      refine ⟨h, by simp, fun a ha b hb e => hx ?_⟩
      have : b = x := by simpa using hb
      rw [← this, ← e]
      exact ha
theorem fold_eq (xs : List Str) : ∀ acc, (acc ++ xs).Nodup → xs.foldl onceF acc = acc ++ xs := by
  induction xs with
  | nil => intro acc _; simp
  | cons x r ih =>
    intro acc h
    have hx : x ∉ acc := fun m => by
      rw [List.nodup_append] at h
      exact h.2.2 x m x (by simp) rfl
    rw [List.foldl_cons]
    have e : onceF acc x = acc ++ [x] := by unfold onceF; rw [if_neg hx]
    rw [e, ih (acc ++ [x]) (by rw [List.append_assoc]; exact h), List.append_assoc]
    rfl
theorem once_nodup {xs : List Str} (h : xs.Nodup) : once xs = xs := fold_eq xs [] (by simpa using h)
theorem nodup_le {l m : List Str} (h : l.Nodup) (s : ∀ x ∈ l, x ∈ m) : l.length ≤ m.length := by
  induction l generalizing m with
  | nil => exact Nat.zero_le _
  | cons x r ih =>
    have hx := s x (by simp)
    have hr := List.nodup_cons.mp h
    have := ih (m := m.erase x) hr.2 fun y hy => (List.mem_erase_of_ne (fun e : y = x => hr.1 (by rw [← e]; exact hy))).mpr (s y (by simp [hy]))
    rw [List.length_erase_of_mem hx] at this
    have := List.length_pos_of_mem hx
    rw [List.length_cons]
    omega
/-- some text twice, told by the lengths -/
theorem once_lt {xs : List Str} : (once xs).length < xs.length ↔ ¬ xs.Nodup := by
  constructor
  · intro h n
    rw [once_nodup n] at h
    omega
  · intro h
    have hd : (once xs).Nodup := fold_nodup xs [] List.nodup_nil
    rcases Nat.lt_or_ge (once xs).length xs.length with l | l
    · exact l
    · exfalso
      refine h ?_
      -- a list that is no longer than its own items, each once, has none twice
      have key : ∀ (a b : List Str), b.Nodup → (∀ x ∈ b, x ∈ a) → a.length ≤ b.length → a.Nodup := by
        intro a
        induction a with
        | nil => intro b _ _ _; exact List.nodup_nil
        | cons x r ih =>
          intro b nb sb lb
          have nx : x ∉ r := fun m => by
            have : b.length ≤ r.length := nodup_le nb fun y hy => by
              rcases List.mem_cons.mp (sb y hy) with e | e
              · rw [e]; exact m
              · exact e
            rw [List.length_cons] at lb
            omega
          refine List.nodup_cons.mpr ⟨nx, ih (b.erase x) (nb.erase x) (fun y hy => ?_) ?_⟩
          · have hy2 := (List.Nodup.mem_erase_iff nb).mp hy
            rcases List.mem_cons.mp (sb y hy2.2) with e | e
            · exact absurd e hy2.1
            · exact e
          · have := List.length_erase_le (a := x) (l := b)
            rw [List.length_cons] at lb
            by_cases hxb : x ∈ b
            · rw [List.length_erase_of_mem hxb]
              omega
            · rw [List.erase_of_not_mem hxb]
              omega
      exact key xs (once xs) hd (fun x hx => (once_mem xs x).mp hx) l
theorem once_take (xs : List Str) {i : Nat} {x : Str} (h : xs[i]? = some x) : once (xs.take (i + 1)) = onceF (once (xs.take i)) x := by
  rw [← take_next h]
  unfold once
  rw [List.foldl_append]
  rfl
section
variable {prog : Program} {w : World} {A : Around} {R : Result → Shared → Prop} {I : Addr} {fp wr : List Addr} {G : Array GenState → Array GenState → Prop} {n : Nat} {P : Nat → Value → Prop} {St : Nat → Shared → Prop}
/-- the loop of set(..) over texts -/
theorem loop_once (W : WalksS prog w A.in1 I fp wr G n P St) (S : Addr) (out : S ∉ fp) (xs : List Str) (hx : xs.length = n) (few : n + 1 < scanBound)
    (val : ∀ i v, P i v → ∃ t, v = .str (xs.getD i Str.empty) t) (k : Nat) :
    ∀ (i : Nat) (s : Shared), n - i = k → i ≤ n → St i s → s.heap.SetOf (PySem.strKind prog w) S (fun z => decide (z ∈ once (xs.take i))) (once (xs.take i)).length →
      (∀ s', Moved (S :: wr) G s s' → s'.heap.SetOf (PySem.strKind prog w) S (fun z => decide (z ∈ once xs)) (once xs).length → R (.ok (.ret .none)) s') →
      codeAny (model prog w) A (.builtin "set.update.loop" ⟨[.ref S, .ref I], []⟩) R s := by
  have hw : S ∉ wr := fun m => out (W.sub _ m)
  have sub : ∀ b ∈ wr, b ∈ S :: wr := fun _ m => List.mem_cons_of_mem _ m
  have stay : ∀ {T : Nat} {z : Str → Bool} {s s' : Shared}, Moved wr G s s' → s.heap.SetOf (PySem.strKind prog w) S z T → s'.heap.SetOf (PySem.strKind prog w) S z T := by
    rintro T z s s' m ⟨o, es, ep, t, ho, r⟩
    exact ⟨o, es, ep, t, m.heap S _ hw ho, r⟩
  induction k with
  | zero =>
    intro i s ek le st hS hR
    obtain rfl : i = n := by omega
    rw [← hx, List.take_length] at hS
    refine codeAny_builtin PyProof.Rows.F.entry_set_update_loop ?_
    rw [Around.under_plainId PyProof.Rows.F.plain_set_update_loop _]; show wpAny _ A.in1 (pyNext (.ref I) >>= _) _ _ s
    refine wpAny_bind (W.done s _ _ st fun s' m => ?_); show wpAny _ A.in1 (ret Value.none) _ _ s'
    exact wpAny_pure (hR s' (m.mono sub) (stay m hS))
  | succ k ih =>
    intro i s ek le st hS hR
    have lt : i < n := by omega
    have hxi : xs[i]? = some (xs.getD i Str.empty) := by
      rw [List.getD_eq_getElem?_getD, List.getElem?_eq_getElem (by omega)]; rfl
    refine codeAny_builtin PyProof.Rows.F.entry_set_update_loop ?_
    rw [Around.under_plainId PyProof.Rows.F.plain_set_update_loop _]; show wpAny _ A.in1 (pyNext (.ref I) >>= _) _ _ s
    refine wpAny_bind (W.item i s _ _ lt st fun v s' hP st' m => ?_)
    obtain ⟨t, rfl⟩ := val i v hP
    generalize xs.getD i Str.empty = x at hxi
    show wpAny _ A.in1 (holding [Value.str x t] (setAdd S (.str x t)) >>= _) _ _ s'
    refine wpAny_bind (wpAny_holding ?_); unfold setAdd; refine wpAny_holding ?_
    refine wpAny_bind ((PySem.strKind prog w).pyHash (k := x) (strKind_is _ _ _ _) ?_)
    have hS1 := stay m hS
    have room : (once (xs.take i)).length + 1 < scanBound := by
      have a := once_len (xs.take i); have b := List.length_take_le i xs; omega
    refine wpAny_setAddHashed_of (knd := PySem.strKind prog w) (s := { s' with toks := s'.toks + 1 }) (strKind_is _ _ _ _) rfl hS1 room fun h' same hS2 => ?_
    have next : h'.SetOf (PySem.strKind prog w) S (fun z => decide (z ∈ once (xs.take (i + 1)))) (once (xs.take (i + 1))).length := by
      refine SetOf_congr hS2 (fun z => ?_) ?_
      · rw [once_take xs hxi]
        by_cases h1 : z ∈ once (xs.take i) <;> by_cases h2 : z = x <;> simp [onceF_mem, h1, h2]
      · rw [once_take xs hxi]
        unfold onceF
        by_cases h1 : x ∈ once (xs.take i) <;> simp [h1]
    refine wpAny_pure ⟨plainId_quiet PyProof.Rows.F.plain_set_update_loop _, ih (i + 1) _ (by omega) lt (W.frame _ s' _ _ st' (Nat.le_succ _) fun b hb o e => ?_) next fun s'' m'' hS'' => ?_⟩
    · rw [same.2 b (fun z : b = S => out (z ▸ hb))]; exact e
    · refine hR s'' (Moved.trans W.gtrans ((m.mono sub).then_heap (Nat.le_succ _) fun b o hb e => ?_) m'') hS''
      rw [same.2 b (fun z : b = S => hb (z ▸ List.mem_cons_self))]; exact e
end
/-- a set that was just made -/
def freshSet (b : Bool) : Obj := { cls := .type "set", dict := none, data := .set #[] 0 (.fresh 0 0 b) }
def freshAt (s : Shared) (b : Bool) : Heap := s.heap.push (freshSet b)
section
variable {prog : Program} {w : World} {A : Around} {E : Value → Shared → Prop} {s : Shared}

set_option maxHeartbeats 3200000 in
theorem once_list {l : Addr} {us : Array Value} {xs : List Str} {Q : Value → Shared → Prop} (calm : A.handled = none) (at' : s.heap.IsList l us) (are : PyProof.Rows.StrsAre us.toList xs)
    (few : us.size + 1 < scanBound) (go : ∀ (g : Heap) (tk : Nat), g.SetOf (PySem.strKind prog w) s.heap.objs.size (fun z => decide (z ∈ once xs)) (once xs).length →
      (∀ b o, b < s.heap.objs.size → s.heap.get? b = some o → g.get? b = some o) → Q (.ref s.heap.objs.size) { s with heap := g, toks := tk }) : wpAny (model prog w) A (call (.type "set") [.ref l]) Q E s := by
  obtain ⟨c, tl, f1⟩ := PySem.F.called_set.mro; have f2 := PySem.F.called_set.made; have f3 := PySem.F.called_set.sub
  refine wpAny_call (codeAny_of_tree ?_); show wpAny _ _ (callAny (.type "set") _) _ _ _
  refine wpAny_pure ⟨Code.quiet_builtin _ (by decide +kernel), codeAny_builtin PySem.F.entry_type_call ?_⟩; rw [Around.under_plain (weight_type_call_type "set" [.ref l] []) rfl]
  have f4 := PySem.F.called_set.notType; have f5 := PySem.F.called_set.canCreate; have f6 := PySem.F.typeCall_set_1 (.ref l)
  repeat (any_goals (first | assumption | wp_step))
  refine codeAny_mono (code_set_new_1 (.ref l) (E := E) (Q₁ := fun ob s₁ => ∃ b : Bool, ob = .ref s.heap.objs.size ∧ s₁ = { s with heap := freshAt s b }) fun b => ⟨b, rfl, rfl⟩) fun r s₁ hr => ?_
  cases r with
  | error e => exact hr
  | ok fl =>
    cases fl with
    | ret ob =>
      obtain ⟨b0, rfl, rfl⟩ := hr
      have hS : (freshAt s b0).get? s.heap.objs.size = some (freshSet b0) := Heap.get?_push_size _ rfl
      have hT : Shared.TypeIs { s with heap := freshAt s b0 } (.ref s.heap.objs.size) "set" := ⟨_, hS, rfl⟩
      have f7 := PySem.F.called_set.init.lookup; have f8 := PySem.F.called_set.init.bind (.ref s.heap.objs.size)
      unfold freshAt freshSet at *
      repeat (any_goals (first | assumption | wp_step))
      refine codeAny_mono (codeAny_call_builtin (R := wants (fun r s₂ => r = .none ∧ ∃ g tk, s₂ = { s with heap := g, toks := tk } ∧ g.SetOf (PySem.strKind prog w) s.heap.objs.size (fun z => decide (z ∈ once xs)) (once xs).length ∧
          (∀ b o, b < s.heap.objs.size → s.heap.get? b = some o → g.get? b = some o)) E) PySem.F.called_set.init.plain PySem.F.entry_set_init (check_set_init_1 hT ?_)) fun r₂ s₂ hr₂ => ?_
      · obtain ⟨⟨c1, d1, dt, sl⟩, h1, h2, m1, h3⟩ := at'
        simp only at h2 h3; subst h2 h3
        have h1p := Heap.get?_push_of_some { cls := .type "set", dict := none, data := .set #[] 0 (.fresh 0 0 b0) } h1
        have g1 := PySem.F.sub_list_set; have g2 := PySem.F.sub_list_frozenset; have g3 : (Value.type "list" == Value.type "dict") = false := by decide
        have at2 : (s.heap.push { cls := .type "set", dict := none, data := .set #[] 0 (.fresh 0 0 b0) }).IsList l us := ⟨_, h1p, rfl, m1, rfl⟩
        unfold Builtin.«set.__init__» noKeywords Builtin.Frozenset.updateFrom; generalize hPI : pyIter = PI; wp_walk; subst hPI
        refine wpAny_pyIter_list at2 ?_; refine wpAny_bind (wpAny_runValue ?_)
        have lt0 : l < s.heap.objs.size := Heap.lt_size h1
        have calm3 : A.in1.in1.in1.handled = none := by simp [calm]
        have e1 : (s.heap.push { cls := .type "set", dict := none, data := .set #[] 0 (.fresh 0 0 b0) }).objs.size = s.heap.objs.size + 1 := by rw [Heap.size_push]
        have far : l ≠ (s.heap.push { cls := .type "set", dict := none, data := .set #[] 0 (.fresh 0 0 b0) }).objs.size := by rw [e1]; exact Nat.ne_of_lt (Nat.lt_succ_of_lt lt0)
        have out : s.heap.objs.size ∉ [(s.heap.push { cls := .type "set", dict := none, data := .set #[] 0 (.fresh 0 0 b0) }).objs.size, l] := by
          rw [e1]; simp only [List.mem_cons, List.not_mem_nil, or_false, not_or]; exact ⟨Nat.ne_of_lt (Nat.lt_succ_self _), Nat.ne_of_gt lt0⟩
        have lx : xs.length = us.size := by rw [← StrsAre.len_eq are, Array.length_toList]
        have vals : ∀ (i : Nat) (v : Value), us[i]? = some v → ∃ t, v = .str (xs.getD i Str.empty) t := fun i v hv => SS.strs_at are i v (by rw [Array.getElem?_toList]; exact hv)
        refine loop_once ((Walks.list calm3 _ l far us).toS) s.heap.objs.size out xs lx few vals (us.size - 0) 0 _ (by omega) (Nat.zero_le _) ⟨⟨_, Heap.get?_push_size _ rfl, rfl, rfl⟩, (at2.push _)⟩ ?st0 ?end0
        case st0 =>
          have h9 := Heap.get?_push_of_some { cls := .type "list_iterator", data := .fields #[.ref l, .int 0 0] } hS
          exact SetOf_congr ((PyProof.Rows.setObjOf_fresh (knd := PySem.strKind prog w) b0).setOf h9 (by unfold scanBound; omega)) (fun _ => rfl) rfl
        case end0 =>
          rintro ⟨g, gs, dr, tk, os⟩ mv hS'
          obtain rfl : gs = s.gens := mv.gens
          obtain rfl : dr = s.drawn := mv.drawn
          obtain rfl : os = s.os := mv.os
          show wpAny _ _ _ _ _ _; refine wpAny_pure ?_; show wpAny _ _ (ret Value.none) _ _ _
          refine wpAny_pure ⟨rfl, g, tk, rfl, hS', fun b o hb e => mv.heap b o ?_ (Heap.get?_push_of_some _ (Heap.get?_push_of_some _ e))⟩
          rw [e1]; simp only [List.mem_cons, List.not_mem_nil, or_false, not_or]; exact ⟨Nat.ne_of_lt hb, Nat.ne_of_lt (Nat.lt_succ_of_lt hb)⟩
      · cases r₂ with
        | error e => exact hr₂
        | ok fl₂ =>
          cases fl₂ with
          | ret r =>
            obtain ⟨rfl, g, tk, rfl, hS', hk'⟩ := hr₂
            repeat (any_goals (first | assumption | wp_step))
            exact go _ _ hS' hk'
          | _ => exact hr₂.elim
    | _ => exact hr.elim

set_option maxHeartbeats 3200000 in
theorem set_tuple {l : Addr} {us : Array Value} {xs : List Str} {Q : Value → Shared → Prop} (calm : A.handled = none) (at' : s.heap.IsTuple l us) (are : PyProof.Rows.StrsAre us.toList xs)
    (few : us.size + 1 < scanBound) (go : ∀ (g : Heap) (tk : Nat), g.SetOf (PySem.strKind prog w) s.heap.objs.size (fun z => decide (z ∈ once xs)) (once xs).length →
      (∀ b o, b < s.heap.objs.size → s.heap.get? b = some o → g.get? b = some o) → Q (.ref s.heap.objs.size) { s with heap := g, toks := tk }) : wpAny (model prog w) A (call (.type "set") [.ref l]) Q E s := by
  obtain ⟨c, tl, f1⟩ := PySem.F.called_set.mro; have f2 := PySem.F.called_set.made; have f3 := PySem.F.called_set.sub
  refine wpAny_call (codeAny_of_tree ?_); show wpAny _ _ (callAny (.type "set") _) _ _ _
  refine wpAny_pure ⟨Code.quiet_builtin _ (by decide +kernel), codeAny_builtin PySem.F.entry_type_call ?_⟩; rw [Around.under_plain (weight_type_call_type "set" [.ref l] []) rfl]
  have f4 := PySem.F.called_set.notType; have f5 := PySem.F.called_set.canCreate; have f6 := PySem.F.typeCall_set_1 (.ref l)
  repeat (any_goals (first | assumption | wp_step))
  refine codeAny_mono (code_set_new_1 (.ref l) (E := E) (Q₁ := fun ob s₁ => ∃ b : Bool, ob = .ref s.heap.objs.size ∧ s₁ = { s with heap := freshAt s b }) fun b => ⟨b, rfl, rfl⟩) fun r s₁ hr => ?_
  cases r with
  | error e => exact hr
  | ok fl =>
    cases fl with
    | ret ob =>
      obtain ⟨b0, rfl, rfl⟩ := hr
      have hS : (freshAt s b0).get? s.heap.objs.size = some (freshSet b0) := Heap.get?_push_size _ rfl
      have hT : Shared.TypeIs { s with heap := freshAt s b0 } (.ref s.heap.objs.size) "set" := ⟨_, hS, rfl⟩
      have f7 := PySem.F.called_set.init.lookup; have f8 := PySem.F.called_set.init.bind (.ref s.heap.objs.size)
      unfold freshAt freshSet at *
      repeat (any_goals (first | assumption | wp_step))
      refine codeAny_mono (codeAny_call_builtin (R := wants (fun r s₂ => r = .none ∧ ∃ g tk, s₂ = { s with heap := g, toks := tk } ∧ g.SetOf (PySem.strKind prog w) s.heap.objs.size (fun z => decide (z ∈ once xs)) (once xs).length ∧
          (∀ b o, b < s.heap.objs.size → s.heap.get? b = some o → g.get? b = some o)) E) PySem.F.called_set.init.plain PySem.F.entry_set_init (check_set_init_1 hT ?_)) fun r₂ s₂ hr₂ => ?_
      · obtain ⟨⟨c1, d1, dt, sl⟩, h1, h2, m1, h3⟩ := at'
        simp only at h2 h3; subst h2 h3
        have h1p := Heap.get?_push_of_some { cls := .type "set", dict := none, data := .set #[] 0 (.fresh 0 0 b0) } h1
        have g1 := PySem.F.sub_tuple_set; have g2 := PySem.F.sub_tuple_frozenset; have g3 : (Value.type "tuple" == Value.type "dict") = false := by decide
        have at2 : (s.heap.push { cls := .type "set", dict := none, data := .set #[] 0 (.fresh 0 0 b0) }).IsTuple l us := ⟨_, h1p, rfl, m1, rfl⟩
        unfold Builtin.«set.__init__» noKeywords Builtin.Frozenset.updateFrom; generalize hPI : pyIter = PI; wp_walk; subst hPI
        refine wpAny_pyIter_tuple at2 ?_; refine wpAny_bind (wpAny_runValue ?_)
        have lt0 : l < s.heap.objs.size := Heap.lt_size h1
        have calm3 : A.in1.in1.in1.handled = none := by simp [calm]
        have e1 : (s.heap.push { cls := .type "set", dict := none, data := .set #[] 0 (.fresh 0 0 b0) }).objs.size = s.heap.objs.size + 1 := by rw [Heap.size_push]
        have far : l ≠ (s.heap.push { cls := .type "set", dict := none, data := .set #[] 0 (.fresh 0 0 b0) }).objs.size := by rw [e1]; exact Nat.ne_of_lt (Nat.lt_succ_of_lt lt0)
        have out : s.heap.objs.size ∉ [(s.heap.push { cls := .type "set", dict := none, data := .set #[] 0 (.fresh 0 0 b0) }).objs.size, l] := by
          rw [e1]; simp only [List.mem_cons, List.not_mem_nil, or_false, not_or]; exact ⟨Nat.ne_of_lt (Nat.lt_succ_self _), Nat.ne_of_gt lt0⟩
        have lx : xs.length = us.size := by rw [← StrsAre.len_eq are, Array.length_toList]
        have vals : ∀ (i : Nat) (v : Value), us[i]? = some v → ∃ t, v = .str (xs.getD i Str.empty) t := fun i v hv => SS.strs_at are i v (by rw [Array.getElem?_toList]; exact hv)
        refine loop_once ((Walks.tuple calm3 _ l far us).toS) s.heap.objs.size out xs lx few vals (us.size - 0) 0 _ (by omega) (Nat.zero_le _) ⟨⟨_, Heap.get?_push_size _ rfl, rfl, rfl⟩, (at2.push _)⟩ ?st0 ?end0
        case st0 =>
          have h9 := Heap.get?_push_of_some { cls := .type "tuple_iterator", data := .fields #[.ref l, .int 0 0] } hS
          exact SetOf_congr ((PyProof.Rows.setObjOf_fresh (knd := PySem.strKind prog w) b0).setOf h9 (by unfold scanBound; omega)) (fun _ => rfl) rfl
        case end0 =>
          rintro ⟨g, gs, dr, tk, os⟩ mv hS'
          obtain rfl : gs = s.gens := mv.gens
          obtain rfl : dr = s.drawn := mv.drawn
          obtain rfl : os = s.os := mv.os
          show wpAny _ _ _ _ _ _; refine wpAny_pure ?_; show wpAny _ _ (ret Value.none) _ _ _
          refine wpAny_pure ⟨rfl, g, tk, rfl, hS', fun b o hb e => mv.heap b o ?_ (Heap.get?_push_of_some _ (Heap.get?_push_of_some _ e))⟩
          rw [e1]; simp only [List.mem_cons, List.not_mem_nil, or_false, not_or]; exact ⟨Nat.ne_of_lt hb, Nat.ne_of_lt (Nat.lt_succ_of_lt hb)⟩
      · cases r₂ with
        | error e => exact hr₂
        | ok fl₂ =>
          cases fl₂ with
          | ret r =>
            obtain ⟨rfl, g, tk, rfl, hS', hk'⟩ := hr₂
            repeat (any_goals (first | assumption | wp_step))
            exact go _ _ hS' hk'
          | _ => exact hr₂.elim
    | _ => exact hr.elim
end
section
variable {X : Cx} {a : Expr} {ta : TE} {p p2 q pos : Pos}
/-- len(set(xs)) -/
def tOnce (K : PySem.W.Frag) (ta : TE) : TE := fun σ H Q => ta σ H fun x H1 => ∃ (l : Addr) (xs : List Str), x = .ref l ∧ (SqL K H1 l (xs.map V.str) ∨ SqT K H1 l (xs.map V.str)) ∧ xs.length ≤ 1000 ∧ Q (.int (once xs).length) H1
theorem pe_once (K : PySem.W.Frag) (hK : X.K = K) (hc : X.calm = true) (hm : X.mg "len" = none) (hm2 : X.mg "set" = none) (ha : PE X a ta) (hg : Gl X "len" := by rfl) (hg2 : Gl X "set" := by rfl)
    (na : starEach [a] X.env = (false, eval a X.env) :: starEach [] X.env := by rfl) : PE X (.Call (.Name "len" p) [.Call (.Name "set" p2) [a] [] q] [] pos) (tOnce K ta) := by
  subst hK
  refine ⟨fun pins s σ H Q I h => ?_⟩
  refine Call_ (ld_blt I hg hm boot_len ?_); refine PyProof.Rows.callWith_builtin1 (PyProof.Rows.args_cons ?_ rfl) rfl rfl
  refine Call_ (ld_blt I hg2 hm2 boot_set ?_)
  refine PyProof.Rows.callWith_type1 (PyProof.Rows.args_cons (thn (ha.run pins s σ H _ I h) fun v s1 ⟨x, H1, I1, r1, q1⟩ => PyProof.Rows.args_nil ?_) na) na rfl
  obtain ⟨l, xs, rfl, hq, h1, q1⟩ := q1
  cases r1
  have lo := once_len xs
  have fin : ∀ (g : Heap) (tk : Nat), g.SetOf (PySem.strKind X.prog X.w) s1.heap.objs.size (fun z => decide (z ∈ once xs)) (once xs).length → (∀ b o, b < s1.heap.objs.size → s1.heap.get? b = some o → g.get? b = some o) →
      wpAny (model X.prog X.w) X.A (spliced (backTo pos (starEach [] X.env))) (fun vs s₂ => wpAny (model X.prog X.w) X.A (call (.builtin "len") (Value.ref s1.heap.objs.size :: vs)) (EP X pins σ Q) X.xe s₂) X.xe { s1 with heap := g, toks := tk } := fun g tk hS hk => by
    refine PyProof.Rows.args_nil ?_
    obtain ⟨o, es, ep, t, ho, hex, hd, _, _, _, hf, hn⟩ := hS
    have I2 : Inv X pins σ H1 { s1 with heap := g, toks := tk } := I1.kept fun b o e => hk b o (Heap.lt_size e) e
    refine call_len_set ho hex hd hf (by rw [hn]; omega) ⟨.int (once xs).length, H1, I2.tok _, ⟨_, by rw [hn]⟩, q1⟩
  have sz : ∀ {its : List Value}, Vals (xs.map V.str) its → its.toArray.size + 1 < scanBound := fun r => by
    have := r.length; rw [List.length_map] at this; rw [List.size_toArray, ← this]; unfold scanBound; omega
  rcases hq with hq | hq
  · obtain ⟨its, r, pl, hz⟩ := I1.list hq
    exact once_list (I1.ok.hd hc) pl.isList (by simpa using strsAre_of r) (sz r) fin
  · obtain ⟨its, r, pl, hz⟩ := I1.tuple hq
    exact set_tuple (I1.ok.hd hc) pl (by simpa using strsAre_of r) (sz r) fin
end
end My
namespace My
open PySem L2
/-! what stands in a kind, at whatever depth -/
mutual
def Kd.subs : Kd → List Kd
  | .num => [.num]
  | .text => [.text]
  | .of x => [.of x]
  | .row k => .row k :: Kd.subs k
  | .calls ps r => .calls ps r :: (Kd.subsL ps ++ Kd.subs r)
  | .answers n k => .answers n k :: Kd.subs k
def Kd.subsL : List Kd → List Kd
  | [] => []
  | k :: r => Kd.subs k ++ Kd.subsL r
end
theorem Kd.subsL_app : ∀ (a b : List Kd), Kd.subsL (a ++ b) = Kd.subsL a ++ Kd.subsL b
  | [], b => rfl
  | k :: r, b => by rw [List.cons_append, Kd.subsL, Kd.subsL, Kd.subsL_app r b, List.append_assoc]
theorem Kd.subs_inner (k : Kd) : k.subs = k :: Kd.subsL k.inner := by
  cases k with
  | num => rfl
  | text => rfl
  | of x => rfl
  | row k => simp [Kd.subs, Kd.inner, Kd.subsL]
  | calls ps r => simp [Kd.subs, Kd.inner, Kd.subsL, Kd.subsL_app]
  | answers n k => simp [Kd.subs, Kd.inner, Kd.subsL]
mutual
theorem Kd.subs_len : ∀ (k : Kd), k.subs.length = k.size
  | .num => rfl
  | .text => rfl
  | .of _ => rfl
  | .row k => by simp [Kd.subs, Kd.size, Kd.subs_len k]
  | .calls ps r => by simp [Kd.subs, Kd.size, Kd.subsL_len ps, Kd.subs_len r]
  | .answers n k => by simp [Kd.subs, Kd.size, Kd.subs_len k]
theorem Kd.subsL_len : ∀ (ks : List Kd), (Kd.subsL ks).length = Kd.sizes ks
  | [] => rfl
  | k :: r => by simp [Kd.subsL, Kd.sizes, Kd.subs_len k, Kd.subsL_len r]
end
mutual
theorem Kd.subs_size {x : Kd} : ∀ {k : Kd}, x ∈ k.subs → x.size ≤ k.size
  | .num, h => by have e : x = .num := by simpa [Kd.subs] using h
                  rw [e]; exact Nat.le_refl _
  | .text, h => by have e : x = .text := by simpa [Kd.subs] using h
                   rw [e]; exact Nat.le_refl _
  | .of y, h => by have e : x = .of y := by simpa [Kd.subs] using h
                   rw [e]; exact Nat.le_refl _
  | .row k, h => by
    rcases List.mem_cons.mp (show x ∈ Kd.row k :: k.subs from h) with rfl | h
    · exact Nat.le_refl _
    · exact Nat.le_succ_of_le (Kd.subs_size h)
  | .calls ps r, h => by
    rcases List.mem_cons.mp (show x ∈ Kd.calls ps r :: (Kd.subsL ps ++ r.subs) from h) with rfl | h
    · exact Nat.le_refl _
    · show x.size ≤ Kd.sizes ps + r.size + 1
      rcases List.mem_append.mp h with h | h
      · have := Kd.subsL_size h
        omega
      · have := Kd.subs_size h
        omega
  | .answers n k, h => by
    rcases List.mem_cons.mp (show x ∈ Kd.answers n k :: k.subs from h) with rfl | h
    · exact Nat.le_refl _
    · exact Nat.le_succ_of_le (Kd.subs_size h)
theorem Kd.subsL_size {x : Kd} : ∀ {ks : List Kd}, x ∈ Kd.subsL ks → x.size ≤ Kd.sizes ks
  | [], h => by simp [Kd.subsL] at h
  | k :: r, h => by
    show x.size ≤ k.size + Kd.sizes r
    rcases List.mem_append.mp (show x ∈ k.subs ++ Kd.subsL r from h) with h | h
    · have := Kd.subs_size h
      omega
    · have := Kd.subsL_size h
      omega
end
def Kd.isCalls : Kd → Bool
  | .calls _ _ => true
  | _ => false
def Kd.nameOf : Kd → Option Str
  | .of x => some x
  | _ => none
/-- kinds_in: all of them, in some order -/
def spKindsIn : Sp := fun vs H Q _ => ∃ (v : V) (k : Kd), vs = [v] ∧ KdAt H v k ∧ k.size ≤ 50000 ∧
  ∀ (r : Addr) (ws : List V) (ks : List Kd) (H' : Hp), H r = none → H' r = some (.lst ws) → KdsAt H' ws ks → ks.Perm k.subs → Same H H' → Q (.ref r) H'
/-- calls_in -/
def spCallsIn : Sp := fun vs H Q _ => ∃ (v : V) (k : Kd), vs = [v] ∧ KdAt H v k ∧ k.size ≤ 50000 ∧
  ∀ (r : Addr) (ws : List V) (ks : List Kd) (H' : Hp), H r = none → H' r = some (.lst ws) → KdsAt H' ws ks → ks.Perm (k.subs.filter Kd.isCalls) → Same H H' → Q (.ref r) H'
/-- names_in -/
def spNamesIn : Sp := fun vs H Q _ => ∃ (v : V) (k : Kd), vs = [v] ∧ KdAt H v k ∧ k.size ≤ 50000 ∧
  ∀ (r : Addr) (xs : List Str) (H' : Hp), H r = none → H' r = some (.lst (xs.map V.str)) → xs.Perm (k.subs.filterMap Kd.nameOf) → Same H H' → Q (.ref r) H'
/-- a callback in a callback -/
def Kd.ccc (k : Kd) : Bool := (k.subs.filter Kd.isCalls).any fun c => decide (1 < (c.subs.filter Kd.isCalls).length)
def spCcc : Sp := fun vs H Q _ => ∃ (v : V) (k : Kd), vs = [v] ∧ KdAt H v k ∧ k.size ≤ 50000 ∧ ∀ H', Same H H' → Q (.bl k.ccc) H'
def Wkin (v : V) (k : Kd) (rf rw : Addr) (H0 : Hp) (m : Nat) (σ : St) (H : Hp) : Prop :=
  ∃ (fs : List V) (fk : List Kd) (ws : List V) (wk : List Kd) (u3 : Option V), σ = [some v, some (.ref rf), some (.ref rw), u3] ∧ Same H0 H ∧ H rf = some (.lst fs) ∧ KdsAt H fs fk ∧ H rw = some (.lst ws) ∧ KdsAt H ws wk ∧
    (fk ++ Kd.subsL wk).Perm k.subs ∧ m = Kd.sizes wk
theorem KdsAt.snoc {H : Hp} {x : V} : ∀ {l : List V} {ks : List Kd}, KdsAt H (l ++ [x]) ks → ∃ kl k, ks = kl ++ [k] ∧ KdsAt H l kl ∧ KdAt H x k
  | [], _, .cons h .nil => ⟨[], _, rfl, .nil, h⟩
  | _ :: l, _, .cons h t => by
    obtain ⟨kl, k, e, a, b⟩ := KdsAt.snoc (l := l) t
    exact ⟨_ :: kl, k, by rw [e]; rfl, .cons h a, b⟩
theorem any_perm {α : Type} {f : α → Bool} {a b : List α} (h : a.Perm b) : a.any f = b.any f := by
  rw [Bool.eq_iff_iff, List.any_eq_true, List.any_eq_true]
  constructor
  · rintro ⟨x, m, e⟩
    exact ⟨x, h.mem_iff.mp m, e⟩
  · rintro ⟨x, m, e⟩
    exact ⟨x, h.mem_iff.mpr m, e⟩
theorem all_perm {α : Type} {f : α → Bool} {a b : List α} (h : a.Perm b) : a.all f = b.all f := by
  rw [Bool.eq_iff_iff, List.all_eq_true, List.all_eq_true]
  constructor
  · intro z x m
    exact z x (h.mem_iff.mpr m)
  · intro z x m
    exact z x (h.mem_iff.mp m)
theorem all_perm2 {α : Type} {f g : α → Bool} {a b : List α} (h : a.Perm b) (e : ∀ x, f x = g x) : a.all f = b.all g := by
  rw [funext e]
  exact all_perm h
def Pfil (H0 : Hp) (D : Addr) (ks : List Kd) (i : Nat) (H : Hp) : Prop := Same H0 H ∧ ∃ ws, H D = some (.lst ws) ∧ KdsAt H ws ((ks.take i).filter Kd.isCalls)
def Pnms (H0 : Hp) (D : Addr) (ks : List Kd) (i : Nat) (H : Hp) : Prop := Same H0 H ∧ H D = some (.lst (((ks.take i).filterMap Kd.nameOf).map V.str))
def Pbls (H0 : Hp) (D : Addr) (bs : List Bool) (i : Nat) (H : Hp) : Prop := Same H0 H ∧ H D = some (.lst ((bs.take i).map V.bl))
/-- a kind's head word -/
theorem KdAt.head {H : Hp} {v : V} {k : Kd} (h : KdAt H v k) : ∃ a w r, v = .ref a ∧ H a = some (.tup (.str w :: r)) ∧ decide (V.str w = V.str "calls") = k.isCalls ∧ decide (V.str w = V.str "of") = k.nameOf.isSome ∧
    (∀ x, k.nameOf = some x → r = [.str x]) ∧ (∀ ps q, k = .calls ps q → ∃ b vs u, r = [.ref b, u] ∧ H b = some (.tup vs) ∧ vs.length = ps.length) := by
  cases h with
  | num h => exact ⟨_, _, _, rfl, h, by decide, by decide, fun x e => (by cases e), fun _ _ e => (by cases e)⟩
  | text h => exact ⟨_, _, _, rfl, h, by decide, by decide, fun x e => (by cases e), fun _ _ e => (by cases e)⟩
  | @of a x h => exact ⟨_, _, _, rfl, h, (show decide (V.str "of" = V.str "calls") = false by decide), (show decide (V.str "of" = V.str "of") = true by decide), fun x e => (by cases e; rfl), fun _ _ e => (by cases e)⟩
  | row h hk => exact ⟨_, _, _, rfl, h, (show decide (V.str "row" = V.str "calls") = false by decide), (show decide (V.str "row" = V.str "of") = false by decide), fun x e => (by cases e), fun _ _ e => (by cases e)⟩
  | calls h hb hp hr => exact ⟨_, _, _, rfl, h, (show decide (V.str "calls" = V.str "calls") = true by decide), (show decide (V.str "calls" = V.str "of") = false by decide), fun x e => (by cases e), fun _ _ e => (by cases e; exact ⟨_, _, _, rfl, hb, hp.len⟩)⟩
  | answers h hk => exact ⟨_, _, _, rfl, h, (show decide (V.str "answers" = V.str "calls") = false by decide), (show decide (V.str "answers" = V.str "of") = false by decide), fun x e => (by cases e), fun _ _ e => (by cases e)⟩
section
variable {P : Program} {w : World} {K : PySem.W.Frag} {mg : Str → Option Value} {base : Heap} {f : Addr} {fd : FuncData}
theorem ok_kinds_in (F : Fun K "kinds_in" "kinds_in" s_kinds_in f fd) (c_kinds_directly_in : Cal P w K mg base "kinds_directly_in" 1 ["kind"] spInner) : FnOk P w K mg base CX0 2 f fd ["kind"] spKindsIn := by
  refine F.ok sc_kinds_in (fun vs H Q E h => ?_) (fun cdv A outer s H vs Q E hr h => ?_)
  · obtain ⟨v, k, rfl, _⟩ := h
    rfl
  obtain ⟨v, k, rfl, hk, hs, q⟩ := h
  refine ⟨_, (pss_cons (ps_set (i := 1) sc_kinds_in.nd rfl (Or.inl rfl) (pe_lst pa_nil))
    (pss_cons (ps_set (i := 2) sc_kinds_in.nd rfl (Or.inl rfl) (pe_lst (pa_cons (pv 0) pa_nil)))
    (pss_cons (ps_while PassesOwn.never (truth K rfl (pv 2)) (pss_cons (ps_set (i := 3) sc_kinds_in.nd rfl (Or.inl rfl) (pe_bm0 PySem.F.plainAttrs_list PySem.F.slot_list_pop PySem.F.type_list_pop mt_pop (pv 2)))
    (pss_cons (ps_expr (pe_bm PySem.F.plainAttrs_list PySem.F.slot_list_append PySem.F.type_list_append mt_append (pv 1) (pa_cons (pv 3) pa_nil)))
    (pss_one (ps_expr (pe_bm PySem.F.plainAttrs_list PySem.F.slot_list_extend PySem.F.type_list_extend mt_extend (pv 2) (pa_cons (pc c_kinds_directly_in (hr.mono (by first | decide | omega)) (pa_cons (pv 3) pa_nil)) pa_nil)))))))
    (pss_one (ps_ret (pv 1)))))), ?_⟩
  refine ⟨Nat.zero_le _, fun rf nrf => ⟨_, rfl, (by show 1 ≤ sizeLine; decide), fun rw nrw => ?_⟩⟩
  have s2 := (same_new nrf (.lst [])).trans (same_new nrw (.lst [v]))
  have hrf : (upd (upd H rf (.lst [])) rw (.lst [v])) rf = some (.lst []) := same_new nrw _ _ _ upd_same
  have hrw : (upd (upd H rf (.lst [])) rw (.lst [v])) rw = some (.lst [v]) := upd_same
  have nfw : rf ≠ rw := ne_of_none (H := upd H rf (.lst [])) upd_same nrw
  have nrw0 : H rw = none := (same_new nrf (.lst [])).free nrw
  generalize upd (upd H rf (.lst [])) rw (.lst [v]) = Hs at s2 hrf hrw
  refine ⟨Wkin v k rf rw H, ⟨Kd.sizes [k], [], [], [v], [k], none, rfl, s2, hrf, .nil, hrw, .cons (hk.mono (Tups.of_same s2)) .nil, by simp [Kd.subsL], rfl⟩, fun m σ H1 w1 => ?_⟩
  obtain ⟨fs, fk, ws, wk, u3, rfl, s1, hf, kf, hw, kw, pm, rfl⟩ := w1
  refine ⟨_, rfl, _, .inl ⟨ws, SqL.of hw, rfl⟩, ?_⟩
  by_cases hn : ws = []
  · subst hn
    refine iteF ⟨_, rfl, ?_⟩
    cases kw
    rw [Kd.subsL, List.append_nil] at pm
    exact q rf fs fk H1 nrf hf kf pm s1
  · have e : ws = ws.dropLast ++ [ws.getLast hn] := (List.dropLast_concat_getLast hn).symm
    generalize ws.dropLast = l at e
    generalize ws.getLast hn = x at e
    subst e
    obtain ⟨kl, kx, rfl, hkl, hkx⟩ := kw.snoc
    refine ifT (by cases l <;> rfl) ?_
    have hz : Kd.sizes (kl ++ [kx]) = Kd.sizes kl + kx.size := by rw [Kd.sizes_app]; simp [Kd.sizes]
    have hzi := Kd.size_inner kx
    have plen := pm.length_eq
    rw [List.length_append, Kd.subsL_len, Kd.subs_len, hz] at plen
    have lf := kf.len
    have ll := hkl.len
    have l1 := Kd.len_sizes kl
    have l2 := Kd.len_sizes kx.inner
    refine ⟨fun σ' H' => ∃ m', m' < Kd.sizes (kl ++ [kx]) ∧ Wkin v k rf rw H m' σ' H', fun _ _ h => h, ?_⟩
    refine ⟨_, rfl, tyL hw, rw, _, x, rfl, rfl, hw, by simp, ?_⟩
    rw [List.dropLast_concat]
    have T2 : Tups H1 (upd H1 rw (.lst l)) := Tups.upd hw
    have s3 : Same H (upd H1 rw (.lst l)) := Same.atNew s1 nrw0
    have hf2 : (upd H1 rw (.lst l)) rf = some (.lst fs) := by rw [upd_ne nfw]; exact hf
    have hw2 : (upd H1 rw (.lst l)) rw = some (.lst l) := upd_same
    generalize upd H1 rw (.lst l) = H2 at T2 s3 hf2 hw2
    refine ⟨_, rfl, tyL hf2, _, rfl, rf, fs, x, rfl, rfl, hf2, line5 (by omega), ?_⟩
    have T3 : Tups H2 (upd H2 rf (.lst (fs ++ [x]))) := Tups.upd hf2
    have s4 : Same H (upd H2 rf (.lst (fs ++ [x]))) := Same.atNew s3 nrf
    have hf3 : (upd H2 rf (.lst (fs ++ [x]))) rf = some (.lst (fs ++ [x])) := upd_same
    have hw3 : (upd H2 rf (.lst (fs ++ [x]))) rw = some (.lst l) := by rw [upd_ne nfw.symm]; exact hw2
    generalize upd H2 rf (.lst (fs ++ [x])) = H3 at T3 s4 hf3 hw3
    have T13 := T2.trans T3
    refine ⟨_, rfl, tyL hw3, _, rfl, x, kx, rfl, hkx.mono T13, by omega, fun r ys H4 nr hr4 kys s5 => ?_⟩
    have ly := kys.len
    refine ⟨rw, r, l, ys, rfl, rfl, s5 _ _ hw3, hr4, Nat.le_of_lt (line5 (by omega)), Kd.sizes (kl ++ kx.inner), ?_, fs ++ [x], fk ++ [kx], l ++ ys, kl ++ kx.inner, _, rfl, Same.atNew (s4.trans s5) nrw0, ?_, ?_, upd_same, ?_, ?_, rfl⟩
    · rw [Kd.sizes_app, hz]
      omega
    · rw [upd_ne nfw]
      exact s5 _ _ hf3
    · have T := T13.trans ((Tups.of_same s5).trans (Tups.upd (o := .lst (l ++ ys)) (s5 _ _ hw3)))
      exact (kf.mono T).app (.cons (hkx.mono T) .nil)
    · have T := T13.trans ((Tups.of_same s5).trans (Tups.upd (o := .lst (l ++ ys)) (s5 _ _ hw3)))
      exact (hkl.mono T).app (kys.mono (Tups.upd (s5 _ _ hw3)))
    · refine List.Perm.trans ?_ pm
      rw [Kd.subsL_app, Kd.subsL_app]
      have e : Kd.subsL [kx] = kx :: Kd.subsL kx.inner := by simp [Kd.subsL, Kd.subs_inner kx]
      rw [e, List.append_assoc]
      refine List.Perm.append_left _ ?_
      refine List.Perm.trans ?_ List.perm_middle.symm
      exact List.Perm.refl _
theorem ok_calls_in (F : Fun K "calls_in" "calls_in" s_calls_in f fd) (c_kinds_in : Cal P w K mg base "kinds_in" 2 ["kind"] spKindsIn) : FnOk P w K mg base CX0 3 f fd ["kind"] spCallsIn := by
  refine F.ok sc_calls_in (fun vs H Q E h => ?_) (fun cdv A outer s H vs Q E hr h => ?_)
  · obtain ⟨v, k, rfl, _⟩ := h
    rfl
  obtain ⟨v, k, rfl, hk, hs, q⟩ := h
  refine ⟨_, (pss_one (ps_ret (pe_lc (own := [("each", 1)]) (g := (gName 1)) rfl sc_calls_in.nd (piL K rfl (pc c_kinds_in (hr.mono (by first | decide | omega)) (pa_cons (pv 0) pa_nil))) (blkOk_by (N := ["kind", "each"]) (sc := defScope s_calls_in) (by decide +kernel)) (fun _ _ _ _ _ => (pg_name (i := 1) sc_calls_in.nd rfl (Or.inl rfl) (hf := Or.inr rfl))) (fun _ _ _ _ _ => (pts_one (pt_cmpR op_eq (pe_ix (ixT K rfl) (pv 1) pe_int (fun _ _ => rfl)) pe_str (nomark _)))) (fun _ _ _ _ _ => (pv 1))))), ?_⟩
  refine ⟨_, rfl, v, k, rfl, hk, hs, fun r ws ks H1 nr hr1 kws pm s1 => ⟨r, rfl, ⟨_, SqL.of hr1⟩, fun D nD => lc_list (xs := ws) (Pfil H1 D ks) ?_ ?_ ?_ ?_⟩⟩
  · exact ⟨same_new nD _, [], upd_same, .nil⟩
  · exact fun i H2 _ p => SqL.of (p.1 _ _ hr1)
  · rintro i x H2 hx ⟨s2, acc, hacc, kacc⟩
    obtain ⟨kx, hkx, kdx⟩ := kws.get i x hx
    have kd2 := kdx.mono (Tups.of_same s2)
    obtain ⟨a, w, rr, rfl, ha, e1, _, _, _⟩ := kd2.head
    have lz := kacc.len
    have l2 : ((ks.take i).filter Kd.isCalls).length ≤ 50000 := by
      have h1 := List.length_filter_le Kd.isCalls (ks.take i)
      have h2 := List.length_take_le' i ks
      have h3 := pm.length_eq
      rw [Kd.subs_len] at h3
      omega
    refine ⟨rfl, _, rfl, _, _, _, _, rfl, rfl, SqT.of ha, at_of rfl rfl, rfl, _, rfl, ?_⟩
    rw [e1]
    cases hc : kx.isCalls with
    | true =>
      refine iteT ⟨_, rfl, _, hacc, line5 (by omega), Same.atNew s2 nD, _, upd_same, ?_⟩
      rw [← take_next hkx, List.filter_append]
      have T := Tups.upd (o := .lst (acc ++ [V.ref a])) hacc
      exact (kacc.mono T).app (by simp only [List.filter_cons, hc, if_true, List.filter_nil]; exact .cons (kd2.mono T) .nil)
    | false =>
      refine iteF ⟨s2, acc, hacc, ?_⟩
      rw [← take_next hkx, List.filter_append]
      have e : [kx].filter Kd.isCalls = [] := by simp [hc]
      rw [e, List.append_nil]
      exact kacc
  · rintro H2 ⟨s2, acc, hacc, kacc⟩
    rw [kws.len, List.take_length] at kacc
    exact q D acc _ H2 (s1.free nD) hacc kacc (pm.filter _) (s1.trans s2)
theorem ok_names_in (F : Fun K "names_in" "names_in" s_names_in f fd) (c_kinds_in : Cal P w K mg base "kinds_in" 2 ["kind"] spKindsIn) : FnOk P w K mg base CX0 3 f fd ["kind"] spNamesIn := by
  refine F.ok sc_names_in (fun vs H Q E h => ?_) (fun cdv A outer s H vs Q E hr h => ?_)
  · obtain ⟨v, k, rfl, _⟩ := h
    rfl
  obtain ⟨v, k, rfl, hk, hs, q⟩ := h
  refine ⟨_, (pss_one (ps_ret (pe_lc (own := [("each", 1)]) (g := (gName 1)) rfl sc_names_in.nd (piL K rfl (pc c_kinds_in (hr.mono (by first | decide | omega)) (pa_cons (pv 0) pa_nil))) (blkOk_by (N := ["kind", "each"]) (sc := defScope s_names_in) (by decide +kernel)) (fun _ _ _ _ _ => (pg_name (i := 1) sc_names_in.nd rfl (Or.inl rfl) (hf := Or.inr rfl))) (fun _ _ _ _ _ => (pts_one (pt_cmpR op_eq (pe_ix (ixT K rfl) (pv 1) pe_int (fun _ _ => rfl)) pe_str (nomark _)))) (fun _ _ _ _ _ => (pe_ix (ixT K rfl) (pv 1) pe_int (fun _ _ => rfl)))))), ?_⟩
  refine ⟨_, rfl, v, k, rfl, hk, hs, fun r ws ks H1 nr hr1 kws pm s1 => ⟨r, rfl, ⟨_, SqL.of hr1⟩, fun D nD => lc_list (xs := ws) (Pnms H1 D ks) ?_ ?_ ?_ ?_⟩⟩
  · exact ⟨same_new nD _, upd_same⟩
  · exact fun i H2 _ p => SqL.of (p.1 _ _ hr1)
  · rintro i x H2 hx ⟨s2, hacc⟩
    obtain ⟨kx, hkx, kdx⟩ := kws.get i x hx
    have kd2 := kdx.mono (Tups.of_same s2)
    obtain ⟨a, w, rr, rfl, ha, _, e1, e2, _⟩ := kd2.head
    have l2 : ((ks.take i).filterMap Kd.nameOf).length ≤ 50000 := by
      have h1 := List.length_filterMap_le Kd.nameOf (ks.take i)
      have h2 := List.length_take_le' i ks
      have h3 := pm.length_eq
      rw [Kd.subs_len] at h3
      omega
    refine ⟨rfl, _, rfl, _, _, _, _, rfl, rfl, SqT.of ha, at_of rfl rfl, rfl, _, rfl, ?_⟩
    rw [e1]
    cases hc : kx.nameOf with
    | some x =>
      have er := e2 x hc
      subst er
      refine iteT ⟨_, rfl, _, _, _, .str x, rfl, rfl, SqT.of ha, at_of (j := 1) rfl rfl, _, hacc, line5 (by rw [List.length_map]; omega), Same.atNew s2 nD, ?_⟩
      rw [upd_same, ← take_next hkx, List.filterMap_append, List.map_append]
      have e : [kx].filterMap Kd.nameOf = [x] := by simp [hc]
      rw [e]
      rfl
    | none =>
      refine iteF ⟨s2, ?_⟩
      rw [← take_next hkx, List.filterMap_append]
      have e : [kx].filterMap Kd.nameOf = [] := by simp [hc]
      rw [e, List.append_nil]
      exact hacc
  · rintro H2 ⟨s2, hacc⟩
    rw [kws.len, List.take_length] at hacc
    exact q D _ H2 (s1.free nD) hacc (pm.filterMap _) (s1.trans s2)
theorem ok_ccc (B : Bn mg) (F : Fun K "has_calls_in_calls" "has_calls_in_calls" s_has_calls_in_calls f fd) (c_calls_in : Cal P w K mg base "calls_in" 3 ["kind"] spCallsIn) : FnOk P w K mg base CX0 4 f fd ["kind"] spCcc := by
  refine F.ok sc_has_calls_in_calls (fun vs H Q E h => ?_) (fun cdv A outer s H vs Q E hr h => ?_)
  · obtain ⟨v, k, rfl, _⟩ := h
    rfl
  obtain ⟨v, k, rfl, hk, hs, q⟩ := h
  refine ⟨_, (pss_one (ps_ret (pe_callB (anyOf K rfl rfl) (by rfl) B.b_any (by decide +kernel) (pa_cons (pe_lc (own := [("each", 1)]) (g := (gName 1)) rfl sc_has_calls_in_calls.nd (piL K rfl (pc c_calls_in (hr.mono (by first | decide | omega)) (pa_cons (pv 0) pa_nil))) (blkOk_by (N := ["kind", "each"]) (sc := defScope s_has_calls_in_calls) (by decide +kernel)) (fun _ _ _ _ _ => (pg_name (i := 1) sc_has_calls_in_calls.nd rfl (Or.inl rfl) (hf := Or.inr rfl))) (fun _ _ _ _ _ => pts_nil) (fun _ _ _ _ _ => (pe_cmpR op_gt (pe_callB (lenSeq K rfl) (by rfl) B.b_len PySem.boot_len (pa_cons (pc c_calls_in (hr.mono (by first | decide | omega)) (pa_cons (pv 1) pa_nil)) pa_nil)) pe_int (nomark _)))) pa_nil)))), ?_⟩
  refine ⟨_, rfl, v, k, rfl, hk, hs, fun r ws ks H1 nr hr1 kws pm s1 => ⟨r, rfl, ⟨_, SqL.of hr1⟩, fun D nD => lc_list (xs := ws) (Pbls H1 D (ks.map fun c => decide (1 < (c.subs.filter Kd.isCalls).length))) ?_ ?_ ?_ ?_⟩⟩
  · exact ⟨same_new nD _, upd_same⟩
  · exact fun i H2 _ p => SqL.of (p.1 _ _ hr1)
  · rintro i x H2 hx ⟨s2, hacc⟩
    obtain ⟨kx, hkx, kdx⟩ := kws.get i x hx
    have hkm : kx ∈ k.subs := (List.mem_filter.mp (pm.mem_iff.mp (List.mem_of_getElem? hkx))).1
    have hil : i < ks.length := (List.getElem?_eq_some_iff.mp hkx).1
    have hle := pm.length_eq
    have hfl := List.length_filter_le Kd.isCalls k.subs
    rw [Kd.subs_len] at hfl
    have hsz : kx.size ≤ 50000 := Nat.le_trans (Kd.subs_size hkm) hs
    refine ⟨rfl, _, rfl, x, kx, rfl, kdx.mono (Tups.of_same s2), hsz, fun r2 ws2 ks2 H3 nr2 hr3 kws2 pm2 s3 => ⟨r2, _, rfl, .inl (SqL.of hr3), _, _, rfl, rfl, _, s3 _ _ hacc, ?_, Same.atNew (s2.trans s3) nD, ?_⟩⟩
    · rw [List.length_map]
      have h2 := List.length_take_le' i (ks.map fun c => decide (1 < (c.subs.filter Kd.isCalls).length))
      rw [List.length_map] at h2
      exact line5 (by omega)
    · have hb : (ks.map fun c => decide (1 < (c.subs.filter Kd.isCalls).length))[i]? = some (decide (1 < (kx.subs.filter Kd.isCalls).length)) := by rw [List.getElem?_map, hkx]; rfl
      rw [upd_same, ← take_next hb, List.map_append]
      have e : (decide ((1 : Int) < ((ws2.length : Nat) : Int))) = decide (1 < (kx.subs.filter Kd.isCalls).length) := by
        rw [kws2.len, pm2.length_eq]
        exact decide_eq_decide.mpr (by omega)
      show some (HO.lst (_ ++ [V.bl (decide ((1 : Int) < ((ws2.length : Nat) : Int)))])) = _
      rw [e]
      rfl
  · rintro H2 ⟨s2, hacc⟩
    have hl : ws.length = (ks.map fun c => decide (1 < (c.subs.filter Kd.isCalls).length)).length := by rw [List.length_map, kws.len]
    rw [hl, List.take_length] at hacc
    refine ⟨D, _, rfl, SqL.of hacc, ?_⟩
    have e : (ks.map fun c => decide (1 < (c.subs.filter Kd.isCalls).length)).any id = k.ccc := by
      unfold Kd.ccc
      rw [List.any_map, ← any_perm pm]
      rfl
    rw [e]
    exact q H2 (s1.trans s2)
end
end My
namespace My
open PySem L2
/-- a dict whose text keys are these names -/
def DKeys (H : Hp) (a : Addr) (ns : List Str) : Prop := ∃ kvs, Rd H a (.dK kvs) ∧ ∀ x : Str, (valV kvs (Sum.inr x : Key)).isSome = decide (x ∈ ns)
theorem rdSame {H H' : Hp} {a : Addr} {o : HO} (h : Rd H a o) (s : Same H H') : Rd H' a o := by
  rcases h with h | ⟨u, h⟩
  · exact .inl (s _ _ h)
  · exact .inr ⟨u, s _ _ h⟩
theorem DKeys.same {H H' : Hp} {a : Addr} {ns : List Str} (h : DKeys H a ns) (s : Same H H') : DKeys H' a ns := by
  obtain ⟨kvs, r, k⟩ := h
  exact ⟨kvs, rdSame r s, k⟩
theorem DKeys.get {H : Hp} {a : Addr} {ns : List Str} (h : DKeys H a ns) (x : Str) : ∃ o, DGet H a (.str x) o ∧ o.isSome = decide (x ∈ ns) := by
  obtain ⟨kvs, r, k⟩ := h
  exact ⟨_, .inl ⟨kvs, .inr x, r, rfl, rfl⟩, k x⟩
def Kd.arity : Kd → Nat
  | .calls ps _ => ps.length
  | _ => 0
/-- a kind that may stand in a declaration or a door, over these names -/
def Kd.sound (ns : List Str) (k : Kd) : Bool :=
  decide (k.depth ≤ 4) && (!k.ccc && ((k.subs.filter Kd.isCalls).all (fun c => decide (c.arity ≤ 3)) && (k.subs.filterMap Kd.nameOf).all fun x => decide (x ∈ ns)))
def spSound : Sp := fun vs H Q _ => ∃ (da : Addr) (ns : List Str) (v : V) (k : Kd), vs = [.ref da, v] ∧ DKeys H da ns ∧ KdAt H v k ∧ k.size ≤ 50000 ∧ ∀ H', Same H H' → Q (.bl (k.sound ns)) H'
/-- a name -/
def nmOk (z : Str) : Bool := !(decide (z ∈ (["num", "text"] : List Str))) && (decide (1 ≤ z.length) && decide (z.length ≤ 8)) && z.cps.toList.all fun c => decide (c ∈ abc.cps.toList)
def spIsName : Sp := fun vs H Q _ => ∃ (z : Str), vs = [.str z] ∧ z.length ≤ 100000 ∧ ∀ H', Same H H' → Q (.bl (nmOk z)) H'
def spTwice (K : PySem.W.Frag) : Sp := fun vs H Q _ => ∃ (l : Addr) (xs : List Str), vs = [.ref l] ∧ (SqL K H l (xs.map V.str) ∨ SqT K H l (xs.map V.str)) ∧ xs.length ≤ 1000 ∧ ∀ H', Same H H' → Q (.bl (!decide xs.Nodup)) H'
/-- names of rows -/
def nmsOk (xs : List Str) : Bool := decide (xs.length ≤ 6) && (xs.all nmOk && decide xs.Nodup)
def spNamesSound (K : PySem.W.Frag) : Sp := fun vs H Q _ => ∃ (l : Addr) (xs : List Str), vs = [.ref l] ∧ SqL K H l (xs.map V.str) ∧ xs.length ≤ 1000 ∧ (∀ x ∈ xs, x.length ≤ 100000) ∧ ∀ H', Same H H' → Q (.bl (nmsOk xs)) H'
section
variable {P : Program} {w : World} {K : PySem.W.Frag} {mg : Str → Option Value} {base : Heap} {f : Addr} {fd : FuncData} {aT aF : Addr}
theorem ok_sound (B : Bn mg) (M : Mn K mg aT aF) (F : Fun K "kind_is_sound" "kind_is_sound" s_kind_is_sound f fd) (c_depth : Cal P w K mg base "depth" 2 ["kind"] spDepth) (c_calls_in : Cal P w K mg base "calls_in" 3 ["kind"] spCallsIn)
    (c_names_in : Cal P w K mg base "names_in" 3 ["kind"] spNamesIn) (c_has_calls_in_calls : Cal P w K mg base "has_calls_in_calls" 4 ["kind"] spCcc) : FnOk P w K mg base CX0 5 f fd ["declared", "kind"] spSound := by
  refine F.ok sc_kind_is_sound (fun vs H Q E h => ?_) (fun cdv A outer s H vs Q E hr h => ?_)
  · obtain ⟨da, ns, v, k, rfl, _⟩ := h
    rfl
  obtain ⟨da, ns, v, k, rfl, hd, hk, hs, q⟩ := h
  refine ⟨_, (pss_one (ps_ret (pe_and (pe_cmpR op_le (pc c_depth (hr.mono (by first | decide | omega)) (pa_cons (pv 1) pa_nil)) (pgI M.m_DEEPEST) (nomark _)) (pe_and (pe_not (pc c_has_calls_in_calls (hr.mono (by first | decide | omega)) (pa_cons (pv 1) pa_nil))) (pe_and (pe_callB (allOf K rfl rfl) (by rfl) B.b_all (by decide +kernel) (pa_cons (pe_lc (own := [("each", 2)]) (g := (gName 2)) rfl sc_kind_is_sound.nd (piL K rfl (pc c_calls_in (hr.mono (by first | decide | omega)) (pa_cons (pv 1) pa_nil))) (blkOk_by (N := ["declared", "kind", "each", "name"]) (sc := defScope s_kind_is_sound) (by decide +kernel)) (fun _ _ _ _ _ => (pg_name (i := 2) sc_kind_is_sound.nd rfl (Or.inl rfl) (hf := Or.inr rfl))) (fun _ _ _ _ _ => pts_nil) (fun _ _ _ _ _ => (pe_cmpR op_le (pe_callB (lenSeq K rfl) (by rfl) B.b_len PySem.boot_len (pa_cons (pe_ix (ixT K rfl) (pv 2) pe_int (fun _ _ => rfl)) pa_nil)) (pgI M.m_MOST_CALLED) (nomark _)))) pa_nil)) (pe_one (pe_callB (allOf K rfl rfl) (by rfl) B.b_all (by decide +kernel) (pa_cons (pe_lc (own := [("name", 3)]) (g := (gName 3)) rfl sc_kind_is_sound.nd (piL K rfl (pc c_names_in (hr.mono (by first | decide | omega)) (pa_cons (pv 1) pa_nil))) (blkOk_by (N := ["declared", "kind", "each", "name"]) (sc := defScope s_kind_is_sound) (by decide +kernel)) (fun _ _ _ _ _ => (pg_name (i := 3) sc_kind_is_sound.nd rfl (Or.inl rfl) (hf := Or.inr rfl))) (fun _ _ _ _ _ => pts_nil) (fun _ _ _ _ _ => (pe_cmp (pc_din (hu_of hr) (pv 3) (pv 0)) rfl))) pa_nil)))))))), ?_⟩
  refine ⟨_, rfl, v, k, rfl, hk, by omega, fun H1 s1 => ⟨_, _, rfl, rfl, _, rfl, ?_⟩⟩
  have e0 : decide ((k.depth : Int) ≤ 4) = decide (k.depth ≤ 4) := decide_eq_decide.mpr (by omega)
  rw [e0]
  cases c0 : decide (k.depth ≤ 4) with
  | false =>
    refine iteF ?_
    have e : k.sound ns = false := by unfold Kd.sound; rw [c0]; rfl
    rw [← e]
    exact q H1 s1
  | true =>
    refine iteT ?_
    refine ⟨_, rfl, v, k, rfl, hk.mono (Tups.of_same s1), hs, fun H2 s2 => ⟨_, rfl, _, rfl, ?_⟩⟩
    have s12 := s1.trans s2
    cases c1 : (!k.ccc) with
    | false =>
      refine iteF ?_
      have e : k.sound ns = false := by unfold Kd.sound; rw [c0, c1]; rfl
      rw [← e]
      exact q H2 s12
    | true =>
      refine iteT ?_
      refine ⟨_, rfl, v, k, rfl, hk.mono (Tups.of_same s12), hs, fun r ws ks H3 nr hr3 kws pm s3 => ⟨r, rfl, ⟨_, SqL.of hr3⟩, fun D nD => lc_list (xs := ws) (Pbls H3 D (ks.map fun c => decide (c.arity ≤ 3))) ?_ ?_ ?_ ?_⟩⟩
      · exact ⟨same_new nD _, upd_same⟩
      · exact fun i H4 _ p => SqL.of (p.1 _ _ hr3)
      · rintro i x H4 hx ⟨s4, hacc⟩
        obtain ⟨kx, hkx, kdx⟩ := kws.get i x hx
        have kd2 := kdx.mono (Tups.of_same s4)
        obtain ⟨a, w, rr, rfl, ha, _, _, _, e2⟩ := kd2.head
        have hkm := (List.mem_filter.mp (pm.mem_iff.mp (List.mem_of_getElem? hkx)))
        obtain ⟨ps, qq, rfl⟩ : ∃ ps qq, kx = Kd.calls ps qq := by
          cases kx with
          | calls ps qq => exact ⟨_, _, rfl⟩
          | num => exact absurd hkm.2 (by decide)
          | text => exact absurd hkm.2 (by decide)
          | of x => exact absurd hkm.2 (by simp [Kd.isCalls])
          | row x => exact absurd hkm.2 (by simp [Kd.isCalls])
          | answers n x => exact absurd hkm.2 (by simp [Kd.isCalls])
        obtain ⟨b, vs, u, rfl, hb, lb⟩ := e2 ps qq rfl
        have hil : i < ks.length := (List.getElem?_eq_some_iff.mp hkx).1
        have hle := pm.length_eq
        have hfl := List.length_filter_le Kd.isCalls k.subs
        rw [Kd.subs_len] at hfl
        refine ⟨rfl, _, rfl, _, _, _, _, rfl, rfl, SqT.of ha, at_of (j := 1) rfl rfl, b, _, rfl, .inr (SqT.of hb), _, _, rfl, rfl, _, hacc, ?_, Same.atNew s4 nD, ?_⟩
        · rw [List.length_map]
          have h2 := List.length_take_le' i (ks.map fun c => decide (c.arity ≤ 3))
          rw [List.length_map] at h2
          exact line5 (by omega)
        · have hb2 : (ks.map fun c => decide (c.arity ≤ 3))[i]? = some (decide (ps.length ≤ 3)) := by rw [List.getElem?_map, hkx]; rfl
          rw [upd_same, ← take_next hb2, List.map_append]
          have e : (decide (((vs.length : Nat) : Int) ≤ 3)) = decide (ps.length ≤ 3) := by
            rw [lb]
            exact decide_eq_decide.mpr (by omega)
          show some (HO.lst (_ ++ [V.bl (decide (((vs.length : Nat) : Int) ≤ 3))])) = _
          rw [e]
          rfl
      rintro H4 ⟨s4, hacc⟩
      have hl : ws.length = (ks.map fun c => decide (c.arity ≤ 3)).length := by rw [List.length_map, kws.len]
      rw [hl, List.take_length] at hacc
      refine ⟨D, _, rfl, SqL.of hacc, _, rfl, ?_⟩
      have e : (ks.map fun c => decide (c.arity ≤ 3)).all id = (k.subs.filter Kd.isCalls).all fun c => decide (c.arity ≤ 3) := by
        rw [List.all_map, ← all_perm pm]
        rfl
      rw [e]
      have s14 := s12.trans (s3.trans s4)
      cases c2 : (k.subs.filter Kd.isCalls).all fun c => decide (c.arity ≤ 3) with
      | false =>
        refine iteF ?_
        have e : k.sound ns = false := by unfold Kd.sound; rw [c0, c1, c2]; rfl
        rw [← e]
        exact q H4 s14
      | true =>
        refine iteT ?_
        refine ⟨_, rfl, v, k, rfl, hk.mono (Tups.of_same s14), hs, fun r2 xs H5 nr2 hr5 pm2 s5 => ⟨r2, rfl, ⟨_, SqL.of hr5⟩, fun D2 nD2 => lc_list (xs := xs.map V.str) (Pbls H5 D2 (xs.map fun x => decide (x ∈ ns))) ?_ ?_ ?_ ?_⟩⟩
        · exact ⟨same_new nD2 _, upd_same⟩
        · exact fun i H6 _ p => SqL.of (p.1 _ _ hr5)
        · rintro i x H6 hx ⟨s6, hacc6⟩
          rw [List.getElem?_map] at hx
          obtain ⟨sx, hsx, rfl⟩ := Option.map_eq_some_iff.mp hx
          have hil : i < xs.length := (List.getElem?_eq_some_iff.mp hsx).1
          have hle := pm2.length_eq
          have hfl := List.length_filterMap_le Kd.nameOf k.subs
          rw [Kd.subs_len] at hfl
          obtain ⟨o, go, eo⟩ := ((hd.same s14).same (s5.trans s6)).get sx
          refine ⟨rfl, _, rfl, _, rfl, da, o, rfl, go, _, hacc6, ?_, Same.atNew s6 nD2, ?_⟩
          · rw [List.length_map]
            have h2 := List.length_take_le' i (xs.map fun x => decide (x ∈ ns))
            rw [List.length_map] at h2
            exact line5 (by omega)
          · have hb2 : (xs.map fun x => decide (x ∈ ns))[i]? = some (decide (sx ∈ ns)) := by rw [List.getElem?_map, hsx]; rfl
            rw [upd_same, ← take_next hb2, List.map_append, eo]
            rfl
        rintro H6 ⟨s6, hacc6⟩
        have hl2 : (xs.map V.str).length = (xs.map fun x => decide (x ∈ ns)).length := by rw [List.length_map, List.length_map]
        rw [hl2, List.take_length] at hacc6
        refine ⟨D2, _, rfl, SqL.of hacc6, ?_⟩
        have e2 : (xs.map fun x => decide (x ∈ ns)).all id = k.sound ns := by
          unfold Kd.sound
          rw [c0, c1, c2, List.all_map, ← all_perm pm2]
          rfl
        rw [e2]
        exact q H6 (s14.trans (s5.trans s6))
theorem ok_is_name (B : Bn mg) (M : Mn K mg aT aF) (F : Fun K "is_name" "is_name" s_is_name f fd) : FnOk P w K mg base CX0 1 f fd ["text"] spIsName := by
  refine F.ok sc_is_name (fun vs H Q E h => ?_) (fun cdv A outer s H vs Q E hr h => ?_)
  · obtain ⟨z, rfl, _⟩ := h
    rfl
  obtain ⟨z, rfl, hz, q⟩ := h
  refine ⟨_, (pss_cons (ps_if (PW.pt (pw_or (pt_cmpR (inSeq K rfl) (pv 0) (pgT M.m_TAKEN) (by rfl)) (pw_or1 (pt_not (pt_chain op_le op_le pe_int (pe_callB call_len_str (by rfl) B.b_len PySem.boot_len (pa_cons (pv 0) pa_nil)) (pgI M.m_LONGEST)))))) (pss_one (ps_ret pe_bl)) pss_nil)
    (pss_one (ps_ret (pe_callB (allOf K rfl rfl) (by rfl) B.b_all (by decide +kernel) (pa_cons (pe_lc (own := [("sign", 1)]) (g := (gName 1)) rfl sc_is_name.nd (pi_str (pv 0)) (blkOk_by (N := ["text", "sign"]) (sc := defScope s_is_name) (by decide +kernel)) (fun _ _ _ _ _ => (pg_name (i := 1) sc_is_name.nd rfl (Or.inl rfl) (hf := Or.inr rfl))) (fun _ _ _ _ _ => pts_nil) (fun _ _ _ _ _ => (pe_cmpR op_in_sign (pv 1) (pgS M.m_LETTERS) (by rfl)))) pa_nil))))), ?_⟩
  have hzl : z.length ≤ sizeLine := Nat.le_of_lt (line5 hz)
  refine ⟨_, rfl, aT, _, rfl, .inr (M.q_TAKEN H), rfl, by rfl, _, rfl, ?_⟩
  have e0 : (if false = true then !inV (.str z) [V.str "num", V.str "text"] else inV (.str z) [V.str "num", V.str "text"]) = decide (z ∈ (["num", "text"] : List Str)) := inV_str (us := ["num", "text"])
  rw [e0]
  cases c0 : decide (z ∈ (["num", "text"] : List Str)) with
  | true =>
    refine iteT ?_
    have e : nmOk z = false := by unfold nmOk; rw [c0]; rfl
    rw [← e]
    exact q H (Same.refl _)
  | false =>
    refine iteF ?_
    refine ⟨_, rfl, _, rfl, hzl, _, _, rfl, rfl, _, rfl, ?_⟩
    have e1 : decide ((1 : Int) ≤ ((z.length : Nat) : Int)) = decide (1 ≤ z.length) := decide_eq_decide.mpr (by omega)
    have e2 : decide (((z.length : Nat) : Int) ≤ 8) = decide (z.length ≤ 8) := decide_eq_decide.mpr (by omega)
    rw [e1]
    cases c1 : decide (1 ≤ z.length) with
    | false =>
      refine iteF ⟨_, rfl, ?_⟩
      refine iteT ?_
      have e : nmOk z = false := by unfold nmOk; rw [c0, c1]; rfl
      rw [← e]
      exact q H (Same.refl _)
    | true =>
      refine iteT ⟨_, _, rfl, rfl, _, rfl, ?_⟩
      rw [e2]
      cases c2 : decide (z.length ≤ 8) with
      | false =>
        refine iteT ?_
        have e : nmOk z = false := by unfold nmOk; rw [c0, c1, c2]; rfl
        rw [← e]
        exact q H (Same.refl _)
      | true =>
        refine iteF ?_
        refine ⟨_, rfl, z, rfl, fun D nD => ⟨fun i m H' => m = z.cps.toList.length - i ∧ i ≤ z.cps.toList.length ∧ Pbls H D (z.cps.toList.map fun c => decide (c ∈ abc.cps.toList)) i H', ⟨z.cps.toList.length, by simp, Nat.zero_le _, same_new nD _, upd_same⟩, ?_⟩⟩
        rintro i m H1 ⟨rfl, hi, s1, hacc⟩
        have hsz : z.cps.toList.length = z.cps.size := Array.length_toList
        have hzs : z.cps.size ≤ 100000 := hz
        by_cases hlt : i < z.cps.toList.length
        · refine .inr ⟨by show i < z.cps.size; omega, Pbls H D (z.cps.toList.map fun c => decide (c ∈ abc.cps.toList)) (i + 1), fun H' p' => ⟨z.cps.toList.length - (i + 1), by omega, rfl, hlt, p'⟩, fun x H' y => ?_⟩
          obtain ⟨e, c, hc, rfl⟩ := y
          subst e
          have hc2 : z.cps.toList[i]? = some c := by rw [Array.getElem?_toList]; exact hc
          refine ⟨rfl, _, rfl, c, _, rfl, rfl, _, hacc, ?_, Same.atNew s1 nD, ?_⟩
          · rw [List.length_map]
            have h2 := List.length_take_le' i (z.cps.toList.map fun c => decide (c ∈ abc.cps.toList))
            rw [List.length_map] at h2
            exact line5 (by omega)
          · have hb2 : (z.cps.toList.map fun c => decide (c ∈ abc.cps.toList))[i]? = some (decide (c ∈ abc.cps.toList)) := by rw [List.getElem?_map, hc2]; rfl
            rw [upd_same, ← take_next hb2, List.map_append]
            rfl
        · have e : i = z.cps.toList.length := by omega
          subst e
          refine .inl ⟨by show z.cps.size ≤ _; omega, ?_⟩
          have hl2 : z.cps.toList.length = (z.cps.toList.map fun c => decide (c ∈ abc.cps.toList)).length := by rw [List.length_map]
          rw [hl2, List.take_length] at hacc
          refine ⟨D, _, rfl, SqL.of hacc, ?_⟩
          have e : (z.cps.toList.map fun c => decide (c ∈ abc.cps.toList)).all id = nmOk z := by
            unfold nmOk
            rw [c0, c1, c2, List.all_map]
            rfl
          rw [e]
          exact q H1 s1
theorem ok_twice (B : Bn mg) (F : Fun K "any_twice" "any_twice" s_any_twice f fd) : FnOk P w K mg base CX0 1 f fd ["names"] (spTwice K) := by
  refine F.ok sc_any_twice (fun vs H Q E h => ?_) (fun cdv A outer s H vs Q E hr h => ?_)
  · obtain ⟨l, xs, rfl, _⟩ := h
    rfl
  obtain ⟨l, xs, rfl, hl, hx, q⟩ := h
  refine ⟨_, (pss_one (ps_ret (pe_cmpR op_lt (pe_once K rfl rfl B.b_len B.b_set (pv 0)) (pe_callB (lenSeq K rfl) (by rfl) B.b_len PySem.boot_len (pa_cons (pv 0) pa_nil)) (nomark _)))), ?_⟩
  refine ⟨_, rfl, l, xs, rfl, hl, hx, _, rfl, l, _, rfl, hl, _, _, rfl, rfl, ?_⟩
  have e : decide (((once xs).length : Int) < (((xs.map V.str).length : Nat) : Int)) = !decide xs.Nodup := by
    rw [List.length_map]
    have h1 := @once_lt xs
    by_cases h : xs.Nodup
    · have : ¬ (once xs).length < xs.length := fun z => (h1.mp z) h
      rw [decide_eq_false (by omega), decide_eq_true h]
      rfl
    · have := h1.mpr h
      rw [decide_eq_true (by omega), decide_eq_false h]
      rfl
  rw [← e] at q
  exact q H (Same.refl _)
theorem ok_names_sound (B : Bn mg) (M : Mn K mg aT aF) (F : Fun K "names_are_sound" "names_are_sound" s_names_are_sound f fd) (c_is_name : Cal P w K mg base "is_name" 1 ["text"] spIsName) (c_any_twice : Cal P w K mg base "any_twice" 1 ["names"] (spTwice K)) :
    FnOk P w K mg base CX0 2 f fd ["names"] (spNamesSound K) := by
  refine F.ok sc_names_are_sound (fun vs H Q E h => ?_) (fun cdv A outer s H vs Q E hr h => ?_)
  · obtain ⟨l, xs, rfl, _⟩ := h
    rfl
  obtain ⟨l, xs, rfl, hl, hx, hxl, q⟩ := h
  refine ⟨_, (pss_one (ps_ret (pe_and (pe_cmpR op_le (pe_callB (lenSeq K rfl) (by rfl) B.b_len PySem.boot_len (pa_cons (pv 0) pa_nil)) (pgI M.m_MOST_ROWS) (nomark _)) (pe_and (pe_callB (allOf K rfl rfl) (by rfl) B.b_all (by decide +kernel) (pa_cons (pe_lc (own := [("name", 1)]) (g := (gName 1)) rfl sc_names_are_sound.nd (piL K rfl (pv 0)) (blkOk_by (N := ["names", "name"]) (sc := defScope s_names_are_sound) (by decide +kernel)) (fun _ _ _ _ _ => (pg_name (i := 1) sc_names_are_sound.nd rfl (Or.inl rfl) (hf := Or.inr rfl))) (fun _ _ _ _ _ => pts_nil) (fun _ _ _ _ _ => (pc c_is_name (hr.mono (by first | decide | omega)) (pa_cons (pv 1) pa_nil)))) pa_nil)) (pe_one (pe_not (pc c_any_twice (hr.mono (by first | decide | omega)) (pa_cons (pv 0) pa_nil)))))))), ?_⟩
  refine ⟨_, rfl, l, _, rfl, .inl hl, _, _, rfl, rfl, _, rfl, ?_⟩
  have e0 : decide ((((xs.map V.str).length : Nat) : Int) ≤ 6) = decide (xs.length ≤ 6) := decide_eq_decide.mpr (by rw [List.length_map]; omega)
  rw [e0]
  cases c0 : decide (xs.length ≤ 6) with
  | false =>
    refine iteF ?_
    have e : nmsOk xs = false := by unfold nmsOk; rw [c0]; rfl
    rw [← e]
    exact q H (Same.refl _)
  | true =>
    refine iteT ?_
    refine ⟨_, rfl, l, rfl, ⟨_, hl⟩, fun D nD => lc_list (xs := xs.map V.str) (Pbls H D (xs.map nmOk)) ?_ ?_ ?_ ?_⟩
    · exact ⟨same_new nD _, upd_same⟩
    · exact fun i H1 _ p => p.1.seq hl
    · rintro i x H1 hx1 ⟨s1, hacc⟩
      rw [List.getElem?_map] at hx1
      obtain ⟨sx, hsx, rfl⟩ := Option.map_eq_some_iff.mp hx1
      have hil : i < xs.length := (List.getElem?_eq_some_iff.mp hsx).1
      refine ⟨rfl, _, rfl, sx, rfl, hxl sx (List.mem_of_getElem? hsx), fun H2 s2 => ⟨_, s2 _ _ hacc, ?_, Same.atNew (s1.trans s2) nD, ?_⟩⟩
      · rw [List.length_map]
        have h2 := List.length_take_le' i (xs.map nmOk)
        rw [List.length_map] at h2
        exact line5 (by omega)
      · have hb2 : (xs.map nmOk)[i]? = some (nmOk sx) := by rw [List.getElem?_map, hsx]; rfl
        rw [upd_same, ← take_next hb2, List.map_append]
        rfl
    rintro H1 ⟨s1, hacc⟩
    have hl2 : (xs.map V.str).length = (xs.map nmOk).length := by rw [List.length_map, List.length_map]
    rw [hl2, List.take_length] at hacc
    refine ⟨D, _, rfl, SqL.of hacc, _, rfl, ?_⟩
    have e1 : (xs.map nmOk).all id = xs.all nmOk := by rw [List.all_map]; rfl
    rw [e1]
    cases c1 : xs.all nmOk with
    | false =>
      refine iteF ?_
      have e : nmsOk xs = false := by unfold nmsOk; rw [c0, c1]; rfl
      rw [← e]
      exact q H1 s1
    | true =>
      refine iteT ?_
      refine ⟨_, rfl, l, xs, rfl, .inl (s1.seq hl), hx, fun H2 s2 => ⟨_, rfl, ?_⟩⟩
      have e : nmsOk xs = !(!decide xs.Nodup) := by unfold nmsOk; rw [c0, c1]; simp
      rw [← e]
      exact q H2 (s1.trans s2)
end
end My
namespace My
open PySem PySem.Spec PySem.AutoSeq1 PySem.MeetsSeq PySem.MeetsSeq2 PySem.MeetsSeq3 PySem.SeqRoads2
set_option maxHeartbeats 4000000 in
theorem ext_tup (l b : Addr) (us vs : Array Value) (n m : Nat) (dd : Option Addr) (sl : Array (Option Value)) (long : ¬(!us.isEmpty && Builtin.List.listTooLong (us.size + vs.size)) = true) (z1 : us.size ≤ sizeLine) (z2 : us.size + vs.size ≤ sizeLine + 1) :
    Meets (Builtin.«list.extend» ⟨[.ref l, .ref b], []⟩) (fun _ R s => s.heap.get? l = some { cls := .type "list", dict := none, data := .seq us n, slots := #[] } ∧
      s.heap.get? b = some { cls := .type "tuple", dict := dd, data := .seq vs m, slots := sl } ∧ R (.ok (.ret Value.none)) { s with heap := s.heap.update l (Obj.mapSeq fun x => x ++ vs), toks := s.toks }) :=
  .of_wp fun prog w A R s h => by
    obtain ⟨hp, g, d, tk, os⟩ := s
    obtain ⟨hl, hb, h⟩ := h
    have f1 := idx_int; have f2 := sub_tuple_tuple; have f3 := sub_list_list
    have f4 := sub_tuple_list; have f5 := sub_list_tuple
    have z3 : (us ++ vs).size ≤ sizeLine + 1 := by rw [Array.size_append]; exact z2
    wp_walk using (wpAny_updateSeq hl rfl (hz := z1) (_hz' := z3)), wpAny_loadPart' hl, wpAny_loadPart' hb
    exact ⟨_, rfl, h⟩
open L2 PyProof.Rows
/-- xs.extend(t), t a tuple -/
def rExtT (K : PySem.W.Frag) : V → List V → Hp → VK → Prop := fun x ws H Q => ∃ (l b : Addr) (xs zs : List V), x = .ref l ∧ ws = [.ref b] ∧ H l = some (.lst xs) ∧ SqT K H b zs ∧
  xs.length + zs.length ≤ sizeLine ∧ Q .non (upd H l (.lst (xs ++ zs)))
theorem mt_extendT {X : Cx} (K : PySem.W.Frag) (hK : X.K = K) : MtM X "list.extend" (rExtT K) := by
  subst hK
  intro pins s σ H x ws v us Q I rx rv h
  obtain ⟨l, b, xs, zs, rfl, rfl, hl, hb, hz, q⟩ := h
  cases rx
  obtain ⟨u, rfl, ru⟩ := rv.one
  cases ru
  obtain ⟨z, its, n, r, e1, e⟩ := I.lstM hl
  obtain ⟨its2, r2, ⟨⟨c, dd, dt, sl⟩, e2, e3, m, e4⟩, _⟩ := I.tuple hb
  simp only at e3 e4
  subst e3 e4
  have l1 := r.length
  have l2 := r2.length
  have sz : its.toArray.size + its2.toArray.size ≤ sizeLine := by rw [List.size_toArray, List.size_toArray]; omega
  have long : ¬ (!its.toArray.isEmpty && Builtin.List.listTooLong (its.toArray.size + its2.toArray.size)) = true := by
    rw [notLongL sz, Bool.and_false]
    exact Bool.false_ne_true
  refine call_meets PySem.F.slot_list_extend ⟨_, e, rfl⟩ PySem.F.entry_list_extend (PySem.F.args_list_extend_2 _ _) (ext_tup l b its.toArray its2.toArray n m dd sl long (by omega) (by omega)) ⟨e, e2, ?_⟩
  exact ⟨.non, _, I.lset (its' := its ++ its2) hl e (by simp) (r.append r2) (by rw [List.length_append]; omega), rfl, q⟩
end My
namespace My
open PySem L2
/-! declarations and doors -/
abbrev Fld := Str × Kd × Bool
inductive Decl where
  | record (fs : List Fld) (up : List Str)
  | choice (cs : List (Str × Option Kd)) (shut : Bool)
  | hidden (up : List Str)
def Decl.up : Decl → List Str
  | .record _ up => up
  | .choice _ _ => []
  | .hidden up => up
def FldAt (H : Hp) (v : V) (p : Fld) : Prop := ∃ a kv, v = .ref a ∧ H a = some (.tup [.str p.1, kv, .bl p.2.2]) ∧ KdAt H kv p.2.1
def CaseAt (H : Hp) (v : V) (p : Str × Option Kd) : Prop := ∃ a cv, v = .ref a ∧ H a = some (.tup [.str p.1, cv]) ∧ ((p.2 = none ∧ cv = .non) ∨ ∃ k, p.2 = some k ∧ KdAt H cv k)
inductive DeclAt (H : Hp) : V → Decl → Prop
  | record {a b c : Addr} {fvs : List V} {fs : List Fld} {up : List Str} (h : H a = some (.tup [.str "record", .ref b, .ref c])) (hb : H b = some (.tup fvs)) (hf : Paired (FldAt H) fvs fs) (hc : H c = some (.tup (up.map V.str))) : DeclAt H (.ref a) (.record fs up)
  | choice {a b : Addr} {cvs : List V} {cs : List (Str × Option Kd)} {shut : Bool} (h : H a = some (.tup [.str "choice", .ref b, .bl shut])) (hb : H b = some (.tup cvs)) (hf : Paired (CaseAt H) cvs cs) : DeclAt H (.ref a) (.choice cs shut)
  | hidden {a c : Addr} {up : List Str} (h : H a = some (.tup [.str "hidden", .ref c])) (hc : H c = some (.tup (up.map V.str))) : DeclAt H (.ref a) (.hidden up)
theorem FldAt.mono {H H' : Hp} (t : Tups H H') {v : V} {p : Fld} (h : FldAt H v p) : FldAt H' v p := by
  obtain ⟨a, kv, e, h, k⟩ := h
  exact ⟨a, kv, e, t _ _ h, k.mono t⟩
theorem CaseAt.mono {H H' : Hp} (t : Tups H H') {v : V} {p : Str × Option Kd} (h : CaseAt H v p) : CaseAt H' v p := by
  obtain ⟨a, cv, e, h, k⟩ := h
  refine ⟨a, cv, e, t _ _ h, ?_⟩
  rcases k with k | ⟨k, e, z⟩
  · exact .inl k
  · exact .inr ⟨k, e, z.mono t⟩
theorem DeclAt.mono {H H' : Hp} (t : Tups H H') {v : V} {d : Decl} (h : DeclAt H v d) : DeclAt H' v d := by
  cases h with
  | record h hb hf hc => exact .record (t _ _ h) (t _ _ hb) (Paired.mono (fun _ _ z => FldAt.mono t z) hf) (t _ _ hc)
  | choice h hb hf => exact .choice (t _ _ h) (t _ _ hb) (Paired.mono (fun _ _ z => CaseAt.mono t z) hf)
  | hidden h hc => exact .hidden (t _ _ h) (t _ _ hc)
/-- directly_above -/
def spDirect : Sp := fun vs H Q _ => ∃ (v : V) (d : Decl), vs = [v] ∧ DeclAt H v d ∧ ∀ (b : Addr) (H' : Hp), Same H H' → H' b = some (.tup (d.up.map V.str)) → Q (.ref b) H'
/-- the declarations by their names -/
def DeclsAt (H : Hp) (kvs : List (Key × V)) (ds : List (Str × Decl)) : Prop := Paired (fun (p : Key × V) (q : Str × Decl) => p.1 = .inr q.1 ∧ DeclAt H p.2 q.2) kvs ds
def DeclD (H : Hp) (a : Addr) (ds : List (Str × Decl)) : Prop := ∃ kvs, Rd H a (.dK kvs) ∧ DeclsAt H kvs ds
def look (ds : List (Str × Decl)) (x : Str) : Option Decl := (ds.find? fun p => decide (p.1 = x)).map (·.2)
theorem DeclsAt.mono {H H' : Hp} (t : Tups H H') {kvs : List (Key × V)} {ds : List (Str × Decl)} (h : DeclsAt H kvs ds) : DeclsAt H' kvs ds := Paired.mono (fun _ _ z => ⟨z.1, z.2.mono t⟩) h
theorem DeclD.same {H H' : Hp} {a : Addr} {ds : List (Str × Decl)} (h : DeclD H a ds) (s : Same H H') : DeclD H' a ds := by
  obtain ⟨kvs, r, p⟩ := h
  exact ⟨kvs, rdSame r s, p.mono (Tups.of_same s)⟩
theorem key_inr (x y : Str) : (Sum.inr x : Key) = Sum.inr y ↔ x = y := ⟨fun h => Sum.inr.inj h, fun h => by rw [h]⟩
theorem DeclsAt.val {H : Hp} {x : Str} : ∀ {kvs : List (Key × V)} {ds : List (Str × Decl)}, DeclsAt H kvs ds → (look ds x = none ∧ valV kvs (Sum.inr x : Key) = none) ∨ ∃ d v, look ds x = some d ∧ valV kvs (Sum.inr x : Key) = some v ∧ DeclAt H v d
  | [], [], .nil => .inl ⟨rfl, rfl⟩
  | p :: kvs, q :: ds, .cons h t => by
    obtain ⟨e, hd⟩ := h
    by_cases c : q.1 = x
    · refine .inr ⟨q.2, p.2, ?_, ?_, hd⟩
      · unfold look
        rw [List.find?_cons_of_pos (by simp [c])]
        rfl
      · unfold valV
        rw [List.find?_cons_of_pos (by simp [e, c])]
        rfl
    · have e1 : look (q :: ds) x = look ds x := by
        unfold look
        rw [List.find?_cons_of_neg (by simp [c])]
      have e2 : valV (p :: kvs) (Sum.inr x : Key) = valV kvs (Sum.inr x) := by
        unfold valV
        rw [List.find?_cons_of_neg (by rw [e]; simp [c])]
      rw [e1, e2]
      exact DeclsAt.val t
theorem look_some {ds : List (Str × Decl)} {x : Str} : (look ds x).isSome = decide (x ∈ ds.map (·.1)) := by
  unfold look
  induction ds with
  | nil => rfl
  | cons p r ih =>
    by_cases c : p.1 = x
    · rw [List.find?_cons_of_pos (by simp [c])]
      simp [c]
    · rw [List.find?_cons_of_neg (by simp [c]), ih]
      have c2 : ¬ x = p.1 := fun e => c e.symm
      simp [c2]
theorem DeclD.keys {H : Hp} {a : Addr} {ds : List (Str × Decl)} (h : DeclD H a ds) : DKeys H a (ds.map (·.1)) := by
  obtain ⟨kvs, r, p⟩ := h
  refine ⟨kvs, r, fun x => ?_⟩
  rw [← look_some]
  rcases p.val (x := x) with ⟨e1, e2⟩ | ⟨d, v, e1, e2, _⟩ <;> simp [e1, e2]
theorem DeclD.get {H : Hp} {a : Addr} {ds : List (Str × Decl)} (h : DeclD H a ds) {x : Str} {d : Decl} (e : look ds x = some d) : ∃ v, DGet H a (.str x) (some v) ∧ DeclAt H v d := by
  obtain ⟨kvs, r, p⟩ := h
  rcases p.val (x := x) with ⟨e1, e2⟩ | ⟨d', v, e1, e2, z⟩
  · rw [e1] at e
    cases e
  · rw [e1] at e
    cases e
    exact ⟨v, .inl ⟨kvs, .inr x, r, rfl, e2.symm⟩, z⟩
/-- b is told as above a -/
def Dir (ds : List (Str × Decl)) (a b : Str) : Prop := ∃ d, look ds a = some d ∧ b ∈ d.up
/-- b stands above a, by steps -/
inductive Up (ds : List (Str × Decl)) : Str → Str → Prop
  | one {a b : Str} (h : Dir ds a b) : Up ds a b
  | more {a b c : Str} (h : Up ds a b) (g : Dir ds b c) : Up ds a c
def allUp (ds : List (Str × Decl)) : List Str := (ds.map fun p => p.2.up).flatten
theorem Dir.mem {ds : List (Str × Decl)} {a b : Str} (h : Dir ds a b) : b ∈ allUp ds := by
  obtain ⟨d, e, m⟩ := h
  unfold look at e
  obtain ⟨p, hp, rfl⟩ := Option.map_eq_some_iff.mp e
  exact List.mem_flatten.mpr ⟨_, List.mem_map.mpr ⟨p, List.mem_of_find?_eq_some hp, rfl⟩, m⟩
theorem Up.mem {ds : List (Str × Decl)} {a b : Str} (h : Up ds a b) : b ∈ allUp ds := by
  cases h with
  | one h => exact h.mem
  | more _ h => exact h.mem
/-- a dict of names, each True -/
def UpsAt (H : Hp) (a : Addr) (us : List Str) : Prop := ∃ kvs : List (Key × V), Rd H a (.dK kvs) ∧ kvs.map (·.1) = us.map Sum.inr
def few (ds : List (Str × Decl)) : Prop := ds.length ≤ 20 ∧ ∀ p ∈ ds, p.2.up.length ≤ 20
theorem few_all : ∀ {ds : List (Str × Decl)}, (∀ p ∈ ds, p.2.up.length ≤ 20) → (allUp ds).length ≤ ds.length * 20
  | [], _ => Nat.le_refl _
  | p :: r, h => by
    have a := few_all (ds := r) fun q hq => h q (by simp [hq])
    have b := h p (by simp)
    unfold allUp at a ⊢
    rw [List.map_cons, List.flatten_cons, List.length_append, List.length_cons]
    omega
theorem look_few {ds : List (Str × Decl)} (h : few ds) {x : Str} {d : Decl} (e : look ds x = some d) : d.up.length ≤ 20 := by
  unfold look at e
  obtain ⟨p, hp, rfl⟩ := Option.map_eq_some_iff.mp e
  exact h.2 p (List.mem_of_find?_eq_some hp)
/-- names_above -/
def spNamesAbove : Sp := fun vs H Q _ => ∃ (da : Addr) (ds : List (Str × Decl)) (x : Str) (d : Decl), vs = [.ref da, .str x] ∧ DeclD H da ds ∧ few ds ∧ look ds x = some d ∧
  ∀ (r : Addr) (us : List Str) (H' : Hp), H r = none → UpsAt H' r us → (∃ o, H' r = some (.dK o)) → us.Nodup → (∀ y, y ∈ us ↔ Up ds x y) → Same H H' → Q (.ref r) H'
def Wnab (da : Addr) (ds : List (Str × Decl)) (x : Str) (rf rw : Addr) (H0 : Hp) (m : Nat) (σ : St) (H : Hp) : Prop :=
  ∃ (kvs : List (Key × V)) (us ws : List Str) (u4 : Option V), σ = [some (.ref da), some (.str x), some (.ref rf), some (.ref rw), u4] ∧ Same H0 H ∧ H rf = some (.dK kvs) ∧ kvs.map (·.1) = us.map Sum.inr ∧ us.Nodup ∧
    H rw = some (.lst (ws.map V.str)) ∧ (∀ y ∈ us, Up ds x y) ∧ (∀ y ∈ ws, Up ds x y) ∧ (∀ y, Dir ds x y → y ∈ us ∨ y ∈ ws) ∧ (∀ z ∈ us, ∀ y, Dir ds z y → y ∈ us ∨ y ∈ ws) ∧
    ws.length ≤ (us.length + 1) * 20 ∧ m = ((allUp ds).length + 1 - us.length) * 21 + ws.length
theorem valV_keys {kvs : List (Key × V)} : ∀ {us : List Str}, kvs.map (·.1) = us.map Sum.inr → ∀ x : Str, (valV kvs (Sum.inr x : Key)).isSome = decide (x ∈ us) := by
  induction kvs with
  | nil =>
    intro us e x
    cases us with
    | nil => rfl
    | cons a r => cases e
  | cons p r ih =>
    intro us e x
    cases us with
    | nil => cases e
    | cons a us =>
      rw [List.map_cons, List.map_cons] at e
      have e1 := (List.cons.inj e).1
      have e2 := (List.cons.inj e).2
      unfold valV
      by_cases c : a = x
      · rw [List.find?_cons_of_pos (by rw [e1]; simp [c])]
        simp [c]
      · rw [List.find?_cons_of_neg (by rw [e1]; simp [c])]
        have := ih e2 x
        unfold valV at this
        rw [this]
        have c2 : ¬ x = a := fun z => c z.symm
        simp [c2]
theorem UpsAt.keys {H : Hp} {a : Addr} {us : List Str} (h : UpsAt H a us) : DKeys H a us := by
  obtain ⟨kvs, r, e⟩ := h
  exact ⟨kvs, r, valV_keys e⟩
section
variable {P : Program} {w : World} {K : PySem.W.Frag} {mg : Str → Option Value} {base : Heap} {f : Addr} {fd : FuncData} {aT aF : Addr}
theorem ok_direct (F : Fun K "directly_above" "directly_above" s_directly_above f fd) : FnOk P w K mg base CX0 1 f fd ["declaration"] spDirect := by
  refine F.ok sc_directly_above (fun vs H Q E h => ?_) (fun cdv A outer s H vs Q E hr h => ?_)
  · obtain ⟨v, d, rfl, _⟩ := h
    rfl
  obtain ⟨v, d, rfl, hd, q⟩ := h
  refine ⟨_, (pss_cons (ps_if (pt_cmpR op_eq (pe_ix (ixT K rfl) (pv 0) pe_int (fun _ _ => rfl)) pe_str (nomark _)) (pss_one (ps_ret (pe_ix (ixT K rfl) (pv 0) pe_int (fun _ _ => rfl)))) pss_nil)
    (pss_cons (ps_if (pt_cmpR op_eq (pe_ix (ixT K rfl) (pv 0) pe_int (fun _ _ => rfl)) pe_str (nomark _)) (pss_one (ps_ret (pe_ix (ixT K rfl) (pv 0) pe_int (fun _ _ => rfl)))) pss_nil)
    (pss_one (ps_ret (pe_tup pa_nil))))), ?_⟩
  cases hd with
  | record h hb hf hc =>
    refine ⟨_, rfl, _, _, _, _, rfl, rfl, SqT.of h, at_of rfl rfl, rfl, _, rfl, ifT (by decide) ?_⟩
    exact ⟨_, rfl, _, _, _, _, rfl, rfl, SqT.of h, at_of (j := 2) rfl rfl, q _ H (Same.refl _) hc⟩
  | choice h hb hf =>
    refine ⟨_, rfl, _, _, _, _, rfl, rfl, SqT.of h, at_of rfl rfl, rfl, _, rfl, ifF (by decide) ?_⟩
    refine ⟨_, rfl, _, _, _, _, rfl, rfl, SqT.of h, at_of rfl rfl, rfl, _, rfl, ifF (by decide) ?_⟩
    exact ⟨Nat.zero_le _, fun p np => q p _ (same_new np _) upd_same⟩
  | hidden h hc =>
    refine ⟨_, rfl, _, _, _, _, rfl, rfl, SqT.of h, at_of rfl rfl, rfl, _, rfl, ifF (by decide) ?_⟩
    refine ⟨_, rfl, _, _, _, _, rfl, rfl, SqT.of h, at_of rfl rfl, rfl, _, rfl, ifT (by decide) ?_⟩
    exact ⟨_, rfl, _, _, _, _, rfl, rfl, SqT.of h, at_of (j := 1) rfl rfl, q _ H (Same.refl _) hc⟩
end
end My
namespace My
open PySem L2
theorem nodup_sub_len {l m : List Str} (h : l.Nodup) (s : ∀ x ∈ l, x ∈ m) : l.length ≤ m.length := nodup_len h s
theorem putK_new {kvs : List (Key × V)} {x : Str} {v : V} (h : valV kvs (Sum.inr x : Key) = none) : putK kvs (Sum.inr x : Key) v = kvs ++ [(Sum.inr x, v)] := by
  unfold putK
  have e : (kvs.any fun kv => decide (kv.1 = (Sum.inr x : Key))) = false := by
    unfold valV at h
    rw [Option.map_eq_none_iff, List.find?_eq_none] at h
    rw [List.any_eq_false]
    intro p hp
    exact fun z => h p hp z
  rw [e]
  rfl
section
variable {P : Program} {w : World} {K : PySem.W.Frag} {mg : Str → Option Value} {base : Heap} {f : Addr} {fd : FuncData} {aT aF : Addr}
theorem ok_names_above (B : Bn mg) (F : Fun K "names_above" "names_above" s_names_above f fd) (c_directly_above : Cal P w K mg base "directly_above" 1 ["declaration"] spDirect) : FnOk P w K mg base CX0 2 f fd ["declared", "name"] spNamesAbove := by
  refine F.ok sc_names_above (fun vs H Q E h => ?_) (fun cdv A outer s H vs Q E hr h => ?_)
  · obtain ⟨da, ds, x, d, rfl, _⟩ := h
    rfl
  obtain ⟨da, ds, x, d, rfl, hD, hfew, hlk, q⟩ := h
  refine ⟨_, (pss_cons (ps_set (i := 2) sc_names_above.nd rfl (Or.inl rfl) pe_dnewK)
    (pss_cons (ps_set (i := 3) sc_names_above.nd rfl (Or.inl rfl) (pe_callTy (listOf K rfl) (by rfl) B.b_list (by decide +kernel) (pa_cons (pc c_directly_above (hr.mono (by first | decide | omega)) (pa_cons (pe_dget (hu_of hr) (pv 0) (pv 1) (fun _ _ => rfl)) pa_nil)) pa_nil)))
    (pss_cons (ps_while PassesOwn.never (truth K rfl (pv 3)) (pss_cons (ps_set (i := 4) sc_names_above.nd rfl (Or.inl rfl) (pe_bm0 PySem.F.plainAttrs_list PySem.F.slot_list_pop PySem.F.type_list_pop mt_pop (pv 3)))
    (pss_cons (ps_if (pt_cmp (pc_din (hu_of hr) (pv 4) (pv 2)) rfl) (pss_one ps_continue) pss_nil)
    (pss_cons (ps_dput (hu_of hr) (pv 2) (pv 4) pe_bl rfl)
    (pss_one (ps_if (pt_cmp (pc_din (hu_of hr) (pv 4) (pv 0)) rfl) (pss_one (ps_expr (pe_bm PySem.F.plainAttrs_list PySem.F.slot_list_extend PySem.F.type_list_extend (mt_extendT K rfl) (pv 3) (pa_cons (pc c_directly_above (hr.mono (by first | decide | omega)) (pa_cons (pe_dget (hu_of hr) (pv 0) (pv 4) (fun _ _ => rfl)) pa_nil)) pa_nil)))) pss_nil))))))
    (pss_one (ps_ret (pv 2)))))), ?_⟩
  have hall := few_all hfew.2
  have hds := hfew.1
  intro rf nrf
  have s1 := same_new nrf (.dK [])
  have hrf : (upd H rf (.dK [])) rf = some (.dK []) := upd_same
  generalize upd H rf (.dK []) = H1 at s1 hrf
  obtain ⟨v, gv, hv⟩ := (hD.same s1).get hlk
  refine ⟨_, rfl, _, rfl, da, v, rfl, gv, v, d, rfl, hv, fun b H2 s2 hb => ⟨b, _, rfl, .inr (SqT.of hb), fun rw nrw => ?_⟩⟩
  have s12 := s1.trans s2
  have s3 := s12.trans (same_new nrw (.lst (d.up.map V.str)))
  have hrf3 : (upd H2 rw (.lst (d.up.map V.str))) rf = some (.dK []) := same_new nrw _ _ _ (s2 _ _ hrf)
  have hrw3 : (upd H2 rw (.lst (d.up.map V.str))) rw = some (.lst (d.up.map V.str)) := upd_same
  have nrw0 : H rw = none := s12.free nrw
  have nfw : rf ≠ rw := ne_of_none (s2 _ _ hrf) nrw
  generalize upd H2 rw (.lst (d.up.map V.str)) = H3 at s3 hrf3 hrw3
  have hup := look_few hfew hlk
  refine ⟨Wnab da ds x rf rw H, ⟨_, [], [], d.up, none, rfl, s3, hrf3, rfl, List.nodup_nil, hrw3, fun y hy => by simp at hy, fun y hy => .one ⟨d, hlk, hy⟩, fun y hy => ?_, fun z hz => by simp at hz, by simp; omega, rfl⟩, fun m σ H4 w4 => ?_⟩
  · obtain ⟨d', e, m⟩ := hy
    rw [hlk] at e
    cases e
    exact .inr m
  obtain ⟨kvs, us, ws, u4, rfl, s4, hf, ek, nu, hw, uu, uw, dx, du, bl, rfl⟩ := w4
  have husl : us.length ≤ (allUp ds).length := nodup_sub_len nu fun y hy => (uu y hy).mem
  refine ⟨_, rfl, _, .inl ⟨_, SqL.of hw, rfl⟩, ?_⟩
  by_cases hn : ws = []
  · subst hn
    refine iteF ⟨_, rfl, ?_⟩
    have hUp : ∀ y, y ∈ us ↔ Up ds x y := fun y => ⟨uu y, fun h => by
      induction h with
      | one h =>
        rcases dx _ h with h | h
        · exact h
        · simp at h
      | more _ g ih =>
        rcases du _ ih _ g with h | h
        · exact h
        · simp at h⟩
    exact q rf us H4 nrf ⟨kvs, .inl hf, ek⟩ ⟨kvs, hf⟩ nu hUp s4
  · have e : ws = ws.dropLast ++ [ws.getLast hn] := (List.dropLast_concat_getLast hn).symm
    generalize ws.dropLast = l at e
    generalize ws.getLast hn = y at e
    subst e
    refine ifT (by rw [List.map_append]; cases l <;> rfl) ?_
    have hw' : H4 rw = some (.lst (l.map V.str ++ [.str y])) := by rw [hw, List.map_append]; rfl
    have ll : (l ++ [y]).length = l.length + 1 := by simp
    refine ⟨fun σ' H' => ∃ m', m' < ((allUp ds).length + 1 - us.length) * 21 + (l ++ [y]).length ∧ Wnab da ds x rf rw H m' σ' H', fun _ _ h => h, ?_⟩
    refine ⟨_, rfl, tyL hw', rw, _, .str y, rfl, rfl, hw', by simp, ?_⟩
    rw [List.dropLast_concat]
    have s5 : Same H (upd H4 rw (.lst (l.map V.str))) := Same.atNew s4 nrw0
    have hf5 : (upd H4 rw (.lst (l.map V.str))) rf = some (.dK kvs) := by rw [upd_ne nfw]; exact hf
    have hw5 : (upd H4 rw (.lst (l.map V.str))) rw = some (.lst (l.map V.str)) := upd_same
    generalize upd H4 rw (.lst (l.map V.str)) = H5 at s5 hf5 hw5
    have hyU := uw y (by simp)
    refine ⟨_, rfl, _, rfl, rf, _, rfl, DGet.k (k := Sum.inr y) hf5, _, rfl, ?_⟩
    rw [valV_keys ek]
    by_cases hyu : y ∈ us
    · refine ifT (decide_eq_true hyu) ?_
      refine ⟨_, by omega, kvs, us, l, _, rfl, s5, hf5, ek, nu, hw5, uu, fun z hz => uw z (by simp [hz]), fun z hz => ?_, fun z hz t ht => ?_, by omega, rfl⟩
      · rcases dx z hz with h | h
        · exact .inl h
        · rcases List.mem_append.mp h with h | h
          · exact .inr h
          · have e : z = y := by simpa using h
            rw [e]
            exact .inl hyu
      · rcases du z hz t ht with h | h
        · exact .inl h
        · rcases List.mem_append.mp h with h | h
          · exact .inr h
          · have e : t = y := by simpa using h
            rw [e]
            exact .inl hyu
    · refine ifF (decide_eq_false hyu) ?_
      have hv0 : valV kvs (Sum.inr y : Key) = none := by
        have := valV_keys ek y
        rw [decide_eq_false hyu] at this
        exact Option.not_isSome_iff_eq_none.mp (by rw [this]; decide)
      have ekl : kvs.length = us.length := by
        have := congrArg List.length ek
        rwa [List.length_map, List.length_map] at this
      have nuy : (us ++ [y]).Nodup := by
        rw [List.nodup_append]
        refine ⟨nu, by simp, fun a ha b hb e => hyu ?_⟩
        have eb : b = y := by simpa using hb
        rw [← eb, ← e]
        exact ha
      have uuy : ∀ z ∈ us ++ [y], Up ds x z := fun z hz => by
        rcases List.mem_append.mp hz with h | h
        · exact uu z h
        · have e : z = y := by simpa using h
          rw [e]
          exact hyU
      have husl2 : (us ++ [y]).length ≤ (allUp ds).length := nodup_sub_len nuy fun z hz => (uuy z hz).mem
      have lu : (us ++ [y]).length = us.length + 1 := by simp
      have ek2 : (putK kvs (Sum.inr y : Key) (.bl true)).map (·.1) = (us ++ [y]).map Sum.inr := by
        rw [putK_new hv0, List.map_append, List.map_append, ek]
        rfl
      have hkl : kvs.length < sizeLine := line5 (by omega)
      refine ⟨_, rfl, _, rfl, rf, _, rfl, DPut.k (k := Sum.inr y) hf5 hkl, ?_⟩
      have s6 : Same H (upd H5 rf (.dK (putK kvs (Sum.inr y : Key) (.bl true)))) := Same.atNew s5 nrf
      have hf6 : (upd H5 rf (.dK (putK kvs (Sum.inr y : Key) (.bl true)))) rf = some (.dK (putK kvs (Sum.inr y : Key) (.bl true))) := upd_same
      have hw6 : (upd H5 rf (.dK (putK kvs (Sum.inr y : Key) (.bl true)))) rw = some (.lst (l.map V.str)) := by rw [upd_ne nfw.symm]; exact hw5
      generalize upd H5 rf (.dK (putK kvs (Sum.inr y : Key) (.bl true))) = H6 at s6 hf6 hw6
      have hD6 := hD.same s6
      have old : ∀ {z : Str}, (z ∈ us ∨ z ∈ l ++ [y]) → z ∈ us ++ [y] ∨ z ∈ l := fun h => by
        rcases h with h | h
        · exact .inl (List.mem_append_left _ h)
        · rcases List.mem_append.mp h with h | h
          · exact .inr h
          · exact .inl (List.mem_append_right _ h)
      obtain ⟨o, go, eo⟩ := hD6.keys.get y
      refine ⟨_, rfl, _, rfl, da, o, rfl, go, _, rfl, ?_⟩
      rw [eo, ← look_some]
      cases hly : look ds y with
      | none =>
        refine iteF ?_
        refine ⟨_, ?_, _, us ++ [y], l, _, rfl, s6, hf6, ek2, nuy, hw6, uuy, fun z hz => uw z (by simp [hz]), fun z hz => old (dx z hz), fun z hz t ht => ?_, by omega, rfl⟩
        · rw [lu, ll]
          omega
        · rcases List.mem_append.mp hz with h | h
          · exact old (du z h t ht)
          · have e : z = y := by simpa using h
            obtain ⟨d', e', _⟩ := ht
            rw [e, hly] at e'
            cases e'
      | some dy =>
        refine iteT ?_
        have hdy := look_few hfew hly
        obtain ⟨vy, gy, hvy⟩ := hD6.get hly
        refine ⟨_, rfl, tyL hw6, _, rfl, _, rfl, da, vy, rfl, gy, vy, dy, rfl, hvy, fun b2 H7 s7 hb7 => ⟨rw, b2, _, _, rfl, rfl, s7 _ _ hw6, SqT.of hb7, Nat.le_of_lt (line5 (by rw [List.length_map, List.length_map]; omega)), ?_⟩⟩
        refine ⟨_, ?_, _, us ++ [y], l ++ dy.up, _, rfl, Same.atNew (s6.trans s7) nrw0, by rw [upd_ne nfw]; exact s7 _ _ hf6, ek2, nuy, by rw [upd_same, List.map_append], uuy, fun z hz => ?_, fun z hz => ?_, fun z hz t ht => ?_, ?_, rfl⟩
        · rw [lu, ll, List.length_append]
          omega
        · rcases List.mem_append.mp hz with h | h
          · exact uw z (by simp [h])
          · exact .more hyU ⟨dy, hly, h⟩
        · rcases old (dx z hz) with h | h
          · exact .inl h
          · exact .inr (List.mem_append_left _ h)
        · rcases List.mem_append.mp hz with h | h
          · rcases old (du z h t ht) with h | h
            · exact .inl h
            · exact .inr (List.mem_append_left _ h)
          · have e : z = y := by simpa using h
            obtain ⟨d', e', m'⟩ := ht
            rw [e, hly] at e'
            cases e'
            exact .inr (List.mem_append_right _ m')
        · rw [List.length_append]
          omega
end
end My
namespace My
open PySem L2
/-! the table of what stands above -/
def TabRow (ds : List (Str × Decl)) (H : Hp) (p : Key × V) (q : Str × Decl) : Prop :=
  p.1 = .inr q.1 ∧ ∃ (b : Addr) (us : List Str) (o : List (Key × V)), p.2 = .ref b ∧ H b = some (.dK o) ∧ o.map (·.1) = us.map Sum.inr ∧ us.Nodup ∧ ∀ y, y ∈ us ↔ Up ds q.1 y
theorem TabRow.same {ds : List (Str × Decl)} {H H' : Hp} (s : Same H H') {p : Key × V} {q : Str × Decl} (h : TabRow ds H p q) : TabRow ds H' p q := by
  obtain ⟨e, b, us, o, e1, h, r⟩ := h
  exact ⟨e, b, us, o, e1, s _ _ h, r⟩
/-- a dict whose rows tell what stands above each of these -/
def TabD (H : Hp) (a : Addr) (ds : List (Str × Decl)) : Prop := ∃ ts, Rd H a (.dK ts) ∧ Paired (TabRow ds H) ts ds
theorem TabD.same {H H' : Hp} {a : Addr} {ds : List (Str × Decl)} (h : TabD H a ds) (s : Same H H') : TabD H' a ds := by
  obtain ⟨ts, r, p⟩ := h
  exact ⟨ts, rdSame r s, Paired.mono (fun _ _ z => z.same s) p⟩
theorem tab_keys {ds0 : List (Str × Decl)} {H : Hp} : ∀ {ts : List (Key × V)} {ds : List (Str × Decl)}, Paired (TabRow ds0 H) ts ds → ts.map (·.1) = (ds.map (·.1)).map Sum.inr
  | [], [], .nil => rfl
  | p :: ts, q :: ds, .cons h t => by
    rw [List.map_cons, List.map_cons, List.map_cons, h.1, tab_keys t]
theorem TabD.keys {H : Hp} {a : Addr} {ds : List (Str × Decl)} (h : TabD H a ds) : DKeys H a (ds.map (·.1)) := by
  obtain ⟨ts, r, p⟩ := h
  exact ⟨ts, r, valV_keys (tab_keys p)⟩
theorem tab_val {ds0 : List (Str × Decl)} {H : Hp} {x : Str} : ∀ {ts : List (Key × V)} {ds : List (Str × Decl)}, Paired (TabRow ds0 H) ts ds → x ∈ ds.map (·.1) →
    ∃ (b : Addr) (us : List Str) (o : List (Key × V)), valV ts (Sum.inr x : Key) = some (.ref b) ∧ H b = some (.dK o) ∧ o.map (·.1) = us.map Sum.inr ∧ us.Nodup ∧ ∀ y, y ∈ us ↔ Up ds0 x y
  | [], [], .nil, hx => by simp at hx
  | p :: ts, q :: ds, .cons h t, hx => by
    obtain ⟨e, b, us, o, e1, hb, eo, nu, hu⟩ := h
    by_cases c : q.1 = x
    · refine ⟨b, us, o, ?_, hb, eo, nu, fun y => by rw [← c]; exact hu y⟩
      unfold valV
      rw [List.find?_cons_of_pos (by simp [e, c])]
      rw [← e1]
      rfl
    · have hx2 : x ∈ ds.map (·.1) := by
        rcases List.mem_cons.mp (by simpa using hx : x ∈ q.1 :: ds.map (·.1)) with h | h
        · exact absurd h.symm c
        · exact h
      obtain ⟨b, us, o, ev, r⟩ := tab_val t hx2
      refine ⟨b, us, o, ?_, r⟩
      rw [← ev]
      unfold valV
      rw [List.find?_cons_of_neg (by rw [e]; simp [c])]
theorem TabD.get {H : Hp} {a : Addr} {ds : List (Str × Decl)} (h : TabD H a ds) {x : Str} (hx : x ∈ ds.map (·.1)) : ∃ (b : Addr) (us : List Str), DGet H a (.str x) (some (.ref b)) ∧ DKeys H b us ∧ ∀ y, y ∈ us ↔ Up ds x y := by
  obtain ⟨ts, r, p⟩ := h
  obtain ⟨b, us, o, ev, hb, eo, nu, hu⟩ := tab_val p hx
  exact ⟨b, us, .inl ⟨ts, .inr x, r, rfl, ev.symm⟩, ⟨o, .inl hb, valV_keys eo⟩, hu⟩
/-- table_above -/
def spTable : Sp := fun vs H Q _ => ∃ (da : Addr) (kvs : List (Key × V)) (ds : List (Str × Decl)), vs = [.ref da] ∧ H da = some (.dK kvs) ∧ DeclsAt H kvs ds ∧ few ds ∧ (ds.map (·.1)).Nodup ∧
  ∀ (r : Addr) (ts : List (Key × V)) (H' : Hp), H r = none → H' r = some (.dK ts) → Paired (TabRow ds H') ts ds → Same H H' → Q (.ref r) H'
def Ptab (Hl : Hp) (D : Addr) (ds : List (Str × Decl)) (i : Nat) (H : Hp) : Prop := Same Hl H ∧ ∃ ts, H D = some (.dK ts) ∧ Paired (fun p q => TabRow ds H p q ∧ ∀ b, p.2 = .ref b → b ≠ D) ts (ds.take i)
/-- all_declared -/
def spAllDecl : Sp := fun vs H Q _ => ∃ (da : Addr) (ns : List Str) (v : V) (k : Kd), vs = [.ref da, v] ∧ DKeys H da ns ∧ KdAt H v k ∧ k.size ≤ 50000 ∧ ∀ H', Same H H' → Q (.bl ((k.subs.filterMap Kd.nameOf).all fun x => decide (x ∈ ns))) H'
theorem look_at {ds : List (Str × Decl)} : (ds.map (·.1)).Nodup → ∀ {i : Nat} {q : Str × Decl}, ds[i]? = some q → look ds q.1 = some q.2 := by
  induction ds with
  | nil => intro _ i q h; simp at h
  | cons p r ih =>
    intro nd i q h
    rw [List.map_cons, List.nodup_cons] at nd
    cases i with
    | zero =>
      have e : p = q := Option.some.inj h
      subst e
      unfold look
      rw [List.find?_cons_of_pos (by simp)]
      rfl
    | succ i =>
      have h : r[i]? = some q := h
      have ne : ¬ p.1 = q.1 := fun e => nd.1 (by rw [e]; exact List.mem_map.mpr ⟨q, List.mem_of_getElem? h, rfl⟩)
      have := ih nd.2 h
      unfold look at this ⊢
      rw [List.find?_cons_of_neg (by simp [ne]), this]
section
variable {P : Program} {w : World} {K : PySem.W.Frag} {mg : Str → Option Value} {base : Heap} {f : Addr} {fd : FuncData} {aT aF : Addr}
theorem ok_table (F : Fun K "table_above" "table_above" s_table_above f fd) (c_names_above : Cal P w K mg base "names_above" 2 ["declared", "name"] spNamesAbove) : FnOk P w K mg base CX0 3 f fd ["declared"] spTable := by
  refine F.ok sc_table_above (fun vs H Q E h => ?_) (fun cdv A outer s H vs Q E hr h => ?_)
  · obtain ⟨da, kvs, ds, rfl, _⟩ := h
    rfl
  obtain ⟨da, kvs, ds, rfl, hda, hds, hfew, nd, q⟩ := h
  refine ⟨_, (pss_one (ps_ret (pe_lock (pe_dc (own := [("name", 1)]) (g := (gName 1)) rfl sc_table_above.nd (pi_keys (pv 0)) (blkOk_by (N := ["declared", "name"]) (sc := defScope s_table_above) (by decide +kernel)) (fun _ _ _ _ _ => (pg_name (i := 1) sc_table_above.nd rfl (Or.inl rfl) (hf := Or.inr rfl))) (fun _ _ _ _ _ => pts_nil) (fun _ _ _ _ _ => (pv 1)) (fun _ _ _ _ _ => (pc c_names_above (hr.mono (by first | decide | omega)) (pa_cons (pv 0) (pa_cons (pv 1) pa_nil)))))))), ?_⟩
  refine ⟨da, .dK kvs, hda, trivial, fun od => ?_⟩
  have Tl : Tups H (upd H da (.frz od (.dK kvs))) := fun a xs e => by
    rw [upd_ne (ne_of e hda (by intro z; cases z))]
    exact e
  have hl : (upd H da (.frz od (.dK kvs))) da = some (.frz od (.dK kvs)) := upd_same
  have off : ∀ b o, b ≠ da → H b = some o → (upd H da (.frz od (.dK kvs))) b = some o := fun b o ne e => by rw [upd_ne ne]; exact e
  have new : ∀ b, (upd H da (.frz od (.dK kvs))) b = none → H b = none := fun b e => by
    by_cases c : b = da
    · rw [c, hl] at e
      cases e
    · rw [upd_ne c] at e
      exact e
  generalize upd H da (.frz od (.dK kvs)) = Hl at Tl hl off new
  have hdl : DeclD Hl da ds := ⟨kvs, .inr ⟨od, hl⟩, hds.mono Tl⟩
  have lk : kvs.length = ds.length := Paired.length hds
  refine ⟨_, rfl, da, od, rfl, .inl ⟨kvs, hl, fun D nD => ⟨fun i m H' => m = kvs.length - i ∧ i ≤ kvs.length ∧ Ptab Hl D ds i H', ⟨kvs.length, by simp, Nat.zero_le _, same_new nD _, [], upd_same, .nil⟩, ?_⟩⟩⟩
  rintro i m H1 ⟨rfl, hi, s1, ts, hD, ptt⟩
  have pt := Paired.mono (fun p q z => z.1) ptt
  have hda1 := s1 _ _ hl
  by_cases hlt : i < kvs.length
  · refine .inr ⟨⟨hda1, hlt⟩, Ptab Hl D ds (i + 1), fun H' p' => ⟨kvs.length - (i + 1), by omega, rfl, hlt, p'⟩, fun x H' y => ?_⟩
    obtain ⟨e, k, v, hk, rfl⟩ := y
    subst e
    obtain ⟨qd, hq, ek, hqd⟩ := Paired.at hds i _ hk
    simp only at ek
    subst ek
    have hlk := look_at nd hq
    refine ⟨rfl, _, rfl, _, rfl, _, rfl, da, ds, qd.1, qd.2, rfl, hdl.same s1, hfew, hlk, fun r us H2 nr hu hro nu huu s2 => ?_⟩
    obtain ⟨o, hro⟩ := hro
    obtain ⟨o2, hr2, eo⟩ := hu
    have eo2 : o2 = o := by
      rcases hr2 with h | ⟨z, h⟩
      · rw [hro] at h
        cases h
        rfl
      · rw [hro] at h
        cases h
    subst eo2
    have hD2 := s2 _ _ hD
    have ltd : i < ds.length := by omega
    have ltl : ts.length = (ds.take i).length := pt.length
    have htl : ts.length ≤ 20 := by
      have := List.length_take_le' i ds
      have := hfew.1
      omega
    have hnone : valV ts (Sum.inr qd.1 : Key) = none := by
      have h1 := valV_keys (tab_keys pt) qd.1
      have h2 : qd.1 ∉ (ds.take i).map (·.1) := fun hm => by
        obtain ⟨q2, hq2, e2⟩ := List.mem_map.mp hm
        obtain ⟨j, hj⟩ := List.getElem?_of_mem hq2
        have hji : j < i := by
          have := (List.getElem?_eq_some_iff.mp hj).1
          rw [List.length_take] at this
          omega
        rw [List.getElem?_take_of_lt hji] at hj
        have a1 : (ds.map (·.1))[j]? = some qd.1 := by rw [List.getElem?_map, hj, ← e2]; rfl
        have a2 : (ds.map (·.1))[i]? = some qd.1 := by rw [List.getElem?_map, hq]; rfl
        have := nd_ix nd a1 a2
        omega
      rw [decide_eq_false h2] at h1
      exact Option.not_isSome_iff_eq_none.mp (by rw [h1]; decide)
    refine ⟨ts, Sum.inr qd.1, rfl, hD2, line5 (by omega), Same.atNew (s1.trans s2) nD, _, upd_same, ?_⟩
    rw [putK_new hnone, ← take_next hq]
    have nrD : r ≠ D := (ne_of_none hD nr).symm
    have keepB : ∀ (b : Addr) (o : List (Key × V)), b ≠ D → H2 b = some (.dK o) → (upd H2 D (.dK (ts ++ [(Sum.inr qd.1, .ref r)]))) b = some (.dK o) := fun b o ne e => by rw [upd_ne ne]; exact e
    refine pair_app ?_ (.cons ⟨⟨rfl, r, us, o2, rfl, keepB r o2 nrD hro, eo, nu, huu⟩, fun b e => by cases e; exact nrD⟩ .nil)
    refine Paired.mono (fun p q z => ?_) ptt
    obtain ⟨⟨e1, b, us', o', e3, hb, eo', nu', hu'⟩, zz⟩ := z
    exact ⟨⟨e1, b, us', o', e3, keepB b o' (zz b e3) (s2 _ _ hb), eo', nu', hu'⟩, zz⟩
  · have e : i = kvs.length := by omega
    subst e
    refine .inl ⟨⟨hda1, Nat.le_refl _⟩, hda1, ?_⟩
    rw [lk, List.take_length] at pt
    have nDa : D ≠ da := fun e => by rw [e, hl] at nD; cases nD
    have back : ∀ b o, Hl b = some o → b ≠ da → (upd H1 da (.dK kvs)) b = some o := fun b o e ne => by rw [upd_ne ne]; exact s1 _ _ e
    refine q D ts _ (new D nD) (by rw [upd_ne nDa]; exact hD) (Paired.mono (fun p q z => ?_) pt) (fun b o e => ?_)
    · obtain ⟨e1, b, us', o', e3, hb, r⟩ := z
      refine ⟨e1, b, us', o', e3, ?_, r⟩
      rw [upd_ne (ne_of hb hda1 (by intro z; cases z))]
      exact hb
    · by_cases c : b = da
      · rw [c] at e ⊢
        rw [upd_same, ← hda, e]
      · rw [upd_ne c]
        exact s1 _ _ (off b o c e)
theorem ok_all_decl (B : Bn mg) (F : Fun K "all_declared" "all_declared" s_all_declared f fd) (c_names_in : Cal P w K mg base "names_in" 3 ["kind"] spNamesIn) : FnOk P w K mg base CX0 4 f fd ["above", "kind"] spAllDecl := by
  refine F.ok sc_all_declared (fun vs H Q E h => ?_) (fun cdv A outer s H vs Q E hr h => ?_)
  · obtain ⟨da, ns, v, k, rfl, _⟩ := h
    rfl
  obtain ⟨da, ns, v, k, rfl, hd, hk, hs, q⟩ := h
  refine ⟨_, (pss_one (ps_ret (pe_callB (allOf K rfl rfl) (by rfl) B.b_all (by decide +kernel) (pa_cons (pe_lc (own := [("name", 2)]) (g := (gName 2)) rfl sc_all_declared.nd (piL K rfl (pc c_names_in (hr.mono (by first | decide | omega)) (pa_cons (pv 1) pa_nil))) (blkOk_by (N := ["above", "kind", "name"]) (sc := defScope s_all_declared) (by decide +kernel)) (fun _ _ _ _ _ => (pg_name (i := 2) sc_all_declared.nd rfl (Or.inl rfl) (hf := Or.inr rfl))) (fun _ _ _ _ _ => pts_nil) (fun _ _ _ _ _ => (pe_cmp (pc_din (hu_of hr) (pv 2) (pv 0)) rfl))) pa_nil)))), ?_⟩
  refine ⟨_, rfl, v, k, rfl, hk, hs, fun r2 xs H5 nr2 hr5 pm2 s5 => ⟨r2, rfl, ⟨_, SqL.of hr5⟩, fun D2 nD2 => lc_list (xs := xs.map V.str) (Pbls H5 D2 (xs.map fun x => decide (x ∈ ns))) ?_ ?_ ?_ ?_⟩⟩
  · exact ⟨same_new nD2 _, upd_same⟩
  · exact fun i H6 _ p => SqL.of (p.1 _ _ hr5)
  · rintro i x H6 hx ⟨s6, hacc6⟩
    rw [List.getElem?_map] at hx
    obtain ⟨sx, hsx, rfl⟩ := Option.map_eq_some_iff.mp hx
    have hil : i < xs.length := (List.getElem?_eq_some_iff.mp hsx).1
    have hle := pm2.length_eq
    have hfl := List.length_filterMap_le Kd.nameOf k.subs
    rw [Kd.subs_len] at hfl
    obtain ⟨o, go, eo⟩ := (hd.same (s5.trans s6)).get sx
    refine ⟨rfl, _, rfl, _, rfl, da, o, rfl, go, _, hacc6, ?_, Same.atNew s6 nD2, ?_⟩
    · rw [List.length_map]
      have h2 := List.length_take_le' i (xs.map fun x => decide (x ∈ ns))
      rw [List.length_map] at h2
      exact line5 (by omega)
    · have hb2 : (xs.map fun x => decide (x ∈ ns))[i]? = some (decide (sx ∈ ns)) := by rw [List.getElem?_map, hsx]; rfl
      rw [upd_same, ← take_next hb2, List.map_append, eo]
      rfl
  rintro H6 ⟨s6, hacc6⟩
  have hl2 : (xs.map V.str).length = (xs.map fun x => decide (x ∈ ns)).length := by rw [List.length_map, List.length_map]
  rw [hl2, List.take_length] at hacc6
  refine ⟨D2, _, rfl, SqL.of hacc6, ?_⟩
  have e2 : (xs.map fun x => decide (x ∈ ns)).all id = (k.subs.filterMap Kd.nameOf).all fun x => decide (x ∈ ns) := by
    rw [List.all_map, ← all_perm pm2]
    rfl
  rw [e2]
  exact q H6 (s5.trans s6)
end
end My
namespace My
open PySem PySem.Spec PyProof.Rows L2 RZ
/-! list(zip(a, b)) of two tuples -/
section
variable {prog : Program} {w : World} {A : Around} {E : Value → Shared → Prop} {s : Shared}
theorem heldT_item {z TI TO T i1 i2 l1 l2 : Addr} {f : Bool} {oT : Obj} {j : Nat} {xs ys : Array Value} {x y : Value} {Q : Option Value → Shared → Prop} (D : ZipApart z TI TO i1 i2 l1 l2)
    (hz : IsZipHeld s.heap z TI TO T f) (hT : s.heap.get? T = some oT) (hTI : IsPair s.heap TI (.ref i1) (.ref i2)) (t1 : s.heap.IsTupleIter i1 l1 j) (t2 : s.heap.IsTupleIter i2 l2 j)
    (m1 : s.heap.IsTuple l1 xs) (m2 : s.heap.IsTuple l2 ys) (hx : xs[j]? = some x) (hy : ys[j]? = some y)
    (go : ∀ g, IsZipHeld g z TI TO T true → g.IsTupleIter i1 l1 (j + 1) → g.IsTupleIter i2 l2 (j + 1) → IsPair g s.heap.objs.size x y → (∀ c o, c ≠ z → c ≠ i1 → c ≠ i2 → s.heap.get? c = some o → g.get? c = some o) → Q (some (.ref s.heap.objs.size)) { s with heap := g }) :
    wpAny (model prog w) A (pyNext (.ref z)) Q E s := by
  have ty : s.TypeIs (.ref z) "zip" := ⟨_, hz, rfl⟩
  unfold pyNext
  refine wpAny_bind (wpAny_attempt (wpAny_callSpecial?_slot (name := Str.ofString "__next__") ty PySem.F.slot_zip_next (wpAny_call_entry PySem.F.slot_zip_next ty PySem.F.entry_zip_next ?_ (PySem.F.args_zip_next_1 _))))
  show wpAny _ _ (field (.ref z) 2 >>= _) _ _ _; refine wpAny_bind (wpAny_field hz rfl (x := .bool false) rfl ?_)
  show wpAny _ _ (field (.ref z) 3 >>= _) _ _ _; refine wpAny_bind (wpAny_field hz rfl (x := .ref TI) rfl ?_)
  refine wpAny_bind (wpAny_seqItems hTI rfl ?_); show wpAny _ _ (Builtin.SmallTypes.ownedTupleIsFree (.ref z) >>= _) _ _ _
  refine wpAny_bind (wpAny_tupleHeld_zip hz hT fun g1 z1 b1 => ?_)
  simp only [Bool.false_eq_true, if_false]; refine wpAny_bind ?_; rw [← Array.forIn_toList]; simp only [List.forIn_cons, List.forIn_nil]
  refine wpAny_bind (wpAny_bind (wpAny_holding ?_)); show wpAny _ _ (Builtin.SmallTypes.nextOf (.ref i1) >>= _) _ _ _
  refine wpAny_bind (nextOf_tuple_item (s := { s with heap := g1 }) (t1.at fun o e => b1.extBut _ _ D.i1z e) (let ⟨o, e, r⟩ := m1; ⟨o, b1.extBut _ _ D.l1z e, r⟩) hx fun g2 u1 b2 => wpAny_pure (wpAny_pure ?_))
  refine wpAny_bind (wpAny_bind (wpAny_holding ?_)); show wpAny _ _ (Builtin.SmallTypes.nextOf (.ref i2) >>= _) _ _ _
  have c2 : ∀ c o, c ≠ z → c ≠ i1 → s.heap.get? c = some o → g2.get? c = some o := fun c o p q e => b2.extBut _ _ q (b1.extBut _ _ p e)
  refine wpAny_bind (nextOf_tuple_item (s := { s with heap := g2 }) (t2.at fun o e => c2 _ o D.i2z D.i12.symm e) (let ⟨o, e, r⟩ := m2; ⟨o, c2 _ o D.l2z D.l2i1 e, r⟩) hy fun g3 u2 b3 => wpAny_pure (wpAny_pure (wpAny_pure ?_)))
  show wpAny _ _ (newTuple [x, y] >>= _) _ _ _; refine wpAny_bind (wpAny_newTuple (wpAny_pure ⟨_, rfl, ?_⟩))
  have sz : g3.objs.size = s.heap.objs.size := b3.1.trans (b2.1.trans b1.1)
  have p3 : IsPair (g3.push { cls := .type "tuple", data := .seq #[x, y] }) g3.objs.size x y := Heap.get?_push_size _ rfl
  refine wpAny_pure ?_
  rw [sz] at p3 ⊢
  exact go _ (Heap.get?_push_of_some _ (b3.extBut _ _ D.i2z.symm (b2.extBut _ _ D.i1z.symm z1))) (u1.at fun o e => Heap.get?_push_of_some _ (b3.extBut _ _ D.i12 e)) (u2.at fun o e => Heap.get?_push_of_some _ e) p3
    fun c o n1 n2 n3 e => Heap.get?_push_of_some _ (b3.extBut _ _ n3 (c2 c o n1 n2 e))
theorem heldT_end {z TI TO T i1 i2 l1 l2 : Addr} {f : Bool} {oT : Obj} {j : Nat} {xs : Array Value} {Q : Option Value → Shared → Prop} (calm : A.handled = none) (D : ZipApart z TI TO i1 i2 l1 l2)
    (hz : IsZipHeld s.heap z TI TO T f) (hT : s.heap.get? T = some oT) (hTI : IsPair s.heap TI (.ref i1) (.ref i2)) (t1 : s.heap.IsTupleIter i1 l1 j)
    (m1 : s.heap.IsTuple l1 xs) (hx : xs[j]? = none)
    (go : ∀ g, (∀ c o, c ≠ z → c ≠ i1 → s.heap.get? c = some o → g.get? c = some o) → Q none { s with heap := g }) :
    wpAny (model prog w) A (pyNext (.ref z)) Q E s := by
  have ty : s.TypeIs (.ref z) "zip" := ⟨_, hz, rfl⟩
  unfold pyNext
  refine wpAny_bind (wpAny_attempt (wpAny_callSpecial?_slot (name := Str.ofString "__next__") ty PySem.F.slot_zip_next (wpAny_call_entry PySem.F.slot_zip_next ty PySem.F.entry_zip_next ?_ (PySem.F.args_zip_next_1 _))))
  show wpAny _ _ (field (.ref z) 2 >>= _) _ _ _; refine wpAny_bind (wpAny_field hz rfl (x := .bool false) rfl ?_)
  show wpAny _ _ (field (.ref z) 3 >>= _) _ _ _; refine wpAny_bind (wpAny_field hz rfl (x := .ref TI) rfl ?_)
  refine wpAny_bind (wpAny_seqItems hTI rfl ?_); show wpAny _ _ (Builtin.SmallTypes.ownedTupleIsFree (.ref z) >>= _) _ _ _
  refine wpAny_bind (wpAny_tupleHeld_zip hz hT fun g1 z1 b1 => ?_)
  simp only [Bool.false_eq_true, if_false]; refine wpAny_bind ?_; rw [← Array.forIn_toList]; simp only [List.forIn_cons, List.forIn_nil]
  refine wpAny_bind (wpAny_bind (wpAny_holding ?_)); show wpAny _ _ (Builtin.SmallTypes.nextOf (.ref i1) >>= _) _ _ _
  refine wpAny_bind (nextOf_tuple_end (s := { s with heap := g1 }) calm (t1.at fun o e => b1.extBut _ _ D.i1z e) (let ⟨o, e, r⟩ := m1; ⟨o, b1.extBut _ _ D.l1z e, r⟩) hx fun g2 e b2 st => ?_)
  obtain ⟨o, ho, hc⟩ := st
  refine wpAny_bind (wpAny_isInstance (T := "StopIteration") (b := true) ⟨o, ho, hc⟩ isSubtype_stop (wpAny_pure (go _ fun c o n1 n2 q => b2 _ _ n2 (b1.extBut _ _ n1 q))))
end
theorem Same.tup {K : PySem.W.Frag} {H H' : Hp} {a : Addr} {xs : List V} (e : Same H H') (h : SqT K H a xs) : SqT K H' a xs := by
  rcases h with (h | ⟨o, h⟩) | h
  · exact .inl (.inl (e _ _ h))
  · exact .inl (.inr ⟨o, e _ _ h⟩)
  · exact .inr h
/-- pairs of what stands at the same places, in new tuples -/
def PairsAt (H : Hp) (xs ys : List V) (as : List Addr) : Prop := ∀ (j : Nat) (c : Addr), as[j]? = some c → ∃ x y, xs[j]? = some x ∧ ys[j]? = some y ∧ H c = some (.tup [x, y])
def ZSt (H : Hp) (z TI TO i1 i2 a b : Addr) (i : Nat) (h : Heap) : Prop :=
  ((i = 0 ∧ IsZip h z TI TO .none) ∨ ∃ T f xs, IsZipHeld h z TI TO T f ∧ H T = some (.tup xs)) ∧ IsPair h TI (.ref i1) (.ref i2) ∧ (∃ x y, IsPair h TO x y) ∧ h.IsTupleIter i1 a i ∧ h.IsTupleIter i2 b i
section
variable {X : Cx} {pins : List (Addr × Obj)} {σ : L2.St}
theorem zip_loop {A1 : Around} {Rs : Result → Shared → Prop} {z TI TO i1 i2 a b S : Addr} {xs ys : List V} (calm : A1.in1.handled = none) (D : ZipApart z TI TO i1 i2 a b) (hl : xs.length = ys.length) (hz : xs.length < sizeLine) (H0 : Hp) (hS0 : H0 S = none)
    (fin : ∀ (H' : Hp) (as : List Addr) (s' : Shared), Inv X pins σ H' s' → Same H0 H' → H' S = some (.lst (as.map V.ref)) → as.length = xs.length → PairsAt H' xs ys as → Rs (.ok (.ret .none)) s') :
    ∀ (k i : Nat) (as : List Addr) (H : Hp) (s : Shared), k + i = xs.length → Inv X pins σ H s → Same H0 H → SqT X.K H a xs → SqT X.K H b ys → H S = some (.lst (as.map V.ref)) → as.length = i → PairsAt H xs ys as → S ∉ as →
      (∀ c ∈ [z, TI, TO, i1, i2], FpOk X pins H c) → ZSt H z TI TO i1 i2 a b i s.heap → codeAny (model X.prog X.w) A1 (.builtin "list.extend.loop" ⟨[.ref S, .ref z, .none], []⟩) Rs s := by
  intro k
  induction k with
  | zero =>
    intro i as H s hi I sm ha hb hS hal hp _ hf st
    obtain ⟨hzz, hTI, ⟨x0, y0, hTO⟩, t1, t2⟩ := st
    obtain ⟨its, rv, p1, _⟩ := I.tuple ha
    obtain ⟨its2, rv2, p2, _⟩ := I.tuple hb
    have e1 : its.toArray[i]? = none := by
      have := rv.length
      simp
      omega
    refine codeAny_builtin PySem.F.entry_extend_loop ?_
    rw [Around.under_plainId PySem.F.plain_extend_loop _]
    show wpAny _ A1.in1 (pyNext (.ref z) >>= _) _ _ s
    have out : ∀ (g : Heap), (∀ c o, c ∉ [z, TI, TO, i1, i2] → s.heap.get? c = some o → g.get? c = some o) → Inv X pins σ H { s with heap := g } := fun g kp => I.turnedL (t' := s.toks) (ch := [z, TI, TO, i1, i2]) kp hf
    have last : ∀ (g : Heap), (∀ c o, c ∉ [z, TI, TO, i1, i2] → s.heap.get? c = some o → g.get? c = some o) → Rs (.ok (.ret .none)) { s with heap := g } := fun g kp => fin H as _ (out g kp) sm hS (by omega) hp
    rcases hzz with ⟨_, hz0⟩ | ⟨T, f, ts, hz0, hT⟩
    · refine wpAny_bind (pyNext_zipT_end (s := s) calm D hz0 hTI hTO t1 t2 p1 p2 (.inl e1) fun g kp => wpAny_pure (last g fun c o n e => kp c o ?_ ?_ ?_ ?_ e))
      all_goals (intro q; exact n (by simp [q]))
    · obtain ⟨_, tits, _, ⟨oT, eT, _⟩⟩ := I.hok T _ hT
      refine wpAny_bind (heldT_end (s := s) calm D hz0 eT hTI t1 p1 e1 fun g kp => wpAny_pure (last g fun c o n e => kp c o ?_ ?_ e))
      all_goals (intro q; exact n (by simp [q]))
  | succ k ih =>
    intro i as H s hi I sm ha hb hS hal hp nS hf st
    obtain ⟨hzz, hTI, ⟨x0, y0, hTO⟩, t1, t2⟩ := st
    obtain ⟨its, rv, p1, _⟩ := I.tuple ha
    obtain ⟨its2, rv2, p2, _⟩ := I.tuple hb
    have lx : i < xs.length := by omega
    obtain ⟨x, hx⟩ : ∃ x, xs[i]? = some x := ⟨xs[i], List.getElem?_eq_getElem lx⟩
    obtain ⟨y, hy⟩ : ∃ y, ys[i]? = some y := ⟨ys[i]'(by omega), List.getElem?_eq_getElem (by omega)⟩
    obtain ⟨u, hu, ru⟩ := rv.get hx
    obtain ⟨u2, hu2, ru2⟩ := rv2.get hy
    have zl : z < s.heap.objs.size := by
      rcases hzz with ⟨_, h⟩ | ⟨_, _, _, h, _⟩ <;> exact Heap.lt_size h
    have lt : ∀ c ∈ [z, TI, TO, i1, i2], c < s.heap.objs.size := fun c hc => by
      have e' : c = z ∨ c = TI ∨ c = TO ∨ c = i1 ∨ c = i2 := by simpa using hc
      rcases e' with q | q | q | q | q
      · rw [q]; exact zl
      · rw [q]; exact Heap.lt_size hTI
      · rw [q]; exact Heap.lt_size hTO
      · rw [q]; obtain ⟨_, e1, _⟩ := t1; exact Heap.lt_size e1
      · rw [q]; obtain ⟨_, e1, _⟩ := t2; exact Heap.lt_size e1
    have nT : H s.heap.objs.size = none := I.hok.fresh (Nat.le_refl _)
    have nST : S ≠ s.heap.objs.size := fun e => by rw [e, nT] at hS; cases hS
    refine codeAny_builtin PySem.F.entry_extend_loop ?_
    rw [Around.under_plainId PySem.F.plain_extend_loop _]
    show wpAny _ A1.in1 (pyNext (.ref z) >>= _) _ _ s
    have step : ∀ (g : Heap) (f : Bool), IsZipHeld g z TI TO (if f then s.heap.objs.size else s.heap.objs.size) false ∨ (∃ T ts, IsZipHeld g z TI TO T true ∧ H T = some (.tup ts)) → g.IsTupleIter i1 a (i + 1) → g.IsTupleIter i2 b (i + 1) → IsPair g s.heap.objs.size u u2 → (∃ x y, IsPair g TO x y) → IsPair g TI (.ref i1) (.ref i2) →
        (∀ c o, c ∉ [z, TI, TO, i1, i2] → s.heap.get? c = some o → g.get? c = some o) →
        wpAny (model X.prog X.w) A1.in1 (updateSeq S (·.push (.ref s.heap.objs.size)) >>= fun _ => again (.builtin "list.extend.loop" ⟨[.ref S, .ref z, .none], []⟩)) (fun fin s' => match fin with | .done f => Rs (.ok f) s' | .again c' => c'.quiet = true ∧ codeAny (model X.prog X.w) A1 c' Rs s') (fun e s' => Rs (.error e) s') { s with heap := g } := by
      intro g f hzg v1 v2 hT hTO' hTI' kp
      have new : ObjOk X.prog X.w (upd H s.heap.objs.size (.tup [x, y])) g s.heap.objs.size (.tup [x, y]) := ⟨by show 2 ≤ sizeLine; decide, [u, u2], .cons ru (.cons ru2 .nil), ⟨_, hT, rfl, _, rfl⟩⟩
      have I1 : Inv X pins σ (upd H s.heap.objs.size (.tup [x, y])) { s with heap := g } := I.turnedNew (t' := s.toks) (ch := [z, TI, TO, i1, i2]) kp hf (Nat.le_refl _) new
      have hS1 : upd H s.heap.objs.size (.tup [x, y]) S = some (.lst (as.map V.ref)) := by rw [upd_ne nST]; exact hS
      obtain ⟨_, its3, n3, r3, l3, e3⟩ := I1.lstM hS1
      have l4 : its3.length = i := by rw [← l3, List.length_map, hal]
      have s1 : Same H (upd H s.heap.objs.size (.tup [x, y])) := same_new nT _
      refine wpAny_bind (wpAny_updateSeq e3 rfl (wpAny_pure ⟨plainId_quiet PySem.F.plain_extend_loop _, ?_⟩) (by rw [List.size_toArray]; omega) (by show (its3.toArray.push _).size ≤ sizeLine + 1; rw [Array.size_push, List.size_toArray]; omega))
      have I2 := I1.lset (its' := its3 ++ [.ref s.heap.objs.size]) (ys := (as ++ [s.heap.objs.size]).map V.ref) (f := (·.push (.ref s.heap.objs.size))) (t' := s.toks) hS1 e3 (by simp) (by rw [List.map_append]; exact r3.append (.cons rfl .nil)) (by rw [List.length_map, List.length_append, List.length_singleton]; omega)
      have s2 : Same H0 (upd (upd H s.heap.objs.size (.tup [x, y])) S (.lst ((as ++ [s.heap.objs.size]).map V.ref))) := Same.atNew (sm.trans s1) hS0
      have off : ∀ c o, c ≠ S → H c = some o → upd (upd H s.heap.objs.size (.tup [x, y])) S (.lst ((as ++ [s.heap.objs.size]).map V.ref)) c = some o := fun c o n e => by rw [upd_ne n]; exact s1 _ _ e
      have sc : ∀ c ∈ [z, TI, TO, i1, i2], c ≠ S := fun c hc q => by
        have := (hf c hc).1
        rw [q, hS] at this
        cases this
      have keepT : ∀ {c : Addr} {ts : List V}, SqT X.K H c ts → SqT X.K (upd (upd H s.heap.objs.size (.tup [x, y])) S (.lst ((as ++ [s.heap.objs.size]).map V.ref))) c ts := fun h => by
        rcases h with (h | ⟨o, h⟩) | h
        · exact .inl (.inl (off _ _ (fun q => by rw [q, hS] at h; cases h) h))
        · exact .inl (.inr ⟨o, off _ _ (fun q => by rw [q, hS] at h; cases h) h⟩)
        · exact .inr h
      have up : ∀ c o, c ≠ S → g.get? c = some o → (g.update S (Obj.mapSeq (·.push (Value.ref s.heap.objs.size)))).get? c = some o := fun c o n e => (Heap.get?_update_other _ _ (Ne.symm n)).trans e
      have fp2 : ∀ c ∈ [z, TI, TO, i1, i2], upd (upd H s.heap.objs.size (.tup [x, y])) S (.lst ((as ++ [s.heap.objs.size]).map V.ref)) c = none := fun c hc => by
        rw [upd_ne (sc c hc), upd_ne (Nat.ne_of_lt (lt c hc))]
        exact (hf c hc).1
      refine ih (i + 1) (as ++ [s.heap.objs.size]) _ _ (by omega) I2 s2 (keepT ha) (keepT hb) upd_same (by rw [List.length_append, hal]; rfl) (fun j c hj => ?_) (fun hm => ?_) (fun c hc => ⟨fp2 c hc, (hf c hc).2⟩) ⟨.inr ?_, ?_, ?_, ?_, ?_⟩
      · by_cases hji : j < as.length
        · rw [List.getElem?_append_left hji] at hj
          obtain ⟨x', y', e1, e2, e3⟩ := hp j c hj
          exact ⟨x', y', e1, e2, off _ _ (fun q => nS (by rw [← q]; exact List.mem_of_getElem? hj)) e3⟩
        · have ej : j = as.length := by
            have := (List.getElem?_eq_some_iff.mp hj).1
            rw [List.length_append, List.length_singleton] at this
            omega
          subst ej
          have ec : s.heap.objs.size = c := by simpa using hj
          subst ec
          exact ⟨x, y, by rw [hal]; exact hx, by rw [hal]; exact hy, by rw [upd_ne nST.symm]; exact upd_same⟩
      · rcases List.mem_append.mp hm with h | h
        · exact nS h
        · exact nST (by simpa using h)
      · rcases hzg with h | ⟨T, ts, h, hT⟩
        · refine ⟨s.heap.objs.size, false, [x, y], up _ _ (sc z (by simp)) (by simpa using h), by rw [upd_ne nST.symm]; exact upd_same⟩
        · exact ⟨T, true, ts, up _ _ (sc z (by simp)) h, off _ _ (fun q => by rw [q, hS] at hT; cases hT) hT⟩
      · exact up _ _ (sc TI (by simp)) hTI'
      · obtain ⟨x', y', h⟩ := hTO'
        exact ⟨x', y', up _ _ (sc TO (by simp)) h⟩
      · exact v1.at fun o q => up _ o (sc i1 (by simp)) q
      · exact v2.at fun o q => up _ o (sc i2 (by simp)) q
    have au : its.toArray[i]? = some u := by simpa using hu
    have au2 : its2.toArray[i]? = some u2 := by simpa using hu2
    rcases hzz with ⟨_, hz0⟩ | ⟨T, f, ts, hz0, hT⟩
    · refine wpAny_bind (pyNext_zipT_item (s := s) D hz0 hTI hTO t1 t2 p1 p2 au au2 fun g zg tg v1 v2 hT _ kp => ?_)
      refine step g true (.inl (by simpa using zg)) v1 v2 hT ⟨_, _, tg⟩ (kp _ _ D.TIz D.TITO D.TIi1 D.TIi2 hTI) fun c o n e => kp c o ?_ ?_ ?_ ?_ e
      all_goals (intro q; exact n (by simp [q]))
    · obtain ⟨_, tits, _, ⟨oT, eT, _⟩⟩ := I.hok T _ hT
      refine wpAny_bind (heldT_item (s := s) D hz0 eT hTI t1 t2 p1 p2 au au2 fun g zg v1 v2 hT' kp => ?_)
      refine step g true (.inr ⟨T, ts, zg, hT⟩) v1 v2 hT' ⟨_, _, kp _ _ D.TOz D.TOi1 D.TOi2 hTO⟩ (kp _ _ D.TIz D.TIi1 D.TIi2 hTI) fun c o n e => kp c o ?_ ?_ ?_ e
      all_goals (intro q; exact n (by simp [q]))
theorem zip_len : typeLookup (.type "zip") "__len__" = pure none := am_miss_of_fast (by decide +kernel)
theorem zip_hint : typeLookup (.type "zip") "__length_hint__" = pure none := am_miss_of_fast (by decide +kernel)
/-- list(zip(a, b)), tuples of one length -/
def tListZip (K : PySem.W.Frag) (ta : TA) : TE := fun σ H Q => ta σ H fun vs H1 => ∃ (a b : Addr) (xs ys : List V), vs = [.ref a, .ref b] ∧ SqT K H1 a xs ∧ SqT K H1 b ys ∧ xs.length = ys.length ∧ xs.length < sizeLine ∧
  ∀ (l : Addr) (as : List Addr) (H2 : Hp), H1 l = none → Same H1 H2 → H2 l = some (.lst (as.map V.ref)) → as.length = xs.length → PairsAt H2 xs ys as → Q (.ref l) H2
theorem pe_listZip (K : PySem.W.Frag) (hK : X.K = K) (hc : X.calm = true) (hm : X.mg "list" = none) (hm2 : X.mg "zip" = none) {e e2 : Expr} {ta : TA} {p p2 q pos : Pos} (ha : PA X [e, e2] ta) (hg : Gl X "list" := by rfl) (hg2 : Gl X "zip" := by rfl)
    (hs : starEach [e, e2] X.env = (false, eval e X.env) :: starEach [e2] X.env := by rfl) (hpl : (backTo q (starEach [e2] X.env)).any (·.1) = false := by rfl)
    (na : starEach [.Call (.Name "zip" p2) [e, e2] [] q] X.env = (false, eval (.Call (.Name "zip" p2) [e, e2] [] q) X.env) :: starEach [] X.env := by rfl) :
    PE X (.Call (.Name "list" p) [.Call (.Name "zip" p2) [e, e2] [] q] [] pos) (tListZip K ta) := by
  subst hK
  refine ⟨fun pins s σ H Q I h => ?_⟩
  refine Call_ (ld_blt I hg hm PyProof.Rows.boot_list ?_)
  refine PyProof.Rows.callWith_type1 (PyProof.Rows.args_cons ?_ na) na rfl
  refine Call_ (ld_blt I hg2 hm2 PyProof.Rows.boot_zip (PyProof.Rows.callWith_type1 (thn (ha.run q pins s σ H _ I h) fun us s1 ⟨vs, H1, I1, r1, q1⟩ => ?_) hs hpl))
  obtain ⟨a, b, xs, ys, rfl, hqa, hqb, hl, hz, q1⟩ := q1
  cases r1 with
  | cons r rr =>
  cases rr with
  | cons r' rr =>
  cases rr
  cases r
  cases r'
  obtain ⟨its, rv, p1, _⟩ := I1.tuple hqa
  obtain ⟨its2, rv2, p2, _⟩ := I1.tuple hqb
  obtain ⟨o1, ho1, _⟩ := id p1
  obtain ⟨o2, ho2, _⟩ := id p2
  have D := PySem.W.ktu_apart s1.heap.objs.size a b (Heap.lt_size ho1) (Heap.lt_size ho2)
  refine call_zipT (show s1.heap.IsTuple a its.toArray from p1) (show s1.heap.IsTuple b its2.toArray from p2) fun g hz0 hTI hTO t1 t2 hsz hk => PyProof.Rows.args_nil ?_
  have I2 : Inv X pins σ H1 { s1 with heap := g } := I1.kept (t' := s1.toks) hk
  have calm : X.A.in1.in1.handled = none := by simp [I1.ok.hd hc]
  have nS : H1 g.objs.size = none := I2.hok.fresh (Nat.le_refl _)
  have zlt : s1.heap.objs.size + 4 < g.objs.size := by rw [hsz]; exact Nat.lt_succ_self _
  refine callType_codes (Q₁ := fun ob s3 => ob = .ref g.objs.size ∧ s3 = { s1 with heap := g.push { cls := .type "list", data := .seq #[] } }) PySem.F.called_list (PySem.F.typeCall_list_1 _) PySem.F.entry_list_init
    (code_list_new _ ⟨rfl, rfl⟩) fun ob s3 h3 => ?_
  obtain ⟨rfl, rfl⟩ := h3
  have hS : (g.push { cls := .type "list", data := .seq #[] }).get? g.objs.size = some { cls := .type "list", data := .seq #[] } := Heap.get?_push_size _ rfl
  refine ⟨⟨_, hS, rfl⟩, PySem.F.args_list_init_2 _ _, ?_⟩
  have I3 : Inv X pins σ (upd H1 g.objs.size (.lst [])) { s1 with heap := g.push { cls := .type "list", data := .seq #[] } } := I2.lnew (its := []) (t' := s1.toks) .nil (Nat.zero_le _)
  show wpAny _ X.A.in1.in1 (do let was ← Builtin.List.listItems (.ref g.objs.size); Builtin.List.listUpdate (.ref g.objs.size) (fun _ => #[]); letGo was.toList.reverse; Builtin.List.listExtendWith (.ref g.objs.size) (.ref (s1.heap.objs.size + 4)) .none) _ _ _
  refine wpAny_bind ?_; unfold Builtin.List.listItems; refine wpAny_bind (wpAny_seqItems hS rfl (wpAny_pure ?_))
  show wpAny _ _ (updateSeq g.objs.size (fun _ => #[]) >>= fun _ => letGo (#[] : Array Value).toList.reverse >>= fun _ => Builtin.List.listExtendWith (.ref g.objs.size) (.ref (s1.heap.objs.size + 4)) .none) _ _ _
  refine wpAny_bind (wpAny_updateSeq hS rfl ?_)
  have I4 := I3.lset (f := fun _ => #[]) (its := []) (its' := []) (ys := []) (t' := s1.toks) upd_same hS rfl .nil (Nat.zero_le _)
  rw [upd_upd] at I4
  have hS4 := Heap.get?_update_self (Obj.mapSeq (fun _ => (#[] : Array Value))) hS rfl
  have off4 : ∀ c o, c ≠ g.objs.size → g.get? c = some o → ((g.push { cls := .type "list", data := .seq #[] }).update g.objs.size (Obj.mapSeq (fun _ => (#[] : Array Value)))).get? c = some o := fun c o n e => (Heap.get?_update_other _ _ (Ne.symm n)).trans (Heap.get?_push_of_some _ e)
  generalize (g.push { cls := .type "list", data := .seq #[] }).update g.objs.size (Obj.mapSeq (fun _ => (#[] : Array Value))) = g4 at I4 hS4 off4
  refine wpAny_bind (wpAny_letGo ?_)
  have ne4 : ∀ k, k ≤ 4 → s1.heap.objs.size + k ≠ g.objs.size := fun k hk => by rw [hsz]; omega
  have z4 : IsZip g4 (s1.heap.objs.size + 4) (s1.heap.objs.size + 2) (s1.heap.objs.size + 3) .none := off4 _ _ (ne4 4 (by omega)) hz0
  unfold Builtin.List.listExtendWith
  have ty4 : ∀ {g5 : Heap}, IsZip g5 (s1.heap.objs.size + 4) (s1.heap.objs.size + 2) (s1.heap.objs.size + 3) .none → Shared.TypeIs { s1 with heap := g5 } (.ref (s1.heap.objs.size + 4)) "zip" := fun h => ⟨_, h, rfl⟩
  refine wpAny_bind (wpAny_typeOf (ty4 z4) ?_)
  have f1 : Builtin.List.listSameRef (.ref g.objs.size) (.ref (s1.heap.objs.size + 4)) = false := by simp [Builtin.List.listSameRef, (ne4 4 (by omega)).symm]
  have f2 : (Value.type "zip" == Value.type "list") = false := by decide
  have f3 : (Value.type "zip" == Value.type "tuple") = false := by decide
  simp only [f1, f2, f3, Bool.or_false, Bool.false_eq_true, if_false]
  refine wpAny_bind (wpAny_pyIter_zip (s := { s1 with heap := g4 }) z4 ?_)
  refine wpAny_bind (wpAny_holding ?_)
  unfold Builtin.List.listLengthHint
  refine wpAny_bind (wpAny_specialOf (ty4 z4) zip_len ?_)
  show wpAny _ _ (specialOf (Value.ref (s1.heap.objs.size + 4)) (Str.ofString "__length_hint__") >>= _) _ _ _
  refine wpAny_bind (wpAny_specialOf (ty4 z4) zip_hint ?_)
  refine wpAny_pure ?_
  show wpAny _ _ (rule "list.extend.makes-room" >>= fun _ => Builtin.List.listTouch (.ref g.objs.size) >>= fun _ => again (.builtin "list.extend.loop" ⟨[.ref g.objs.size, .ref (s1.heap.objs.size + 4), .none], []⟩)) _ _ _
  refine wpAny_bind (wpAny_rule ?_); refine wpAny_bind ?_
  show wpAny _ _ (updateSeq g.objs.size (·.push .none) >>= fun _ => updateSeq g.objs.size (·.pop)) _ _ _
  refine wpAny_bind (wpAny_updateSeq hS4 rfl ?_)
  have I5 := I4.lset (f := (·.push Value.none)) (its := []) (its' := [Value.none]) (ys := [.non]) (t' := s1.toks) upd_same hS4 (by simp) (.cons rfl .nil) (by rw [List.length_singleton, sizeLine_eq]; decide)
  have hS5 := Heap.get?_update_self (Obj.mapSeq (·.push Value.none)) hS4 rfl
  refine wpAny_updateSeq hS5 rfl ?_ (by show 1 ≤ sizeLine; rw [sizeLine_eq]; decide) (by show 0 ≤ sizeLine + 1; exact Nat.zero_le _)
  have I6 := I5.lset (f := (·.pop)) (its := [Value.none]) (its' := []) (ys := []) (t' := s1.toks) upd_same hS5 (by rfl) .nil (Nat.zero_le _)
  rw [upd_upd, upd_upd] at I6
  have off6 : ∀ c o, c ≠ g.objs.size → g.get? c = some o → ((g4.update g.objs.size (Obj.mapSeq (·.push Value.none))).update g.objs.size (Obj.mapSeq (·.pop))).get? c = some o := fun c o n e =>
    (Heap.get?_update_other _ _ (Ne.symm n)).trans ((Heap.get?_update_other _ _ (Ne.symm n)).trans (off4 c o n e))
  generalize (g4.update g.objs.size (Obj.mapSeq (·.push Value.none))).update g.objs.size (Obj.mapSeq (·.pop)) = g6 at I6 off6
  refine wpAny_pure ⟨plainId_quiet PySem.F.plain_extend_loop _, ?_⟩
  have ctup : ∀ {c : Addr} {ts : List V}, SqT X.K H1 c ts → SqT X.K (upd H1 g.objs.size (.lst [])) c ts := fun h => Same.tup (same_new nS _) h
  refine zip_loop (A1 := X.A.in1) (Rs := wants (fun r s₂ => r = .none ∧ _) X.xe) calm D hl hz H1 nS (fun H' as s' I' sm hS' hal hp => ⟨rfl, ?_⟩) xs.length 0 [] (upd H1 g.objs.size (.lst [])) { s1 with heap := g6 } rfl I6 (same_new nS _) (ctup hqa) (ctup hqb) upd_same rfl (fun j c hj => by simp at hj) (by simp) (fun c hc => ?_) ⟨.inl ⟨rfl, off6 _ _ (ne4 4 (by omega)) hz0⟩, off6 _ _ (ne4 2 (by omega)) hTI, ⟨_, _, off6 _ _ (ne4 3 (by omega)) hTO⟩, t1.at fun o e => off6 _ _ (ne4 0 (by omega)) e, t2.at fun o e => off6 _ _ (ne4 1 (by omega)) e⟩
  · exact ⟨.ref g.objs.size, H', I', rfl, q1 _ as H' nS sm hS' hal hp⟩
  · have e' : c = s1.heap.objs.size + 4 ∨ c = s1.heap.objs.size + 2 ∨ c = s1.heap.objs.size + 3 ∨ c = s1.heap.objs.size ∨ c = s1.heap.objs.size + 1 := by simpa using hc
    obtain ⟨k, hk4, rfl⟩ : ∃ k : Nat, k ≤ 4 ∧ c = s1.heap.objs.size + k := by
      rcases e' with h | h | h | h | h
      · exact ⟨4, by omega, h⟩
      · exact ⟨2, by omega, h⟩
      · exact ⟨3, by omega, h⟩
      · exact ⟨0, by omega, h⟩
      · exact ⟨1, by omega, h⟩
    have hle : s1.heap.objs.size ≤ s1.heap.objs.size + k := Nat.le_add_right _ _
    have hne := ne4 k hk4
    exact I1.fpOk hle (by rw [upd_ne hne]; exact I1.hok.fresh hle)
end
end My
namespace My
open PySem L2
/-! == of kinds -/
theorem and_iff {a b : Bool} {p q : Prop} (h : a = true ↔ p) (g : b = true ↔ q) : (a && b) = true ↔ p ∧ q := by rw [Bool.and_eq_true_iff, h, g]
mutual
theorem Kd.data_iff : ∀ (a b : Kd), PyData.eqv a.data b.data = true ↔ a = b
  | .num, b => by
    cases b with
    | num => exact ⟨fun _ => rfl, fun _ => rfl⟩
    | _ => exact ⟨fun h => Bool.noConfusion (show false = true from h), fun h => by cases h⟩
  | .text, b => by
    cases b with
    | text => exact ⟨fun _ => rfl, fun _ => rfl⟩
    | _ => exact ⟨fun h => Bool.noConfusion (show false = true from h), fun h => by cases h⟩
  | .of x, b => by
    cases b with
    | of y =>
      show ((x == y) && true) = true ↔ _
      rw [Bool.and_true, beq_iff_eq]
      exact ⟨fun h => by rw [h], fun h => by cases h; rfl⟩
    | _ => exact ⟨fun h => Bool.noConfusion (show false = true from h), fun h => by cases h⟩
  | .row k, b => by
    cases b with
    | row l =>
      show (PyData.eqv k.data l.data && true) = true ↔ _
      rw [Bool.and_true, Kd.data_iff k l]
      exact ⟨fun h => by rw [h], fun h => by cases h; rfl⟩
    | _ => exact ⟨fun h => Bool.noConfusion (show false = true from h), fun h => by cases h⟩
  | .calls ps r, b => by
    cases b with
    | calls qs s =>
      show (PyData.eqvAll (Kd.datas ps) (Kd.datas qs) && (PyData.eqv r.data s.data && true)) = true ↔ _
      rw [Bool.and_true, and_iff (Kd.datas_iff ps qs) (Kd.data_iff r s)]
      exact ⟨fun h => by rw [h.1, h.2], fun h => by cases h; exact ⟨rfl, rfl⟩⟩
    | _ => exact ⟨fun h => Bool.noConfusion (show false = true from h), fun h => by cases h⟩
  | .answers n k, b => by
    cases b with
    | answers m l =>
      show ((n == m) && (PyData.eqv k.data l.data && true)) = true ↔ _
      rw [Bool.and_true, and_iff (beq_iff_eq) (Kd.data_iff k l)]
      exact ⟨fun h => by rw [h.1, h.2], fun h => by cases h; exact ⟨rfl, rfl⟩⟩
    | _ => exact ⟨fun h => Bool.noConfusion (show false = true from h), fun h => by cases h⟩
theorem Kd.datas_iff : ∀ (as bs : List Kd), PyData.eqvAll (Kd.datas as) (Kd.datas bs) = true ↔ as = bs
  | [], [] => ⟨fun _ => rfl, fun _ => rfl⟩
  | [], _ :: _ => ⟨fun h => Bool.noConfusion (show false = true from h), fun h => by cases h⟩
  | _ :: _, [] => ⟨fun h => Bool.noConfusion (show false = true from h), fun h => by cases h⟩
  | a :: as, b :: bs => by
    show (PyData.eqv a.data b.data && PyData.eqvAll (Kd.datas as) (Kd.datas bs)) = true ↔ _
    rw [and_iff (Kd.data_iff a b) (Kd.datas_iff as bs)]
    exact ⟨fun h => by rw [h.1, h.2], fun h => by cases h; exact ⟨rfl, rfl⟩⟩
end
mutual
theorem Kd.names_subs : ∀ (k : Kd), k.subs.filterMap Kd.nameOf = k.names
  | .num => rfl
  | .text => rfl
  | .of _ => rfl
  | .row k => by
    show (Kd.row k :: k.subs).filterMap Kd.nameOf = k.names
    rw [List.filterMap_cons_none rfl, Kd.names_subs k]
  | .calls ps r => by
    show (Kd.calls ps r :: (Kd.subsL ps ++ r.subs)).filterMap Kd.nameOf = Kd.namesL ps ++ r.names
    rw [List.filterMap_cons_none rfl, List.filterMap_append, Kd.namesL_subs ps, Kd.names_subs r]
  | .answers n k => by
    show (Kd.answers n k :: k.subs).filterMap Kd.nameOf = k.names
    rw [List.filterMap_cons_none rfl, Kd.names_subs k]
theorem Kd.namesL_subs : ∀ (ks : List Kd), (Kd.subsL ks).filterMap Kd.nameOf = Kd.namesL ks
  | [] => rfl
  | k :: r => by
    show (k.subs ++ Kd.subsL r).filterMap Kd.nameOf = k.names ++ Kd.namesL r
    rw [List.filterMap_append, Kd.names_subs k, Kd.namesL_subs r]
end
theorem Kd.namesL_mem {x : Str} : ∀ {ks : List Kd} {k : Kd}, k ∈ ks → x ∈ k.names → x ∈ Kd.namesL ks
  | y :: r, k, h, hx => by
    show x ∈ y.names ++ Kd.namesL r
    rcases List.mem_cons.mp h with rfl | h
    · exact List.mem_append_left _ hx
    · exact List.mem_append_right _ (Kd.namesL_mem h hx)
theorem Kd.depths_mem : ∀ {ks : List Kd} {k : Kd}, k ∈ ks → k.depth ≤ Kd.depths ks
  | y :: r, k, h => by
    rw [Kd.depths]
    rcases List.mem_cons.mp h with rfl | h
    · omega
    · have := Kd.depths_mem h
      omega
/-- a kind that may be laid out -/
def Kd.fine (k : Kd) : Prop := k.depth ≤ 30 ∧ k.size ≤ 1000 ∧ ∀ x ∈ k.names, LtA x
theorem Kd.fine_shaped {k : Kd} (h : k.fine) : SeqAt.shaped k.data = true := by
  unfold SeqAt.shaped
  have := Kd.data_depth k
  have := h.1
  rw [Kd.data_lay k h.2.2, decide_eq_true (by omega)]
  rfl
/-! what fits what -/
open Classical in
/-- the pairs that must fit for a to fit b -/
noncomputable def asked (up : Str → Str → Prop) : Kd → Kd → Option (List (Kd × Kd))
  | .of x, .of y => if up x y then some [] else none
  | .row a, .row b => some [(a, b)]
  | .calls ps r, .calls qs s => if ps.length = qs.length then some (qs.zip ps ++ [(r, s)]) else none
  | .answers n k, .calls qs s => if n = (qs.length : Int) then some [(k, s)] else none
  | .answers n k, .answers m l => if n = m then some [(k, l)] else none
  | _, _ => none
inductive Fit (up : Str → Str → Prop) : Kd → Kd → Prop
  | refl (a : Kd) : Fit up a a
  | step {a b : Kd} {l : List (Kd × Kd)} (h : asked up a b = some l) (t : ∀ p ∈ l, Fit up p.1 p.2) : Fit up a b
def PairAt (H : Hp) (v : V) (p : Kd × Kd) : Prop := ∃ (c : Addr) (x y : V), v = .ref c ∧ H c = some (.tup [x, y]) ∧ KdAt H x p.1 ∧ KdAt H y p.2
theorem PairAt.mono {H H' : Hp} (t : Tups H H') {v : V} {p : Kd × Kd} (h : PairAt H v p) : PairAt H' v p := by
  obtain ⟨c, x, y, e, h, k1, k2⟩ := h
  exact ⟨c, x, y, e, t _ _ h, k1.mono t, k2.mono t⟩
/-- both sizes, added up -/
def pairsSize : List (Kd × Kd) → Nat
  | [] => 0
  | p :: r => p.1.size + p.2.size + pairsSize r
theorem pairsSize_app : ∀ (a b : List (Kd × Kd)), pairsSize (a ++ b) = pairsSize a + pairsSize b
  | [], b => by simp [pairsSize]
  | p :: r, b => by
    rw [List.cons_append, pairsSize, pairsSize, pairsSize_app r b]
    omega
theorem pairsSize_zip : ∀ (a b : List Kd), pairsSize (a.zip b) ≤ Kd.sizes a + Kd.sizes b
  | [], b => by simp [pairsSize]
  | _ :: _, [] => by simp [pairsSize]
  | x :: r, y :: t => by
    have := pairsSize_zip r t
    rw [List.zip_cons_cons, Kd.sizes, Kd.sizes]
    show x.size + y.size + pairsSize (r.zip t) ≤ _
    omega
/-- a smaller kind with names of these -/
def Kd.part (l k : Kd) : Prop := l.depth ≤ k.depth ∧ l.size ≤ k.size ∧ ∀ x ∈ l.names, x ∈ k.names
theorem asked_parts {up : Str → Str → Prop} {a b : Kd} {l : List (Kd × Kd)} (h : asked up a b = some l) : pairsSize l + 2 ≤ a.size + b.size ∧ ∀ p ∈ l, (p.1.part a ∧ p.2.part b) ∨ (p.1.part b ∧ p.2.part a) := by
  have arg : ∀ {ps : List Kd} {r q : Kd}, q ∈ ps → q.part (.calls ps r) := fun {ps r q} hq => by
    refine ⟨?_, ?_, fun x hx => ?_⟩
    · have := Kd.depths_mem hq
      show q.depth ≤ max (Kd.depths ps) r.depth + 1
      omega
    · have := Kd.sizes_mem hq
      show q.size ≤ Kd.sizes ps + r.size + 1
      omega
    · exact List.mem_append_left _ (Kd.namesL_mem hq hx)
  have res : ∀ {ps : List Kd} {r : Kd}, r.part (.calls ps r) := fun {ps r} => by
    refine ⟨?_, ?_, fun x hx => List.mem_append_right _ hx⟩
    · show r.depth ≤ max (Kd.depths ps) r.depth + 1
      omega
    · show r.size ≤ Kd.sizes ps + r.size + 1
      omega
  have row : ∀ {r : Kd}, r.part (.row r) := fun {r} => ⟨Nat.le_succ _, Nat.le_succ _, fun x hx => hx⟩
  have ans : ∀ {r : Kd} {n : Int}, r.part (.answers n r) := fun {r n} => ⟨Nat.le_succ _, Nat.le_succ _, fun x hx => hx⟩
  unfold asked at h
  split at h
  · split at h
    · cases h
      exact ⟨by simp [pairsSize, Kd.size], fun p hp => by simp at hp⟩
    · cases h
  · rename_i k l
    cases h
    refine ⟨by simp [pairsSize, Kd.size]; omega, fun p hp => ?_⟩
    have e : p = (k, l) := by simpa using hp
    subst e
    exact .inl ⟨row, row⟩
  · rename_i ps r qs s
    split at h
    · cases h
      refine ⟨?_, fun p hp => ?_⟩
      · rw [pairsSize_app]
        have := pairsSize_zip qs ps
        simp only [pairsSize, Kd.size]
        omega
      · rcases List.mem_append.mp hp with h | h
        · have h2 := List.of_mem_zip (a := p.1) (b := p.2) h
          exact .inr ⟨arg h2.1, arg h2.2⟩
        · have e : p = (r, s) := by simpa using h
          subst e
          exact .inl ⟨res, res⟩
    · cases h
  · rename_i n k qs s
    split at h
    · cases h
      refine ⟨by simp only [pairsSize, Kd.size]; omega, fun p hp => ?_⟩
      have e : p = (k, s) := by simpa using hp
      subst e
      exact .inl ⟨ans, res⟩
    · cases h
  · rename_i n k m l
    split at h
    · cases h
      refine ⟨by simp only [pairsSize, Kd.size]; omega, fun p hp => ?_⟩
      have e : p = (k, l) := by simpa using hp
      subst e
      exact .inl ⟨ans, ans⟩
    · cases h
  · cases h
theorem Kd.part.fine {l k : Kd} (h : l.part k) (f : k.fine) : l.fine := ⟨Nat.le_trans h.1 f.1, Nat.le_trans h.2.1 f.2.1, fun x hx => f.2.2 x (h.2.2 x hx)⟩
end My
namespace My
open PySem L2
def kwords : List Str := ["num", "text", "of", "row", "calls", "answers"]
theorem words_lay : ∀ w ∈ kwords, PyData.canLay0 (.str w) = true := by
  intro w h
  simp only [kwords, List.mem_cons, List.not_mem_nil, or_false] at h
  rcases h with rfl | rfl | rfl | rfl | rfl | rfl <;> decide +kernel
theorem words_shaped {w1 w2 : Str} (h1 : w1 ∈ kwords) (h2 : w2 ∈ kwords) : SeqAt.shaped (.tuple [.str w1, .str w2]) = true := by
  unfold SeqAt.shaped
  have a := words_lay w1 h1
  have b := words_lay w2 h2
  simp [PyData.canLay0, PyData.canLayAll0, PyData.depth, PyData.depthAll] at a b ⊢
  exact ⟨a, b⟩
theorem words_eq {K : PySem.W.Frag} {H : Hp} {p q : Addr} {w1 w2 u1 u2 : Str} {Q : V → Hp → Prop} (hp : H p = some (.tup [.str w1, .str w2])) (hq : H q = some (.tup [.str u1, .str u2]))
    (h1 : w1 ∈ kwords) (h2 : w2 ∈ kwords) (k1 : u1 ∈ kwords) (k2 : u2 ∈ kwords) (h : Q (.bl (decide (w1 = u1) && decide (w2 = u2))) H) : rEqD K (.ref p) (.ref q) H Q := by
  refine ⟨_, _, .tup (SqT.of hp) (.cons (.str _) (.cons (.str _) .nil)), .tup (SqT.of hq) (.cons (.str _) (.cons (.str _) .nil)), words_shaped h1 h2, words_shaped k1 k2, ?_⟩
  have e : PyData.eqv (.tuple [.str w1, .str w2]) (.tuple [.str u1, .str u2]) = (decide (w1 = u1) && decide (w2 = u2)) := by
    show ((w1 == u1) && ((w2 == u2) && true)) = _
    rw [Bool.and_true]
    rfl
  rw [e]
  exact h
theorem test_words {K : PySem.W.Frag} {σ : St} {H : Hp} {p : Addr} {w1 w2 u1 u2 : Str} {Q : Bool → Hp → Prop} (hv : σ[3]? = some (some (.ref p))) (hp : H p = some (.tup [.str w1, .str w2])) (h1 : w1 ∈ kwords) (h2 : w2 ∈ kwords) (k1 : u1 ∈ kwords) (k2 : u2 ∈ kwords)
    (h : ∀ H', Same H H' → Q (decide (w1 = u1) && decide (w2 = u2)) H') : tTest (tOp (rEqD K) (tVar 3) (tTup (tCons (tC (.str u1)) (tCons (tC (.str u2)) tNil)))) σ H Q := by
  refine ⟨_, hv, (by show 2 ≤ sizeLine; decide), fun q nq => ?_⟩
  have s1 := same_new nq (.tup [.str u1, .str u2])
  exact words_eq (s1 _ _ hp) upd_same h1 h2 k1 k2 ⟨_, rfl, h _ s1⟩
def Kd.word : Kd → Str
  | .num => "num"
  | .text => "text"
  | .of _ => "of"
  | .row _ => "row"
  | .calls _ _ => "calls"
  | .answers _ _ => "answers"
theorem Kd.word_mem (k : Kd) : k.word ∈ kwords := by cases k <;> simp [Kd.word, kwords]
theorem KdAt.word {H : Hp} {v : V} {k : Kd} (h : KdAt H v k) : ∃ a r, v = .ref a ∧ H a = some (.tup (.str k.word :: r)) := by
  cases h <;> exact ⟨_, _, rfl, by assumption⟩
theorem word_of {k : Kd} (h : k.word = "of") : ∃ x, k = .of x := by
  cases k with
  | of x => exact ⟨x, rfl⟩
  | _ => simp only [Kd.word] at h; exact absurd h (by decide)
theorem word_row {k : Kd} (h : k.word = "row") : ∃ x, k = .row x := by
  cases k with
  | row x => exact ⟨x, rfl⟩
  | _ => simp only [Kd.word] at h; exact absurd h (by decide)
theorem word_calls {k : Kd} (h : k.word = "calls") : ∃ x y, k = .calls x y := by
  cases k with
  | calls x y => exact ⟨x, y, rfl⟩
  | _ => simp only [Kd.word] at h; exact absurd h (by decide)
theorem word_answers {k : Kd} (h : k.word = "answers") : ∃ x y, k = .answers x y := by
  cases k with
  | answers x y => exact ⟨x, y, rfl⟩
  | _ => simp only [Kd.word] at h; exact absurd h (by decide)
theorem asked_of {up : Str → Str → Prop} {x y : Str} (h : up x y) : asked up (.of x) (.of y) = some [] := by simp [asked, h]
theorem asked_of0 {up : Str → Str → Prop} {x y : Str} (h : ¬ up x y) : asked up (.of x) (.of y) = none := by simp [asked, h]
theorem asked_calls {up : Str → Str → Prop} {ps qs : List Kd} {r s : Kd} (h : ps.length = qs.length) : asked up (.calls ps r) (.calls qs s) = some (qs.zip ps ++ [(r, s)]) := by simp [asked, h]
theorem asked_calls0 {up : Str → Str → Prop} {ps qs : List Kd} {r s : Kd} (h : ¬ ps.length = qs.length) : asked up (.calls ps r) (.calls qs s) = none := by simp [asked, h]
theorem asked_ac {up : Str → Str → Prop} {n : Int} {qs : List Kd} {r s : Kd} (h : n = (qs.length : Int)) : asked up (.answers n r) (.calls qs s) = some [(r, s)] := by simp [asked, h]
theorem asked_ac0 {up : Str → Str → Prop} {n : Int} {qs : List Kd} {r s : Kd} (h : ¬ n = (qs.length : Int)) : asked up (.answers n r) (.calls qs s) = none := by simp [asked, h]
theorem asked_aa {up : Str → Str → Prop} {n m : Int} {r s : Kd} (h : n = m) : asked up (.answers n r) (.answers m s) = some [(r, s)] := by simp [asked, h]
theorem asked_aa0 {up : Str → Str → Prop} {n m : Int} {r s : Kd} (h : ¬ n = m) : asked up (.answers n r) (.answers m s) = none := by simp [asked, h]
theorem asked_none {up : Str → Str → Prop} {a b : Kd} (e1 : (decide (a.word = "of") && decide (b.word = "of")) = false) (e2 : (decide (a.word = "row") && decide (b.word = "row")) = false) (e3 : (decide (a.word = "calls") && decide (b.word = "calls")) = false)
    (e4 : (decide (a.word = "answers") && decide (b.word = "calls")) = false) (e5 : (decide (a.word = "answers") && decide (b.word = "answers")) = false) : asked up a b = none := by
  cases a <;> cases b <;> first
    | rfl
    | exact Bool.noConfusion (show true = false from e1)
    | exact Bool.noConfusion (show true = false from e2)
    | exact Bool.noConfusion (show true = false from e3)
    | exact Bool.noConfusion (show true = false from e4)
    | exact Bool.noConfusion (show true = false from e5)
theorem two_words {a b u1 u2 : Str} (h : (decide (a = u1) && decide (b = u2)) = true) : a = u1 ∧ b = u2 := by
  rw [Bool.and_eq_true_iff, decide_eq_true_iff, decide_eq_true_iff] at h
  exact h
/-- pairs_asked -/
def spAsked : Sp := fun vs H Q _ => ∃ (ta : Addr) (ds : List (Str × Decl)) (v w : V) (a b : Kd), vs = [.ref ta, v, w] ∧ TabD H ta ds ∧ KdAt H v a ∧ KdAt H w b ∧ a.size ≤ 1000 ∧ b.size ≤ 1000 ∧ (∀ x ∈ a.names, x ∈ ds.map (·.1)) ∧
  ∀ H', Same H H' → (asked (Up ds) a b = none → Q .non H') ∧ ∀ (l : List (Kd × Kd)) (r : Addr) (ws : List V), asked (Up ds) a b = some l → H r = none → H' r = some (.lst ws) → Paired (PairAt H') ws l → Q (.ref r) H'
theorem pairs_zip {H : Hp} : ∀ {vs ws : List V} {ps qs : List Kd} {as : List Addr}, KdsAt H vs ps → KdsAt H ws qs → vs.length = ws.length → as.length = vs.length → PairsAt H vs ws as → Paired (PairAt H) (as.map V.ref) (ps.zip qs)
  | [], [], [], [], [], .nil, .nil, _, _, _ => .nil
  | v :: vs, w :: ws, p :: ps, q :: qs, a :: as, .cons h1 t1, .cons h2 t2, l1, l2, h => by
    obtain ⟨x, y, e1, e2, e3⟩ := h 0 a rfl
    cases e1
    cases e2
    exact .cons ⟨a, _, _, rfl, e3, h1, h2⟩ (pairs_zip t1 t2 (by simpa using l1) (by simpa using l2) fun j c hj => h (j + 1) c hj)
  | [], _ :: _, _, _, _, _, _, h, _, _ => by simp at h
  | _ :: _, [], _, _, _, _, _, h, _, _ => by simp at h
  | [], [], _, _, _ :: _, _, _, _, h, _ => by simp at h
  | _ :: _, _ :: _, _, _, [], _, _, _, h, _ => by simp at h
section
variable {P : Program} {w : World} {K : PySem.W.Frag} {mg : Str → Option Value} {base : Heap} {f : Addr} {fd : FuncData} {aT aF : Addr}
theorem ok_asked (B : Bn mg) (F : Fun K "pairs_asked" "pairs_asked" s_pairs_asked f fd) : FnOk P w K mg base CX0 1 f fd ["above", "given", "wanted"] spAsked := by
  refine F.ok sc_pairs_asked (fun vs H Q E h => ?_) (fun cdv A outer s H vs Q E hr h => ?_)
  · obtain ⟨ta, ds, v, w, a, b, rfl, _⟩ := h
    rfl
  obtain ⟨ta, ds, v, w, a, b, rfl, ht, ha, hb, la, lb, hn, q⟩ := h
  refine ⟨_, (pss_cons (ps_set (i := 3) sc_pairs_asked.nd rfl (Or.inl rfl) (pe_tup (pa_cons (pe_ix (ixT K rfl) (pv 1) pe_int (fun _ _ => rfl)) (pa_cons (pe_ix (ixT K rfl) (pv 2) pe_int (fun _ _ => rfl)) pa_nil))))
    (pss_cons (ps_if (PW.pt (pw_and (pt_cmpR (eqD K rfl hr.units) (pv 3) (pe_tup (pa_cons pe_str (pa_cons pe_str pa_nil))) (nomark _)) (pw_and1 (pt_cmp (pc_din (hu_of hr) (pe_ix (ixT K rfl) (pv 2) pe_int (fun _ _ => rfl)) (pe_dget (hu_of hr) (pv 0) (pe_ix (ixT K rfl) (pv 1) pe_int (fun _ _ => rfl)) (fun _ _ => rfl))) rfl)))) (pss_one (ps_ret (pe_lst pa_nil))) pss_nil)
    (pss_cons (ps_if (pt_cmpR (eqD K rfl hr.units) (pv 3) (pe_tup (pa_cons pe_str (pa_cons pe_str pa_nil))) (nomark _)) (pss_one (ps_ret (pe_lst (pa_cons (pe_tup (pa_cons (pe_ix (ixT K rfl) (pv 1) pe_int (fun _ _ => rfl)) (pa_cons (pe_ix (ixT K rfl) (pv 2) pe_int (fun _ _ => rfl)) pa_nil))) pa_nil)))) pss_nil)
    (pss_cons (ps_if (PW.pt (pw_and (pt_cmpR (eqD K rfl hr.units) (pv 3) (pe_tup (pa_cons pe_str (pa_cons pe_str pa_nil))) (nomark _)) (pw_and1 (pt_cmpR op_eq (pe_callB (lenSeq K rfl) (by rfl) B.b_len PySem.boot_len (pa_cons (pe_ix (ixT K rfl) (pv 1) pe_int (fun _ _ => rfl)) pa_nil)) (pe_callB (lenSeq K rfl) (by rfl) B.b_len PySem.boot_len (pa_cons (pe_ix (ixT K rfl) (pv 2) pe_int (fun _ _ => rfl)) pa_nil)) (nomark _))))) (pss_one (ps_ret (pe_op op_cat (pe_listZip K rfl rfl B.b_list B.b_zip (pa_cons (pe_ix (ixT K rfl) (pv 2) pe_int (fun _ _ => rfl)) (pa_cons (pe_ix (ixT K rfl) (pv 1) pe_int (fun _ _ => rfl)) pa_nil))) (pe_lst (pa_cons (pe_tup (pa_cons (pe_ix (ixT K rfl) (pv 1) pe_int (fun _ _ => rfl)) (pa_cons (pe_ix (ixT K rfl) (pv 2) pe_int (fun _ _ => rfl)) pa_nil))) pa_nil))))) pss_nil)
    (pss_cons (ps_if (PW.pt (pw_and (pt_cmpR (eqD K rfl hr.units) (pv 3) (pe_tup (pa_cons pe_str (pa_cons pe_str pa_nil))) (nomark _)) (pw_and1 (pt_cmpR op_eq (pe_ix (ixT K rfl) (pv 1) pe_int (fun _ _ => rfl)) (pe_callB (lenSeq K rfl) (by rfl) B.b_len PySem.boot_len (pa_cons (pe_ix (ixT K rfl) (pv 2) pe_int (fun _ _ => rfl)) pa_nil)) (nomark _))))) (pss_one (ps_ret (pe_lst (pa_cons (pe_tup (pa_cons (pe_ix (ixT K rfl) (pv 1) pe_int (fun _ _ => rfl)) (pa_cons (pe_ix (ixT K rfl) (pv 2) pe_int (fun _ _ => rfl)) pa_nil))) pa_nil)))) pss_nil)
    (pss_cons (ps_if (PW.pt (pw_and (pt_cmpR (eqD K rfl hr.units) (pv 3) (pe_tup (pa_cons pe_str (pa_cons pe_str pa_nil))) (nomark _)) (pw_and1 (pt_cmpR op_eq (pe_ix (ixT K rfl) (pv 1) pe_int (fun _ _ => rfl)) (pe_ix (ixT K rfl) (pv 2) pe_int (fun _ _ => rfl)) (nomark _))))) (pss_one (ps_ret (pe_lst (pa_cons (pe_tup (pa_cons (pe_ix (ixT K rfl) (pv 1) pe_int (fun _ _ => rfl)) (pa_cons (pe_ix (ixT K rfl) (pv 2) pe_int (fun _ _ => rfl)) pa_nil))) pa_nil)))) pss_nil)
    (pss_one (ps_ret pe_non)))))))), ?_⟩
  obtain ⟨pa, ra, rfl, hpa⟩ := ha.word
  obtain ⟨pb, rb, rfl, hpb⟩ := hb.word
  refine ⟨_, rfl, _, _, _, _, rfl, rfl, SqT.of hpa, at_of rfl rfl, _, rfl, _, _, _, _, rfl, rfl, SqT.of hpb, at_of rfl rfl, (by show 2 ≤ sizeLine; decide), fun p np => ?_⟩
  have s1 := same_new np (.tup [.str a.word, .str b.word])
  have hp : (upd H p (.tup [.str a.word, .str b.word])) p = some (.tup [.str a.word, .str b.word]) := upd_same
  generalize upd H p (.tup [.str a.word, .str b.word]) = H1 at s1 hp
  have ma := a.word_mem
  have mb := b.word_mem
  refine test_words rfl hp ma mb (by simp [kwords]) (by simp [kwords]) fun H2 s2 => ?_
  have hp2 := s2 _ _ hp
  have s12 := s1.trans s2
  cases e1 : (decide (a.word = "of") && decide (b.word = "of")) with
  | true =>
    obtain ⟨x, rfl⟩ := word_of (two_words e1).1
    obtain ⟨y, rfl⟩ := word_of (two_words e1).2
    cases ha with
    | of ha =>
    cases hb with
    | of hb =>
    obtain ⟨d, us, gd, kd, hu⟩ := (ht.same s12).get (hn x (by simp [Kd.names]))
    obtain ⟨o, go, eo⟩ := kd.get y
    refine iteT ⟨_, rfl, _, _, _, _, rfl, rfl, SqT.of (s12 _ _ hb), at_of (j := 1) rfl rfl, _, rfl, _, rfl, _, _, _, _, rfl, rfl, SqT.of (s12 _ _ ha), at_of (j := 1) rfl rfl, ta, _, rfl, gd, d, o, rfl, go, _, rfl, ?_⟩
    rw [eo]
    by_cases hxy : Up ds x y
    · rw [decide_eq_true ((hu y).mpr hxy)]
      refine iteT ⟨Nat.zero_le _, fun r nr => ?_⟩
      exact (q _ (s12.trans (same_new nr _))).2 [] r [] (asked_of hxy) (s12.free nr) upd_same .nil
    · rw [decide_eq_false (fun h => hxy ((hu y).mp h))]
      refine iteF ?_
      refine test_words rfl hp2 (Kd.word_mem (.of x)) (Kd.word_mem (.of y)) (by simp [kwords]) (by simp [kwords]) fun H3 s3 => iteF ?_
      refine test_words rfl (s3 _ _ hp2) (Kd.word_mem (.of x)) (Kd.word_mem (.of y)) (by simp [kwords]) (by simp [kwords]) fun H4 s4 => iteF (iteF ?_)
      refine test_words rfl (s4 _ _ (s3 _ _ hp2)) (Kd.word_mem (.of x)) (Kd.word_mem (.of y)) (by simp [kwords]) (by simp [kwords]) fun H5 s5 => iteF (iteF ?_)
      refine test_words rfl (s5 _ _ (s4 _ _ (s3 _ _ hp2))) (Kd.word_mem (.of x)) (Kd.word_mem (.of y)) (by simp [kwords]) (by simp [kwords]) fun H6 s6 => iteF (iteF ?_)
      exact (q _ (s12.trans (s3.trans (s4.trans (s5.trans s6))))).1 (asked_of0 hxy)
  | false =>
    refine iteF (iteF ?_)
    refine test_words rfl hp2 ma mb (by simp [kwords]) (by simp [kwords]) fun H3 s3 => ?_
    have hp3 := s3 _ _ hp2
    have s13 := s12.trans s3
    cases e2 : (decide (a.word = "row") && decide (b.word = "row")) with
    | true =>
      obtain ⟨x, rfl⟩ := word_row (two_words e2).1
      obtain ⟨y, rfl⟩ := word_row (two_words e2).2
      cases ha with
      | @row _ v1 _ ha ka =>
      cases hb with
      | @row _ v2 _ hb kb =>
      refine iteT ⟨_, rfl, _, _, _, _, rfl, rfl, SqT.of (s13 _ _ ha), at_of (j := 1) rfl rfl, _, rfl, _, _, _, _, rfl, rfl, SqT.of (s13 _ _ hb), at_of (j := 1) rfl rfl, (by show 2 ≤ sizeLine; decide), fun c nc => ⟨(by show 1 ≤ sizeLine; decide), fun r nr => ?_⟩⟩
      have sc := same_new nc
      have sr := same_new nr
      have T := s13.trans ((sc (.tup [v1, v2])).trans (sr (.lst [.ref c])))
      exact (q _ T).2 _ r _ rfl (s13.free ((sc _).free nr)) upd_same (.cons ⟨c, _, _, rfl, sr _ _ _ upd_same, ka.mono (Tups.of_same T), kb.mono (Tups.of_same T)⟩ .nil)
    | false =>
      refine iteF ?_
      refine test_words rfl hp3 ma mb (by simp [kwords]) (by simp [kwords]) fun H4 s4 => ?_
      have hp4 := s4 _ _ hp3
      have s14 := s13.trans s4
      cases e3 : (decide (a.word = "calls") && decide (b.word = "calls")) with
      | true =>
        obtain ⟨ps, x, rfl⟩ := word_calls (two_words e3).1
        obtain ⟨qs, y, rfl⟩ := word_calls (two_words e3).2
        cases ha with
        | @calls a' b1 vs1 v1 _ _ ha hb1 hps hx =>
        cases hb with
        | @calls a'' b2 vs2 v2 _ _ hb hb2 hqs hy =>
        have l1 := hps.len
        have l2 := hqs.len
        have z1 := Kd.len_sizes ps
        have z2 := Kd.len_sizes qs
        have la2 : Kd.sizes ps + x.size + 1 ≤ 1000 := la
        refine iteT ⟨_, rfl, _, _, _, _, rfl, rfl, SqT.of (s14 _ _ ha), at_of (j := 1) rfl rfl, b1, _, rfl, .inr (SqT.of (s14 _ _ hb1)), _, rfl, _, _, _, _, rfl, rfl, SqT.of (s14 _ _ hb), at_of (j := 1) rfl rfl, b2, _, rfl, .inr (SqT.of (s14 _ _ hb2)), rfl, _, rfl, ?_⟩
        by_cases hl : ps.length = qs.length
        · rw [decide_eq_true (by rw [l1, l2, hl])]
          refine iteT ⟨_, rfl, _, _, _, _, rfl, rfl, SqT.of (s14 _ _ hb), at_of (j := 1) rfl rfl, _, rfl, _, _, _, _, rfl, rfl, SqT.of (s14 _ _ ha), at_of (j := 1) rfl rfl, b2, b1, vs2, vs1, rfl, SqT.of (s14 _ _ hb2), SqT.of (s14 _ _ hb1), by omega, line5 (by omega), fun l as H5 nl s5 hl5 las pas => ?_⟩
          have s15 := s14.trans s5
          refine ⟨_, rfl, _, _, _, _, rfl, rfl, SqT.of (s15 _ _ ha), at_of (j := 2) rfl rfl, _, rfl, _, _, _, _, rfl, rfl, SqT.of (s15 _ _ hb), at_of (j := 2) rfl rfl, (by show 2 ≤ sizeLine; decide), fun c nc => ⟨(by show 1 ≤ sizeLine; decide), fun t nt => ?_⟩⟩
          have sc := same_new nc
          have st := same_new nt
          refine ⟨l, t, _, _, rfl, rfl, st _ _ _ (sc _ _ _ hl5), upd_same, Nat.le_of_lt (line5 (by rw [List.length_map, las]; simp; omega)), fun r nr => ?_⟩
          have sr := same_new nr
          have T5 := (sc (.tup [v1, v2])).trans ((st (.lst [.ref c])).trans (sr (.lst (as.map V.ref ++ [.ref c]))))
          have T := s15.trans T5
          refine (q _ T).2 _ r _ (asked_calls hl) (s15.free ((sc _).free ((st _).free nr))) upd_same (pair_app ?_ (.cons ⟨c, _, _, rfl, sr _ _ _ (st _ _ _ upd_same), hx.mono (Tups.of_same T), hy.mono (Tups.of_same T)⟩ .nil))
          refine pairs_zip (hqs.mono (Tups.of_same T)) (hps.mono (Tups.of_same T)) (by omega) las fun j c' hj => ?_
          obtain ⟨x', y', h1, h2, h3⟩ := pas j c' hj
          exact ⟨x', y', h1, h2, T5 _ _ h3⟩
        · rw [decide_eq_false (by rw [l1, l2]; intro h; have h2 := V.int.inj h; exact hl (by omega))]
          refine iteF ?_
          refine test_words rfl hp4 (Kd.word_mem (.calls ps x)) (Kd.word_mem (.calls qs y)) (by simp [kwords]) (by simp [kwords]) fun H5 s5 => iteF (iteF ?_)
          refine test_words rfl (s5 _ _ hp4) (Kd.word_mem (.calls ps x)) (Kd.word_mem (.calls qs y)) (by simp [kwords]) (by simp [kwords]) fun H6 s6 => iteF (iteF ?_)
          exact (q _ (s14.trans (s5.trans s6))).1 (asked_calls0 hl)
      | false =>
        refine iteF (iteF ?_)
        refine test_words rfl hp4 ma mb (by simp [kwords]) (by simp [kwords]) fun H5 s5 => ?_
        have hp5 := s5 _ _ hp4
        have s15 := s14.trans s5
        cases e4 : (decide (a.word = "answers") && decide (b.word = "calls")) with
        | true =>
          obtain ⟨n, x, rfl⟩ := word_answers (two_words e4).1
          obtain ⟨qs, y, rfl⟩ := word_calls (two_words e4).2
          cases ha with
          | @answers _ _ v1 _ ha hx =>
          cases hb with
          | @calls a'' b2 vs2 v2 _ _ hb hb2 hqs hy =>
          have l2 := hqs.len
          refine iteT ⟨_, rfl, _, _, _, _, rfl, rfl, SqT.of (s15 _ _ ha), at_of (j := 1) rfl rfl, _, rfl, _, _, _, _, rfl, rfl, SqT.of (s15 _ _ hb), at_of (j := 1) rfl rfl, b2, _, rfl, .inr (SqT.of (s15 _ _ hb2)), rfl, _, rfl, ?_⟩
          by_cases hl : n = (qs.length : Int)
          · rw [decide_eq_true (by rw [l2, hl])]
            refine iteT ⟨_, rfl, _, _, _, _, rfl, rfl, SqT.of (s15 _ _ ha), at_of (j := 2) rfl rfl, _, rfl, _, _, _, _, rfl, rfl, SqT.of (s15 _ _ hb), at_of (j := 2) rfl rfl, (by show 2 ≤ sizeLine; decide), fun c nc => ⟨(by show 1 ≤ sizeLine; decide), fun r nr => ?_⟩⟩
            have sc := same_new nc
            have sr := same_new nr
            have T := s15.trans ((sc (.tup [v1, v2])).trans (sr (.lst [.ref c])))
            exact (q _ T).2 _ r _ (asked_ac hl) (s15.free ((sc _).free nr)) upd_same (.cons ⟨c, _, _, rfl, sr _ _ _ upd_same, hx.mono (Tups.of_same T), hy.mono (Tups.of_same T)⟩ .nil)
          · rw [decide_eq_false (by rw [l2]; intro h; exact hl (V.int.inj h))]
            refine iteF ?_
            refine test_words rfl hp5 (Kd.word_mem (.answers n x)) (Kd.word_mem (.calls qs y)) (by simp [kwords]) (by simp [kwords]) fun H6 s6 => iteF (iteF ?_)
            exact (q _ (s15.trans s6)).1 (asked_ac0 hl)
        | false =>
          refine iteF (iteF ?_)
          refine test_words rfl hp5 ma mb (by simp [kwords]) (by simp [kwords]) fun H6 s6 => ?_
          have s16 := s15.trans s6
          cases e5 : (decide (a.word = "answers") && decide (b.word = "answers")) with
          | true =>
            obtain ⟨n, x, rfl⟩ := word_answers (two_words e5).1
            obtain ⟨m, y, rfl⟩ := word_answers (two_words e5).2
            cases ha with
            | @answers _ _ v1 _ ha hx =>
            cases hb with
            | @answers _ _ v2 _ hb hy =>
            refine iteT ⟨_, rfl, _, _, _, _, rfl, rfl, SqT.of (s16 _ _ ha), at_of (j := 1) rfl rfl, _, rfl, _, _, _, _, rfl, rfl, SqT.of (s16 _ _ hb), at_of (j := 1) rfl rfl, rfl, _, rfl, ?_⟩
            by_cases hl : n = m
            · rw [decide_eq_true (by rw [hl])]
              refine iteT ⟨_, rfl, _, _, _, _, rfl, rfl, SqT.of (s16 _ _ ha), at_of (j := 2) rfl rfl, _, rfl, _, _, _, _, rfl, rfl, SqT.of (s16 _ _ hb), at_of (j := 2) rfl rfl, (by show 2 ≤ sizeLine; decide), fun c nc => ⟨(by show 1 ≤ sizeLine; decide), fun r nr => ?_⟩⟩
              have sc := same_new nc
              have sr := same_new nr
              have T := s16.trans ((sc (.tup [v1, v2])).trans (sr (.lst [.ref c])))
              exact (q _ T).2 _ r _ (asked_aa hl) (s16.free ((sc _).free nr)) upd_same (.cons ⟨c, _, _, rfl, sr _ _ _ upd_same, hx.mono (Tups.of_same T), hy.mono (Tups.of_same T)⟩ .nil)
            · rw [decide_eq_false (by intro h; exact hl (V.int.inj h))]
              refine iteF ?_
              exact (q _ s16).1 (asked_aa0 hl)
          | false =>
            refine iteF (iteF ?_)
            exact (q _ s16).1 (asked_none e1 e2 e3 e4 e5)
end
end My
namespace My
open PySem L2
/-! fits_by -/
def knows (ds : List (Str × Decl)) (k : Kd) : Prop := ∀ x ∈ k.names, x ∈ ds.map (·.1)
/-- a kind fits another one -/
def fitsP (ds : List (Str × Decl)) (a b : Kd) : Prop := a = b ∨ (knows ds a ∧ knows ds b ∧ Fit (Up ds) a b)
def spFits : Sp := fun vs H Q _ => ∃ (ta : Addr) (ds : List (Str × Decl)) (v w : V) (a b : Kd), vs = [.ref ta, v, w] ∧ TabD H ta ds ∧ KdAt H v a ∧ KdAt H w b ∧ a.fine ∧ b.fine ∧
  ∀ (r : Bool) (H' : Hp), (r = true ↔ fitsP ds a b) → Same H H' → Q (.bl r) H'
def goodP (ds : List (Str × Decl)) (p : Kd × Kd) : Prop := p.1.fine ∧ p.2.fine ∧ knows ds p.1 ∧ knows ds p.2
def Wfit (ta rw : Addr) (ds : List (Str × Decl)) (v w : V) (a b : Kd) (H0 : Hp) (m : Nat) (σ : St) (H : Hp) : Prop :=
  ∃ (ws : List V) (l : List (Kd × Kd)) (u4 u5 u6 : Option V), σ = [some (.ref ta), some v, some w, some (.ref rw), u4, u5, u6] ∧ Same H0 H ∧ H rw = some (.lst ws) ∧ Paired (PairAt H) ws l ∧ (∀ p ∈ l, goodP ds p) ∧
    ((∀ p ∈ l, Fit (Up ds) p.1 p.2) ↔ Fit (Up ds) a b) ∧ pairsSize l ≤ 2000 ∧ m = pairsSize l
theorem fit_asked {up : Str → Str → Prop} {x y : Kd} (n : x ≠ y) : Fit up x y ↔ ∃ l, asked up x y = some l ∧ ∀ p ∈ l, Fit up p.1 p.2 := by
  constructor
  · intro h
    cases h with
    | refl => exact absurd rfl n
    | step h t => exact ⟨_, h, t⟩
  · rintro ⟨l, h, t⟩
    exact .step h t
theorem all_snoc {α : Type} {p : α → Prop} {l : List α} {x : α} : (∀ y ∈ l ++ [x], p y) ↔ (∀ y ∈ l, p y) ∧ p x := by
  constructor
  · intro h
    exact ⟨fun y hy => h y (List.mem_append_left _ hy), h x (by simp)⟩
  · rintro ⟨h, hx⟩ y hy
    rcases List.mem_append.mp hy with hy | hy
    · exact h y hy
    · have e : y = x := by simpa using hy
      rw [e]
      exact hx
theorem all_app {α : Type} {p : α → Prop} {l m : List α} : (∀ y ∈ l ++ m, p y) ↔ (∀ y ∈ l, p y) ∧ ∀ y ∈ m, p y := by
  constructor
  · intro h
    exact ⟨fun y hy => h y (List.mem_append_left _ hy), fun y hy => h y (List.mem_append_right _ hy)⟩
  · rintro ⟨h, hx⟩ y hy
    rcases List.mem_append.mp hy with hy | hy
    · exact h y hy
    · exact hx y hy
theorem pairsSize_len : ∀ (l : List (Kd × Kd)), 2 * l.length ≤ pairsSize l
  | [] => Nat.le_refl _
  | p :: r => by
    have := pairsSize_len r
    have h1 : 1 ≤ p.1.size := by rw [Kd.size_inner]; omega
    have h2 : 1 ≤ p.2.size := by rw [Kd.size_inner]; omega
    rw [List.length_cons, pairsSize]
    omega
theorem kd_eq {K : PySem.W.Frag} {H : Hp} {v w : V} {a b : Kd} {Q : V → Hp → Prop} (ha : KdAt H v a) (hb : KdAt H w b) (fa : a.fine) (fb : b.fine) (h : Q (.bl (PyData.eqv a.data b.data)) H) : rEqD K v w H Q :=
  ⟨_, _, ha.dp, hb.dp, Kd.fine_shaped fa, Kd.fine_shaped fb, h⟩
theorem knows_iff {ns : List Str} {k : Kd} : ((k.subs.filterMap Kd.nameOf).all fun x => decide (x ∈ ns)) = true ↔ ∀ x ∈ k.names, x ∈ ns := by
  rw [Kd.names_subs, List.all_eq_true]
  exact ⟨fun h x hx => of_decide_eq_true (h x hx), fun h x hx => decide_eq_true (h x hx)⟩
section
variable {P : Program} {w : World} {K : PySem.W.Frag} {mg : Str → Option Value} {base : Heap} {f : Addr} {fd : FuncData} {aT aF : Addr}
theorem ok_fits (B : Bn mg) (F : Fun K "fits_by" "fits_by" s_fits_by f fd) (c_all_declared : Cal P w K mg base "all_declared" 4 ["above", "kind"] spAllDecl) (c_pairs_asked : Cal P w K mg base "pairs_asked" 1 ["above", "given", "wanted"] spAsked) : FnOk P w K mg base CX0 5 f fd ["above", "given", "wanted"] spFits := by
  refine F.ok sc_fits_by (fun vs H Q E h => ?_) (fun cdv A outer s H vs Q E hr h => ?_)
  · obtain ⟨ta, ds, v, w, a, b, rfl, _⟩ := h
    rfl
  obtain ⟨ta, ds, v, w, a, b, rfl, ht, ha, hb, fa, fb, q⟩ := h
  refine ⟨_, (pss_cons (ps_if (pt_cmpR (eqD K rfl hr.units) (pv 1) (pv 2) (nomark _)) (pss_one (ps_ret pe_bl)) pss_nil)
    (pss_cons (ps_if (PW.pt (pw_or (pt_not (pt_val (pc c_all_declared (hr.mono (by first | decide | omega)) (pa_cons (pv 0) (pa_cons (pv 1) pa_nil))))) (pw_or1 (pt_not (pt_val (pc c_all_declared (hr.mono (by first | decide | omega)) (pa_cons (pv 0) (pa_cons (pv 2) pa_nil)))))))) (pss_one (ps_ret pe_bl)) pss_nil)
    (pss_cons (ps_set (i := 3) sc_fits_by.nd rfl (Or.inl rfl) (pe_lst (pa_cons (pe_tup (pa_cons (pv 1) (pa_cons (pv 2) pa_nil))) pa_nil)))
    (pss_cons (ps_while PassesOwn.never (truth K rfl (pv 3)) (pss_cons (ps_asg (pe_bm0 PySem.F.plainAttrs_list PySem.F.slot_list_pop PySem.F.type_list_pop mt_pop (pv 3)) (pg_tup rfl (pgs_cons (pg_name (i := 5) sc_fits_by.nd rfl (Or.inl rfl)) (pgs_cons (pg_name (i := 6) sc_fits_by.nd rfl (Or.inl rfl)) pgs_nil))))
    (pss_cons (ps_if (pt_cmpR (eqD K rfl hr.units) (pv 5) (pv 6) (nomark _)) (pss_one ps_continue) pss_nil)
    (pss_cons (ps_set (i := 4) sc_fits_by.nd rfl (Or.inl rfl) (pc c_pairs_asked (hr.mono (by first | decide | omega)) (pa_cons (pv 0) (pa_cons (pv 5) (pa_cons (pv 6) pa_nil)))))
    (pss_cons (ps_if (pt_cmpR op_isN (pv 4) pe_non (nomark _)) (pss_one (ps_ret pe_bl)) pss_nil)
    (pss_one (ps_expr (pe_bm PySem.F.plainAttrs_list PySem.F.slot_list_extend PySem.F.type_list_extend mt_extend (pv 3) (pa_cons (pv 4) pa_nil)))))))))
    (pss_one (ps_ret pe_bl)))))), ?_⟩
  have za := fa.2.1
  have zb := fb.2.1
  refine ⟨_, rfl, _, rfl, kd_eq ha hb fa fb ⟨_, rfl, ?_⟩⟩
  cases e0 : PyData.eqv a.data b.data with
  | true => exact iteT (q true H (iff_of_true rfl (.inl ((Kd.data_iff a b).mp e0))) (Same.refl _))
  | false =>
    have nab : a ≠ b := fun h => by rw [(Kd.data_iff a b).mpr h] at e0; cases e0
    refine iteF ?_
    refine ⟨_, rfl, _, rfl, ta, _, v, a, rfl, ht.keys, ha, by omega, fun H1 s1 => ⟨_, rfl, ?_⟩⟩
    cases c1 : ((a.subs.filterMap Kd.nameOf).all fun x => decide (x ∈ ds.map (·.1))) with
    | false =>
      refine iteT (iteT (q false H1 (iff_of_false (by decide) fun h => ?_) s1))
      rcases h with h | ⟨h, _, _⟩
      · exact nab h
      · rw [knows_iff.mpr h] at c1
        cases c1
    | true =>
      have ka := knows_iff.mp c1
      refine iteF ?_
      refine ⟨_, rfl, _, rfl, ta, _, w, b, rfl, (ht.same s1).keys, hb.mono (Tups.of_same s1), by omega, fun H2 s2 => ⟨_, rfl, ?_⟩⟩
      have s12 := s1.trans s2
      cases c2 : ((b.subs.filterMap Kd.nameOf).all fun x => decide (x ∈ ds.map (·.1))) with
      | false =>
        refine iteT (q false H2 (iff_of_false (by decide) fun h => ?_) s12)
        rcases h with h | ⟨_, h, _⟩
        · exact nab h
        · rw [knows_iff.mpr h] at c2
          cases c2
      | true =>
        have kb := knows_iff.mp c2
        have iffP : ∀ r : Bool, (r = true ↔ Fit (Up ds) a b) → (r = true ↔ fitsP ds a b) := fun r h => h.trans ⟨fun z => .inr ⟨ka, kb, z⟩, fun z => by
          rcases z with z | ⟨_, _, z⟩
          · exact absurd z nab
          · exact z⟩
        refine iteF ?_
        refine ⟨_, rfl, _, rfl, (by show 2 ≤ sizeLine; decide), fun c nc => ⟨(by show 1 ≤ sizeLine; decide), fun rw nrw => ?_⟩⟩
        have sc := same_new nc (.tup [v, w])
        have sr := same_new nrw (.lst [.ref c])
        have s3 := s12.trans (sc.trans sr)
        have nrw0 : H rw = none := s12.free (sc.free nrw)
        have hc3 : (upd (upd H2 c (.tup [v, w])) rw (.lst [.ref c])) c = some (.tup [v, w]) := sr _ _ upd_same
        have hw3 : (upd (upd H2 c (.tup [v, w])) rw (.lst [.ref c])) rw = some (.lst [.ref c]) := upd_same
        generalize upd (upd H2 c (.tup [v, w])) rw (.lst [.ref c]) = H3 at s3 hc3 hw3
        have T3 := Tups.of_same s3
        refine ⟨Wfit ta rw ds v w a b H, ⟨_, [.ref c], [(a, b)], none, none, none, rfl, s3, hw3, .cons ⟨c, v, w, rfl, hc3, ha.mono T3, hb.mono T3⟩ .nil, fun p hp => ?_, ?_, ?_, rfl⟩, fun m σ H4 w1 => ?_⟩
        · have e : p = (a, b) := by simpa using hp
          rw [e]
          exact ⟨fa, fb, ka, kb⟩
        · exact ⟨fun h => h (a, b) (by simp), fun h p hp => by
            have e : p = (a, b) := by simpa using hp
            rw [e]
            exact h⟩
        · show a.size + b.size + 0 ≤ 2000
          omega
        · obtain ⟨ws, l, u4, u5, u6, rfl, s4, hw, pw, good, hfit, hz, rfl⟩ := w1
          refine ⟨_, rfl, _, .inl ⟨ws, SqL.of hw, rfl⟩, ?_⟩
          by_cases hn : ws = []
          · subst hn
            cases pw
            refine iteF ?_
            exact q true H4 (iffP true (iff_of_true rfl (hfit.mp fun p hp => by simp at hp))) s4
          · have e : ws = ws.dropLast ++ [ws.getLast hn] := (List.dropLast_concat_getLast hn).symm
            generalize ws.dropLast = wl at e
            generalize ws.getLast hn = z at e
            subst e
            obtain ⟨l', p, rfl, pl, pz⟩ := pair_snoc pw
            obtain ⟨x, y⟩ := p
            refine ifT (by cases wl <;> rfl) ?_
            obtain ⟨c5, vx, vy, rfl, hc5, hx, hy⟩ := pz
            refine ⟨fun σ' H' => ∃ m', m' < pairsSize (l' ++ [(x, y)]) ∧ Wfit ta rw ds v w a b H m' σ' H', fun _ _ h => h, ?_⟩
            refine ⟨_, rfl, tyL hw, rw, _, .ref c5, rfl, rfl, hw, by simp, ?_⟩
            rw [List.dropLast_concat]
            have T5 : Tups H4 (upd H4 rw (.lst wl)) := Tups.upd hw
            have s5 : Same H (upd H4 rw (.lst wl)) := Same.atNew s4 nrw0
            have hw5 : (upd H4 rw (.lst wl)) rw = some (.lst wl) := upd_same
            generalize upd H4 rw (.lst wl) = H5 at T5 s5 hw5
            obtain ⟨gx, gy, kx, ky⟩ : goodP ds (x, y) := good _ (by simp)
            have good' : ∀ p ∈ l', goodP ds p := fun p hp => good p (by simp [hp])
            have zl : pairsSize (l' ++ [(x, y)]) = pairsSize l' + (x.size + y.size) := by rw [pairsSize_app]; rfl
            have hx1 : 1 ≤ x.size := by rw [Kd.size_inner]; omega
            have hx5 := hx.mono T5
            have hy5 := hy.mono T5
            have pl5 : Paired (PairAt H5) wl l' := Paired.mono (fun _ _ z => z.mono T5) pl
            refine ⟨c5, _, rfl, SqT.of (T5 _ _ hc5), rfl, _, _, rfl, _, _, rfl, rfl, ?_⟩
            refine ⟨_, rfl, _, rfl, kd_eq hx5 hy5 gx gy ⟨_, rfl, ?_⟩⟩
            cases e6 : PyData.eqv x.data y.data with
            | true =>
              have exy := (Kd.data_iff x y).mp e6
              refine iteT ⟨_, ?_, wl, l', _, _, _, rfl, s5, hw5, pl5, good', ?_, by omega, rfl⟩
              · omega
              · rw [← hfit, all_snoc]
                exact ⟨fun h => ⟨h, by rw [exy]; exact .refl _⟩, fun h => h.1⟩
            | false =>
              have nxy : x ≠ y := fun h => by rw [(Kd.data_iff x y).mpr h] at e6; cases e6
              refine iteF ?_
              refine ⟨_, rfl, _, rfl, _, rfl, ta, ds, vx, vy, x, y, rfl, ht.same s5, hx5, hy5, gx.2.1, gy.2.1, kx, fun H6 s6 => ⟨fun hnone => ?_, fun l2 r ws2 hsome nr hr6 pw6 => ?_⟩⟩
              · refine ⟨_, rfl, rfl, _, rfl, iteT (q false H6 (iffP false (iff_of_false (by decide) fun h => ?_)) (s5.trans s6))⟩
                obtain ⟨l2, e, _⟩ := (fit_asked nxy).mp ((all_snoc.mp (hfit.mpr h)).2)
                rw [hnone] at e
                cases e
              · have s56 := s5.trans s6
                obtain ⟨zp, parts⟩ := asked_parts hsome
                have lw := pw6.length
                have ll := pairsSize_len l2
                have lw2 := pl5.length
                have ll2 := pairsSize_len l'
                refine ⟨_, rfl, rfl, _, rfl, iteF ?_⟩
                refine ⟨_, rfl, tyL (s6 _ _ hw5), _, rfl, rw, r, wl, ws2, rfl, rfl, s6 _ _ hw5, hr6, Nat.le_of_lt (line5 (by omega)), _, ?_, wl ++ ws2, l' ++ l2, _, _, _, rfl, Same.atNew s56 nrw0, upd_same, ?_, ?_, ?_, ?_, rfl⟩
                · rw [zl, pairsSize_app]
                  omega
                · have T7 : Tups H6 (upd H6 rw (.lst (wl ++ ws2))) := Tups.upd (s6 _ _ hw5)
                  exact pair_app (Paired.mono (fun _ _ z => z.mono ((Tups.of_same s6).trans T7)) pl5) (Paired.mono (fun _ _ z => z.mono T7) pw6)
                · refine all_app.mpr ⟨good', fun p hp => ?_⟩
                  rcases parts p hp with ⟨h1, h2⟩ | ⟨h1, h2⟩
                  · exact ⟨h1.fine gx, h2.fine gy, fun z hz => kx z (h1.2.2 z hz), fun z hz => ky z (h2.2.2 z hz)⟩
                  · exact ⟨h1.fine gy, h2.fine gx, fun z hz => ky z (h1.2.2 z hz), fun z hz => kx z (h2.2.2 z hz)⟩
                · rw [← hfit, all_snoc, all_app, fit_asked nxy]
                  exact ⟨fun h => ⟨h.1, l2, hsome, h.2⟩, fun h => ⟨h.1, by obtain ⟨l3, e3, h3⟩ := h.2; rw [hsome] at e3; cases e3; exact h3⟩⟩
                · rw [pairsSize_app]
                  omega
end
end My
namespace My
open PySem L2
/-! the declarations as they are handed in -/
def ItemAt (H : Hp) (v : V) (p : Str × Decl) : Prop := ∃ (c : Addr) (dv : V), v = .ref c ∧ H c = some (.tup [.str p.1, dv]) ∧ DeclAt H dv p.2
theorem ItemAt.mono {H H' : Hp} (t : Tups H H') {v : V} {p : Str × Decl} (h : ItemAt H v p) : ItemAt H' v p := by
  obtain ⟨c, dv, e, h, k⟩ := h
  exact ⟨c, dv, e, t _ _ h, k.mono t⟩
/-- of a name that stands there twice the first one -/
def first1 (acc : List (Str × Decl)) (p : Str × Decl) : List (Str × Decl) := if p.1 ∈ acc.map (·.1) then acc else acc ++ [p]
def firsts (ds : List (Str × Decl)) : List (Str × Decl) := ds.foldl first1 []
theorem first1_in {acc : List (Str × Decl)} {p : Str × Decl} (h : p.1 ∈ acc.map (·.1)) : first1 acc p = acc := by
  unfold first1
  rw [if_pos h]
theorem first1_out {acc : List (Str × Decl)} {p : Str × Decl} (h : p.1 ∉ acc.map (·.1)) : first1 acc p = acc ++ [p] := by
  unfold first1
  rw [if_neg h]
theorem first1_nodup {acc : List (Str × Decl)} {p : Str × Decl} (h : (acc.map (·.1)).Nodup) : ((first1 acc p).map (·.1)).Nodup := by
  unfold first1
  split
  · exact h
  · rename_i n
    rw [List.map_append, List.nodup_append]
    refine ⟨h, by simp, fun a ha b hb e => n ?_⟩
    have eb : b = p.1 := by simpa using hb
    rw [← eb, ← e]
    exact ha
theorem ffold_nodup : ∀ (ds acc : List (Str × Decl)), (acc.map (·.1)).Nodup → ((ds.foldl first1 acc).map (·.1)).Nodup
  | [], _, h => h
  | p :: r, acc, h => ffold_nodup r (first1 acc p) (first1_nodup h)
theorem firsts_nodup (ds : List (Str × Decl)) : ((firsts ds).map (·.1)).Nodup := ffold_nodup ds [] .nil
theorem ffold_same : ∀ (ds acc : List (Str × Decl)), ((acc ++ ds).map (·.1)).Nodup → ds.foldl first1 acc = acc ++ ds
  | [], acc, _ => by simp
  | p :: r, acc, h => by
    have e : first1 acc p = acc ++ [p] := by
      unfold first1
      rw [if_neg]
      intro hm
      rw [List.map_append, List.nodup_append] at h
      exact h.2.2 p.1 hm p.1 (by simp) rfl
    have e2 : acc ++ p :: r = (acc ++ [p]) ++ r := by simp
    rw [List.foldl_cons, e, ffold_same r (acc ++ [p]) (by rw [← e2]; exact h), e2]
theorem firsts_same {ds : List (Str × Decl)} (h : (ds.map (·.1)).Nodup) : firsts ds = ds := ffold_same ds [] h
theorem first1_len {acc : List (Str × Decl)} {p : Str × Decl} : (first1 acc p).length ≤ acc.length + 1 := by
  unfold first1
  split <;> simp
theorem ffold_len : ∀ (ds acc : List (Str × Decl)), (ds.foldl first1 acc).length ≤ acc.length + ds.length
  | [], acc => by simp
  | p :: r, acc => by
    have := ffold_len r (first1 acc p)
    have := first1_len (acc := acc) (p := p)
    rw [List.foldl_cons, List.length_cons]
    omega
theorem firsts_len (ds : List (Str × Decl)) : (firsts ds).length ≤ ds.length := by
  have := ffold_len ds []
  simpa [firsts] using this
theorem first1_mem {acc : List (Str × Decl)} {p q : Str × Decl} (h : q ∈ first1 acc p) : q ∈ acc ∨ q = p := by
  unfold first1 at h
  split at h
  · exact .inl h
  · rcases List.mem_append.mp h with h | h
    · exact .inl h
    · exact .inr (by simpa using h)
theorem ffold_mem : ∀ (ds acc : List (Str × Decl)) (q : Str × Decl), q ∈ ds.foldl first1 acc → q ∈ acc ∨ q ∈ ds
  | [], _, _, h => .inl h
  | p :: r, acc, q, h => by
    rcases ffold_mem r (first1 acc p) q h with h | h
    · rcases first1_mem h with h | h
      · exact .inl h
      · exact .inr (by rw [h]; simp)
    · exact .inr (List.mem_cons_of_mem _ h)
theorem firsts_mem {ds : List (Str × Decl)} {q : Str × Decl} (h : q ∈ firsts ds) : q ∈ ds := by
  rcases ffold_mem ds [] q h with h | h
  · simp at h
  · exact h
theorem ffold_has : ∀ (ds acc : List (Str × Decl)) (x : Str), x ∈ (ds.foldl first1 acc).map (·.1) ↔ x ∈ acc.map (·.1) ∨ x ∈ ds.map (·.1)
  | [], acc, x => by simp
  | p :: r, acc, x => by
    rw [List.foldl_cons, ffold_has r (first1 acc p) x]
    have e : x ∈ (first1 acc p).map (·.1) ↔ x ∈ acc.map (·.1) ∨ x = p.1 := by
      unfold first1
      split
      · rename_i h
        exact ⟨.inl, fun z => z.elim id fun z => by rw [z]; exact h⟩
      · rw [List.map_append, List.mem_append]
        simp
    rw [e, List.map_cons, List.mem_cons, or_assoc]
theorem firsts_has {ds : List (Str × Decl)} {x : Str} : x ∈ (firsts ds).map (·.1) ↔ x ∈ ds.map (·.1) := by
  rw [firsts, ffold_has]
  simp
def spFirst (K : PySem.W.Frag) : Sp := fun vs H Q _ => ∃ (l : Addr) (ws : List V) (ds : List (Str × Decl)), vs = [.ref l] ∧ SqL K H l ws ∧ Paired (ItemAt H) ws ds ∧ ds.length ≤ 100 ∧
  ∀ (r : Addr) (kvs : List (Key × V)) (H' : Hp), H r = none → H' r = some (.dK kvs) → DeclsAt H' kvs (firsts ds) → Same H H' → Q (.ref r) H'
def Pfir (l d : Addr) (ds : List (Str × Decl)) (H0 : Hp) (i : Nat) (σ : St) (H : Hp) : Prop :=
  ∃ (kvs : List (Key × V)) (u2 u3 : Option V), σ = [some (.ref l), some (.ref d), u2, u3] ∧ Same H0 H ∧ H d = some (.dK kvs) ∧ DeclsAt H kvs ((ds.take i).foldl first1 [])
theorem decls_keys {H : Hp} : ∀ {kvs : List (Key × V)} {ds : List (Str × Decl)}, DeclsAt H kvs ds → kvs.map (·.1) = (ds.map (·.1)).map Sum.inr
  | [], [], .nil => rfl
  | p :: kvs, q :: ds, .cons h t => by rw [List.map_cons, List.map_cons, List.map_cons, h.1, decls_keys t]
theorem tups_updD {H : Hp} {p : Addr} {kvs : List (Key × V)} {o : HO} (h : H p = some (.dK kvs)) : Tups H (upd H p o) := fun a ys e => by
  rw [upd_ne (ne_of e h (by intro z; cases z))]
  exact e
section
variable {P : Program} {w : World} {K : PySem.W.Frag} {mg : Str → Option Value} {base : Heap} {f : Addr} {fd : FuncData} {aT aF : Addr}
theorem ok_first (F : Fun K "first_declared" "first_declared" s_first_declared f fd) : FnOk P w K mg base CX0 1 f fd ["kinds"] (spFirst K) := by
  refine F.ok sc_first_declared (fun vs H Q E h => ?_) (fun cdv A outer s H vs Q E hr h => ?_)
  · obtain ⟨l, ws, ds, rfl, _⟩ := h
    rfl
  obtain ⟨l, ws, ds, rfl, hl, hw, hn, q⟩ := h
  refine ⟨_, (pss_cons (ps_set (i := 1) sc_first_declared.nd rfl (Or.inl rfl) pe_dnewK)
    (pss_cons (ps_for PassesOwn.never rfl (piL K rfl (pv 0)) (pg_tup rfl (pgs_cons (pg_name (i := 2) sc_first_declared.nd rfl (Or.inl rfl)) (pgs_cons (pg_name (i := 3) sc_first_declared.nd rfl (Or.inl rfl)) pgs_nil))) (pss_one (ps_expr (pe_dsetd (pv 1) (pv 2) (pv 3) ⟨by rfl, by rfl, by rfl, by rfl⟩))))
    (pss_one (ps_ret (pv 1))))), ?_⟩
  refine fun d nd => ⟨_, rfl, l, rfl, ⟨_, (same_new nd _).seq hl⟩, for_list (xs := ws) (Pfir l d ds H) ?_ ?_ ?_ ?_⟩
  · exact ⟨[], none, none, rfl, same_new nd _, upd_same, .nil⟩
  · rintro i σ H1 _ ⟨kvs, u2, u3, rfl, s1, _⟩
    exact s1.seq hl
  · rintro i x σ H1 hx ⟨kvs, u2, u3, rfl, s1, hd, hk⟩
    obtain ⟨p, hp, c, dv, rfl, hc, hdv⟩ := Paired.at hw i x hx
    have hil : i < ds.length := (List.getElem?_eq_some_iff.mp hp).1
    have lk : kvs.length = _ := Paired.length hk
    have lf := ffold_len (ds.take i) []
    have lt := List.length_take_le' i ds
    have e1 : (ds.take (i + 1)).foldl first1 [] = first1 ((ds.take i).foldl first1 []) p := by rw [← take_next hp, List.foldl_append]; rfl
    have hv := valV_keys (decls_keys hk) p.1
    refine ⟨c, _, rfl, SqT.of (s1 _ _ hc), rfl, _, _, rfl, _, _, rfl, rfl, ?_⟩
    refine ⟨_, rfl, d, rfl, .inl ⟨_, .inl hd⟩, _, rfl, _, rfl, kvs, Sum.inr p.1, hd, rfl, line5 (by simp at lf; omega), fun v ev => ?_, fun ev => ?_⟩
    · refine ⟨kvs, _, _, rfl, s1, hd, ?_⟩
      rw [ev] at hv
      rw [e1, first1_in (of_decide_eq_true hv.symm)]
      exact hk
    · have s2 : Same H (upd H1 d (.dK (putK kvs (Sum.inr p.1) dv))) := Same.atNew s1 nd
      refine ⟨putK kvs (Sum.inr p.1) dv, _, _, rfl, s2, upd_same, ?_⟩
      rw [ev] at hv
      rw [e1, putK_new ev, first1_out (of_decide_eq_false hv.symm)]
      have T1 : Tups H1 (upd H1 d (.dK (kvs ++ [(Sum.inr p.1, dv)]))) := tups_updD hd
      exact pair_app (hk.mono T1) (.cons ⟨rfl, (hdv.mono (Tups.of_same s1)).mono T1⟩ .nil)
  · rintro σ H1 ⟨kvs, u2, u3, rfl, s1, hd, hk⟩
    rw [Paired.length hw, List.take_length] at hk
    exact ⟨_, rfl, q d kvs H1 nd hd hk s1⟩
end
end My
namespace My
open PySem L2
/-! above_is_sound -/
def Decl.isRec : Decl → Bool
  | .record _ _ => true
  | _ => false
def Decl.isHid : Decl → Bool
  | .hidden _ => true
  | _ => false
def Decl.word : Decl → Str
  | .record _ _ => "record"
  | .choice _ _ => "choice"
  | .hidden _ => "hidden"
theorem DeclAt.word {H : Hp} {v : V} {d : Decl} (h : DeclAt H v d) : ∃ a r, v = .ref a ∧ H a = some (.tup (.str d.word :: r)) := by
  cases h <;> exact ⟨_, _, rfl, by assumption⟩
/-- e may stand above d -/
def mayUp (d e : Decl) : Bool := e.isHid || (d.isRec && e.isRec)
def upOk (ds : List (Str × Decl)) (d : Decl) (u : Str) : Bool := match look ds u with
  | some e => mayUp d e
  | none => false
/-- what stands above x may stand there -/
def aboveOk (ds : List (Str × Decl)) (x : Str) (d : Decl) : Prop := d.up.Nodup ∧ ¬ Up ds x x ∧ d.up.all (upOk ds d) = true
def spAboveOk : Sp := fun vs H Q _ => ∃ (da ta : Addr) (ds : List (Str × Decl)) (x : Str) (v : V) (d : Decl), vs = [.ref da, .str x, v, .ref ta] ∧ DeclD H da ds ∧ TabD H ta ds ∧ DeclAt H v d ∧ x ∈ ds.map (·.1) ∧ d.up.length ≤ 20 ∧
  ∀ (r : Bool) (H' : Hp), (r = true ↔ aboveOk ds x d) → Same H H' → Q (.bl r) H'
def allowed (d : Decl) : List Str := if d.isRec then ["record", "hidden"] else ["hidden"]
theorem allowed_may {d e : Decl} : decide (e.word ∈ allowed d) = mayUp d e := by cases d <;> cases e <;> rfl
theorem allowed_scal {d : Decl} : ((allowed d).map V.str).all flatV = true := by cases d <;> rfl
section
variable {P : Program} {w : World} {K : PySem.W.Frag} {mg : Str → Option Value} {base : Heap} {f : Addr} {fd : FuncData} {aT aF : Addr}
theorem ok_above_sound (B : Bn mg) (F : Fun K "above_is_sound" "above_is_sound" s_above_is_sound f fd) (c_directly_above : Cal P w K mg base "directly_above" 1 ["declaration"] spDirect) (c_any_twice : Cal P w K mg base "any_twice" 1 ["names"] (spTwice K)) :
    FnOk P w K mg base CX0 2 f fd ["declared", "name", "declaration", "above"] spAboveOk := by
  refine F.ok sc_above_is_sound (fun vs H Q E h => ?_) (fun cdv A outer s H vs Q E hr h => ?_)
  · obtain ⟨da, ta, ds, x, v, d, rfl, _⟩ := h
    rfl
  obtain ⟨da, ta, ds, x, v, d, rfl, hD, hT, hd, hx, hup, q⟩ := h
  refine ⟨_, (pss_cons (ps_set (i := 4) sc_above_is_sound.nd rfl (Or.inr rfl) (pe_ifExp (pt_cmpR op_eq (pe_ix (ixT K rfl) (pv 2) pe_int (fun _ _ => rfl)) pe_str (nomark _)) (pe_tup (pa_cons pe_str (pa_cons pe_str pa_nil))) (pe_tup (pa_cons pe_str pa_nil))))
    (pss_cons (ps_set (i := 5) sc_above_is_sound.nd rfl (Or.inl rfl) (pc c_directly_above (hr.mono (by first | decide | omega)) (pa_cons (pv 2) pa_nil)))
    (pss_cons (ps_if (PW.pt (pw_or (pt_val (pc c_any_twice (hr.mono (by first | decide | omega)) (pa_cons (pv 5) pa_nil))) (pw_or1 (pt_cmp (pc_din (hu_of hr) (pv 1) (pe_dget (hu_of hr) (pv 3) (pv 1) (fun _ _ => rfl))) rfl)))) (pss_one (ps_ret pe_bl)) pss_nil)
    (pss_one (ps_ret (pe_callB (allOf K rfl rfl) (by rfl) B.b_all (by decide +kernel) (pa_cons (pe_lc (own := [("upper", 6)]) (g := (gName 6)) rfl sc_above_is_sound.nd (piT K rfl (pv 5)) (blkOk_by (N := ["declared", "name", "declaration", "above", "allowed", "uppers", "upper"]) (sc := defScope s_above_is_sound) (by decide +kernel)) (fun _ _ _ _ _ => (pg_name (i := 6) sc_above_is_sound.nd rfl (Or.inl rfl) (hf := Or.inr rfl))) (fun _ _ _ _ _ => pts_nil) (fun _ _ _ _ _ => (pe_and (pe_cmp (pc_din (hu_of hr) (pv 6) (pv 0)) rfl) (pe_one (pe_cmpR (inSeq K rfl) (pe_ix (ixT K rfl) (pe_dget (hu_of hr) (pv 0) (pv 6) (fun _ _ => rfl)) pe_int (fun _ _ => rfl)) (pv 4) (by rfl)))))) pa_nil))))))), ?_⟩
  obtain ⟨a, ra, rfl, ha⟩ := hd.word
  refine seq_abs (fun σ' H' => ∃ pa, σ' = [some (.ref da), some (.str x), some (.ref a), some (.ref ta), some (.ref pa), none, none] ∧ H' pa = some (.tup ((allowed d).map V.str)) ∧ Same H H') (fun σ2 H1 w1 => ?_) (fun nx hnx => ?_)
  rotate_left
  · refine ⟨_, rfl, _, _, _, _, rfl, rfl, SqT.of ha, at_of rfl rfl, rfl, _, rfl, ?_⟩
    cases d with
    | record fs up => exact ifT rfl ⟨by show 2 ≤ sizeLine; decide, fun p np => hnx _ _ ⟨p, rfl, upd_same, same_new np _⟩⟩
    | choice cs sh => exact ifF rfl ⟨by show 1 ≤ sizeLine; decide, fun p np => hnx _ _ ⟨p, rfl, upd_same, same_new np _⟩⟩
    | hidden up => exact ifF rfl ⟨by show 1 ≤ sizeLine; decide, fun p np => hnx _ _ ⟨p, rfl, upd_same, same_new np _⟩⟩
  obtain ⟨pa, rfl, hpa, s1⟩ := w1
  refine ⟨_, rfl, _, d, rfl, hd.mono (Tups.of_same s1), fun b H2 s2 hb => ?_⟩
  have s12 := s1.trans s2
  refine ⟨_, rfl, b, d.up, rfl, .inr (SqT.of hb), by omega, fun H3 s3 => ⟨_, rfl, ?_⟩⟩
  have s13 := s12.trans s3
  cases c1 : decide d.up.Nodup with
  | false =>
    refine iteT (iteT (q false H3 (iff_of_false (by decide) fun h => ?_) s13))
    exact of_decide_eq_false c1 h.1
  | true =>
    have nd := of_decide_eq_true c1
    refine iteF ?_
    obtain ⟨b2, us, gd, kd, hu⟩ := (hT.same s13).get hx
    obtain ⟨o, go, eo⟩ := kd.get x
    refine ⟨_, rfl, _, rfl, _, rfl, ta, _, rfl, gd, b2, o, rfl, go, _, rfl, ?_⟩
    rw [eo]
    by_cases hxx : Up ds x x
    · rw [decide_eq_true ((hu x).mpr hxx)]
      exact iteT (q false H3 (iff_of_false (by decide) fun h => h.2.1 hxx) s13)
    · rw [decide_eq_false (fun h => hxx ((hu x).mp h))]
      refine iteF ?_
      have hb3 := s3 _ _ hb
      refine ⟨_, rfl, b, rfl, ⟨_, SqT.of hb3⟩, fun D nD => lc_tup (xs := d.up.map V.str) (Pbls H3 D (d.up.map (upOk ds d))) ?_ ?_ ?_ ?_⟩
      · exact ⟨same_new nD _, upd_same⟩
      · exact fun i H4 _ p => SqT.of (p.1 _ _ hb3)
      · rintro i z H4 hz ⟨s4, hacc⟩
        rw [List.getElem?_map] at hz
        obtain ⟨u, hu2, rfl⟩ := Option.map_eq_some_iff.mp hz
        have hil : i < d.up.length := (List.getElem?_eq_some_iff.mp hu2).1
        have fin : ∀ bb, bb = upOk ds d u → ∃ acc, H4 D = some (.lst acc) ∧ acc.length < sizeLine ∧ Pbls H3 D (d.up.map (upOk ds d)) (i + 1) (upd H4 D (.lst (acc ++ [.bl bb]))) := fun bb e => by
          refine ⟨_, hacc, ?_, Same.atNew s4 nD, ?_⟩
          · rw [List.length_map]
            have h2 := List.length_take_le' i (d.up.map (upOk ds d))
            rw [List.length_map] at h2
            exact line5 (by omega)
          · have hb2 : (d.up.map (upOk ds d))[i]? = some bb := by rw [List.getElem?_map, hu2, e]; rfl
            rw [upd_same, ← take_next hb2, List.map_append]
            rfl
        have hD4 := hD.same (s13.trans s4)
        obtain ⟨o2, go2, eo2⟩ := hD4.keys.get u
        refine ⟨rfl, _, rfl, _, rfl, da, o2, rfl, go2, _, rfl, ?_⟩
        rw [eo2, ← look_some]
        cases hl : look ds u with
        | none => exact iteF (fin false (by unfold upOk; rw [hl]))
        | some e =>
          obtain ⟨ve, ge, hve⟩ := hD4.get hl
          obtain ⟨ae, re, rfl, hae⟩ := hve.word
          refine iteT ⟨_, rfl, _, rfl, da, _, rfl, ge, _, _, _, _, rfl, rfl, SqT.of hae, at_of rfl rfl, _, rfl, pa, _, rfl, .inr (SqT.of (s4 _ _ (s3 _ _ (s2 _ _ hpa)))), rfl, allowed_scal, ?_⟩
          refine fin _ ?_
          rw [show (if false = true then !inV (.str e.word) ((allowed d).map V.str) else inV (.str e.word) ((allowed d).map V.str)) = decide (e.word ∈ allowed d) from inV_str (us := allowed d), allowed_may]
          unfold upOk
          rw [hl]
      · rintro H4 ⟨s4, hacc⟩
        have hl2 : (d.up.map V.str).length = (d.up.map (upOk ds d)).length := by rw [List.length_map, List.length_map]
        rw [hl2, List.take_length] at hacc
        refine ⟨D, _, rfl, SqL.of hacc, ?_⟩
        have e : (d.up.map (upOk ds d)).all id = d.up.all (upOk ds d) := by rw [List.all_map]; rfl
        rw [e]
        exact q _ H4 ⟨fun h => ⟨nd, hxx, h⟩, fun h => h.2.2⟩ (s13.trans s4)
end
end My
namespace My
open PySem PySem.Spec PyProof.Rows L2
/-! name = {k: v for ..}, the name a local -/
theorem sw_dict {kx vx : Expr} {gs : List Comprehension} {scope : Scope} {pos py : Pos} {y : Str} {l : Nat} {env : Env} (hk : env.scope.kind = .function) (hy : env.scope.names.lookup y = some .local) (hl : (py.line == pos.line) = true)
    (ha : (scope.names.any fun (n, k) => n == y && (k == .local || k == .cell)) = false) : swapsWith (.DictComp kx vx gs scope pos) (some (.Name y py)) l env = pure true := by
  have e1 : env.kindOf y = some .local := hy
  have e2 : env.blockKind = .function := by
    unfold Env.blockKind
    rw [hk]
    rfl
  unfold swapsWith; simp only [e2, e1, ha, Expr.pos, hl]; rfl
section
variable {X : Cx}
theorem ps_setDc {i : Nat} {y : Str} {py : Pos} {kx vx tg iter : Expr} {ifs : List Expr} {scope : Scope} {own : List (Str × Nat)} {pos spos : Pos} {wi : TI} {g : TG} {tt : TT} {tk tv : TE} (hc : X.calm = true) (hN : X.N.Nodup) (hy : X.N[i]? = some y) (hyl : X.env.scope.names.lookup y = some .local)
    (hsw : swapsWith (.DictComp kx vx [⟨tg, iter, ifs, 0⟩] scope pos) (some (.Name y py)) spos.line X.env = pure true) (hi : PI X tg iter wi) (ok : BlkOk X.N X.env.scope scope own)
    (hg : ∀ (s : Shared) (H : Hp) (C : Addr) (cl : List (Str × Addr)) (fp : List Addr), PG (X.blk s H scope (compEnvC scope cl C X.env) fp) tg g) (ht : ∀ (s : Shared) (H : Hp) (C : Addr) (cl : List (Str × Addr)) (fp : List Addr), PTs (X.blk s H scope (compEnvC scope cl C X.env) fp) ifs tt)
    (hk : ∀ (s : Shared) (H : Hp) (C : Addr) (cl : List (Str × Addr)) (fp : List Addr), PE (X.blk s H scope (compEnvC scope cl C X.env) fp) kx tk)
    (he : ∀ (s : Shared) (H : Hp) (C : Addr) (cl : List (Str × Addr)) (fp : List Addr), PE (X.blk s H scope (compEnvC scope cl C X.env) fp) vx tv) (hs : ∀ x, foldedSetIterable iter X.env x = pure x := by intro _; rfl) :
    PS X (.Assign [.Name y py] (.DictComp kx vx [⟨tg, iter, ifs, 0⟩] scope pos) spos) (tAsg (tDc wi g tt tk tv (own.map (·.2))) (gName i)) := by
  refine ⟨fun pins s σ H D I h => ?_⟩; rw [exec_Assign_Name_used _ _ _ _ hsw]
  refine wpAny_bind (wpAny_standAt (wpAny_bind ?_)); show wpAny _ X.A (do let _ ← comprehension (.DictComp kx vx [⟨tg, iter, ifs, 0⟩] scope pos) scope X.env (firstIterPos [⟨tg, iter, ifs, 0⟩] pos) newDict false (eval iter X.env) (some (assign (.Name y py) X.env))) _ _ s
  have h : tDc wi g tt tk tv (own.map (·.2)) σ H (fun x H1 => gName i x σ H1 D.nx) := h
  refine wpAny_bind (thn (dc_core (Qf := fun _ s' => SP X pins D .next s') hc hN I hi ok hg ht hk he hs h fun L C s1 m H1 I1 q1 n1 fp1 => ?_) fun _ s' hq => wpAny_pure (wpAny_pure hq))
  show wpAny _ _ (assign (.Name y py) X.env (.ref L)) _ _ _
  obtain ⟨f0, f1, f2, f3, f4, f5⟩ := fp1
  refine wpAny_assign_Name (store_ok2 (v := V.ref L) I1 hN hy (.inl hyl) rfl (fun s2 I2 ⟨a, sb, ha⟩ => ?_) (.inr hyl))
  have far : C ≠ a := ha.elim (fun z => by rw [z]; exact f1) fun z e => f4 y a z e.symm
  exact ⟨m, n1.sameBut sb far, fun h3 sb3 => ⟨_, H1, I2.turned (t' := s2.toks) (fun b o hb e => (sb3.2 b hb).trans e) f0 f1 f3 f4 f5, q1⟩⟩
end
end My
namespace My
open PySem L2
/-! has_fields_of -/
def FieldsAt (H : Hp) (v : V) (fs : List Fld) : Prop := ∃ (c : Addr) (fvs : List V), v = .ref c ∧ H c = some (.tup fvs) ∧ Paired (FldAt H) fvs fs
theorem FieldsAt.mono {H H' : Hp} (t : Tups H H') {v : V} {fs : List Fld} (h : FieldsAt H v fs) : FieldsAt H' v fs := by
  obtain ⟨c, fvs, e, h, p⟩ := h
  exact ⟨c, fvs, e, t _ _ h, Paired.mono (fun _ _ z => z.mono t) p⟩
/-- the wanted field is there, as much needed, of a kind that fits -/
def hasF1 (ds : List (Str × Decl)) (fs : List Fld) (g : Fld) : Prop := ∃ f ∈ fs, f.1 = g.1 ∧ f.2.2 = g.2.2 ∧ fitsP ds f.2.1 g.2.1
def hasF (ds : List (Str × Decl)) (fs gs : List Fld) : Prop := ∀ g ∈ gs, hasF1 ds fs g
def fineF (fs : List Fld) : Prop := ∀ f ∈ fs, f.2.1.fine
def spHasF : Sp := fun vs H Q _ => ∃ (ta : Addr) (ds : List (Str × Decl)) (v w : V) (fs gs : List Fld), vs = [.ref ta, v, w] ∧ TabD H ta ds ∧ FieldsAt H v fs ∧ FieldsAt H w gs ∧ (fs.map (·.1)).Nodup ∧ fs.length ≤ 100 ∧ fineF fs ∧ fineF gs ∧
  ∀ (r : Bool) (H' : Hp), (r = true ↔ hasF ds fs gs) → Same H H' → Q (.bl r) H'
def OwnAt (H : Hp) (p : Key × V) (f : Fld) : Prop := p.1 = .inr f.1 ∧ ∃ (c : Addr) (kv : V), p.2 = .ref c ∧ H c = some (.tup [kv, .bl f.2.2]) ∧ KdAt H kv f.2.1
theorem OwnAt.mono {H H' : Hp} (t : Tups H H') {p : Key × V} {f : Fld} (h : OwnAt H p f) : OwnAt H' p f := by
  obtain ⟨e, c, kv, e2, h, k⟩ := h
  exact ⟨e, c, kv, e2, t _ _ h, k.mono t⟩
theorem own_keys {H : Hp} : ∀ {kvs : List (Key × V)} {fs : List Fld}, Paired (OwnAt H) kvs fs → kvs.map (·.1) = (fs.map (·.1)).map Sum.inr
  | [], [], .nil => rfl
  | p :: kvs, q :: ds, .cons h t => by rw [List.map_cons, List.map_cons, List.map_cons, h.1, own_keys t]
theorem own_val {H : Hp} {x : Str} : ∀ {kvs : List (Key × V)} {fs : List Fld}, Paired (OwnAt H) kvs fs → x ∈ fs.map (·.1) → ∃ f ∈ fs, f.1 = x ∧ ∃ (c : Addr) (kv : V), valV kvs (Sum.inr x : Key) = some (.ref c) ∧ H c = some (.tup [kv, .bl f.2.2]) ∧ KdAt H kv f.2.1
  | [], [], .nil, h => by simp at h
  | p :: kvs, q :: fs, .cons h t, hx => by
    obtain ⟨e, c, kv, e2, hc, hk⟩ := h
    by_cases z : q.1 = x
    · refine ⟨q, by simp, z, c, kv, ?_, hc, hk⟩
      unfold valV
      rw [List.find?_cons_of_pos (by simp [e, z]), ← e2]
      rfl
    · have hx2 : x ∈ fs.map (·.1) := by
        rcases List.mem_cons.mp (by simpa using hx : x ∈ q.1 :: fs.map (·.1)) with h | h
        · exact absurd h.symm z
        · exact h
      obtain ⟨f, hf, ef, c', kv', ev, r⟩ := own_val t hx2
      refine ⟨f, List.mem_cons_of_mem _ hf, ef, c', kv', ?_, r⟩
      rw [← ev]
      unfold valV
      rw [List.find?_cons_of_neg (by rw [e]; simp [z])]
theorem nodup_same {α β : Type} {f : α → β} : ∀ {l : List α}, (l.map f).Nodup → ∀ {a b : α}, a ∈ l → b ∈ l → f a = f b → a = b
  | x :: r, nd, a, b, ha, hb, e => by
    rw [List.map_cons, List.nodup_cons] at nd
    rcases List.mem_cons.mp ha with rfl | ha
    · rcases List.mem_cons.mp hb with rfl | hb
      · rfl
      · exact absurd (List.mem_map.mpr ⟨b, hb, e.symm⟩) nd.1
    · rcases List.mem_cons.mp hb with h | hb
      · rw [h] at e
        exact absurd (List.mem_map.mpr ⟨a, ha, e⟩) nd.1
      · exact nodup_same nd.2 ha hb e
theorem nodup_take_not {α : Type} {l : List α} (nd : l.Nodup) {i : Nat} {x : α} (h : l[i]? = some x) : x ∉ l.take i := fun hm => by
  obtain ⟨j, hj⟩ := List.getElem?_of_mem hm
  have hji : j < i := by
    have := (List.getElem?_eq_some_iff.mp hj).1
    rw [List.length_take] at this
    omega
  rw [List.getElem?_take_of_lt hji] at hj
  have := nd_ix nd hj h
  omega
def Pown (H0 : Hp) (D : Addr) (fs : List Fld) (i : Nat) (H : Hp) : Prop := Same H0 H ∧ ∃ kvs, H D = some (.dK kvs) ∧ Paired (OwnAt H) kvs (fs.take i)
def Phas (ta : Addr) (v w : V) (o : Addr) (ds : List (Str × Decl)) (fs gs : List Fld) (H0 : Hp) (i : Nat) (σ : St) (H : Hp) : Prop :=
  ∃ (u4 u5 u6 u7 u8 : Option V), σ = [some (.ref ta), some v, some w, some (.ref o), u4, u5, u6, u7, u8] ∧ Same H0 H ∧ ∀ g ∈ gs.take i, hasF1 ds fs g
section
variable {P : Program} {w : World} {K : PySem.W.Frag} {mg : Str → Option Value} {base : Heap} {f : Addr} {fd : FuncData} {aT aF : Addr}
theorem ok_has_fields (F : Fun K "has_fields_of" "has_fields_of" s_has_fields_of f fd) (c_fits_by : Cal P w K mg base "fits_by" 5 ["above", "given", "wanted"] spFits) : FnOk P w K mg base CX0 6 f fd ["above", "fields", "wanted"] spHasF := by
  refine F.ok sc_has_fields_of (fun vs H Q E h => ?_) (fun cdv A outer s H vs Q E hr h => ?_)
  · obtain ⟨ta, ds, v, w, fs, gs, rfl, _⟩ := h
    rfl
  obtain ⟨ta, ds, v, w, fs, gs, rfl, hT, hf, hg, nd, lf, ff, fg, q⟩ := h
  refine ⟨_, (pss_cons (ps_setDc (i := 3) (own := [("field", 6), ("kind", 7), ("needed", 8)]) (g := (gTup K 3 (gCons (gName 6) (gCons (gName 7) (gCons (gName 8) gNil))))) rfl sc_has_fields_of.nd rfl rfl (sw_dict rfl rfl rfl (by decide +kernel)) (piT K rfl (pv 1)) (blkOk_by (N := ["above", "fields", "wanted", "own", "own_kind", "own_needed", "field", "kind", "needed"]) (sc := defScope s_has_fields_of) (by decide +kernel)) (fun _ _ _ _ _ => (pg_tup rfl (pgs_cons (pg_name (i := 6) sc_has_fields_of.nd rfl (Or.inl rfl) (hf := Or.inr rfl)) (pgs_cons (pg_name (i := 7) sc_has_fields_of.nd rfl (Or.inl rfl) (hf := Or.inr rfl)) (pgs_cons (pg_name (i := 8) sc_has_fields_of.nd rfl (Or.inl rfl) (hf := Or.inr rfl)) pgs_nil))))) (fun _ _ _ _ _ => pts_nil) (fun _ _ _ _ _ => (pv 6)) (fun _ _ _ _ _ => (pe_tup (pa_cons (pv 7) (pa_cons (pv 8) pa_nil)))))
    (pss_cons (ps_for PassesOwn.never rfl (piT K rfl (pv 2)) (pg_tup rfl (pgs_cons (pg_name (i := 6) sc_has_fields_of.nd rfl (Or.inl rfl)) (pgs_cons (pg_name (i := 7) sc_has_fields_of.nd rfl (Or.inl rfl)) (pgs_cons (pg_name (i := 8) sc_has_fields_of.nd rfl (Or.inl rfl)) pgs_nil)))) (pss_cons (ps_if (pt_cmp (pc_dnotin (hu_of hr) (pv 6) (pv 3)) rfl) (pss_one (ps_ret pe_bl)) pss_nil)
    (pss_cons (ps_asg (pe_dget (hu_of hr) (pv 3) (pv 6) (fun _ _ => rfl)) (pg_tup rfl (pgs_cons (pg_name (i := 4) sc_has_fields_of.nd rfl (Or.inl rfl)) (pgs_cons (pg_name (i := 5) sc_has_fields_of.nd rfl (Or.inl rfl)) pgs_nil))))
    (pss_one (ps_if (PW.pt (pw_or (pt_cmpR op_ne (pv 5) (pv 8) (nomark _)) (pw_or1 (pt_not (pt_val (pc c_fits_by (hr.mono (by first | decide | omega)) (pa_cons (pv 0) (pa_cons (pv 4) (pa_cons (pv 7) pa_nil))))))))) (pss_one (ps_ret pe_bl)) pss_nil)))))
    (pss_one (ps_ret pe_bl)))), ?_⟩
  obtain ⟨ca, fvs, rfl, hca, pf⟩ := hf
  obtain ⟨cb, gvs, rfl, hcb, pg⟩ := hg
  refine ⟨_, rfl, ca, rfl, ⟨_, SqT.of hca⟩, fun D nD => dc_tup (xs := fvs) (Pown H D fs) ?_ ?_ ?_ ?_⟩
  · exact ⟨same_new nD _, [], upd_same, .nil⟩
  · exact fun i H1 _ p => SqT.of (p.1 _ _ hca)
  · rintro i x H1 hx ⟨s1, kvs, hd, pk⟩
    obtain ⟨fl, hfl, c, kv, rfl, hc, hk⟩ := Paired.at pf i x hx
    have hil : i < fs.length := (List.getElem?_eq_some_iff.mp hfl).1
    have lt := List.length_take_le' i fs
    have lk := Paired.length pk
    have T1 := Tups.of_same s1
    have hnone : valV kvs (Sum.inr fl.1 : Key) = none := by
      have h1 := valV_keys (own_keys pk) fl.1
      have h2 : fl.1 ∉ (fs.take i).map (·.1) := by
        rw [List.map_take]
        exact nodup_take_not nd (by rw [List.getElem?_map, hfl]; rfl)
      rw [decide_eq_false h2] at h1
      exact Option.not_isSome_iff_eq_none.mp (by rw [h1]; decide)
    refine ⟨c, _, rfl, SqT.of (s1 _ _ hc), rfl, _, _, rfl, _, _, rfl, _, _, rfl, rfl, rfl, ?_⟩
    refine ⟨_, rfl, _, rfl, _, rfl, (by show 2 ≤ sizeLine; decide), fun t nt => ?_⟩
    have st := same_new nt (.tup [kv, .bl fl.2.2])
    have hd2 := st _ _ hd
    refine ⟨kvs, Sum.inr fl.1, rfl, hd2, line5 (by omega), Same.atNew (s1.trans st) nD, _, upd_same, ?_⟩
    rw [putK_new hnone, ← take_next hfl]
    have T2 : Tups H1 _ := (Tups.of_same st).trans (tups_updD (o := .dK (kvs ++ [(Sum.inr fl.1, .ref t)])) hd2)
    refine pair_app (Paired.mono (fun _ _ z => z.mono T2) pk) (.cons ⟨rfl, t, kv, rfl, tups_updD hd2 _ _ upd_same, (hk.mono T1).mono T2⟩ .nil)
  · rintro H1 ⟨s1, kvs, hd, pk⟩
    rw [Paired.length pf, List.take_length] at pk
    refine ⟨_, rfl, cb, rfl, ⟨_, SqT.of (s1 _ _ hcb)⟩, for_tup (xs := gvs) (Phas ta (.ref ca) (.ref cb) D ds fs gs H1) ?_ ?_ ?_ ?_⟩
    · exact ⟨_, _, _, _, _, rfl, Same.refl _, fun g hg => by simp at hg⟩
    · rintro i σ H2 _ ⟨u4, u5, u6, u7, u8, rfl, s2, _⟩
      exact SqT.of (s2 _ _ (s1 _ _ hcb))
    · rintro i x σ H2 hx ⟨u4, u5, u6, u7, u8, rfl, s2, hall⟩
      obtain ⟨gl, hgl, c, kv, rfl, hc, hk⟩ := Paired.at pg i x hx
      have s12 := s1.trans s2
      have hd2 := s2 _ _ hd
      have gin : gl ∈ gs := List.mem_of_getElem? hgl
      refine ⟨c, _, rfl, SqT.of (s12 _ _ hc), rfl, _, _, rfl, _, _, rfl, _, _, rfl, rfl, ?_⟩
      refine ⟨_, rfl, _, rfl, D, _, rfl, DGet.k (k := Sum.inr gl.1) hd2, _, rfl, ?_⟩
      rw [valV_keys (own_keys pk) gl.1]
      by_cases hin : gl.1 ∈ fs.map (·.1)
      · rw [decide_eq_true hin]
        refine iteF ?_
        obtain ⟨fl, hfl, efl, co, ko, ev, hco, hko⟩ := own_val pk hin
        have T2 := Tups.of_same s2
        refine ⟨_, rfl, _, rfl, D, _, rfl, by rw [← ev]; exact DGet.k (k := Sum.inr gl.1) hd2, co, _, rfl, SqT.of (s2 _ _ hco), rfl, _, _, rfl, _, _, rfl, rfl, ?_⟩
        refine ⟨_, rfl, _, rfl, rfl, _, rfl, ?_⟩
        have only : ∀ f' ∈ fs, f'.1 = gl.1 → f' = fl := fun f' hf' e => nodup_same nd hf' hfl (e.trans efl.symm)
        have bad : (¬ (fl.2.2 = gl.2.2 ∧ fitsP ds fl.2.1 gl.2.1)) → (false = true ↔ hasF ds fs gs) := fun h => iff_of_false (by decide) fun z => by
          obtain ⟨f', hf', e1, e2, e3⟩ := z gl gin
          have := only f' hf' e1
          subst this
          exact h ⟨e2, e3⟩
        by_cases hneed : fl.2.2 = gl.2.2
        · rw [decide_eq_true (by rw [hneed])]
          refine iteF ?_
          refine ⟨_, rfl, _, rfl, _, rfl, ta, ds, ko, kv, fl.2.1, gl.2.1, rfl, hT.same s12, hko.mono T2, hk.mono (Tups.of_same s12), ff fl hfl, fg gl gin, fun r H3 hr3 s3 => ⟨_, rfl, ?_⟩⟩
          cases r with
          | false => exact iteT (q false H3 (bad fun h => Bool.noConfusion (hr3.mpr h.2)) (s12.trans s3))
          | true =>
            refine iteF ⟨_, _, _, _, _, rfl, s2.trans s3, ?_⟩
            rw [← take_next hgl]
            exact all_snoc.mpr ⟨hall, fl, hfl, efl, hneed, hr3.mp rfl⟩
        · rw [decide_eq_false (by intro h; exact hneed (V.bl.inj h))]
          exact iteT (iteT (q false H2 (bad fun h => hneed h.1) s12))
      · rw [decide_eq_false hin]
        refine iteT (q false H2 (iff_of_false (by decide) fun z => ?_) s12)
        obtain ⟨f', hf', e1, _⟩ := z gl gin
        exact hin (List.mem_map.mpr ⟨f', hf', e1⟩)
    · rintro σ H2 ⟨u4, u5, u6, u7, u8, rfl, s2, hall⟩
      rw [Paired.length pg, List.take_length] at hall
      exact q true H2 (iff_of_true rfl hall) (s1.trans s2)
end
end My
namespace My
open PySem L2
/-! record_is_sound, choice_is_sound -/
def fineD : Decl → Prop
  | .record fs _ => fineF fs ∧ fs.length ≤ 100 ∧ ∀ f ∈ fs, f.1.length ≤ 100000
  | .choice cs _ => (∀ c ∈ cs, ∀ k, c.2 = some k → k.fine) ∧ cs.length ≤ 100 ∧ ∀ c ∈ cs, c.1.length ≤ 100000
  | .hidden _ => True
/-- declarations that may be laid out -/
def fineDs (ds : List (Str × Decl)) : Prop := ∀ p ∈ ds, fineD p.2
theorem look_mem {ds : List (Str × Decl)} {x : Str} {d : Decl} (h : look ds x = some d) : (x, d) ∈ ds := by
  unfold look at h
  obtain ⟨p, hp, rfl⟩ := Option.map_eq_some_iff.mp h
  have e : p.1 = x := by
    have z := List.find?_some hp
    simpa using z
  rw [← e]
  exact List.mem_of_find?_eq_some hp
theorem fine_look {ds : List (Str × Decl)} (h : fineDs ds) {x : Str} {d : Decl} (e : look ds x = some d) : fineD d := h (x, d) (look_mem e)
def recUps (ds : List (Str × Decl)) (fs : List Fld) (es : List Decl) : Prop := ∀ e ∈ es, ∀ gs vp, e = .record gs vp → hasF ds fs gs
/-- a record with sound names above it -/
def recOk (ds : List (Str × Decl)) (fs : List Fld) (up : List Str) : Prop :=
  nmsOk (fs.map (·.1)) = true ∧ (fs.all fun f => f.2.1.sound (ds.map (·.1))) = true ∧ ∀ u ∈ up, ∀ gs vp, look ds u = some (.record gs vp) → hasF ds fs gs
def spRecOk : Sp := fun vs H Q _ => ∃ (da ta : Addr) (ds : List (Str × Decl)) (v : V) (fs : List Fld) (up : List Str), vs = [.ref da, v, .ref ta] ∧ DeclD H da ds ∧ TabD H ta ds ∧ DeclAt H v (.record fs up) ∧ fineD (.record fs up) ∧ fineDs ds ∧ up.length ≤ 20 ∧ (∀ u ∈ up, u ∈ ds.map (·.1)) ∧
  ∀ (r : Bool) (H' : Hp), (r = true ↔ recOk ds fs up) → Same H H' → Q (.bl r) H'
/-- a choice -/
def chOk (ds : List (Str × Decl)) (cs : List (Str × Option Kd)) : Prop := nmsOk (cs.map (·.1)) = true ∧ ∀ c ∈ cs, ∀ k, c.2 = some k → k.sound (ds.map (·.1)) = true
def spChOk : Sp := fun vs H Q _ => ∃ (da : Addr) (ds : List (Str × Decl)) (v : V) (cs : List (Str × Option Kd)) (sh : Bool), vs = [.ref da, v] ∧ DeclD H da ds ∧ DeclAt H v (.choice cs sh) ∧ fineD (.choice cs sh) ∧
  ∀ (r : Bool) (H' : Hp), (r = true ↔ chOk ds cs) → Same H H' → Q (.bl r) H'
def Pstr (H0 : Hp) (D : Addr) (xs : List Str) (i : Nat) (H : Hp) : Prop := Same H0 H ∧ H D = some (.lst ((xs.take i).map V.str))
def Pdec (H0 : Hp) (D : Addr) (es : List Decl) (i : Nat) (H : Hp) : Prop := Same H0 H ∧ ∃ vs, H D = some (.lst vs) ∧ Paired (DeclAt H) vs (es.take i)
def Pups (ds : List (Str × Decl)) (fs : List Fld) (H0 : Hp) (D : Addr) (es : List Decl) (i : Nat) (H : Hp) : Prop :=
  Same H0 H ∧ ∃ bs : List Bool, H D = some (.lst (bs.map V.bl)) ∧ bs.length ≤ i ∧ (bs.all id = true ↔ recUps ds fs (es.take i))
def Pchk (ns : List Str) (H0 : Hp) (D : Addr) (cs : List (Str × Option Kd)) (i : Nat) (H : Hp) : Prop :=
  Same H0 H ∧ ∃ bs : List Bool, H D = some (.lst (bs.map V.bl)) ∧ bs.length ≤ i ∧ (bs.all id = true ↔ ∀ c ∈ cs.take i, ∀ k, c.2 = some k → k.sound ns = true)
theorem Pbls.put {H0 : Hp} {D : Addr} {bs : List Bool} {i : Nat} {H H' : Hp} {b : Bool} (h : Pbls H0 D bs i H) (s : Same H H') (nD : H0 D = none) (hb : bs[i]? = some b) (hl : bs.length ≤ 1000) :
    ∃ acc, H' D = some (.lst acc) ∧ acc.length < sizeLine ∧ Pbls H0 D bs (i + 1) (upd H' D (.lst (acc ++ [.bl b]))) := by
  obtain ⟨s1, hacc⟩ := h
  refine ⟨_, s _ _ hacc, ?_, Same.atNew (s1.trans s) nD, ?_⟩
  · rw [List.length_map]
    have h2 := List.length_take_le' i bs
    exact line5 (by omega)
  · rw [upd_same, ← take_next hb, List.map_append]
    rfl
theorem Pstr.put {H0 : Hp} {D : Addr} {bs : List Str} {i : Nat} {H H' : Hp} {b : Str} (h : Pstr H0 D bs i H) (s : Same H H') (nD : H0 D = none) (hb : bs[i]? = some b) (hl : bs.length ≤ 1000) :
    ∃ acc, H' D = some (.lst acc) ∧ acc.length < sizeLine ∧ Pstr H0 D bs (i + 1) (upd H' D (.lst (acc ++ [.str b]))) := by
  obtain ⟨s1, hacc⟩ := h
  refine ⟨_, s _ _ hacc, ?_, Same.atNew (s1.trans s) nD, ?_⟩
  · rw [List.length_map]
    have h2 := List.length_take_le' i bs
    exact line5 (by omega)
  · rw [upd_same, ← take_next hb, List.map_append]
    rfl
theorem map_some {α β : Type} {f : α → Option β} : ∀ {l : List α}, (∀ x ∈ l, (f x).isSome = true) → ∃ m : List β, l.map f = m.map some
  | [], _ => ⟨[], rfl⟩
  | x :: r, h => by
    obtain ⟨m, e⟩ := map_some (l := r) fun y hy => h y (List.mem_cons_of_mem _ hy)
    obtain ⟨y, hy⟩ := Option.isSome_iff_exists.mp (h x (by simp))
    exact ⟨y :: m, by rw [List.map_cons, List.map_cons, e, hy]⟩
theorem all_put {bs : List Bool} {b : Bool} {p q : Prop} (h : bs.all id = true ↔ p) (g : b = true ↔ q) : (bs ++ [b]).all id = true ↔ p ∧ q := by
  rw [List.all_append, Bool.and_eq_true_iff, h]
  simp [g]
section
variable {P : Program} {w : World} {K : PySem.W.Frag} {mg : Str → Option Value} {base : Heap} {f : Addr} {fd : FuncData} {aT aF : Addr}
theorem ok_record (B : Bn mg) (F : Fun K "record_is_sound" "record_is_sound" s_record_is_sound f fd) (c_names_are_sound : Cal P w K mg base "names_are_sound" 2 ["names"] (spNamesSound K)) (c_kind_is_sound : Cal P w K mg base "kind_is_sound" 5 ["declared", "kind"] spSound)
    (c_has_fields_of : Cal P w K mg base "has_fields_of" 6 ["above", "fields", "wanted"] spHasF) : FnOk P w K mg base CX0 7 f fd ["declared", "declaration", "above"] spRecOk := by
  refine F.ok sc_record_is_sound (fun vs H Q E h => ?_) (fun cdv A outer s H vs Q E hr h => ?_)
  · obtain ⟨da, ta, ds, v, fs, up, rfl, _⟩ := h
    rfl
  obtain ⟨da, ta, ds, v, fs, up, rfl, hD, hT, hd, fd1, fds, lup, hin, q⟩ := h
  refine ⟨_, (pss_cons (ps_set (i := 3) sc_record_is_sound.nd rfl (Or.inr rfl) (pe_ix (ixT K rfl) (pv 1) pe_int (fun _ _ => rfl)))
    (pss_cons (ps_if (pt_not (pt_val (pc c_names_are_sound (hr.mono (by first | decide | omega)) (pa_cons (pe_lc (own := [("field", 6), ("_", 7)]) (g := (gTup K 3 (gCons (gName 6) (gCons (gName 7) (gCons (gName 7) gNil))))) rfl sc_record_is_sound.nd (piT K rfl (pv 3)) (blkOk_by (N := ["declared", "declaration", "above", "fields", "uppers", "upper", "field", "_", "kind"]) (sc := defScope s_record_is_sound) (by decide +kernel)) (fun _ _ _ _ _ => (pg_tup rfl (pgs_cons (pg_name (i := 6) sc_record_is_sound.nd rfl (Or.inl rfl) (hf := Or.inr rfl)) (pgs_cons (pg_name (i := 7) sc_record_is_sound.nd rfl (Or.inl rfl) (hf := Or.inr rfl)) (pgs_cons (pg_name (i := 7) sc_record_is_sound.nd rfl (Or.inl rfl) (hf := Or.inr rfl)) pgs_nil))))) (fun _ _ _ _ _ => pts_nil) (fun _ _ _ _ _ => (pv 6))) pa_nil)))) (pss_one (ps_ret pe_bl)) pss_nil)
    (pss_cons (ps_if (pt_not (pt_val (pe_callB (allOf K rfl rfl) (by rfl) B.b_all (by decide +kernel) (pa_cons (pe_lc (own := [("_", 7), ("kind", 8)]) (g := (gTup K 3 (gCons (gName 7) (gCons (gName 8) (gCons (gName 7) gNil))))) rfl sc_record_is_sound.nd (piT K rfl (pv 3)) (blkOk_by (N := ["declared", "declaration", "above", "fields", "uppers", "upper", "field", "_", "kind"]) (sc := defScope s_record_is_sound) (by decide +kernel)) (fun _ _ _ _ _ => (pg_tup rfl (pgs_cons (pg_name (i := 7) sc_record_is_sound.nd rfl (Or.inl rfl) (hf := Or.inr rfl)) (pgs_cons (pg_name (i := 8) sc_record_is_sound.nd rfl (Or.inl rfl) (hf := Or.inr rfl)) (pgs_cons (pg_name (i := 7) sc_record_is_sound.nd rfl (Or.inl rfl) (hf := Or.inr rfl)) pgs_nil))))) (fun _ _ _ _ _ => pts_nil) (fun _ _ _ _ _ => (pc c_kind_is_sound (hr.mono (by first | decide | omega)) (pa_cons (pv 0) (pa_cons (pv 8) pa_nil))))) pa_nil)))) (pss_one (ps_ret pe_bl)) pss_nil)
    (pss_cons (ps_setLc (i := 4) (own := [("upper", 5)]) (g := (gName 5)) rfl sc_record_is_sound.nd rfl rfl (sw_true rfl rfl rfl (by decide +kernel)) (piT K rfl (pe_ix (ixT K rfl) (pv 1) pe_int (fun _ _ => rfl))) (blkOk_by (N := ["declared", "declaration", "above", "fields", "uppers", "upper", "field", "_", "kind"]) (sc := defScope s_record_is_sound) (by decide +kernel)) (fun _ _ _ _ _ => (pg_name (i := 5) sc_record_is_sound.nd rfl (Or.inl rfl) (hf := Or.inr rfl))) (fun _ _ _ _ _ => pts_nil) (fun _ _ _ _ _ => (pe_dget (hu_of hr) (pv 0) (pv 5) (fun _ _ => rfl))))
    (pss_one (ps_ret (pe_callB (allOf K rfl rfl) (by rfl) B.b_all (by decide +kernel) (pa_cons (pe_lc (own := [("upper", 5)]) (g := (gName 5)) rfl sc_record_is_sound.nd (piL K rfl (pv 4)) (blkOk_by (N := ["declared", "declaration", "above", "fields", "uppers", "upper", "field", "_", "kind"]) (sc := defScope s_record_is_sound) (by decide +kernel)) (fun _ _ _ _ _ => (pg_name (i := 5) sc_record_is_sound.nd rfl (Or.inl rfl) (hf := Or.inr rfl))) (fun _ _ _ _ _ => (pts_one (pt_cmpR op_eq (pe_ix (ixT K rfl) (pv 5) pe_int (fun _ _ => rfl)) pe_str (nomark _)))) (fun _ _ _ _ _ => (pc c_has_fields_of (hr.mono (by first | decide | omega)) (pa_cons (pv 2) (pa_cons (pv 3) (pa_cons (pe_ix (ixT K rfl) (pv 5) pe_int (fun _ _ => rfl)) pa_nil)))))) pa_nil)))))))), ?_⟩
  cases hd with
  | @record a b c fvs _ _ ha hb pf hc =>
  obtain ⟨ff, lfs, lnm⟩ := fd1
  have lfv := Paired.length pf
  refine ⟨_, rfl, _, _, _, _, rfl, rfl, SqT.of ha, at_of (j := 1) rfl rfl, ?_⟩
  refine ⟨_, rfl, b, rfl, ⟨_, SqT.of hb⟩, fun D nD => lc_tup (xs := fvs) (Pstr H D (fs.map (·.1))) ?_ ?_ ?_ ?_⟩
  · exact ⟨same_new nD _, upd_same⟩
  · exact fun i H1 _ p => SqT.of (p.1 _ _ hb)
  · rintro i x H1 hx ps
    obtain ⟨fl, hfl, e, kv, rfl, hc2, hk⟩ := Paired.at pf i x hx
    refine ⟨e, _, rfl, SqT.of (ps.1 _ _ hc2), rfl, _, _, rfl, _, _, rfl, _, _, rfl, rfl, rfl, _, rfl, ?_⟩
    exact ps.put (Same.refl _) nD (by rw [List.getElem?_map, hfl]; rfl) (by rw [List.length_map]; omega)
  rintro H1 ⟨s1, hacc⟩
  rw [show fvs.length = (fs.map (·.1)).length by rw [List.length_map, lfv], List.take_length] at hacc
  refine ⟨D, fs.map (·.1), rfl, SqL.of hacc, by rw [List.length_map]; omega, fun x hx => ?_, fun H2 s2 => ⟨_, rfl, ?_⟩⟩
  · obtain ⟨fl, hfl, rfl⟩ := List.mem_map.mp hx
    exact lnm fl hfl
  have s12 := s1.trans s2
  cases c0 : nmsOk (fs.map (·.1)) with
  | false => exact iteT (q false H2 (iff_of_false (by decide) fun z => by rw [z.1] at c0; cases c0) s12)
  | true =>
    refine iteF ?_
    have nd : (fs.map (·.1)).Nodup := by
      unfold nmsOk at c0
      simp only [Bool.and_eq_true_iff, decide_eq_true_iff] at c0
      exact c0.2.2
    refine ⟨_, rfl, b, rfl, ⟨_, SqT.of (s12 _ _ hb)⟩, fun D2 nD2 => lc_tup (xs := fvs) (Pbls H2 D2 (fs.map fun f => f.2.1.sound (ds.map (·.1)))) ?_ ?_ ?_ ?_⟩
    · exact ⟨same_new nD2 _, upd_same⟩
    · exact fun i H3 _ p => SqT.of (p.1 _ _ (s12 _ _ hb))
    · rintro i x H3 hx ps
      obtain ⟨fl, hfl, e, kv, rfl, hc2, hk⟩ := Paired.at pf i x hx
      have s13 := s12.trans ps.1
      refine ⟨e, _, rfl, SqT.of (s13 _ _ hc2), rfl, _, _, rfl, _, _, rfl, _, _, rfl, rfl, rfl, _, rfl, _, rfl, da, _, kv, fl.2.1, rfl, (hD.same s13).keys, hk.mono (Tups.of_same s13), ?_, fun H4 s4 => ?_⟩
      · have := (ff fl (List.mem_of_getElem? hfl)).2.1
        omega
      · exact ps.put s4 nD2 (by rw [List.getElem?_map, hfl]; rfl) (by rw [List.length_map]; omega)
    rintro H3 ⟨s3, hacc3⟩
    rw [show fvs.length = (fs.map fun f => f.2.1.sound (ds.map (·.1))).length by rw [List.length_map, lfv], List.take_length] at hacc3
    refine ⟨D2, _, rfl, SqL.of hacc3, _, rfl, ?_⟩
    have s13 := s12.trans s3
    have e3 : (fs.map fun f => f.2.1.sound (ds.map (·.1))).all id = fs.all fun f => f.2.1.sound (ds.map (·.1)) := by rw [List.all_map]; rfl
    rw [e3]
    cases c1 : fs.all fun f => f.2.1.sound (ds.map (·.1)) with
    | false => exact iteT (q false H3 (iff_of_false (by decide) fun z => by rw [z.2.1] at c1; cases c1) s13)
    | true =>
      refine iteF ?_
      obtain ⟨es, hes⟩ : ∃ es : List Decl, up.map (look ds) = es.map some := map_some fun u hu => by rw [look_some]; exact decide_eq_true (hin u hu)
      have les : es.length = up.length := by have := congrArg List.length hes; simpa using this.symm
      have hat : ∀ (i : Nat) (u : Str), up[i]? = some u → ∃ e, es[i]? = some e ∧ look ds u = some e := fun i u hu => by
        have h1 : (up.map (look ds))[i]? = some (look ds u) := by rw [List.getElem?_map, hu]; rfl
        rw [hes, List.getElem?_map] at h1
        obtain ⟨e, he, h2⟩ := Option.map_eq_some_iff.mp h1
        exact ⟨e, he, h2.symm⟩
      refine ⟨_, rfl, _, _, _, _, rfl, rfl, SqT.of (s13 _ _ ha), at_of (j := 2) rfl rfl, c, rfl, ⟨_, SqT.of (s13 _ _ hc)⟩, fun D3 nD3 => lc_tup (xs := up.map V.str) (Pdec H3 D3 es) ?_ ?_ ?_ ?_⟩
      · exact ⟨same_new nD3 _, [], upd_same, .nil⟩
      · exact fun i H4 _ p => SqT.of (p.1 _ _ (s13 _ _ hc))
      · rintro i x H4 hx ⟨s4, vs4, hv4, pv4⟩
        rw [List.getElem?_map] at hx
        obtain ⟨u, hu, rfl⟩ := Option.map_eq_some_iff.mp hx
        have hil : i < up.length := (List.getElem?_eq_some_iff.mp hu).1
        obtain ⟨e, he, hlk⟩ := hat i u hu
        obtain ⟨ve, ge, hve⟩ := (hD.same (s13.trans s4)).get hlk
        have l4 := Paired.length pv4
        have l5 := List.length_take_le' i es
        refine ⟨rfl, _, rfl, _, rfl, da, ve, rfl, ge, vs4, hv4, line5 (by omega), Same.atNew s4 nD3, _, upd_same, ?_⟩
        have T : Tups H4 (upd H4 D3 (.lst (vs4 ++ [ve]))) := Tups.upd hv4
        rw [← take_next he]
        exact pair_app (Paired.mono (fun _ _ z => z.mono T) pv4) (.cons (hve.mono T) .nil)
      rintro H4 ⟨s4, vs4, hv4, pv4⟩
      rw [show (up.map V.str).length = es.length by rw [List.length_map, les], List.take_length] at pv4
      have s14 := s13.trans s4
      have l4 := Paired.length pv4
      refine ⟨_, rfl, D3, rfl, ⟨_, SqL.of hv4⟩, fun D4 nD4 => lc_list (xs := vs4) (Pups ds fs H4 D4 es) ?_ ?_ ?_ ?_⟩
      · exact ⟨same_new nD4 _, [], upd_same, Nat.le_refl _, iff_of_true rfl fun e he => by simp at he⟩
      · exact fun i H5 _ p => SqL.of (p.1 _ _ hv4)
      · rintro i x H5 hx ⟨s5, bs, hbs, lb, hall⟩
        obtain ⟨e, he, hde⟩ := Paired.at pv4 i x hx
        have hil : i < es.length := (List.getElem?_eq_some_iff.mp he).1
        have s15 := s14.trans s5
        have hde5 := hde.mono (Tups.of_same s5)
        have next : recUps ds fs (es.take (i + 1)) ↔ recUps ds fs (es.take i) ∧ ∀ gs vp, e = .record gs vp → hasF ds fs gs := by
          rw [← take_next he]
          exact all_snoc
        cases hde5 with
        | @record a5 b5 c5 gvs gs vp ha5 hb5 pg hc5 =>
          obtain ⟨u, hu⟩ : ∃ u, up[i]? = some u := ⟨up[i]'(by omega), List.getElem?_eq_getElem (by omega)⟩
          obtain ⟨e', he', hlk⟩ := hat i u hu
          rw [he] at he'
          cases he'
          have fg := fine_look fds hlk
          refine ⟨rfl, _, rfl, _, _, _, _, rfl, rfl, SqT.of ha5, at_of rfl rfl, rfl, _, rfl, ifT rfl ?_⟩
          refine ⟨_, rfl, _, rfl, _, rfl, _, _, _, _, rfl, rfl, SqT.of ha5, at_of (j := 1) rfl rfl, ta, ds, _, _, fs, gs, rfl, hT.same s15, ⟨b, fvs, rfl, s15 _ _ hb, Paired.mono (fun _ _ z => z.mono (Tups.of_same s15)) pf⟩, ⟨b5, gvs, rfl, hb5, pg⟩, nd, by omega, ff, fg.1, fun r H6 hr6 s6 => ?_⟩
          refine ⟨_, s6 _ _ hbs, line5 (by rw [List.length_map]; omega), Same.atNew (s5.trans s6) nD4, bs ++ [r], by rw [upd_same, List.map_append]; rfl, by rw [List.length_append, List.length_singleton]; omega, ?_⟩
          rw [next]
          exact all_put hall (hr6.trans ⟨fun z gs' vp' e => by cases e; exact z, fun z => z gs vp rfl⟩)
        | @choice a5 b5 cvs cs sh ha5 hb5 pc5 =>
          refine ⟨rfl, _, rfl, _, _, _, _, rfl, rfl, SqT.of ha5, at_of rfl rfl, rfl, _, rfl, ifF rfl ?_⟩
          exact ⟨s5, bs, hbs, by omega, by rw [next]; exact hall.trans ⟨fun z => ⟨z, fun _ _ e => by cases e⟩, fun z => z.1⟩⟩
        | @hidden a5 c5 vp ha5 hc5 =>
          refine ⟨rfl, _, rfl, _, _, _, _, rfl, rfl, SqT.of ha5, at_of rfl rfl, rfl, _, rfl, ifF rfl ?_⟩
          exact ⟨s5, bs, hbs, by omega, by rw [next]; exact hall.trans ⟨fun z => ⟨z, fun _ _ e => by cases e⟩, fun z => z.1⟩⟩
      rintro H5 ⟨s5, bs, hbs, lb, hall⟩
      rw [l4, List.take_length] at hall
      refine ⟨D4, _, rfl, SqL.of hbs, ?_⟩
      refine q _ H5 ?_ (s14.trans s5)
      rw [hall]
      constructor
      · intro z
        refine ⟨c0, c1, fun u hu gs vp hlk => ?_⟩
        obtain ⟨i, hi⟩ := List.getElem?_of_mem hu
        obtain ⟨e, he, hlk2⟩ := hat i u hi
        rw [hlk] at hlk2
        cases hlk2
        exact z _ (List.mem_of_getElem? he) gs vp rfl
      · rintro ⟨_, _, z⟩ e he gs vp rfl
        obtain ⟨i, hi⟩ := List.getElem?_of_mem he
        have hil : i < es.length := (List.getElem?_eq_some_iff.mp hi).1
        obtain ⟨u, hu⟩ : ∃ u, up[i]? = some u := ⟨up[i]'(by omega), List.getElem?_eq_getElem (by omega)⟩
        obtain ⟨e', he', hlk⟩ := hat i u hu
        rw [hi] at he'
        cases he'
        exact z u (List.mem_of_getElem? hu) gs vp hlk
end
end My
namespace My
open PySem L2
/-! choice_is_sound, declaration_is_sound, door_is_sound -/
abbrev Door := Str × List Fld × Kd
def DoorAt (H : Hp) (v : V) (p : Door) : Prop := ∃ (a b : Addr) (fvs : List V) (kv : V), v = .ref a ∧ H a = some (.tup [.str p.1, .ref b, kv]) ∧ H b = some (.tup fvs) ∧ Paired (FldAt H) fvs p.2.1 ∧ KdAt H kv p.2.2
theorem DoorAt.mono {H H' : Hp} (t : Tups H H') {v : V} {p : Door} (h : DoorAt H v p) : DoorAt H' v p := by
  obtain ⟨a, b, fvs, kv, e, h1, h2, h3, h4⟩ := h
  exact ⟨a, b, fvs, kv, e, t _ _ h1, t _ _ h2, Paired.mono (fun _ _ z => z.mono t) h3, h4.mono t⟩
def fineDoor (d : Door) : Prop := fineF d.2.1 ∧ d.2.1.length ≤ 100 ∧ (∀ f ∈ d.2.1, f.1.length ≤ 100000) ∧ d.2.2.fine ∧ d.1.length ≤ 100000
def doorOk (ns : List Str) (d : Door) : Bool := (nmOk d.1 && nmsOk (d.2.1.map (·.1))) && ((d.2.1.map (·.2.1)) ++ [d.2.2]).all (Kd.sound ns)
def spDoorOk : Sp := fun vs H Q _ => ∃ (da : Addr) (ns : List Str) (v : V) (d : Door), vs = [.ref da, v] ∧ DKeys H da ns ∧ DoorAt H v d ∧ fineDoor d ∧ ∀ (H' : Hp), Same H H' → Q (.bl (doorOk ns d)) H'
def declOk (ds : List (Str × Decl)) (x : Str) (d : Decl) : Prop := nmOk x = true ∧ aboveOk ds x d ∧ match d with
  | .record fs up => recOk ds fs up
  | .choice cs _ => chOk ds cs
  | .hidden _ => True
def spDeclOk : Sp := fun vs H Q _ => ∃ (da ta : Addr) (ds : List (Str × Decl)) (x : Str) (v : V) (d : Decl), vs = [.ref da, .str x, v, .ref ta] ∧ DeclD H da ds ∧ TabD H ta ds ∧ DeclAt H v d ∧ fineD d ∧ fineDs ds ∧ d.up.length ≤ 20 ∧ x ∈ ds.map (·.1) ∧ x.length ≤ 100000 ∧
  ∀ (r : Bool) (H' : Hp), (r = true ↔ declOk ds x d) → Same H H' → Q (.bl r) H'
def Pkds (H0 : Hp) (D : Addr) (fs : List Fld) (i : Nat) (H : Hp) : Prop := Same H0 H ∧ ∃ vs, H D = some (.lst vs) ∧ KdsAt H vs ((fs.take i).map (·.2.1))
section
variable {P : Program} {w : World} {K : PySem.W.Frag} {mg : Str → Option Value} {base : Heap} {f : Addr} {fd : FuncData} {aT aF : Addr}
theorem ok_choice (B : Bn mg) (F : Fun K "choice_is_sound" "choice_is_sound" s_choice_is_sound f fd) (c_names_are_sound : Cal P w K mg base "names_are_sound" 2 ["names"] (spNamesSound K)) (c_kind_is_sound : Cal P w K mg base "kind_is_sound" 5 ["declared", "kind"] spSound) :
    FnOk P w K mg base CX0 6 f fd ["declared", "declaration"] spChOk := by
  refine F.ok sc_choice_is_sound (fun vs H Q E h => ?_) (fun cdv A outer s H vs Q E hr h => ?_)
  · obtain ⟨da, ds, v, cs, sh, rfl, _⟩ := h
    rfl
  obtain ⟨da, ds, v, cs, sh, rfl, hD, hd, fd1, q⟩ := h
  refine ⟨_, (pss_cons (ps_set (i := 2) sc_choice_is_sound.nd rfl (Or.inl rfl) (pe_ix (ixT K rfl) (pv 1) pe_int (fun _ _ => rfl)))
    (pss_cons (ps_if (pt_not (pt_val (pc c_names_are_sound (hr.mono (by first | decide | omega)) (pa_cons (pe_lc (own := [("name", 5), ("_", 3)]) (g := (gTup K 2 (gCons (gName 5) (gCons (gName 3) gNil)))) rfl sc_choice_is_sound.nd (piT K rfl (pv 2)) (blkOk_by (N := ["declared", "declaration", "cases", "_", "kind", "name"]) (sc := defScope s_choice_is_sound) (by decide +kernel)) (fun _ _ _ _ _ => (pg_tup rfl (pgs_cons (pg_name (i := 5) sc_choice_is_sound.nd rfl (Or.inl rfl) (hf := Or.inr rfl)) (pgs_cons (pg_name (i := 3) sc_choice_is_sound.nd rfl (Or.inl rfl) (hf := Or.inr rfl)) pgs_nil)))) (fun _ _ _ _ _ => pts_nil) (fun _ _ _ _ _ => (pv 5))) pa_nil)))) (pss_one (ps_ret pe_bl)) pss_nil)
    (pss_one (ps_ret (pe_callB (allOf K rfl rfl) (by rfl) B.b_all (by decide +kernel) (pa_cons (pe_lc (own := [("_", 3), ("kind", 4)]) (g := (gTup K 2 (gCons (gName 3) (gCons (gName 4) gNil)))) rfl sc_choice_is_sound.nd (piT K rfl (pv 2)) (blkOk_by (N := ["declared", "declaration", "cases", "_", "kind", "name"]) (sc := defScope s_choice_is_sound) (by decide +kernel)) (fun _ _ _ _ _ => (pg_tup rfl (pgs_cons (pg_name (i := 3) sc_choice_is_sound.nd rfl (Or.inl rfl) (hf := Or.inr rfl)) (pgs_cons (pg_name (i := 4) sc_choice_is_sound.nd rfl (Or.inl rfl) (hf := Or.inr rfl)) pgs_nil)))) (fun _ _ _ _ _ => (pts_one (pt_cmpR op_notN (pv 4) pe_non (nomark _)))) (fun _ _ _ _ _ => (pc c_kind_is_sound (hr.mono (by first | decide | omega)) (pa_cons (pv 0) (pa_cons (pv 4) pa_nil))))) pa_nil)))))), ?_⟩
  cases hd with
  | @choice a b cvs _ _ ha hb pf =>
  obtain ⟨ff, lfs, lnm⟩ := fd1
  have lfv := Paired.length pf
  refine ⟨_, rfl, _, _, _, _, rfl, rfl, SqT.of ha, at_of (j := 1) rfl rfl, ?_⟩
  refine ⟨_, rfl, b, rfl, ⟨_, SqT.of hb⟩, fun D nD => lc_tup (xs := cvs) (Pstr H D (cs.map (·.1))) ?_ ?_ ?_ ?_⟩
  · exact ⟨same_new nD _, upd_same⟩
  · exact fun i H1 _ p => SqT.of (p.1 _ _ hb)
  · rintro i x H1 hx ps
    obtain ⟨fl, hfl, e, kv, rfl, hc2, hk⟩ := Paired.at pf i x hx
    refine ⟨e, _, rfl, SqT.of (ps.1 _ _ hc2), rfl, _, _, rfl, _, _, rfl, rfl, rfl, _, rfl, ?_⟩
    exact ps.put (Same.refl _) nD (by rw [List.getElem?_map, hfl]; rfl) (by rw [List.length_map]; omega)
  rintro H1 ⟨s1, hacc⟩
  rw [show cvs.length = (cs.map (·.1)).length by rw [List.length_map, lfv], List.take_length] at hacc
  refine ⟨D, cs.map (·.1), rfl, SqL.of hacc, by rw [List.length_map]; omega, fun x hx => ?_, fun H2 s2 => ⟨_, rfl, ?_⟩⟩
  · obtain ⟨fl, hfl, rfl⟩ := List.mem_map.mp hx
    exact lnm fl hfl
  have s12 := s1.trans s2
  cases c0 : nmsOk (cs.map (·.1)) with
  | false => exact iteT (q false H2 (iff_of_false (by decide) fun z => by rw [z.1] at c0; cases c0) s12)
  | true =>
    refine iteF ?_
    refine ⟨_, rfl, b, rfl, ⟨_, SqT.of (s12 _ _ hb)⟩, fun D2 nD2 => lc_tup (xs := cvs) (Pchk (ds.map (·.1)) H2 D2 cs) ?_ ?_ ?_ ?_⟩
    · exact ⟨same_new nD2 _, [], upd_same, Nat.le_refl _, iff_of_true rfl fun c hc => by simp at hc⟩
    · exact fun i H3 _ p => SqT.of (p.1 _ _ (s12 _ _ hb))
    · rintro i x H3 hx ⟨s3, bs, hbs, lb, hall⟩
      obtain ⟨c, hc, e, cv, rfl, hc2, hk⟩ := Paired.at pf i x hx
      have hil : i < cs.length := (List.getElem?_eq_some_iff.mp hc).1
      have s13 := s12.trans s3
      have next : (∀ c ∈ cs.take (i + 1), ∀ k, c.2 = some k → k.sound (ds.map (·.1)) = true) ↔ (∀ c ∈ cs.take i, ∀ k, c.2 = some k → k.sound (ds.map (·.1)) = true) ∧ ∀ k, c.2 = some k → k.sound (ds.map (·.1)) = true := by
        rw [← take_next hc]
        exact all_snoc
      refine ⟨e, _, rfl, SqT.of (s13 _ _ hc2), rfl, _, _, rfl, _, _, rfl, rfl, rfl, ?_⟩
      rcases hk with ⟨en, rfl⟩ | ⟨k, ek, hk⟩
      · refine ⟨_, rfl, rfl, _, rfl, iteF ⟨s3, bs, hbs, by omega, ?_⟩⟩
        rw [next]
        exact hall.trans ⟨fun z => ⟨z, fun k e => by rw [en] at e; cases e⟩, fun z => z.1⟩
      · obtain ⟨ak, rk, rfl, _⟩ := hk.word
        refine ⟨_, rfl, rfl, _, rfl, iteT ?_⟩
        refine ⟨_, rfl, _, rfl, da, _, _, k, rfl, (hD.same s13).keys, hk.mono (Tups.of_same s13), ?_, fun H4 s4 => ?_⟩
        · have := (ff c (List.mem_of_getElem? hc) k ek).2.1
          omega
        · refine ⟨_, s4 _ _ hbs, line5 (by rw [List.length_map]; omega), Same.atNew (s3.trans s4) nD2, bs ++ [_], by rw [upd_same, List.map_append]; rfl, by rw [List.length_append, List.length_singleton]; omega, ?_⟩
          rw [next]
          exact all_put hall ⟨fun z k' e => by rw [ek] at e; cases e; exact z, fun z => z k ek⟩
    rintro H3 ⟨s3, bs, hbs, lb, hall⟩
    rw [lfv, List.take_length] at hall
    refine ⟨D2, _, rfl, SqL.of hbs, ?_⟩
    exact q _ H3 (hall.trans ⟨fun z => ⟨c0, z⟩, fun z => z.2⟩) (s12.trans s3)
theorem ok_declaration (F : Fun K "declaration_is_sound" "declaration_is_sound" s_declaration_is_sound f fd) (c_is_name : Cal P w K mg base "is_name" 1 ["text"] spIsName) (c_above_is_sound : Cal P w K mg base "above_is_sound" 2 ["declared", "name", "declaration", "above"] spAboveOk)
    (c_record_is_sound : Cal P w K mg base "record_is_sound" 7 ["declared", "declaration", "above"] spRecOk) (c_choice_is_sound : Cal P w K mg base "choice_is_sound" 6 ["declared", "declaration"] spChOk) : FnOk P w K mg base CX0 8 f fd ["declared", "name", "declaration", "above"] spDeclOk := by
  refine F.ok sc_declaration_is_sound (fun vs H Q E h => ?_) (fun cdv A outer s H vs Q E hr h => ?_)
  · obtain ⟨da, ta, ds, x, v, d, rfl, _⟩ := h
    rfl
  obtain ⟨da, ta, ds, x, v, d, rfl, hD, hT, hd, fd1, fds, lup, hx, lx, q⟩ := h
  refine ⟨_, (pss_cons (ps_if (PW.pt (pw_or (pt_not (pt_val (pc c_is_name (hr.mono (by first | decide | omega)) (pa_cons (pv 1) pa_nil)))) (pw_or1 (pt_not (pt_val (pc c_above_is_sound (hr.mono (by first | decide | omega)) (pa_cons (pv 0) (pa_cons (pv 1) (pa_cons (pv 2) (pa_cons (pv 3) pa_nil)))))))))) (pss_one (ps_ret pe_bl)) pss_nil)
    (pss_cons (ps_if (pt_cmpR op_eq (pe_ix (ixT K rfl) (pv 2) pe_int (fun _ _ => rfl)) pe_str (nomark _)) (pss_one (ps_ret (pc c_record_is_sound (hr.mono (by first | decide | omega)) (pa_cons (pv 0) (pa_cons (pv 2) (pa_cons (pv 3) pa_nil)))))) pss_nil)
    (pss_cons (ps_if (pt_cmpR op_eq (pe_ix (ixT K rfl) (pv 2) pe_int (fun _ _ => rfl)) pe_str (nomark _)) (pss_one (ps_ret (pc c_choice_is_sound (hr.mono (by first | decide | omega)) (pa_cons (pv 0) (pa_cons (pv 2) pa_nil))))) pss_nil)
    (pss_one (ps_ret pe_bl))))), ?_⟩
  refine ⟨_, rfl, x, rfl, lx, fun H1 s1 => ⟨_, rfl, ?_⟩⟩
  cases c0 : nmOk x with
  | false => exact iteT (iteT (q false H1 (iff_of_false (by decide) fun z => by rw [z.1] at c0; cases c0) s1))
  | true =>
    refine iteF ?_
    have T1 := Tups.of_same s1
    refine ⟨_, rfl, _, rfl, _, rfl, _, rfl, da, ta, ds, x, v, d, rfl, hD.same s1, hT.same s1, hd.mono T1, hx, lup, fun r H2 hr2 s2 => ⟨_, rfl, ?_⟩⟩
    have s12 := s1.trans s2
    cases r with
    | false => exact iteT (q false H2 (iff_of_false (by decide) fun z => Bool.noConfusion (hr2.mpr z.2.1)) s12)
    | true =>
      have hab := hr2.mp rfl
      refine iteF ?_
      have T2 := Tups.of_same s12
      have hd2 := hd.mono T2
      have hin : ∀ u ∈ d.up, u ∈ ds.map (·.1) := fun u hu => by
        have z := List.all_eq_true.mp hab.2.2 u hu
        unfold upOk at z
        cases hl : look ds u with
        | none => rw [hl] at z; cases z
        | some e => exact List.mem_map.mpr ⟨_, look_mem hl, rfl⟩
      cases d with
      | record fs up =>
        obtain ⟨a, ra, rfl, ha⟩ := hd2.word
        refine ⟨_, rfl, _, _, _, _, rfl, rfl, SqT.of ha, at_of rfl rfl, rfl, _, rfl, ifT rfl ?_⟩
        exact ⟨_, rfl, _, rfl, _, rfl, da, ta, ds, _, fs, up, rfl, hD.same s12, hT.same s12, hd2, fd1, fds, lup, hin, fun r H3 hr3 s3 => q r H3 (hr3.trans ⟨fun z => ⟨c0, hab, z⟩, fun z => z.2.2⟩) (s12.trans s3)⟩
      | choice cs sh =>
        obtain ⟨a, ra, rfl, ha⟩ := hd2.word
        refine ⟨_, rfl, _, _, _, _, rfl, rfl, SqT.of ha, at_of rfl rfl, rfl, _, rfl, ifF rfl ?_⟩
        refine ⟨_, rfl, _, _, _, _, rfl, rfl, SqT.of ha, at_of rfl rfl, rfl, _, rfl, ifT rfl ?_⟩
        exact ⟨_, rfl, _, rfl, da, ds, _, cs, sh, rfl, hD.same s12, hd2, fd1, fun r H3 hr3 s3 => q r H3 (hr3.trans ⟨fun z => ⟨c0, hab, z⟩, fun z => z.2.2⟩) (s12.trans s3)⟩
      | hidden up =>
        obtain ⟨a, ra, rfl, ha⟩ := hd2.word
        refine ⟨_, rfl, _, _, _, _, rfl, rfl, SqT.of ha, at_of rfl rfl, rfl, _, rfl, ifF rfl ?_⟩
        refine ⟨_, rfl, _, _, _, _, rfl, rfl, SqT.of ha, at_of rfl rfl, rfl, _, rfl, ifF rfl ?_⟩
        exact q true H2 (iff_of_true rfl ⟨c0, hab, trivial⟩) s12
theorem ok_door (B : Bn mg) (F : Fun K "door_is_sound" "door_is_sound" s_door_is_sound f fd) (c_is_name : Cal P w K mg base "is_name" 1 ["text"] spIsName) (c_names_are_sound : Cal P w K mg base "names_are_sound" 2 ["names"] (spNamesSound K)) (c_kind_is_sound : Cal P w K mg base "kind_is_sound" 5 ["declared", "kind"] spSound) :
    FnOk P w K mg base CX0 6 f fd ["declared", "door"] spDoorOk := by
  refine F.ok sc_door_is_sound (fun vs H Q E h => ?_) (fun cdv A outer s H vs Q E hr h => ?_)
  · obtain ⟨da, ns, v, d, rfl, _⟩ := h
    rfl
  obtain ⟨da, ns, v, ⟨nm, fs, an⟩, rfl, hD, hd, ⟨ff, lfs, lnm, fan, lnn⟩, q⟩ := h
  obtain ⟨a, b, fvs, kv, rfl, ha, hb, pf, hk⟩ := hd
  have lfv : fvs.length = fs.length := Paired.length pf
  have lfs : fs.length ≤ 100 := lfs
  refine ⟨_, (pss_cons (ps_asg (pv 1) (pg_tup rfl (pgs_cons (pg_name (i := 3) sc_door_is_sound.nd rfl (Or.inl rfl)) (pgs_cons (pg_name (i := 4) sc_door_is_sound.nd rfl (Or.inl rfl)) (pgs_cons (pg_name (i := 5) sc_door_is_sound.nd rfl (Or.inl rfl)) pgs_nil)))))
    (pss_cons (ps_if (PW.pt (pw_or (pt_not (pt_val (pc c_is_name (hr.mono (by first | decide | omega)) (pa_cons (pv 3) pa_nil)))) (pw_or1 (pt_not (pt_val (pc c_names_are_sound (hr.mono (by first | decide | omega)) (pa_cons (pe_lc (own := [("parameter", 8), ("_", 6)]) (g := (gTup K 3 (gCons (gName 8) (gCons (gName 6) (gCons (gName 6) gNil))))) rfl sc_door_is_sound.nd (piT K rfl (pv 4)) (blkOk_by (N := ["declared", "door", "kinds", "name", "parameters", "answer", "_", "kind", "parameter"]) (sc := defScope s_door_is_sound) (by decide +kernel)) (fun _ _ _ _ _ => (pg_tup rfl (pgs_cons (pg_name (i := 8) sc_door_is_sound.nd rfl (Or.inl rfl) (hf := Or.inr rfl)) (pgs_cons (pg_name (i := 6) sc_door_is_sound.nd rfl (Or.inl rfl) (hf := Or.inr rfl)) (pgs_cons (pg_name (i := 6) sc_door_is_sound.nd rfl (Or.inl rfl) (hf := Or.inr rfl)) pgs_nil))))) (fun _ _ _ _ _ => pts_nil) (fun _ _ _ _ _ => (pv 8))) pa_nil))))))) (pss_one (ps_ret pe_bl)) pss_nil)
    (pss_cons (ps_set (i := 2) sc_door_is_sound.nd rfl (Or.inl rfl) (pe_op op_cat (pe_lc (own := [("_", 6), ("kind", 7)]) (g := (gTup K 3 (gCons (gName 6) (gCons (gName 7) (gCons (gName 6) gNil))))) rfl sc_door_is_sound.nd (piT K rfl (pv 4)) (blkOk_by (N := ["declared", "door", "kinds", "name", "parameters", "answer", "_", "kind", "parameter"]) (sc := defScope s_door_is_sound) (by decide +kernel)) (fun _ _ _ _ _ => (pg_tup rfl (pgs_cons (pg_name (i := 6) sc_door_is_sound.nd rfl (Or.inl rfl) (hf := Or.inr rfl)) (pgs_cons (pg_name (i := 7) sc_door_is_sound.nd rfl (Or.inl rfl) (hf := Or.inr rfl)) (pgs_cons (pg_name (i := 6) sc_door_is_sound.nd rfl (Or.inl rfl) (hf := Or.inr rfl)) pgs_nil))))) (fun _ _ _ _ _ => pts_nil) (fun _ _ _ _ _ => (pv 7))) (pe_lst (pa_cons (pv 5) pa_nil))))
    (pss_one (ps_ret (pe_callB (allOf K rfl rfl) (by rfl) B.b_all (by decide +kernel) (pa_cons (pe_lc (own := [("kind", 7)]) (g := (gName 7)) rfl sc_door_is_sound.nd (piL K rfl (pv 2)) (blkOk_by (N := ["declared", "door", "kinds", "name", "parameters", "answer", "_", "kind", "parameter"]) (sc := defScope s_door_is_sound) (by decide +kernel)) (fun _ _ _ _ _ => (pg_name (i := 7) sc_door_is_sound.nd rfl (Or.inl rfl) (hf := Or.inr rfl))) (fun _ _ _ _ _ => pts_nil) (fun _ _ _ _ _ => (pc c_kind_is_sound (hr.mono (by first | decide | omega)) (pa_cons (pv 0) (pa_cons (pv 7) pa_nil))))) pa_nil))))))), ?_⟩
  refine ⟨_, rfl, a, _, rfl, SqT.of ha, rfl, _, _, rfl, _, _, rfl, _, _, rfl, rfl, ?_⟩
  refine ⟨_, rfl, nm, rfl, lnn, fun H1 s1 => ⟨_, rfl, ?_⟩⟩
  cases c0 : nmOk nm with
  | false =>
    have e : doorOk ns (nm, fs, an) = false := by
      unfold doorOk
      rw [c0]
      rfl
    refine iteT (iteT ?_)
    have z := q H1 s1
    rw [e] at z
    exact z
  | true =>
    refine iteF ?_
    have hb1 := s1 _ _ hb
    refine ⟨_, rfl, b, rfl, ⟨_, SqT.of hb1⟩, fun D nD => lc_tup (xs := fvs) (Pstr H1 D (fs.map (·.1))) ?_ ?_ ?_ ?_⟩
    · exact ⟨same_new nD _, upd_same⟩
    · exact fun i H2 _ p => SqT.of (p.1 _ _ hb1)
    · rintro i x H2 hx ps
      obtain ⟨fl, hfl, e, kv, rfl, hc2, hk⟩ := Paired.at pf i x hx
      refine ⟨e, _, rfl, SqT.of (ps.1 _ _ (s1 _ _ hc2)), rfl, _, _, rfl, _, _, rfl, _, _, rfl, rfl, rfl, _, rfl, ?_⟩
      exact ps.put (Same.refl _) nD (by rw [List.getElem?_map, hfl]; rfl) (by rw [List.length_map]; omega)
    rintro H2 ⟨s2, hacc⟩
    rw [show fvs.length = (fs.map (·.1)).length by rw [List.length_map, lfv], List.take_length] at hacc
    refine ⟨D, fs.map (·.1), rfl, SqL.of hacc, by rw [List.length_map]; omega, fun x hx => ?_, fun H3 s3 => ⟨_, rfl, ?_⟩⟩
    · obtain ⟨fl, hfl, rfl⟩ := List.mem_map.mp hx
      exact lnm fl hfl
    have s13 := s1.trans (s2.trans s3)
    cases c1 : nmsOk (fs.map (·.1)) with
    | false =>
      have e : doorOk ns (nm, fs, an) = false := by
        unfold doorOk
        rw [c0, c1]
        rfl
      refine iteT ?_
      have z := q H3 s13
      rw [e] at z
      exact z
    | true =>
      refine iteF ?_
      have hb3 := s13 _ _ hb
      refine ⟨_, rfl, b, rfl, ⟨_, SqT.of hb3⟩, fun D2 nD2 => lc_tup (xs := fvs) (Pkds H3 D2 fs) ?_ ?_ ?_ ?_⟩
      · exact ⟨same_new nD2 _, [], upd_same, .nil⟩
      · exact fun i H4 _ p => SqT.of (p.1 _ _ hb3)
      · rintro i x H4 hx ⟨s4, vs, hvs, kvs⟩
        obtain ⟨fl, hfl, e, kv, rfl, hc2, hk⟩ := Paired.at pf i x hx
        have s14 := s13.trans s4
        have hil : i < fs.length := (List.getElem?_eq_some_iff.mp hfl).1
        have l1 := kvs.len
        have l2 := List.length_take_le' i fs
        rw [List.length_map] at l1
        refine ⟨e, _, rfl, SqT.of (s14 _ _ hc2), rfl, _, _, rfl, _, _, rfl, _, _, rfl, rfl, rfl, _, rfl, vs, hvs, line5 (by omega), Same.atNew s4 nD2, _, upd_same, ?_⟩
        have T : Tups H4 (upd H4 D2 (.lst (vs ++ [kv]))) := Tups.upd hvs
        rw [← take_next hfl, List.map_append]
        exact (kvs.mono T).app (.cons ((hk.mono (Tups.of_same s14)).mono T) .nil)
      rintro H4 ⟨s4, vs, hvs, kvs⟩
      rw [lfv, List.take_length] at kvs
      have s14 := s13.trans s4
      have l1 := kvs.len
      rw [List.length_map] at l1
      refine ⟨_, rfl, (by show 1 ≤ sizeLine; decide), fun t nt => ⟨D2, t, _, _, rfl, rfl, same_new nt _ _ _ hvs, upd_same, Nat.le_of_lt (line5 (by simp; omega)), fun r nr => ?_⟩⟩
      have st := same_new nt (.lst [kv])
      have sr := same_new nr (.lst (vs ++ [kv]))
      have s16 := s14.trans (st.trans sr)
      have hr6 : (upd (upd H4 t (.lst [kv])) r (.lst (vs ++ [kv]))) r = some (.lst (vs ++ [kv])) := upd_same
      have T6 := Tups.of_same (st.trans sr)
      have kall : KdsAt (upd (upd H4 t (.lst [kv])) r (.lst (vs ++ [kv]))) (vs ++ [kv]) ((fs.map (·.2.1)) ++ [an]) := (kvs.mono T6).app (.cons (hk.mono (Tups.of_same s16)) .nil)
      generalize upd (upd H4 t (.lst [kv])) r (.lst (vs ++ [kv])) = H6 at s16 hr6 kall
      have lk := kall.len
      have lk2 : ((fs.map (·.2.1)) ++ [an]).length ≤ 101 := by simp; omega
      refine ⟨_, rfl, r, rfl, ⟨_, SqL.of hr6⟩, fun D5 nD5 => lc_list (xs := vs ++ [kv]) (Pbls H6 D5 (((fs.map (·.2.1)) ++ [an]).map (Kd.sound ns))) ?_ ?_ ?_ ?_⟩
      · exact ⟨same_new nD5 _, upd_same⟩
      · exact fun i H7 _ p => SqL.of (p.1 _ _ hr6)
      · rintro i x H7 hx ps
        obtain ⟨k, hk7, kd7⟩ := kall.get i x hx
        refine ⟨rfl, _, rfl, _, rfl, da, ns, x, k, rfl, hD.same (s16.trans ps.1), kd7.mono (Tups.of_same ps.1), ?_, fun H8 s8 => ?_⟩
        · rcases List.mem_append.mp (List.mem_of_getElem? hk7) with h | h
          · obtain ⟨fl, hfl, rfl⟩ := List.mem_map.mp h
            have := (ff fl hfl).2.1
            omega
          · have e : k = an := by simpa using h
            rw [e]
            have h2 : an.size ≤ 1000 := fan.2.1
            omega
        · exact ps.put s8 nD5 (by rw [List.getElem?_map, hk7]; rfl) (by rw [List.length_map]; omega)
      rintro H7 ⟨s7, hacc7⟩
      rw [show (vs ++ [kv]).length = (((fs.map (·.2.1)) ++ [an]).map (Kd.sound ns)).length by rw [List.length_map, lk], List.take_length] at hacc7
      refine ⟨D5, _, rfl, SqL.of hacc7, ?_⟩
      have z := q H7 (s16.trans s7)
      have e : doorOk ns (nm, fs, an) = (((fs.map (·.2.1)) ++ [an]).map (Kd.sound ns)).all id := by
        unfold doorOk
        rw [c0, c1, List.all_map]
        rfl
      rw [e] at z
      exact z
end
end My
namespace My
open PySem L2
/-! check_lengths, check_kinds, check_doors of what is without fault -/

def fewD (ds : List (Str × Decl)) : Prop := ∀ p ∈ ds, p.2.up.length ≤ 20 ∧ p.1.length ≤ 100000
/-- declarations without fault -/
structure KindsOk (ds : List (Str × Decl)) : Prop where
  len : ds.length ≤ 12
  few : fewD ds
  fine : fineDs ds
  once : (ds.map (·.1)).Nodup
  ok : ∀ p ∈ ds, declOk ds p.1 p.2
structure DoorsOk (ns : List Str) (es : List Door) : Prop where
  len : es.length ≤ 16
  fine : ∀ d ∈ es, fineDoor d
  once : (es.map (·.1)).Nodup
  ok : ∀ d ∈ es, doorOk ns d = true
def spChkLen (K : PySem.W.Frag) : Sp := fun vs H Q _ => ∃ (a b : Addr) (ws zs : List V), vs = [.ref a, .ref b] ∧ SqL K H a ws ∧ SqL K H b zs ∧ ws.length ≤ 12 ∧ zs.length ≤ 16 ∧ Q .non H
def spChkKinds (K : PySem.W.Frag) : Sp := fun vs H Q _ => ∃ (l : Addr) (ws : List V) (ds : List (Str × Decl)), vs = [.ref l] ∧ SqL K H l ws ∧ Paired (ItemAt H) ws ds ∧ KindsOk ds ∧ ∀ H', Same H H' → Q .non H'
def spChkDoors (K : PySem.W.Frag) : Sp := fun vs H Q _ => ∃ (l m : Addr) (ws zs : List V) (ds : List (Str × Decl)) (es : List Door), vs = [.ref l, .ref m] ∧ SqL K H l ws ∧ Paired (ItemAt H) ws ds ∧ KindsOk ds ∧ SqL K H m zs ∧ Paired (DoorAt H) zs es ∧ DoorsOk (ds.map (·.1)) es ∧ ∀ H', Same H H' → Q .non H'
/-- the set at a holds these names -/
def SeenAt (P : Program) (w : World) (H : Hp) (a : Addr) (xs : List Str) : Prop := ∃ (S : Key → Bool) (n : Nat), H a = some (SetK P w a S n) ∧ n ≤ 1000 ∧ n ≤ xs.length ∧ ∀ x : Str, S (Sum.inr x) = decide (x ∈ xs)
def Pck (P : Program) (w : World) (l da ta sa : Addr) (ns : List Str) (H0 : Hp) (i : Nat) (σ : St) (H : Hp) : Prop :=
  ∃ (u4 u5 : Option V), σ = [some (.ref l), some (.ref da), some (.ref ta), some (.ref sa), u4, u5] ∧ Same H0 H ∧ SeenAt P w H sa (ns.take i)
def Pcd (P : Program) (w : World) (l m da sa : Addr) (ns : List Str) (H0 : Hp) (i : Nat) (σ : St) (H : Hp) : Prop :=
  ∃ (u4 : Option V), σ = [some (.ref l), some (.ref m), some (.ref da), some (.ref sa), u4] ∧ Same H0 H ∧ SeenAt P w H sa (ns.take i)
theorem kinds_few {ds : List (Str × Decl)} (h : KindsOk ds) : few ds := ⟨by have := h.len; omega, fun p hp => (h.few p hp).1⟩
theorem seen_next {S : Key → Bool} {xs : List Str} {i : Nat} {y : Str} (h : ∀ x : Str, S (Sum.inr x) = decide (x ∈ xs.take i)) (hy : xs[i]? = some y) (x : Str) : (S (Sum.inr x) || decide ((Sum.inr x : Key) = Sum.inr y)) = decide (x ∈ xs.take (i + 1)) := by
  rw [← take_next hy, h x, Bool.eq_iff_iff]
  simp
section
variable {P : Program} {w : World} {K : PySem.W.Frag} {mg : Str → Option Value} {base : Heap} {f : Addr} {fd : FuncData} {aT aF : Addr}
theorem ok_check_lengths (B : Bn mg) (M : Mn K mg aT aF) (F : Fun K "check_lengths" "check_lengths" s_check_lengths f fd) : FnOk P w K mg base CX0 1 f fd ["kinds", "doors"] (spChkLen K) := by
  refine F.ok sc_check_lengths (fun vs H Q E h => ?_) (fun cdv A outer s H vs Q E hr h => ?_)
  · obtain ⟨a, b, ws, zs, rfl, _⟩ := h
    rfl
  obtain ⟨a, b, ws, zs, rfl, ha, hb, la, lb, q⟩ := h
  refine ⟨_, (pss_one (ps_if (PW.pt (pw_or (pt_cmpR op_gt (pe_callB (lenSeq K rfl) (by rfl) B.b_len PySem.boot_len (pa_cons (pv 0) pa_nil)) (pgI M.m_MOST_KINDS) (nomark _)) (pw_or1 (pt_cmpR op_gt (pe_callB (lenSeq K rfl) (by rfl) B.b_len PySem.boot_len (pa_cons (pv 1) pa_nil)) (pgI M.m_MOST_DOORS) (nomark _))))) (pss_one ps_never) pss_nil)), ?_⟩
  refine ⟨_, rfl, a, _, rfl, .inl ha, _, _, rfl, rfl, _, rfl, ?_⟩
  rw [decide_eq_false (by omega)]
  refine iteF ?_
  refine ⟨_, rfl, b, _, rfl, .inl hb, _, _, rfl, rfl, _, rfl, ?_⟩
  rw [decide_eq_false (by omega)]
  exact iteF q
theorem ok_check_kinds (B : Bn mg) (F : Fun K "check_kinds" "check_kinds" s_check_kinds f fd) (c_first_declared : Cal P w K mg base "first_declared" 1 ["kinds"] (spFirst K)) (c_table_above : Cal P w K mg base "table_above" 3 ["declared"] spTable)
    (c_declaration_is_sound : Cal P w K mg base "declaration_is_sound" 8 ["declared", "name", "declaration", "above"] spDeclOk) : FnOk P w K mg base CX0 9 f fd ["kinds"] (spChkKinds K) := by
  refine F.ok sc_check_kinds (fun vs H Q E h => ?_) (fun cdv A outer s H vs Q E hr h => ?_)
  · obtain ⟨l, ws, ds, rfl, _⟩ := h
    rfl
  obtain ⟨l, ws, ds, rfl, hl, hw, ok, q⟩ := h
  refine ⟨_, (pss_cons (ps_set (i := 1) sc_check_kinds.nd rfl (Or.inl rfl) (pc c_first_declared (hr.mono (by first | decide | omega)) (pa_cons (pv 0) pa_nil)))
    (pss_cons (ps_set (i := 2) sc_check_kinds.nd rfl (Or.inl rfl) (pc c_table_above (hr.mono (by first | decide | omega)) (pa_cons (pv 1) pa_nil)))
    (pss_cons (ps_set (i := 3) sc_check_kinds.nd rfl (Or.inl rfl) (pe_callTy0 cr_set0K (by rfl) B.b_set (by decide +kernel)))
    (pss_one (ps_for PassesOwn.never rfl (piL K rfl (pv 0)) (pg_tup rfl (pgs_cons (pg_name (i := 4) sc_check_kinds.nd rfl (Or.inl rfl)) (pgs_cons (pg_name (i := 5) sc_check_kinds.nd rfl (Or.inl rfl)) pgs_nil))) (pss_cons (ps_if (PW.pt (pw_or (pt_cmpR or_sinK (pv 4) (pv 3) (by rfl)) (pw_or1 (pt_not (pt_val (pc c_declaration_is_sound (hr.mono (by first | decide | omega)) (pa_cons (pv 1) (pa_cons (pv 4) (pa_cons (pv 5) (pa_cons (pv 2) pa_nil)))))))))) (pss_one ps_never) pss_nil)
    (pss_one (ps_expr (pe_saddK (pv 3) (pa_cons (pv 4) pa_nil)))))))))), ?_⟩
  have lds := ok.len
  refine ⟨_, rfl, l, ws, ds, rfl, hl, hw, by omega, fun da kvs H1 nda hda hkv s1 => ?_⟩
  rw [firsts_same ok.once] at hkv
  refine ⟨_, rfl, da, kvs, ds, rfl, hda, hkv, kinds_few ok, ok.once, fun ta ts H2 nta hta hts s2 => ⟨rfl, fun sa nsa => ?_⟩⟩
  have s12 := s1.trans s2
  have s3 := same_new nsa (SetK P w sa (fun _ => false) 0)
  have hD : DeclD H2 da ds := DeclD.same (⟨kvs, .inl hda, hkv⟩ : DeclD H1 da ds) s2
  have hT : TabD H2 ta ds := ⟨ts, .inl hta, hts⟩
  have hS : SeenAt P w (upd H2 sa (SetK P w sa (fun _ => false) 0)) sa ((ds.map (·.1)).take 0) := ⟨_, 0, upd_same, by omega, Nat.zero_le _, fun x => by simp⟩
  have ldw : ws.length = ds.length := Paired.length hw
  refine ⟨_, rfl, l, rfl, ⟨_, (s12.trans s3).seq hl⟩, for_list (xs := ws) (Pck P w l da ta sa (ds.map (·.1)) H2) ?_ ?_ ?_ ?_⟩
  · exact ⟨none, none, rfl, s3, hS⟩
  · rintro i σ H4 _ ⟨u4, u5, rfl, s4, _⟩
    exact s4.seq (s12.seq hl)
  · rintro i x σ H4 hx ⟨u4, u5, rfl, s4, S, n, hS4, hn, hnl, hSx⟩
    obtain ⟨p, hp, c, dv, rfl, hc, hdv⟩ := Paired.at hw i x hx
    have hil : i < ds.length := (List.getElem?_eq_some_iff.mp hp).1
    have s14 := s12.trans s4
    have pin : p ∈ ds := List.mem_of_getElem? hp
    have hpx : (ds.map (·.1))[i]? = some p.1 := by rw [List.getElem?_map, hp]; rfl
    refine ⟨c, _, rfl, SqT.of (s14 _ _ hc), rfl, _, _, rfl, _, _, rfl, rfl, ?_⟩
    refine ⟨_, rfl, _, rfl, Sum.inr p.1, sa, S, n, rfl, rfl, hS4, _, rfl, ?_⟩
    rw [show (if false = true then !S (Sum.inr p.1) else S (Sum.inr p.1)) = false by rw [hSx]; exact decide_eq_false (nodup_take_not ok.once hpx)]
    refine iteF ?_
    have T4 := Tups.of_same s14
    refine ⟨_, rfl, _, rfl, _, rfl, _, rfl, da, ta, ds, p.1, dv, p.2, rfl, hD.same s4, hT.same s4, hdv.mono T4, ok.fine p pin, ok.fine, (ok.few p pin).1, List.mem_map.mpr ⟨p, pin, rfl⟩, (ok.few p pin).2, fun r H5 hr5 s5 => ⟨_, rfl, ?_⟩⟩
    have er : r = true := hr5.mpr (ok.ok p pin)
    subst er
    refine iteF ?_
    have l1 := List.length_take_le' i (ds.map (·.1))
    rw [List.length_map] at l1
    have hS5 := s5 _ _ hS4
    refine ⟨_, rfl, ⟨sa, S, n, rfl, hS5⟩, _, rfl, sa, Sum.inr p.1, S, n, rfl, rfl, hS5, by unfold scanBound; omega, _, _, rfl, Same.atNew (s4.trans s5) nsa, _, _, upd_same, ?_, ?_, fun x => ?_⟩
    · split <;> omega
    · rw [List.length_take, List.length_map] at *
      split <;> omega
    · exact seen_next hSx hpx x
  · rintro σ H4 ⟨u4, u5, rfl, s4, _⟩
    exact q H4 (s12.trans s4)
theorem ok_check_doors (B : Bn mg) (F : Fun K "check_doors" "check_doors" s_check_doors f fd) (c_first_declared : Cal P w K mg base "first_declared" 1 ["kinds"] (spFirst K)) (c_door_is_sound : Cal P w K mg base "door_is_sound" 6 ["declared", "door"] spDoorOk) :
    FnOk P w K mg base CX0 9 f fd ["kinds", "doors"] (spChkDoors K) := by
  refine F.ok sc_check_doors (fun vs H Q E h => ?_) (fun cdv A outer s H vs Q E hr h => ?_)
  · obtain ⟨l, m, ws, zs, ds, es, rfl, _⟩ := h
    rfl
  obtain ⟨l, m, ws, zs, ds, es, rfl, hl, hw, ok, hm, hz, okd, q⟩ := h
  refine ⟨_, (pss_cons (ps_set (i := 2) sc_check_doors.nd rfl (Or.inl rfl) (pc c_first_declared (hr.mono (by first | decide | omega)) (pa_cons (pv 0) pa_nil)))
    (pss_cons (ps_set (i := 3) sc_check_doors.nd rfl (Or.inl rfl) (pe_callTy0 cr_set0K (by rfl) B.b_set (by decide +kernel)))
    (pss_one (ps_for PassesOwn.never rfl (piL K rfl (pv 1)) (pg_name (i := 4) sc_check_doors.nd rfl (Or.inl rfl)) (pss_cons (ps_if (PW.pt (pw_or (pt_cmpR or_sinK (pe_ix (ixT K rfl) (pv 4) pe_int (fun _ _ => rfl)) (pv 3) (by rfl)) (pw_or1 (pt_not (pt_val (pc c_door_is_sound (hr.mono (by first | decide | omega)) (pa_cons (pv 2) (pa_cons (pv 4) pa_nil)))))))) (pss_one ps_never) pss_nil)
    (pss_one (ps_expr (pe_saddK (pv 3) (pa_cons (pe_ix (ixT K rfl) (pv 4) pe_int (fun _ _ => rfl)) pa_nil))))))))), ?_⟩
  have lds := ok.len
  have les := okd.len
  refine ⟨_, rfl, l, ws, ds, rfl, hl, hw, by omega, fun da kvs H1 nda hda hkv s1 => ⟨rfl, fun sa nsa => ?_⟩⟩
  rw [firsts_same ok.once] at hkv
  have s3 := same_new nsa (SetK P w sa (fun _ => false) 0)
  have hD : DeclD H1 da ds := ⟨kvs, .inl hda, hkv⟩
  have hS : SeenAt P w (upd H1 sa (SetK P w sa (fun _ => false) 0)) sa ((es.map (·.1)).take 0) := ⟨_, 0, upd_same, by omega, Nat.zero_le _, fun x => by simp⟩
  refine ⟨_, rfl, m, rfl, ⟨_, (s1.trans s3).seq hm⟩, for_list (xs := zs) (Pcd P w l m da sa (es.map (·.1)) H1) ?_ ?_ ?_ ?_⟩
  · exact ⟨none, rfl, s3, hS⟩
  · rintro i σ H4 _ ⟨u4, rfl, s4, _⟩
    exact s4.seq (s1.seq hm)
  · rintro i x σ H4 hx ⟨u4, rfl, s4, S, n, hS4, hn, hnl, hSx⟩
    obtain ⟨p, hp, hd⟩ := Paired.at hz i x hx
    have hil : i < es.length := (List.getElem?_eq_some_iff.mp hp).1
    have s14 := s1.trans s4
    have pin : p ∈ es := List.mem_of_getElem? hp
    have hpx : (es.map (·.1))[i]? = some p.1 := by rw [List.getElem?_map, hp]; rfl
    have hd4 := hd.mono (Tups.of_same s14)
    obtain ⟨a, b, fvs, kv, rfl, ha, _⟩ := id hd4
    refine ⟨_, rfl, _, _, _, _, rfl, rfl, SqT.of ha, at_of rfl rfl, _, rfl, Sum.inr p.1, sa, S, n, rfl, rfl, hS4, _, rfl, ?_⟩
    rw [show (if false = true then !S (Sum.inr p.1) else S (Sum.inr p.1)) = false by rw [hSx]; exact decide_eq_false (nodup_take_not okd.once hpx)]
    refine iteF ?_
    refine ⟨_, rfl, _, rfl, da, _, _, p, rfl, (hD.same s4).keys, hd4, okd.fine p pin, fun H5 s5 => ⟨_, rfl, ?_⟩⟩
    rw [okd.ok p pin]
    refine iteF ?_
    have l1 := List.length_take_le' i (es.map (·.1))
    rw [List.length_map] at l1
    have hS5 := s5 _ _ hS4
    refine ⟨_, rfl, ⟨sa, S, n, rfl, hS5⟩, _, rfl, _, _, _, _, rfl, rfl, SqT.of (s5 _ _ ha), at_of rfl rfl, sa, Sum.inr p.1, S, n, rfl, rfl, hS5, by unfold scanBound; omega, _, rfl, Same.atNew (s4.trans s5) nsa, _, _, upd_same, ?_, ?_, fun x => ?_⟩
    · split <;> omega
    · rw [List.length_take, List.length_map] at *
      split <;> omega
    · exact seen_next hSx hpx x
  · rintro σ H4 ⟨u4, rfl, s4, _⟩
    exact q H4 (s1.trans s4)
end
end My
namespace My
open PySem L2
/-! the making of an edition -/

structure EdC (K : PySem.W.Frag) (C : Addr) : Prop where
  cl : Cls K C
  nNum : NoAttr K C "number"
  nKin : NoAttr K C "_kinds"
  nDoo : NoAttr K C "_doors"
  nDec : NoAttr K C "_declared"
  nBy : NoAttr K C "_by_name"
  nAb : NoAttr K C "_above"
/-- all but instances stays -/
def Kp (H H' : Hp) : Prop := ∀ (b : Addr) (o : HO), (∀ C dx fs, o ≠ .ins C dx fs) → H b = some o → H' b = some o
theorem Kp.of_same {H H' : Hp} (s : Same H H') : Kp H H' := fun b o _ e => s b o e
theorem Kp.trans {H H1 H2 : Hp} (a : Kp H H1) (b : Kp H1 H2) : Kp H H2 := fun c o n e => b c o n (a c o n e)
theorem Kp.ins {H : Hp} {e C dx : Addr} {fs : List (Str × V)} (h : H e = some (.ins C dx fs)) (o : HO) : Kp H (upd H e o) := fun b u n q => by
  rw [upd_ne (fun z => n C dx fs (by rw [z, h] at q; exact (Option.some.inj q).symm))]
  exact q
theorem Kp.tups {H H' : Hp} (k : Kp H H') : Tups H H' := fun a _ e => k a _ (fun _ _ _ z => nomatch z) e
theorem Kp.sqL {K : PySem.W.Frag} {H H' : Hp} {a : Addr} {xs : List V} (k : Kp H H') (h : SqL K H a xs) : SqL K H' a xs := by
  rcases h with (h | ⟨o, h⟩) | h
  · exact .inl (.inl (k _ _ (fun _ _ _ z => nomatch z) h))
  · exact .inl (.inr ⟨o, k _ _ (fun _ _ _ z => nomatch z) h⟩)
  · exact .inr h
theorem Kp.sqT {K : PySem.W.Frag} {H H' : Hp} {a : Addr} {xs : List V} (k : Kp H H') (h : SqT K H a xs) : SqT K H' a xs := by
  rcases h with (h | ⟨o, h⟩) | h
  · exact .inl (.inl (k _ _ (fun _ _ _ z => nomatch z) h))
  · exact .inl (.inr ⟨o, k _ _ (fun _ _ _ z => nomatch z) h⟩)
  · exact .inr h
theorem Kp.lst {H H' : Hp} {b : Addr} {xs : List V} (k : Kp H H') (h : H b = some (.lst xs)) : H' b = some (.lst xs) := k b _ (fun _ _ _ z => nomatch z) h
theorem Kp.dk {H H' : Hp} {b : Addr} {xs : List (Key × V)} (k : Kp H H') (h : H b = some (.dK xs)) : H' b = some (.dK xs) := k b _ (fun _ _ _ z => nomatch z) h
theorem TabRow.kp {ds : List (Str × Decl)} {H H' : Hp} (s : Kp H H') {p : Key × V} {q : Str × Decl} (h : TabRow ds H p q) : TabRow ds H' p q := by
  obtain ⟨e, b, us, o, e1, h, r⟩ := h
  exact ⟨e, b, us, o, e1, s _ _ (fun _ _ _ z => nomatch z) h, r⟩
def DoorRow (H : Hp) (p : Key × V) (d : Door) : Prop := p.1 = .inr d.1 ∧ DoorAt H p.2 d
theorem DoorRow.mono {H H' : Hp} (t : Tups H H') {p : Key × V} {d : Door} (h : DoorRow H p d) : DoorRow H' p d := ⟨h.1, h.2.mono t⟩
/-- an edition -/
def edFs (n l m da ba ta : Addr) : List (Str × V) := [("number", .ref n), ("_kinds", .ref l), ("_doors", .ref m), ("_declared", .ref da), ("_by_name", .ref ba), ("_above", .ref ta)]
structure EdAt (K : PySem.W.Frag) (C : Addr) (H : Hp) (e : Addr) (ds : List (Str × Decl)) (es : List Door) (us : List V) : Prop where
  ex : ∃ (dx n l m da ba ta : Addr) (ws zs : List V) (kvs bvs ts : List (Key × V)), H e = some (.ins C dx (edFs n l m da ba ta)) ∧
    SqT K H n us ∧ H l = some (.lst ws) ∧ Paired (ItemAt H) ws ds ∧ H m = some (.lst zs) ∧ Paired (DoorAt H) zs es ∧ H da = some (.dK kvs) ∧ DeclsAt H kvs ds ∧ H ba = some (.dK bvs) ∧ Paired (DoorRow H) bvs es ∧ H ta = some (.dK ts) ∧ Paired (TabRow ds H) ts ds
theorem EdAt.same {K : PySem.W.Frag} {C : Addr} {H H' : Hp} {e : Addr} {ds : List (Str × Decl)} {es : List Door} {us : List V} (h : EdAt K C H e ds es us) (s : Same H H') : EdAt K C H' e ds es us := by
  obtain ⟨dx, n, l, m, da, ba, ta, ws, zs, kvs, bvs, ts, h0, hn, hl, hw, hm, hz, hd, hk, hb, hv, ht, hr⟩ := h.ex
  have T := Tups.of_same s
  exact ⟨dx, n, l, m, da, ba, ta, ws, zs, kvs, bvs, ts, s _ _ h0, (Kp.of_same s).sqT hn, s _ _ hl, Paired.mono (fun _ _ z => z.mono T) hw, s _ _ hm, Paired.mono (fun _ _ z => z.mono T) hz, s _ _ hd, hk.mono T, s _ _ hb, Paired.mono (fun _ _ z => z.mono T) hv, s _ _ ht, Paired.mono (fun _ _ z => z.same s) hr⟩
/-- all but the new edition stays -/
def KpBut (e : Addr) (H H' : Hp) : Prop := ∀ (b : Addr) (o : HO), b ≠ e → H b = some o → H' b = some o
/-- the lists of the edition at e are new -/
def EdNew (H0 H' : Hp) (e : Addr) : Prop := ∀ (C dx n l m da ba ta : Addr), H' e = some (.ins C dx (edFs n l m da ba ta)) → H0 l = none ∧ H0 m = none
/-- p is none of the lists of the edition at e -/
def EdOff (H : Hp) (e p : Addr) : Prop := ∀ (C dx n l m da ba ta : Addr), H e = some (.ins C dx (edFs n l m da ba ta)) → p ≠ l ∧ p ≠ m
theorem EdNew.off {H0 H' : Hp} {e p : Addr} {o : HO} (h : EdNew H0 H' e) (hp : H0 p = some o) : EdOff H' e p := fun C dx n l m da ba ta he => ⟨ne_of_none hp (h C dx n l m da ba ta he).1, ne_of_none hp (h C dx n l m da ba ta he).2⟩
theorem EdOff.mono {H H' : Hp} {e p C dx : Addr} {fs : List (Str × V)} (h : EdOff H e p) (he : H e = some (.ins C dx fs)) (he' : H' e = some (.ins C dx fs)) : EdOff H' e p := fun C' dx' n l m da ba ta z => h C' dx' n l m da ba ta (by rw [he]; rw [he'] at z; exact z)
/-- a list that is none of the edition's changes -/
theorem EdAt.put {K : PySem.W.Frag} {C : Addr} {H : Hp} {e p : Addr} {ds : List (Str × Decl)} {es : List Door} {us xs ys : List V} (h : EdAt K C H e ds es us) (hp : H p = some (.lst xs)) (off : EdOff H e p) : EdAt K C (upd H p (.lst ys)) e ds es us := by
  obtain ⟨dx, n, l, m, da, ba, ta, ws, zs, kvs, bvs, ts, h0, hn, hl, hw, hm, hz, hd, hk, hb, hv, ht, hr⟩ := h.ex
  have T : Tups H (upd H p (.lst ys)) := Tups.upd hp
  have ne : ∀ (b : Addr) (o : HO), (∀ zs, o ≠ .lst zs) → H b = some o → (upd H p (.lst ys)) b = some o := fun b o no hb => by
    rw [upd_ne (ne_of hb hp (fun z => no xs z))]
    exact hb
  obtain ⟨pl, pm⟩ := off C dx n l m da ba ta h0
  have sq : SqT K (upd H p (.lst ys)) n us := by
    rcases hn with (h | ⟨o, h⟩) | h
    · exact .inl (.inl (ne _ _ (fun _ z => nomatch z) h))
    · exact .inl (.inr ⟨o, ne _ _ (fun _ z => nomatch z) h⟩)
    · exact .inr h
  exact ⟨dx, n, l, m, da, ba, ta, ws, zs, kvs, bvs, ts, ne _ _ (fun _ z => nomatch z) h0, sq, by rw [upd_ne pl.symm]; exact hl, Paired.mono (fun _ _ z => z.mono T) hw, by rw [upd_ne pm.symm]; exact hm, Paired.mono (fun _ _ z => z.mono T) hz,
    ne _ _ (fun _ z => nomatch z) hd, hk.mono T, ne _ _ (fun _ z => nomatch z) hb, Paired.mono (fun _ _ z => z.mono T) hv, ne _ _ (fun _ z => nomatch z) ht, Paired.mono (fun _ _ z => by
      obtain ⟨e, b, us, o, e1, h, r⟩ := z
      exact ⟨e, b, us, o, e1, ne _ _ (fun _ z => nomatch z) h, r⟩) hr⟩
def spInit (K : PySem.W.Frag) (C : Addr) : Sp := fun vs H Q _ => ∃ (e dx l m n : Addr) (ws zs us : List V) (ds : List (Str × Decl)) (es : List Door), vs = [.ref e, .ref l, .ref m, .ref n] ∧ H e = some (.ins C dx []) ∧ SqL K H l ws ∧ Paired (ItemAt H) ws ds ∧ KindsOk ds ∧ SqL K H m zs ∧ Paired (DoorAt H) zs es ∧ DoorsOk (ds.map (·.1)) es ∧ SqT K H n us ∧
  ∀ H', EdAt K C H' e ds es us → EdNew H H' e → KpBut e H H' → Q .non H'
/-- over a list: Pv by the turn and the heap (the new dict at D within) -/
theorem dc_lst {K : PySem.W.Frag} {a : Addr} {xs : List V} {g : TG} {tt : TT} {tk tv : TE} {vs : List Nat} {σ : St} {H1 : Hp} {D : Addr} {Qd : Hp → Prop} (Pv : Nat → Hp → Prop) (h0 : Pv 0 (upd H1 D (.dK []))) (hl : ∀ i H, i ≤ xs.length → Pv i H → SqL K H a xs)
    (hs : ∀ i x H, xs[i]? = some x → Pv i H → g x (wipe σ vs) H fun σ2 H2 => wipe σ2 vs = wipe σ vs ∧ tt σ2 H2 fun b H3 =>
      if b = true then tk σ2 H3 fun y H4 => tv σ2 H4 fun z H5 => ∃ kvs k, y = kV k ∧ H5 D = some (.dK kvs) ∧ kvs.length < sizeLine ∧ Pv (i + 1) (upd H5 D (.dK (putK kvs k z))) else Pv (i + 1) H3) (hd : ∀ H, Pv xs.length H → Qd H) :
    ∃ W : Nat → Nat → Hp → Prop, (∃ m, W 0 m (upd H1 D (.dK []))) ∧ ∀ i m H, W i m H →
      ((Itl K a).stop i H ∧ Qd H) ∨ ((Itl K a).go i H ∧ ∃ Nx : Hp → Prop, (∀ H', Nx H' → ∃ m', m' < m ∧ W (i + 1) m' H') ∧ ∀ x H', (Itl K a).yld i H x H' → g x (wipe σ vs) H' fun σ2 H2 => wipe σ2 vs = wipe σ vs ∧ tt σ2 H2 fun b H3 =>
        if b = true then tk σ2 H3 fun y H4 => tv σ2 H4 fun z H5 => ∃ kvs k, y = kV k ∧ H5 D = some (.dK kvs) ∧ kvs.length < sizeLine ∧ Nx (upd H5 D (.dK (putK kvs k z))) else Nx H3) := by
  refine ⟨fun i m H => m = xs.length - i ∧ i ≤ xs.length ∧ Pv i H, ⟨xs.length, by simp, Nat.zero_le _, h0⟩, fun i m H w => ?_⟩
  obtain ⟨rfl, hi, p⟩ := w
  have q := hl i H hi p
  by_cases c : i < xs.length
  · refine .inr ⟨⟨xs, xs[i], q, List.getElem?_eq_getElem c⟩, Pv (i + 1), fun H' p' => ⟨xs.length - (i + 1), by omega, rfl, c, p'⟩, fun x H' y => ?_⟩
    obtain ⟨e, y⟩ := y
    subst e
    exact hs i x H' (y xs q) p
  · have e : i = xs.length := by omega
    subst e
    exact .inl ⟨⟨xs, q, Nat.le_refl _⟩, hd H p⟩
def Pdd (H0 : Hp) (D : Addr) (ds : List (Str × Decl)) (i : Nat) (H : Hp) : Prop := Same H0 H ∧ ∃ kvs, H D = some (.dK kvs) ∧ DeclsAt H kvs (ds.take i)
def Pdo (H0 : Hp) (D : Addr) (es : List Door) (i : Nat) (H : Hp) : Prop := Same H0 H ∧ ∃ kvs, H D = some (.dK kvs) ∧ Paired (DoorRow H) kvs (es.take i)
theorem door_keys {H : Hp} : ∀ {kvs : List (Key × V)} {es : List Door}, Paired (DoorRow H) kvs es → kvs.map (·.1) = (es.map (·.1)).map Sum.inr
  | [], [], .nil => rfl
  | p :: kvs, q :: ds, .cons h t => by rw [List.map_cons, List.map_cons, List.map_cons, h.1, door_keys t]
/-- amid the making -/
structure Made (e C dx : Addr) (fs : List (Str × V)) (H G : Hp) : Prop where
  at_ : G e = some (.ins C dx fs)
  kp : Kp H G
  but : KpBut e H G
theorem Made.step {e C dx : Addr} {fs fs' : List (Str × V)} {H G G' : Hp} (m : Made e C dx fs H G) (s : Same G G') : Made e C dx fs' H (upd G' e (.ins C dx fs')) := by
  have h := s _ _ m.at_
  refine ⟨upd_same, (m.kp.trans (Kp.of_same s)).trans (Kp.ins h _), fun b o n z => ?_⟩
  rw [L2.upd_ne n]
  exact s _ _ (m.but b o n z)
section
variable {P : Program} {w : World} {K : PySem.W.Frag} {mg : Str → Option Value} {base : Heap} {f : Addr} {fd : FuncData} {aT aF C : Addr} {kws : List (Str × V)}
theorem ok_init (B : Bn mg) (c : EdC K C) (F : FunD K "__init__" "Edition.__init__" (defArgs s_Edition___init__) (defBody s_Edition___init__) (defScope s_Edition___init__) [] kws f fd) (c_check_lengths : Cal P w K mg base "check_lengths" 1 ["kinds", "doors"] (spChkLen K)) (c_check_kinds : Cal P w K mg base "check_kinds" 9 ["kinds"] (spChkKinds K))
    (c_check_doors : Cal P w K mg base "check_doors" 9 ["kinds", "doors"] (spChkDoors K)) (c_table_above : Cal P w K mg base "table_above" 3 ["declared"] spTable) : FnOk P w K mg base CX0 10 f fd ["self", "kinds", "doors", "number"] (spInit K C) := by
  refine F.ok sc_Edition___init__ (fun vs H Q E h => ?_) (fun cdv A outer s H vs Q E hr h => ?_)
  · obtain ⟨e, dx, l, m, n, ws, zs, us, ds, es, rfl, _⟩ := h
    rfl
  obtain ⟨e, dx, l, m, n, ws, zs, us, ds, es, rfl, he, hl, hw, ok, hm, hz, okd, hn, q⟩ := h
  refine ⟨_, (pss_cons (ps_expr (pc c_check_lengths (hr.mono (by first | decide | omega)) (pa_cons (pv 1) (pa_cons (pv 2) pa_nil))))
    (pss_cons (ps_expr (pc c_check_kinds (hr.mono (by first | decide | omega)) (pa_cons (pv 1) pa_nil)))
    (pss_cons (ps_expr (pc c_check_doors (hr.mono (by first | decide | omega)) (pa_cons (pv 1) (pa_cons (pv 2) pa_nil))))
    (pss_cons (ps_fld (pv 0) (pe_callTy (tupleOf K rfl) (by rfl) B.b_tuple (by decide +kernel) (pa_cons (pv 3) pa_nil)) rfl)
    (pss_cons (ps_fld (pv 0) (pe_callTy (listOf K rfl) (by rfl) B.b_list (by decide +kernel) (pa_cons (pv 1) pa_nil)) rfl)
    (pss_cons (ps_fld (pv 0) (pe_callTy (listOf K rfl) (by rfl) B.b_list (by decide +kernel) (pa_cons (pv 2) pa_nil)) rfl)
    (pss_cons (ps_fld (pv 0) (pe_dc (own := [("name", 4), ("declaration", 5)]) (g := (gTup K 2 (gCons (gName 4) (gCons (gName 5) gNil)))) rfl sc_Edition___init__.nd (piL K rfl (pv 1)) (blkOk_by (N := ["self", "kinds", "doors", "number", "name", "declaration", "door"]) (sc := defScope s_Edition___init__) (by decide +kernel)) (fun _ _ _ _ _ => (pg_tup rfl (pgs_cons (pg_name (i := 4) sc_Edition___init__.nd rfl (Or.inl rfl) (hf := Or.inr rfl)) (pgs_cons (pg_name (i := 5) sc_Edition___init__.nd rfl (Or.inl rfl) (hf := Or.inr rfl)) pgs_nil)))) (fun _ _ _ _ _ => pts_nil) (fun _ _ _ _ _ => (pv 4)) (fun _ _ _ _ _ => (pv 5))) rfl)
    (pss_cons (ps_fld (pv 0) (pe_dc (own := [("door", 6)]) (g := (gName 6)) rfl sc_Edition___init__.nd (piL K rfl (pv 2)) (blkOk_by (N := ["self", "kinds", "doors", "number", "name", "declaration", "door"]) (sc := defScope s_Edition___init__) (by decide +kernel)) (fun _ _ _ _ _ => (pg_name (i := 6) sc_Edition___init__.nd rfl (Or.inl rfl) (hf := Or.inr rfl))) (fun _ _ _ _ _ => pts_nil) (fun _ _ _ _ _ => (pe_ix (ixT K rfl) (pv 6) pe_int (fun _ _ => rfl))) (fun _ _ _ _ _ => (pv 6))) rfl)
    (pss_one (ps_fld (pv 0) (pc c_table_above (hr.mono (by first | decide | omega)) (pa_cons (pe_fld (pv 0) rfl) pa_nil)) rfl)))))))))), ?_⟩
  have lds := ok.len
  have les := okd.len
  have lw : ws.length = ds.length := Paired.length hw
  have lz : zs.length = es.length := Paired.length hz
  refine ⟨_, rfl, _, rfl, l, m, ws, zs, rfl, hl, hm, by omega, by omega, ?_⟩
  refine ⟨_, rfl, l, ws, ds, rfl, hl, hw, ok, fun H1 s1 => ?_⟩
  have T1 := Tups.of_same s1
  refine ⟨_, rfl, _, rfl, l, m, ws, zs, ds, es, rfl, s1.seq hl, Paired.mono (fun _ _ z => z.mono T1) hw, ok, s1.seq hm, Paired.mono (fun _ _ z => z.mono T1) hz, okd, fun H2 s2 => ?_⟩
  have st0 : Made e C dx [] H H2 := ⟨(s1.trans s2) _ _ he, Kp.of_same (s1.trans s2), fun b o _ z => (s1.trans s2) b o z⟩
  refine ⟨_, rfl, n, us, rfl, .inr ⟨st0.kp.sqT hn, ?_⟩⟩
  refine ⟨_, rfl, e, C, dx, _, rfl, st0.at_, c.cl, c.nNum, (by simp), ?_⟩
  have st1 : Made e C dx [("number", .ref n)] H _ := st0.step (Same.refl _) (fs' := putF "number" (.ref n) [])
  generalize upd H2 e (.ins C dx (putF "number" (.ref n) [])) = G1 at st1
  refine ⟨_, rfl, l, ws, rfl, .inl (st1.kp.sqL hl), fun l2 nl2 => ?_⟩
  have sl2 := same_new nl2 (.lst ws)
  have hl2 : (upd G1 l2 (.lst ws)) l2 = some (.lst ws) := upd_same
  generalize upd G1 l2 (.lst ws) = G2 at sl2 hl2
  refine ⟨_, rfl, e, C, dx, _, rfl, sl2 _ _ st1.at_, c.cl, c.nKin, (by simp), ?_⟩
  have st2 : Made e C dx [("number", .ref n), ("_kinds", .ref l2)] H _ := st1.step sl2 (fs' := putF "_kinds" (.ref l2) [("number", .ref n)])
  have kp2 := Kp.ins (sl2 _ _ st1.at_) (.ins C dx (putF "_kinds" (.ref l2) [("number", .ref n)]))
  have hl3 := kp2.lst hl2
  generalize upd G2 e (.ins C dx (putF "_kinds" (.ref l2) [("number", .ref n)])) = G3 at st2 hl3
  clear kp2
  refine ⟨_, rfl, m, zs, rfl, .inl (st2.kp.sqL hm), fun m2 nm2 => ?_⟩
  have sm2 := same_new nm2 (.lst zs)
  have hm2 : (upd G3 m2 (.lst zs)) m2 = some (.lst zs) := upd_same
  have hl4 := sm2 _ _ hl3
  generalize upd G3 m2 (.lst zs) = G4 at sm2 hm2 hl4
  refine ⟨_, rfl, e, C, dx, _, rfl, sm2 _ _ st2.at_, c.cl, c.nDoo, (by simp), ?_⟩
  have st3 : Made e C dx [("number", .ref n), ("_kinds", .ref l2), ("_doors", .ref m2)] H _ := st2.step sm2 (fs' := putF "_doors" (.ref m2) [("number", .ref n), ("_kinds", .ref l2)])
  have kp4 := Kp.ins (sm2 _ _ st2.at_) (.ins C dx (putF "_doors" (.ref m2) [("number", .ref n), ("_kinds", .ref l2)]))
  have hl5 := kp4.lst hl4
  have hm5 := kp4.lst hm2
  generalize upd G4 e (.ins C dx (putF "_doors" (.ref m2) [("number", .ref n), ("_kinds", .ref l2)])) = G5 at st3 hl5 hm5
  clear kp4
  have T5 := st3.kp.tups
  refine ⟨_, rfl, l, rfl, ⟨_, st3.kp.sqL hl⟩, fun D nD => dc_lst (xs := ws) (Pdd G5 D ds) ?_ ?_ ?_ ?_⟩
  · exact ⟨same_new nD _, [], upd_same, .nil⟩
  · exact fun i H3 _ p => p.1.seq (st3.kp.sqL hl)
  · rintro i x H3 hx ⟨s3, kvs, hd, hk⟩
    obtain ⟨p, hp, cc, dv, rfl, hc, hdv⟩ := Paired.at hw i x hx
    have hil : i < ds.length := (List.getElem?_eq_some_iff.mp hp).1
    have lk := Paired.length hk
    have lt := List.length_take_le' i ds
    have hpx : (ds.map (·.1))[i]? = some p.1 := by rw [List.getElem?_map, hp]; rfl
    have hv := valV_keys (decls_keys hk) p.1
    rw [List.map_take, decide_eq_false (nodup_take_not ok.once hpx)] at hv
    have hnone := Option.not_isSome_iff_eq_none.mp (by rw [hv]; decide)
    refine ⟨cc, _, rfl, SqT.of (s3 _ _ (T5 _ _ hc)), rfl, _, _, rfl, _, _, rfl, rfl, rfl, _, rfl, _, rfl, kvs, Sum.inr p.1, rfl, hd, line5 (by omega), Same.atNew s3 nD, _, upd_same, ?_⟩
    rw [putK_new hnone, ← take_next hp]
    have T1 : Tups H3 (upd H3 D (.dK (kvs ++ [(Sum.inr p.1, dv)]))) := tups_updD hd
    exact pair_app (hk.mono T1) (.cons ⟨rfl, (hdv.mono (T5.trans (Tups.of_same s3))).mono T1⟩ .nil)
  rintro G6 ⟨s6, kvs, hD, hk⟩
  rw [lw, List.take_length] at hk
  refine ⟨_, rfl, e, C, dx, _, rfl, s6 _ _ st3.at_, c.cl, c.nDec, (by simp), ?_⟩
  have st4 : Made e C dx [("number", .ref n), ("_kinds", .ref l2), ("_doors", .ref m2), ("_declared", .ref D)] H _ := st3.step s6 (fs' := putF "_declared" (.ref D) [("number", .ref n), ("_kinds", .ref l2), ("_doors", .ref m2)])
  have kp6 := Kp.ins (s6 _ _ st3.at_) (.ins C dx (putF "_declared" (.ref D) [("number", .ref n), ("_kinds", .ref l2), ("_doors", .ref m2)]))
  have hl7 := kp6.lst (s6 _ _ hl5)
  have hm7 := kp6.lst (s6 _ _ hm5)
  have hD7 := kp6.dk hD
  have hk7 := hk.mono kp6.tups
  generalize upd G6 e (.ins C dx (putF "_declared" (.ref D) [("number", .ref n), ("_kinds", .ref l2), ("_doors", .ref m2)])) = G7 at st4 hl7 hm7 hD7 hk7
  clear kp6
  have T7 := st4.kp.tups
  refine ⟨_, rfl, m, rfl, ⟨_, st4.kp.sqL hm⟩, fun D2 nD2 => dc_lst (xs := zs) (Pdo G7 D2 es) ?_ ?_ ?_ ?_⟩
  · exact ⟨same_new nD2 _, [], upd_same, .nil⟩
  · exact fun i H3 _ p => p.1.seq (st4.kp.sqL hm)
  · rintro i x H3 hx ⟨s3, bvs, hd, hb⟩
    obtain ⟨p, hp, hdo⟩ := Paired.at hz i x hx
    have hil : i < es.length := (List.getElem?_eq_some_iff.mp hp).1
    have lk := Paired.length hb
    have lt := List.length_take_le' i es
    have hpx : (es.map (·.1))[i]? = some p.1 := by rw [List.getElem?_map, hp]; rfl
    have hv := valV_keys (door_keys hb) p.1
    rw [List.map_take, decide_eq_false (nodup_take_not okd.once hpx)] at hv
    have hnone := Option.not_isSome_iff_eq_none.mp (by rw [hv]; decide)
    have hdo3 := hdo.mono (T7.trans (Tups.of_same s3))
    obtain ⟨a0, b0, fv0, kv0, rfl, ha0, _⟩ := id hdo3
    refine ⟨rfl, _, rfl, _, _, _, _, rfl, rfl, SqT.of ha0, at_of rfl rfl, _, rfl, bvs, Sum.inr p.1, rfl, hd, line5 (by omega), Same.atNew s3 nD2, _, upd_same, ?_⟩
    rw [putK_new hnone, ← take_next hp]
    have T1 : Tups H3 (upd H3 D2 (.dK (bvs ++ [(Sum.inr p.1, .ref a0)]))) := tups_updD hd
    exact pair_app (Paired.mono (fun _ _ z => z.mono T1) hb) (.cons ⟨rfl, hdo3.mono T1⟩ .nil)
  rintro G8 ⟨s8, bvs, hB, hb⟩
  rw [lz, List.take_length] at hb
  refine ⟨_, rfl, e, C, dx, _, rfl, s8 _ _ st4.at_, c.cl, c.nBy, (by simp), ?_⟩
  have st5 : Made e C dx [("number", .ref n), ("_kinds", .ref l2), ("_doors", .ref m2), ("_declared", .ref D), ("_by_name", .ref D2)] H _ := st4.step s8 (fs' := putF "_by_name" (.ref D2) [("number", .ref n), ("_kinds", .ref l2), ("_doors", .ref m2), ("_declared", .ref D)])
  have kp8 := Kp.ins (s8 _ _ st4.at_) (.ins C dx (putF "_by_name" (.ref D2) [("number", .ref n), ("_kinds", .ref l2), ("_doors", .ref m2), ("_declared", .ref D)]))
  have hl9 := kp8.lst (s8 _ _ hl7)
  have hm9 := kp8.lst (s8 _ _ hm7)
  have hD9 := kp8.dk (s8 _ _ hD7)
  have hB9 := kp8.dk hB
  have hk9 := (hk7.mono (Tups.of_same s8)).mono kp8.tups
  have hb9 := Paired.mono (fun _ _ z => DoorRow.mono kp8.tups z) hb
  generalize upd G8 e (.ins C dx (putF "_by_name" (.ref D2) [("number", .ref n), ("_kinds", .ref l2), ("_doors", .ref m2), ("_declared", .ref D)])) = G9 at st5 hl9 hm9 hD9 hB9 hk9 hb9
  clear kp8
  refine ⟨_, rfl, e, C, dx, _, _, rfl, st5.at_, c.cl, c.nDec, rfl, D, kvs, ds, rfl, hD9, hk9, kinds_few ok, ok.once, fun ta ts G10 nta hta hts s10 => ?_⟩
  refine ⟨_, rfl, e, C, dx, _, rfl, s10 _ _ st5.at_, c.cl, c.nAb, (by simp), ?_⟩
  have st6 : Made e C dx (edFs n l2 m2 D D2 ta) H _ := st5.step s10 (fs' := putF "_above" (.ref ta) [("number", .ref n), ("_kinds", .ref l2), ("_doors", .ref m2), ("_declared", .ref D), ("_by_name", .ref D2)])
  have kp10 := Kp.ins (s10 _ _ st5.at_) (.ins C dx (putF "_above" (.ref ta) [("number", .ref n), ("_kinds", .ref l2), ("_doors", .ref m2), ("_declared", .ref D), ("_by_name", .ref D2)]))
  have T11 := (Tups.of_same s10).trans kp10.tups
  have TH := st6.kp.tups
  refine q _ ⟨dx, n, l2, m2, D, D2, ta, ws, zs, kvs, bvs, ts, st6.at_, st6.kp.sqT hn, kp10.lst (s10 _ _ hl9), Paired.mono (fun _ _ z => z.mono TH) hw, kp10.lst (s10 _ _ hm9), Paired.mono (fun _ _ z => z.mono TH) hz,
    kp10.dk (s10 _ _ hD9), hk9.mono T11, kp10.dk (s10 _ _ hB9), Paired.mono (fun _ _ z => DoorRow.mono T11 z) hb9, kp10.dk hta, Paired.mono (fun _ _ z => TabRow.kp kp10 z) hts⟩ ?_ st6.but
  intro C' dx' n' l' m' da' ba' ta' z
  have z2 := st6.at_.symm.trans z
  have fr : ∀ {G : Hp} {fs : List (Str × V)} {b : Addr}, Made e C dx fs H G → G b = none → H b = none := fun {G fs b} st nb => by
    cases hb : H b with
    | none => rfl
    | some o =>
      have hne : b ≠ e := (ne_of_none st.at_ nb).symm
      have := st.but b o hne hb
      rw [nb] at this
      cases this
  have e1 : l' = l2 ∧ m' = m2 := by
    simp only [edFs, Option.some.injEq, HO.ins.injEq, List.cons.injEq, Prod.mk.injEq, V.ref.injEq] at z2
    exact ⟨z2.2.2.2.1.2.symm, z2.2.2.2.2.1.2.symm⟩
  rw [e1.1, e1.2]
  exact ⟨fr st1 nl2, fr st2 nm2⟩
end
end My
namespace My
open PySem L2
/-! what the law draws is sound -/
theorem flat_calls : ∀ {k : Kd}, k.flat = true → k.subs.filter Kd.isCalls = []
  | .num, _ => rfl
  | .text, _ => rfl
  | .of _, _ => rfl
  | .row k, h => by
    show (Kd.row k :: k.subs).filter Kd.isCalls = []
    rw [List.filter_cons_of_neg (by simp [Kd.isCalls])]
    exact flat_calls (k := k) h
theorem flats_calls : ∀ {ks : List Kd}, ks.all Kd.flat = true → (Kd.subsL ks).filter Kd.isCalls = []
  | [], _ => rfl
  | k :: r, h => by
    rw [List.all_cons, Bool.and_eq_true_iff] at h
    show (k.subs ++ Kd.subsL r).filter Kd.isCalls = []
    rw [List.filter_append, flat_calls h.1, flats_calls h.2]
    rfl
theorem plain_calls : ∀ {k : Kd}, k.plain = true → k.subs.filter Kd.isCalls = [] ∨ ∃ c : Kd, k.subs.filter Kd.isCalls = [c] ∧ c.subs.filter Kd.isCalls = [c] ∧ c.arity ≤ 3
  | .num, _ => .inl rfl
  | .text, _ => .inl rfl
  | .of _, _ => .inl rfl
  | .row k, h => by
    have e : (Kd.row k).subs.filter Kd.isCalls = k.subs.filter Kd.isCalls := by
      show (Kd.row k :: k.subs).filter Kd.isCalls = _
      rw [List.filter_cons_of_neg (by simp [Kd.isCalls])]
    rw [e]
    exact plain_calls (k := k) h
  | .calls ps r, h => by
    have h : (ps.all Kd.flat && r.flat && decide (ps.length ≤ 3)) = true := h
    rw [Bool.and_eq_true_iff, Bool.and_eq_true_iff, decide_eq_true_iff] at h
    have e : (Kd.calls ps r).subs.filter Kd.isCalls = [Kd.calls ps r] := by
      show (Kd.calls ps r :: (Kd.subsL ps ++ r.subs)).filter Kd.isCalls = _
      rw [List.filter_cons_of_pos (by rfl), List.filter_append, flats_calls h.1.1, flat_calls h.1.2]
      rfl
    exact .inr ⟨_, e, e, h.2⟩
/-- a kind that the law draws over these names -/
structure GoodK (nms : List Str) (k : Kd) : Prop where
  plain : k.plain = true
  depth : k.depth ≤ 4
  size : k.size ≤ 20
  names : ∀ x ∈ k.names, x ∈ nms
theorem GoodK.sound {nms : List Str} {k : Kd} (h : GoodK nms k) : k.sound nms = true := by
  have e1 : k.ccc = false := by
    unfold Kd.ccc
    rcases plain_calls h.plain with e | ⟨c, e, e2, _⟩
    · rw [e]
      rfl
    · rw [e, List.any_cons, e2]
      rfl
  have e2 : ((k.subs.filter Kd.isCalls).all fun c => decide (c.arity ≤ 3)) = true := by
    rcases plain_calls h.plain with e | ⟨c, e, _, e2⟩
    · rw [e]
      rfl
    · rw [e, List.all_cons, decide_eq_true e2]
      rfl
  have e3 := (knows_iff (ns := nms) (k := k)).mpr h.names
  unfold Kd.sound
  rw [decide_eq_true h.depth, e1, e2, e3]
  rfl
theorem GoodK.fine {nms : List Str} {k : Kd} (h : GoodK nms k) (hl : ∀ x ∈ nms, LtS x) : k.fine := ⟨by have := h.depth; omega, by have := h.size; omega, fun x hx => (hl x (h.names x hx)).2⟩
theorem str_empty {z : Str} (h : z.length = 0) : z = "" := by
  obtain ⟨a⟩ := z
  have h : a.size = 0 := h
  have e : a = #[] := Array.eq_empty_of_size_eq_zero h
  rw [e]
  rfl
theorem abc_has {c : Nat} (h : 97 ≤ c ∧ c ≤ 122) : c ∈ abc.cps.toList := by
  rw [abc_list]
  exact List.mem_map.mpr ⟨c - 97, List.mem_range.mpr (by omega), by omega⟩
theorem Nm.ok {z : Str} (h : Nm z) : nmOk z = true := by
  obtain ⟨⟨h8, ha⟩, h0, h1, h2⟩ := h
  have e1 : z ∉ (["num", "text"] : List Str) := by simp [h1, h2]
  have e2 : 1 ≤ z.length := by
    apply Nat.one_le_iff_ne_zero.mpr
    intro e
    exact h0 (str_empty e)
  have e3 : (z.cps.toList.all fun c => decide (c ∈ abc.cps.toList)) = true := List.all_eq_true.mpr fun c hc => decide_eq_true (abc_has (ha c hc))
  unfold nmOk
  rw [decide_eq_false e1, decide_eq_true e2, decide_eq_true h8, e3]
  rfl
end My
namespace My
open PySem L2
/-! what a law draws, doors -/
/-- a field or parameter that the law draws -/
structure GoodF (nms : List Str) (fs : List Fld) : Prop where
  len : fs.length ≤ 6
  once : (fs.map (·.1)).Nodup
  nm : ∀ f ∈ fs, Nm f.1
  kd : ∀ f ∈ fs, GoodK nms f.2.1
structure GoodDoor (nms : List Str) (d : Door) : Prop where
  nm : Nm d.1
  fs : GoodF nms d.2.1
  an : GoodK nms d.2.2
theorem Nm.few {z : Str} (h : Nm z) : z.length ≤ 100000 := by
  have := h.1.1
  omega
theorem GoodF.nms {nms : List Str} {fs : List Fld} (h : GoodF nms fs) : nmsOk (fs.map (·.1)) = true := by
  unfold nmsOk
  rw [List.length_map, decide_eq_true h.len, decide_eq_true h.once]
  have e : (fs.map (·.1)).all nmOk = true := List.all_eq_true.mpr fun x hx => by
    obtain ⟨f, hf, rfl⟩ := List.mem_map.mp hx
    exact (h.nm f hf).ok
  rw [e]
  rfl
theorem GoodF.fine {nms : List Str} {fs : List Fld} (h : GoodF nms fs) (hl : ∀ x ∈ nms, LtS x) : fineF fs := fun f hf => (h.kd f hf).fine hl
theorem GoodDoor.ok {nms : List Str} {d : Door} (h : GoodDoor nms d) : doorOk nms d = true := by
  unfold doorOk
  rw [h.nm.ok, h.fs.nms]
  refine List.all_eq_true.mpr fun k hk => ?_
  rcases List.mem_append.mp hk with hk | hk
  · obtain ⟨f, hf, rfl⟩ := List.mem_map.mp hk
    exact (h.fs.kd f hf).sound
  · have e : k = d.2.2 := by simpa using hk
    rw [e]
    exact h.an.sound
theorem GoodDoor.fine {nms : List Str} {d : Door} (h : GoodDoor nms d) (hl : ∀ x ∈ nms, LtS x) : fineDoor d := ⟨h.fs.fine hl, by have := h.fs.len; omega, fun f hf => (h.fs.nm f hf).few, h.an.fine hl, h.nm.few⟩
theorem But.free {d g p : Addr} {H H' : Hp} (b : But d g H H') (h : H' p = none) (n : p ≠ d ∧ p ≠ g) : H p = none := by
  cases e : H p with
  | none => rfl
  | some o =>
    have := b p o n.1 n.2 e
    rw [h] at this
    cases this
theorem pair_drop {α β : Type} {F : α → β → Prop} : ∀ {l₁ : List α} {l₂ : List β} (k : Nat), Paired F l₁ l₂ → Paired F (l₁.drop k) (l₂.drop k)
  | _, _, 0, h => h
  | _, _, _ + 1, .nil => .nil
  | _, _, k + 1, .cons _ t => pair_drop k t
theorem pair_put {α β : Type} {F : α → β → Prop} {l₁ : List α} {l₂ : List β} {x : α} {y : β} (k : Nat) (h : Paired F l₁ l₂) (r : F x y) : Paired F (l₁.take k ++ [x] ++ l₁.drop k) (l₂.take k ++ [y] ++ l₂.drop k) :=
  pair_app (pair_app (pair_take k h) (.cons r .nil)) (pair_drop k h)
theorem mem_put {α : Type} {l : List α} {x a : α} {k : Nat} : a ∈ l.take k ++ [x] ++ l.drop k ↔ a = x ∨ a ∈ l := by
  have e : a ∈ l ↔ a ∈ l.take k ∨ a ∈ l.drop k := by rw [← List.mem_append, List.take_append_drop]
  rw [e]
  simp only [List.mem_append, List.mem_singleton]
  constructor
  · rintro ((h | h) | h)
    · exact .inr (.inl h)
    · exact .inl h
    · exact .inr (.inr h)
  · rintro (h | h | h)
    · exact .inl (.inr h)
    · exact .inl (.inl h)
    · exact .inr h
theorem put_perm {α : Type} {l : List α} {x : α} {k : Nat} : (l.take k ++ [x] ++ l.drop k).Perm (x :: l) := by
  have h : (l.take k ++ [x] ++ l.drop k).Perm ([x] ++ (l.take k ++ l.drop k)) := by
    rw [← List.append_assoc]
    exact List.Perm.append_right _ List.perm_append_comm
  rw [List.take_append_drop] at h
  exact h
theorem goodk_num {nms : List Str} : GoodK nms .num := ⟨rfl, by decide, by decide, fun x h => by simp [Kd.names] at h⟩
theorem goodk_text {nms : List Str} : GoodK nms .text := ⟨rfl, by decide, by decide, fun x h => by simp [Kd.names] at h⟩
theorem KindsOk.nil : KindsOk [] := ⟨by decide, fun p h => by simp at h, fun p h => by simp at h, .nil, fun p h => by simp at h⟩
theorem DoorsOk.of_good {nms : List Str} {es : List Door} (hl : ∀ x ∈ nms, LtS x) (l : es.length ≤ 16) (nd : (es.map (·.1)).Nodup) (g : ∀ e ∈ es, GoodDoor nms e) : DoorsOk nms es := ⟨l, fun e h => (g e h).fine hl, nd, fun e h => (g e h).ok⟩
end My
namespace My
open PySem L2
/-! the tray of draws -/
structure TrayP (H : Hp) (d g : Addr) (ns : List Int) (cur fold k n : Int) : Prop where
  d : H d = some (.lst [.ref g, .int cur, .int fold, .int k])
  g : H g = some (.lst (ns.map V.int))
  pos : ∀ x ∈ ns, 0 ≤ x
  c0 : 0 ≤ cur
  f0 : 0 ≤ fold
  f1 : fold < 2305843009213693951
  k0 : 0 ≤ k
  k1 : k ≤ n
def Tray (H : Hp) (d g : Addr) (n : Int) : Prop := ∃ ns cur fold k, TrayP H d g ns cur fold k n
theorem TrayP.ne {H : Hp} {d g : Addr} {ns : List Int} {cur fold k n : Int} (D : TrayP H d g ns cur fold k n) : d ≠ g := by
  refine ne_of D.d D.g fun e => ?_
  injection e with e
  cases ns with
  | nil => cases e
  | cons x r => rw [List.map_cons] at e; cases e
theorem TrayP.same {H H' : Hp} {d g : Addr} {ns : List Int} {cur fold k n : Int} (D : TrayP H d g ns cur fold k n) (s : Same H H') : TrayP H' d g ns cur fold k n :=
  ⟨s _ _ D.d, s _ _ D.g, D.pos, D.c0, D.f0, D.f1, D.k0, D.k1⟩
theorem TrayP.new {H : Hp} {d g p : Addr} {ns : List Int} {cur fold k n : Int} {o : HO} (D : TrayP H d g ns cur fold k n) (hp : H p = none) : TrayP (upd H p o) d g ns cur fold k n := D.same (same_new hp o)
theorem Tray.same {H H' : Hp} {d g : Addr} {n : Int} (D : Tray H d g n) (s : Same H H') : Tray H' d g n := by
  obtain ⟨ns, cur, fold, k, D⟩ := D
  exact ⟨ns, cur, fold, k, D.same s⟩
theorem Tray.new {H : Hp} {d g p : Addr} {n : Int} {o : HO} (D : Tray H d g n) (hp : H p = none) : Tray (upd H p o) d g n := D.same (same_new hp o)
theorem Tray.le {H : Hp} {d g : Addr} {n m : Int} (D : Tray H d g n) (h : n ≤ m) : Tray H d g m := by
  obtain ⟨ns, cur, fold, k, D⟩ := D
  exact ⟨ns, cur, fold, k, D.d, D.g, D.pos, D.c0, D.f0, D.f1, D.k0, Int.le_trans D.k1 h⟩
theorem Tray.tups {H H' : Hp} {d g : Addr} {n : Int} (D : Tray H d g n) (b : But d g H H') : Tups H H' := by
  obtain ⟨ns, cur, fold, k, D⟩ := D
  exact fun a xs e => b a _ (ne_of e D.d (by intro z; cases z)) (ne_of e D.g (by intro z; cases z)) e
theorem Tray.ne {H : Hp} {d g p : Addr} {n : Int} (D : Tray H d g n) (h : H p = none) : p ≠ d ∧ p ≠ g := by
  obtain ⟨ns, cur, fold, k, D⟩ := D
  exact ⟨(ne_of_none D.d h).symm, (ne_of_none D.g h).symm⟩
theorem Tray.at {H : Hp} {d g p : Addr} {n : Int} {o : HO} (D : Tray H d g n) (h1 : p ≠ d) (h2 : p ≠ g) : Tray (upd H p o) d g n := by
  obtain ⟨ns, cur, fold, k, D⟩ := D
  exact ⟨ns, cur, fold, k, by rw [upd_ne h1.symm]; exact D.d, by rw [upd_ne h2.symm]; exact D.g, D.pos, D.c0, D.f0, D.f1, D.k0, D.k1⟩
/-- _law_tray -/
def spTray (K : PySem.W.Frag) : Sp := fun vs H Q _ => ∃ (a : Addr) (ns : List Int), vs = [.ref a] ∧ SqL K H a (ns.map V.int) ∧ ns.length ≤ 63 ∧
  ∀ (d g : Addr) (H' : Hp), H d = none → H g = none → Tray H' d g 0 → Same H H' → Q (.ref d) H'
def Ptray (a g : Addr) (H0 : Hp) (i : Nat) (σ : St) (H : Hp) : Prop :=
  ∃ (gs : List Int) (fold : Int) (u1 u2 : Option V), σ = [some (.ref a), some (.int fold), some (.ref g), u1, u2] ∧ H0 g = none ∧ H g = some (.lst (gs.map V.int)) ∧ gs.length ≤ i ∧
    (∀ x ∈ gs, 0 ≤ x) ∧ 0 ≤ fold ∧ fold < 2305843009213693951 ∧ Same H0 H
/-- _law_draw -/
def spDraw : Sp := fun vs H Q _ => ∃ (d g : Addr) (many n : Int), vs = [.ref d, .int many] ∧ Tray H d g n ∧ 0 < many ∧ many ≤ 1000000000000000000 ∧ n ≤ 1000000 ∧
  ∀ (r : Int) (H' : Hp), 0 ≤ r → r < many → Tray H' d g (n + 1) → But d g H H' → Q (.int r) H'
def Wdraw (d g : Addr) (many n : Int) (H0 : Hp) (m : Nat) (σ : St) (H : Hp) : Prop :=
  σ = [some (.ref d), some (.int many), none, none] ∧ ∃ ns cur fold k, TrayP H d g ns cur fold k n ∧ But d g H0 H ∧ m = ns.length
theorem seq0 {α : Type} {x : α} {r : List α} : seqIndex? 0 (x :: r).length = some 0 := (ixN_seq (n := (x :: r).length) (i := 0) (by
  unfold ixN
  rw [if_pos (by decide), if_pos (by rw [List.length_cons]; omega)]
  rfl)).1
theorem pow61 : (2 : Int) ^ (61 : Int).toNat - 1 = 2305843009213693951 := by decide
theorem pow18 : (10 : Int) ^ (18 : Int).toNat = 1000000000000000000 := by decide
section
variable {P : Program} {w : World} {K : PySem.W.Frag} {mg : Str → Option Value} {base : Heap} {f : Addr} {fd : FuncData}
theorem ok_tray (B : Bn mg) (F : Fun K "_law_tray" "_law_tray" s__law_tray f fd) : FnOk P w K mg base CX0 1 f fd ["script"] (spTray K) := by
  refine F.ok sc__law_tray (fun vs H Q E h => ?_) (fun cdv A outer s H vs Q E hr h => ?_)
  · obtain ⟨a, ns, rfl, _⟩ := h
    rfl
  obtain ⟨a, ns, rfl, hS, h63, q⟩ := h
  refine ⟨_, (pss_cons (ps_set (i := 1) sc__law_tray.nd rfl (Or.inl rfl) pe_int)
    (pss_cons (ps_set (i := 2) sc__law_tray.nd rfl (Or.inl rfl) (pe_lst pa_nil))
    (pss_cons (ps_for PassesOwn.never rfl (piL K rfl (pv 0)) (pg_name (i := 3) sc__law_tray.nd rfl (Or.inl rfl)) (pss_cons (ps_set (i := 1) sc__law_tray.nd rfl (Or.inl rfl) (pe_op op_mod (pe_op op_add (pe_op op_mul (pv 1) pe_int) (pv 3)) (pe_op op_sub (pe_op op_pow pe_int pe_int) pe_int)))
    (pss_cons (ps_set (i := 4) sc__law_tray.nd rfl (Or.inl rfl) (pe_callB (call_max2 rfl) (by rfl) B.b_max (by decide +kernel) (pa_cons (pv 3) (pa_cons (pe_op op_sub pe_int (pv 3)) pa_nil))))
    (pss_one (ps_if (pt_cmpR op_ge (pv 4) (pe_op op_pow pe_int pe_int) (nomark _)) (pss_one (ps_expr (pe_bm PySem.F.plainAttrs_list PySem.F.slot_list_append PySem.F.type_list_append mt_append (pv 2) (pa_cons (pe_op op_sub (pv 4) (pe_op op_pow pe_int pe_int)) pa_nil)))) pss_nil)))))
    (pss_one (ps_ret (pe_lst (pa_cons (pv 2) (pa_cons pe_int (pa_cons (pv 1) (pa_cons pe_int pa_nil)))))))))), ?_⟩
  refine ⟨Nat.zero_le _, fun g hg => ?_⟩
  refine ⟨_, rfl, a, rfl, ⟨_, (same_new hg _).seq hS⟩, for_list (xs := ns.map V.int) (Ptray a g H) ?_ ?_ ?_ ?_⟩
  · exact ⟨[], 314159265358979, none, none, rfl, hg, upd_same, Nat.le_refl _, fun x hx => by simp at hx, by decide, by decide, same_new hg _⟩
  · rintro i σ H1 _ ⟨gs, fold, u1, u2, rfl, h0, h1, h2, h3, h4, h5, h6⟩
    exact h6.seq hS
  · rintro i x σ H1 hx ⟨gs, fold, u1, u2, rfl, h0, h1, h2, h3, h4, h5, h6⟩
    rw [List.getElem?_map] at hx
    obtain ⟨c, hc, rfl⟩ := Option.map_eq_some_iff.mp hx
    have hi : i < ns.length := (List.getElem?_eq_some_iff.mp hc).1
    have f0 : 0 ≤ (fold * 1000003 + c) % 2305843009213693951 := Int.emod_nonneg _ (by decide)
    have f1 : (fold * 1000003 + c) % 2305843009213693951 < 2305843009213693951 := Int.emod_lt_of_pos _ (by decide)
    refine ⟨_, rfl, _, _, rfl, rfl, .inl ⟨by omega, by omega⟩, _, rfl, _, _, rfl, rfl, _, _, rfl, rfl, ⟨by decide, by decide, by decide⟩, _, _, rfl, rfl, _, _, rfl, rfl,
      (show (0 : Int) < (2 : Int) ^ (61 : Int).toNat - 1 by decide), ?_⟩
    rw [pow61]
    refine ⟨_, rfl, _, rfl, _, _, rfl, rfl, c, 0 - c, rfl, ?_⟩
    have emax : ∃ mx : Int, (if 0 - c > c then 0 - c else c) = mx := ⟨_, rfl⟩
    obtain ⟨mx, emax⟩ := emax
    rw [emax]
    refine ⟨_, rfl, _, _, rfl, rfl, ⟨by decide, by decide, by decide⟩, _, _, rfl, rfl, _, rfl, ?_⟩
    rw [pow18]
    refine ite2 (fun hc1 => ?_) (fun hc1 => ?_)
    · refine ⟨_, rfl, tyL h1, _, rfl, _, _, rfl, rfl, ⟨by decide, by decide, by decide⟩, _, _, rfl, rfl, g, _, _, rfl, rfl, h1, ?_, ?_⟩
      · rw [List.length_map]
        exact small1000 (by omega)
      · have hc2 := of_decide_eq_true hc1
        refine ⟨gs ++ [mx - (10 : Int) ^ (18 : Int).toNat], _, _, _, rfl, h0, ?_, ?_, ?_, f0, f1, Same.atNew h6 h0⟩
        · rw [upd_same, List.map_append]
          rfl
        · rw [List.length_append, List.length_singleton]
          omega
        · intro y hy
          rw [pow18] at hy
          rcases List.mem_append.mp hy with hy | hy
          · exact h3 y hy
          · have : y = mx - 1000000000000000000 := by simpa using hy
            omega
    · exact ⟨gs, _, _, _, rfl, h0, h1, by omega, h3, f0, f1, h6⟩
  · rintro σ H1 ⟨gs, fold, u1, u2, rfl, h0, h1, h2, h3, h4, h5, h6⟩
    refine ⟨_, rfl, _, rfl, by show 4 ≤ sizeLine; decide, fun d hd => ?_⟩
    exact q d g _ (h6.free hd) h0 ⟨gs, 0, fold, 0, upd_same, by rw [upd_ne (ne_of_none h1 hd)]; exact h1, h3, Int.le_refl _, h4, h5, Int.le_refl _, Int.le_refl _⟩ (h6.trans (same_new hd _))
theorem ok_draw (F : Fun K "_law_draw" "_law_draw" s__law_draw f fd) : FnOk P w K mg base CX0 1 f fd ["tray", "many"] spDraw := by
  refine F.ok sc__law_draw (fun vs H Q E h => ?_) (fun cdv A outer s H vs Q E hr h => ?_)
  · obtain ⟨d, g, many, n, rfl, _⟩ := h
    rfl
  obtain ⟨d, g, many, n, rfl, D, h0, h1, h2, q⟩ := h
  refine ⟨_, (pss_cons (ps_while PassesOwn.never (PW.pt (pw_and (pt_cmpR op_lt (pe_ix (ixL K rfl) (pv 0) pe_int (fun _ _ => rfl)) pe_int (nomark _)) (pw_and1 (pt_cmpR (neD K rfl hr.units) (pe_ix (ixL K rfl) (pv 0) pe_int (fun _ _ => rfl)) (pe_lst pa_nil) (nomark _))))) (pss_one (ps_asg (pe_bm PySem.F.plainAttrs_list PySem.F.slot_list_pop PySem.F.type_list_pop mt_popAt (pe_ix (ixL K rfl) (pv 0) pe_int (fun _ _ => rfl)) (pa_cons pe_int pa_nil)) (pg_sub (pv 0) pe_int set_list))))
    (pss_cons (ps_if (pt_cmpR op_ge (pe_ix (ixL K rfl) (pv 0) pe_int (fun _ _ => rfl)) pe_int (nomark _)) (pss_cons (ps_set (i := 3) sc__law_draw.nd rfl (Or.inl rfl) (pe_op op_mod (pe_ix (ixL K rfl) (pv 0) pe_int (fun _ _ => rfl)) (pv 1)))
    (pss_cons (ps_asg (pe_op op_fdivW (pe_ix (ixL K rfl) (pv 0) pe_int (fun _ _ => rfl)) (pv 1)) (pg_sub (pv 0) pe_int set_list))
    (pss_one (ps_ret (pv 3))))) pss_nil)
    (pss_cons (ps_asg (pe_op op_add (pe_ix (ixL K rfl) (pv 0) pe_int (fun _ _ => rfl)) pe_int) (pg_sub (pv 0) pe_int set_list))
    (pss_cons (ps_set (i := 2) sc__law_draw.nd rfl (Or.inl rfl) (pe_op op_mod (pe_op op_add (pe_op op_mul (pe_op op_add (pe_ix (ixL K rfl) (pv 0) pe_int (fun _ _ => rfl)) pe_int) (pe_op op_pow (pe_op op_add (pe_ix (ixL K rfl) (pv 0) pe_int (fun _ _ => rfl)) pe_int) pe_int)) (pe_op op_mul pe_int (pe_ix (ixL K rfl) (pv 0) pe_int (fun _ _ => rfl)))) (pe_op op_sub (pe_op op_pow pe_int pe_int) pe_int)))
    (pss_one (ps_ret (pe_op op_mod (pe_op op_fdiv (pe_op op_mod (pe_op op_pow (pv 2) pe_int) (pe_op op_add (pe_op op_pow pe_int pe_int) pe_int)) pe_int) (pv 1)))))))), ?_⟩
  obtain ⟨ns0, cur0, fold0, k0, D0⟩ := D
  refine seq_abs (fun σ' H' => ∃ m, Wdraw d g many n H m σ' H') (fun σ1 H1 w1 => ?_) (fun nx hnx => ?_)
  · obtain ⟨_, rfl, ns, cur, fold, k, D1, B1, _⟩ := w1
    refine ⟨_, rfl, _, _, _, _, rfl, rfl, SqL.of D1.d, by rfl, _, _, rfl, rfl, _, rfl, ite2 (fun c => ?_) (fun c => ?_)⟩
    · refine ⟨_, rfl, _, _, _, _, rfl, rfl, SqL.of D1.d, by rfl, _, rfl, _, _, rfl, rfl, h0, ?_⟩
      refine ⟨_, rfl, _, _, _, _, rfl, rfl, SqL.of D1.d, by rfl, _, rfl, _, _, rfl, rfl, wide_div (b := 60) h0 (by omega) (by decide) (by decide), _, rfl, _, _, _, 1, rfl, rfl, D1.d, by rfl, _, rfl, ?_⟩
      exact q _ _ (Int.emod_nonneg _ (by omega)) (Int.emod_lt_of_pos _ h0) ⟨ns, cur / many, fold, k, upd_same, by rw [upd_ne D1.ne.symm]; exact D1.g, D1.pos, Int.ediv_nonneg D1.c0 (by omega), D1.f0, D1.f1, D1.k0, by have := D1.k1; omega⟩ B1.atD
    have e0 := D1.k0
    have e1 := D1.k1
    have e2 := D1.f0
    have e3 := D1.f1
    refine ⟨_, rfl, _, _, _, _, rfl, rfl, SqL.of D1.d, by rfl, _, _, rfl, rfl, _, rfl, _, _, _, 3, rfl, rfl, D1.d, by rfl, ?_⟩
    have hd : (upd H1 d (.lst ([V.ref g, V.int cur, V.int fold, V.int k].set 3 (V.int (k + 1))))) d = some (.lst [V.ref g, V.int cur, V.int fold, V.int (k + 1)]) := upd_same
    have D2 : TrayP (upd H1 d (.lst ([V.ref g, V.int cur, V.int fold, V.int k].set 3 (V.int (k + 1))))) d g ns cur fold (k + 1) (n + 1) := ⟨hd, by rw [upd_ne D1.ne.symm]; exact D1.g, D1.pos, D1.c0, e2, e3, by omega, by omega⟩
    have B2 : But d g H (upd H1 d (.lst ([V.ref g, V.int cur, V.int fold, V.int k].set 3 (V.int (k + 1))))) := B1.atD
    refine ⟨_, rfl, _, _, _, _, rfl, rfl, SqL.of hd, by rfl, _, _, rfl, rfl, ?_⟩
    refine ⟨_, rfl, _, _, _, _, rfl, rfl, SqL.of hd, by rfl, _, _, rfl, rfl, _, _, rfl, rfl, ⟨by decide, by decide, by show (k + 1 + 2 : Int).natAbs < 2 ^ 64; omega⟩, _, _, rfl, rfl, .inl ⟨?_, ?_⟩, ?_⟩
    · show -(2 ^ 64) < fold + 5
      omega
    · show fold + 5 < 2 ^ 64
      omega
    refine ⟨_, rfl, _, _, _, _, rfl, rfl, SqL.of hd, by rfl, _, _, rfl, rfl, .inl ⟨by decide, by decide⟩, _, _, rfl, rfl, _, _, rfl, rfl, ⟨by decide, by decide, by decide⟩, _, _, rfl, rfl, _, _, rfl, rfl,
      (show (0 : Int) < (2 : Int) ^ (61 : Int).toNat - 1 by decide), ?_⟩
    rw [pow61]
    generalize hz : ((fold + 5) * (k + 1 + 2) ^ (3 : Int).toNat + 1000003 * (k + 1)) % 2305843009213693951 = z
    have z0 : 0 ≤ z := by rw [← hz]; exact Int.emod_nonneg _ (by decide)
    have z1 : z < 2305843009213693951 := by rw [← hz]; exact Int.emod_lt_of_pos _ (by decide)
    refine ⟨_, rfl, _, _, rfl, rfl, ⟨by decide, by decide, by omega⟩, _, _, rfl, rfl, ⟨by decide, by decide, by decide⟩, _, _, rfl, rfl, _, _, rfl, rfl, (show (0 : Int) < (10 : Int) ^ (18 : Int).toNat + 9 by decide), _, _, rfl, rfl, ⟨by decide, by decide⟩, _, rfl, _, _, rfl, rfl, h0, ?_⟩
    exact q _ _ (Int.emod_nonneg _ (by omega)) (Int.emod_lt_of_pos _ h0) ⟨_, _, _, _, D2⟩ B2
  refine ⟨Wdraw d g many n H, ⟨ns0.length, rfl, ns0, cur0, fold0, k0, D0, But.refl _ _ _, rfl⟩, fun m σ H1 w1 => ?_⟩
  obtain ⟨rfl, ns, cur, fold, k, D1, B1, rfl⟩ := w1
  refine ⟨_, rfl, _, _, _, _, rfl, rfl, SqL.of D1.d, by rfl, _, _, rfl, rfl, _, rfl, ite2 (fun c => ?_) (fun c => ?_)⟩
  · refine ⟨_, rfl, _, _, _, _, rfl, rfl, SqL.of D1.d, by rfl, Nat.zero_le _, fun p hp => ?_⟩
    have D2 := D1.new (o := .lst []) hp
    have B2 := B1.new (o := .lst []) hp
    refine ⟨.list (ns.map PyData.int), .list [], .lst (SqL.of D2.g) (dp_ints ns), .lst (SqL.of upd_same) .nil, shaped_ints ns, rfl, _, rfl, ?_⟩
    rw [eqv_nil]
    generalize upd H1 p (.lst []) = H2 at D2 B2
    clear D1 B1 hp
    cases ns with
    | nil => exact iteF (hnx _ _ ⟨0, rfl, [], cur, fold, k, D2, B2, rfl⟩)
    | cons x r =>
      refine iteT ?_
      refine ⟨fun σ' H' => ∃ m', m' < (x :: r).length ∧ Wdraw d g many n H m' σ' H', fun _ _ h => h, ?_⟩
      refine ⟨_, rfl, _, _, _, _, rfl, rfl, SqL.of D2.d, by rfl, tyL D2.g, g, _, 0, 0, .int x, rfl, rfl, D2.g, by decide, by decide, seq0, rfl, ?_⟩
      refine ⟨_, rfl, _, _, _, 1, rfl, rfl, (by rw [upd_ne D2.ne]; exact D2.d), by rfl, ?_⟩
      refine ⟨r.length, by simp, rfl, r, x, fold, k, ?_, B2.atG.atD, rfl⟩
      exact ⟨upd_same, by rw [upd_ne D2.ne.symm, upd_same]; rfl, fun y hy => D2.pos y (by simp [hy]), D2.pos x (by simp), D2.f0, D2.f1, D2.k0, D2.k1⟩
  · exact iteF (hnx _ _ ⟨_, rfl, ns, cur, fold, k, D1, B1, rfl⟩)
end
end My
namespace My
open PySem L2
/-- _law_name -/
def spName : Sp := fun vs H Q _ => ∃ (d g u : Addr) (n : Int) (us : List Str), vs = [.ref d, .ref u] ∧ Tray H d g n ∧ n ≤ 900000 ∧ u ≠ d ∧ u ≠ g ∧ H u = some (.lst (us.map V.str)) ∧ us.length ≤ 22 ∧ (∀ x ∈ us, LtS x) ∧
  ∀ (z : Str) (H' : Hp), Nm z → z ∉ us → Tray H' d g (n + 20) → But d g H H' → Q (.str z) H'
def Plet (d g D8 : Addr) (n : Int) (H0 : Hp) (i : Nat) (H : Hp) : Prop := But d g H0 H ∧ Tray H d g (n + (i : Int)) ∧ ∃ ys : List Str, H D8 = some (.lst (ys.map V.str)) ∧ ys.length = i ∧ (∀ y ∈ ys, LtA y ∧ y.length = 1)
def Pkeep (H0 : Hp) (D8 : Addr) (us ss : List Str) (i : Nat) (H : Hp) : Prop := Same H0 H ∧ H D8 = some (.lst (((ss.take i).filter (keepN us)).map V.str))
abbrev hints : List Str := ["under", "record", "door", "choice", "hidden", "look", "one", "new", "as", "ask", "none", "ok"]
theorem hints_ok : ∀ x ∈ hints, LtS x := by
  intro x hx
  have : (x.length ≤ 8 ∧ x.cps.toList.all fun c => decide (97 ≤ c ∧ c ≤ 122)) := by
    simp only [hints, List.mem_cons, List.mem_nil_iff, or_false] at hx
    rcases hx with rfl | rfl | rfl | rfl | rfl | rfl | rfl | rfl | rfl | rfl | rfl | rfl <;> decide +kernel
  refine ⟨this.1, fun c hc => ?_⟩
  have := List.all_eq_true.mp this.2 c hc
  exact of_decide_eq_true this
theorem mul3 (c : Nat) : Txt.mul ⟨#[c]⟩ 3 = ⟨#[c, c, c]⟩ := rfl
theorem mul5 (c : Nat) : Txt.mul ⟨#[c]⟩ 5 = ⟨#[c, c, c, c, c]⟩ := rfl
def one2 (k : Nat) : Str := ⟨#[97 + k]⟩ ++ ⟨#[97 + (25 - k)]⟩
def one3 (k : Nat) : Str := Txt.mul ⟨#[97 + k]⟩ 3
def one5 (k : Nat) : Str := Txt.mul ⟨#[97 + k]⟩ 5
theorem ones_ok {k : Nat} (h : k < 26) : LtS (one1 k) ∧ LtS (one2 k) ∧ LtS (one3 k) ∧ LtS (one5 k) := by
  refine ⟨⟨by show 1 ≤ 8; decide, LtA.one (by omega) (by omega)⟩, ⟨by show 2 ≤ 8; decide, (LtA.one (by omega) (by omega)).app (LtA.one (by omega) (by omega))⟩, ⟨by show 3 ≤ 8; decide, fun c hc => ?_⟩, ⟨by show 5 ≤ 8; decide, fun c hc => ?_⟩⟩
  · unfold one3 at hc
    rw [mul3] at hc
    simp at hc
    omega
  · unfold one5 at hc
    rw [mul5] at hc
    simp at hc
    omega
abbrev allSome (nm : Str) : List Str := (((([nm] ++ (List.range 26).map one1) ++ (List.range 26).map one2) ++ (List.range 26).map one3) ++ (List.range 26).map one5)
section
variable {P : Program} {w : World} {K : PySem.W.Frag} {mg : Str → Option Value} {base : Heap} {f : Addr} {fd : FuncData}
theorem ok_name (B : Bn mg) (F : Fun K "_law_name" "_law_name" s__law_name f fd) (c__law_draw : Cal P w K mg base "_law_draw" 1 ["tray", "many"] spDraw) : FnOk P w K mg base CX0 2 f fd ["tray", "used"] spName := by
  refine F.ok sc__law_name (fun vs H Q E h => ?_) (fun cdv A outer s H vs Q E hr h => ?_)
  · obtain ⟨d, g, u, n, us, rfl, _⟩ := h
    rfl
  obtain ⟨d, g, u, n, us, rfl, D, hn, nd, ng, hu, h22, hus, q⟩ := h
  refine ⟨_, (pss_cons (ps_set (i := 2) sc__law_name.nd rfl (Or.inr rfl) pe_str)
    (pss_cons (ps_set (i := 3) sc__law_name.nd rfl (Or.inl rfl) (pc c__law_draw (hr.mono (by first | decide | omega)) (pa_cons (pv 0) (pa_cons pe_int pa_nil))))
    (pss_cons (ps_set (i := 4) sc__law_name.nd rfl (Or.inl rfl) (pe_ix ix_str (pv 2) (pc c__law_draw (hr.mono (by first | decide | omega)) (pa_cons (pv 0) (pa_cons pe_int pa_nil))) (fun _ _ => rfl)))
    (pss_cons (ps_set (i := 5) sc__law_name.nd rfl (Or.inl rfl) (pe_join pe_str (pe_lc (own := [("k", 10)]) (g := (gName 10)) rfl sc__law_name.nd (pi_range1 rfl B.b_range (pa_cons (pe_op op_add pe_int (pc c__law_draw (hr.mono (by first | decide | omega)) (pa_cons (pv 0) (pa_cons pe_int pa_nil)))) pa_nil)) (blkOk_by (N := ["tray", "used", "letters", "way", "letter", "name", "some", "words", "old", "at", "k", "one"]) (sc := defScope s__law_name) (by decide +kernel)) (fun _ _ _ _ _ => (pg_name (i := 10) sc__law_name.nd rfl (Or.inl rfl) (hf := Or.inr rfl))) (fun _ _ _ _ _ => pts_nil) (fun _ _ _ _ _ => (pe_ix ix_str (pv 2) (pc c__law_draw (hr.mono (by first | decide | omega)) (pa_cons (pv 0) (pa_cons pe_int pa_nil))) (fun _ _ => rfl))))))
    (pss_cons (ps_if (pt_cmpR op_eq (pv 3) pe_int (nomark _)) (pss_cons (ps_set (i := 7) sc__law_name.nd rfl (Or.inl rfl) (pe_lst (pa_cons pe_str (pa_cons pe_str (pa_cons pe_str (pa_cons pe_str (pa_cons pe_str (pa_cons pe_str (pa_cons pe_str (pa_cons pe_str (pa_cons pe_str (pa_cons pe_str (pa_cons pe_str (pa_cons pe_str pa_nil))))))))))))))
    (pss_one (ps_set (i := 5) sc__law_name.nd rfl (Or.inl rfl) (pe_ix (ixL K rfl) (pv 7) (pc c__law_draw (hr.mono (by first | decide | omega)) (pa_cons (pv 0) (pa_cons pe_int pa_nil))) (fun _ _ => rfl))))) (pss_one (ps_if (PW.pt (pw_and (pt_cmpR op_gt (pv 3) pe_int (nomark _)) (pw_and1 (pt_cmpR (neD K rfl hr.units) (pv 1) (pe_lst pa_nil) (nomark _))))) (pss_cons (ps_set (i := 8) sc__law_name.nd rfl (Or.inl rfl) (pe_ix (ixL K rfl) (pv 1) (pc c__law_draw (hr.mono (by first | decide | omega)) (pa_cons (pv 0) (pa_cons (pe_callB (lenSeq K rfl) (by rfl) B.b_len PySem.boot_len (pa_cons (pv 1) pa_nil)) pa_nil))) (fun _ _ => rfl)))
    (pss_cons (ps_set (i := 9) sc__law_name.nd rfl (Or.inl rfl) (pc c__law_draw (hr.mono (by first | decide | omega)) (pa_cons (pv 0) (pa_cons (pe_op op_add (pe_callB call_len_str (by rfl) B.b_len PySem.boot_len (pa_cons (pv 8) pa_nil)) pe_int) pa_nil))))
    (pss_one (ps_set (i := 5) sc__law_name.nd rfl (Or.inl rfl) (pe_slice sl_str (pe_op op_add_str (pe_op op_add_str (pe_slice sl_str (pv 8) po_none (po_some (pv 9))) (pe_ix (ixL K rfl) (pe_lst (pa_cons (pv 4) (pa_cons (pv 4) (pa_cons pe_str pa_nil)))) (pe_op op_sub (pv 3) pe_int) (fun _ _ => rfl))) (pe_slice sl_str (pv 8) (po_some (pe_op op_add (pv 9) (pe_ix (ixL K rfl) (pe_lst (pa_cons pe_int (pa_cons pe_int (pa_cons pe_int pa_nil)))) (pe_op op_sub (pv 3) pe_int) (fun _ _ => rfl)))) po_none)) po_none (po_some pe_int)))))) pss_nil)))
    (pss_cons (ps_set (i := 6) sc__law_name.nd rfl (Or.inl rfl) (pe_op op_cat (pe_op op_cat (pe_lst (pa_cons (pv 5) pa_nil)) (pe_lc (own := [("k", 10)]) (g := (gName 10)) rfl sc__law_name.nd (pi_range1 rfl B.b_range (pa_cons pe_int pa_nil)) (blkOk_by (N := ["tray", "used", "letters", "way", "letter", "name", "some", "words", "old", "at", "k", "one"]) (sc := defScope s__law_name) (by decide +kernel)) (fun _ _ _ _ _ => (pg_name (i := 10) sc__law_name.nd rfl (Or.inl rfl) (hf := Or.inr rfl))) (fun _ _ _ _ _ => pts_nil) (fun _ _ _ _ _ => (pe_ix ix_str (pv 2) (pv 10) (fun _ _ => rfl))))) (pe_lc (own := [("k", 10)]) (g := (gName 10)) rfl sc__law_name.nd (pi_range1 rfl B.b_range (pa_cons pe_int pa_nil)) (blkOk_by (N := ["tray", "used", "letters", "way", "letter", "name", "some", "words", "old", "at", "k", "one"]) (sc := defScope s__law_name) (by decide +kernel)) (fun _ _ _ _ _ => (pg_name (i := 10) sc__law_name.nd rfl (Or.inl rfl) (hf := Or.inr rfl))) (fun _ _ _ _ _ => pts_nil) (fun _ _ _ _ _ => (pe_op op_add_str (pe_ix ix_str (pv 2) (pv 10) (fun _ _ => rfl)) (pe_ix ix_str (pv 2) (pe_op op_sub pe_int (pv 10)) (fun _ _ => rfl)))))))
    (pss_cons (ps_set (i := 6) sc__law_name.nd rfl (Or.inl rfl) (pe_op op_cat (pe_op op_cat (pv 6) (pe_lc (own := [("k", 10)]) (g := (gName 10)) rfl sc__law_name.nd (pi_range1 rfl B.b_range (pa_cons pe_int pa_nil)) (blkOk_by (N := ["tray", "used", "letters", "way", "letter", "name", "some", "words", "old", "at", "k", "one"]) (sc := defScope s__law_name) (by decide +kernel)) (fun _ _ _ _ _ => (pg_name (i := 10) sc__law_name.nd rfl (Or.inl rfl) (hf := Or.inr rfl))) (fun _ _ _ _ _ => pts_nil) (fun _ _ _ _ _ => (pe_op op_mul_str (pe_ix ix_str (pv 2) (pv 10) (fun _ _ => rfl)) pe_int)))) (pe_lc (own := [("k", 10)]) (g := (gName 10)) rfl sc__law_name.nd (pi_range1 rfl B.b_range (pa_cons pe_int pa_nil)) (blkOk_by (N := ["tray", "used", "letters", "way", "letter", "name", "some", "words", "old", "at", "k", "one"]) (sc := defScope s__law_name) (by decide +kernel)) (fun _ _ _ _ _ => (pg_name (i := 10) sc__law_name.nd rfl (Or.inl rfl) (hf := Or.inr rfl))) (fun _ _ _ _ _ => pts_nil) (fun _ _ _ _ _ => (pe_op op_mul_str (pe_ix ix_str (pv 2) (pv 10) (fun _ _ => rfl)) pe_int)))))
    (pss_one (ps_ret (pe_ix (ixL K rfl) (pe_lc (own := [("one", 11)]) (g := (gName 11)) rfl sc__law_name.nd (piL K rfl (pv 6)) (blkOk_by (N := ["tray", "used", "letters", "way", "letter", "name", "some", "words", "old", "at", "k", "one"]) (sc := defScope s__law_name) (by decide +kernel)) (fun _ _ _ _ _ => (pg_name (i := 11) sc__law_name.nd rfl (Or.inl rfl) (hf := Or.inr rfl))) (fun _ _ _ _ _ => (pts_one (pt_cmpR (notInSeq K rfl) (pv 11) (pe_op op_cat (pv 1) (pe_lst (pa_cons pe_str (pa_cons pe_str (pa_cons pe_str pa_nil))))) (by rfl)))) (fun _ _ _ _ _ => (pv 11))) pe_int (fun _ _ => rfl))))))))))), ?_⟩
  refine seq_set ?_
  dsimp only [tC]
  refine seq_set ?_
  refine ⟨_, rfl, d, g, 5, n, rfl, D, by decide, by decide, by omega, fun way H1 w0 w1 D1 B1 => ?_⟩
  dsimp only
  refine seq_set ?_
  refine ⟨_, rfl, _, rfl, d, g, 26, n + 1, rfl, D1, by decide, by decide, by omega, fun r2 H2 r0 r1 D2 B2 => ⟨_, _, _, rfl, rfl, abc_len, abc_at r0 r1, ?_⟩⟩
  have hlet : LtA (⟨#[97 + r2.toNat]⟩ : Str) := LtA.one (by omega) (by omega)
  have hlet1 : (⟨#[97 + r2.toNat]⟩ : Str).length = 1 := rfl
  generalize (⟨#[97 + r2.toNat]⟩ : Str) = letter at hlet hlet1
  dsimp only
  refine seq_set ?_
  refine ⟨⟨_, rfl⟩, _, rfl, d, g, 8, n + 1 + 1, rfl, D2, by decide, by decide, by omega, fun r3 H3 q0 q1 D3 B3 => ?_⟩
  have B03 := (B1.trans B2).trans B3
  refine ⟨_, _, rfl, rfl, _, rfl, by omega, by omega, fun D8 hD8 => ?_⟩
  have ne8 := D3.ne hD8
  refine lc_range (lo := 0) (n := (1 + r3).toNat) (Plet d g D8 (n + 3) H3) ?_ ?_ ?_
  · exact ⟨(But.refl d g H3).new hD8, (D3.le (by simp; omega)).new hD8, [], upd_same, rfl, fun y hy => by simp at hy⟩
  · rintro i H4 hi ⟨b4, D4, ys, hy, ly, ay⟩
    refine ⟨rfl, _, rfl, _, rfl, d, g, 26, n + 3 + (i : Int), rfl, D4, by decide, by decide, by omega, fun r5 H5 z0 z1 D5 B5 => ?_⟩
    refine ⟨_, _, _, rfl, rfl, abc_len, abc_at z0 z1, ys.map V.str, B5 _ _ ne8.1 ne8.2 hy, line5 (by rw [List.length_map]; omega), (b4.trans B5).atNew hD8, (D5.le (by omega)).at ne8.1 ne8.2, ys ++ [⟨#[97 + r5.toNat]⟩], ?_, ?_, ?_⟩
    · rw [upd_same, List.map_append]
      rfl
    · rw [List.length_append, ly]
      rfl
    · intro y hy2
      rcases List.mem_append.mp hy2 with hy2 | hy2
      · exact ay y hy2
      · have e : y = ⟨#[97 + r5.toNat]⟩ := by simpa using hy2
        rw [e]
        exact ⟨LtA.one (by omega) (by omega), rfl⟩
  rintro H4 ⟨b4, D4, ys, hy, ly, ay⟩
  have hsum := sum_ones ay
  have e0 : (("" : Str)).length = 0 := rfl
  refine ⟨_, D8, ys, rfl, rfl, .inl (SqL.of hy), ?_, ?_⟩
  · rw [hsum, e0]
    omega
  rw [show Txt.join "" ys = Str.join "" ys from PySem.StrLaws.glued_eq_join _ _]
  have hnm : LtS (Str.join "" ys) := ⟨by rw [join_len, hsum]; omega, join_lt ys fun y hy => (ay y hy).1⟩
  generalize Str.join "" ys = nm0 at hnm
  have B04 := B03.trans b4
  have D4' : Tray H4 d g (n + 11) := D4.le (by omega)
  clear ay hsum ly hy hD8 ne8 b4 D4 B3 B2 B1 B03 D1 D2 D3
  dsimp only
  refine seq_abs (fun σ' H' => ∃ nm u7 u8 u9, σ' = [some (.ref d), some (.ref u), some (.str abc), some (.int way), some (.str letter), some (.str nm), none, u7, u8, u9, none, none] ∧ LtS nm ∧ Tray H' d g (n + 20) ∧ But d g H H') (fun σ5 H5 w5 => ?_) (fun nx hnx => ?_)
  · obtain ⟨nm, u7, u8, u9, rfl, hnm5, D5, B5⟩ := w5
    have hu5 := B5 _ _ nd ng hu
    refine seq_set ?_
    -- [name] + [letters[k] ..] + [..]
    refine ⟨_, rfl, (by show 1 ≤ sizeLine; decide), fun l0 n0 => ?_⟩
    have s0 := same_new n0 (.lst [V.str nm])
    have e0 : (upd H5 l0 (.lst [V.str nm])) l0 = some (.lst [V.str nm]) := upd_same
    generalize upd H5 l0 (.lst [V.str nm]) = H6 at s0 e0
    refine ⟨_, rfl, by decide, by decide, fun D1 nD1 => lc_range (lo := 0) (n := 26) (Pf H6 D1 one1) ?_ ?_ ?_⟩
    · exact ⟨same_new nD1 _, upd_same⟩
    · rintro i H7 hi p
      exact ⟨rfl, _, rfl, _, rfl, _, _, _, rfl, rfl, abc_len, abc_at (r := 0 + (i : Int)) (by omega) (by omega), _, p.2, line5 (by simp; omega), by rw [show (0 + (i : Int)).toNat = i by omega]; exact p.next nD1⟩
    rintro H7 p7
    refine ⟨l0, D1, _, _, rfl, rfl, p7.1 _ _ e0, p7.2, (by simp; decide), fun l1 n1 => ?_⟩
    have s1 := (s0.trans p7.1).trans (same_new n1 (.lst ([V.str nm] ++ ((List.range 26).map one1).map V.str)))
    have e1 : (upd H7 l1 (.lst ([V.str nm] ++ ((List.range 26).map one1).map V.str))) l1 = some (.lst (([nm] ++ (List.range 26).map one1).map V.str)) := by rw [upd_same, List.map_append]; rfl
    generalize upd H7 l1 (.lst ([V.str nm] ++ ((List.range 26).map one1).map V.str)) = H8 at s1 e1
    refine ⟨_, rfl, by decide, by decide, fun D2 nD2 => lc_range (lo := 0) (n := 26) (Pf H8 D2 one2) ?_ ?_ ?_⟩
    · exact ⟨same_new nD2 _, upd_same⟩
    · rintro i H9 hi p
      refine ⟨rfl, _, rfl, _, rfl, _, _, _, rfl, rfl, abc_len, abc_at (r := 0 + (i : Int)) (by omega) (by omega), ?_⟩
      refine ⟨_, rfl, _, rfl, _, _, rfl, rfl, _, _, _, rfl, rfl, abc_len, abc_at (r := 25 - (0 + (i : Int))) (by omega) (by omega), _, _, rfl, rfl, (by show 1 + 1 ≤ sizeLine; decide), _, p.2, line5 (by simp; omega), ?_⟩
      rw [show (0 + (i : Int)).toNat = i by omega, show (25 - (0 + (i : Int))).toNat = 25 - i by omega]
      exact p.next nD2
    rintro H9 p9
    refine ⟨l1, D2, _, _, rfl, rfl, p9.1 _ _ e1, p9.2, (by simp; decide), fun l2 n2 => ?_⟩
    rw [← List.map_append]
    have s2 := (s1.trans p9.1).trans (same_new n2 (.lst ((([nm] ++ (List.range 26).map one1) ++ (List.range 26).map one2).map V.str)))
    have e2 : (upd H9 l2 (.lst ((([nm] ++ (List.range 26).map one1) ++ (List.range 26).map one2).map V.str))) l2 = some (.lst ((([nm] ++ (List.range 26).map one1) ++ (List.range 26).map one2).map V.str)) := upd_same
    generalize upd H9 l2 (.lst ((([nm] ++ (List.range 26).map one1) ++ (List.range 26).map one2).map V.str)) = Ha at s2 e2
    clear p7 p9 e0 e1 s0 s1 n0 n1 n2 nD1 nD2
    dsimp only
    refine seq_set ?_
    refine ⟨_, rfl, _, rfl, by decide, by decide, fun D3 nD3 => lc_range (lo := 0) (n := 26) (Pf Ha D3 one3) ?_ ?_ ?_⟩
    · exact ⟨same_new nD3 _, upd_same⟩
    · rintro i Hb hi p
      refine ⟨rfl, _, rfl, _, rfl, _, _, _, rfl, rfl, abc_len, abc_at (r := 0 + (i : Int)) (by omega) (by omega), _, 3, rfl, rfl, by decide, by decide, (by show 1 ≤ 1000; decide), _, p.2, line5 (by simp; omega), ?_⟩
      rw [show (0 + (i : Int)).toNat = i by omega]
      exact p.next nD3
    rintro Hb pb
    refine ⟨l2, D3, _, _, rfl, rfl, pb.1 _ _ e2, pb.2, (by simp; decide), fun l3 n3 => ?_⟩
    rw [← List.map_append]
    have s3 := (s2.trans pb.1).trans (same_new n3 (.lst (((([nm] ++ (List.range 26).map one1) ++ (List.range 26).map one2) ++ (List.range 26).map one3).map V.str)))
    have e3 : (upd Hb l3 (.lst (((([nm] ++ (List.range 26).map one1) ++ (List.range 26).map one2) ++ (List.range 26).map one3).map V.str))) l3 = some (.lst (((([nm] ++ (List.range 26).map one1) ++ (List.range 26).map one2) ++ (List.range 26).map one3).map V.str)) := upd_same
    generalize upd Hb l3 (.lst (((([nm] ++ (List.range 26).map one1) ++ (List.range 26).map one2) ++ (List.range 26).map one3).map V.str)) = Hc at s3 e3
    refine ⟨_, rfl, by decide, by decide, fun D4 nD4 => lc_range (lo := 0) (n := 26) (Pf Hc D4 one5) ?_ ?_ ?_⟩
    · exact ⟨same_new nD4 _, upd_same⟩
    · rintro i Hd hi p
      refine ⟨rfl, _, rfl, _, rfl, _, _, _, rfl, rfl, abc_len, abc_at (r := 0 + (i : Int)) (by omega) (by omega), _, 5, rfl, rfl, by decide, by decide, (by show 1 ≤ 1000; decide), _, p.2, line5 (by simp; omega), ?_⟩
      rw [show (0 + (i : Int)).toNat = i by omega]
      exact p.next nD4
    rintro Hd pd
    refine ⟨l3, D4, _, _, rfl, rfl, pd.1 _ _ e3, pd.2, (by simp; decide), fun l4 n4 => ?_⟩
    rw [← List.map_append]
    have s4 := (s3.trans pd.1).trans (same_new n4 (.lst ((((([nm] ++ (List.range 26).map one1) ++ (List.range 26).map one2) ++ (List.range 26).map one3) ++ (List.range 26).map one5).map V.str)))
    have e4 : (upd Hd l4 (.lst ((((([nm] ++ (List.range 26).map one1) ++ (List.range 26).map one2) ++ (List.range 26).map one3) ++ (List.range 26).map one5).map V.str))) l4 = some (.lst ((allSome nm).map V.str)) := upd_same
    generalize upd Hd l4 (.lst ((((([nm] ++ (List.range 26).map one1) ++ (List.range 26).map one2) ++ (List.range 26).map one3) ++ (List.range 26).map one5).map V.str)) = He at s4 e4
    clear pb pd e2 e3 s2 s3 n3 n4 nD3 nD4
    have B6 : But d g H He := B5.trans (But.of_same s4)
    have D6 := D5.same s4
    have hu6 := s4 _ _ hu5
    dsimp only
    refine ⟨_, rfl, l4, rfl, ⟨_, SqL.of e4⟩, fun D5 nD5 => lc_list (xs := (allSome nm).map V.str) (Pkeep He D5 us (allSome nm)) ?_ ?_ ?_ ?_⟩
    · exact ⟨same_new nD5 _, upd_same⟩
    · exact fun i Hf _ p => SqL.of (p.1 _ _ e4)
    · rintro i x Hf hx ⟨sf, hD⟩
      rw [List.getElem?_map] at hx
      obtain ⟨sx, hsx, rfl⟩ := Option.map_eq_some_iff.mp hx
      have hi : i < (allSome nm).length := (List.getElem?_eq_some_iff.mp hsx).1
      have hall : (us.map V.str ++ [V.str "", V.str "num", V.str "text"]).all flatV = true := by
        rw [List.all_append, List.all_map]
        simp [flatV]
      refine ⟨rfl, _, rfl, _, rfl, (by show 3 ≤ sizeLine; decide), fun l nl => ⟨u, l, _, _, rfl, rfl, (same_new nl _) _ _ (sf _ _ hu6), upd_same, ?_, fun m8 nm8 => ?_⟩⟩
      · rw [List.length_map]
        exact Nat.le_of_lt (line5 (show us.length + 3 ≤ 100000 by omega))
      have s7 := (same_new nl (.lst [V.str "", V.str "num", V.str "text"])).trans (same_new nm8 (.lst (us.map V.str ++ [V.str "", V.str "num", V.str "text"])))
      have e7 : (upd (upd Hf l (.lst [V.str "", V.str "num", V.str "text"])) m8 (.lst (us.map V.str ++ [V.str "", V.str "num", V.str "text"]))) m8 = some (.lst (us.map V.str ++ [V.str "", V.str "num", V.str "text"])) := upd_same
      generalize upd (upd Hf l (.lst [V.str "", V.str "num", V.str "text"])) m8 (.lst (us.map V.str ++ [V.str "", V.str "num", V.str "text"])) = Hg at s7 e7
      refine ⟨m8, _, rfl, .inl (SqL.of e7), rfl, hall, _, rfl, ?_⟩
      show if keepN us sx = true then _ else _
      cases hk : keepN us sx with
      | true =>
        refine iteT ?_
        refine ⟨_, rfl, _, s7 _ _ hD, ?_, Same.atNew (sf.trans s7) nD5, ?_⟩
        · rw [List.length_map]
          exact line5 (Nat.le_trans (List.length_filter_le _ _) (Nat.le_trans (List.length_take_le' _ _) (by simp [allSome])))
        · rw [upd_same, ← take_next hsx, List.filter_append, List.map_append, filt1 hk]
          rfl
      | false =>
        refine iteF ⟨sf.trans s7, ?_⟩
        rw [← take_next hsx, List.filter_append, filt0 hk]
        simpa using s7 _ _ hD
    · rintro Hf ⟨sf, hD⟩
      rw [List.length_map, List.take_length] at hD
      obtain ⟨z, r, hz⟩ := some_kept h22 (allSome nm) fun k hk => by
        simp only [allSome, List.mem_append]
        exact .inl (.inl (.inl (.inr (List.mem_map.mpr ⟨k, List.mem_range.mpr hk, rfl⟩))))
      rw [hz] at hD
      have hzm : z ∈ (allSome nm).filter (keepN us) := by rw [hz]; simp
      obtain ⟨hz1, hz2⟩ := List.mem_filter.mp hzm
      rw [keepN_iff] at hz2
      have hzl : LtS z := by
        have ok : ∀ k, k < 26 → LtS (one1 k) ∧ LtS (one2 k) ∧ LtS (one3 k) ∧ LtS (one5 k) := fun k hk => ones_ok hk
        simp only [allSome, List.mem_append, List.mem_singleton, List.mem_map, List.mem_range] at hz1
        rcases hz1 with (((rfl | ⟨k, hk, rfl⟩) | ⟨k, hk, rfl⟩) | ⟨k, hk, rfl⟩) | ⟨k, hk, rfl⟩
        · exact hnm5
        · exact (ok k hk).1
        · exact (ok k hk).2.1
        · exact (ok k hk).2.2.1
        · exact (ok k hk).2.2.2
      refine ⟨_, _, _, .str z, rfl, rfl, SqL.of hD, at_of rfl rfl, ?_⟩
      refine q z Hf ⟨hzl, fun e => hz2 (by simp [e]), fun e => hz2 (by simp [e]), fun e => hz2 (by simp [e])⟩ (fun e => hz2 (by simp [e])) (D6.same sf) (B6.trans (But.of_same sf))
  · refine ⟨_, rfl, rfl, _, rfl, ite2 (fun c => ?_) (fun c => ?_)⟩
    · refine ⟨(by show 12 ≤ sizeLine; decide), fun l nl => ?_⟩
      have D5 := D4'.new (o := .lst (hints.map V.str)) nl
      have B5 := B04.new (o := .lst (hints.map V.str)) nl
      have hl : (upd H4 l (.lst (hints.map V.str))) l = some (.lst (hints.map V.str)) := upd_same
      have ne := D4'.ne nl
      refine ⟨_, rfl, _, rfl, d, g, 12, n + 11, rfl, D5, by decide, by decide, by omega, fun r6 H6 z0 z1 D6 B6 => ?_⟩
      obtain ⟨x, hx, hxm⟩ := str_at (us := hints) z0 z1
      refine ⟨_, _, _, .str x, rfl, rfl, SqL.of (B6 _ _ ne.1 ne.2 hl), hx, ?_⟩
      exact hnx _ _ ⟨x, _, _, _, rfl, hints_ok x hxm, D6.le (by omega), B5.trans B6⟩
    refine ⟨_, rfl, _, _, rfl, rfl, _, rfl, ite2 (fun c2 => ?_) (fun c2 => ?_)⟩
    · have c2' := of_decide_eq_true c2
      refine ⟨_, rfl, Nat.zero_le _, fun p np => ?_⟩
      have D5 := D4'.new (o := .lst []) np
      have B5 := B04.new (o := .lst []) np
      refine ⟨.list (us.map PyData.str), .list [], .lst (SqL.of (B5 _ _ nd ng hu)) (dp_strs us), .lst (SqL.of upd_same) .nil, shaped_strs (fun x hx => (hus x hx).2), rfl, _, rfl, ?_⟩
      rw [eqv_nils]
      generalize upd H4 p (.lst []) = H5 at D5 B5
      cases us with
      | nil =>
        refine iteF ?_
        exact hnx _ _ ⟨nm0, _, _, _, rfl, hnm, D5.le (by omega), B5⟩
      | cons x0 rest =>
        refine iteT ?_
        have hu5 := B5 _ _ nd ng hu
        have lpos : (0 : Int) < (((x0 :: rest).map V.str).length : Int) := by rw [List.length_map, List.length_cons]; omega
        have l22 : (((x0 :: rest).map V.str).length : Int) ≤ 22 := by rw [List.length_map]; omega
        refine ⟨_, rfl, _, rfl, _, rfl, u, _, rfl, .inl (SqL.of hu5), d, g, _, n + 11, rfl, D5, lpos, by omega, by omega, fun r6 H6 z0 z1 D6 B6 => ?_⟩
        rw [List.length_map] at z1
        obtain ⟨old, hold, hom⟩ := str_at z0 z1
        refine ⟨_, _, _, .str old, rfl, rfl, SqL.of (B6 _ _ nd ng hu5), hold, ?_⟩
        have ho := hus old hom
        have ho8 : (old.length : Int) ≤ 8 := by have := ho.1; omega
        have big : ∀ {k : Nat}, k ≤ 100 → k ≤ sizeLine := fun h => Nat.le_of_lt (line5 (by omega))
        have hol : old.length ≤ sizeLine := big (by have := ho.1; omega)
        refine ⟨_, rfl, _, rfl, old, rfl, hol, _, _, rfl, rfl, d, g, _, n + 11 + 1, rfl, D6, by omega, by omega, by omega, fun r7 H7 y0 y1 D7 B7 => ?_⟩
        refine ⟨_, rfl, _, rfl, _, rfl, old, rfl, hol, _, rfl, _, rfl, (by show 3 ≤ sizeLine; decide), fun l1 nl1 => ?_⟩
        have hw : way - 1 = 0 ∨ way - 1 = 1 ∨ way - 1 = 2 := by
          have : ¬ way = 4 := fun z => c (decide_eq_true (by rw [z]))
          omega
        have pick1 : ∃ y : Str, atI [V.str letter, V.str letter, V.str ""] (way - 1) = some (.str y) ∧ LtA y ∧ y.length ≤ 1 := by
          rcases hw with h | h | h <;> rw [h]
          · exact ⟨letter, at_of (j := 0) rfl rfl, hlet, by omega⟩
          · exact ⟨letter, at_of (j := 1) rfl rfl, hlet, by omega⟩
          · exact ⟨"", at_of (j := 2) rfl rfl, LtA.nil, by decide⟩
        obtain ⟨y, hy, ly, ly1⟩ := pick1
        have pick2 : ∃ k : Int, atI [V.int 0, V.int 1, V.int 1] (way - 1) = some (.int k) := by
          rcases hw with h | h | h <;> rw [h]
          · exact ⟨0, at_of (j := 0) rfl rfl⟩
          · exact ⟨1, at_of (j := 1) rfl rfl⟩
          · exact ⟨1, at_of (j := 2) rfl rfl⟩
        obtain ⟨k, hk⟩ := pick2
        refine ⟨_, rfl, _, _, rfl, rfl, _, _, _, .str y, rfl, rfl, SqL.of upd_same, hy, _, _, rfl, rfl, ?_, ?_⟩
        · have := cutS_length old none (some r7)
          exact big (by have := ho.1; omega)
        refine ⟨_, rfl, _, rfl, (by show 3 ≤ sizeLine; decide), fun l2 nl2 => ⟨_, rfl, _, _, rfl, rfl, _, _, _, .int k, rfl, rfl, SqL.of upd_same, hk, _, _, rfl, rfl, _, rfl, old, rfl, hol, _, _, rfl, rfl, ?_, ?_⟩⟩
        · have h1 := cutS_length old none (some r7)
          have h2 := cutS_length old (some (r7 + k)) none
          rw [len_app]
          exact big (by have := ho.1; omega)
        refine ⟨_, rfl, _, rfl, ?_, ?_⟩
        · have h1 := cutS_length old none (some r7)
          have h2 := cutS_length old (some (r7 + k)) none
          rw [len_app, len_app]
          exact big (by have := ho.1; omega)
        refine hnx _ _ ⟨_, _, _, _, rfl, ⟨cut8 _, LtA.cut (((ho.2.cut _ _).app ly).app (ho.2.cut _ _)) _ _⟩, ((D7.new nl1).new nl2).le (by omega), (((B5.trans B6).trans B7).new nl1).new nl2⟩
    · refine iteF ?_
      exact hnx _ _ ⟨nm0, _, _, _, rfl, hnm, D4'.le (by omega), B04⟩
end
end My
namespace My
open PySem L2
/-- _law_names -/
def spNames : Sp := fun vs H Q _ => ∃ (d g u : Addr) (n : Int) (m : Nat) (us : List Str), vs = [.ref d, .int (m : Int), .ref u] ∧ Tray H d g n ∧ n ≤ 800000 ∧ u ≠ d ∧ u ≠ g ∧ H u = some (.lst (us.map V.str)) ∧ us.length + m ≤ 22 ∧ (∀ x ∈ us, LtS x) ∧
  ∀ (r : Addr) (zs : List Str) (H' : Hp), H r = none → H' r = some (.lst (zs.map V.str)) → zs.length = m → (∀ z ∈ zs, Nm z ∧ z ∉ us) → zs.Nodup → Tray H' d g (n + 20 * (m : Int)) → But d g H H' → Q (.ref r) H'
def Pnam (d g u r : Addr) (n : Int) (m : Nat) (us : List Str) (H0 : Hp) (i : Nat) (σ : St) (H : Hp) : Prop :=
  ∃ (zs : List Str) (uk : Option V), σ = [some (.ref d), some (.int (m : Int)), some (.ref u), some (.ref r), uk] ∧ But d g H0 H ∧ H r = some (.lst (zs.map V.str)) ∧ zs.length = i ∧ (∀ z ∈ zs, Nm z ∧ z ∉ us) ∧ zs.Nodup ∧ Tray H d g (n + 20 * (i : Int))
/-- _law_flat_kind -/
def spFlat (e : Nat) : Sp := fun vs H Q _ => ∃ (d g nl : Addr) (n deep : Int) (nms : List Str), vs = [.ref d, .ref nl, .int deep] ∧ deep = (e : Int) ∧ 1 ≤ e ∧ Tray H d g n ∧ n + 2 * (e : Int) ≤ 900000 ∧ nl ≠ d ∧ nl ≠ g ∧ H nl = some (.lst (nms.map V.str)) ∧
  nms.length ≤ 1000 ∧ (∀ x ∈ nms, LtS x) ∧ ∀ (v : V) (k : Kd) (H' : Hp), KdAt H' v k → k.flat = true → k.depth ≤ e → k.size ≤ e → (∀ x ∈ k.names, x ∈ nms) → Tray H' d g (n + 2 * (e : Int)) → But d g H H' → Q v H'
/-- _law_kind -/
def spKind (e : Nat) : Sp := fun vs H Q _ => ∃ (d g nl : Addr) (n deep : Int) (nms : List Str), vs = [.ref d, .ref nl, .int deep] ∧ deep = (e : Int) ∧ 1 ≤ e ∧ Tray H d g n ∧ n + 10 * (e : Int) + 10 ≤ 900000 ∧ nl ≠ d ∧ nl ≠ g ∧ H nl = some (.lst (nms.map V.str)) ∧
  nms.length ≤ 1000 ∧ (∀ x ∈ nms, LtS x) ∧ ∀ (v : V) (k : Kd) (H' : Hp), KdAt H' v k → k.plain = true → k.depth ≤ e → k.size ≤ 5 * e → (∀ x ∈ k.names, x ∈ nms) → Tray H' d g (n + 10 * (e : Int) + 10) → But d g H H' → Q v H'
def Pcalled (d g D8 : Addr) (n : Int) (e : Nat) (nms : List Str) (H0 : Hp) (i : Nat) (H : Hp) : Prop :=
  But d g H0 H ∧ Tray H d g (n + 2 * (e : Int) * (i : Int)) ∧ ∃ vs ks, H D8 = some (.lst vs) ∧ KdsAt H vs ks ∧ ks.length = i ∧ ks.all Kd.flat = true ∧ Kd.depths ks ≤ e ∧ Kd.sizes ks ≤ e * i ∧ (∀ x ∈ Kd.namesL ks, x ∈ nms)
section
variable {P : Program} {w : World} {K : PySem.W.Frag} {mg : Str → Option Value} {base : Heap} {f : Addr} {fd : FuncData}
theorem ok_names (B : Bn mg) (F : Fun K "_law_names" "_law_names" s__law_names f fd) (c__law_name : Cal P w K mg base "_law_name" 2 ["tray", "used"] spName) : FnOk P w K mg base CX0 3 f fd ["tray", "many", "used"] spNames := by
  refine F.ok sc__law_names (fun vs H Q E h => ?_) (fun cdv A outer s H vs Q E hr h => ?_)
  · obtain ⟨d, g, u, n, m, us, rfl, _⟩ := h
    rfl
  obtain ⟨d, g, u, n, m, us, rfl, D, hn, nd, ng, hu, h22, hus, q⟩ := h
  refine ⟨_, (pss_cons (ps_set (i := 3) sc__law_names.nd rfl (Or.inl rfl) (pe_lst pa_nil))
    (pss_cons (ps_for PassesOwn.never rfl (pi_range1 rfl B.b_range (pa_cons (pv 1) pa_nil)) (pg_name (i := 4) sc__law_names.nd rfl (Or.inl rfl)) (pss_one (ps_expr (pe_bm PySem.F.plainAttrs_list PySem.F.slot_list_append PySem.F.type_list_append mt_append (pv 3) (pa_cons (pc c__law_name (hr.mono (by first | decide | omega)) (pa_cons (pv 0) (pa_cons (pe_op op_cat (pv 2) (pv 3)) pa_nil))) pa_nil)))))
    (pss_one (ps_ret (pv 3))))), ?_⟩
  refine ⟨Nat.zero_le _, fun r nr => ⟨_, rfl, _, rfl, by omega, by omega, for_range (lo := 0) (n := (m : Int).toNat) (Pnam d g u r n m us H) ?_ ?_ ?_⟩⟩
  · exact ⟨[], none, rfl, (But.refl d g H).new nr, upd_same, rfl, fun z hz => by simp at hz, List.nodup_nil, (D.new nr).le (by simp)⟩
  · rintro i σ H1 hi ⟨zs, uk, rfl, b1, hr1, lz, az, ndz, D1⟩
    have hi2 : i < m := by omega
    have ner : r ≠ d ∧ r ≠ g := D.ne nr
    have hu1 := b1 _ _ nd ng hu
    refine ⟨_, rfl, tyL hr1, _, rfl, _, rfl, _, rfl, u, r, _, _, rfl, rfl, hu1, hr1, ?_, fun c nc => ?_⟩
    · rw [List.length_map, List.length_map]
      exact Nat.le_of_lt (line5 (by omega))
    have nec := D1.ne nc
    have D2 := D1.new (o := .lst (us.map V.str ++ zs.map V.str)) nc
    have e2 : (upd H1 c (.lst (us.map V.str ++ zs.map V.str))) c = some (.lst ((us ++ zs).map V.str)) := by rw [upd_same, List.map_append]
    have b2 := b1.new (o := .lst (us.map V.str ++ zs.map V.str)) nc
    have hr2 : (upd H1 c (.lst (us.map V.str ++ zs.map V.str))) r = some (.lst (zs.map V.str)) := same_new nc _ _ _ hr1
    generalize upd H1 c (.lst (us.map V.str ++ zs.map V.str)) = H2 at D2 e2 b2 hr2
    refine ⟨d, g, c, n + 20 * (i : Int), us ++ zs, rfl, D2, by omega, nec.1, nec.2, e2, by rw [List.length_append]; omega, fun x hx => ?_, fun z H3 hz1 hz2 D3 B3 => ?_⟩
    · rcases List.mem_append.mp hx with hx | hx
      · exact hus x hx
      · exact (az x hx).1.1
    have hr3 := B3 _ _ ner.1 ner.2 hr2
    refine ⟨r, _, _, rfl, rfl, hr3, line5 (by rw [List.length_map]; omega), zs ++ [z], _, rfl, ?_, ?_, ?_, ?_, ?_, ?_⟩
    · exact (b2.trans B3).atNew nr
    · rw [upd_same, List.map_append]
      rfl
    · rw [List.length_append, lz]
      rfl
    · intro y hy
      rcases List.mem_append.mp hy with hy | hy
      · exact az y hy
      · have e : y = z := by simpa using hy
        rw [e]
        exact ⟨hz1, fun h => hz2 (List.mem_append_left _ h)⟩
    · rw [List.nodup_append]
      refine ⟨ndz, by simp, fun a ha b hb e => ?_⟩
      have eb : b = z := by simpa using hb
      exact hz2 (List.mem_append_right _ (by rw [← eb, ← e]; exact ha))
    · exact (D3.le (by omega)).at ner.1 ner.2
  · rintro σ H1 ⟨zs, uk, rfl, b1, hr1, lz, az, ndz, D1⟩
    refine ⟨_, rfl, ?_⟩
    exact q r zs H1 nr hr1 (by omega) az ndz (D1.le (by omega)) b1
theorem ok_flat (B : Bn mg) (F : Fun K "_law_flat_kind" "_law_flat_kind" s__law_flat_kind f fd) (hm : mg "_law_flat_kind" = some (.ref f)) (hb : Binds K fd ["tray", "names", "deep"] [])
    (c__law_draw : Cal P w K mg base "_law_draw" 1 ["tray", "many"] spDraw) : ∀ e : Nat, FnOk P w K mg base CX0 (e + 1) f fd ["tray", "names", "deep"] (spFlat e)
  | 0 => by
    have no : ∀ vs H Q E, ¬ spFlat 0 vs H Q E := fun vs H Q E h => by
      obtain ⟨d, g, nl, n, deep, nms, _, _, h, _⟩ := h
      omega
    exact ⟨fun vs H Q E h => absurd h (no vs H Q E), fun A outer s H args us vs Q E _ _ _ _ h => absurd h (no vs H Q E)⟩
  | e + 1 => by
    have c__law_flat_kind : Cal P w K mg base "_law_flat_kind" (e + 1) ["tray", "names", "deep"] (spFlat e) := ⟨f, fd, ok_flat B F hm hb c__law_draw e, hm, F.kp, hb⟩
    refine F.ok sc__law_flat_kind (fun vs H Q E h => ?_) (fun cdv A outer s H vs Q E hr h => ?_)
    · obtain ⟨d, g, nl, n, deep, nms, rfl, _⟩ := h
      rfl
    obtain ⟨d, g, nl, n, deep, nms, rfl, he, _, D, hn, nd, ng, hnl, h1000, hlt, q⟩ := h
    refine ⟨_, (pss_cons (ps_set (i := 3) sc__law_flat_kind.nd rfl (Or.inl rfl) (pc c__law_draw (hr.mono (by first | decide | omega)) (pa_cons (pv 0) (pa_cons pe_int pa_nil))))
    (pss_cons (ps_if (PW.pt (pw_and (pt_cmpR op_gt (pv 3) pe_int (nomark _)) (pw_and1 (pt_cmpR op_gt (pv 2) pe_int (nomark _))))) (pss_one (ps_ret (pe_tup (pa_cons pe_str (pa_cons (pc c__law_flat_kind (hr.mono (by first | decide | omega)) (pa_cons (pv 0) (pa_cons (pv 1) (pa_cons (pe_op op_sub (pv 2) pe_int) pa_nil)))) pa_nil))))) pss_nil)
    (pss_cons (ps_if (PW.pt (pw_and (pt_cmpR op_gt (pv 3) pe_int (nomark _)) (pw_and1 (pt_cmpR (neD K rfl hr.units) (pv 1) (pe_lst pa_nil) (nomark _))))) (pss_one (ps_ret (pe_tup (pa_cons pe_str (pa_cons (pe_ix (ixL K rfl) (pv 1) (pc c__law_draw (hr.mono (by first | decide | omega)) (pa_cons (pv 0) (pa_cons (pe_callB (lenSeq K rfl) (by rfl) B.b_len PySem.boot_len (pa_cons (pv 1) pa_nil)) pa_nil))) (fun _ _ => rfl)) pa_nil))))) pss_nil)
    (pss_one (ps_ret (pe_ix (ixL K rfl) (pe_lst (pa_cons (pe_tup (pa_cons pe_str pa_nil)) (pa_cons (pe_tup (pa_cons pe_str pa_nil)) pa_nil))) (pe_op op_mod (pv 3) pe_int) (fun _ _ => rfl))))))), ?_⟩
    refine seq_set ?_
    refine ⟨_, rfl, d, g, 7, n, rfl, D, by decide, by decide, by omega, fun way H1 w0 w1 D1 B1 => ?_⟩
    dsimp only
    have hn1 := B1 _ _ nd ng hnl
    refine seq_abs (fun σ' H' => σ' = [some (.ref d), some (.ref nl), some (.int deep), some (.int way)] ∧ H' = H1) (fun σ2 H2 w2 => ?_) (fun nx hnx => ?_)
    · obtain ⟨rfl, rfl⟩ := w2
      refine seq_abs (fun σ' H' => σ' = [some (.ref d), some (.ref nl), some (.int deep), some (.int way)] ∧ But d g H H' ∧ Tray H' d g (n + 1)) (fun σ3 H3 w3 => ?_) (fun nx hnx => ?_)
      · obtain ⟨rfl, B3, D3⟩ := w3
        refine ⟨(by show 1 ≤ sizeLine; decide), fun a na => ⟨(by show 1 ≤ sizeLine; decide), fun b nb => ⟨(by show 2 ≤ sizeLine; decide), fun l nl2 => ?_⟩⟩⟩
        have s4 := ((same_new na (.tup [V.str "num"])).trans (same_new nb (.tup [V.str "text"]))).trans (same_new nl2 (.lst [.ref a, .ref b]))
        have ea : (upd (upd (upd H3 a (.tup [V.str "num"])) b (.tup [V.str "text"])) l (.lst [.ref a, .ref b])) a = some (.tup [V.str "num"]) := same_new nl2 _ _ _ (same_new nb _ _ _ upd_same)
        have eb : (upd (upd (upd H3 a (.tup [V.str "num"])) b (.tup [V.str "text"])) l (.lst [.ref a, .ref b])) b = some (.tup [V.str "text"]) := same_new nl2 _ _ _ upd_same
        have el : (upd (upd (upd H3 a (.tup [V.str "num"])) b (.tup [V.str "text"])) l (.lst [.ref a, .ref b])) l = some (.lst [.ref a, .ref b]) := upd_same
        generalize upd (upd (upd H3 a (.tup [V.str "num"])) b (.tup [V.str "text"])) l (.lst [.ref a, .ref b]) = H4 at s4 ea eb el
        refine ⟨_, rfl, _, _, rfl, rfl, (show (0 : Int) < 2 by decide), ?_⟩
        have hw : way % 2 = 0 ∨ way % 2 = 1 := by omega
        have fin : ∀ (v : V) (k : Kd), KdAt H4 v k → k.flat = true → k.depth = 1 → k.size = 1 → k.names = [] → Q v H4 := fun v k hk h1 h2 h3 h4 =>
          q v k H4 hk h1 (by omega) (by omega) (by rw [h4]; exact fun x hx => by simp at hx) ((D3.le (by omega)).same s4) (B3.trans (But.of_same s4))
        rcases hw with hw | hw
        · exact ⟨_, _, _, _, rfl, rfl, SqL.of el, at_of (j := 0) hw rfl, fin _ _ (.num ea) rfl rfl rfl rfl⟩
        · exact ⟨_, _, _, _, rfl, rfl, SqL.of el, at_of (j := 1) hw rfl, fin _ _ (.text eb) rfl rfl rfl rfl⟩
      · refine ⟨_, rfl, _, _, rfl, rfl, _, rfl, ite2 (fun c => ?_) (fun c => ?_)⟩
        · refine ⟨_, rfl, Nat.zero_le _, fun p np => ?_⟩
          have D3 := D1.new (o := .lst []) np
          have B3 := B1.new (o := .lst []) np
          have hn3 := B3 _ _ nd ng hnl
          refine ⟨.list (nms.map PyData.str), .list [], .lst (SqL.of hn3) (dp_strs nms), .lst (SqL.of upd_same) .nil, shaped_strs (fun x hx => (hlt x hx).2), rfl, _, rfl, ?_⟩
          rw [eqv_nils]
          generalize upd H2 p (.lst []) = H3 at D3 B3 hn3
          cases nms with
          | nil => exact iteF (hnx _ _ ⟨rfl, B3, D3⟩)
          | cons x0 rest =>
            refine iteT ?_
            have lpos : (0 : Int) < (((x0 :: rest).map V.str).length : Int) := by rw [List.length_map, List.length_cons]; omega
            have l22 : (((x0 :: rest).map V.str).length : Int) ≤ 1000 := by rw [List.length_map]; omega
            refine ⟨_, rfl, _, rfl, _, rfl, nl, _, rfl, .inl (SqL.of hn3), d, g, _, n + 1, rfl, D3, lpos, by omega, by omega, fun r6 H6 z0 z1 D6 B6 => ?_⟩
            rw [List.length_map] at z1
            obtain ⟨x, hx, hxm⟩ := str_at z0 z1
            refine ⟨_, _, _, .str x, rfl, rfl, SqL.of (B6 _ _ nd ng hn3), hx, (by show 2 ≤ sizeLine; decide), fun a na => ?_⟩
            have hns : ∀ y ∈ (Kd.of x).names, y ∈ x0 :: rest := fun y hy => by
              have e1 : y = x := by simpa [Kd.names] using hy
              rw [e1]
              exact hxm
            exact q _ (.of x) _ (.of upd_same) rfl (by show 1 ≤ e + 1; omega) (by show 1 ≤ e + 1; omega) hns ((D6.new na).le (by omega)) ((B3.trans B6).new na)
        · exact iteF (hnx _ _ ⟨rfl, B1, D1⟩)
    · refine ⟨_, rfl, _, _, rfl, rfl, _, rfl, ite2 (fun c => ?_) (fun c => ?_)⟩
      · refine ⟨_, rfl, _, _, rfl, rfl, _, rfl, ite2 (fun c2 => ?_) (fun c2 => ?_)⟩
        · have c2' : 1 < deep := of_decide_eq_true c2
          refine ⟨_, rfl, _, rfl, _, rfl, _, _, rfl, rfl, d, g, nl, n + 1, _, nms, rfl, by omega, by omega, D1, by omega, nd, ng, hn1, h1000, hlt, fun v k H2 hk k1 k2 k3 k4 D2 B2 => ?_⟩
          refine ⟨(by show 2 ≤ sizeLine; decide), fun a na => ?_⟩
          exact q _ (.row k) _ (.row upd_same (hk.mono (Tups.of_same (same_new na _)))) k1 (by show k.depth + 1 ≤ e + 1; omega) (by show k.size + 1 ≤ e + 1; omega) k4 ((D2.new na).le (by omega)) ((B1.trans B2).new na)
        · exact hnx _ _ ⟨rfl, rfl⟩
      · exact iteF (hnx _ _ ⟨rfl, rfl⟩)
end
end My
namespace My
open PySem L2
def spFlatTo (E : Nat) : Sp := fun vs H Q X => ∃ e, e ≤ E ∧ spFlat e vs H Q X
section
variable {P : Program} {w : World} {K : PySem.W.Frag} {mg : Str → Option Value} {base : Heap} {f : Addr} {fd : FuncData}
theorem ok_kind (B : Bn mg) (F : Fun K "_law_kind" "_law_kind" s__law_kind f fd) (hm : mg "_law_kind" = some (.ref f)) (hb : Binds K fd ["tray", "names", "deep"] [])
    (c__law_draw : Cal P w K mg base "_law_draw" 1 ["tray", "many"] spDraw) (c__law_flat_kind : Cal P w K mg base "_law_flat_kind" 6 ["tray", "names", "deep"] (spFlatTo 5)) : ∀ e : Nat, e ≤ 5 → FnOk P w K mg base CX0 (e + 7) f fd ["tray", "names", "deep"] (spKind e)
  | 0, _ => by
    have no : ∀ vs H Q E, ¬ spKind 0 vs H Q E := fun vs H Q E h => by
      obtain ⟨d, g, nl, n, deep, nms, _, _, h, _⟩ := h
      omega
    exact ⟨fun vs H Q E h => absurd h (no vs H Q E), fun A outer s H args us vs Q E _ _ _ _ h => absurd h (no vs H Q E)⟩
  | e + 1, le => by
    have c__law_kind : Cal P w K mg base "_law_kind" (e + 7) ["tray", "names", "deep"] (spKind e) := ⟨f, fd, ok_kind B F hm hb c__law_draw c__law_flat_kind e (by omega), hm, F.kp, hb⟩
    refine F.ok sc__law_kind (fun vs H Q E h => ?_) (fun cdv A outer s H vs Q E hr h => ?_)
    · obtain ⟨d, g, nl, n, deep, nms, rfl, _⟩ := h
      rfl
    obtain ⟨d, g, nl, n, deep, nms, rfl, he, _, D, hn, nd, ng, hnl, h1000, hlt, q⟩ := h
    refine ⟨_, (pss_cons (ps_set (i := 3) sc__law_kind.nd rfl (Or.inl rfl) (pc c__law_draw (hr.mono (by first | decide | omega)) (pa_cons (pv 0) (pa_cons pe_int pa_nil))))
    (pss_cons (ps_if (PW.pt (pw_and (pt_cmpR op_eq (pv 3) pe_int (nomark _)) (pw_and1 (pt_cmpR op_gt (pv 2) pe_int (nomark _))))) (pss_cons (ps_set (i := 4) sc__law_kind.nd rfl (Or.inl rfl) (pc c__law_draw (hr.mono (by first | decide | omega)) (pa_cons (pv 0) (pa_cons pe_int pa_nil))))
    (pss_cons (ps_set (i := 5) sc__law_kind.nd rfl (Or.inl rfl) (pe_callTy (tupleOf K rfl) (by rfl) B.b_tuple (by decide +kernel) (pa_cons (pe_lc (own := [("k", 6)]) (g := (gName 6)) rfl sc__law_kind.nd (pi_range1 rfl B.b_range (pa_cons (pv 4) pa_nil)) (blkOk_by (N := ["tray", "names", "deep", "way", "many", "called", "k"]) (sc := defScope s__law_kind) (by decide +kernel)) (fun _ _ _ _ _ => (pg_name (i := 6) sc__law_kind.nd rfl (Or.inl rfl) (hf := Or.inr rfl))) (fun _ _ _ _ _ => pts_nil) (fun _ _ _ _ _ => (pc c__law_flat_kind (hr.mono (by first | decide | omega)) (pa_cons (pv 0) (pa_cons (pv 1) (pa_cons (pe_op op_sub (pv 2) pe_int) pa_nil)))))) pa_nil)))
    (pss_one (ps_ret (pe_tup (pa_cons pe_str (pa_cons (pv 5) (pa_cons (pc c__law_flat_kind (hr.mono (by first | decide | omega)) (pa_cons (pv 0) (pa_cons (pv 1) (pa_cons (pe_op op_sub (pv 2) pe_int) pa_nil)))) pa_nil)))))))) pss_nil)
    (pss_cons (ps_if (PW.pt (pw_and (pt_cmpR op_eq (pv 3) pe_int (nomark _)) (pw_and1 (pt_cmpR op_gt (pv 2) pe_int (nomark _))))) (pss_one (ps_ret (pe_tup (pa_cons pe_str (pa_cons (pc c__law_kind (hr.mono (by first | decide | omega)) (pa_cons (pv 0) (pa_cons (pv 1) (pa_cons (pe_op op_sub (pv 2) pe_int) pa_nil)))) pa_nil))))) pss_nil)
    (pss_one (ps_ret (pc c__law_flat_kind (hr.mono (by first | decide | omega)) (pa_cons (pv 0) (pa_cons (pv 1) (pa_cons (pv 2) pa_nil))))))))), ?_⟩
    refine seq_set ?_
    refine ⟨_, rfl, d, g, 8, n, rfl, D, by decide, by decide, by omega, fun way H1 w0 w1 D1 B1 => ?_⟩
    dsimp only
    have hn1 := B1 _ _ nd ng hnl
    have hn0 : n + 10 * (e : Int) + 20 ≤ 900000 := by omega
    refine seq_abs (fun σ' H' => σ' = [some (.ref d), some (.ref nl), some (.int deep), some (.int way), none, none, none] ∧ H' = H1) (fun σ2 H2 w2 => ?_) (fun nx hnx => ?_)
    · obtain ⟨rfl, rfl⟩ := w2
      refine seq_abs (fun σ' H' => σ' = [some (.ref d), some (.ref nl), some (.int deep), some (.int way), none, none, none] ∧ H' = H2) (fun σ3 H3 w3 => ?_) (fun nx hnx => ?_)
      · obtain ⟨rfl, rfl⟩ := w3
        refine ⟨_, rfl, _, rfl, _, rfl, e + 1, le, d, g, nl, n + 1, deep, nms, rfl, he, by omega, D1, by omega, nd, ng, hn1, h1000, hlt, fun v k H4 hk k1 k2 k3 k4 D4 B4 => ?_⟩
        exact q v k H4 hk (Kd.plain_of_flat k1) k2 (by omega) k4 (D4.le (by omega)) (B1.trans B4)
      · refine ⟨_, rfl, rfl, _, rfl, ite2 (fun c => ?_) (fun c => ?_)⟩
        · refine ⟨_, rfl, _, _, rfl, rfl, _, rfl, ite2 (fun c2 => ?_) (fun c2 => ?_)⟩
          · have c2' : 1 < deep := of_decide_eq_true c2
            refine ⟨_, rfl, _, rfl, _, rfl, _, _, rfl, rfl, d, g, nl, n + 1, _, nms, rfl, by omega, by omega, D1, by omega, nd, ng, hn1, h1000, hlt, fun v k H4 hk k1 k2 k3 k4 D4 B4 => ?_⟩
            refine ⟨(by show 2 ≤ sizeLine; decide), fun a na => ?_⟩
            exact q _ (.row k) _ (.row upd_same (hk.mono (Tups.of_same (same_new na _)))) k1 (by show k.depth + 1 ≤ e + 1; omega) (by show k.size + 1 ≤ 5 * (e + 1); omega) k4 ((D4.new na).le (by omega)) ((B1.trans B4).new na)
          · exact hnx _ _ ⟨rfl, rfl⟩
        · exact iteF (hnx _ _ ⟨rfl, rfl⟩)
    · refine ⟨_, rfl, rfl, _, rfl, ite2 (fun c => ?_) (fun c => ?_)⟩
      · refine ⟨_, rfl, _, _, rfl, rfl, _, rfl, ite2 (fun c2 => ?_) (fun c2 => ?_)⟩
        · have c2' : 1 < deep := of_decide_eq_true c2
          refine ⟨_, rfl, d, g, 4, n + 1, rfl, D1, by decide, by decide, by omega, fun many H2 m0 m1 D2 B2 => ?_⟩
          have B12 := B1.trans B2
          refine ⟨_, rfl, _, rfl, by omega, by omega, fun D8 nD8 => ?_⟩
          have ne8 := D2.ne nD8
          have hn2 := B12 _ _ nd ng hnl
          refine lc_range (lo := 0) (n := many.toNat) (Pcalled d g D8 (n + 1 + 1) e nms H2) ?_ ?_ ?_
          · exact ⟨(But.refl d g H2).new nD8, (D2.new nD8).le (by simp), [], [], upd_same, .nil, rfl, rfl, Nat.zero_le _, Nat.zero_le _, fun x hx => by simp [Kd.namesL] at hx⟩
          · rintro i H3 hi ⟨b3, D3, vs, ks, hv, kv, lk, ak, dk, sk, nk⟩
            have hi4 : i < 4 := by omega
            have e1 : 2 * (e : Int) * (((i + 1 : Nat)) : Int) = 2 * (e : Int) * (i : Int) + 2 * (e : Int) := by rw [Int.natCast_succ, Int.mul_add, Int.mul_one]
            have e2 : 2 * (e : Int) * (i : Int) ≤ 2 * (e : Int) * 3 := Int.mul_le_mul_of_nonneg_left (by omega) (by omega)
            have e3 : e * (i + 1) = e * i + e := Nat.mul_succ e i
            refine ⟨rfl, _, rfl, _, rfl, _, rfl, _, _, rfl, rfl, e, by omega, d, g, nl, n + 1 + 1 + 2 * (e : Int) * (i : Int), _, nms, rfl, by omega, by omega, D3, by omega, nd, ng, b3 _ _ nd ng hn2, h1000, hlt, fun v k H4 hk k1 k2 k3 k4 D4 B4 => ?_⟩
            have T := (D3.tups B4).trans (Tups.upd (o := .lst (vs ++ [v])) (B4 _ _ ne8.1 ne8.2 hv))
            have T2 := Tups.upd (o := .lst (vs ++ [v])) (B4 _ _ ne8.1 ne8.2 hv)
            refine ⟨vs, B4 _ _ ne8.1 ne8.2 hv, line5 (by rw [kv.len]; omega), (b3.trans B4).atNew nD8, ?_, vs ++ [v], ks ++ [k], upd_same, (kv.mono T).app (.cons (hk.mono T2) .nil), by rw [List.length_append, lk]; rfl, ?_, ?_, ?_, ?_⟩
            · rw [e1]
              exact (D4.le (by omega)).at ne8.1 ne8.2
            · rw [List.all_append, ak]
              simp [k1]
            · rw [Kd.depths_app]
              simp [Kd.depths]
              omega
            · rw [Kd.sizes_app, e3]
              simp [Kd.sizes]
              omega
            · rw [Kd.namesL_app]
              intro x hx
              rcases List.mem_append.mp hx with hx | hx
              · exact nk x hx
              · exact k4 x (by simpa [Kd.namesL] using hx)
          rintro H3 ⟨b3, D3, vs, ks, hv, kv, lk, ak, dk, sk, nk⟩
          have e2 : 2 * (e : Int) * ((many.toNat : Nat) : Int) ≤ 2 * (e : Int) * 3 := Int.mul_le_mul_of_nonneg_left (by omega) (by omega)
          have e4 : e * many.toNat ≤ e * 3 := Nat.mul_le_mul_left e (by omega)
          refine ⟨D8, _, rfl, .inl ⟨SqL.of hv, fun t nt => ?_⟩⟩
          have s4 := same_new nt (.tup vs)
          have ht : (upd H3 t (.tup vs)) t = some (.tup vs) := upd_same
          have b4 := (B12.trans b3).new (o := .tup vs) nt
          have D4 := D3.new (o := .tup vs) nt
          generalize upd H3 t (.tup vs) = H4 at s4 ht b4 D4
          refine ⟨_, rfl, _, rfl, _, rfl, _, rfl, _, _, rfl, rfl, e, by omega, d, g, nl, _, _, nms, rfl, by omega, by omega, D4, by omega, nd, ng, b4 _ _ nd ng hnl, h1000, hlt, fun v k H5 hk k1 k2 k3 k4 D5 B5 => ?_⟩
          refine ⟨(by show 3 ≤ sizeLine; decide), fun a na => ?_⟩
          have T5 := (D4.tups B5).trans (Tups.of_same (same_new na (.tup [.str "calls", .ref t, v])))
          have T0 := (Tups.of_same s4).trans T5
          refine q _ (.calls ks k) _ (.calls upd_same (T5 _ _ ht) (kv.mono T0) (hk.mono (Tups.of_same (same_new na _)))) ?_ ?_ ?_ ?_ ((D5.new na).le (by omega)) ((b4.trans B5).new na)
          · show (ks.all Kd.flat && k.flat && decide (ks.length ≤ 3)) = true
            rw [ak, k1, decide_eq_true (by omega)]
            rfl
          · show max (Kd.depths ks) k.depth + 1 ≤ e + 1
            omega
          · show Kd.sizes ks + k.size + 1 ≤ 5 * (e + 1)
            omega
          · intro x hx
            have hx : x ∈ Kd.namesL ks ++ k.names := hx
            rcases List.mem_append.mp hx with hx | hx
            · exact nk x hx
            · exact k4 x hx
        · exact hnx _ _ ⟨rfl, rfl⟩
      · exact iteF (hnx _ _ ⟨rfl, rfl⟩)
end
end My
namespace My
open PySem L2
/-! _law_doors -/

def spDoors : Sp := fun vs H Q _ => ∃ (d g nl : Addr) (n : Int) (most : Nat) (nms : List Str), vs = [.ref d, .ref nl, .int (most : Int)] ∧ Tray H d g n ∧ n ≤ 700000 ∧ nl ≠ d ∧ nl ≠ g ∧ H nl = some (.lst (nms.map V.str)) ∧ nms.length ≤ 1000 ∧ (∀ x ∈ nms, LtS x) ∧ most ≤ 16 ∧
  ∀ (r : Addr) (zs : List V) (es : List Door) (H' : Hp), H r = none → H' r = some (.lst zs) → Paired (DoorAt H') zs es → es.length ≤ most → (es.map (·.1)).Nodup → (∀ e ∈ es, GoodDoor nms e) → Tray H' d g (n + 20000) → But d g H H' → Q (.ref r) H'
def Pdoo (d g nl r yr : Addr) (n : Int) (most : Nat) (ys nms : List Str) (H0 : Hp) (i : Nat) (σ : St) (H : Hp) : Prop :=
  ∃ (zs : List V) (es : List Door) (u4 u5 u6 : Option V), σ = [some (.ref d), some (.ref nl), some (.int (most : Int)), some (.ref r), u4, u5, u6] ∧ But d g H0 H ∧ H r = some (.lst zs) ∧ H yr = some (.lst (ys.map V.str)) ∧ Paired (DoorAt H) zs es ∧ es.map (·.1) = ys.take i ∧ (∀ e ∈ es, GoodDoor nms e) ∧ Tray H d g (n + 1000 * (i : Int))
def Ppar (d g nl r yr p : Addr) (n : Int) (most : Nat) (ys nms : List Str) (nm : Str) (H0 : Hp) (i : Nat) (σ : St) (H : Hp) : Prop :=
  ∃ (vs : List V) (fs : List Fld) (u6 : Option V), σ = [some (.ref d), some (.ref nl), some (.int (most : Int)), some (.ref r), some (.str nm), some (.ref p), u6] ∧ But d g H0 H ∧ H p = some (.lst vs) ∧ H yr = some (.lst (ys.map V.str)) ∧ Paired (FldAt H) vs fs ∧ fs.map (·.1) = ys.take i ∧ (∀ f ∈ fs, GoodK nms f.2.1) ∧ Tray H d g (n + 60 * (i : Int))
section
variable {P : Program} {w : World} {K : PySem.W.Frag} {mg : Str → Option Value} {base : Heap} {f : Addr} {fd : FuncData} {aT aF : Addr}
end
end My
namespace My
open PySem L2
/-! _law_lesser -/
/-- the law's lesser kinds: a name put for one that it stands under -/
inductive Less (prs : List (Str × Str)) : Kd → Kd → Prop
  | same (k : Kd) : Less prs k k
  | of {x y : Str} (h : (y, x) ∈ prs) : Less prs (.of x) (.of y)
  | row {k l : Kd} (h : Less prs k l) : Less prs (.row k) (.row l)
  | calls {ps : List Kd} {r s : Kd} (h : Less prs r s) : Less prs (.calls ps r) (.calls ps s)
theorem Less.fit {prs : List (Str × Str)} {up : Str → Str → Prop} (hp : ∀ a b, (a, b) ∈ prs → up a b) {k l : Kd} (h : Less prs k l) : Fit up l k := by
  induction h with
  | same k => exact .refl k
  | of h => exact .step (asked_of (hp _ _ h)) fun p hp => by simp at hp
  | @row k1 l1 h ih =>
    refine .step (l := [(l1, k1)]) rfl fun p hp => ?_
    have e : p = (l1, k1) := by simpa using hp
    rw [e]
    exact ih
  | @calls ps r s h ih =>
    refine .step (asked_calls rfl) fun p hp => ?_
    rcases List.mem_append.mp hp with hp | hp
    · have e : p.1 = p.2 := by
        obtain ⟨i, hi⟩ := List.getElem?_of_mem hp
        rw [List.getElem?_zip_eq_some] at hi
        rw [hi.1] at hi
        exact Option.some.inj hi.2
      rw [e]
      exact .refl _
    · have e : p = (s, r) := by simpa using hp
      rw [e]
      exact ih
theorem Less.good {prs : List (Str × Str)} {nms : List Str} (hp : ∀ a b, (a, b) ∈ prs → a ∈ nms) {k l : Kd} (h : Less prs k l) : (k.flat = true → l.flat = true) ∧ (k.plain = true → l.plain = true) ∧ l.depth = k.depth ∧ l.size = k.size ∧ ((∀ x ∈ k.names, x ∈ nms) → ∀ x ∈ l.names, x ∈ nms) := by
  induction h with
  | same k => exact ⟨id, id, rfl, rfl, id⟩
  | @of x0 y0 h =>
    refine ⟨fun _ => rfl, fun _ => rfl, rfl, rfl, fun _ x hx => ?_⟩
    have e : x = y0 := by simpa [Kd.names] using hx
    rw [e]
    exact hp _ _ h
  | row h ih =>
    obtain ⟨a, b, c, d, e⟩ := ih
    exact ⟨a, b, by simp [Kd.depth, c], by simp [Kd.size, d], e⟩
  | @calls ps r s h ih =>
    obtain ⟨a, b, c, d, e⟩ := ih
    refine ⟨id, fun z => ?_, by simp [Kd.depth, c], by simp [Kd.size, d], fun z x hx => ?_⟩
    · have z : (ps.all Kd.flat && r.flat && decide (ps.length ≤ 3)) = true := z
      show (ps.all Kd.flat && s.flat && decide (ps.length ≤ 3)) = true
      rw [Bool.and_eq_true_iff, Bool.and_eq_true_iff] at z ⊢
      exact ⟨⟨z.1.1, a z.1.2⟩, z.2⟩
    · rcases List.mem_append.mp (show x ∈ Kd.namesL ps ++ s.names from hx) with hx | hx
      · exact z x (List.mem_append_left _ hx)
      · exact e (fun y hy => z y (List.mem_append_right _ hy)) x hx
theorem Less.goodK {prs : List (Str × Str)} {nms : List Str} (hp : ∀ a b, (a, b) ∈ prs → a ∈ nms) {k l : Kd} (h : Less prs k l) (g : GoodK nms k) : GoodK nms l := by
  obtain ⟨_, b, c, d, e⟩ := h.good hp
  exact ⟨b g.plain, by rw [c]; exact g.depth, by rw [d]; exact g.size, e g.names⟩
def PairS (H : Hp) (v : V) (p : Str × Str) : Prop := ∃ c, v = .ref c ∧ H c = some (.tup [.str p.1, .str p.2])
theorem PairS.mono {H H' : Hp} (t : Tups H H') {v : V} {p : Str × Str} (h : PairS H v p) : PairS H' v p := by
  obtain ⟨c, e, h⟩ := h
  exact ⟨c, e, t _ _ h⟩
def spLess (e : Nat) : Sp := fun vs H Q _ => ∃ (d g ul : Addr) (n : Int) (v : V) (k : Kd) (uvs : List V) (prs : List (Str × Str)), vs = [.ref d, v, .ref ul] ∧ 1 ≤ e ∧ Tray H d g n ∧ n ≤ 800000 ∧ ul ≠ d ∧ ul ≠ g ∧ KdAt H v k ∧ k.plain = true ∧ k.depth ≤ e ∧ H ul = some (.lst uvs) ∧ Paired (PairS H) uvs prs ∧ prs.length ≤ 10000 ∧
  ∀ (v' : V) (k' : Kd) (H' : Hp), KdAt H' v' k' → Less prs k k' → Tray H' d g (n + 1) → But d g H H' → Q v' H'
def Ples (H0 : Hp) (D : Addr) (prs : List (Str × Str)) (x : Str) (i : Nat) (H : Hp) : Prop := Same H0 H ∧ H D = some (.lst ((((prs.take i).filter fun p => decide (p.2 = x)).map (·.1)).map V.str))
section
variable {P : Program} {w : World} {K : PySem.W.Frag} {mg : Str → Option Value} {base : Heap} {f : Addr} {fd : FuncData} {aT aF : Addr}
theorem ok_lesser (B : Bn mg) (F : Fun K "_law_lesser" "_law_lesser" s__law_lesser f fd) (hm : mg "_law_lesser" = some (.ref f)) (hb : Binds K fd ["tray", "kind", "under"] []) (c__law_draw : Cal P w K mg base "_law_draw" 1 ["tray", "many"] spDraw) :
    ∀ e : Nat, FnOk P w K mg base CX0 (e + 2) f fd ["tray", "kind", "under"] (spLess e)
  | 0 => by
    have no : ∀ vs H Q E, ¬ spLess 0 vs H Q E := fun vs H Q E h => by
      obtain ⟨d, g, ul, n, v, k, uvs, prs, _, h, _⟩ := h
      omega
    exact ⟨fun vs H Q E h => absurd h (no vs H Q E), fun A outer s H args us vs Q E _ _ _ _ h => absurd h (no vs H Q E)⟩
  | e + 1 => by
    have c__law_lesser : Cal P w K mg base "_law_lesser" (e + 2) ["tray", "kind", "under"] (spLess e) := ⟨f, fd, ok_lesser B F hm hb c__law_draw e, hm, F.kp, hb⟩
    refine F.ok sc__law_lesser (fun vs H Q E h => ?_) (fun cdv A outer s H vs Q E hr h => ?_)
    · obtain ⟨d, g, ul, n, v, k, uvs, prs, rfl, _⟩ := h
      rfl
    obtain ⟨d, g, ul, n, v, k, uvs, prs, rfl, _, D, hn, nd, ng, hk, hp, hd, hu, pu, lp, q⟩ := h
    refine ⟨_, (pss_cons (ps_if (pt_cmpR op_eq (pe_ix (ixT K rfl) (pv 1) pe_int (fun _ _ => rfl)) pe_str (nomark _)) (pss_cons (ps_set (i := 3) sc__law_lesser.nd rfl (Or.inl rfl) (pe_op op_cat (pe_lst (pa_cons (pe_ix (ixT K rfl) (pv 1) pe_int (fun _ _ => rfl)) pa_nil)) (pe_lc (own := [("one", 4), ("other", 5)]) (g := (gTup K 2 (gCons (gName 4) (gCons (gName 5) gNil)))) rfl sc__law_lesser.nd (piL K rfl (pv 2)) (blkOk_by (N := ["tray", "kind", "under", "some", "one", "other"]) (sc := defScope s__law_lesser) (by decide +kernel)) (fun _ _ _ _ _ => (pg_tup rfl (pgs_cons (pg_name (i := 4) sc__law_lesser.nd rfl (Or.inl rfl) (hf := Or.inr rfl)) (pgs_cons (pg_name (i := 5) sc__law_lesser.nd rfl (Or.inl rfl) (hf := Or.inr rfl)) pgs_nil)))) (fun _ _ _ _ _ => (pts_one (pt_cmpR op_eq (pv 5) (pe_ix (ixT K rfl) (pv 1) pe_int (fun _ _ => rfl)) (nomark _)))) (fun _ _ _ _ _ => (pv 4)))))
    (pss_one (ps_ret (pe_tup (pa_cons pe_str (pa_cons (pe_ix (ixL K rfl) (pv 3) (pc c__law_draw (hr.mono (by first | decide | omega)) (pa_cons (pv 0) (pa_cons (pe_callB (lenSeq K rfl) (by rfl) B.b_len PySem.boot_len (pa_cons (pv 3) pa_nil)) pa_nil))) (fun _ _ => rfl)) pa_nil)))))) pss_nil)
    (pss_cons (ps_if (pt_cmpR op_eq (pe_ix (ixT K rfl) (pv 1) pe_int (fun _ _ => rfl)) pe_str (nomark _)) (pss_one (ps_ret (pe_tup (pa_cons pe_str (pa_cons (pc c__law_lesser (hr.mono (by first | decide | omega)) (pa_cons (pv 0) (pa_cons (pe_ix (ixT K rfl) (pv 1) pe_int (fun _ _ => rfl)) (pa_cons (pv 2) pa_nil)))) pa_nil))))) pss_nil)
    (pss_cons (ps_if (pt_cmpR op_eq (pe_ix (ixT K rfl) (pv 1) pe_int (fun _ _ => rfl)) pe_str (nomark _)) (pss_one (ps_ret (pe_tup (pa_cons pe_str (pa_cons (pe_ix (ixT K rfl) (pv 1) pe_int (fun _ _ => rfl)) (pa_cons (pc c__law_lesser (hr.mono (by first | decide | omega)) (pa_cons (pv 0) (pa_cons (pe_ix (ixT K rfl) (pv 1) pe_int (fun _ _ => rfl)) (pa_cons (pv 2) pa_nil)))) pa_nil)))))) pss_nil)
    (pss_one (ps_ret (pv 1)))))), ?_⟩
    have lu := Paired.length pu
    have dep : ∀ k : Kd, 1 ≤ k.depth := fun k => by rw [Kd.depth_inner]; omega
    cases hk with
    | num h =>
      refine ⟨_, rfl, _, _, _, _, rfl, rfl, SqT.of h, at_of rfl rfl, rfl, _, rfl, ifF rfl ?_⟩
      refine ⟨_, rfl, _, _, _, _, rfl, rfl, SqT.of h, at_of rfl rfl, rfl, _, rfl, ifF rfl ?_⟩
      refine ⟨_, rfl, _, _, _, _, rfl, rfl, SqT.of h, at_of rfl rfl, rfl, _, rfl, ifF rfl ?_⟩
      exact ⟨_, rfl, q _ _ H (.num h) (.same _) (D.le (by omega)) (But.refl _ _ _)⟩
    | text h =>
      refine ⟨_, rfl, _, _, _, _, rfl, rfl, SqT.of h, at_of rfl rfl, rfl, _, rfl, ifF rfl ?_⟩
      refine ⟨_, rfl, _, _, _, _, rfl, rfl, SqT.of h, at_of rfl rfl, rfl, _, rfl, ifF rfl ?_⟩
      refine ⟨_, rfl, _, _, _, _, rfl, rfl, SqT.of h, at_of rfl rfl, rfl, _, rfl, ifF rfl ?_⟩
      exact ⟨_, rfl, q _ _ H (.text h) (.same _) (D.le (by omega)) (But.refl _ _ _)⟩
    | answers h hk => exact absurd hp (by simp [Kd.plain])
    | @row a v1 k1 h hk =>
      refine ⟨_, rfl, _, _, _, _, rfl, rfl, SqT.of h, at_of rfl rfl, rfl, _, rfl, ifF rfl ?_⟩
      refine ⟨_, rfl, _, _, _, _, rfl, rfl, SqT.of h, at_of rfl rfl, rfl, _, rfl, ifT rfl ?_⟩
      have d1 := dep k1
      have hd : k1.depth + 1 ≤ e + 1 := hd
      refine ⟨_, rfl, _, rfl, _, _, _, _, rfl, rfl, SqT.of h, at_of (j := 1) rfl rfl, _, rfl, d, g, ul, n, v1, k1, uvs, prs, rfl, by omega, D, hn, nd, ng, hk, hp, by omega, hu, pu, lp, fun v' k' H1 hk' hl D1 B1 => ?_⟩
      refine ⟨(by show 2 ≤ sizeLine; decide), fun t nt => ?_⟩
      exact q _ (.row k') _ (.row upd_same (hk'.mono (Tups.of_same (same_new nt _)))) (.row hl) (D1.new nt) (B1.new nt)
    | @calls a b ws v1 ps r h hb' hps hr' =>
      refine ⟨_, rfl, _, _, _, _, rfl, rfl, SqT.of h, at_of rfl rfl, rfl, _, rfl, ifF rfl ?_⟩
      refine ⟨_, rfl, _, _, _, _, rfl, rfl, SqT.of h, at_of rfl rfl, rfl, _, rfl, ifF rfl ?_⟩
      refine ⟨_, rfl, _, _, _, _, rfl, rfl, SqT.of h, at_of rfl rfl, rfl, _, rfl, ifT rfl ?_⟩
      have d1 := dep r
      have hd : max (Kd.depths ps) r.depth + 1 ≤ e + 1 := hd
      have hp' : (ps.all Kd.flat && r.flat && decide (ps.length ≤ 3)) = true := hp
      rw [Bool.and_eq_true_iff, Bool.and_eq_true_iff] at hp'
      refine ⟨_, rfl, _, _, _, _, rfl, rfl, SqT.of h, at_of (j := 1) rfl rfl, _, rfl, _, rfl, _, _, _, _, rfl, rfl, SqT.of h, at_of (j := 2) rfl rfl, _, rfl, d, g, ul, n, v1, r, uvs, prs, rfl, by omega, D, hn, nd, ng, hr', Kd.plain_of_flat hp'.1.2, by omega, hu, pu, lp, fun v' k' H1 hk' hl D1 B1 => ?_⟩
      refine ⟨(by show 3 ≤ sizeLine; decide), fun t nt => ?_⟩
      have T1 := (D.tups B1).trans (Tups.of_same (same_new nt (.tup [.str "calls", .ref b, v'])))
      exact q _ (.calls ps k') _ (.calls upd_same (T1 _ _ hb') (hps.mono T1) (hk'.mono (Tups.of_same (same_new nt _)))) (.calls hl) (D1.new nt) (B1.new nt)
    | @of a x h =>
      refine ⟨_, rfl, _, _, _, _, rfl, rfl, SqT.of h, at_of rfl rfl, rfl, _, rfl, ifT rfl ?_⟩
      refine ⟨_, rfl, _, _, _, _, rfl, rfl, SqT.of h, at_of (j := 1) rfl rfl, (by show 1 ≤ sizeLine; decide), fun l nl => ?_⟩
      have sl := same_new nl (.lst [.str x])
      have hl1 : (upd H l (.lst [.str x])) l = some (.lst [.str x]) := upd_same
      generalize upd H l (.lst [.str x]) = H1 at sl hl1
      refine ⟨_, rfl, ul, rfl, ⟨_, SqL.of (sl _ _ hu)⟩, fun D2 nD2 => lc_list (xs := uvs) (Ples H1 D2 prs x) ?_ ?_ ?_ ?_⟩
      · exact ⟨same_new nD2 _, upd_same⟩
      · exact fun i H2 _ p => SqL.of (p.1 _ _ (sl _ _ hu))
      · rintro i y H2 hy ⟨s2, hacc⟩
        obtain ⟨p, hp2, c, rfl, hc⟩ := Paired.at pu i y hy
        have s12 := sl.trans s2
        have hil : i < prs.length := (List.getElem?_eq_some_iff.mp hp2).1
        refine ⟨c, _, rfl, SqT.of (s12 _ _ hc), rfl, _, _, rfl, _, _, rfl, rfl, rfl, ?_⟩
        refine ⟨_, rfl, _, rfl, _, _, _, _, rfl, rfl, SqT.of (s12 _ _ h), at_of (j := 1) rfl rfl, rfl, _, rfl, ?_⟩
        have l1 := List.length_filter_le (fun p => decide (p.2 = x)) (prs.take i)
        have l2 := List.length_take_le' i prs
        have nxt : (prs.take (i + 1)).filter (fun p => decide (p.2 = x)) = (prs.take i).filter (fun p => decide (p.2 = x)) ++ [p].filter (fun p => decide (p.2 = x)) := by rw [← take_next hp2, List.filter_append]
        by_cases e2 : p.2 = x
        · rw [decide_eq_true (by rw [e2])]
          refine iteT ⟨_, rfl, _, hacc, line5 (by rw [List.length_map, List.length_map]; omega), Same.atNew s2 nD2, ?_⟩
          rw [upd_same, nxt, List.filter_cons_of_pos (by simp [e2])]
          simp
        · rw [decide_eq_false (by intro z; exact e2 (V.str.inj z))]
          refine iteF ⟨s2, ?_⟩
          rw [nxt, List.filter_cons_of_neg (by simp [e2])]
          simpa using hacc
      rintro H2 ⟨s2, hacc⟩
      rw [lu, List.take_length] at hacc
      have l1 := List.length_filter_le (fun p => decide (p.2 = x)) prs
      refine ⟨l, D2, _, _, rfl, rfl, s2 _ _ hl1, hacc, Nat.le_of_lt (line5 (by simp; omega)), fun m nm => ?_⟩
      have sm := (sl.trans s2).trans (same_new nm (.lst ([.str x] ++ ((prs.filter fun p => decide (p.2 = x)).map (·.1)).map V.str)))
      have hm3 : (upd H2 m (.lst ([.str x] ++ ((prs.filter fun p => decide (p.2 = x)).map (·.1)).map V.str))) m = some (.lst ((x :: (prs.filter fun p => decide (p.2 = x)).map (·.1)).map V.str)) := upd_same
      generalize upd H2 m (.lst ([.str x] ++ ((prs.filter fun p => decide (p.2 = x)).map (·.1)).map V.str)) = H3 at sm hm3
      have D3 := D.same sm
      have nem : m ≠ d ∧ m ≠ g := (D.same (sl.trans s2)).ne nm
      refine ⟨_, rfl, _, rfl, _, rfl, m, _, rfl, .inl (SqL.of hm3), d, g, _, n, rfl, D3, by simp, by simp; omega, by omega, fun j H4 j0 j1 D4 B4 => ?_⟩
      have hm4 := B4 _ _ nem.1 nem.2 hm3
      rw [List.length_map] at j1
      obtain ⟨z, hz, zin⟩ := str_at j0 j1
      refine ⟨_, _, _, _, rfl, rfl, SqL.of hm4, hz, (by show 2 ≤ sizeLine; decide), fun t nt => ?_⟩
      refine q _ (.of z) _ (.of upd_same) ?_ (D4.new nt) (((But.of_same sm).trans B4).new nt)
      rcases List.mem_cons.mp zin with rfl | zin
      · exact .same _
      · obtain ⟨p, hpp, rfl⟩ := List.mem_map.mp zin
        obtain ⟨hin, e2⟩ := List.mem_filter.mp hpp
        have e2 : p.2 = x := of_decide_eq_true e2
        rw [← e2]
        exact .of hin
end
end My
namespace My
open PySem L2
/-! what is built one behind the other is without fault, in whatever order it is handed in -/
def upsOk (ds : List (Str × Decl)) (fs : List Fld) (up : List Str) : Prop := ∀ u ∈ up, ∀ gs vp, look ds u = some (.record gs vp) → ∀ g ∈ gs, ∃ f ∈ fs, f.1 = g.1 ∧ f.2.2 = g.2.2 ∧ Fit (Up ds) f.2.1 g.2.1
def GoodD (nms : List Str) (ds : List (Str × Decl)) : Decl → Prop
  | .record fs up => GoodF nms fs ∧ upsOk ds fs up
  | .choice cs _ => cs.length ≤ 6 ∧ (cs.map (·.1)).Nodup ∧ (∀ c ∈ cs, Nm c.1) ∧ ∀ c ∈ cs, ∀ k, c.2 = some k → GoodK nms k
  | .hidden _ => True
/-- may stand there -/
structure StandD (nms : List Str) (ds : List (Str × Decl)) (d : Decl) : Prop where
  once : d.up.Nodup
  few : d.up.length ≤ 20
  up : d.up.all (upOk ds d) = true
  good : GoodD nms ds d
structure Stage (nms : List Str) (ds : List (Str × Decl)) (un : List (Str × Str)) : Prop where
  once : (ds.map (·.1)).Nodup
  sub : ∀ p ∈ ds, p.1 ∈ nms
  un : ∀ a b, (a, b) ∈ un → Up ds a b
  good : ∀ p ∈ ds, StandD nms ds p.2
  low : ∀ (i : Nat) (p : Str × Decl), ds[i]? = some p → ∀ u ∈ p.2.up, ∃ j q, j < i ∧ ds[j]? = some q ∧ q.1 = u
theorem Up.congr {ds es : List (Str × Decl)} (h : ∀ x d, look ds x = some d → look es x = some d) {a b : Str} (u : Up ds a b) : Up es a b := by
  induction u with
  | one g =>
    obtain ⟨d, e, m⟩ := g
    exact .one ⟨d, h _ _ e, m⟩
  | more _ g ih =>
    obtain ⟨d, e, m⟩ := g
    exact .more ih ⟨d, h _ _ e, m⟩
theorem asked_mono {up up' : Str → Str → Prop} (h : ∀ a b, up a b → up' a b) {a b : Kd} {l : List (Kd × Kd)} (e : asked up a b = some l) : asked up' a b = some l := by
  unfold asked at e ⊢
  split at e
  · split at e
    · rename_i c
      rw [if_pos (h _ _ c)]
      exact e
    · cases e
  · exact e
  · exact e
  · exact e
  · exact e
  · cases e
theorem Fit.mono {up up' : Str → Str → Prop} (h : ∀ a b, up a b → up' a b) {a b : Kd} (f : Fit up a b) : Fit up' a b := by
  induction f with
  | refl a => exact .refl a
  | step e _ ih => exact .step (asked_mono h e) ih
theorem look_app {ds : List (Str × Decl)} {p : Str × Decl} {x : Str} {d : Decl} (h : look ds x = some d) : look (ds ++ [p]) x = some d := by
  unfold look at h ⊢
  rw [List.find?_append]
  cases e : ds.find? fun p => decide (p.1 = x) with
  | none => rw [e] at h; cases h
  | some q =>
    rw [e] at h
    simpa using h
theorem look_app_in {ds : List (Str × Decl)} {p : Str × Decl} {x : Str} (h : x ∈ ds.map (·.1)) : look (ds ++ [p]) x = look ds x := by
  cases e : look ds x with
  | some d => exact look_app e
  | none =>
    have := look_some (ds := ds) (x := x)
    rw [e, decide_eq_true h] at this
    cases this
theorem upOk_in {ds : List (Str × Decl)} {d : Decl} {u : Str} (h : upOk ds d u = true) : u ∈ ds.map (·.1) := by
  unfold upOk at h
  cases e : look ds u with
  | none => rw [e] at h; cases h
  | some c => exact List.mem_map.mpr ⟨_, look_mem e, rfl⟩
theorem StandD.congr {nms : List Str} {ds es : List (Str × Decl)} {d : Decl} (h : StandD nms ds d) (e : ∀ x, x ∈ ds.map (·.1) → look es x = look ds x) : StandD nms es d := by
  have hin : ∀ u ∈ d.up, u ∈ ds.map (·.1) := fun u hu => upOk_in (List.all_eq_true.mp h.up u hu)
  have some : ∀ x c, look ds x = some c → look es x = some c := fun x c hc => by
    rw [e x (List.mem_map.mpr ⟨_, look_mem hc, rfl⟩)]
    exact hc
  refine ⟨h.once, h.few, List.all_eq_true.mpr fun u hu => ?_, ?_⟩
  · have z := List.all_eq_true.mp h.up u hu
    unfold upOk at z ⊢
    rw [e u (hin u hu)]
    exact z
  · have g := h.good
    cases d with
    | record fs up =>
      refine ⟨g.1, fun u hu gs vp hl g' hg' => ?_⟩
      rw [e u (hin u hu)] at hl
      obtain ⟨f, hf, e1, e2, e3⟩ := g.2 u hu gs vp hl g' hg'
      exact ⟨f, hf, e1, e2, e3.mono fun a b z => z.congr some⟩
    | choice cs sh => exact g
    | hidden up => trivial
theorem Stage.add {nms : List Str} {ds : List (Str × Decl)} {un : List (Str × Str)} (h : Stage nms ds un) {x : Str} {d : Decl} (hx : x ∉ ds.map (·.1)) (hn : x ∈ nms) (hd : StandD nms ds d) {un' : List (Str × Str)}
    (hu : ∀ a b, (a, b) ∈ un' → (a, b) ∈ un ∨ (a = x ∧ ∃ u ∈ d.up, b = u ∨ (u, b) ∈ un)) : Stage nms (ds ++ [(x, d)]) un' := by
  have lk : ∀ y c, look ds y = some c → look (ds ++ [(x, d)]) y = some c := fun y c e => look_app e
  have lx : look (ds ++ [(x, d)]) x = some d := by
    unfold look
    rw [List.find?_append]
    have e : (ds.find? fun p => decide (p.1 = x)) = none := by
      rw [List.find?_eq_none]
      intro p hp z
      exact hx (List.mem_map.mpr ⟨p, hp, of_decide_eq_true z⟩)
    rw [e]
    simp
  have nd : ((ds ++ [(x, d)]).map (·.1)).Nodup := by
    rw [List.map_append, List.nodup_append]
    refine ⟨h.once, by simp, fun a ha b hb e => hx ?_⟩
    have eb : b = x := by simpa using hb
    rw [← eb, ← e]
    exact ha
  have cong : ∀ y, y ∈ ds.map (·.1) → look (ds ++ [(x, d)]) y = look ds y := fun y hy => look_app_in hy
  refine ⟨nd, all_snoc.mpr ⟨h.sub, hn⟩, fun a b hab => ?_, all_snoc.mpr ⟨fun p hp => (h.good p hp).congr cong, hd.congr cong⟩, fun i p hp u hu2 => ?_⟩
  · rcases hu a b hab with z | ⟨rfl, u, hu3, z⟩
    · exact (h.un a b z).congr lk
    · have one : Up (ds ++ [(a, d)]) a u := .one ⟨d, lx, hu3⟩
      rcases z with rfl | z
      · exact one
      · have up : Up (ds ++ [(a, d)]) u b := (h.un u b z).congr lk
        clear z hab
        induction up with
        | one g => exact .more one g
        | more _ g ih => exact .more ih g
  · by_cases hi : i < ds.length
    · rw [List.getElem?_append_left hi] at hp
      obtain ⟨j, q, h1, h2, h3⟩ := h.low i p hp u hu2
      exact ⟨j, q, h1, by rw [List.getElem?_append_left (by omega)]; exact h2, h3⟩
    · have hl := (List.getElem?_eq_some_iff.mp hp).1
      rw [List.length_append, List.length_singleton] at hl
      have e : i = ds.length := by omega
      subst e
      have ep : (x, d) = p := by simpa using hp
      subst ep
      obtain ⟨q, hq, e⟩ := List.mem_map.mp (upOk_in (List.all_eq_true.mp hd.up u hu2))
      obtain ⟨j, hj⟩ := List.getElem?_of_mem hq
      have hjl := (List.getElem?_eq_some_iff.mp hj).1
      exact ⟨j, q, hjl, by rw [List.getElem?_append_left hjl]; exact hj, e⟩
/-- what stands above stands ahead -/
theorem Stage.ahead {nms : List Str} {ds : List (Str × Decl)} {un : List (Str × Str)} (h : Stage nms ds un) {a b : Str} (u : Up ds a b) : ∀ (i : Nat) (p : Str × Decl), ds[i]? = some p → p.1 = a → ∃ j q, j < i ∧ ds[j]? = some q ∧ q.1 = b := by
  have dir : ∀ {a b : Str}, Dir ds a b → ∀ (i : Nat) (p : Str × Decl), ds[i]? = some p → p.1 = a → ∃ j q, j < i ∧ ds[j]? = some q ∧ q.1 = b := fun {a b} g i p hp e => by
    obtain ⟨d, hd, m⟩ := g
    have z := look_at h.once hp
    rw [e, hd] at z
    have z := Option.some.inj z
    rw [z] at m
    exact h.low i p hp b m
  induction u with
  | one g => exact dir g
  | more _ g ih =>
    intro i p hp e
    obtain ⟨j, q, h1, h2, h3⟩ := ih i p hp e
    obtain ⟨j2, q2, h4, h5, h6⟩ := dir g j q h2 h3
    exact ⟨j2, q2, by omega, h5, h6⟩
theorem Stage.noloop {nms : List Str} {ds : List (Str × Decl)} {un : List (Str × Str)} (h : Stage nms ds un) {a : Str} : ¬ Up ds a a := fun u => by
  have hin : a ∈ ds.map (·.1) := by
    have dir : ∀ {a b : Str}, Dir ds a b → a ∈ ds.map (·.1) := fun ⟨d, e, _⟩ => List.mem_map.mpr ⟨_, look_mem e, rfl⟩
    have st : ∀ {a b : Str}, Up ds a b → a ∈ ds.map (·.1) := fun u => by
      induction u with
      | one g => exact dir g
      | more _ _ ih => exact ih
    exact st u
  obtain ⟨p, hp, e⟩ := List.mem_map.mp hin
  obtain ⟨i, hi⟩ := List.getElem?_of_mem hp
  obtain ⟨j, q, h1, h2, h3⟩ := h.ahead u i p hi e
  have a1 : (ds.map (·.1))[i]? = some a := by rw [List.getElem?_map, hi, ← e]; rfl
  have a2 : (ds.map (·.1))[j]? = some a := by rw [List.getElem?_map, h2, ← h3]; rfl
  have := nd_ix h.once a1 a2
  omega
end My
namespace My
open PySem L2
theorem look_of_mem {ds : List (Str × Decl)} (nd : (ds.map (·.1)).Nodup) {p : Str × Decl} (h : p ∈ ds) : look ds p.1 = some p.2 := by
  obtain ⟨i, hi⟩ := List.getElem?_of_mem h
  exact look_at nd hi
theorem look_perm {ds es : List (Str × Decl)} (nd : (ds.map (·.1)).Nodup) (p : es.Perm ds) (x : Str) : look es x = look ds x := by
  have nde : (es.map (·.1)).Nodup := (p.map (·.1)).nodup_iff.mpr nd
  cases e : look ds x with
  | some d => exact look_of_mem nde (p := (x, d)) (p.mem_iff.mpr (look_mem e))
  | none =>
    cases e2 : look es x with
    | none => rfl
    | some d =>
      have := look_of_mem nd (p := (x, d)) (p.mem_iff.mp (look_mem e2))
      rw [e] at this
      cases this
theorem StandD.fine {nms : List Str} {ds : List (Str × Decl)} {d : Decl} (h : StandD nms ds d) (hl : ∀ x ∈ nms, LtS x) : fineD d := by
  have g := h.good
  cases d with
  | record fs up => exact ⟨g.1.fine hl, by have := g.1.len; omega, fun f hf => (g.1.nm f hf).few⟩
  | choice cs sh => exact ⟨fun c hc k e => (g.2.2.2 c hc k e).fine hl, by have := g.1; omega, fun c hc => (g.2.2.1 c hc).few⟩
  | hidden up => trivial
theorem GoodK.sub {nms ns : List Str} {k : Kd} (h : GoodK nms k) (s : ∀ x ∈ nms, x ∈ ns) : GoodK ns k := ⟨h.plain, h.depth, h.size, fun x hx => s x (h.names x hx)⟩
/-- in whatever order -/
theorem Stage.kinds {nms : List Str} {ds es : List (Str × Decl)} {un : List (Str × Str)} (h : Stage nms ds un) (p : es.Perm ds) (hlen : ds.length ≤ 12) (hall : ∀ x ∈ nms, x ∈ ds.map (·.1)) (hnm : ∀ x ∈ nms, Nm x) : KindsOk es := by
  have lt : ∀ x ∈ nms, LtS x := fun x hx => (hnm x hx).1
  have ek : ∀ x, x ∈ es.map (·.1) ↔ x ∈ ds.map (·.1) := fun x => (p.map (·.1)).mem_iff
  have lk := look_perm h.once p
  have sub : ∀ x ∈ nms, x ∈ es.map (·.1) := fun x hx => (ek x).mpr (hall x hx)
  have nde : (es.map (·.1)).Nodup := (p.map (·.1)).nodup_iff.mpr h.once
  refine ⟨by rw [p.length_eq]; exact hlen, fun q hq => ?_, fun q hq => (h.good q (p.mem_iff.mp hq)).fine lt, nde, fun q hq => ?_⟩
  · have hq := p.mem_iff.mp hq
    exact ⟨(h.good q hq).few, (hnm _ (h.sub q hq)).few⟩
  · have hq := p.mem_iff.mp hq
    have g := (h.good q hq).congr (es := es) fun x _ => lk x
    have nm := hnm _ (h.sub q hq)
    refine ⟨nm.ok, ⟨g.once, fun u => h.noloop (u.congr fun x d e => by rw [← lk]; exact e), g.up⟩, ?_⟩
    have gg := g.good
    cases hd : q.2 with
    | record fs up =>
      rw [hd] at gg
      refine ⟨gg.1.nms, List.all_eq_true.mpr fun f hf => ((gg.1.kd f hf).sub sub).sound, fun u hu gs vp hl g' hg' => ?_⟩
      obtain ⟨f, hf, e1, e2, e3⟩ := gg.2 u hu gs vp hl g' hg'
      have g2 : StandD nms es (.record gs vp) := by
        rw [lk] at hl
        have hm := look_mem hl
        exact (h.good _ hm).congr (es := es) fun x _ => lk x
      exact ⟨f, hf, e1, e2, .inr ⟨((gg.1.kd f hf).sub sub).names, ((g2.good.1.kd g' hg').sub sub).names, e3⟩⟩
    | choice cs sh =>
      rw [hd] at gg
      refine ⟨?_, fun c hc k e => ((gg.2.2.2 c hc k e).sub sub).sound⟩
      unfold nmsOk
      rw [List.length_map, decide_eq_true gg.1, decide_eq_true gg.2.1]
      have e : (cs.map (·.1)).all nmOk = true := List.all_eq_true.mpr fun x hx => by
        obtain ⟨c, hc, rfl⟩ := List.mem_map.mp hx
        exact (gg.2.2.1 c hc).ok
      rw [e]
      rfl
    | hidden up => trivial
end My
namespace My
open PySem L2
/-! what an edition tells: doors, a door -/
def spEdDoors (K : PySem.W.Frag) (C : Addr) : Sp := fun vs H Q _ => ∃ (e : Addr) (ds : List (Str × Decl)) (es : List Door) (us : List V), vs = [.ref e] ∧ EdAt K C H e ds es us ∧
  ∀ (r : Addr) (zs : List V) (H' : Hp), H r = none → H' r = some (.lst zs) → Paired (DoorAt H') zs es → Same H H' → Q (.ref r) H'
def spEdDoor (K : PySem.W.Frag) (C : Addr) : Sp := fun vs H Q _ => ∃ (e : Addr) (ds : List (Str × Decl)) (es : List Door) (us : List V) (x : Str), vs = [.ref e, .str x] ∧ EdAt K C H e ds es us ∧
  (x ∉ es.map (·.1) → Q .non H) ∧ ∀ (v : V) (d : Door), d ∈ es → d.1 = x → DoorAt H v d → Q v H
theorem door_val {H : Hp} {x : Str} : ∀ {kvs : List (Key × V)} {es : List Door}, Paired (DoorRow H) kvs es → x ∈ es.map (·.1) → ∃ d ∈ es, d.1 = x ∧ ∃ v, valV kvs (Sum.inr x : Key) = some v ∧ DoorAt H v d
  | [], [], .nil, h => by simp at h
  | p :: kvs, q :: es, .cons h t, hx => by
    obtain ⟨e, hd⟩ := h
    by_cases z : q.1 = x
    · refine ⟨q, by simp, z, p.2, ?_, hd⟩
      unfold valV
      rw [List.find?_cons_of_pos (by simp [e, z])]
      rfl
    · have hx2 : x ∈ es.map (·.1) := by
        rcases List.mem_cons.mp (by simpa using hx : x ∈ q.1 :: es.map (·.1)) with h | h
        · exact absurd h.symm z
        · exact h
      obtain ⟨d, hm, ed, v, ev, r⟩ := door_val t hx2
      refine ⟨d, List.mem_cons_of_mem _ hm, ed, v, ?_, r⟩
      rw [← ev]
      unfold valV
      rw [List.find?_cons_of_neg]
      simp [e, z]
section
variable {P : Program} {w : World} {K : PySem.W.Frag} {mg : Str → Option Value} {base : Heap} {f : Addr} {fd : FuncData} {C : Addr}
end
end My
namespace My
open PySem L2
/-! fields and doors as data -/
theorem inDeep {X : Cx} (K : PySem.W.Frag) (h : X.K = K) (hu : X.A.units + 65 < cLine) : OpR X (compareOp .In) (rInD K) := by subst h; exact op_inD hu
theorem notInDeep {X : Cx} (K : PySem.W.Frag) (h : X.K = K) (hu : X.A.units + 65 < cLine) : OpR X (compareOp .NotIn) (rNotInD K) := by subst h; exact op_notInD hu
theorem units65 {k : Nat} {A : Around} (hr : Room k A) : A.units + 65 < cLine := by
  have := hr.un
  omega
instance kdEq : DecidableEq Kd := fun a b => decidable_of_iff _ (Kd.data_iff a b)
def fdata (f : Fld) : PyData := .tuple [.str f.1, f.2.1.data, .bool f.2.2]
theorem fdata_iff (f g : Fld) : PyData.eqv (fdata f) (fdata g) = true ↔ f = g := by
  show ((f.1 == g.1) && (PyData.eqv f.2.1.data g.2.1.data && ((f.2.2 == g.2.2) && true))) = true ↔ _
  rw [Bool.and_true, and_iff beq_iff_eq (and_iff (Kd.data_iff _ _) beq_iff_eq)]
  exact ⟨fun h => Prod.ext h.1 (Prod.ext h.2.1 h.2.2), fun h => by rw [h]; exact ⟨rfl, rfl, rfl⟩⟩
theorem FldAt.dp {K : PySem.W.Frag} {H : Hp} {v : V} {f : Fld} (h : FldAt H v f) : Dp K H v (fdata f) := by
  obtain ⟨a, kv, rfl, h, k⟩ := h
  exact .tup (SqT.of h) (.cons (.str _) (.cons k.dp (.cons (.bl _) .nil)))
theorem flds_dp {K : PySem.W.Frag} {H : Hp} : ∀ {vs : List V} {fs : List Fld}, Paired (FldAt H) vs fs → DpAll K H vs (fs.map fdata)
  | [], [], .nil => .nil
  | _ :: _, _ :: _, .cons h t => .cons h.dp (flds_dp t)
theorem fdata_ok {f : Fld} (hk : f.2.1.fine) (hn : LtA f.1) : PyData.canLay0 (fdata f) = true ∧ PyData.depth (fdata f) ≤ 62 := by
  have a := Kd.data_lay f.2.1 hk.2.2
  have b := Kd.data_depth f.2.1
  have c := hk.1
  have e := strOk_lt hn
  refine ⟨?_, ?_⟩
  · simp [fdata, PyData.canLay0, PyData.canLayAll0, a, e]
  · simp [fdata, PyData.depth, PyData.depthAll]
    omega
theorem flds_ok : ∀ {fs : List Fld}, (∀ f ∈ fs, f.2.1.fine ∧ LtA f.1) → PyData.canLayAll0 (fs.map fdata) = true ∧ PyData.depthAll (fs.map fdata) ≤ 62
  | [], _ => ⟨rfl, Nat.zero_le _⟩
  | f :: r, h => by
    obtain ⟨a, b⟩ := fdata_ok (h f (by simp)).1 (h f (by simp)).2
    obtain ⟨c, d⟩ := flds_ok (fs := r) fun g hg => h g (List.mem_cons_of_mem _ hg)
    refine ⟨?_, ?_⟩
    · show (PyData.canLay0 (fdata f) && PyData.canLayAll0 (r.map fdata)) = true
      rw [a, c]
      rfl
    · rw [List.map_cons, PyData.depthAll]
      omega
theorem fld_shaped {f : Fld} (hk : f.2.1.fine) (hn : LtA f.1) : SeqAt.shaped (fdata f) = true := by
  obtain ⟨a, b⟩ := fdata_ok hk hn
  unfold SeqAt.shaped
  rw [a, decide_eq_true (by omega)]
  rfl
theorem flds_shaped {fs : List Fld} (h : ∀ f ∈ fs, f.2.1.fine ∧ LtA f.1) : SeqAt.shaped (.list (fs.map fdata)) = true := by
  obtain ⟨a, b⟩ := flds_ok h
  unfold SeqAt.shaped
  rw [show PyData.canLay0 (.list (fs.map fdata)) = true from a, decide_eq_true (by rw [PyData.depth]; omega)]
  rfl
theorem flds_any {fs : List Fld} {g : Fld} : ((fs.map fdata).any fun z => PyData.eqv z (fdata g)) = decide (g ∈ fs) := by
  rw [Bool.eq_iff_iff, List.any_eq_true, decide_eq_true_iff]
  constructor
  · rintro ⟨z, hz, e⟩
    obtain ⟨f, hf, rfl⟩ := List.mem_map.mp hz
    rw [(fdata_iff f g).mp e] at hf
    exact hf
  · intro h
    exact ⟨fdata g, List.mem_map.mpr ⟨g, h, rfl⟩, (fdata_iff g g).mpr rfl⟩
theorem eqvAll_iff {α : Type} {f : α → PyData} (h : ∀ a b, PyData.eqv (f a) (f b) = true ↔ a = b) : ∀ (as bs : List α), PyData.eqvAll (as.map f) (bs.map f) = true ↔ as = bs
  | [], [] => by simp [PyData.eqvAll]
  | [], _ :: _ => by simp [PyData.eqvAll]
  | _ :: _, [] => by simp [PyData.eqvAll]
  | a :: r, b :: s => by
    show (PyData.eqv (f a) (f b) && PyData.eqvAll (r.map f) (s.map f)) = true ↔ _
    rw [and_iff (h a b) (eqvAll_iff h r s)]
    exact ⟨fun z => by rw [z.1, z.2], fun z => by injection z with z1 z2; exact ⟨z1, z2⟩⟩
def ddata (d : Door) : PyData := .tuple [.str d.1, .tuple (d.2.1.map fdata), d.2.2.data]
theorem ddata_iff (a b : Door) : PyData.eqv (ddata a) (ddata b) = true ↔ a = b := by
  show ((a.1 == b.1) && (PyData.eqvAll (a.2.1.map fdata) (b.2.1.map fdata) && (PyData.eqv a.2.2.data b.2.2.data && true))) = true ↔ _
  rw [Bool.and_true, and_iff beq_iff_eq (and_iff (eqvAll_iff fdata_iff _ _) (Kd.data_iff _ _))]
  exact ⟨fun h => Prod.ext h.1 (Prod.ext h.2.1 h.2.2), fun h => by rw [h]; exact ⟨rfl, rfl, rfl⟩⟩
theorem DoorAt.dp {K : PySem.W.Frag} {H : Hp} {v : V} {d : Door} (h : DoorAt H v d) : Dp K H v (ddata d) := by
  obtain ⟨a, b, fvs, kv, rfl, h1, h2, h3, h4⟩ := h
  exact .tup (SqT.of h1) (.cons (.str _) (.cons (.tup (SqT.of h2) (flds_dp h3)) (.cons h4.dp .nil)))
theorem doors_dp {K : PySem.W.Frag} {H : Hp} : ∀ {vs : List V} {es : List Door}, Paired (DoorAt H) vs es → DpAll K H vs (es.map ddata)
  | [], [], .nil => .nil
  | _ :: _, _ :: _, .cons h t => .cons h.dp (doors_dp t)
theorem lay_all {α : Type} {f : α → PyData} {n : Nat} : ∀ {l : List α}, (∀ a ∈ l, PyData.canLay0 (f a) = true ∧ PyData.depth (f a) ≤ n) → PyData.canLayAll0 (l.map f) = true ∧ PyData.depthAll (l.map f) ≤ n
  | [], _ => ⟨rfl, Nat.zero_le _⟩
  | a :: r, h => by
    obtain ⟨p, q⟩ := h a (by simp)
    obtain ⟨c, d⟩ := lay_all (l := r) fun b hb => h b (List.mem_cons_of_mem _ hb)
    refine ⟨?_, ?_⟩
    · show (PyData.canLay0 (f a) && PyData.canLayAll0 (r.map f)) = true
      rw [p, c]
      rfl
    · rw [List.map_cons, PyData.depthAll]
      omega
theorem goodk_lay {nms : List Str} {k : Kd} (hl : ∀ x ∈ nms, LtS x) (g : GoodK nms k) : PyData.canLay0 k.data = true ∧ PyData.depth k.data ≤ 8 := by
  have b := Kd.data_depth k
  have c := g.depth
  exact ⟨Kd.data_lay k fun x hx => (hl x (g.names x hx)).2, by omega⟩
theorem goodf_lay {nms : List Str} {f : Fld} (hl : ∀ x ∈ nms, LtS x) (g : GoodK nms f.2.1) (hn : LtA f.1) : PyData.canLay0 (fdata f) = true ∧ PyData.depth (fdata f) ≤ 9 := by
  obtain ⟨a, b⟩ := goodk_lay hl g
  have e := strOk_lt hn
  refine ⟨?_, ?_⟩
  · simp [fdata, PyData.canLay0, PyData.canLayAll0, a, e]
  · simp [fdata, PyData.depth, PyData.depthAll]
    omega
theorem gooddoor_lay {nms : List Str} {d : Door} (hl : ∀ x ∈ nms, LtS x) (g : GoodDoor nms d) : PyData.canLay0 (ddata d) = true ∧ PyData.depth (ddata d) ≤ 11 := by
  obtain ⟨a, b⟩ := goodk_lay hl g.an
  have e := strOk_lt g.nm.1.2
  obtain ⟨p, q⟩ := lay_all (f := fdata) (n := 9) (l := d.2.1) fun f hf => goodf_lay hl (g.fs.kd f hf) (g.fs.nm f hf).1.2
  refine ⟨?_, ?_⟩
  · simp [ddata, PyData.canLay0, PyData.canLayAll0, a, e, p]
  · simp [ddata, PyData.depth, PyData.depthAll]
    omega
/-! sorted texts: one arrangement alone -/
theorem rising_le {p : Str} : ∀ {l : List Str}, PyProof.Rows.risingS p l = true → ∀ x ∈ l, p.cps.toList ≤ x.cps.toList
  | [], _, x, hx => by simp at hx
  | y :: r, h, x, hx => by
    have h : (!PySem.Spec.ltCps y.cps.toList p.cps.toList && PyProof.Rows.risingS y r) = true := h
    rw [Bool.and_eq_true_iff, PyProof.Rows.ltCps_eq] at h
    have h1 : p.cps.toList ≤ y.cps.toList := by
      have := h.1
      simpa using this
    rcases List.mem_cons.mp hx with rfl | hx
    · exact h1
    · exact List.le_trans h1 (rising_le h.2 x hx)
theorem sortedS_tail {p : Str} {l : List Str} (h : PyProof.Rows.sortedS (p :: l) = true) : PyProof.Rows.sortedS l = true := by
  cases l with
  | nil => rfl
  | cons y r =>
    have h : (!PySem.Spec.ltCps y.cps.toList p.cps.toList && PyProof.Rows.risingS y r) = true := h
    exact (Bool.and_eq_true_iff.mp h).2
theorem str_le_antisymm {a b : Str} (h : a.cps.toList ≤ b.cps.toList) (k : b.cps.toList ≤ a.cps.toList) : a = b := by
  have e := List.le_antisymm h k
  have e2 : a.cps = b.cps := by rw [← Array.toArray_toList (xs := a.cps), e, Array.toArray_toList]
  cases a; cases b
  congr
theorem sortedS_one : ∀ {a b : List Str}, PyProof.Rows.sortedS a = true → PyProof.Rows.sortedS b = true → a.Perm b → a = b
  | [], b, _, _, p => (List.nil_perm.mp p).symm ▸ rfl
  | x :: l, [], _, _, p => by simpa using p.length_eq
  | x :: l, y :: m, ha, hb, p => by
    have e : x = y := by
      have hx : x ∈ y :: m := p.mem_iff.mp (by simp)
      have hy : y ∈ x :: l := p.mem_iff.mpr (by simp)
      rcases List.mem_cons.mp hx with e | hx
      · exact e
      · rcases List.mem_cons.mp hy with e | hy
        · exact e.symm
        · exact str_le_antisymm (rising_le ha y hy) (rising_le hb x hx)
    subst e
    rw [sortedS_one (sortedS_tail ha) (sortedS_tail hb) (List.Perm.cons_inv p)]
end My
namespace My
open PySem L2
/-! _law_record: the parts -/

end My
namespace My
open PySem L2
/-! a record that is being built -/
structure RecSt (nms : List Str) (ds : List (Str × Decl)) (i : Nat) (fs : List Fld) (up : List Str) : Prop where
  good : GoodF nms fs
  uonce : up.Nodup
  uin : ∀ u ∈ up, u ∈ (ds.take i).map (·.1)
  uok : ∀ u ∈ up, ∃ e, look ds u = some e ∧ (e.isHid || e.isRec) = true
  ups : upsOk ds fs up
theorem take_mono {α : Type} {l : List α} {i : Nat} {x : α} (h : x ∈ l.take i) : x ∈ l.take (i + 1) := by
  rw [List.take_succ]
  exact List.mem_append_left _ h
theorem RecSt.skip {nms : List Str} {ds : List (Str × Decl)} {i : Nat} {fs : List Fld} {up : List Str} (h : RecSt nms ds i fs up) : RecSt nms ds (i + 1) fs up :=
  ⟨h.good, h.uonce, fun u hu => by
    have := h.uin u hu
    rw [List.map_take] at this ⊢
    exact take_mono this, h.uok, h.ups⟩
theorem RecSt.up1 {nms : List Str} {ds : List (Str × Decl)} {i : Nat} {fs fs' : List Fld} {up : List Str} (nd : (ds.map (·.1)).Nodup) (h : RecSt nms ds i fs up) {p : Str × Decl} (hp : ds[i]? = some p) (hk : (p.2.isHid || p.2.isRec) = true) (g : GoodF nms fs') (hs : ∀ f ∈ fs, f ∈ fs')
    (hr : ∀ gs vp, p.2 = .record gs vp → ∀ g ∈ gs, ∃ f ∈ fs', f.1 = g.1 ∧ f.2.2 = g.2.2 ∧ Fit (Up ds) f.2.1 g.2.1) : RecSt nms ds (i + 1) fs' (up ++ [p.1]) := by
  have hpx : (ds.map (·.1))[i]? = some p.1 := by rw [List.getElem?_map, hp]; rfl
  have lk := look_at nd hp
  have nin : p.1 ∉ up := fun hm => by
    have := h.uin p.1 hm
    rw [List.map_take] at this
    exact nodup_take_not nd hpx this
  refine ⟨g, ?_, all_snoc.mpr ⟨fun u hu => h.skip.uin u hu, ?_⟩, all_snoc.mpr ⟨h.uok, p.2, lk, hk⟩, all_snoc.mpr ⟨fun u hu gs vp hl g' hg' => ?_, fun gs vp hl => ?_⟩⟩
  · rw [List.nodup_append]
    refine ⟨h.uonce, by simp, fun a ha b hb e => nin ?_⟩
    have eb : b = p.1 := by simpa using hb
    rw [← eb, ← e]
    exact ha
  · rw [← take_next hp, List.map_append]
    simp
  · obtain ⟨f, hf, r⟩ := h.ups u hu gs vp hl g' hg'
    exact ⟨f, hs f hf, r⟩
  · rw [lk] at hl
    exact hr gs vp (Option.some.inj hl)
def LessF (un : List (Str × Str)) (l m : Fld) : Prop := l.1 = m.1 ∧ l.2.2 = m.2.2 ∧ Less un m.2.1 l.2.1
theorem less_names {un : List (Str × Str)} : ∀ {ls ms : List Fld}, Paired (LessF un) ls ms → ls.map (·.1) = ms.map (·.1)
  | [], [], .nil => rfl
  | _ :: _, _ :: _, .cons h t => by rw [List.map_cons, List.map_cons, h.1, less_names t]
theorem less_in {un : List (Str × Str)} {m : Fld} : ∀ {ls ms : List Fld}, Paired (LessF un) ls ms → m ∈ ms → ∃ l ∈ ls, LessF un l m
  | [], [], .nil, h => by simp at h
  | l :: _, _ :: _, .cons h t, hm => by
    rcases List.mem_cons.mp hm with rfl | hm
    · exact ⟨l, by simp, h⟩
    · obtain ⟨l', h1, h2⟩ := less_in t hm
      exact ⟨l', List.mem_cons_of_mem _ h1, h2⟩
theorem less_out {un : List (Str × Str)} {l : Fld} : ∀ {ls ms : List Fld}, Paired (LessF un) ls ms → l ∈ ls → ∃ m ∈ ms, LessF un l m
  | [], [], .nil, h => by simp at h
  | _ :: _, m :: _, .cons h t, hm => by
    rcases List.mem_cons.mp hm with rfl | hm
    · exact ⟨m, by simp, h⟩
    · obtain ⟨l', h1, h2⟩ := less_out t hm
      exact ⟨l', List.mem_cons_of_mem _ h1, h2⟩
theorem Up.low {ds : List (Str × Decl)} {a b : Str} (u : Up ds a b) : a ∈ ds.map (·.1) := by
  induction u with
  | one g =>
    obtain ⟨d, e, _⟩ := g
    exact List.mem_map.mpr ⟨_, look_mem e, rfl⟩
  | more _ _ ih => exact ih
/-- the fields of a record above, each as it is or lesser -/
theorem RecSt.rec1 {nms : List Str} {ds : List (Str × Decl)} {un : List (Str × Str)} {i : Nat} {fs : List Fld} {up : List Str} (S : Stage nms ds un) (h : RecSt nms ds i fs up) {x : Str} {gs : List Fld} {vp : List Str} (hp : ds[i]? = some (x, .record gs vp))
    (hc : ∀ g ∈ gs, g.1 ∈ fs.map (·.1) → g ∈ fs) {ls : List Fld} (hl : Paired (LessF un) ls (gs.filter fun g => !decide (g.1 ∈ fs.map (·.1)))) (h7 : fs.length + (gs.filter fun g => !decide (g.1 ∈ fs.map (·.1))).length < 7) : RecSt nms ds (i + 1) (fs ++ ls) (up ++ [x]) := by
  have gg : GoodF nms gs := ((S.good _ (List.mem_of_getElem? hp)).good).1
  have pin : ∀ a b, (a, b) ∈ un → a ∈ nms := fun a b hab => by
    obtain ⟨p, hp, e⟩ := List.mem_map.mp (S.un a b hab).low
    rw [← e]
    exact S.sub p hp
  have names := less_names hl
  have llen := Paired.length hl
  refine RecSt.up1 S.once h hp rfl ⟨by rw [List.length_append]; omega, ?_, fun f hf => ?_, fun f hf => ?_⟩ (fun f hf => List.mem_append_left _ hf) fun gs' vp' e g hg => ?_
  · rw [List.map_append, names, List.nodup_append]
    refine ⟨h.good.once, (List.Sublist.map _ List.filter_sublist).nodup gg.once, fun a ha b hb e => ?_⟩
    obtain ⟨m, hm, rfl⟩ := List.mem_map.mp hb
    have := (List.mem_filter.mp hm).2
    rw [← e] at this
    simp only [Bool.not_eq_true', decide_eq_false_iff_not] at this
    exact this ha
  · rcases List.mem_append.mp hf with hf | hf
    · exact h.good.nm f hf
    · obtain ⟨m, hm, e, _⟩ := less_out hl hf
      rw [e]
      exact gg.nm m (List.mem_filter.mp hm).1
  · rcases List.mem_append.mp hf with hf | hf
    · exact h.good.kd f hf
    · obtain ⟨m, hm, _, _, e⟩ := less_out hl hf
      exact e.goodK pin (gg.kd m (List.mem_filter.mp hm).1)
  · have e := Decl.record.inj e
    rw [← e.1] at hg
    by_cases c : g.1 ∈ fs.map (·.1)
    · exact ⟨g, List.mem_append_left _ (hc g hg c), rfl, rfl, .refl _⟩
    · obtain ⟨l, hl2, e1, e2, e3⟩ := less_in hl (m := g) (List.mem_filter.mpr ⟨hg, by simp only [Bool.not_eq_true', decide_eq_false_iff_not]; exact c⟩)
      exact ⟨l, List.mem_append_right _ hl2, e1, e2, e3.fit S.un⟩
/-- one field of its own put in -/
theorem RecSt.put {nms : List Str} {ds : List (Str × Decl)} {i : Nat} {fs gs : List Fld} {up : List Str} (h : RecSt nms ds i fs up) {f : Fld} (p : gs.Perm (f :: fs)) (nm : Nm f.1) (kd : GoodK nms f.2.1) (nin : f.1 ∉ fs.map (·.1)) (hl : fs.length < 6) : RecSt nms ds i gs up := by
  have mem : ∀ x ∈ gs, x = f ∨ x ∈ fs := fun x hx => List.mem_cons.mp (p.mem_iff.mp hx)
  refine ⟨⟨by rw [p.length_eq]; exact hl, (p.map (·.1)).nodup_iff.mpr (List.nodup_cons.mpr ⟨nin, h.good.once⟩), fun x hx => ?_, fun x hx => ?_⟩, h.uonce, h.uin, h.uok, fun u hu gs' vp hl2 g hg => ?_⟩
  · rcases mem x hx with rfl | hx
    · exact nm
    · exact h.good.nm x hx
  · rcases mem x hx with rfl | hx
    · exact kd
    · exact h.good.kd x hx
  · obtain ⟨f', hf', r⟩ := h.ups u hu gs' vp hl2 g hg
    exact ⟨f', p.mem_iff.mpr (List.mem_cons_of_mem _ hf'), r⟩
theorem RecSt.stand {nms : List Str} {ds : List (Str × Decl)} {i : Nat} {fs : List Fld} {up : List Str} (h : RecSt nms ds i fs up) (hl : ds.length ≤ 20) : StandD nms ds (.record fs up) := by
  have lu : up.length ≤ ds.length := by
    have := nodup_sub_len h.uonce fun u hu => by
      have := h.uin u hu
      rw [List.map_take] at this
      exact List.mem_of_mem_take this
    simpa using this
  refine ⟨h.uonce, by show up.length ≤ 20; omega, List.all_eq_true.mpr fun u hu => ?_, h.good, h.ups⟩
  obtain ⟨e, he, hk⟩ := h.uok u hu
  unfold upOk
  rw [he]
  unfold mayUp
  simpa [Decl.isRec] using hk
end My
namespace My
open PySem L2
/-! _law_record -/
def spRecord : Sp := fun vs H Q _ => ∃ (d g nl dl ul : Addr) (n : Int) (nms : List Str) (dvs uvs : List V) (ds : List (Str × Decl)) (un : List (Str × Str)), vs = [.ref d, .ref nl, .ref dl, .ref ul] ∧ Tray H d g n ∧ n ≤ 600000 ∧ nl ≠ d ∧ nl ≠ g ∧ dl ≠ d ∧ dl ≠ g ∧ ul ≠ d ∧ ul ≠ g ∧
  H nl = some (.lst (nms.map V.str)) ∧ nms.length ≤ 1000 ∧ (∀ x ∈ nms, LtS x) ∧ H dl = some (.lst dvs) ∧ Paired (ItemAt H) dvs ds ∧ ds.length ≤ 12 ∧ Stage nms ds un ∧ H ul = some (.lst uvs) ∧ Paired (PairS H) uvs un ∧ un.length ≤ 10000 ∧
  ∀ (v : V) (fs : List Fld) (up : List Str) (H' : Hp), DeclAt H' v (.record fs up) → StandD nms ds (.record fs up) → Tray H' d g (n + 1000) → But d g H H' → Q v H'
def Prc (d g nl dl ul al fl : Addr) (n : Int) (nms : List Str) (ds : List (Str × Decl)) (H0 : Hp) (i : Nat) (σ : St) (H : Hp) : Prop :=
  ∃ (up : List Str) (vs : List V) (fs : List Fld) (u6 u7 u8 u9 u10 u11 u12 u13 : Option V), σ = [some (.ref d), some (.ref nl), some (.ref dl), some (.ref ul), some (.ref al), some (.ref fl), u6, u7, u8, u9, u10, u11, u12, u13] ∧
    But d g H0 H ∧ H al = some (.lst (up.map V.str)) ∧ H fl = some (.lst vs) ∧ Paired (FldAt H) vs fs ∧ RecSt nms ds i fs up ∧ Tray H d g (n + 8 * (i : Int))
theorem flat_strs {us : List Str} : (us.map V.str).all flatV = true := by
  induction us with
  | nil => rfl
  | cons x r ih => rw [List.map_cons, List.all_cons, ih]; rfl
theorem eqv_flds {fs : List Fld} : PyData.eqv (.list (fs.map fdata)) (.list []) = fs.isEmpty := by cases fs <;> rfl
def Pfilt (H0 : Hp) (D : Addr) (gs : List Fld) (pr : Fld → Bool) (i : Nat) (H : Hp) : Prop := Same H0 H ∧ ∃ ws, H D = some (.lst ws) ∧ Paired (FldAt H) ws ((gs.take i).filter pr)
theorem Pfilt.yes {H0 H : Hp} {D : Addr} {gs : List Fld} {pr : Fld → Bool} {i : Nat} {g : Fld} {v : V} (h : Pfilt H0 D gs pr i H) (nD : H0 D = none) (hg : gs[i]? = some g) (hv : FldAt H v g) (hl : gs.length ≤ 1000) (hp : pr g = true) :
    ∃ acc, H D = some (.lst acc) ∧ acc.length < sizeLine ∧ Pfilt H0 D gs pr (i + 1) (upd H D (.lst (acc ++ [v]))) := by
  obtain ⟨s, ws, hw, pw⟩ := h
  have l1 := Paired.length pw
  have l2 := List.length_filter_le pr (gs.take i)
  have l3 := List.length_take_le' i gs
  have T : Tups H (upd H D (.lst (ws ++ [v]))) := Tups.upd hw
  refine ⟨ws, hw, line5 (by omega), Same.atNew s nD, _, upd_same, ?_⟩
  rw [← take_next hg, List.filter_append, List.filter_cons_of_pos hp]
  exact pair_app (Paired.mono (fun _ _ z => FldAt.mono T z) pw) (.cons (hv.mono T) .nil)
theorem Pfilt.no {H0 H : Hp} {D : Addr} {gs : List Fld} {pr : Fld → Bool} {i : Nat} {g : Fld} (h : Pfilt H0 D gs pr i H) (hg : gs[i]? = some g) (hp : pr g = false) : Pfilt H0 D gs pr (i + 1) H := by
  obtain ⟨s, ws, hw, pw⟩ := h
  refine ⟨s, ws, hw, ?_⟩
  rw [← take_next hg, List.filter_append, List.filter_cons_of_neg (by rw [hp]; decide), List.filter_nil, List.append_nil]
  exact pw
def Pext (d g D : Addr) (n : Int) (un : List (Str × Str)) (ms : List Fld) (H0 : Hp) (i : Nat) (H : Hp) : Prop := But d g H0 H ∧ Tray H d g (n + (i : Int)) ∧ ∃ ws ls, H D = some (.lst ws) ∧ Paired (FldAt H) ws ls ∧ Paired (LessF un) ls (ms.take i)
def Pins (d g nl dl ul al fl yr : Addr) (n : Int) (nms : List Str) (ds : List (Str × Decl)) (L : Nat) (up ys : List Str) (fs0 : List Fld) (H0 : Hp) (i : Nat) (σ : St) (H : Hp) : Prop :=
  ∃ (vs : List V) (fs : List Fld) (u6 u7 u8 u9 u10 u11 u12 u13 : Option V), σ = [some (.ref d), some (.ref nl), some (.ref dl), some (.ref ul), some (.ref al), some (.ref fl), u6, u7, u8, u9, u10, u11, u12, u13] ∧
    But d g H0 H ∧ H al = some (.lst (up.map V.str)) ∧ H fl = some (.lst vs) ∧ H yr = some (.lst (ys.map V.str)) ∧ Paired (FldAt H) vs fs ∧ RecSt nms ds L fs up ∧ (∀ z, z ∈ fs.map (·.1) ↔ z ∈ fs0.map (·.1) ∨ z ∈ ys.take i) ∧ fs.length = fs0.length + i ∧ Tray H d g (n + 60 * (i : Int))
section
variable {P : Program} {w : World} {K : PySem.W.Frag} {mg : Str → Option Value} {base : Heap} {f : Addr} {fd : FuncData} {aT aF : Addr}
theorem ok_lrecord (B : Bn mg) (F : Fun K "_law_record" "_law_record" s__law_record f fd) (c__law_draw : Cal P w K mg base "_law_draw" 1 ["tray", "many"] spDraw) (c__law_names : Cal P w K mg base "_law_names" 3 ["tray", "many", "used"] spNames) (c__law_kind : Cal P w K mg base "_law_kind" 11 ["tray", "names", "deep"] (spKind 4))
    (c__law_lesser : Cal P w K mg base "_law_lesser" 6 ["tray", "kind", "under"] (spLess 4)) : FnOk P w K mg base CX0 12 f fd ["tray", "names", "done", "under"] spRecord := by
  refine F.ok sc__law_record (fun vs H Q E h => ?_) (fun cdv A outer s H vs Q E hr h => ?_)
  · obtain ⟨d, g, nl, dl, ul, n, nms, dvs, uvs, ds, un, rfl, _⟩ := h
    rfl
  obtain ⟨d, g, nl, dl, ul, n, nms, dvs, uvs, ds, un, rfl, D, hn, nld, nlg, dld, dlg, uld, ulg, hnl, h1000, hlt, hdl, pd, lds, S, hul, pu, lun, q⟩ := h
  refine ⟨_, (pss_cons (ps_set (i := 4) sc__law_record.nd rfl (Or.inl rfl) (pe_lst pa_nil))
    (pss_cons (ps_set (i := 5) sc__law_record.nd rfl (Or.inr rfl) (pe_lst pa_nil))
    (pss_cons (ps_for PassesOwn.never rfl (piL K rfl (pv 2)) (pg_tup rfl (pgs_cons (pg_name (i := 7) sc__law_record.nd rfl (Or.inl rfl)) (pgs_cons (pg_name (i := 8) sc__law_record.nd rfl (Or.inl rfl)) pgs_nil))) (pss_cons (ps_set (i := 9) sc__law_record.nd rfl (Or.inl rfl) (pe_cmpR op_eq (pc c__law_draw (hr.mono (by first | decide | omega)) (pa_cons (pv 0) (pa_cons pe_int pa_nil))) pe_int (nomark _)))
    (pss_cons (ps_if (PW.pt (pw_and (pt_val (pv 9)) (pw_and1 (pt_cmpR op_eq (pe_ix (ixT K rfl) (pv 8) pe_int (fun _ _ => rfl)) pe_str (nomark _))))) (pss_one (ps_expr (pe_bm PySem.F.plainAttrs_list PySem.F.slot_list_append PySem.F.type_list_append mt_append (pv 4) (pa_cons (pv 7) pa_nil)))) pss_nil)
    (pss_one (ps_if (PW.pt (pw_and (pt_val (pv 9)) (pw_and1 (pt_cmpR op_eq (pe_ix (ixT K rfl) (pv 8) pe_int (fun _ _ => rfl)) pe_str (nomark _))))) (pss_cons (ps_set (i := 10) sc__law_record.nd rfl (Or.inr rfl) (pe_lc (own := [("row", 13)]) (g := (gName 13)) rfl sc__law_record.nd (piL K rfl (pv 5)) (blkOk_by (N := ["tray", "names", "done", "under", "above", "fields", "field", "name", "declaration", "takes", "own", "more", "clash", "row"]) (sc := defScope s__law_record) (by decide +kernel)) (fun _ _ _ _ _ => (pg_name (i := 13) sc__law_record.nd rfl (Or.inl rfl) (hf := Or.inr rfl))) (fun _ _ _ _ _ => pts_nil) (fun _ _ _ _ _ => (pe_ix (ixT K rfl) (pv 13) pe_int (fun _ _ => rfl)))))
    (pss_cons (ps_setLc (i := 11) (own := [("row", 13)]) (g := (gName 13)) rfl sc__law_record.nd rfl rfl (sw_true rfl rfl rfl (by decide +kernel)) (piT K rfl (pe_ix (ixT K rfl) (pv 8) pe_int (fun _ _ => rfl))) (blkOk_by (N := ["tray", "names", "done", "under", "above", "fields", "field", "name", "declaration", "takes", "own", "more", "clash", "row"]) (sc := defScope s__law_record) (by decide +kernel)) (fun _ _ _ _ _ => (pg_name (i := 13) sc__law_record.nd rfl (Or.inl rfl) (hf := Or.inr rfl))) (fun _ _ _ _ _ => (pts_one (pt_cmpR (notInSeq K rfl) (pe_ix (ixT K rfl) (pv 13) pe_int (fun _ _ => rfl)) (pv 10) (by rfl)))) (fun _ _ _ _ _ => (pv 13)))
    (pss_cons (ps_setLc (i := 12) (own := [("row", 13)]) (g := (gName 13)) rfl sc__law_record.nd rfl rfl (sw_true rfl rfl rfl (by decide +kernel)) (piT K rfl (pe_ix (ixT K rfl) (pv 8) pe_int (fun _ _ => rfl))) (blkOk_by (N := ["tray", "names", "done", "under", "above", "fields", "field", "name", "declaration", "takes", "own", "more", "clash", "row"]) (sc := defScope s__law_record) (by decide +kernel)) (fun _ _ _ _ _ => (pg_name (i := 13) sc__law_record.nd rfl (Or.inl rfl) (hf := Or.inr rfl))) (fun _ _ _ _ _ => (pts_one (PW.pt (pw_and (pt_cmpR (inSeq K rfl) (pe_ix (ixT K rfl) (pv 13) pe_int (fun _ _ => rfl)) (pv 10) (by rfl)) (pw_and1 (pt_cmpR (notInDeep K rfl (units65 hr)) (pv 13) (pv 5) (by rfl))))))) (fun _ _ _ _ _ => (pv 13)))
    (pss_one (ps_if (PW.pt (pw_and (pt_cmpR (eqD K rfl hr.units) (pv 12) (pe_lst pa_nil) (nomark _)) (pw_and1 (pt_cmpR op_lt (pe_op op_add (pe_callB (lenSeq K rfl) (by rfl) B.b_len PySem.boot_len (pa_cons (pv 5) pa_nil)) (pe_callB (lenSeq K rfl) (by rfl) B.b_len PySem.boot_len (pa_cons (pv 11) pa_nil))) pe_int (nomark _))))) (pss_cons (ps_expr (pe_bm PySem.F.plainAttrs_list PySem.F.slot_list_append PySem.F.type_list_append mt_append (pv 4) (pa_cons (pv 7) pa_nil)))
    (pss_one (ps_expr (pe_bm PySem.F.plainAttrs_list PySem.F.slot_list_extend PySem.F.type_list_extend mt_extend (pv 5) (pa_cons (pe_lc (own := [("row", 13)]) (g := (gName 13)) rfl sc__law_record.nd (piL K rfl (pv 11)) (blkOk_by (N := ["tray", "names", "done", "under", "above", "fields", "field", "name", "declaration", "takes", "own", "more", "clash", "row"]) (sc := defScope s__law_record) (by decide +kernel)) (fun _ _ _ _ _ => (pg_name (i := 13) sc__law_record.nd rfl (Or.inl rfl) (hf := Or.inr rfl))) (fun _ _ _ _ _ => pts_nil) (fun _ _ _ _ _ => (pe_tup (pa_cons (pe_ix (ixT K rfl) (pv 13) pe_int (fun _ _ => rfl)) (pa_cons (pc c__law_lesser (hr.mono (by first | decide | omega)) (pa_cons (pv 0) (pa_cons (pe_ix (ixT K rfl) (pv 13) pe_int (fun _ _ => rfl)) (pa_cons (pv 3) pa_nil)))) (pa_cons (pe_ix (ixT K rfl) (pv 13) pe_int (fun _ _ => rfl)) pa_nil)))))) pa_nil))))) pss_nil))))) pss_nil)))))
    (pss_cons (ps_for PassesOwn.never rfl (piL K rfl (pc c__law_names (hr.mono (by first | decide | omega)) (pa_cons (pv 0) (pa_cons (pc c__law_draw (hr.mono (by first | decide | omega)) (pa_cons (pv 0) (pa_cons (pe_callB (call_max2 rfl) (by rfl) B.b_max (by decide +kernel) (pa_cons pe_int (pa_cons (pe_op op_sub pe_int (pe_callB (lenSeq K rfl) (by rfl) B.b_len PySem.boot_len (pa_cons (pv 5) pa_nil))) pa_nil))) pa_nil))) (pa_cons (pe_lc (own := [("row", 13)]) (g := (gName 13)) rfl sc__law_record.nd (piL K rfl (pv 5)) (blkOk_by (N := ["tray", "names", "done", "under", "above", "fields", "field", "name", "declaration", "takes", "own", "more", "clash", "row"]) (sc := defScope s__law_record) (by decide +kernel)) (fun _ _ _ _ _ => (pg_name (i := 13) sc__law_record.nd rfl (Or.inl rfl) (hf := Or.inr rfl))) (fun _ _ _ _ _ => pts_nil) (fun _ _ _ _ _ => (pe_ix (ixT K rfl) (pv 13) pe_int (fun _ _ => rfl)))) pa_nil))))) (pg_name (i := 6) sc__law_record.nd rfl (Or.inl rfl)) (pss_one (ps_expr (pe_bm PySem.F.plainAttrs_list PySem.F.slot_list_insert PySem.F.type_list_insert mt_insert (pv 5) (pa_cons (pc c__law_draw (hr.mono (by first | decide | omega)) (pa_cons (pv 0) (pa_cons (pe_op op_add (pe_callB (lenSeq K rfl) (by rfl) B.b_len PySem.boot_len (pa_cons (pv 5) pa_nil)) pe_int) pa_nil))) (pa_cons (pe_tup (pa_cons (pv 6) (pa_cons (pc c__law_kind (hr.mono (by first | decide | omega)) (pa_cons (pv 0) (pa_cons (pv 1) (pa_cons pe_int pa_nil)))) (pa_cons (pe_cmpR op_eq (pc c__law_draw (hr.mono (by first | decide | omega)) (pa_cons (pv 0) (pa_cons pe_int pa_nil))) pe_int (nomark _)) pa_nil)))) pa_nil))))))
    (pss_one (ps_ret (pe_tup (pa_cons pe_str (pa_cons (pe_callTy (tupleOf K rfl) (by rfl) B.b_tuple (by decide +kernel) (pa_cons (pv 5) pa_nil)) (pa_cons (pe_callTy (tupleOf K rfl) (by rfl) B.b_tuple (by decide +kernel) (pa_cons (pv 4) pa_nil)) pa_nil)))))))))), ?_⟩
  refine ⟨Nat.zero_le _, fun al nal => ⟨Nat.zero_le _, fun fl nfl => ?_⟩⟩
  have neal := D.ne nal
  have D0 := D.new (o := .lst []) nal
  have nefl := D0.ne nfl
  have nfl0 : H fl = none := (same_new nal (.lst [])).free nfl
  have naf : al ≠ fl := ne_of_none (H := upd H al (.lst [])) upd_same nfl
  have D1 := D0.new (o := .lst []) nfl
  have B1 := ((But.refl d g H).new (o := .lst []) nal).new (o := .lst []) nfl
  have hal1 : (upd (upd H al (.lst [])) fl (.lst [])) al = some (.lst []) := same_new nfl _ _ _ upd_same
  have hfl1 : (upd (upd H al (.lst [])) fl (.lst [])) fl = some (.lst []) := upd_same
  generalize upd (upd H al (.lst [])) fl (.lst []) = H1 at D1 B1 hal1 hfl1
  refine ⟨_, rfl, dl, rfl, ⟨_, SqL.of (B1 _ _ dld dlg hdl)⟩, for_list (xs := dvs) (Prc d g nl dl ul al fl n nms ds H) ?_ ?_ ?_ ?_⟩
  · exact ⟨[], [], [], none, none, none, none, none, none, none, none, rfl, B1, hal1, hfl1, .nil, ⟨⟨by simp, .nil, fun f hf => by simp at hf, fun f hf => by simp at hf⟩, .nil, fun u hu => by simp at hu, fun u hu => by simp at hu, fun u hu => by simp at hu⟩, D1.le (by simp)⟩
  · rintro i σ H2 _ ⟨up, vs, fs, u6, u7, u8, u9, u10, u11, u12, u13, rfl, b2, _⟩
    exact SqL.of (b2 _ _ dld dlg hdl)
  · rintro i x σ H2 hx ⟨up, vs, fs, u6, u7, u8, u9, u10, u11, u12, u13, rfl, b2, hal, hfl, pf, R, D2⟩
    obtain ⟨p, hp, c, dv, rfl, hc, hdv⟩ := Paired.at pd i x hx
    have hil : i < ds.length := (List.getElem?_eq_some_iff.mp hp).1
    have T2 := D.tups b2
    have lvs := Paired.length pf
    refine ⟨c, _, rfl, SqT.of (T2 _ _ hc), rfl, _, _, rfl, _, _, rfl, rfl, ?_⟩
    refine ⟨_, rfl, d, g, 3, _, rfl, D2, by decide, by decide, by omega, fun b H3 b0 b1 D3 B3 => ⟨rfl, ?_⟩⟩
    have b3 := b2.trans B3
    have T3 := T2.trans (D2.tups B3)
    have hal3 := B3 _ _ neal.1 neal.2 hal
    have hfl3 := B3 _ _ nefl.1 nefl.2 hfl
    have pf3 := Paired.mono (fun _ _ z => FldAt.mono (D2.tups B3) z) pf
    have hdv3 := hdv.mono T3
    have lup : up.length ≤ 12 := by
      have := nodup_sub_len R.uonce fun u hu => by
        have := R.uin u hu
        rw [List.map_take] at this
        exact List.mem_of_mem_take this
      rw [List.length_map] at this
      omega
    generalize decide (V.int b = V.int 0) = tk
    refine ⟨_, rfl, _, rfl, ?_⟩
    cases tk with
    | false => exact iteF (iteF ⟨_, rfl, _, rfl, iteF (iteF ⟨up, vs, fs, _, _, _, _, _, _, _, _, rfl, b3, hal3, hfl3, pf3, R.skip, D3.le (by omega)⟩)⟩)
    | true =>
      refine iteT ?_
      obtain ⟨x, e⟩ := p
      cases hdv3 with
      | @choice a' b' cvs cs sh ha hb' pc =>
        refine ⟨_, rfl, _, _, _, _, rfl, rfl, SqT.of ha, at_of rfl rfl, rfl, _, rfl, ifF rfl ?_⟩
        exact ⟨_, rfl, _, rfl, iteT ⟨_, rfl, _, _, _, _, rfl, rfl, SqT.of ha, at_of rfl rfl, rfl, _, rfl, ifF rfl ⟨up, vs, fs, _, _, _, _, _, _, _, _, rfl, b3, hal3, hfl3, pf3, R.skip, D3.le (by omega)⟩⟩⟩
      | @hidden a' c' vp ha hc' =>
        refine ⟨_, rfl, _, _, _, _, rfl, rfl, SqT.of ha, at_of rfl rfl, rfl, _, rfl, ifT rfl ?_⟩
        refine ⟨_, rfl, tyL hal3, _, rfl, al, _, _, rfl, rfl, hal3, line5 (by rw [List.length_map]; omega), ?_⟩
        have T4 : Tups H3 (upd H3 al (.lst (up.map V.str ++ [V.str x]))) := Tups.upd hal3
        refine ⟨_, rfl, _, rfl, iteT ⟨_, rfl, _, _, _, _, rfl, rfl, SqT.of (T4 _ _ ha), at_of rfl rfl, rfl, _, rfl, ifF rfl ⟨up ++ [x], vs, fs, _, _, _, _, _, _, _, _, rfl, b3.atNew nal, by rw [upd_same, List.map_append]; rfl, by rw [upd_ne naf.symm]; exact hfl3, Paired.mono (fun _ _ z => FldAt.mono T4 z) pf3, ?_, (D3.at neal.1 neal.2).le (by omega)⟩⟩⟩
        exact R.up1 S.once hp rfl R.good (fun f hf => hf) fun gs vp' e => by cases e
      | @record a' b' c' gvs gs vp ha hb' pg hc' =>
        refine ⟨_, rfl, _, _, _, _, rfl, rfl, SqT.of ha, at_of rfl rfl, rfl, _, rfl, ifF rfl ?_⟩
        refine ⟨_, rfl, _, rfl, iteT ⟨_, rfl, _, _, _, _, rfl, rfl, SqT.of ha, at_of rfl rfl, rfl, _, rfl, ifT rfl ?_⟩⟩
        have gg : GoodF nms gs := ((S.good _ (List.mem_of_getElem? hp)).good).1
        have lgs := gg.len
        have lgv := Paired.length pg
        have lfs := R.good.len
        have fok : ∀ f ∈ fs, f.2.1.fine ∧ LtA f.1 := fun f hf => ⟨(R.good.kd f hf).fine hlt, (R.good.nm f hf).1.2⟩
        have gok : ∀ g ∈ gs, g.2.1.fine ∧ LtA g.1 := fun f hf => ⟨(gg.kd f hf).fine hlt, (gg.nm f hf).1.2⟩
        refine ⟨_, rfl, fl, rfl, ⟨_, SqL.of hfl3⟩, fun Do nDo => lc_list (xs := vs) (Pstr H3 Do (fs.map (·.1))) ?_ ?_ ?_ ?_⟩
        · exact ⟨same_new nDo _, upd_same⟩
        · exact fun i2 H4 _ p => SqL.of (p.1 _ _ hfl3)
        · rintro i2 y H4 hy ps
          obtain ⟨f0, hf0, c0, kv0, rfl, hc0, hk0⟩ := Paired.at pf3 i2 y hy
          refine ⟨rfl, _, rfl, _, _, _, _, rfl, rfl, SqT.of (ps.1 _ _ hc0), at_of rfl rfl, ?_⟩
          exact ps.put (Same.refl _) nDo (by rw [List.getElem?_map, hf0]; rfl) (by rw [List.length_map]; omega)
        rintro H4 ⟨s4, hown⟩
        rw [show vs.length = (fs.map (·.1)).length by rw [List.length_map, lvs], List.take_length] at hown
        have neo := D3.ne nDo
        have pg4 := Paired.mono (fun _ _ z => FldAt.mono (Tups.of_same s4) z) pg
        refine ⟨_, rfl, _, _, _, _, rfl, rfl, SqT.of (s4 _ _ ha), at_of (j := 1) rfl rfl, b', rfl, ⟨_, SqT.of (s4 _ _ hb')⟩, fun Dm nDm => lc_tup (xs := gvs) (Pfilt H4 Dm gs fun g => !decide (g.1 ∈ fs.map (·.1))) ?_ ?_ ?_ ?_⟩
        · exact ⟨same_new nDm _, [], upd_same, .nil⟩
        · exact fun i2 H5 _ p => SqT.of (p.1 _ _ (s4 _ _ hb'))
        · rintro i2 y H5 hy ps
          obtain ⟨g0, hg0, hfg0⟩ := Paired.at pg4 i2 y hy
          obtain ⟨c0, kv0, rfl, hc0, hk0⟩ := id hfg0
          refine ⟨rfl, _, rfl, _, _, _, _, rfl, rfl, SqT.of (ps.1 _ _ hc0), at_of rfl rfl, _, rfl, Do, _, rfl, .inl (SqL.of (ps.1 _ _ hown)), rfl, flat_strs, _, rfl, ?_⟩
          rw [show (if true = true then !inV (.str g0.1) ((fs.map (·.1)).map V.str) else inV (.str g0.1) ((fs.map (·.1)).map V.str)) = !decide (g0.1 ∈ fs.map (·.1)) by rw [if_pos rfl, inV_str]]
          cases e0 : decide (g0.1 ∈ fs.map (·.1)) with
          | false =>
            obtain ⟨acc, h1, h2, h3⟩ := ps.yes nDm hg0 (FldAt.mono (Tups.of_same ps.1) hfg0) (by omega) (by rw [e0]; rfl)
            exact iteT ⟨_, rfl, acc, h1, h2, h3⟩
          | true => exact iteF (ps.no hg0 (by rw [e0]; rfl))
        rintro H5 ⟨s5, mvs, hmore, pmo⟩
        rw [lgv, List.take_length] at pmo
        have s35 := s4.trans s5
        have D5 := D3.same s35
        have nem := (D3.same s4).ne nDm
        have pg5 := Paired.mono (fun _ _ z => FldAt.mono (Tups.of_same s35) z) pg
        have pf5 := Paired.mono (fun _ _ z => FldAt.mono (Tups.of_same s35) z) pf3
        have hfl5 := s35 _ _ hfl3
        have hown5 := s5 _ _ hown
        refine ⟨_, rfl, _, _, _, _, rfl, rfl, SqT.of (s35 _ _ ha), at_of (j := 1) rfl rfl, b', rfl, ⟨_, SqT.of (s35 _ _ hb')⟩, fun Dc nDc => lc_tup (xs := gvs) (Pfilt H5 Dc gs fun g => decide (g.1 ∈ fs.map (·.1)) && !decide (g ∈ fs)) ?_ ?_ ?_ ?_⟩
        · exact ⟨same_new nDc _, [], upd_same, .nil⟩
        · exact fun i2 H6 _ p => SqT.of (p.1 _ _ (s35 _ _ hb'))
        · rintro i2 y H6 hy ps
          obtain ⟨g0, hg0, hfg0⟩ := Paired.at pg5 i2 y hy
          obtain ⟨c0, kv0, rfl, hc0, hk0⟩ := id hfg0
          refine ⟨rfl, _, rfl, _, _, _, _, rfl, rfl, SqT.of (ps.1 _ _ hc0), at_of rfl rfl, _, rfl, Do, _, rfl, .inl (SqL.of (ps.1 _ _ hown5)), rfl, flat_strs, _, rfl, ?_⟩
          rw [show (if false = true then !inV (.str g0.1) ((fs.map (·.1)).map V.str) else inV (.str g0.1) ((fs.map (·.1)).map V.str)) = decide (g0.1 ∈ fs.map (·.1)) by rw [if_neg (by decide), inV_str]]
          cases e0 : decide (g0.1 ∈ fs.map (·.1)) with
          | false => exact iteF (iteF (ps.no hg0 (by rw [e0]; rfl)))
          | true =>
            have T6 := Tups.of_same ps.1
            refine iteT ⟨_, rfl, _, rfl, fdata g0, fs.map fdata, (hfg0.mono T6).dp, .lst (SqL.of (ps.1 _ _ hfl5)) (flds_dp (Paired.mono (fun _ _ z => FldAt.mono T6 z) pf5)), fld_shaped (gok g0 (List.mem_of_getElem? hg0)).1 (gok g0 (List.mem_of_getElem? hg0)).2, flds_shaped fok, _, rfl, ?_⟩
            rw [flds_any]
            cases e1 : decide (g0 ∈ fs) with
            | false =>
              obtain ⟨acc, h1, h2, h3⟩ := ps.yes nDc hg0 (hfg0.mono T6) (by omega) (by rw [e0, e1]; rfl)
              exact iteT ⟨_, rfl, acc, h1, h2, h3⟩
            | true => exact iteF (ps.no hg0 (by rw [e0, e1]; rfl))
        rintro H6 ⟨s6, cvs, hcl, pcl⟩
        rw [lgv, List.take_length] at pcl
        have s36 := s35.trans s6
        have D6 := D3.same s36
        have b6 := b3.trans (But.of_same s36)
        have hal6 := s36 _ _ hal3
        have hfl6 := s36 _ _ hfl3
        have hmore6 := s6 _ _ hmore
        have T6 := Tups.of_same s36
        have pf6 := Paired.mono (fun _ _ z => FldAt.mono T6 z) pf3
        have pmo6 := Paired.mono (fun _ _ z => FldAt.mono (Tups.of_same s6) z) pmo
        have lmo := Paired.length pmo
        refine ⟨_, rfl, Nat.zero_le _, fun ep nep => ?_⟩
        have se := same_new nep (.lst [])
        refine ⟨.list ((gs.filter fun g => decide (g.1 ∈ fs.map (·.1)) && !decide (g ∈ fs)).map fdata), .list [], .lst (SqL.of (se _ _ hcl)) (flds_dp (Paired.mono (fun _ _ z => FldAt.mono (Tups.of_same se) z) pcl)), .lst (SqL.of upd_same) .nil, flds_shaped (fun g hg => gok g (List.mem_filter.mp hg).1), rfl, _, rfl, ?_⟩
        have D7 := D6.same se
        have b7 := b6.trans (But.of_same se)
        have hal7 := se _ _ hal6
        have hfl7 := se _ _ hfl6
        have hmore7 := se _ _ hmore6
        have pf7 := Paired.mono (fun _ _ z => FldAt.mono (Tups.of_same se) z) pf6
        have pmo7 := Paired.mono (fun _ _ z => FldAt.mono (Tups.of_same se) z) pmo6
        generalize upd H6 ep (.lst []) = H7 at D7 b7 hal7 hfl7 hmore7 pf7 pmo7
        have skip : ∀ u10 u11 u12 : Option V, Prc d g nl dl ul al fl n nms ds H (i + 1) [some (.ref d), some (.ref nl), some (.ref dl), some (.ref ul), some (.ref al), some (.ref fl), u6, some (.str x), some (.ref a'), some (.bl true), u10, u11, u12, u13] H7 := fun _ _ _ => ⟨up, vs, fs, _, _, _, _, _, _, _, _, rfl, b7, hal7, hfl7, pf7, R.skip, D7.le (by omega)⟩
        rw [eqv_flds]
        cases ecl : (gs.filter fun g => decide (g.1 ∈ fs.map (·.1)) && !decide (g ∈ fs)) with
        | cons g0 r0 => exact iteF (iteF (skip _ _ _))
        | nil =>
          refine iteT ?_
          refine ⟨_, rfl, fl, _, rfl, .inl (SqL.of hfl7), _, rfl, Dm, _, rfl, .inl (SqL.of hmore7), _, _, rfl, rfl, _, _, rfl, rfl, _, rfl, ite2 (fun c7 => ?_) (fun c7 => ?_)⟩
          · have c7 := of_decide_eq_true c7
            have hc7 : ∀ g ∈ gs, g.1 ∈ fs.map (·.1) → g ∈ fs := fun g hg h1 => by
              by_cases h2 : g ∈ fs
              · exact h2
              · have : g ∈ gs.filter fun g => decide (g.1 ∈ fs.map (·.1)) && !decide (g ∈ fs) := List.mem_filter.mpr ⟨hg, by rw [decide_eq_true h1, decide_eq_false h2]; rfl⟩
                rw [ecl] at this
                cases this
            refine ⟨_, rfl, tyL hal7, _, rfl, al, _, _, rfl, rfl, hal7, line5 (by rw [List.length_map]; omega), ?_⟩
            have T8 : Tups H7 (upd H7 al (.lst (up.map V.str ++ [V.str x]))) := Tups.upd hal7
            have b8 : But d g H (upd H7 al (.lst (up.map V.str ++ [V.str x]))) := b7.atNew nal
            have D8 := D7.at (o := .lst (up.map V.str ++ [V.str x])) neal.1 neal.2
            have hal8 : (upd H7 al (.lst (up.map V.str ++ [V.str x]))) al = some (.lst ((up ++ [x]).map V.str)) := by rw [upd_same, List.map_append]; rfl
            have hfl8 : (upd H7 al (.lst (up.map V.str ++ [V.str x]))) fl = some (.lst vs) := by rw [upd_ne naf.symm]; exact hfl7
            have nDal : Dm ≠ al := (ne_of_none (s4 _ _ hal3) nDm).symm
            have hmore8 : (upd H7 al (.lst (up.map V.str ++ [V.str x]))) Dm = some (.lst mvs) := by rw [upd_ne nDal]; exact hmore7
            have pf8 := Paired.mono (fun _ _ z => FldAt.mono T8 z) pf7
            have pmo8 := Paired.mono (fun _ _ z => FldAt.mono T8 z) pmo7
            generalize upd H7 al (.lst (up.map V.str ++ [V.str x])) = H8 at T8 b8 D8 hal8 hfl8 hmore8 pf8 pmo8
            refine ⟨_, rfl, tyL hfl8, _, rfl, Dm, rfl, ⟨_, SqL.of hmore8⟩, fun De nDe => lc_list (xs := mvs) (Pext d g De (n + 8 * (i : Int) + 1) un (gs.filter fun g => !decide (g.1 ∈ fs.map (·.1))) H8) ?_ ?_ ?_ ?_⟩
            · exact ⟨(But.refl d g H8).new nDe, (D8.new nDe).le (by simp), [], [], upd_same, .nil, .nil⟩
            · exact fun i2 H9 _ p => SqL.of (p.1 _ _ nem.1 nem.2 hmore8)
            · rintro i2 y H9 hy ⟨b9, D9, ws, ls, hws, pws, pls⟩
              obtain ⟨m0, hm0, hfm0⟩ := Paired.at pmo8 i2 y hy
              have hil2 := (List.getElem?_eq_some_iff.mp hm0).1
              have T9 := D8.tups b9
              obtain ⟨c0, kv0, rfl, hc0, hk0⟩ := FldAt.mono T9 hfm0
              have gk := gg.kd m0 (List.mem_filter.mp (List.mem_of_getElem? hm0)).1
              have bH9 := b8.trans b9
              have nee := D8.ne nDe
              have lws := Paired.length pws
              have lls := Paired.length pls
              have l3 := List.length_take_le' i2 (gs.filter fun g => !decide (g.1 ∈ fs.map (·.1)))
              have l4 := List.length_filter_le (fun g => !decide (g.1 ∈ fs.map (·.1))) gs
              refine ⟨rfl, _, rfl, _, _, _, _, rfl, rfl, SqT.of hc0, at_of rfl rfl, _, rfl, _, rfl, _, _, _, _, rfl, rfl, SqT.of hc0, at_of (j := 1) rfl rfl, _, rfl, d, g, ul, _, kv0, m0.2.1, uvs, un, rfl, by decide, D9, by omega, uld, ulg, hk0, gk.plain, gk.depth, bH9 _ _ uld ulg hul, Paired.mono (fun _ _ z => PairS.mono (D.tups bH9) z) pu, lun, fun v' k' H10 hk' hless D10 B10 => ?_⟩
              have T10 := D9.tups B10
              refine ⟨_, rfl, _, _, _, _, rfl, rfl, SqT.of (T10 _ _ hc0), at_of (j := 2) rfl rfl, (by show 3 ≤ sizeLine; decide), fun t nt => ?_⟩
              have st := same_new nt (.tup [.str m0.1, v', .bl m0.2.2])
              have hws11 := st _ _ (B10 _ _ nee.1 nee.2 hws)
              have T12 : Tups _ (upd _ De (.lst (ws ++ [V.ref t]))) := Tups.upd hws11
              refine ⟨ws, hws11, line5 (by omega), ((b9.trans B10).new nt).atNew nDe, ((D10.new nt).at nee.1 nee.2).le (by omega), ws ++ [.ref t], ls ++ [(m0.1, k', m0.2.2)], upd_same, pair_app (Paired.mono (fun _ _ z => FldAt.mono ((T10.trans (Tups.of_same st)).trans T12) z) pws) (.cons ⟨t, v', rfl, T12 _ _ upd_same, (hk'.mono (Tups.of_same st)).mono T12⟩ .nil), ?_⟩
              rw [← take_next hm0]
              exact pair_app pls (.cons ⟨rfl, rfl, hless⟩ .nil)
            rintro H9 ⟨b9, D9, ws, ls, hws, pws, pls⟩
            rw [lmo, List.take_length] at pls
            have lws := Paired.length pws
            have lls := Paired.length pls
            have hfl9 := b9 _ _ nefl.1 nefl.2 hfl8
            have hal9 := b9 _ _ neal.1 neal.2 hal8
            have T9 := D8.tups b9
            have T10 : Tups H9 (upd H9 fl (.lst (vs ++ ws))) := Tups.upd hfl9
            have h7 : fs.length + (gs.filter fun g => !decide (g.1 ∈ fs.map (·.1))).length < 7 := by omega
            refine ⟨fl, De, vs, ws, rfl, rfl, hfl9, hws, Nat.le_of_lt (line5 (by omega)), ?_⟩
            refine ⟨up ++ [x], vs ++ ws, fs ++ ls, _, _, _, _, _, _, _, _, rfl, (b8.trans b9).atNew nfl0, by rw [upd_ne naf]; exact hal9, upd_same, pair_app (Paired.mono (fun _ _ z => FldAt.mono (T9.trans T10) z) pf8) (Paired.mono (fun _ _ z => FldAt.mono T10 z) pws), R.rec1 S hp hc7 pls h7, (D9.at nefl.1 nefl.2).le (by rw [lmo]; omega)⟩
          · exact skip _ _ _
  · rintro σ H2 ⟨up, vs, fs, u6, u7, u8, u9, u10, u11, u12, u13, rfl, b2, hal, hfl, pf, R, D2⟩
    have lvs := Paired.length pf
    have lfs := R.good.len
    have ldv : dvs.length = ds.length := Paired.length pd
    obtain ⟨mx, hmx⟩ : ∃ mx : Int, (if 5 - ((vs.length : Nat) : Int) > 1 then 5 - ((vs.length : Nat) : Int) else 1) = mx := ⟨_, rfl⟩
    have mx1 : 1 ≤ mx ∧ mx ≤ 5 ∧ mx + fs.length ≤ 7 ∧ (4 < fs.length → mx = 1) ∧ (fs.length ≤ 4 → mx = 5 - (fs.length : Int)) := by
      rw [← hmx, lvs]
      split <;> omega
    refine ⟨_, rfl, _, rfl, _, rfl, fl, _, rfl, .inl (SqL.of hfl), _, _, rfl, rfl, 1, 5 - ((vs.length : Nat) : Int), rfl, ?_⟩
    rw [hmx]
    refine ⟨d, g, mx, _, rfl, D2, by omega, by omega, by omega, fun m H3 m0 m1 D3 B3 => ?_⟩
    have hfl3 := B3 _ _ nefl.1 nefl.2 hfl
    have pf3 := Paired.mono (fun _ _ z => FldAt.mono (D2.tups B3) z) pf
    refine ⟨_, rfl, fl, rfl, ⟨_, SqL.of hfl3⟩, fun Dn nDn => lc_list (xs := vs) (Pstr H3 Dn (fs.map (·.1))) ?_ ?_ ?_ ?_⟩
    · exact ⟨same_new nDn _, upd_same⟩
    · exact fun i2 H4 _ p => SqL.of (p.1 _ _ hfl3)
    · rintro i2 y H4 hy ps
      obtain ⟨f0, hf0, c0, kv0, rfl, hc0, hk0⟩ := Paired.at pf3 i2 y hy
      refine ⟨rfl, _, rfl, _, _, _, _, rfl, rfl, SqT.of (ps.1 _ _ hc0), at_of rfl rfl, ?_⟩
      exact ps.put (Same.refl _) nDn (by rw [List.getElem?_map, hf0]; rfl) (by rw [List.length_map]; omega)
    rintro H4 ⟨s4, hnm4⟩
    rw [show vs.length = (fs.map (·.1)).length by rw [List.length_map, lvs], List.take_length] at hnm4
    have nen := D3.ne nDn
    have D4 := D3.same s4
    have b4 := (b2.trans B3).trans (But.of_same s4)
    refine ⟨d, g, Dn, _, m.toNat, fs.map (·.1), by rw [Int.toNat_of_nonneg m0]; rfl, D4, by omega, nen.1, nen.2, hnm4, by rw [List.length_map]; omega, fun x hx => ?_, fun yr ys H5 nyr hyr lys nmys ndys D5 B5 => ?_⟩
    · obtain ⟨f0, hf0, rfl⟩ := List.mem_map.mp hx
      exact (R.good.nm f0 hf0).1
    have hal4 := s4 _ _ (B3 _ _ neal.1 neal.2 hal)
    have hfl4 := s4 _ _ hfl3
    have nyral : yr ≠ al := (ne_of_none hal4 nyr).symm
    have nyrfl : yr ≠ fl := (ne_of_none hfl4 nyr).symm
    have ney := D4.ne nyr
    have b5 := b4.trans B5
    have T5 := (D2.tups B3).trans ((Tups.of_same s4).trans (D4.tups B5))
    refine ⟨yr, rfl, ⟨_, SqL.of hyr⟩, for_list (xs := ys.map V.str) (Pins d g nl dl ul al fl yr (n + 8 * 12 + 1 + 20 * 5) nms ds dvs.length up ys fs H) ?_ ?_ ?_ ?_⟩
    · exact ⟨vs, fs, _, _, _, _, _, _, _, _, rfl, b5, B5 _ _ neal.1 neal.2 hal4, B5 _ _ nefl.1 nefl.2 hfl4, hyr, Paired.mono (fun _ _ z => FldAt.mono T5 z) pf, R, fun z => by simp, rfl, D5.le (by omega)⟩
    · rintro i2 σ H6 _ ⟨vs6, fs6, _, _, _, _, _, _, _, _, rfl, b6, hal6, hfl6, hyr6, _⟩
      exact SqL.of hyr6
    · rintro i2 y σ H6 hy ⟨vs6, fs6, _, _, _, _, _, _, _, _, rfl, b6, hal6, hfl6, hyr6, pf6, R6, nin6, l6, D6⟩
      rw [List.getElem?_map] at hy
      obtain ⟨fn, hfn, rfl⟩ := Option.map_eq_some_iff.mp hy
      have hil2 : i2 < ys.length := (List.getElem?_eq_some_iff.mp hfn).1
      have lv6 := Paired.length pf6
      have lf6 := R6.good.len
      have fnin : fn ∉ fs6.map (·.1) := fun hm => by
        rcases (nin6 fn).mp hm with h | h
        · exact (nmys fn (List.mem_of_getElem? hfn)).2 h
        · exact nodup_take_not ndys hfn h
      refine ⟨_, rfl, tyL hfl6, _, rfl, _, rfl, fl, _, rfl, .inl (SqL.of hfl6), _, _, rfl, rfl, d, g, _, _, rfl, D6, by omega, by omega, by omega, fun j H7 j0 j1 D7 B7 => ?_⟩
      have b7 := b6.trans B7
      refine ⟨_, rfl, _, rfl, _, rfl, d, g, nl, _, 4, nms, rfl, rfl, by decide, D7, by omega, nld, nlg, b7 _ _ nld nlg hnl, h1000, hlt, fun v k H8 hk kp kdp ksz knm D8 B8 => ?_⟩
      refine ⟨_, rfl, d, g, 2, _, rfl, D8, by decide, by decide, by omega, fun bb H9 b0 b1 D9 B9 => ⟨rfl, (by show 3 ≤ sizeLine; decide), fun t nt => ?_⟩⟩
      have st := same_new nt (.tup [.str fn, v, .bl (decide (V.int bb = V.int 1))])
      have B79 := B7.trans (B8.trans B9)
      have hfl10 := st _ _ (B79 _ _ nefl.1 nefl.2 hfl6)
      have T10 := (D6.tups B79).trans (Tups.of_same st)
      have T11 : Tups _ (upd _ fl (.lst (vs6.take j.toNat ++ [V.ref t] ++ vs6.drop j.toNat))) := Tups.upd hfl10
      refine ⟨fl, vs6, j, .ref t, rfl, rfl, hfl10, line5 (by omega), j0, by omega, ?_⟩
      refine ⟨_, fs6.take j.toNat ++ [(fn, k, decide (V.int bb = V.int 1))] ++ fs6.drop j.toNat, _, _, _, _, _, _, _, _, rfl, ((b6.trans B79).new nt).atNew nfl0, ?_, upd_same, ?_, ?_, R6.put (f := (fn, k, decide (V.int bb = V.int 1))) ?_ (nmys fn (List.mem_of_getElem? hfn)).1 ⟨kp, kdp, ksz, knm⟩ fnin (by omega), fun z => ?_, ?_, ?_⟩
      · rw [upd_ne naf]
        exact st _ _ (B79 _ _ neal.1 neal.2 hal6)
      · rw [upd_ne nyrfl]
        exact st _ _ (B79 _ _ ney.1 ney.2 hyr6)
      · have p10 := Paired.mono (fun _ _ z => FldAt.mono (T10.trans T11) z) pf6
        exact pair_app (pair_app (pair_take _ p10) (.cons ⟨t, v, rfl, T11 _ _ upd_same, hk.mono ((D8.tups B9).trans ((Tups.of_same st).trans T11))⟩ .nil)) (pair_drop _ p10)
      · have e : fs6.take j.toNat ++ [(fn, k, decide (V.int bb = V.int 1))] ++ fs6.drop j.toNat = fs6.take j.toNat ++ (fn, k, decide (V.int bb = V.int 1)) :: fs6.drop j.toNat := by simp
        rw [e]
        refine List.perm_middle.trans ?_
        rw [List.take_append_drop]
      · rw [← take_next hfn, List.mem_append, List.map_append, List.map_append, List.mem_append, List.mem_append, ← or_assoc, ← nin6 z]
        have e : z ∈ fs6.map (·.1) ↔ z ∈ (fs6.take j.toNat).map (·.1) ∨ z ∈ (fs6.drop j.toNat).map (·.1) := by
          rw [← List.mem_append, ← List.map_append, List.take_append_drop]
        rw [e]
        simp only [List.map_cons, List.map_nil]
        constructor
        · rintro ((h | h) | h)
          · exact .inl (.inl h)
          · exact .inr h
          · exact .inl (.inr h)
        · rintro ((h | h) | h)
          · exact .inl (.inl h)
          · exact .inr h
          · exact .inl (.inr h)
      · rw [List.length_append, List.length_append, List.length_take, List.length_drop]
        simp only [List.length_cons, List.length_nil]
        omega
      · exact ((D9.new nt).at nefl.1 nefl.2).le (by omega)
    · rintro σ H6 ⟨vs6, fs6, _, _, _, _, _, _, _, _, rfl, b6, hal6, hfl6, hyr6, pf6, R6, nin6, l6, D6⟩
      rw [List.length_map] at D6
      refine ⟨_, rfl, fl, vs6, rfl, .inl ⟨SqL.of hfl6, fun t1 nt1 => ?_⟩⟩
      have s7 := same_new nt1 (.tup vs6)
      refine ⟨_, rfl, al, _, rfl, .inl ⟨SqL.of (s7 _ _ hal6), fun t2 nt2 => ?_⟩⟩
      have s8 := same_new nt2 (.tup (up.map V.str))
      refine ⟨(by show 3 ≤ sizeLine; decide), fun t3 nt3 => ?_⟩
      have s9 := same_new nt3 (.tup [.str "record", .ref t1, .ref t2])
      have T9 := Tups.of_same (s7.trans (s8.trans s9))
      exact q _ fs6 up _ (.record upd_same (s9 _ _ (s8 _ _ upd_same)) (Paired.mono (fun _ _ z => FldAt.mono T9 z) pf6) (s9 _ _ upd_same)) (R6.stand (by omega)) ((((D6.new nt1).new nt2).new nt3).le (by omega)) (((b6.new nt1).new nt2).new nt3)
end
end My
namespace My
open PySem L2
/-! _law_declaration -/
def spDecl : Sp := fun vs H Q _ => ∃ (d g nl dl ul : Addr) (n : Int) (nms : List Str) (dvs uvs : List V) (ds : List (Str × Decl)) (un : List (Str × Str)), vs = [.ref d, .ref nl, .ref dl, .ref ul] ∧ Tray H d g n ∧ n ≤ 500000 ∧ nl ≠ d ∧ nl ≠ g ∧ dl ≠ d ∧ dl ≠ g ∧ ul ≠ d ∧ ul ≠ g ∧
  H nl = some (.lst (nms.map V.str)) ∧ nms.length ≤ 1000 ∧ (∀ x ∈ nms, LtS x) ∧ H dl = some (.lst dvs) ∧ Paired (ItemAt H) dvs ds ∧ ds.length ≤ 12 ∧ Stage nms ds un ∧ H ul = some (.lst uvs) ∧ Paired (PairS H) uvs un ∧ un.length ≤ 10000 ∧
  ∀ (v : V) (e : Decl) (H' : Hp), DeclAt H' v e → StandD nms ds e → Tray H' d g (n + 1100) → But d g H H' → Q v H'
def Pcas (d g nl dl ul cl yr : Addr) (way n : Int) (nms ys : List Str) (H0 : Hp) (i : Nat) (σ : St) (H : Hp) : Prop :=
  ∃ (vs : List V) (cs : List (Str × Option Kd)) (u5 u7 u8 u9 u10 : Option V), σ = [some (.ref d), some (.ref nl), some (.ref dl), some (.ref ul), some (.int way), u5, some (.ref cl), u7, u8, u9, u10] ∧
    But d g H0 H ∧ H cl = some (.lst vs) ∧ H yr = some (.lst (ys.map V.str)) ∧ Paired (CaseAt H) vs cs ∧ cs.map (·.1) = ys.take i ∧ (∀ c ∈ cs, ∀ k, c.2 = some k → GoodK nms k) ∧ Tray H d g (n + 60 * (i : Int))
def Phid (d g D : Addr) (n : Int) (ds : List (Str × Decl)) (H0 : Hp) (i : Nat) (H : Hp) : Prop := But d g H0 H ∧ Tray H d g (n + (i : Int)) ∧ ∃ up : List Str, H D = some (.lst (up.map V.str)) ∧ up.Nodup ∧ (∀ u ∈ up, u ∈ (ds.take i).map (·.1)) ∧ ∀ u ∈ up, ∃ e, look ds u = some e ∧ e.isHid = true
section
variable {P : Program} {w : World} {K : PySem.W.Frag} {mg : Str → Option Value} {base : Heap} {f : Addr} {fd : FuncData} {aT aF : Addr}
theorem ok_ldeclaration (B : Bn mg) (F : Fun K "_law_declaration" "_law_declaration" s__law_declaration f fd) (c__law_draw : Cal P w K mg base "_law_draw" 1 ["tray", "many"] spDraw) (c__law_names : Cal P w K mg base "_law_names" 3 ["tray", "many", "used"] spNames) (c__law_kind : Cal P w K mg base "_law_kind" 11 ["tray", "names", "deep"] (spKind 4))
    (c__law_record : Cal P w K mg base "_law_record" 12 ["tray", "names", "done", "under"] spRecord) : FnOk P w K mg base CX0 13 f fd ["tray", "names", "done", "under"] spDecl := by
  refine F.ok sc__law_declaration (fun vs H Q E h => ?_) (fun cdv A outer s H vs Q E hr h => ?_)
  · obtain ⟨d, g, nl, dl, ul, n, nms, dvs, uvs, ds, un, rfl, _⟩ := h
    rfl
  obtain ⟨d, g, nl, dl, ul, n, nms, dvs, uvs, ds, un, rfl, D, hn, nld, nlg, dld, dlg, uld, ulg, hnl, h1000, hlt, hdl, pd, lds, S, hul, pu, lun, q⟩ := h
  refine ⟨_, (pss_cons (ps_set (i := 4) sc__law_declaration.nd rfl (Or.inl rfl) (pc c__law_draw (hr.mono (by first | decide | omega)) (pa_cons (pv 0) (pa_cons pe_int pa_nil))))
    (pss_cons (ps_if (pt_cmpR op_lt (pv 4) pe_int (nomark _)) (pss_one (ps_ret (pc c__law_record (hr.mono (by first | decide | omega)) (pa_cons (pv 0) (pa_cons (pv 1) (pa_cons (pv 2) (pa_cons (pv 3) pa_nil))))))) pss_nil)
    (pss_cons (ps_if (pt_cmpR op_lt (pv 4) pe_int (nomark _)) (pss_cons (ps_set (i := 6) sc__law_declaration.nd rfl (Or.inl rfl) (pe_lst pa_nil))
    (pss_cons (ps_for PassesOwn.never rfl (piL K rfl (pc c__law_names (hr.mono (by first | decide | omega)) (pa_cons (pv 0) (pa_cons (pc c__law_draw (hr.mono (by first | decide | omega)) (pa_cons (pv 0) (pa_cons pe_int pa_nil))) (pa_cons (pe_lst pa_nil) pa_nil))))) (pg_name (i := 7) sc__law_declaration.nd rfl (Or.inl rfl)) (pss_cons (ps_set (i := 8) sc__law_declaration.nd rfl (Or.inl rfl) (pe_cmpR op_eq (pc c__law_draw (hr.mono (by first | decide | omega)) (pa_cons (pv 0) (pa_cons pe_int pa_nil))) pe_int (nomark _)))
    (pss_one (ps_expr (pe_bm PySem.F.plainAttrs_list PySem.F.slot_list_append PySem.F.type_list_append mt_append (pv 6) (pa_cons (pe_tup (pa_cons (pv 7) (pa_cons (pe_ifExp (pt_val (pv 8)) pe_non (pc c__law_kind (hr.mono (by first | decide | omega)) (pa_cons (pv 0) (pa_cons (pv 1) (pa_cons pe_int pa_nil))))) pa_nil))) pa_nil))))))
    (pss_one (ps_ret (pe_tup (pa_cons pe_str (pa_cons (pe_callTy (tupleOf K rfl) (by rfl) B.b_tuple (by decide +kernel) (pa_cons (pv 6) pa_nil)) (pa_cons (pe_cmpR op_eq (pc c__law_draw (hr.mono (by first | decide | omega)) (pa_cons (pv 0) (pa_cons pe_int pa_nil))) pe_int (nomark _)) pa_nil)))))))) pss_nil)
    (pss_cons (ps_setLc (i := 5) (own := [("name", 9), ("declaration", 10)]) (g := (gTup K 2 (gCons (gName 9) (gCons (gName 10) gNil)))) rfl sc__law_declaration.nd rfl rfl (sw_true rfl rfl rfl (by decide +kernel)) (piL K rfl (pv 2)) (blkOk_by (N := ["tray", "names", "done", "under", "way", "above", "cases", "case", "bare", "name", "declaration"]) (sc := defScope s__law_declaration) (by decide +kernel)) (fun _ _ _ _ _ => (pg_tup rfl (pgs_cons (pg_name (i := 9) sc__law_declaration.nd rfl (Or.inl rfl) (hf := Or.inr rfl)) (pgs_cons (pg_name (i := 10) sc__law_declaration.nd rfl (Or.inl rfl) (hf := Or.inr rfl)) pgs_nil)))) (fun _ _ _ _ _ => (pts_one (PW.pt (pw_and (pt_cmpR op_eq (pe_ix (ixT K rfl) (pv 10) pe_int (fun _ _ => rfl)) pe_str (nomark _)) (pw_and1 (pt_cmpR op_eq (pc c__law_draw (hr.mono (by first | decide | omega)) (pa_cons (pv 0) (pa_cons pe_int pa_nil))) pe_int (nomark _))))))) (fun _ _ _ _ _ => (pv 9)))
    (pss_one (ps_ret (pe_tup (pa_cons pe_str (pa_cons (pe_callTy (tupleOf K rfl) (by rfl) B.b_tuple (by decide +kernel) (pa_cons (pv 5) pa_nil)) pa_nil))))))))), ?_⟩
  refine ⟨_, rfl, d, g, 6, n, rfl, D, by decide, by decide, by omega, fun way H1 w0 w1 D1 B1 => ?_⟩
  have T1 := D.tups B1
  have hnl1 := B1 _ _ nld nlg hnl
  have hdl1 := B1 _ _ dld dlg hdl
  have pd1 := Paired.mono (fun _ _ z => ItemAt.mono T1 z) pd
  have ldv : dvs.length = ds.length := Paired.length pd
  refine ⟨_, rfl, _, _, rfl, rfl, _, rfl, ite2 (fun c3 => ?_) (fun c3 => ?_)⟩
  · exact ⟨_, rfl, _, rfl, _, rfl, _, rfl, d, g, nl, dl, ul, n + 1, nms, dvs, uvs, ds, un, rfl, D1, by omega, nld, nlg, dld, dlg, uld, ulg, hnl1, h1000, hlt, hdl1, pd1, lds, S, B1 _ _ uld ulg hul, Paired.mono (fun _ _ z => PairS.mono T1 z) pu, lun, fun v fs up H' hv hs D' B' => q v _ H' hv hs (D'.le (by omega)) (B1.trans B')⟩
  · refine ⟨_, rfl, _, _, rfl, rfl, _, rfl, ite2 (fun c5 => ?_) (fun c5 => ?_)⟩
    · refine ⟨Nat.zero_le _, fun cl ncl => ?_⟩
      have nec := D1.ne ncl
      have ncl0 := B1.free ncl nec
      have D2 := D1.new (o := .lst []) ncl
      have b2 := B1.new (o := .lst []) ncl
      have hcl2 : (upd H1 cl (.lst [])) cl = some (.lst []) := upd_same
      generalize upd H1 cl (.lst []) = H2 at D2 b2 hcl2
      refine ⟨_, rfl, _, rfl, d, g, 5, _, rfl, D2, by decide, by decide, by omega, fun m H3 m0 m1 D3 B3 => ⟨Nat.zero_le _, fun u nu => ?_⟩⟩
      have neu := D3.ne nu
      have D4 := D3.new (o := .lst []) nu
      have b4 := (b2.trans B3).new (o := .lst []) nu
      have hcl4 := same_new nu (.lst []) _ _ (B3 _ _ nec.1 nec.2 hcl2)
      have hu4 : (upd H3 u (.lst [])) u = some (.lst []) := upd_same
      generalize upd H3 u (.lst []) = H4 at D4 b4 hcl4 hu4
      refine ⟨d, g, u, _, m.toNat, [], by rw [Int.toNat_of_nonneg m0]; rfl, D4, by omega, neu.1, neu.2, hu4, by simp; omega, fun x hx => by simp at hx, fun yr ys H5 nyr hyr lys nmys ndys D5 B5 => ?_⟩
      have hcl5 := B5 _ _ nec.1 nec.2 hcl4
      have ney := D4.ne nyr
      have nyc : yr ≠ cl := (ne_of_none hcl4 nyr).symm
      refine ⟨yr, rfl, ⟨_, SqL.of hyr⟩, for_list (xs := ys.map V.str) (Pcas d g nl dl ul cl yr way (n + 100) nms ys H) ?_ ?_ ?_ ?_⟩
      · exact ⟨[], [], _, _, _, _, _, rfl, b4.trans B5, hcl5, hyr, .nil, rfl, fun c hc => by simp at hc, D5.le (by omega)⟩
      · rintro i σ H6 _ ⟨vs, cs, u5, u7, u8, u9, u10, rfl, b6, hcl6, hyr6, _⟩
        exact SqL.of hyr6
      · rintro i y σ H6 hy ⟨vs, cs, u5, u7, u8, u9, u10, rfl, b6, hcl6, hyr6, pc, cnm, gcs, D6⟩
        rw [List.getElem?_map] at hy
        obtain ⟨cn, hcn, rfl⟩ := Option.map_eq_some_iff.mp hy
        have hil : i < ys.length := (List.getElem?_eq_some_iff.mp hcn).1
        have lvs := Paired.length pc
        have lcs : cs.length = i := by
          have := congrArg List.length cnm
          rw [List.length_map, List.length_take] at this
          omega
        refine ⟨_, rfl, d, g, 3, _, rfl, D6, by decide, by decide, by omega, fun b H7 b0 b1 D7 B7 => ⟨rfl, ?_⟩⟩
        generalize decide (V.int b = V.int 0) = bare
        have hcl7 := B7 _ _ nec.1 nec.2 hcl6
        have hyr7 := B7 _ _ ney.1 ney.2 hyr6
        have b7 := b6.trans B7
        have T7 := D6.tups B7
        have fin : ∀ (cv : V) (o : Option Kd) (H8 : Hp), ((o = none ∧ cv = .non) ∨ ∃ k, o = some k ∧ KdAt H8 cv k) → (∀ k, o = some k → GoodK nms k) → But d g H7 H8 → Tray H8 d g (n + 100 + 60 * (i : Int) + 1 + 50) → ∀ t, H8 t = none →
            (upd H8 t (.tup [.str cn, cv])) cl = some (.lst vs) ∧ vs.length < sizeLine ∧ ∀ u7 u8 : Option V, Pcas d g nl dl ul cl yr way (n + 100) nms ys H (i + 1) [some (.ref d), some (.ref nl), some (.ref dl), some (.ref ul), some (.int way), u5, some (.ref cl), u7, u8, u9, u10] (upd (upd H8 t (.tup [.str cn, cv])) cl (.lst (vs ++ [.ref t]))) := fun cv o H8 ho go B8 D8 t nt => by
          have st := same_new nt (.tup [.str cn, cv])
          have hcl9 := st _ _ (B8 _ _ nec.1 nec.2 hcl7)
          have T10 : Tups _ (upd (upd H8 t (.tup [.str cn, cv])) cl (.lst (vs ++ [V.ref t]))) := Tups.upd hcl9
          have T9 := ((D7.tups B8).trans (Tups.of_same st)).trans T10
          refine ⟨hcl9, line5 (by omega), fun u7 u8 => ⟨vs ++ [.ref t], cs ++ [(cn, o)], _, _, _, _, _, rfl, ((b7.trans B8).new nt).atNew ncl0, upd_same, ?_, ?_, ?_, all_snoc.mpr ⟨gcs, go⟩, ((D8.new nt).at nec.1 nec.2).le (by omega)⟩⟩
          · rw [upd_ne nyc]
            exact st _ _ (B8 _ _ ney.1 ney.2 hyr7)
          · refine pair_app (Paired.mono (fun _ _ z => CaseAt.mono (T7.trans T9) z) pc) (.cons ⟨t, cv, rfl, T10 _ _ upd_same, ?_⟩ .nil)
            rcases ho with ho | ⟨k, e, hk⟩
            · exact .inl ho
            · exact .inr ⟨k, e, hk.mono ((Tups.of_same st).trans T10)⟩
          · rw [List.map_append, cnm, ← take_next hcn]
            rfl
        refine ⟨_, rfl, tyL hcl7, _, rfl, ?_⟩
        refine ⟨_, rfl, _, rfl, ?_⟩
        cases bare with
        | true =>
          refine iteT ⟨(by show 2 ≤ sizeLine; decide), fun t nt => ?_⟩
          obtain ⟨h1, h2, h3⟩ := fin .non none H7 (.inl ⟨rfl, rfl⟩) (fun k e => by cases e) (But.refl _ _ _) (D7.le (by omega)) t nt
          exact ⟨cl, vs, _, rfl, rfl, h1, h2, h3 _ _⟩
        | false =>
          refine iteF ⟨_, rfl, _, rfl, d, g, nl, _, 4, nms, rfl, rfl, by decide, D7, by omega, nld, nlg, b7 _ _ nld nlg hnl, h1000, hlt, fun v k H8 hk kp kdp ksz knm D8 B8 => ⟨(by show 2 ≤ sizeLine; decide), fun t nt => ?_⟩⟩
          obtain ⟨h1, h2, h3⟩ := fin v (some k) H8 (.inr ⟨k, rfl, hk⟩) (fun k' e => by cases e; exact ⟨kp, kdp, ksz, knm⟩) B8 (D8.le (by omega)) t nt
          exact ⟨cl, vs, _, rfl, rfl, h1, h2, h3 _ _⟩
      · rintro σ H6 ⟨vs, cs, u5, u7, u8, u9, u10, rfl, b6, hcl6, hyr6, pc, cnm, gcs, D6⟩
        rw [List.length_map, List.take_length] at cnm
        rw [List.length_map] at D6
        have lcs : cs.length = ys.length := by
          have := congrArg List.length cnm
          rwa [List.length_map] at this
        refine ⟨_, rfl, cl, vs, rfl, .inl ⟨SqL.of hcl6, fun t nt => ?_⟩⟩
        have st := same_new nt (.tup vs)
        refine ⟨_, rfl, d, g, 2, _, rfl, D6.new nt, by decide, by decide, by omega, fun b H7 b0 b1 D7 B7 => ⟨rfl, (by show 3 ≤ sizeLine; decide), fun t2 nt2 => ?_⟩⟩
        have s2 := same_new nt2 (.tup [.str "choice", .ref t, .bl (decide (V.int b = V.int 1))])
        have T := (Tups.of_same st).trans (((D6.new (o := .tup vs) nt).tups B7).trans (Tups.of_same s2))
        have net := D6.ne nt
        refine q _ (.choice cs (decide (V.int b = V.int 1))) _ (.choice upd_same (s2 _ _ (B7 _ _ net.1 net.2 upd_same)) (Paired.mono (fun _ _ z => CaseAt.mono T z) pc)) ⟨.nil, Nat.zero_le _, rfl, ?_⟩ ((D7.new nt2).le (by omega)) (((b6.new nt).trans B7).new nt2)
        refine ⟨by omega, by rw [cnm]; exact ndys, fun c hc => ?_, gcs⟩
        have : c.1 ∈ ys := by
          rw [← cnm]
          exact List.mem_map.mpr ⟨c, hc, rfl⟩
        exact (nmys _ this).1
    · refine ⟨_, rfl, dl, rfl, ⟨_, SqL.of hdl1⟩, fun D0 nD0 => lc_list (xs := dvs) (Phid d g D0 (n + 1) ds H1) ?_ ?_ ?_ ?_⟩
      · exact ⟨(But.refl d g H1).new nD0, (D1.new nD0).le (by simp), [], upd_same, .nil, fun u hu => by simp at hu, fun u hu => by simp at hu⟩
      · exact fun i H2 _ p => SqL.of (p.1 _ _ dld dlg hdl1)
      · rintro i y H2 hy ⟨b2, D2, up, hup, und, uin, uok⟩
        obtain ⟨p, hp, c, dv, rfl, hc, hdv⟩ := Paired.at pd1 i y hy
        have hil : i < ds.length := (List.getElem?_eq_some_iff.mp hp).1
        have T2 := D1.tups b2
        have ne0 := D1.ne nD0
        have hdv2 := hdv.mono T2
        have skip : ∀ H3, But d g H2 H3 → Tray H3 d g (n + 1 + (i : Int) + 1) → Phid d g D0 (n + 1) ds H1 (i + 1) H3 := fun H3 B3 D3 => ⟨b2.trans B3, D3.le (by omega), up, B3 _ _ ne0.1 ne0.2 hup, und, fun u hu => by
          have := uin u hu
          rw [List.map_take] at this ⊢
          exact take_mono this, uok⟩
        have lup : up.length ≤ 12 := by
          have := nodup_sub_len und fun u hu => by
            have := uin u hu
            rw [List.map_take] at this
            exact List.mem_of_mem_take this
          rw [List.length_map] at this
          omega
        obtain ⟨x, e⟩ := p
        refine ⟨c, _, rfl, SqT.of (T2 _ _ hc), rfl, _, _, rfl, _, _, rfl, rfl, rfl, ?_⟩
        cases hdv2 with
        | record ha _ _ _ => exact ⟨_, rfl, _, _, _, _, rfl, rfl, SqT.of ha, at_of rfl rfl, rfl, _, rfl, ifF rfl (iteF (skip H2 (But.refl _ _ _) (D2.le (by omega))))⟩
        | choice ha _ _ => exact ⟨_, rfl, _, _, _, _, rfl, rfl, SqT.of ha, at_of rfl rfl, rfl, _, rfl, ifF rfl (iteF (skip H2 (But.refl _ _ _) (D2.le (by omega))))⟩
        | @hidden a' c' vp ha _ =>
          refine ⟨_, rfl, _, _, _, _, rfl, rfl, SqT.of ha, at_of rfl rfl, rfl, _, rfl, ifT rfl ⟨_, rfl, d, g, 2, _, rfl, D2, by decide, by decide, by omega, fun b H3 b0 b1 D3 B3 => ⟨rfl, _, rfl, ite2 (fun cb => ?_) (fun cb => skip H3 B3 (D3.le (by omega)))⟩⟩⟩
          have hup3 := B3 _ _ ne0.1 ne0.2 hup
          have hpx : (ds.map (·.1))[i]? = some x := by rw [List.getElem?_map, hp]; rfl
          have nin : x ∉ up := fun hm => by
            have := uin x hm
            rw [List.map_take] at this
            exact nodup_take_not S.once hpx this
          refine ⟨_, rfl, _, hup3, line5 (by rw [List.length_map]; omega), (b2.trans B3).atNew nD0, (D3.at ne0.1 ne0.2).le (by omega), up ++ [x], by rw [upd_same, List.map_append]; rfl, ?_, all_snoc.mpr ⟨fun u hu => ?_, ?_⟩, all_snoc.mpr ⟨uok, _, look_at S.once hp, rfl⟩⟩
          · rw [List.nodup_append]
            refine ⟨und, by simp, fun a ha b hb e => nin ?_⟩
            have eb : b = x := by simpa using hb
            rw [← eb, ← e]
            exact ha
          · have := uin u hu
            rw [List.map_take] at this ⊢
            exact take_mono this
          · rw [← take_next hp, List.map_append]
            simp
      · rintro H2 ⟨b2, D2, up, hup, und, uin, uok⟩
        rw [ldv] at D2
        refine ⟨_, rfl, D0, _, rfl, .inl ⟨SqL.of hup, fun t nt => ⟨(by show 2 ≤ sizeLine; decide), fun t2 nt2 => ?_⟩⟩⟩
        have lup : up.length ≤ ds.length := by
          have := nodup_sub_len und fun u hu => by
            have := uin u hu
            rw [List.map_take] at this
            exact List.mem_of_mem_take this
          rwa [List.length_map] at this
        refine q _ (.hidden up) _ (.hidden upd_same (same_new nt2 _ _ _ upd_same)) ⟨und, by show up.length ≤ 20; omega, List.all_eq_true.mpr fun u hu => ?_, trivial⟩ (((D2.new nt).new nt2).le (by omega)) (((B1.trans b2).new nt).new nt2)
        obtain ⟨e, he, hk⟩ := uok u hu
        unfold upOk
        rw [he]
        show (e.isHid || ((Decl.hidden up).isRec && e.isRec)) = true
        rw [hk]
        rfl
end
end My
namespace My
open PySem L2
/-! _law_kinds -/
def cnt (un : List (Str × Str)) (u : Str) : Nat := (un.filter fun p => decide (p.1 = u)).length
theorem one_sum {x : Str} : ∀ {up : List Str}, up.Nodup → (up.map fun u => if x = u then 1 else 0).sum ≤ 1
  | [], _ => by simp
  | u :: r, h => by
    have hn := List.nodup_cons.mp h
    have ih := one_sum (x := x) hn.2
    rw [List.map_cons, List.sum_cons]
    by_cases e : x = u
    · have z : (r.map fun u => if x = u then 1 else 0).sum = 0 := by
        have : ∀ {l : List Str}, x ∉ l → (l.map fun u => if x = u then 1 else 0).sum = 0 := fun {l} => by
          induction l with
          | nil => intro _; rfl
          | cons v s ih =>
            intro h
            rw [List.map_cons, List.sum_cons, ih (fun z => h (List.mem_cons_of_mem _ z)), if_neg (fun z => h (by rw [z]; simp))]
        exact this (by rw [e]; exact hn.1)
      rw [z, if_pos e]
      omega
    · rw [if_neg e]
      omega
theorem cnt_sum : ∀ (un : List (Str × Str)) {up : List Str}, up.Nodup → (up.map (cnt un)).sum ≤ un.length
  | [], up, _ => by
    have : ∀ l : List Str, (l.map (cnt [])).sum = 0 := fun l => by
      induction l with
      | nil => rfl
      | cons v s ih => rw [List.map_cons, List.sum_cons, ih]; rfl
    rw [this]
    exact Nat.zero_le _
  | p :: r, up, h => by
    have e : ∀ l : List Str, (l.map (cnt (p :: r))).sum = (l.map fun u => if p.1 = u then 1 else 0).sum + (l.map (cnt r)).sum := fun l => by
      induction l with
      | nil => rfl
      | cons v s ih =>
        have z : cnt (p :: r) v = (if p.1 = v then 1 else 0) + cnt r v := by
          unfold cnt
          by_cases c : p.1 = v
          · rw [List.filter_cons_of_pos (by simp [c]), if_pos c, List.length_cons]
            omega
          · rw [List.filter_cons_of_neg (by simp [c]), if_neg c]
            omega
        rw [List.map_cons, List.sum_cons, ih, z, List.map_cons, List.sum_cons, List.map_cons, List.sum_cons]
        omega
    rw [e]
    have a := one_sum (x := p.1) h
    have b := cnt_sum r h
    rw [List.length_cons]
    omega
theorem sum_one (f : Str → Nat) : ∀ l : List Str, (l.map fun u => 1 + f u).sum = l.length + (l.map f).sum
  | [] => rfl
  | u :: r => by
    rw [List.map_cons, List.sum_cons, sum_one f r, List.length_cons, List.map_cons, List.sum_cons]
    omega
def spKinds : Sp := fun vs H Q _ => ∃ (d g : Addr) (n : Int) (most : Nat), vs = [.ref d, .int (most : Int)] ∧ Tray H d g n ∧ n ≤ 400000 ∧ most ≤ 12 ∧
  ∀ (r : Addr) (ws : List V) (es ds : List (Str × Decl)) (nms : List Str) (un : List (Str × Str)) (H' : Hp), H r = none → H' r = some (.lst ws) → Paired (ItemAt H') ws es → es.Perm ds → ds.length ≤ most → Stage nms ds un → (∀ x ∈ nms, x ∈ ds.map (·.1)) → (∀ x ∈ nms, Nm x) → Tray H' d g (n + 20000) → But d g H H' → Q (.ref r) H'
/-- the pairs that a declaration adds -/
structure Ext (un ext : List (Str × Str)) (x : Str) (ups : List Str) : Prop where
  mem : ∀ p ∈ ext, p.1 = x ∧ ∃ u ∈ ups, p.2 = u ∨ (u, p.2) ∈ un
  len : ext.length ≤ (ups.map fun u => 1 + cnt un u).sum
def Pkin (d g nl dl ul : Addr) (most : Nat) (n : Int) (nms : List Str) (H0 : Hp) (i : Nat) (σ : St) (H : Hp) : Prop :=
  ∃ (dvs uvs : List V) (ds : List (Str × Decl)) (un : List (Str × Str)) (u5 u6 u7 u8 u9 u10 u11 : Option V), σ = [some (.ref d), some (.int (most : Int)), some (.ref nl), some (.ref dl), some (.ref ul), u5, u6, u7, u8, u9, u10, u11] ∧
    But d g H0 H ∧ H nl = some (.lst (nms.map V.str)) ∧ H dl = some (.lst dvs) ∧ Paired (ItemAt H) dvs ds ∧ ds.map (·.1) = nms.take i ∧ Stage nms ds un ∧ H ul = some (.lst uvs) ∧ Paired (PairS H) uvs un ∧ un.length + i + 1 ≤ 2 ^ i ∧ Tray H d g (n + 300 + 1100 * (i : Int))
def Pabv (d g nl dl ul al : Addr) (most : Nat) (n : Int) (x : Str) (dv : V) (dvs : List V) (ds : List (Str × Decl)) (un : List (Str × Str)) (nms up : List Str) (H0 H1 : Hp) (j : Nat) (σ : St) (H : Hp) : Prop :=
  ∃ (uvs : List V) (ext : List (Str × Str)) (u6 u7 u10 u11 : Option V), σ = [some (.ref d), some (.int (most : Int)), some (.ref nl), some (.ref dl), some (.ref ul), some (.str x), u6, u7, some dv, some (.ref al), u10, u11] ∧
    Tups H1 H ∧ But d g H0 H ∧ H nl = some (.lst (nms.map V.str)) ∧ H dl = some (.lst dvs) ∧ H al = some (.lst (up.map V.str)) ∧ H ul = some (.lst uvs) ∧ Paired (PairS H) uvs (un ++ ext) ∧ Ext un ext x (up.take j) ∧ Tray H d g n
def Pnew (H0 : Hp) (D : Addr) (x u : Str) (prs : List (Str × Str)) (i : Nat) (H : Hp) : Prop :=
  Same H0 H ∧ ∃ vs, H D = some (.lst vs) ∧ Paired (PairS H) vs (((prs.take i).filter fun p => decide (p.1 = u)).map fun p => (x, p.2))
def Pinq (d g nl dl ul fl : Addr) (most : Nat) (n : Int) (dvs : List V) (ds : List (Str × Decl)) (H0 : Hp) (i : Nat) (σ : St) (H : Hp) : Prop :=
  ∃ (ws : List V) (es : List (Str × Decl)) (u5 u7 u8 u9 u10 u11 : Option V), σ = [some (.ref d), some (.int (most : Int)), some (.ref nl), some (.ref dl), some (.ref ul), u5, some (.ref fl), u7, u8, u9, u10, u11] ∧
    But d g H0 H ∧ H dl = some (.lst dvs) ∧ Paired (ItemAt H) dvs ds ∧ H fl = some (.lst ws) ∧ Paired (ItemAt H) ws es ∧ es.Perm (ds.take i) ∧ Tray H d g (n + (i : Int))
theorem Ext.next {un ext : List (Str × Str)} {x u : Str} {ups : List Str} (h : Ext un ext x ups) (hx : x ≠ u) : Ext un (ext ++ ((x, u) :: (((un ++ ext).filter fun p => decide (p.1 = u)).map fun p => (x, p.2)))) x (ups ++ [u]) := by
  have e : (un ++ ext).filter (fun p => decide (p.1 = u)) = un.filter fun p => decide (p.1 = u) := by
    rw [List.filter_append]
    have z : ext.filter (fun p => decide (p.1 = u)) = [] := List.filter_eq_nil_iff.mpr fun p hp c => hx (by rw [← (h.mem p hp).1]; exact of_decide_eq_true c)
    rw [z, List.append_nil]
  rw [e]
  refine ⟨fun p hp => ?_, ?_⟩
  · rcases List.mem_append.mp hp with hp | hp
    · obtain ⟨a, v, hv, b⟩ := h.mem p hp
      exact ⟨a, v, List.mem_append.mpr (.inl hv), b⟩
    · rcases List.mem_cons.mp hp with rfl | hp
      · exact ⟨rfl, u, by simp, .inl rfl⟩
      · obtain ⟨q, hq, rfl⟩ := List.mem_map.mp hp
        obtain ⟨h1, h2⟩ := List.mem_filter.mp hq
        exact ⟨rfl, u, by simp, .inr (by rw [← of_decide_eq_true h2]; exact h1)⟩
  · have := h.len
    rw [List.length_append, List.length_cons, List.length_map, List.map_append, List.sum_append]
    show _ ≤ _ + (1 + cnt un u + 0)
    unfold cnt at this ⊢
    omega
section
variable {P : Program} {w : World} {K : PySem.W.Frag} {mg : Str → Option Value} {base : Heap} {f : Addr} {fd : FuncData}
set_option maxHeartbeats 8000000 in
theorem ok_kinds (B : Bn mg) (F : Fun K "_law_kinds" "_law_kinds" s__law_kinds f fd) (c__law_draw : Cal P w K mg base "_law_draw" 1 ["tray", "many"] spDraw) (c__law_names : Cal P w K mg base "_law_names" 3 ["tray", "many", "used"] spNames)
    (c__law_declaration : Cal P w K mg base "_law_declaration" 13 ["tray", "names", "done", "under"] spDecl) : FnOk P w K mg base CX0 14 f fd ["tray", "most"] spKinds := by
  refine F.ok sc__law_kinds (fun vs H Q E h => ?_) (fun cdv A outer s H vs Q E hr h => ?_)
  · obtain ⟨d, g, n, most, rfl, _⟩ := h
    rfl
  obtain ⟨d, g, n, most, rfl, D, hn, hm, q⟩ := h
  refine ⟨_, (pss_cons (ps_set (i := 2) sc__law_kinds.nd rfl (Or.inl rfl) (pc c__law_names (hr.mono (by first | decide | omega)) (pa_cons (pv 0) (pa_cons (pc c__law_draw (hr.mono (by first | decide | omega)) (pa_cons (pv 0) (pa_cons (pe_op op_add (pv 1) pe_int) pa_nil))) (pa_cons (pe_lst pa_nil) pa_nil)))))
    (pss_cons (ps_set (i := 3) sc__law_kinds.nd rfl (Or.inl rfl) (pe_lst pa_nil))
    (pss_cons (ps_set (i := 4) sc__law_kinds.nd rfl (Or.inl rfl) (pe_lst pa_nil))
    (pss_cons (ps_for PassesOwn.never rfl (piL K rfl (pv 2)) (pg_name (i := 5) sc__law_kinds.nd rfl (Or.inr rfl)) (pss_cons (ps_set (i := 8) sc__law_kinds.nd rfl (Or.inl rfl) (pc c__law_declaration (hr.mono (by first | decide | omega)) (pa_cons (pv 0) (pa_cons (pv 2) (pa_cons (pv 3) (pa_cons (pv 4) pa_nil))))))
    (pss_cons (ps_set (i := 9) sc__law_kinds.nd rfl (Or.inl rfl) (pe_ifExp (pt_cmpR op_eq (pe_ix (ixT K rfl) (pv 8) pe_int (fun _ _ => rfl)) pe_str (nomark _)) (pe_lst pa_nil) (pe_callTy (listOf K rfl) (by rfl) B.b_list (by decide +kernel) (pa_cons (pe_ix (ixT K rfl) (pv 8) (pe_un un_neg pe_int) (fun _ _ => rfl)) pa_nil))))
    (pss_cons (ps_for PassesOwn.never rfl (piL K rfl (pv 9)) (pg_name (i := 7) sc__law_kinds.nd rfl (Or.inr rfl)) (pss_one (ps_expr (pe_bm PySem.F.plainAttrs_list PySem.F.slot_list_extend PySem.F.type_list_extend mt_extend (pv 4) (pa_cons (pe_op op_cat (pe_lst (pa_cons (pe_tup (pa_cons (pv 5) (pa_cons (pv 7) pa_nil))) pa_nil)) (pe_lc (own := [("lower", 10), ("other", 11)]) (g := (gTup K 2 (gCons (gName 10) (gCons (gName 11) gNil)))) rfl sc__law_kinds.nd (piL K rfl (pv 4)) (blkOk_by (N := ["tray", "most", "names", "done", "under", "name", "found", "one", "declaration", "above", "lower", "other"]) (sc := defScope s__law_kinds) (by decide +kernel)) (fun _ _ _ _ _ => (pg_tup rfl (pgs_cons (pg_name (i := 10) sc__law_kinds.nd rfl (Or.inl rfl) (hf := Or.inr rfl)) (pgs_cons (pg_name (i := 11) sc__law_kinds.nd rfl (Or.inl rfl) (hf := Or.inr rfl)) pgs_nil)))) (fun _ _ _ _ _ => (pts_one (pt_cmpR op_eq (pv 10) (pv 7) (nomark _)))) (fun _ _ _ _ _ => (pe_tup (pa_cons (pv 5) (pa_cons (pv 11) pa_nil)))))) pa_nil)))))
    (pss_one (ps_expr (pe_bm PySem.F.plainAttrs_list PySem.F.slot_list_append PySem.F.type_list_append mt_append (pv 3) (pa_cons (pe_tup (pa_cons (pv 5) (pa_cons (pv 8) pa_nil))) pa_nil))))))))
    (pss_cons (ps_set (i := 6) sc__law_kinds.nd rfl (Or.inl rfl) (pe_lst pa_nil))
    (pss_cons (ps_for PassesOwn.never rfl (piL K rfl (pv 3)) (pg_name (i := 7) sc__law_kinds.nd rfl (Or.inr rfl)) (pss_one (ps_expr (pe_bm PySem.F.plainAttrs_list PySem.F.slot_list_insert PySem.F.type_list_insert mt_insert (pv 6) (pa_cons (pc c__law_draw (hr.mono (by first | decide | omega)) (pa_cons (pv 0) (pa_cons (pe_op op_add (pe_callB (lenSeq K rfl) (by rfl) B.b_len PySem.boot_len (pa_cons (pv 6) pa_nil)) pe_int) pa_nil))) (pa_cons (pv 7) pa_nil))))))
    (pss_one (ps_ret (pv 6))))))))), ?_⟩
  refine ⟨_, rfl, _, rfl, _, rfl, _, _, rfl, rfl, d, g, (most : Int) + 1, n, rfl, D, by omega, by omega, by omega, fun m H1 m0 m1 D1 B1 => ⟨Nat.zero_le _, fun u nu => ?_⟩⟩
  have neu := D1.ne nu
  have D2 := D1.new (o := .lst []) nu
  have B2 := B1.new (o := .lst []) nu
  have hu2 : (upd H1 u (.lst [])) u = some (.lst []) := upd_same
  generalize upd H1 u (.lst []) = H2 at D2 B2 hu2
  refine ⟨d, g, u, n + 1, m.toNat, [], by rw [Int.toNat_of_nonneg m0]; rfl, D2, by omega, neu.1, neu.2, hu2, by simp; omega, fun x hx => by simp at hx, fun nl nms H3 nnl hnl lnms nmn ndn D3 B3 => ⟨Nat.zero_le _, fun dl ndl => ⟨Nat.zero_le _, fun ul nul => ?_⟩⟩⟩
  have nenl := D2.ne nnl
  have hnl0 : H nl = none := B2.free nnl nenl
  have b3 := B2.trans B3
  have nedl := D3.ne ndl
  have hdl0 : H dl = none := b3.free ndl nedl
  have s4 := same_new ndl (.lst [])
  have hdl4 : (upd H3 dl (.lst [])) dl = some (.lst []) := upd_same
  have hnl4 := s4 _ _ hnl
  have D4 := D3.same s4
  have b4 := b3.trans (But.of_same s4)
  have ndlnl : dl ≠ nl := (ne_of_none hnl ndl).symm
  generalize upd H3 dl (.lst []) = H4 at s4 hdl4 hnl4 D4 b4 nul ⊢
  have neul := D4.ne nul
  have hul0 : H ul = none := b4.free nul neul
  have s5 := same_new nul (.lst [])
  have hul5 : (upd H4 ul (.lst [])) ul = some (.lst []) := upd_same
  have hdl5 := s5 _ _ hdl4
  have hnl5 := s5 _ _ hnl4
  have D5 := D4.same s5
  have b5 := b4.trans (But.of_same s5)
  have nulnl : ul ≠ nl := (ne_of_none hnl4 nul).symm
  have nuldl : ul ≠ dl := (ne_of_none hdl4 nul).symm
  generalize upd H4 ul (.lst []) = H5 at s5 hul5 hdl5 hnl5 D5 b5
  clear s4 s5 D4 b4 b3 D3 B3 D2 B2 D1 B1 hnl hnl4 hdl4 hu2 nnl ndl nul
  have lm : nms.length ≤ 12 := by omega
  have lt : ∀ x ∈ nms, LtS x := fun x hx => (nmn x hx).1.1
  refine ⟨_, rfl, nl, rfl, ⟨_, SqL.of hnl5⟩, for_list (xs := nms.map V.str) (Pkin d g nl dl ul most n nms H) ?_ ?_ ?_ ?_⟩
  · exact ⟨[], [], [], [], none, none, none, none, none, none, none, rfl, b5, hnl5, hdl5, .nil, rfl, ⟨.nil, fun p hp => by simp at hp, fun a b hab => by simp at hab, fun p hp => by simp at hp, fun i p hp => by simp at hp⟩, hul5, .nil, by decide, D5.le (by omega)⟩
  · rintro i σ H6 _ ⟨dvs, uvs, ds, un, u5, u6, u7, u8, u9, u10, u11, rfl, b6, h6, _⟩
    exact SqL.of h6
  · rintro i x σ H6 hx ⟨dvs, uvs, ds, un, u5, u6, u7, u8, u9, u10, u11, rfl, b6, hnl6, hdl6, pds, eds, st, hul6, pun, lun, D6⟩
    rw [List.getElem?_map] at hx
    obtain ⟨nm, hnm, rfl⟩ := Option.map_eq_some_iff.mp hx
    have hil : i < nms.length := (List.getElem?_eq_some_iff.mp hnm).1
    have lds : ds.length = i := by
      have := congrArg List.length eds
      rw [List.length_map, List.length_take] at this
      omega
    have lun2 : un.length ≤ 4096 := by
      have : 2 ^ i ≤ 2 ^ 12 := Nat.pow_le_pow_right (by decide) (by omega)
      omega
    refine ⟨_, rfl, _, rfl, _, rfl, _, rfl, d, g, nl, dl, ul, _, nms, dvs, uvs, ds, un, rfl, D6, by omega, nenl.1, nenl.2, nedl.1, nedl.2, neul.1, neul.2, hnl6, by omega, lt, hdl6, pds, by omega, st, hul6, pun, by omega, fun dv e H7 hdv sd D7 B7 => ?_⟩
    have T7 := D6.tups B7
    have hnl7 := B7 _ _ nenl.1 nenl.2 hnl6
    have hdl7 := B7 _ _ nedl.1 nedl.2 hdl6
    have hul7 := B7 _ _ neul.1 neul.2 hul6
    have b7 := b6.trans B7
    have pds7 := Paired.mono (fun _ _ z => ItemAt.mono T7 z) pds
    have pun7 := Paired.mono (fun _ _ z => PairS.mono T7 z) pun
    clear pds pun hnl6 hdl6 hul6 D6
    -- above
    dsimp only
    refine seq_abs (fun σ' H' => ∃ al, σ' = [some (.ref d), some (.int (most : Int)), some (.ref nl), some (.ref dl), some (.ref ul), some (.str nm), u6, u7, some dv, some (.ref al), u10, u11] ∧ Same H7 H' ∧ H7 al = none ∧ H' al = some (.lst (e.up.map V.str))) (fun σ8 H8 w8 => ?_) (fun nx hnx => ?_)
    · obtain ⟨al, rfl, s8, nal, hal⟩ := w8
      have T8 := Tups.of_same s8
      have D8 := D7.same s8
      have neal := D7.ne nal
      have hnl8 := s8 _ _ hnl7
      have hdl8 := s8 _ _ hdl7
      have hul8 := s8 _ _ hul7
      have pun8 := Paired.mono (fun _ _ z => PairS.mono T8 z) pun7
      have nalul : al ≠ ul := (ne_of_none hul7 nal).symm
      have b8 := b7.trans (But.of_same s8)
      have hxin : nm ∉ ds.map (·.1) := by
        rw [eds]
        exact nodup_take_not ndn hnm
      have hupin : ∀ u ∈ e.up, u ≠ nm := fun u hu z => hxin (by rw [← z]; exact upOk_in (List.all_eq_true.mp sd.up u hu))
      have lup := sd.few
      have hsum : ((e.up).map fun u => 1 + cnt un u).sum ≤ e.up.length + un.length := by
        rw [sum_one]
        have := cnt_sum un sd.once
        omega
      have hsumt : ∀ j, ((e.up.take j).map fun u => 1 + cnt un u).sum ≤ e.up.length + un.length := fun j => by
        have h1 := sum_one (cnt un) (e.up.take j)
        have h2 := cnt_sum un ((List.take_sublist j e.up).nodup sd.once)
        have h3 := List.length_take_le' j e.up
        omega
      refine ⟨_, rfl, al, rfl, ⟨_, SqL.of hal⟩, for_list (xs := e.up.map V.str) (Pabv d g nl dl ul al most (n + 300 + 1100 * (i : Int) + 1100) nm dv dvs ds un nms e.up H H7) ?_ ?_ ?_ ?_⟩
      · exact ⟨uvs, [], _, _, _, _, rfl, T8, b8, hnl8, hdl8, hal, hul8, by rw [List.append_nil]; exact pun8, ⟨fun p hp => by simp at hp, by simp⟩, D8⟩
      · rintro j σ H9 _ ⟨uvs9, ext, w6, w7, w10, w11, rfl, T9, b9, hnl9, hdl9, hal9, _⟩
        exact SqL.of hal9
      · rintro j x σ H9 hx ⟨uvs9, ext, w6, w7, w10, w11, rfl, T9, b9, hnl9, hdl9, hal9, hul9, pu9, ex9, D9⟩
        rw [List.getElem?_map] at hx
        obtain ⟨o, ho, rfl⟩ := Option.map_eq_some_iff.mp hx
        have lu9 := Paired.length pu9
        have lex := ex9.len
        have hs9 := hsumt j
        have luv : uvs9.length ≤ 9000 := by
          rw [lu9, List.length_append]
          omega
        refine ⟨_, rfl, tyL hul9, _, rfl, _, rfl, (by show 2 ≤ sizeLine; decide), fun t1 nt1 => ⟨(by show 1 ≤ sizeLine; decide), fun l1 nl1 => ?_⟩⟩
        have s10 := same_new nt1 (.tup [V.str nm, V.str o])
        have ht1 : (upd H9 t1 (.tup [V.str nm, V.str o])) t1 = some (.tup [V.str nm, V.str o]) := upd_same
        generalize upd H9 t1 (.tup [V.str nm, V.str o]) = H10 at s10 ht1 nl1 ⊢
        have s11 := same_new nl1 (.lst [V.ref t1])
        have hl11 : (upd H10 l1 (.lst [V.ref t1])) l1 = some (.lst [V.ref t1]) := upd_same
        have ht11 := s11 _ _ ht1
        generalize upd H10 l1 (.lst [V.ref t1]) = H11 at s11 hl11 ht11 ⊢
        have s911 := s10.trans s11
        have pu11 := Paired.mono (fun _ _ z => PairS.mono (Tups.of_same s911) z) pu9
        have hul11 := s911 _ _ hul9
        refine ⟨_, rfl, ul, rfl, ⟨_, SqL.of hul11⟩, fun Dn nDn => lc_list (xs := uvs9) (Pnew H11 Dn nm o (un ++ ext)) ?_ ?_ ?_ ?_⟩
        · exact ⟨same_new nDn _, [], upd_same, .nil⟩
        · exact fun k H12 _ p => SqL.of (p.1 _ _ hul11)
        · rintro k x H12 hx ⟨s12, vs, hvs, pvs⟩
          obtain ⟨p, hp, c, rfl, hc⟩ := Paired.at pu11 k x hx
          have hkl : k < uvs9.length := (List.getElem?_eq_some_iff.mp hx).1
          have lvs := Paired.length pvs
          have lvs2 : vs.length ≤ 9000 := by
            rw [lvs, List.length_map]
            have h1 := List.length_filter_le (fun p : Str × Str => decide (p.1 = o)) ((un ++ ext).take k)
            have h2 := List.length_take_le' k (un ++ ext)
            omega
          have e1 : decide (V.str p.1 = V.str o) = decide (p.1 = o) := decide_eq_decide.mpr ⟨fun z => V.str.inj z, fun z => by rw [z]⟩
          refine ⟨c, _, rfl, SqT.of (s12 _ _ hc), rfl, _, _, rfl, _, _, rfl, rfl, rfl, _, rfl, _, rfl, rfl, _, rfl, ?_⟩
          rw [e1]
          cases hk : decide (p.1 = o) with
          | true =>
            refine iteT ⟨_, rfl, _, rfl, (by show 2 ≤ sizeLine; decide), fun t2 nt2 => ?_⟩
            have s13 := same_new nt2 (.tup [V.str nm, V.str p.2])
            have ht2 : (upd H12 t2 (.tup [V.str nm, V.str p.2])) t2 = some (.tup [V.str nm, V.str p.2]) := upd_same
            generalize upd H12 t2 (.tup [V.str nm, V.str p.2]) = H13 at s13 ht2
            have T13 : Tups H13 (upd H13 Dn (.lst (vs ++ [V.ref t2]))) := Tups.upd (s13 _ _ hvs)
            refine ⟨vs, s13 _ _ hvs, line5 (by omega), Same.atNew (s12.trans s13) nDn, _, upd_same, ?_⟩
            rw [← take_next hp, List.filter_append, List.map_append, filt1 (p := fun p : Str × Str => decide (p.1 = o)) hk]
            exact pair_app (Paired.mono (fun _ _ z => PairS.mono ((Tups.of_same s13).trans T13) z) pvs) (.cons ⟨t2, rfl, T13 _ _ ht2⟩ .nil)
          | false =>
            refine iteF ⟨s12, vs, hvs, ?_⟩
            rw [← take_next hp, List.filter_append, filt0 (p := fun p : Str × Str => decide (p.1 = o)) hk, List.append_nil]
            exact pvs
        rintro H12 ⟨s12, vs, hvs, pvs⟩
        rw [lu9, List.take_length] at pvs
        have lvs := Paired.length pvs
        have lvs2 : vs.length ≤ 9000 := by
          rw [lvs, List.length_map]
          have h1 := List.length_filter_le (fun p : Str × Str => decide (p.1 = o)) (un ++ ext)
          omega
        refine ⟨l1, Dn, _, _, rfl, rfl, s12 _ _ hl11, hvs, Nat.le_of_lt (line5 (by simp; omega)), fun l2 nl2 => ?_⟩
        have s13 := same_new nl2 (.lst ([V.ref t1] ++ vs))
        have hl2 : (upd H12 l2 (.lst ([V.ref t1] ++ vs))) l2 = some (.lst ([V.ref t1] ++ vs)) := upd_same
        have T1213 := Tups.of_same s13
        have s913 := (s911.trans s12).trans s13
        generalize upd H12 l2 (.lst ([V.ref t1] ++ vs)) = H13 at s13 hl2 T1213 s913
        have hul13 := s913 _ _ hul9
        refine ⟨ul, l2, uvs9, _, rfl, rfl, hul13, hl2, Nat.le_of_lt (line5 (by simp; omega)), ?_⟩
        have T14 : Tups H13 (upd H13 ul (.lst (uvs9 ++ ([V.ref t1] ++ vs)))) := Tups.upd hul13
        have hne : ∀ {b : Addr} {xs : List V}, b ≠ ul → H9 b = some (.lst xs) → (upd H13 ul (.lst (uvs9 ++ ([V.ref t1] ++ vs)))) b = some (.lst xs) := fun hb h => by
          rw [upd_ne hb]
          exact s913 _ _ h
        have hou : o ∈ e.up := List.mem_of_getElem? ho
        have exn := ex9.next (u := o) (fun z => hupin o hou z.symm)
        refine ⟨_, ext ++ ((nm, o) :: (((un ++ ext).filter fun p => decide (p.1 = o)).map fun p => (nm, p.2))), _, _, _, _, rfl, (T9.trans (Tups.of_same s913)).trans T14, ?_, hne nulnl.symm hnl9, hne nuldl.symm hdl9, hne nalul hal9, upd_same, ?_, by rw [← take_next ho]; exact exn, (D9.same s913).at neul.1 neul.2⟩
        · exact (b9.trans (But.of_same s913)).atNew hul0
        · rw [show un ++ (ext ++ ((nm, o) :: (((un ++ ext).filter fun p => decide (p.1 = o)).map fun p => (nm, p.2)))) = (un ++ ext) ++ ((nm, o) :: (((un ++ ext).filter fun p => decide (p.1 = o)).map fun p => (nm, p.2))) from (List.append_assoc ..).symm]
          refine pair_app (Paired.mono (fun _ _ z => PairS.mono ((Tups.of_same s913).trans T14) z) pu9) (.cons (⟨t1, rfl, T14 _ _ (s13 _ _ (s12 _ _ ht11))⟩ : PairS _ (V.ref t1) (nm, o)) (Paired.mono (fun _ _ z => PairS.mono (T1213.trans T14) z) pvs))
      rintro σ H9 ⟨uvs9, ext, w6, w7, w10, w11, rfl, T9, b9, hnl9, hdl9, hal9, hul9, pu9, ex9, D9⟩
      rw [List.length_map, List.take_length] at ex9
      have ldv := Paired.length pds7
      refine ⟨_, rfl, tyL hdl9, _, rfl, _, rfl, (by show 2 ≤ sizeLine; decide), fun t nt => ?_⟩
      have s10 := same_new nt (.tup [V.str nm, dv])
      have ht : (upd H9 t (.tup [V.str nm, dv])) t = some (.tup [V.str nm, dv]) := upd_same
      generalize upd H9 t (.tup [V.str nm, dv]) = H10 at s10 ht
      have hdl10 := s10 _ _ hdl9
      refine ⟨dl, _, _, rfl, rfl, hdl10, line5 (by omega), ?_⟩
      have T11 : Tups H10 (upd H10 dl (.lst (dvs ++ [V.ref t]))) := Tups.upd hdl10
      have Tall : Tups H7 (upd H10 dl (.lst (dvs ++ [V.ref t]))) := (T9.trans (Tups.of_same s10)).trans T11
      have hne : ∀ {b : Addr} {xs : List V}, b ≠ dl → H9 b = some (.lst xs) → (upd H10 dl (.lst (dvs ++ [V.ref t]))) b = some (.lst xs) := fun hb h => by
        rw [upd_ne hb]
        exact s10 _ _ h
      have lup2 : e.up.length ≤ i := by
        have := nodup_len (l := e.up) (m := ds.map (·.1)) sd.once fun u hu => upOk_in (List.all_eq_true.mp sd.up u hu)
        rw [List.length_map] at this
        omega
      refine ⟨_, uvs9, ds ++ [(nm, e)], un ++ ext, _, _, _, _, _, _, _, rfl, (b9.trans (But.of_same s10)).atNew hdl0, hne ndlnl.symm hnl9, upd_same, pair_app (Paired.mono (fun _ _ z => ItemAt.mono Tall z) pds7) (.cons ⟨t, dv, rfl, T11 _ _ ht, hdv.mono Tall⟩ .nil), ?_, ?_, hne nuldl hul9, Paired.mono (fun _ _ z => PairS.mono ((Tups.of_same s10).trans T11) z) pu9, ?_, ((D9.same s10).at nedl.1 nedl.2).le (by omega)⟩
      · rw [← take_next hnm, List.map_append, eds]
        rfl
      · refine st.add hxin (List.mem_of_getElem? hnm) sd fun a b hab => ?_
        rcases List.mem_append.mp hab with h | h
        · exact .inl h
        · obtain ⟨h1, h2⟩ := ex9.mem _ h
          exact .inr ⟨h1, h2⟩
      · have := ex9.len
        rw [List.length_append, Nat.pow_succ]
        omega
    · cases hdv with
      | @record a b c fvs fs up ha hb hf hc =>
        refine ⟨_, rfl, _, _, _, _, rfl, rfl, SqT.of ha, at_of (j := 0) rfl rfl, rfl, _, rfl, ifF rfl ?_⟩
        refine ⟨_, rfl, _, rfl, _, _, _, _, rfl, rfl, SqT.of ha, rfl, c, _, rfl, .inr (SqT.of hc), fun al nal => ?_⟩
        exact hnx _ _ ⟨al, rfl, same_new nal _, nal, upd_same⟩
      | @choice a b cvs cs sh ha hb hf =>
        refine ⟨_, rfl, _, _, _, _, rfl, rfl, SqT.of ha, at_of (j := 0) rfl rfl, rfl, _, rfl, ifT rfl ?_⟩
        refine ⟨Nat.zero_le _, fun al nal => ?_⟩
        exact hnx _ _ ⟨al, rfl, same_new nal _, nal, upd_same⟩
      | @hidden a c up ha hc =>
        refine ⟨_, rfl, _, _, _, _, rfl, rfl, SqT.of ha, at_of (j := 0) rfl rfl, rfl, _, rfl, ifF rfl ?_⟩
        refine ⟨_, rfl, _, rfl, _, _, _, _, rfl, rfl, SqT.of ha, rfl, c, _, rfl, .inr (SqT.of hc), fun al nal => ?_⟩
        exact hnx _ _ ⟨al, rfl, same_new nal _, nal, upd_same⟩
  · rintro σ H6 ⟨dvs, uvs, ds, un, u5, u6, u7, u8, u9, u10, u11, rfl, b6, hnl6, hdl6, pds, eds, st, hul6, pun, lun, D6⟩
    have eds2 : ds.map (·.1) = nms := by
      rw [eds, List.length_map, List.take_length]
    have lds : ds.length ≤ 12 := by
      have := congrArg List.length eds2
      rw [List.length_map] at this
      omega
    have ldv := Paired.length pds
    rw [List.length_map] at D6
    refine ⟨Nat.zero_le _, fun fl nfl => ?_⟩
    have nefl := D6.ne nfl
    have hfl0 : H fl = none := b6.free nfl nefl
    have s7 := same_new nfl (.lst [])
    have nfdl : fl ≠ dl := (ne_of_none hdl6 nfl).symm
    refine ⟨_, rfl, dl, rfl, ⟨_, SqL.of (s7 _ _ hdl6)⟩, for_list (xs := dvs) (Pinq d g nl dl ul fl most (n + 300 + 1100 * (nms.length : Int)) dvs ds H) ?_ ?_ ?_ ?_⟩
    · exact ⟨[], [], _, _, _, _, _, _, rfl, b6.trans (But.of_same s7), s7 _ _ hdl6, Paired.mono (fun _ _ z => ItemAt.mono (Tups.of_same s7) z) pds, upd_same, .nil, by simp, (D6.same s7).le (by omega)⟩
    · rintro i σ H8 _ ⟨ws, es, w5, w7, w8, w9, w10, w11, rfl, b8, hdl8, _⟩
      exact SqL.of hdl8
    · rintro i x σ H8 hx ⟨ws, es, w5, w7, w8, w9, w10, w11, rfl, b8, hdl8, pds8, hfl8, pws, pm, D8⟩
      obtain ⟨p, hp, hit⟩ := Paired.at pds8 i x hx
      have hil : i < ds.length := (List.getElem?_eq_some_iff.mp hp).1
      have lws := Paired.length pws
      have les : es.length ≤ 12 := by
        rw [pm.length_eq]
        have := List.length_take_le' i ds
        omega
      refine ⟨_, rfl, tyL hfl8, _, rfl, _, rfl, fl, _, rfl, .inl (SqL.of hfl8), _, _, rfl, rfl, d, g, _, _, rfl, D8, by omega, by omega, by omega, fun r H9 a0 a1 D9 B9 => ?_⟩
      have hfl9 := B9 _ _ nefl.1 nefl.2 hfl8
      have T9 := D8.tups B9
      refine ⟨_, rfl, fl, ws, r, _, rfl, rfl, hfl9, line5 (by omega), a0, by omega, ?_⟩
      have T10 : Tups H9 (upd H9 fl (.lst (ws.take r.toNat ++ [x] ++ ws.drop r.toNat))) := Tups.upd hfl9
      have Tt := T9.trans T10
      refine ⟨_, es.take r.toNat ++ [p] ++ es.drop r.toNat, _, _, _, _, _, _, rfl, (b8.trans B9).atNew hfl0, ?_, Paired.mono (fun _ _ z => ItemAt.mono Tt z) pds8, upd_same, pair_put r.toNat (Paired.mono (fun _ _ z => ItemAt.mono Tt z) pws) (hit.mono Tt), ?_, (D9.at nefl.1 nefl.2).le (by omega)⟩
      · rw [upd_ne nfdl.symm]
        exact B9 _ _ nedl.1 nedl.2 hdl8
      · rw [← take_next hp]
        exact (put_perm.trans (List.Perm.cons _ pm)).trans (List.perm_append_singleton _ _).symm
    · rintro σ H8 ⟨ws, es, w5, w7, w8, w9, w10, w11, rfl, b8, hdl8, pds8, hfl8, pws, pm, D8⟩
      rw [ldv, List.take_length] at pm
      refine ⟨_, rfl, q fl ws es ds nms un H8 hfl0 hfl8 pws pm ?_ st (fun x hx => by rw [eds2]; exact hx) (fun x hx => (nmn x hx).1) (D8.le (by omega)) b8⟩
      have := congrArg List.length eds2
      rw [List.length_map] at this
      omega
end
end My
namespace My
open PySem L2
/-! len of an own class's instance; an edition's kinds and length -/
theorem call_lenOwn {X : Cx} {CX : CXT} {n : Nat} {C f : Addr} {fd : FuncData} {ps : List Str} {sp : Sp} {E : XK} (F : FnOk X.prog X.w X.K X.mg X.base CX n f fd ps sp) (hs : PySem.W.findIn X.K (.ref C) "__len__" = some (some (.ref f)))
    (hf : PySem.W.isFn X.K (.ref f) = true) (hb : Binds X.K fd ps []) (hx : Passes CX X E) (hr : Room (n + 1) X.A) :
    CallR X (.builtin "len") (fun xs H Q => ∃ (a dx : Addr) (fs : List (Str × V)), xs = [.ref a] ∧ H a = some (.ins C dx fs) ∧ sp [.ref a] H (fun v H' => ∃ k : Int, v = .int k ∧ 0 ≤ k ∧ k < 2 ^ 63 ∧ Q (.int k) H') E) := by
  intro pins s σ H xs us Q I r h
  obtain ⟨a, dx, fs, rfl, ha, hsp⟩ := h
  obtain ⟨mA, J, _⟩ := ins_get I.hok ha
  obtain ⟨od, J, _⟩ := J.look
  obtain ⟨m, hF⟩ := I.fr
  rw [Vals.ref1 r]
  refine PySem.W.len_K hF I.ok.mod.kin J hs hf ?_
  have e0 : Env0 X.prog X.w X.K X.mg X.base X.A.in1 X.stack s H := by
    have e := I.env0
    exact ⟨e.frames, e.mod, e.bs, e.bsz, e.funs, e.frf, e.hok, e.bare⟩
  have hl := F.len _ _ _ _ hsp
  have r2 : Vals [V.ref a] [Value.ref a] := .cons rfl .nil
  refine wpAny_call (codeAny_mono (F.run X.A.in1 X.stack s H ⟨[.ref a], []⟩ [.ref a] [.ref a] _ E hr.in1 e0 (by
    have := hb s [.ref a] I.kIn (by simpa using hl)
    simpa using this) r2 hsp) fun r s' hq => ?_)
  cases r with
  | error e => exact hx pins σ H s e s' I hq
  | ok fl =>
    cases fl with
    | ret w =>
      obtain ⟨z, H', I', rz, k, ez, k0, k1, q⟩ := I.after hq
      subst ez
      obtain ⟨t, rfl⟩ := rz
      exact ⟨⟨k0, k1⟩, ⟨.int k, H', I'.tok _, ⟨_, rfl⟩, q⟩⟩
    | next => exact False.elim hq
    | brk => exact False.elim hq
    | cont => exact False.elim hq
def spEdKinds (K : PySem.W.Frag) (C : Addr) : Sp := fun vs H Q _ => ∃ (e : Addr) (ds : List (Str × Decl)) (es : List Door) (us : List V), vs = [.ref e] ∧ EdAt K C H e ds es us ∧
  ∀ (r : Addr) (ws : List V) (H' : Hp), H r = none → H' r = some (.lst ws) → Paired (ItemAt H') ws ds → Same H H' → Q (.ref r) H'
def spEdLen (K : PySem.W.Frag) (C : Addr) : Sp := fun vs H Q _ => ∃ (e : Addr) (ds : List (Str × Decl)) (es : List Door) (us : List V), vs = [.ref e] ∧ EdAt K C H e ds es us ∧ Q (.int (es.length : Int)) H
section
variable {P : Program} {w : World} {K : PySem.W.Frag} {mg : Str → Option Value} {base : Heap} {f : Addr} {fd : FuncData} {C : Addr}
end
end My
namespace My
open PySem L2
/-! declarations as data -/
def okd : Option Kd → PyData
  | none => .none
  | some k => k.data
def cdata (c : Str × Option Kd) : PyData := .tuple [.str c.1, okd c.2]
def Decl.data : Decl → PyData
  | .record fs up => .tuple [.str "record", .tuple (fs.map fdata), .tuple (up.map PyData.str)]
  | .choice cs sh => .tuple [.str "choice", .tuple (cs.map cdata), .bool sh]
  | .hidden up => .tuple [.str "hidden", .tuple (up.map PyData.str)]
def idata (p : Str × Decl) : PyData := .tuple [.str p.1, p.2.data]
theorem CaseAt.dp {K : PySem.W.Frag} {H : Hp} {v : V} {c : Str × Option Kd} (h : CaseAt H v c) : Dp K H v (cdata c) := by
  obtain ⟨a, cv, rfl, h1, h2⟩ := h
  refine .tup (SqT.of h1) (.cons (.str _) (.cons ?_ .nil))
  rcases h2 with ⟨e, rfl⟩ | ⟨k, e, hk⟩
  · rw [e]
    exact .non
  · rw [e]
    exact hk.dp
theorem cases_dp {K : PySem.W.Frag} {H : Hp} : ∀ {vs : List V} {cs : List (Str × Option Kd)}, Paired (CaseAt H) vs cs → DpAll K H vs (cs.map cdata)
  | [], [], .nil => .nil
  | _ :: _, _ :: _, .cons h t => .cons h.dp (cases_dp t)
theorem DeclAt.dp {K : PySem.W.Frag} {H : Hp} {v : V} {d : Decl} (h : DeclAt H v d) : Dp K H v d.data := by
  cases h with
  | record h hb hf hc => exact .tup (SqT.of h) (.cons (.str _) (.cons (.tup (SqT.of hb) (flds_dp hf)) (.cons (.tup (SqT.of hc) (dp_strs _)) .nil)))
  | choice h hb hf => exact .tup (SqT.of h) (.cons (.str _) (.cons (.tup (SqT.of hb) (cases_dp hf)) (.cons (.bl _) .nil)))
  | hidden h hc => exact .tup (SqT.of h) (.cons (.str _) (.cons (.tup (SqT.of hc) (dp_strs _)) .nil))
theorem ItemAt.dp {K : PySem.W.Frag} {H : Hp} {v : V} {p : Str × Decl} (h : ItemAt H v p) : Dp K H v (idata p) := by
  obtain ⟨c, dv, rfl, h1, h2⟩ := h
  exact .tup (SqT.of h1) (.cons (.str _) (.cons h2.dp .nil))
theorem items_dp {K : PySem.W.Frag} {H : Hp} : ∀ {vs : List V} {ds : List (Str × Decl)}, Paired (ItemAt H) vs ds → DpAll K H vs (ds.map idata)
  | [], [], .nil => .nil
  | _ :: _, _ :: _, .cons h t => .cons h.dp (items_dp t)
theorem cdata_iff (a b : Str × Option Kd) : PyData.eqv (cdata a) (cdata b) = true ↔ a = b := by
  obtain ⟨x, k⟩ := a
  obtain ⟨y, l⟩ := b
  have e : PyData.eqv (cdata (x, k)) (cdata (y, l)) = ((x == y) && (PyData.eqv (okd k) (okd l) && true)) := rfl
  rw [e, Bool.and_true]
  have q : PyData.eqv (okd k) (okd l) = true ↔ k = l := by
    cases k with
    | none =>
      cases l with
      | none => simp [PyData.eqv, okd]
      | some l => cases l <;> simp [PyData.eqv, okd, Kd.data]
    | some k =>
      cases l with
      | none => cases k <;> simp [PyData.eqv, okd, Kd.data]
      | some l =>
        show PyData.eqv k.data l.data = true ↔ _
        rw [Kd.data_iff]
        exact ⟨fun h => by rw [h], fun h => Option.some.inj h⟩
  rw [and_iff beq_iff_eq q]
  exact ⟨fun h => by rw [h.1, h.2], fun h => ⟨congrArg Prod.fst h, congrArg Prod.snd h⟩⟩
theorem strs_iff (a b : List Str) : PyData.eqvAll (a.map PyData.str) (b.map PyData.str) = true ↔ a = b := eqvAll_iff (fun x y => by show (x == y) = true ↔ _; exact beq_iff_eq) a b
theorem Decl.data_iff (a b : Decl) : PyData.eqv a.data b.data = true ↔ a = b := by
  cases a with
  | record fs up =>
    cases b with
    | record gs vp =>
      show ((("record" : Str) == "record") && (PyData.eqvAll (fs.map fdata) (gs.map fdata) && (PyData.eqvAll (up.map PyData.str) (vp.map PyData.str) && true))) = true ↔ _
      rw [Bool.and_true, show (("record" : Str) == "record") = true from by decide, Bool.true_and, and_iff (eqvAll_iff fdata_iff _ _) (strs_iff _ _)]
      exact ⟨fun h => by rw [h.1, h.2], fun h => by injection h with h1 h2; exact ⟨h1, h2⟩⟩
    | choice cs sh => exact ⟨fun h => by simp [Decl.data, PyData.eqv, PyData.eqvAll] at h, fun h => by cases h⟩
    | hidden vp => exact ⟨fun h => by simp [Decl.data, PyData.eqv, PyData.eqvAll] at h, fun h => by cases h⟩
  | choice cs sh =>
    cases b with
    | record gs vp => exact ⟨fun h => by simp [Decl.data, PyData.eqv, PyData.eqvAll] at h, fun h => by cases h⟩
    | choice ds th =>
      show ((("choice" : Str) == "choice") && (PyData.eqvAll (cs.map cdata) (ds.map cdata) && ((sh == th) && true))) = true ↔ _
      rw [Bool.and_true, show (("choice" : Str) == "choice") = true from by decide, Bool.true_and, and_iff (eqvAll_iff cdata_iff _ _) beq_iff_eq]
      exact ⟨fun h => by rw [h.1, h.2], fun h => by injection h with h1 h2; exact ⟨h1, h2⟩⟩
    | hidden vp => exact ⟨fun h => by simp [Decl.data, PyData.eqv, PyData.eqvAll] at h, fun h => by cases h⟩
  | hidden up =>
    cases b with
    | record gs vp => exact ⟨fun h => by simp [Decl.data, PyData.eqv, PyData.eqvAll] at h, fun h => by cases h⟩
    | choice ds th => exact ⟨fun h => by simp [Decl.data, PyData.eqv, PyData.eqvAll] at h, fun h => by cases h⟩
    | hidden vp =>
      show ((("hidden" : Str) == "hidden") && (PyData.eqvAll (up.map PyData.str) (vp.map PyData.str) && true)) = true ↔ _
      rw [Bool.and_true, show (("hidden" : Str) == "hidden") = true from by decide, Bool.true_and, strs_iff]
      exact ⟨fun h => by rw [h], fun h => by injection h⟩
theorem idata_iff (a b : Str × Decl) : PyData.eqv (idata a) (idata b) = true ↔ a = b := by
  show ((a.1 == b.1) && (PyData.eqv a.2.data b.2.data && true)) = true ↔ _
  rw [Bool.and_true, and_iff beq_iff_eq (Decl.data_iff _ _)]
  exact ⟨fun h => Prod.ext h.1 h.2, fun h => by rw [h]; exact ⟨rfl, rfl⟩⟩
end My
namespace My
open PySem L2
/-! what is drawn can be laid as data -/
theorem strs_lay {l : List Str} (h : ∀ x ∈ l, LtA x) : PyData.canLayAll0 (l.map PyData.str) = true ∧ PyData.depthAll (l.map PyData.str) ≤ 0 :=
  lay_all (f := PyData.str) (n := 0) fun x hx => ⟨strOk_lt (h x hx), Nat.le_refl _⟩
theorem case_lay {nms : List Str} {c : Str × Option Kd} (hl : ∀ x ∈ nms, LtS x) (g : ∀ k, c.2 = some k → GoodK nms k) (hn : LtA c.1) : PyData.canLay0 (cdata c) = true ∧ PyData.depth (cdata c) ≤ 9 := by
  have e := strOk_lt hn
  have q : PyData.canLay0 (okd c.2) = true ∧ PyData.depth (okd c.2) ≤ 8 := by
    cases h : c.2 with
    | none => exact ⟨rfl, by simp [okd, PyData.depth]⟩
    | some k => exact goodk_lay hl (g k h)
  refine ⟨?_, ?_⟩
  · simp [cdata, PyData.canLay0, PyData.canLayAll0, q.1, e]
  · have := q.2
    simp [cdata, PyData.depth, PyData.depthAll]
    omega
theorem item_lay {nms : List Str} {ds : List (Str × Decl)} {p : Str × Decl} (hl : ∀ x ∈ nms, LtS x) (hn : LtA p.1) (hd : ∀ x ∈ ds.map (·.1), LtA x) (sd : StandD nms ds p.2) : PyData.canLay0 (idata p) = true ∧ PyData.depth (idata p) ≤ 12 := by
  have e := strOk_lt hn
  have hup : ∀ u ∈ p.2.up, LtA u := fun u hu => hd u (upOk_in (List.all_eq_true.mp sd.up u hu))
  have q : PyData.canLay0 p.2.data = true ∧ PyData.depth p.2.data ≤ 11 := by
    have g := sd.good
    cases hp : p.2 with
    | record fs up =>
      rw [hp] at g hup
      obtain ⟨a, b⟩ := lay_all (f := fdata) (n := 9) (l := fs) fun f hf => goodf_lay hl (g.1.kd f hf) (g.1.nm f hf).1.2
      obtain ⟨c, d⟩ := strs_lay (l := up) hup
      refine ⟨?_, ?_⟩
      · simp [Decl.data, PyData.canLay0, PyData.canLayAll0, a, c]
        decide +kernel
      · simp [Decl.data, PyData.depth, PyData.depthAll]
        omega
    | choice cs sh =>
      rw [hp] at g
      obtain ⟨a, b⟩ := lay_all (f := cdata) (n := 9) (l := cs) fun c hc => case_lay hl (g.2.2.2 c hc) (g.2.2.1 c hc).1.2
      refine ⟨?_, ?_⟩
      · simp [Decl.data, PyData.canLay0, PyData.canLayAll0, a]
        decide +kernel
      · simp [Decl.data, PyData.depth, PyData.depthAll]
        omega
    | hidden up =>
      rw [hp] at hup
      obtain ⟨c, d⟩ := strs_lay (l := up) hup
      refine ⟨?_, ?_⟩
      · simp [Decl.data, PyData.canLay0, PyData.canLayAll0, c]
        decide +kernel
      · simp [Decl.data, PyData.depth, PyData.depthAll]
        omega
  refine ⟨?_, ?_⟩
  · simp [idata, PyData.canLay0, PyData.canLayAll0, q.1, e]
  · have := q.2
    simp [idata, PyData.depth, PyData.depthAll]
    omega
/-- declarations that are drawn, in whatever order -/
structure DrawnKs (es : List (Str × Decl)) : Prop where
  ok : KindsOk es
  nm : ∀ x ∈ es.map (·.1), Nm x
  lay : ∀ p ∈ es, PyData.canLay0 (idata p) = true ∧ PyData.depth (idata p) ≤ 12
theorem Stage.drawn {nms : List Str} {ds es : List (Str × Decl)} {un : List (Str × Str)} (h : Stage nms ds un) (p : es.Perm ds) (hlen : ds.length ≤ 12) (hall : ∀ x ∈ nms, x ∈ ds.map (·.1)) (hnm : ∀ x ∈ nms, Nm x) : DrawnKs es := by
  have inn : ∀ x ∈ ds.map (·.1), x ∈ nms := fun x hx => by
    obtain ⟨q, hq, rfl⟩ := List.mem_map.mp hx
    exact h.sub q hq
  refine ⟨h.kinds p hlen hall hnm, fun x hx => hnm x (inn x ((p.map (·.1)).mem_iff.mp hx)), fun q hq => ?_⟩
  have hq := p.mem_iff.mp hq
  exact item_lay (nms := nms) (ds := ds) (fun x hx => (hnm x hx).1) (hnm _ (h.sub q hq)).1.2 (fun x hx => (hnm x (inn x hx)).1.2) (h.good q hq)
end My
namespace My
open PySem L2
def PairN (H : Hp) (v : V) (n : Nat) : Prop := ∃ a x, v = .ref a ∧ H a = some (.tup [x, .int (n : Int)])
def PairK (H : Hp) (v : V) (p : Kd × Nat) : Prop := ∃ a x, v = .ref a ∧ H a = some (.tup [x, .int (p.2 : Int)]) ∧ KdAt H x p.1
theorem PairN.mono {H H' : Hp} (t : Tups H H') {v : V} {n : Nat} (h : PairN H v n) : PairN H' v n := by
  obtain ⟨a, x, e, h⟩ := h
  exact ⟨a, x, e, t _ _ h⟩
theorem PairK.mono {H H' : Hp} (t : Tups H H') {v : V} {p : Kd × Nat} (h : PairK H v p) : PairK H' v p := by
  obtain ⟨a, x, e, h, k⟩ := h
  exact ⟨a, x, e, t _ _ h, k.mono t⟩
def pdata (p : Kd × Nat) : PyData := .tuple [p.1.data, .int (p.2 : Int)]
theorem dp_pairs {K : PySem.W.Frag} {H : Hp} : ∀ {ws : List V} {kns : List (Kd × Nat)}, Paired (PairK H) ws kns → DpAll K H ws (kns.map pdata)
  | _, _, .nil => .nil
  | _, _, .cons h t => by
    obtain ⟨a, x, rfl, ha, hk⟩ := h
    exact .cons (.tup (SqT.of ha) (.cons hk.dp (.cons (.int _) .nil))) (dp_pairs t)
theorem shaped_pairs {kns : List (Kd × Nat)} (h : ∀ p ∈ kns, p.1.depth ≤ 25 ∧ ∀ x ∈ p.1.names, LtA x) : SeqAt.shaped (.list (kns.map pdata)) = true := by
  have a : PyData.canLayAll0 (kns.map pdata) = true := by
    induction kns with
    | nil => rfl
    | cons p r ih =>
      have h1 := Kd.data_lay p.1 (h p (by simp)).2
      rw [List.map_cons, PyData.canLayAll0, ih fun y hy => h y (by simp [hy])]
      simp [pdata, PyData.canLay0, PyData.canLayAll0, h1]
  have b : PyData.depthAll (kns.map pdata) ≤ 51 := by
    clear a
    induction kns with
    | nil => exact Nat.zero_le _
    | cons p r ih =>
      have ih := ih fun y hy => h y (by simp [hy])
      have h1 := Kd.data_depth p.1
      have h2 := (h p (by simp)).1
      rw [List.map_cons, PyData.depthAll]
      have e : PyData.depth (pdata p) = PyData.depth p.1.data + 1 := by simp [pdata, PyData.depth, PyData.depthAll]
      rw [e]
      omega
  unfold SeqAt.shaped
  rw [PyData.canLay0, a, PyData.depth, decide_eq_true (by omega)]
  rfl
theorem eqv_nild (ds : List PyData) : PyData.eqv (.list ds) (.list []) = ds.isEmpty := by
  cases ds with
  | nil => simp [PyData.eqv, PyData.eqvAll]
  | cons x r => simp [PyData.eqv, PyData.eqvAll]
def szs (kns : List (Kd × Nat)) : Nat := Kd.sizes (kns.map (·.1))
theorem Kd.depths_mem3 : ∀ {ks : List Kd}, 1 ≤ Kd.depths ks → ∃ k ∈ ks, k.depth = Kd.depths ks
  | [], h => by simp [Kd.depths] at h
  | k :: r, h => by
    rw [Kd.depths]
    by_cases c : Kd.depths r ≤ k.depth
    · exact ⟨k, by simp, by omega⟩
    · obtain ⟨x, hx, e⟩ := Kd.depths_mem3 (ks := r) (by omega)
      exact ⟨x, by simp [hx], by omega⟩
theorem Kd.depths_le {k : Kd} : ∀ {ks : List Kd}, k ∈ ks → k.depth ≤ Kd.depths ks
  | x :: r, h => by
    rw [Kd.depths]
    rcases List.mem_cons.mp h with rfl | h
    · omega
    · have := Kd.depths_le h
      omega
theorem Kd.inner_names {k i : Kd} (h : i ∈ k.inner) {x : Str} (hx : x ∈ i.names) : x ∈ k.names := by
  cases k with
  | num => simp [Kd.inner] at h
  | text => simp [Kd.inner] at h
  | of y => simp [Kd.inner] at h
  | row k =>
    have e : i = k := by simpa [Kd.inner] using h
    subst e
    exact hx
  | calls ps r =>
    show x ∈ Kd.namesL ps ++ r.names
    rcases List.mem_append.mp (show i ∈ ps ++ [r] from h) with h | h
    · exact List.mem_append_left _ (Kd.namesL_mem h hx)
    · have e : i = r := by simpa using h
      subst e
      exact List.mem_append_right _ hx
  | answers n k =>
    have e : i = k := by simpa [Kd.inner] using h
    subst e
    exact hx
theorem Kd.depth_pos (k : Kd) : 1 ≤ k.depth := by
  rw [Kd.depth_inner]
  omega
/-- _law_within -/
def spWithin : Sp := fun vs H Q _ => ∃ (v : V) (k : Kd), vs = [v] ∧ KdAt H v k ∧ k.size ≤ 100000 ∧ k.depth ≤ 20 ∧ (∀ x ∈ k.names, LtA x) ∧
  ∀ (r : Addr) (fs : List V) (ns : List Nat) (H' : Hp), H r = none → H' r = some (.lst fs) → Paired (PairN H') fs ns → k.depth ∈ ns → (∀ n ∈ ns, n ≤ k.depth) → fs.length ≤ k.size → Same H H' → Q (.ref r) H'
def Wwi (k : Kd) (v : V) (rf rw : Addr) (H0 : Hp) (m : Nat) (σ : St) (H : Hp) : Prop :=
  ∃ (fs : List V) (ns : List Nat) (ws : List V) (kns : List (Kd × Nat)) (u3 u4 u5 : Option V), σ = [some v, some (.ref rf), some (.ref rw), u3, u4, u5] ∧ Same H0 H ∧ H rf = some (.lst fs) ∧ Paired (PairN H) fs ns ∧
    H rw = some (.lst ws) ∧ Paired (PairK H) ws kns ∧ (∀ n ∈ ns, n ≤ k.depth) ∧ (∀ p ∈ kns, p.2 + p.1.depth ≤ k.depth + 1 ∧ ∀ x ∈ p.1.names, LtA x) ∧
    (k.depth ∈ ns ∨ ∃ p ∈ kns, p.2 + p.1.depth = k.depth + 1) ∧ fs.length + szs kns = k.size ∧ m = szs kns
theorem Wwi.next {k k0 : Kd} {n0 : Nat} {v x : V} {rf rw p : Addr} {H0 H H' : Hp} {fs wr acc : List V} {ns : List Nat} {knr : List (Kd × Nat)} {u3 u4 u5 : Option V}
    (s : Same H0 H') (t : Tups H H') (hf : H' rf = some (.lst (fs ++ [.ref p]))) (pf : Paired (PairN H) fs ns) (hp : H' p = some (.tup [x, .int (n0 : Int)])) (hw : H' rw = some (.lst (wr ++ acc)))
    (pw : Paired (PairK H) wr knr) (pa : Paired (PairK H') acc (k0.inner.map fun i => (i, n0 + 1))) (hn : ∀ n ∈ ns, n ≤ k.depth) (hk : ∀ p ∈ (k0, n0) :: knr, p.2 + p.1.depth ≤ k.depth + 1 ∧ ∀ x ∈ p.1.names, LtA x)
    (hw2 : k.depth ∈ ns ∨ ∃ p ∈ (k0, n0) :: knr, p.2 + p.1.depth = k.depth + 1) (hs : fs.length + szs ((k0, n0) :: knr) = k.size) :
    ∃ m', m' < szs ((k0, n0) :: knr) ∧ Wwi k v rf rw H0 m' [some v, some (.ref rf), some (.ref rw), u3, u4, u5] H' := by
  have h0 := hk (k0, n0) (by simp)
  have hd := Kd.depth_inner k0
  have hz := Kd.size_inner k0
  have e1 : szs ((k0, n0) :: knr) = k0.size + szs knr := rfl
  have e2 : szs (knr ++ k0.inner.map fun i => (i, n0 + 1)) = szs knr + Kd.sizes k0.inner := by
    unfold szs
    rw [List.map_append, Kd.sizes_app, List.map_map]
    have : (k0.inner.map ((fun q : Kd × Nat => q.1) ∘ fun i => (i, n0 + 1))) = k0.inner := by
      rw [show ((fun q : Kd × Nat => q.1) ∘ fun i : Kd => (i, n0 + 1)) = id from rfl, List.map_id]
    rw [this]
  refine ⟨_, ?_, fs ++ [.ref p], ns ++ [n0], wr ++ acc, knr ++ k0.inner.map fun i => (i, n0 + 1), u3, u4, u5, rfl, s, hf, pair_app (Paired.mono (fun _ _ z => z.mono t) pf) (.cons ⟨p, x, rfl, hp⟩ .nil), hw, pair_app (Paired.mono (fun _ _ z => z.mono t) pw) pa, ?_, ?_, ?_, ?_, rfl⟩
  · rw [e1, e2]
    omega
  · intro n h
    rcases List.mem_append.mp h with h | h
    · exact hn n h
    · have e : n = n0 := by simpa using h
      have := h0.1
      have := Kd.depth_pos k0
      simp only at *
      omega
  · intro q h
    rcases List.mem_append.mp h with h | h
    · exact hk q (by simp [h])
    · obtain ⟨i, hi, rfl⟩ := List.mem_map.mp h
      have h3 := Kd.depths_le hi
      have h4 := h0.1
      simp only at h4
      exact ⟨by show n0 + 1 + i.depth ≤ k.depth + 1; omega, fun y hy => h0.2 y (Kd.inner_names hi hy)⟩
  · rcases hw2 with h | ⟨q, hq, e⟩
    · exact .inl (List.mem_append_left _ h)
    · rcases List.mem_cons.mp hq with rfl | hq
      · simp only at e
        by_cases c : 1 ≤ Kd.depths k0.inner
        · obtain ⟨i, hi, ei⟩ := Kd.depths_mem3 c
          exact .inr ⟨(i, n0 + 1), List.mem_append_right _ (List.mem_map.mpr ⟨i, hi, rfl⟩), by show n0 + 1 + i.depth = k.depth + 1; omega⟩
        · have : n0 = k.depth := by omega
          exact .inl (List.mem_append_right _ (by simp [this]))
      · exact .inr ⟨q, List.mem_append_left _ hq, e⟩
  · rw [List.length_append, e2]
    rw [e1] at hs
    simp only [List.length_singleton]
    omega
theorem catA_one {K : PySem.W.Frag} {Q : VK} {b t : Addr} {ws : List V} {v : V} {H : Hp} (hb : H b = some (.tup ws)) (ht : H t = some (.tup [v])) (hl : ws.length + 1 ≤ sizeLine)
    (h : ∀ T H', Same H H' → H' T = some (.tup (ws ++ [v])) → Q (.ref T) H') : rCatA K (.ref b) (.ref t) H Q := by
  refine ⟨b, t, ws, [v], rfl, rfl, SqT.of hb, SqT.of ht, hl, fun e => ?_, fun _ e => (by cases e), fun _ _ p np => h p _ (same_new np _) upd_same⟩
  subst e
  exact h t H (Same.refl _) ht
def Pinn (H0 : Hp) (D : Addr) (ks : List Kd) (n : Nat) (i : Nat) (H : Hp) : Prop := Same H0 H ∧ ∃ acc, H D = some (.lst acc) ∧ Paired (PairK H) acc ((ks.take i).map fun k => (k, n))
section
variable {P : Program} {w : World} {K : PySem.W.Frag} {mg : Str → Option Value} {base : Heap} {f : Addr} {fd : FuncData}
end
end My
namespace My
open PySem L2
/-! _law_within: all kinds in a kind -/
def spWithin2 : Sp := fun vs H Q _ => ∃ (v : V) (k : Kd), vs = [v] ∧ KdAt H v k ∧ k.size ≤ 100000 ∧ k.depth ≤ 20 ∧ (∀ x ∈ k.names, LtA x) ∧
  ∀ (r : Addr) (fs : List V) (fks : List (Kd × Nat)) (H' : Hp), H r = none → H' r = some (.lst fs) → Paired (PairK H') fs fks → (fks.map (·.1)).Perm k.subs → fs.length ≤ k.size → Same H H' → Q (.ref r) H'
def Wwi2 (k : Kd) (v : V) (rf rw : Addr) (H0 : Hp) (m : Nat) (σ : St) (H : Hp) : Prop :=
  ∃ (fs : List V) (fks : List (Kd × Nat)) (ws : List V) (kns : List (Kd × Nat)) (u3 u4 u5 : Option V), σ = [some v, some (.ref rf), some (.ref rw), u3, u4, u5] ∧ Same H0 H ∧ H rf = some (.lst fs) ∧ Paired (PairK H) fs fks ∧
    H rw = some (.lst ws) ∧ Paired (PairK H) ws kns ∧ (∀ p ∈ kns, p.1.depth ≤ 20 ∧ ∀ x ∈ p.1.names, LtA x) ∧
    (fks.map (·.1) ++ Kd.subsL (kns.map (·.1))).Perm k.subs ∧ fs.length + szs kns = k.size ∧ m = szs kns
theorem Wwi2.next {k k0 : Kd} {n0 : Nat} {v x : V} {rf rw p : Addr} {H0 H H' : Hp} {fs wr acc : List V} {fks : List (Kd × Nat)} {knr : List (Kd × Nat)} {u3 u4 u5 : Option V}
    (s : Same H0 H') (t : Tups H H') (hf : H' rf = some (.lst (fs ++ [.ref p]))) (pf : Paired (PairK H) fs fks) (hp : H' p = some (.tup [x, .int (n0 : Int)])) (hx : KdAt H' x k0) (hw : H' rw = some (.lst (wr ++ acc)))
    (pw : Paired (PairK H) wr knr) (pa : Paired (PairK H') acc (k0.inner.map fun i => (i, n0 + 1))) (hk : ∀ p ∈ (k0, n0) :: knr, p.1.depth ≤ 20 ∧ ∀ x ∈ p.1.names, LtA x)
    (hw2 : (fks.map (·.1) ++ Kd.subsL (((k0, n0) :: knr).map (·.1))).Perm k.subs) (hs : fs.length + szs ((k0, n0) :: knr) = k.size) :
    ∃ m', m' < szs ((k0, n0) :: knr) ∧ Wwi2 k v rf rw H0 m' [some v, some (.ref rf), some (.ref rw), u3, u4, u5] H' := by
  have h0 := hk (k0, n0) (by simp)
  have hd := Kd.depth_inner k0
  have hz := Kd.size_inner k0
  have e1 : szs ((k0, n0) :: knr) = k0.size + szs knr := rfl
  have e3 : (knr ++ k0.inner.map fun i => (i, n0 + 1)).map (·.1) = knr.map (·.1) ++ k0.inner := by
    rw [List.map_append, List.map_map, show ((fun q : Kd × Nat => q.1) ∘ fun i : Kd => (i, n0 + 1)) = id from rfl, List.map_id]
  have e2 : szs (knr ++ k0.inner.map fun i => (i, n0 + 1)) = szs knr + Kd.sizes k0.inner := by
    unfold szs
    rw [e3, Kd.sizes_app]
  refine ⟨_, ?_, fs ++ [.ref p], fks ++ [(k0, n0)], wr ++ acc, knr ++ k0.inner.map fun i => (i, n0 + 1), u3, u4, u5, rfl, s, hf, pair_app (Paired.mono (fun _ _ z => z.mono t) pf) (.cons ⟨p, x, rfl, hp, hx⟩ .nil), hw, pair_app (Paired.mono (fun _ _ z => z.mono t) pw) pa, ?_, ?_, ?_, rfl⟩
  · rw [e1, e2]
    omega
  · intro q h
    rcases List.mem_append.mp h with h | h
    · exact hk q (by simp [h])
    · obtain ⟨i, hi, rfl⟩ := List.mem_map.mp h
      have h3 := Kd.depths_le hi
      have h4 := h0.1
      simp only at h4
      exact ⟨by show i.depth ≤ 20; omega, fun y hy => h0.2 y (Kd.inner_names hi hy)⟩
  · refine List.Perm.trans ?_ hw2
    rw [e3, Kd.subsL_app, List.map_append]
    show (fks.map (·.1) ++ [k0] ++ (Kd.subsL (knr.map (·.1)) ++ Kd.subsL k0.inner)).Perm (fks.map (·.1) ++ (k0.subs ++ Kd.subsL (knr.map (·.1))))
    rw [Kd.subs_inner k0, List.append_assoc]
    refine List.Perm.append_left _ ?_
    show (k0 :: (Kd.subsL (knr.map (·.1)) ++ Kd.subsL k0.inner)).Perm (k0 :: (Kd.subsL k0.inner ++ Kd.subsL (knr.map (·.1))))
    exact List.Perm.cons _ List.perm_append_comm
  · rw [List.length_append, e2]
    rw [e1] at hs
    simp only [List.length_singleton]
    omega
section
variable {P : Program} {w : World} {K : PySem.W.Frag} {mg : Str → Option Value} {base : Heap} {f : Addr} {fd : FuncData}
end
end My
namespace My
open PySem L2
/-! fits of an edition -/
def spKindFits (K : PySem.W.Frag) (C : Addr) : Sp := fun vs H Q _ => ∃ (e : Addr) (ds : List (Str × Decl)) (es : List Door) (us : List V) (v w : V) (a b : Kd), vs = [.ref e, v, w] ∧ EdAt K C H e ds es us ∧ KdAt H v a ∧ KdAt H w b ∧ a.fine ∧ b.fine ∧
  ∀ (r : Bool) (H' : Hp), (r = true ↔ fitsP ds a b) → Same H H' → Q (.bl r) H'
section
variable {P : Program} {w : World} {K : PySem.W.Frag} {mg : Str → Option Value} {base : Heap} {f : Addr} {fd : FuncData} {C fkf : Addr} {gkf : FuncData}
theorem ok_kind_fits (c : EdC K C) (F : Fun K "kind_fits" "Edition.kind_fits" s_Edition_kind_fits f fd) (c_fits_by : Cal P w K mg base "fits_by" 5 ["above", "given", "wanted"] spFits) : FnOk P w K mg base CX0 6 f fd ["self", "given", "wanted"] (spKindFits K C) := by
  refine F.ok sc_Edition_kind_fits (fun vs H Q E h => ?_) (fun cdv A outer s H vs Q E hr h => ?_)
  · obtain ⟨e, ds, es, us, v, w, a, b, rfl, _⟩ := h
    rfl
  obtain ⟨e, ds, es, us, v, w, a, b, rfl, hE, hv, hw, fa, fb, q⟩ := h
  refine ⟨_, (pss_one (ps_ret (pc c_fits_by (hr.mono (by first | decide | omega)) (pa_cons (pe_fld (pv 0) rfl) (pa_cons (pv 1) (pa_cons (pv 2) pa_nil)))))), ?_⟩
  obtain ⟨dx, n, l, m, da, ba, ta, ws, zs, kvs, bvs, ts, h0, hn, hl, hws, hm, hz, hd, hk, hb, hvv, ht, hrr⟩ := hE.ex
  refine ⟨_, rfl, e, C, dx, _, _, rfl, h0, c.cl, c.nAb, rfl, _, rfl, _, rfl, ta, ds, v, w, a, b, rfl, ⟨ts, .inl ht, hrr⟩, hv, hw, fa, fb, q⟩
theorem ok_fits_def (c : EdC K C) (F : Fun K "fits" "fits" s_fits f fd) (m_kind_fits : Meth K C "kind_fits" fkf) (f_kind_fits : FnOk P w K mg base CX0 6 fkf gkf ["self", "given", "wanted"] (spKindFits K C)) (bm_kind_fits : Binds K gkf ["self", "given", "wanted"] []) :
    FnOk P w K mg base CX0 7 f fd ["edition", "given", "wanted"] (spKindFits K C) := by
  refine F.ok sc_fits (fun vs H Q E h => ?_) (fun cdv A outer s H vs Q E hr h => ?_)
  · obtain ⟨e, ds, es, us, v, w, a, b, rfl, _⟩ := h
    rfl
  obtain ⟨e, ds, es, us, v, w, a, b, rfl, hE, hv, hw, fa, fb, q⟩ := h
  refine ⟨_, (pss_one (ps_ret (pe_meth (pv 0) c.cl m_kind_fits f_kind_fits (hr.mono (by first | decide | omega)) bm_kind_fits .nil pass0 (pa_cons (pv 1) (pa_cons (pv 2) pa_nil))))), ?_⟩
  obtain ⟨dx, n, l, m, da, ba, ta, _, _, _, _, _, h0, _⟩ := hE.ex
  exact ⟨_, rfl, e, dx, _, rfl, h0, rfl, _, rfl, _, rfl, e, ds, es, us, v, w, a, b, rfl, hE, hv, hw, fa, fb, q⟩
end
end My
namespace My
open PySem L2
/-! _law_under: what stands above, by whatever steps -/
def spUnder : Sp := fun vs H Q _ => ∃ (l : Addr) (x y : Str) (ws : List V) (ds : List (Str × Decl)), vs = [.ref l, .str x, .str y] ∧ H l = some (.lst ws) ∧ Paired (ItemAt H) ws ds ∧ KindsOk ds ∧ x ∈ ds.map (·.1) ∧
  ∀ (r : Bool) (H' : Hp), (r = true ↔ Up ds x y) → Same H H' → Q (.bl r) H'
/-- amid the search -/
structure Srch (ds : List (Str × Decl)) (x y : Str) (S W : List Str) (m : Nat) : Prop where
  w : ∀ z ∈ W, z = x ∨ Up ds x z
  s : ∀ z ∈ S, Up ds x z
  y : y ∉ S
  all : ∀ z, (z = x ∨ z ∈ S) → z ∈ W ∨ ∀ u, Dir ds z u → u ∈ S
  me : m = W.length + ((ds.map (·.1)).filter fun z => decide (z ∉ S)).length
  few : S.length + 20 * m ≤ 300
theorem dir_in {ds : List (Str × Decl)} {a b : Str} (ok : KindsOk ds) (h : Dir ds a b) : b ∈ ds.map (·.1) := by
  obtain ⟨d, e, hb⟩ := h
  have z := (ok.ok (a, d) (look_mem e)).2.1.2.2
  exact upOk_in (List.all_eq_true.mp z b hb)
theorem up_in {ds : List (Str × Decl)} {a b : Str} (ok : KindsOk ds) (h : Up ds a b) : b ∈ ds.map (·.1) := by
  cases h with
  | one g => exact dir_in ok g
  | more _ g => exact dir_in ok g
theorem Srch.done {ds : List (Str × Decl)} {x y : Str} {S : List Str} {m : Nat} (h : Srch ds x y S [] m) : ¬ Up ds x y := fun u => by
  have all : ∀ z, (z = x ∨ z ∈ S) → ∀ u, Dir ds z u → u ∈ S := fun z hz => (h.all z hz).elim (fun k => by simp at k) id
  have : ∀ {a b : Str}, Up ds a b → a = x → b ∈ S := fun u => by
    induction u with
    | one g => intro e; exact all _ (.inl e) _ g
    | more _ g ih => intro e; exact all _ (.inr (ih e)) _ g
  exact h.y (this u rfl)
theorem Srch.next {ds : List (Str × Decl)} {x y z : Str} {S W : List Str} {m : Nat} {d : Decl} (ok : KindsOk ds) (h : Srch ds x y S (W ++ [z]) m) (hd : look ds z = some d) (hy : y ∉ d.up) :
    ∃ m', m' < m ∧ Srch ds x y (S ++ d.up) (W ++ d.up.filter fun u => decide (u ∉ S)) m' := by
  have hz := h.w z (by simp)
  have dir : ∀ u ∈ d.up, Dir ds z u := fun u hu => ⟨d, hd, hu⟩
  have upu : ∀ u ∈ d.up, Up ds x u := fun u hu => by
    rcases hz with rfl | hz
    · exact .one (dir u hu)
    · exact .more hz (dir u hu)
  have nd : d.up.Nodup := (ok.ok (z, d) (look_mem hd)).2.1.1
  have ndn := ok.once
  -- the count of what is not seen
  have cnt : ((ds.map (·.1)).filter fun z => decide (z ∉ S ++ d.up)).length + (d.up.filter fun u => decide (u ∉ S)).length ≤ ((ds.map (·.1)).filter fun z => decide (z ∉ S)).length := by
    have e1 : (((ds.map (·.1)).filter fun z => decide (z ∉ S ++ d.up)) ++ (d.up.filter fun u => decide (u ∉ S))).Nodup := by
      rw [List.nodup_append]
      refine ⟨ndn.filter _, nd.filter _, fun a ha b hb e => ?_⟩
      have h1 := of_decide_eq_true (List.mem_filter.mp ha).2
      subst e
      exact h1 (List.mem_append.mpr (.inr (List.mem_filter.mp hb).1))
    have := nodup_len e1 (m := (ds.map (·.1)).filter fun z => decide (z ∉ S)) fun a ha => by
      rcases List.mem_append.mp ha with ha | ha
      · obtain ⟨h1, h2⟩ := List.mem_filter.mp ha
        exact List.mem_filter.mpr ⟨h1, decide_eq_true fun k => (of_decide_eq_true h2) (List.mem_append.mpr (.inl k))⟩
      · obtain ⟨h1, h2⟩ := List.mem_filter.mp ha
        exact List.mem_filter.mpr ⟨dir_in ok (dir a h1), h2⟩
    rw [List.length_append] at this
    exact this
  have hm := h.me
  rw [List.length_append, List.length_singleton] at hm
  have few := (ok.few (z, d) (look_mem hd)).1
  have hf := h.few
  refine ⟨_, ?_, fun u hu => ?_, fun u hu => ?_, fun k => ?_, fun u hu => ?_, rfl, ?_⟩
  · rw [List.length_append]
    omega
  · rcases List.mem_append.mp hu with k | k
    · exact h.w u (by simp [k])
    · exact .inr (upu u (List.mem_filter.mp k).1)
  · rcases List.mem_append.mp hu with k | k
    · exact h.s u k
    · exact upu u k
  · rcases List.mem_append.mp k with k | k
    · exact h.y k
    · exact hy k
  · by_cases hS : u = x ∨ u ∈ S
    · rcases h.all u hS with k | k
      · rcases List.mem_append.mp k with k | k
        · exact .inl (List.mem_append.mpr (.inl k))
        · have e : u = z := by simpa using k
          subst e
          refine .inr fun v hv => ?_
          obtain ⟨d', hd', hv'⟩ := hv
          rw [hd] at hd'
          have := Option.some.inj hd'
          subst this
          exact List.mem_append.mpr (.inr hv')
      · exact .inr fun v hv => List.mem_append.mpr (.inl (k v hv))
    · rcases hu with k | k
      · exact absurd (.inl k) hS
      · rcases List.mem_append.mp k with k | k
        · exact absurd (.inr k) hS
        · exact .inl (List.mem_append.mpr (.inr (List.mem_filter.mpr ⟨k, decide_eq_true fun z => hS (.inr z)⟩)))
  · rw [List.length_append, List.length_append]
    have few : d.up.length ≤ 20 := few
    omega
theorem nm_lt {z : Str} (h : nmOk z = true) : LtA z := fun c hc => by
  unfold nmOk at h
  rw [Bool.and_eq_true_iff] at h
  have h2 := List.all_eq_true.mp h.2 c hc
  have h3 := of_decide_eq_true h2
  rw [abc_list] at h3
  obtain ⟨k, hk, rfl⟩ := List.mem_map.mp h3
  have := List.mem_range.mp hk
  omega
theorem kinds_lt {ds : List (Str × Decl)} (ok : KindsOk ds) : ∀ x ∈ ds.map (·.1), LtA x := fun x hx => by
  obtain ⟨p, hp, rfl⟩ := List.mem_map.mp hx
  exact nm_lt (ok.ok p hp).1
def Pfst (l fa : Addr) (x y : Str) (ds : List (Str × Decl)) (H0 : Hp) (i : Nat) (σ : St) (H : Hp) : Prop :=
  ∃ (kvs : List (Key × V)) (u6 u8 : Option V), σ = [some (.ref l), some (.str x), some (.str y), some (.ref fa), none, none, u6, none, u8] ∧ Same H0 H ∧ H fa = some (.dK kvs) ∧ DeclsAt H kvs ((ds.take i).foldl first1 [])
def Wund (l fa sl wl : Addr) (x y : Str) (ds : List (Str × Decl)) (H0 : Hp) (m : Nat) (σ : St) (H : Hp) : Prop :=
  ∃ (kvs : List (Key × V)) (S W : List Str) (u6 u7 u8 : Option V), σ = [some (.ref l), some (.str x), some (.str y), some (.ref fa), some (.ref sl), some (.ref wl), u6, u7, u8] ∧ Same H0 H ∧ H fa = some (.dK kvs) ∧ DeclsAt H kvs ds ∧
    H sl = some (.lst (S.map V.str)) ∧ H wl = some (.lst (W.map V.str)) ∧ Srch ds x y S W m
def Pns (H0 : Hp) (D : Addr) (S up : List Str) (i : Nat) (H : Hp) : Prop := Same H0 H ∧ H D = some (.lst (((up.take i).filter fun u => decide (u ∉ S)).map V.str))
section
variable {P : Program} {w : World} {K : PySem.W.Frag} {mg : Str → Option Value} {base : Heap} {f : Addr} {fd : FuncData}
end
end My
namespace My
open PySem L2
/-! fitting goes on from kind to kind; what stands under a record is a record that has its fields -/
theorem Up.trans {ds : List (Str × Decl)} {a b c : Str} (h : Up ds a b) (g : Up ds b c) : Up ds a c := by
  induction g with
  | one d => exact .more h d
  | more _ d ih => exact .more ih d
theorem sizes_in {k : Kd} : ∀ {ks : List Kd}, k ∈ ks → k.size ≤ Kd.sizes ks
  | x :: r, h => by
    show k.size ≤ x.size + Kd.sizes r
    rcases List.mem_cons.mp h with rfl | h
    · omega
    · have := sizes_in h
      omega
theorem zip_fit {up : Str → Str → Prop} {ps qs us : List Kd} (l1 : ps.length = qs.length) (l2 : qs.length = us.length) (h1 : ∀ p ∈ qs.zip ps, Fit up p.1 p.2) (h2 : ∀ p ∈ us.zip qs, Fit up p.1 p.2)
    (tr : ∀ u ∈ us, ∀ q ∈ qs, ∀ p ∈ ps, Fit up u q → Fit up q p → Fit up u p) : ∀ x ∈ us.zip ps, Fit up x.1 x.2 := by
  intro x hx
  obtain ⟨i, hi⟩ := List.mem_iff_getElem?.mp hx
  have lt : i < (us.zip ps).length := (List.getElem?_eq_some_iff.mp hi).1
  rw [List.length_zip] at lt
  obtain ⟨u, hu⟩ : ∃ u, us[i]? = some u := ⟨_, List.getElem?_eq_getElem (by omega)⟩
  obtain ⟨q, hq⟩ : ∃ q, qs[i]? = some q := ⟨_, List.getElem?_eq_getElem (by omega)⟩
  obtain ⟨p, hp⟩ : ∃ p, ps[i]? = some p := ⟨_, List.getElem?_eq_getElem (by omega)⟩
  have e : x = (u, p) := by
    have : (us.zip ps)[i]? = some (u, p) := List.getElem?_zip_eq_some.mpr ⟨hu, hp⟩
    exact Option.some.inj (hi.symm.trans this)
  subst e
  have a1 := h1 (q, p) (List.mem_of_getElem? (List.getElem?_zip_eq_some.mpr ⟨hq, hp⟩))
  have a2 := h2 (u, q) (List.mem_of_getElem? (List.getElem?_zip_eq_some.mpr ⟨hu, hq⟩))
  exact tr u (List.mem_of_getElem? hu) q (List.mem_of_getElem? hq) p (List.mem_of_getElem? hp) a2 a1
theorem Fit.trans_n {up : Str → Str → Prop} (ut : ∀ a b c, up a b → up b c → up a c) : ∀ (n : Nat) (a b c : Kd), a.size + b.size + c.size ≤ n → Fit up a b → Fit up b c → Fit up a c
  | 0, a, b, c, hn, _, _ => by
    cases a <;> simp [Kd.size] at hn
  | n + 1, a, b, c, hn, h1, h2 => by
    cases h1 with
    | refl => exact h2
    | @step _ _ l e1 t1 =>
    cases h2 with
    | refl => exact .step e1 t1
    | @step _ _ m e2 t2 =>
    cases a with
    | num => cases e1
    | text => cases e1
    | of x =>
      cases b with
      | of y =>
        cases c with
        | of z =>
          have c1 : up x y := by
            by_cases c : up x y
            · exact c
            · simp [asked, c] at e1
          have c2 : up y z := by
            by_cases c : up y z
            · exact c
            · simp [asked, c] at e2
          refine .step (l := []) ?_ (fun p h => nomatch h)
          simp [asked, ut _ _ _ c1 c2]
        | _ => cases e2
      | _ => cases e1
    | row x =>
      cases b with
      | row y =>
        cases c with
        | row z =>
          cases e1
          cases e2
          refine .step (l := [(x, z)]) rfl fun p hp => ?_
          rw [List.mem_singleton.mp hp]
          exact Fit.trans_n ut n x y z (by simp only [Kd.size] at hn; omega) (t1 _ (.head _)) (t2 _ (.head _))
        | _ => cases e2
      | _ => cases e1
    | answers i x =>
      cases b with
      | answers j y =>
        have e : i = j ∧ l = [(x, y)] := by
          by_cases c : i = j
          · simp [asked, c] at e1; exact ⟨c, e1.symm⟩
          · simp [asked, c] at e1
        obtain ⟨rfl, rfl⟩ := e
        cases c with
        | answers k z =>
          have e : i = k ∧ m = [(y, z)] := by
            by_cases c : i = k
            · simp [asked, c] at e2; exact ⟨c, e2.symm⟩
            · simp [asked, c] at e2
          obtain ⟨rfl, rfl⟩ := e
          refine .step (l := [(x, z)]) (by simp [asked]) fun p hp => ?_
          rw [List.mem_singleton.mp hp]
          exact Fit.trans_n ut n x y z (by simp only [Kd.size] at hn; omega) (t1 _ (.head _)) (t2 _ (.head _))
        | calls us w =>
          have e : i = (us.length : Int) ∧ m = [(y, w)] := by
            by_cases c : i = (us.length : Int)
            · simp [asked, c] at e2; exact ⟨c, e2.symm⟩
            · simp [asked, c] at e2
          obtain ⟨hi, rfl⟩ := e
          refine .step (l := [(x, w)]) (by simp [asked, hi]) fun p hp => ?_
          rw [List.mem_singleton.mp hp]
          exact Fit.trans_n ut n x y w (by simp only [Kd.size] at hn; omega) (t1 _ (.head _)) (t2 _ (.head _))
        | _ => cases e2
      | calls qs s =>
        have e : i = (qs.length : Int) ∧ l = [(x, s)] := by
          by_cases c : i = (qs.length : Int)
          · simp [asked, c] at e1; exact ⟨c, e1.symm⟩
          · simp [asked, c] at e1
        obtain ⟨hi, rfl⟩ := e
        cases c with
        | calls us w =>
          have e : qs.length = us.length ∧ m = us.zip qs ++ [(s, w)] := by
            by_cases c : qs.length = us.length
            · simp [asked, c] at e2; exact ⟨c, e2.symm⟩
            · simp [asked, c] at e2
          obtain ⟨hl, rfl⟩ := e
          refine .step (l := [(x, w)]) (by simp [asked, hi, hl]) fun p hp => ?_
          rw [List.mem_singleton.mp hp]
          exact Fit.trans_n ut n x s w (by simp only [Kd.size] at hn; omega) (t1 _ (.head _)) (t2 _ (List.mem_append_right _ (.head _)))
        | _ => cases e2
      | _ => cases e1
    | calls ps r =>
      cases b with
      | calls qs s =>
        have e : ps.length = qs.length ∧ l = qs.zip ps ++ [(r, s)] := by
          by_cases c : ps.length = qs.length
          · simp [asked, c] at e1; exact ⟨c, e1.symm⟩
          · simp [asked, c] at e1
        obtain ⟨hl1, rfl⟩ := e
        cases c with
        | calls us w =>
          have e : qs.length = us.length ∧ m = us.zip qs ++ [(s, w)] := by
            by_cases c : qs.length = us.length
            · simp [asked, c] at e2; exact ⟨c, e2.symm⟩
            · simp [asked, c] at e2
          obtain ⟨hl2, rfl⟩ := e
          simp only [Kd.size] at hn
          refine .step (l := us.zip ps ++ [(r, w)]) (by simp [asked, hl1, hl2]) fun p hp => ?_
          rcases List.mem_append.mp hp with hp | hp
          · refine zip_fit hl1 hl2 (fun p hp => t1 p (List.mem_append_left _ hp)) (fun p hp => t2 p (List.mem_append_left _ hp)) (fun u hu q hq p hp a b => ?_) p hp
            have a1 := sizes_in hu
            have a2 := sizes_in hq
            have a3 := sizes_in hp
            exact Fit.trans_n ut n u q p (by omega) a b
          · rw [List.mem_singleton.mp hp]
            exact Fit.trans_n ut n r s w (by omega) (t1 _ (List.mem_append_right _ (.head _))) (t2 _ (List.mem_append_right _ (.head _)))
        | _ => cases e2
      | _ => cases e1
theorem fitsP_trans {ds : List (Str × Decl)} {a b c : Kd} (h : fitsP ds a b) (g : fitsP ds b c) : fitsP ds a c := by
  rcases h with rfl | ⟨k1, k2, f1⟩
  · exact g
  · rcases g with rfl | ⟨_, k3, f2⟩
    · exact .inr ⟨k1, k2, f1⟩
    · exact .inr ⟨k1, k3, Fit.trans_n (up := Up ds) (fun _ _ _ => Up.trans) _ _ _ _ (Nat.le_refl _) f1 f2⟩
end My
namespace My
open PySem L2
/-! what fits each other is one kind; what is made of kinds fits as they do (for k08) -/
theorem asked_callsT {up : Str → Str → Prop} {ps qs : List Kd} {r s : Kd} {l : List (Kd × Kd)} (e : asked up (.calls ps r) (.calls qs s) = some l) : ps.length = qs.length ∧ l = qs.zip ps ++ [(r, s)] := by
  by_cases c : ps.length = qs.length
  · simp [asked, c] at e; exact ⟨c, e.symm⟩
  · simp [asked, c] at e
theorem zip_anti {up : Str → Str → Prop} {n : Nat} (ih : ∀ a b : Kd, a.size + b.size ≤ n → Fit up a b → Fit up b a → a = b) {ps qs : List Kd} (l : ps.length = qs.length) (h1 : ∀ p ∈ qs.zip ps, Fit up p.1 p.2) (h2 : ∀ p ∈ ps.zip qs, Fit up p.1 p.2) (hn : Kd.sizes ps + Kd.sizes qs ≤ n) : ps = qs := by
  refine List.ext_getElem? fun i => ?_
  by_cases c : i < ps.length
  · have hp : ps[i]? = some ps[i] := List.getElem?_eq_getElem c
    have hq : qs[i]? = some (qs[i]'(by omega)) := List.getElem?_eq_getElem (by omega)
    generalize ps[i] = x at hp
    generalize qs[i]'(by omega) = y at hq
    have a1 := h1 (y, x) (List.mem_of_getElem? (List.getElem?_zip_eq_some.mpr ⟨hq, hp⟩))
    have a2 := h2 (x, y) (List.mem_of_getElem? (List.getElem?_zip_eq_some.mpr ⟨hp, hq⟩))
    have z1 := sizes_in (List.mem_of_getElem? hp)
    have z2 := sizes_in (List.mem_of_getElem? hq)
    have a1 : Fit up y x := a1
    have a2 : Fit up x y := a2
    rw [hp, hq, ih x y (by omega) a2 a1]
  · rw [List.getElem?_eq_none (by omega), List.getElem?_eq_none (by omega)]
theorem Fit.anti_n {up : Str → Str → Prop} (ut : ∀ a b, up a b → up b a → False) : ∀ (n : Nat) (a b : Kd), a.size + b.size ≤ n → Fit up a b → Fit up b a → a = b
  | 0, a, b, hn, _, _ => by
    cases a <;> simp [Kd.size] at hn
  | n + 1, a, b, hn, h1, h2 => by
    cases h1 with
    | refl => rfl
    | @step _ _ l e1 t1 =>
    cases h2 with
    | refl => rfl
    | @step _ _ m e2 t2 =>
    cases a with
    | num => cases e1
    | text => cases e1
    | of x =>
      cases b with
      | of y =>
        have c1 : up x y := by
          by_cases c : up x y
          · exact c
          · simp [asked, c] at e1
        have c2 : up y x := by
          by_cases c : up y x
          · exact c
          · simp [asked, c] at e2
        exact (ut _ _ c1 c2).elim
      | _ => cases e1
    | row x =>
      cases b with
      | row y =>
        cases e1
        cases e2
        rw [Fit.anti_n ut n x y (by simp only [Kd.size] at hn; omega) (t1 _ (.head _)) (t2 _ (.head _))]
      | _ => cases e1
    | answers i x =>
      cases b with
      | answers j y =>
        have e : i = j ∧ l = [(x, y)] := by
          by_cases c : i = j
          · simp [asked, c] at e1; exact ⟨c, e1.symm⟩
          · simp [asked, c] at e1
        obtain ⟨rfl, rfl⟩ := e
        have e : m = [(y, x)] := by simp [asked] at e2; exact e2.symm
        subst e
        rw [Fit.anti_n ut n x y (by simp only [Kd.size] at hn; omega) (t1 _ (.head _)) (t2 _ (.head _))]
      | calls qs s => cases e2
      | _ => cases e1
    | calls ps r =>
      cases b with
      | calls qs s =>
        obtain ⟨hl, rfl⟩ := asked_callsT e1
        obtain ⟨_, rfl⟩ := asked_callsT e2
        simp only [Kd.size] at hn
        have a1 := zip_anti (n := n) (fun a b h => Fit.anti_n ut n a b h) hl (fun p hp => t1 p (List.mem_append_left _ hp)) (fun p hp => t2 p (List.mem_append_left _ hp)) (by omega)
        have a2 := Fit.anti_n ut n r s (by omega) (t1 _ (List.mem_append_right _ (.head _))) (t2 _ (List.mem_append_right _ (.head _)))
        rw [a1, a2]
      | _ => cases e1
theorem up_irr {ds : List (Str × Decl)} (ok : KindsOk ds) {x : Str} (h : Up ds x x) : False := by
  obtain ⟨d, hd⟩ : ∃ d, look ds x = some d := by
    have first : ∀ {a b : Str}, Up ds a b → ∃ d, look ds a = some d := fun {a b} h => by
      induction h with
      | one g => exact ⟨_, g.choose_spec.1⟩
      | more _ _ ih => exact ih
    exact first h
  obtain ⟨_, ab, _⟩ := ok.ok _ (look_mem hd)
  exact ab.2.1 h
theorem fitsP_anti {ds : List (Str × Decl)} (ok : KindsOk ds) {a b : Kd} (h : fitsP ds a b) (g : fitsP ds b a) : a = b := by
  rcases h with rfl | ⟨_, _, f1⟩
  · rfl
  · rcases g with rfl | ⟨_, _, f2⟩
    · rfl
    · exact Fit.anti_n (up := Up ds) (fun x y h1 h2 => up_irr ok (h1.trans h2)) _ _ _ (Nat.le_refl _) f1 f2
theorem fitsP_iff {ds : List (Str × Decl)} {a b : Kd} (ka : knows ds a) (kb : knows ds b) : fitsP ds a b ↔ Fit (Up ds) a b := by
  constructor
  · rintro (rfl | ⟨_, _, f⟩)
    · exact .refl _
    · exact f
  · exact fun f => .inr ⟨ka, kb, f⟩
theorem fit_row {up : Str → Str → Prop} {a b : Kd} : Fit up (.row a) (.row b) ↔ Fit up a b := by
  constructor
  · intro f
    cases f with
    | refl => exact .refl _
    | step e t => cases e; exact t _ (.head _)
  · exact fun f => .step (l := [(a, b)]) rfl fun p hp => by rw [List.mem_singleton.mp hp]; exact f
theorem fit_given {up : Str → Str → Prop} {a b : Kd} : Fit up (.calls [] a) (.calls [] b) ↔ Fit up a b := by
  constructor
  · intro f
    cases f with
    | refl => exact .refl _
    | step e t =>
      obtain ⟨_, rfl⟩ := asked_callsT e
      exact t _ (List.mem_append_right _ (.head _))
  · exact fun f => .step (l := [(a, b)]) (by simp [asked]) fun p hp => by rw [List.mem_singleton.mp hp]; exact f
theorem fit_taken {up : Str → Str → Prop} {a b : Kd} : Fit up (.calls [b] .num) (.calls [a] .num) ↔ Fit up a b := by
  constructor
  · intro f
    cases f with
    | refl => exact .refl _
    | step e t =>
      obtain ⟨_, rfl⟩ := asked_callsT e
      exact t (a, b) (List.mem_append_left _ (.head _))
  · refine fun f => .step (l := [(a, b), (.num, .num)]) (by simp [asked]) fun p hp => ?_
    rcases List.mem_cons.mp hp with rfl | hp
    · exact f
    · rw [List.mem_singleton.mp hp]
      exact .refl _
theorem fit_answers {up : Str → Str → Prop} {n : Int} {a b : Kd} {qs : List Kd} : Fit up (.answers n a) (.calls qs b) ↔ n = (qs.length : Int) ∧ Fit up a b := by
  constructor
  · intro f
    cases f with
    | step e t =>
      by_cases c : n = (qs.length : Int)
      · simp [asked, c] at e
        subst e
        exact ⟨c, t _ (.head _)⟩
      · simp [asked, c] at e
  · rintro ⟨c, f⟩
    exact .step (l := [(a, b)]) (by simp [asked, c]) fun p hp => by rw [List.mem_singleton.mp hp]; exact f
end My
namespace My
open PySem PySem.Spec PyProof.Rows L2
/-! sets whose elements are tuples of texts, numbers and such tuples: what is asked of an element -/
section
variable {P : Program} {w : World}
/-- asked about classes, it says no -/
def NoCls (P : Program) (w : World) (n : Nat) (s : Shared) (v : Value) : Prop := ∀ (A : Around) (E : Value → Shared → Prop) (Q : Bool → Shared → Prop), Q false s → wpAny (model P w) A (ofAClassStatement n v) Q E s
/-- asked whether its hash goes by value, it says yes or no -/
def HashYN (P : Program) (w : World) (n : Nat) (s : Shared) (v : Value) : Prop := ∀ (A : Around) (E : Value → Shared → Prop) (Q : Bool → Shared → Prop), (∀ b, Q b s) → wpAny (model P w) A (hashByValue n v) Q E s
theorem noCls_leaf {n : Nat} {s : Shared} {v : Value} (h : ∀ a, v ≠ .ref a) : NoCls P w n s v := fun A E Q q => by
  have e : ofAClassStatement n v = pure false := by
    cases v with
    | ref a => exact absurd rfl (h a)
    | _ => cases n <;> rfl
  rw [e]
  exact wpAny_pure q
theorem noCls_tup {n : Nat} {s : Shared} {a : Addr} {o : Obj} {vs : Array Value} {m : Nat} (ho : s.heap.get? a = some o) (hc : o.cls = .type "tuple") (hd : o.data = .seq vs m) (hv : ∀ v ∈ vs.toList, NoCls P w n s v) : NoCls P w (n + 1) s (.ref a) := fun A E Q q => by
  have hT : s.TypeIs (.ref a) "tuple" := ⟨o, ho, hc⟩
  unfold ofAClassStatement
  refine wpAny_bind (wpAny_typeOf hT ?_)
  have same : (("tuple" : String) == "tuple") = true := by decide
  dsimp only
  simp only [same, if_true, Bool.not_true, Bool.false_eq_true, if_false]
  try refine wpAny_bind (wpAny_pure ?_)
  try simp only [Bool.not_true, Bool.false_eq_true, if_false]
  refine (show wpAny _ _ (seqItems? (.ref a) >>= _) _ _ s from wpAny_bind (wpAny_seqItems ho hd ?_))
  dsimp only
  refine wpAny_bind (show wpAny _ _ (forIn vs _ _) _ _ s from ?_)
  rw [← Array.forIn_toList]
  refine wpAny_forIn_list _ (fun left c z => c.1 = none ∧ z = s ∧ ∀ v ∈ left, NoCls P w n s v) _ ?_ ?_ _ _ ⟨rfl, rfl, hv⟩
  · rintro v left c z ⟨hc1, rfl, all⟩
    refine wpAny_bind (all v (.head _) _ _ _ ?_)
    simp only [Bool.false_eq_true, if_false]
    exact wpAny_pure ⟨rfl, rfl, fun u hu => all u (.tail _ hu)⟩
  · rintro ⟨c1, c2⟩ z ⟨hc1, rfl, _⟩
    obtain rfl : c1 = none := hc1
    exact wpAny_pure q
theorem hashYN_tup {n : Nat} {s : Shared} {a : Addr} {o : Obj} {vs : Array Value} {m : Nat} (ho : s.heap.get? a = some o) (hc : o.cls = .type "tuple") (hd : o.data = .seq vs m) (hv : ∀ v ∈ vs.toList, HashYN P w n s v) : HashYN P w (n + 1) s (.ref a) := fun A E Q q => by
  have hT : s.TypeIs (.ref a) "tuple" := ⟨o, ho, hc⟩
  unfold hashByValue
  refine wpAny_bind (wpAny_specialOf hT F.slot_tuple_hash.lookup ?_)
  refine (show wpAny _ _ (seqItems? (.ref a) >>= _) _ _ s from wpAny_bind (wpAny_seqItems ho hd ?_))
  refine wpAny_bind (show wpAny _ _ (forIn vs _ _) _ _ s from ?_)
  rw [← Array.forIn_toList]
  refine wpAny_forIn_list _ (fun left c z => (c.1 = none ∨ ∃ b, c.1 = some b) ∧ z = s ∧ ∀ v ∈ left, HashYN P w n s v) _ ?_ ?_ _ _ ⟨.inl rfl, rfl, hv⟩
  · rintro v left c z ⟨hc1, rfl, all⟩
    refine wpAny_bind (all v (.head _) _ _ _ fun b => ?_)
    cases b with
    | true => exact wpAny_pure ⟨.inl rfl, rfl, fun u hu => all u (.tail _ hu)⟩
    | false => exact wpAny_pure (wpAny_pure (q false))
  · rintro ⟨c1, c2⟩ z ⟨hc1, rfl, _⟩
    cases c1 with
    | none => exact wpAny_pure (q true)
    | some b => exact wpAny_pure (q b)
theorem hashYN_leaf {n : Nat} {s : Shared} {k : NestedKey} {v : Value} (h : NestedIs s.heap k v) (nt : ∀ ks, k ≠ .tup ks) : HashYN P w n s v := fun A E Q q => by
  cases h with
  | none => cases n <;> exact wpAny_pure (q true)
  | bool _ => cases n <;> exact wpAny_pure (q true)
  | int _ _ => cases n <;> exact wpAny_pure (q true)
  | text _ _ => cases n <;> exact wpAny_pure (q false)
  | tup _ _ _ _ => exact absurd rfl (nt _)
mutual
theorem key_noCls : ∀ (k : NestedKey) (v : Value) (n : Nat) (s : Shared), NestedIs s.heap k v → k.depth ≤ n → NoCls P w n s v
  | .tup ks, _, n, s, x, hn => by
    cases x with
    | tup hg hc hd hk =>
      cases n with
      | zero => exact absurd hn (by simp only [NestedKey.depth]; omega)
      | succ n => exact noCls_tup hg hc hd (keys_noCls ks _ n s hk (by simp only [NestedKey.depth] at hn; omega))
  | .none, _, n, s, x, _ => by cases x; exact noCls_leaf fun _ => nofun
  | .num _, _, n, s, x, _ => by cases x <;> exact noCls_leaf fun _ => nofun
  | .text _, _, n, s, x, _ => by cases x; exact noCls_leaf fun _ => nofun
theorem keys_noCls : ∀ (ks : List NestedKey) (vs : List Value) (n : Nat) (s : Shared), NestedAll s.heap ks vs → NestedKey.depthAll ks ≤ n → ∀ v ∈ vs, NoCls P w n s v
  | [], _, n, s, x, _, v, hv => by cases x; cases hv
  | k :: ks, _, n, s, x, hn, v, hv => by
    cases x with
    | cons x1 x2 =>
      simp only [NestedKey.depthAll] at hn
      rcases List.mem_cons.mp hv with e | hv
      · exact e ▸ key_noCls k _ n s x1 (by omega)
      · exact keys_noCls ks _ n s x2 (by omega) v hv
end
mutual
theorem key_hashYN : ∀ (k : NestedKey) (v : Value) (n : Nat) (s : Shared), NestedIs s.heap k v → k.depth ≤ n → HashYN P w n s v
  | .tup ks, _, n, s, x, hn => by
    cases x with
    | tup hg hc hd hk =>
      cases n with
      | zero => exact absurd hn (by simp only [NestedKey.depth]; omega)
      | succ n => exact hashYN_tup hg hc hd (keys_hashYN ks _ n s hk (by simp only [NestedKey.depth] at hn; omega))
  | .none, _, n, s, x, _ => hashYN_leaf x fun _ => nofun
  | .num _, _, n, s, x, _ => hashYN_leaf x fun _ => nofun
  | .text _, _, n, s, x, _ => hashYN_leaf x fun _ => nofun
theorem keys_hashYN : ∀ (ks : List NestedKey) (vs : List Value) (n : Nat) (s : Shared), NestedAll s.heap ks vs → NestedKey.depthAll ks ≤ n → ∀ v ∈ vs, HashYN P w n s v
  | [], _, n, s, x, _, v, hv => by cases x; cases hv
  | k :: ks, _, n, s, x, hn, v, hv => by
    cases x with
    | cons x1 x2 =>
      simp only [NestedKey.depthAll] at hn
      rcases List.mem_cons.mp hv with e | hv
      · exact e ▸ key_hashYN k _ n s x1 (by omega)
      · exact keys_hashYN ks _ n s x2 (by omega) v hv
end
end
/-- the tuple at a is the key k, and no deeper than may be asked -/
def KeyAt (h : Heap) (k : NestedKey) (a : Addr) : Prop := NestedIs h k (.ref a) ∧ k.depth ≤ 8
theorem KeyAt.inj {h : Heap} {a : Addr} {x y : NestedKey} (hx : KeyAt h x a) (hy : KeyAt h y a) : x = y := NestedIs.inj _ _ _ hx.1 hy.1
theorem KeyAt.keep {h h' : Heap} {k : NestedKey} {a : Addr} (x : KeyAt h k a) (keep : ∀ b o, h.get? b = some o → h'.get? b = some o) : KeyAt h' k a := ⟨NestedIs.at (fun b o vs n hb _ => keep b o hb) _ _ x.1, x.2⟩
/-- all but a set stays -/
theorem KeyAt.other {h h' : Heap} {k : NestedKey} {a b : Addr} {o : Obj} {es : Array (Int × Value)} {ep : Nat} {t : SetTable} (x : KeyAt h k b) (ho : h.get? a = some o) (hd : o.data = .set es ep t) (hs : Heap.SameBut a h h') : KeyAt h' k b :=
  ⟨NestedIs.at (fun c u vs n hc hv => (hs.2 c fun e => by
    subst e
    obtain rfl : u = o := Option.some.inj (hc.symm.trans ho)
    rw [hd] at hv
    cases hv).trans hc) _ _ x.1, x.2⟩
section
variable {P : Program} {w : World} {A : Around} {E : Value → Shared → Prop} {s : Shared}
/-- a search among such tuples shows nothing -/
theorem seen_keys {k : NestedKey} {b : Addr} {Q : Bool → Shared → Prop} (hk : KeyAt s.heap k b) {ys : List Value} (hy : ∀ y ∈ ys, ∃ k' c, y = Value.ref c ∧ KeyAt s.heap k' c) (q : Q false s) : wpAny (model P w) A (searchCouldBeSeen (.ref b) ys) Q E s := by
  unfold searchCouldBeSeen
  refine wpAny_bind (wpAny_forIn_list _ (fun left c z => c.1 = none ∧ z = s ∧ ∀ y ∈ left, ∃ k' c, y = Value.ref c ∧ KeyAt s.heap k' c) _ ?_ ?_ _ _ ⟨rfl, rfl, hy⟩)
  · rintro v left c z ⟨hc1, rfl, all⟩
    obtain ⟨k', d, rfl, hd⟩ := all v (.head _)
    have next : ∀ y ∈ left, ∃ k' c, y = Value.ref c ∧ KeyAt z.heap k' c := fun u hu => all u (.tail _ hu)
    dsimp only
    by_cases same : (b == d || (carriedByValue (.ref b) && carriedByValue (.ref d))) = true
    · exact wp_if_pos same (wpAny_pure ⟨rfl, rfl, next⟩)
    · refine wp_if_neg same (wpAny_bind (quiet_key k _ 8 z hk.1 hk.2 _ _ _ ?_))
      simp only [Bool.not_true, Bool.false_eq_true, if_false]
      refine wpAny_bind (quiet_key k' _ 8 z hd.1 hd.2 _ _ _ ?_)
      simp only [Bool.not_true, Bool.false_eq_true, if_false]
      refine wpAny_bind (key_noCls k _ 8 z hk.1 hk.2 _ _ _ ?_)
      simp only [Bool.false_eq_true, if_false]
      refine wpAny_bind (key_noCls k' _ 8 z hd.1 hd.2 _ _ _ ?_)
      simp only [Bool.false_eq_true, if_false]
      exact wpAny_pure ⟨rfl, rfl, next⟩
  · rintro ⟨c1, c2⟩ z ⟨hc1, rfl, _⟩
    obtain rfl : c1 = none := hc1
    exact wpAny_pure q
theorem key_eq {x y : NestedKey} {a b : Addr} {Q : Bool → Shared → Prop} (hu : A.units + 8 < cLine) (hx : KeyAt s.heap x a) (hy : KeyAt s.heap y b) (q : Q (decide (x = y)) s) : wpAny (model P w) A (eqBool (.ref a) (.ref b)) Q E s :=
  (nestedKind P w).eqBool hu hx hy q
end
end My
namespace My
open PySem PySem.Spec PyProof.Rows L2
/-! sets of such tuples: the table, the search -/
/-- the entry of the element (address, key) -/
def entN (w : World) (p : Addr × NestedKey) : Int × Value := (p.2.hash w, .ref p.1)
/-- at a stands a set of just these elements, each key once -/
structure SnR (w : World) (h : Heap) (a : Addr) (L : List (Addr × NestedKey)) (es : Array (Int × Value)) (ep : Nat) (t : SetTable) : Prop where
  ob : ∃ o, h.get? a = some o ∧ o.ExactSet ∧ o.data = .set es ep t
  ent : es.toList = L.map (entN w)
  tab : TabOk t (L.map fun p => p.2.hash w)
  nd : (L.map (·.2)).Nodup
  key : ∀ p ∈ L, KeyAt h p.2 p.1
  led : w.params.followText "set-order" = true ∨ t.led = true
  room : L.length * 5 < t.mask * 3
  few : L.length < 64
/-- where the c-th look goes -/
abbrev lookN (t : SetTable) (h : Int) (c : Nat) : SetTable.Probe := nth t.mask (runAt t.mask (SetTable.bits h % (t.mask + 1)) (SetTable.bits h)) c
theorem dummy_none (m : Nat) : ∀ (n : Nat) (p : SetTable.Probe), p.dummy = none → (nth m p n).dummy = none
  | 0, _, e => e
  | n + 1, p, e => dummy_none m n (adv m p) (by unfold adv; split <;> exact e)
theorem lookN_more (t : SetTable) (h : Int) (c q : Nat) : nth t.mask (lookN t h c) q = lookN t h (c + q) := (nth_add t.mask c _ q).symm
section
variable {P : Program} {w : World} {A : Around} {E : Value → Shared → Prop} {s : Shared} {a : Addr} {L : List (Addr × NestedKey)} {es : Array (Int × Value)} {ep : Nat} {t : SetTable}
theorem SnR.size (R : SnR w s.heap a L es ep t) : es.size = L.length := by
  rw [← Array.length_toList, R.ent, List.length_map]
theorem SnR.place (R : SnR w s.heap a L es ep t) : t.place.toList.length = L.length := by
  rw [Array.length_toList, R.tab.sz, List.length_map]
theorem SnR.fits (R : SnR w s.heap a L es ep t) : t.fits es.size = true := by
  have e1 := R.place
  have e2 := R.size
  have e3 := R.room
  rw [Array.length_toList] at e1
  unfold SetTable.fits SetTable.fill
  rw [R.tab.dm, Bool.and_eq_true, beq_iff_eq, decide_eq_true_eq]
  refine ⟨by omega, ?_⟩
  show t.place.size + 0 ≤ t.mask
  omega
theorem SnR.at_ (R : SnR w s.heap a L es ep t) {i : Nat} {p : Addr × NestedKey} (h : L[i]? = some p) : es[i]? = some (p.2.hash w, Value.ref p.1) := by
  rw [← Array.getElem?_toList, R.ent, List.getElem?_map, h]
  rfl
theorem SnR.hashAt (R : SnR w s.heap a L es ep t) {i : Nat} {p : Addr × NestedKey} (h : L[i]? = some p) : (es[i]?.map (·.1)).getD 0 = p.2.hash w := by
  rw [R.at_ h]
  rfl
theorem SnR.solid (R : SnR w s.heap a L es ep t) : ¬ t.gaveWay = true := by
  unfold SetTable.gaveWay
  rw [mask_odd R.tab.mok]
  decide
/-- the element that stands in a slot -/
theorem SnR.inSlot (R : SnR w s.heap a L es ep t) {i j : Nat} (h : t.place.toList[i]? = some j) : ∃ p, L[i]? = some p :=
  ⟨_, List.getElem?_eq_getElem (by have := (List.getElem?_eq_some_iff.mp h).1; rw [R.place] at this; exact this)⟩
/-- a search from the c-th look on: the key's own element, if there is one, is still ahead -/
theorem search_more (R : SnR w s.heap a L es ep t) {x : Addr} {k : NestedKey} (hx : KeyAt s.heap k x) (hu : A.units + 8 < cLine) {N : Nat} (fuel : N < 10 * SetTable.turns t.mask)
    (free : way t.mask (k.hash w) N ∉ t.place.toList) (full : ∀ c, c < N → way t.mask (k.hash w) c ∈ t.place.toList) {Q : SetFound → Shared → Prop}
    (found : k ∈ L.map (·.2) → Q (.there none) s) (new : k ∉ L.map (·.2) → Q (.free (way t.mask (k.hash w) N) false) s) : ∀ (f c : Nat) (stand : Option SetTable.Probe), stand.getD (t.probeStart (k.hash w)) = lookN t (k.hash w) c → c ≤ N → N - c < f →
      (∀ (i : Nat) (p : Addr × NestedKey), L[i]? = some p → p.2 = k → ∃ c', c ≤ c' ∧ c' < N ∧ t.place.toList[i]? = some (way t.mask (k.hash w) c')) → wpAny (model P w) A (setSearchFrom a (.ref x) (k.hash w) true f stand) Q E s := by
  intro f
  induction f with
  | zero => exact fun c stand _ _ lt _ => absurd lt (Nat.not_lt_zero _)
  | succ f ih =>
    intro c stand hst hc lt ahead
    obtain ⟨o, ho, exact_, hd⟩ := R.ob
    rw [setSearchFrom_succ]
    refine wpAny_bind (wpAny_setState_of ho hd R.fits ?_)
    dsimp only
    refine wp_if_neg R.solid ?_
    try refine wpAny_bind (wpAny_pure ?_)
    have slot : ∀ q, (nth t.mask (lookN t (k.hash w) c) q).j = way t.mask (k.hash w) (c + q) := fun q => congrArg SetTable.Probe.j (lookN_more t (k.hash w) c q)
    have ask := go_spec t R.tab.ris R.tab.dm (fun i => (es[i]?.map (·.1)).getD 0) (k.hash w) (10 * SetTable.turns t.mask) (N - c) (lookN t (k.hash w) c) (dummy_none _ _ _ rfl) (by omega) (fun q hq => by rw [slot]; exact full _ (by omega)) (by rw [slot, show c + (N - c) = N by omega]; exact free)
    rcases ask with ⟨q, i, hq, hi, hh, none_before, pr⟩ | ⟨none_at_all, pr⟩
    · -- an element of the same hash
      rw [slot] at hi
      have pr2 : t.probe (fun i => (es[i]?.map (·.1)).getD 0) (k.hash w) (stand.getD (t.probeStart (k.hash w))) = some (.candidate (way t.mask (k.hash w) (c + q)) i (lookN t (k.hash w) (c + (q + 1)))) := by
        rw [hst, ← slot, ← lookN_more]
        exact pr
      rw [pr2]
      dsimp only
      obtain ⟨p, hp⟩ := R.inSlot hi
      have memp : p ∈ L := List.mem_of_getElem? hp
      have live : t.slot (way t.mask (k.hash w) (c + q)) = .live i := slot_live R.tab.ris hi
      have next : wpAny (model P w) A (searchRest a (.ref x) (k.hash w) true f es t (way t.mask (k.hash w) (c + q)) i (lookN t (k.hash w) (c + (q + 1)))) Q E s := by
        unfold searchRest
        rw [R.at_ hp]
        dsimp only
        refine wpAny_bind (wpAny_holding (key_eq hu (R.key p memp) hx ?_))
        refine wpAny_bind (wpAny_setState_of ho hd R.fits ?_)
        dsimp only
        by_cases own : p.2 = k
        · exact wp_if_pos (by simp [own]) (wpAny_pure (found (List.mem_map.mpr ⟨p, memp, own⟩)))
        · refine wp_if_neg (by simp [own]) ?_
          try refine wpAny_bind (wpAny_pure ?_)
          rw [sameMem]
          dsimp only
          simp only [if_true, live, R.at_ hp]
          refine wpAny_bind (wpAny_isSame_ref_self (wpAny_bind (wpAny_pure ?_)))
          simp only [if_true]
          refine wp_if_neg (by simp [own]) ?_
          refine ih (c + (q + 1)) _ rfl (by omega) (by omega) fun i0 p0 h0 e0 => ?_
          obtain ⟨c', g1, g2, g3⟩ := ahead i0 p0 h0 e0
          refine ⟨c', ?_, g2, g3⟩
          rcases Nat.lt_trichotomy c' (c + q) with z | z | z
          · exact absurd ((R.hashAt h0).trans (congrArg (NestedKey.hash w) e0)) (none_before (c' - c) i0 (by omega) (by rw [slot, show c + (c' - c) = c' by omega]; exact g3))
          · rw [z] at g3
            have u := slot_live R.tab.ris g3
            rw [live] at u
            injection u with u
            rw [← u, hp] at h0
            exact absurd ((congrArg Prod.snd (Option.some.inj h0)).trans e0) own
          · omega
      by_cases ld : t.led = true
      · refine wp_if_neg (by simp [ld]) ?_
        try refine wpAny_bind (wpAny_pure ?_)
        exact next
      · refine wp_if_pos (by simp [ld]) ?_
        refine wpAny_bind (seen_keys hx (fun y hy => ?_) ?_)
        · obtain ⟨en, hen, rfl⟩ := List.mem_map.mp hy
          have he : en ∈ es.toList := by
            have : en ∈ es ∧ en.1 = k.hash w := by simpa using hen
            simpa using this.1
          rw [R.ent] at he
          obtain ⟨p2, hp2, rfl⟩ := List.mem_map.mp he
          exact ⟨p2.2, p2.1, rfl, R.key p2 hp2⟩
        · refine wp_if_neg (by decide) ?_
          try refine wpAny_bind (wpAny_pure ?_)
          exact next
    · -- the first empty slot
      have pr2 : t.probe (fun i => (es[i]?.map (·.1)).getD 0) (k.hash w) (stand.getD (t.probeStart (k.hash w))) = some (.empty (way t.mask (k.hash w) N) none) := by
        rw [hst, show way t.mask (k.hash w) N = (nth t.mask (lookN t (k.hash w) c) (N - c)).j by rw [slot, show c + (N - c) = N by omega]]
        exact pr
      rw [pr2]
      dsimp only
      refine wpAny_pure (new fun mem => ?_)
      obtain ⟨p0, m0, e0⟩ := List.mem_map.mp mem
      obtain ⟨i0, lt0, at0⟩ := List.getElem_of_mem m0
      have h0 : L[i0]? = some p0 := by rw [List.getElem?_eq_getElem lt0, at0]
      obtain ⟨c', g1, g2, g3⟩ := ahead i0 p0 h0 e0
      exact none_at_all (c' - c) i0 (by omega) (by rw [slot, show c + (c' - c) = c' by omega]; exact g3) ((R.hashAt h0).trans (congrArg (NestedKey.hash w) e0))
/-- the search that adding asks for -/
theorem search_add (R : SnR w s.heap a L es ep t) {x : Addr} {k : NestedKey} (hx : KeyAt s.heap k x) (hu : A.units + 8 < cLine) {Q : SetFound → Shared → Prop}
    (found : k ∈ L.map (·.2) → Q (.there none) s)
    (new : ∀ N, k ∉ L.map (·.2) → way t.mask (k.hash w) N ∉ t.place.toList → (∀ c, c < N → way t.mask (k.hash w) c ∈ t.place.toList) → Q (.free (way t.mask (k.hash w) N) false) s) :
    wpAny (model P w) A (setSearch a (.ref x) (k.hash w) true) Q E s := by
  have room := R.room
  obtain ⟨N, lt, free, full⟩ := R.tab.first (by rw [List.length_map]; omega) (k.hash w)
  have small : 10 * SetTable.turns t.mask < 100000 := by
    unfold SetTable.turns
    rcases R.tab.mok with e | e | e <;> omega
  unfold setSearch
  refine search_more R hx hu lt free full found (fun nm => new N nm free full) 100000 0 none rfl (Nat.zero_le _) (by omega) fun i p hp e => ?_
  have hash_i : (L.map fun p => p.2.hash w)[i]? = some (k.hash w) := by rw [List.getElem?_map, hp, ← e]; rfl
  have li : i < t.place.toList.length := by rw [R.place]; exact (List.getElem?_eq_some_iff.mp hp).1
  obtain ⟨c, hc, ec⟩ := R.tab.before free hash_i (List.getElem?_eq_getElem li)
  exact ⟨c, Nat.zero_le _, hc, by rw [List.getElem?_eq_getElem li, ec]⟩
end
end My
namespace My
open PySem PySem.Spec PyProof.Rows L2
/-! sets of such tuples: one more put in, the table laid anew -/
theorem nth_map_get {α β : Type} {f : α → β} {L : List α} {i : Nat} {x : α} (h : L[i]? = some x) : (L.map f)[i]? = some (f x) := by
  rw [List.getElem?_map, h]
  rfl
theorem pick_all {α : Type} (L : List α) : ∀ n, n ≤ L.length → (List.range n).filterMap (fun i => L[i]?) = L.take n
  | 0, _ => rfl
  | n + 1, h => by
    rw [List.range_succ, List.filterMap_append, pick_all L n (by omega), List.take_succ, List.getElem?_eq_getElem h]
    simp [List.getElem?_eq_getElem h]
/-- the entries by an order of their places -/
theorem pick_ent (w : World) (L : List (Addr × NestedKey)) (es : Array (Int × Value)) (e : es.toList = L.map (entN w)) : ∀ l : List Nat, (∀ i ∈ l, i < L.length) →
    l.filterMap (fun i => es[i]?) = (l.filterMap fun i => L[i]?).map (entN w) ∧ ((l.filterMap fun i => L[i]?).map fun p => p.2.hash w) = l.map fun i => (es.map (·.1)).getD i 0
  | [], _ => ⟨rfl, rfl⟩
  | i :: l, h => by
    have hi := h i (.head _)
    obtain ⟨e1, e2⟩ := pick_ent w L es e l fun j hj => h j (.tail _ hj)
    have eL : L[i]? = some L[i] := List.getElem?_eq_getElem hi
    have eE : es[i]? = some (entN w L[i]) := by rw [← Array.getElem?_toList, e, nth_map_get eL]
    have eH : (es.map (·.1)).getD i 0 = (L[i]).2.hash w := by
      rw [Array.getD_eq_getD_getElem?, Array.getElem?_map, eE]
      rfl
    rw [List.filterMap_cons_some eE, List.filterMap_cons_some eL, List.map_cons, List.map_cons, List.map_cons, e1, e2, eH]
    exact ⟨rfl, rfl⟩
theorem pick_perm {α : Type} {L : List α} {l : List Nat} (p : l.Perm (List.range L.length)) : (l.filterMap fun i => L[i]?).Perm L := by
  have h := p.filterMap fun i => L[i]?
  rw [pick_all L L.length (Nat.le_refl _), List.take_length] at h
  exact h
section
variable {P : Program} {w : World} {A : Around} {E : Value → Shared → Prop} {s : Shared} {a : Addr} {L : List (Addr × NestedKey)} {es : Array (Int × Value)} {ep : Nat} {t : SetTable}
theorem ent_size (e : es.toList = L.map (entN w)) : es.size = L.length := by
  rw [← Array.length_toList, e, List.length_map]
/-- the table is laid anew, larger -/
theorem relay_keys {o : Obj} (ho : s.heap.get? a = some o) (hx : o.ExactSet) (hd : o.data = .set es ep t) (hent : es.toList = L.map (entN w)) (pl : t.place.size = es.size) (dm : t.dummies = #[]) (le : es.size ≤ t.mask)
    (nd : (L.map (·.2)).Nodup) (key : ∀ p ∈ L, KeyAt s.heap p.2 p.1) (led : w.params.followText "set-order" = true ∨ t.led = true) (few : L.length < 64) {wanted M : Nat}
    (size : SetTable.sizeAbove wanted = M + 1) (hM : MaskOk M) (room : L.length * 5 < M * 3) {Q : Unit → Shared → Prop}
    (q : ∀ h' L' es' ep' t', Heap.SameBut a s.heap h' → SnR w h' a L' es' ep' t' → L'.Perm L → Q () { s with heap := h' }) : wpAny (model P w) A (setRelay a wanted) Q E s := by
  have n := ent_size hent
  have M_le : M ≤ 127 := by rcases hM with e | e | e <;> omega
  have fits : t.fits es.size = true := by
    unfold SetTable.fits SetTable.fill
    rw [dm, Bool.and_eq_true, beq_iff_eq, decide_eq_true_eq]
    refine ⟨pl, ?_⟩
    show t.place.size + 0 ≤ t.mask
    omega
  obtain ⟨t', order, laid, perm, T, mask', led', _, _⟩ := relaid_ok t (hs := es.map (·.1)) (wanted := wanted) (M := M) (by rw [size]; rfl) hM (by rw [Array.size_map, n]; omega)
  rw [Array.size_map, n] at perm
  obtain ⟨e1, e2⟩ := pick_ent w L es hent order.toList fun i hi => List.mem_range.mp (perm.mem_iff.mp hi)
  have p2 : (order.toList.filterMap fun i => L[i]?).Perm L := pick_perm perm
  rw [← e2] at T
  generalize order.toList.filterMap (fun i => L[i]?) = L2 at e1 T p2
  have e3 : (order.filterMap (es[·]?)).toList = L2.map (entN w) := by rw [Array.toList_filterMap]; exact e1
  have n2 : (order.filterMap (es[·]?)).size = es.size := by rw [ent_size e3, p2.length_eq, n]
  rw [setRelay_eq]
  refine wpAny_bind (wpAny_setState_of ho hd fits ?_)
  dsimp only
  refine wp_if_neg (by rw [size, sizeLine_eq]; omega) ?_
  try refine wpAny_bind (wpAny_pure ?_)
  rw [laid]
  dsimp only
  refine wpAny_bind (wp_if_neg (by rw [n2]; simp) ?_)
  try refine wpAny_bind (wpAny_pure ?_)
  refine wpAny_pure ?_
  dsimp only
  have same : Heap.SameBut a s.heap (s.heap.update a (Obj.putSet (order.filterMap (es[·]?)) t')) := Heap.SameBut.update ..
  exact wpAny_storeSet_of ho hd (q _ L2 _ (ep + 1) t' same ⟨⟨_, store_at ho hd, hx, rfl⟩, e3, T, (p2.map (·.2)).nodup_iff.mpr nd, fun p hp => (key p (p2.mem_iff.mp hp)).other ho hd same, led' ▸ led, by rw [p2.length_eq, mask']; exact room, p2.length_eq ▸ few⟩ p2)
    (by rw [n2, n, sizeLine_eq]; omega)
theorem put_at_perm {α : Type} (L : List α) (i : Nat) (x : α) : (L.take i ++ x :: L.drop i).Perm (x :: L) := by
  have h : (L.take i ++ x :: L.drop i).Perm (x :: (L.take i ++ L.drop i)) := List.perm_middle
  rwa [List.take_append_drop] at h
/-- one is put into the set -/
theorem add_key (R : SnR w s.heap a L es ep t) {x : Addr} {k : NestedKey} (hx : KeyAt s.heap k x) (hu : A.units + 8 < cLine) (few : k ∉ L.map (·.2) → L.length + 1 < 64) {Q : Bool → Shared → Prop}
    (q : ∀ b h' L' es' ep' t', Heap.SameBut a s.heap h' → SnR w h' a L' es' ep' t' → (k ∈ L.map (·.2) → L' = L) → (k ∉ L.map (·.2) → L'.Perm ((x, k) :: L)) → Q b { s with heap := h' }) :
    wpAny (model P w) A (setAddHashed a (.ref x) (k.hash w)) Q E s := by
  obtain ⟨o, ho, exact_, hd⟩ := R.ob
  have n := R.size
  have room := R.room
  unfold setAddHashed
  refine wpAny_holding ?_
  rw [show (100000 : Nat) = 99999 + 1 from rfl, setAddHashedIn_succ]
  refine wpAny_bind (wpAny_setState_of ho hd R.fits ?_)
  dsimp only
  refine wp_if_neg (by simp [byScan, Value.scannable]) ?_
  try refine wpAny_bind (wpAny_pure ?_)
  refine wpAny_bind (search_add R hx hu (fun old => ?_) fun N fresh free full => ?_)
  · dsimp only
    exact wpAny_pure (q false s.heap L es ep t (Heap.SameBut.refl a s.heap) R (fun _ => rfl) fun z => absurd old z)
  · dsimp only
    have few' := few fresh
    refine wpAny_bind (wpAny_setState_of ho hd R.fits ?_)
    dsimp only
    obtain ⟨q1, q2, q3, q4, q5, _, _, _, q9⟩ := R.tab.put free full
    generalize t.put (way t.mask (k.hash w) N) = pt at q1 q3 q4 q5 q9 ⊢
    obtain ⟨t1, i⟩ := pt
    dsimp only at q1 q3 q4 q5 q9 ⊢
    rw [← q1] at q2 q3
    rw [← List.map_take, ← List.map_drop] at q3
    -- what is stored, whatever plain says
    have store : ∀ t2 : SetTable, t2.mask = t1.mask → t2.place = t1.place → t2.dummies = t1.dummies → t2.led = t1.led → wpAny (model P w) A (do
        storeSet a (SetTable.insertAt es i (k.hash w, Value.ref x)) t2
        if (!false && t2.tooFull) = true then setRelay a (SetTable.grown (es.size + 1))
        return true) Q E s := by
      intro t2 m2 pl2 dm2 l2
      have T2 : TabOk t2 ((L.take i ++ (x, k) :: L.drop i).map fun p => p.2.hash w) := by
        have T1 : TabOk t1 ((L.take i ++ (x, k) :: L.drop i).map fun p => p.2.hash w) := by
          rw [List.map_append, List.map_cons]
          exact q3
        exact ⟨by rw [pl2]; exact T1.ris, by rw [dm2]; exact T1.dm, by rw [pl2]; exact T1.sz, by rw [m2]; exact T1.mok, by rw [pl2, m2]; exact T1.bd, by rw [pl2, m2]; exact T1.reach⟩
      have e1 : (SetTable.insertAt es i (k.hash w, Value.ref x)).toList = (L.take i ++ (x, k) :: L.drop i).map (entN w) := by
        rw [SetTable.toList_insertAt, R.ent, List.map_append, List.map_cons, List.map_take, List.map_drop]
        rfl
      have pm := put_at_perm L i (x, k)
      have fill : t2.fill = L.length + 1 := by
        have := q9
        unfold SetTable.fill at this ⊢
        rw [pl2, dm2, this, List.length_map]
      generalize SetTable.insertAt es i (k.hash w, Value.ref x) = es1 at e1 ⊢
      generalize L.take i ++ (x, k) :: L.drop i = L1 at T2 e1 pm
      have n1 : L1.length = L.length + 1 := pm.length_eq
      have nd1 : (L1.map (·.2)).Nodup := (pm.map (·.2)).nodup_iff.mpr (List.nodup_cons.mpr ⟨fresh, R.nd⟩)
      have m_eq : t2.mask = t.mask := m2.trans q4
      have led2 : w.params.followText "set-order" = true ∨ t2.led = true := by rw [l2, q5]; exact R.led
      have same : Heap.SameBut a s.heap (s.heap.update a (Obj.putSet es1 t2)) := Heap.SameBut.update ..
      have ho1 := store_at (es' := es1) (t' := t2) ho hd
      have es1n := ent_size e1
      refine wpAny_bind (wpAny_storeSet_of ho hd ?_ (by rw [es1n, n1, sizeLine_eq]; omega))
      generalize s.heap.update a (Obj.putSet es1 t2) = h1 at same ho1 ⊢
      have key1 : ∀ p ∈ L1, KeyAt h1 p.2 p.1 := fun p hp => by
        rcases List.mem_cons.mp (pm.mem_iff.mp hp) with e | hp
        · rw [e]; exact hx.other ho hd same
        · exact (R.key p hp).other ho hd same
      by_cases full1 : t2.tooFull = true
      · have h5 : (L.length + 1) * 5 ≥ t2.mask * 3 := by
          have := full1
          unfold SetTable.tooFull at this
          rw [decide_eq_true_eq, fill] at this
          exact this
        have go : ∀ M, SetTable.sizeAbove (SetTable.grown (es.size + 1)) = M + 1 → MaskOk M → (L.length + 1) * 5 < M * 3 → wpAny (model P w) A (setRelay a (SetTable.grown (es.size + 1))) (fun _ s' => wpAny (model P w) A (pure true) Q E s') E { s with heap := h1 } := fun M g1 g2 g3 =>
          relay_keys (s := { s with heap := h1 }) ho1 exact_ rfl e1 (by rw [es1n]; have := T2.sz; rw [List.length_map] at this; exact this) T2.dm (by rw [es1n, n1, m_eq]; omega) nd1 key1 led2 (by omega) g1 g2 (by rw [n1]; exact g3)
            fun h2 L2 es2 ep2 t3 same2 R2 pm2 => wpAny_pure (q true h2 L2 es2 ep2 t3 (same.trans same2) R2 (fun z => absurd z fresh) fun _ => pm2.trans pm)
        have need : wpAny (model P w) A (setRelay a (SetTable.grown (es.size + 1))) (fun _ s' => wpAny (model P w) A (pure true) Q E s') E { s with heap := h1 } := by
          rw [m_eq] at h5
          rw [n] at go ⊢
          rcases R.tab.mok with e | e | e <;> rw [e] at h5 room
          · have : L.length = 4 := by omega
            rw [this] at go ⊢
            exact go 31 size_20 (.inr (.inl rfl)) (by decide)
          · have : L.length = 18 := by omega
            rw [this] at go ⊢
            exact go 127 size_76 (.inr (.inr rfl)) (by decide)
          · omega
        first
          | exact wpAny_bind (wp_if_pos (by simp [full1]) need)
          | exact wp_if_pos (by simp [full1]) (wpAny_bind need)
      · have end_ : Q true { s with heap := h1 } := q true h1 L1 es1 (ep + 1) t2 same ⟨⟨_, ho1, exact_, rfl⟩, e1, T2, nd1, key1, led2, by
          have := full1
          unfold SetTable.tooFull at this
          rw [decide_eq_true_eq, fill] at this
          omega, by omega⟩ (fun z => absurd z fresh) fun _ => pm
        first
          | exact wpAny_bind (wp_if_neg (by simp [full1]) (wpAny_pure (wpAny_pure end_)))
          | exact wp_if_neg (by simp [full1]) (wpAny_pure end_)
    have after : ∀ b : Bool, wpAny (model P w) A (do
        let t2 := if b = true then t1 else { t1 with plain := false }
        storeSet a (SetTable.insertAt es i (k.hash w, Value.ref x)) t2
        if (!false && t2.tooFull) = true then setRelay a (SetTable.grown (es.size + 1))
        return true) Q E s := fun b => by
      cases b with
      | true => exact store t1 rfl rfl rfl rfl
      | false => exact store { t1 with plain := false } rfl rfl rfl rfl
    by_cases plain1 : t1.plain = true
    · first
        | exact wpAny_bind (wp_if_pos plain1 (key_hashYN k _ 8 s hx.1 hx.2 _ _ _ after))
        | exact wp_if_pos plain1 (wpAny_bind (key_hashYN k _ 8 s hx.1 hx.2 _ _ _ after))
    · first
        | exact wpAny_bind (wp_if_neg plain1 (wpAny_pure (after true)))
        | exact wp_if_neg plain1 (after true)
        | exact wp_if_neg plain1 (wpAny_bind (wpAny_pure (after true)))
end
end My
namespace My
open PySem PySem.Spec PyProof.Rows L2 PySem.Froz
/-! set(xs) of a list of tuples of texts: those of fewer than 64 keys -/
theorem nodup_leN {α : Type} [DecidableEq α] : ∀ {a : List α} (D : List α), a.Nodup → (∀ x ∈ a, x ∈ D) → a.length ≤ D.length
  | [], _, _, _ => Nat.zero_le _
  | x :: a, D, nd, sub => by
    obtain ⟨h1, h2⟩ := List.nodup_cons.mp nd
    have hx := sub x (.head _)
    have ih := nodup_leN (D.erase x) h2 fun y hy => (List.mem_erase_of_ne fun e : y = x => h1 (e ▸ hy)).2 (sub y (.tail _ hy))
    rw [List.length_erase_of_mem hx] at ih
    have := List.length_pos_of_mem hx
    rw [List.length_cons]
    omega
/-- all of a set but what its elements are -/
structure Sn0 (w : World) (h : Heap) (a : Addr) (L : List (Addr × NestedKey)) (es : Array (Int × Value)) (ep : Nat) (t : SetTable) : Prop where
  ob : ∃ o, h.get? a = some o ∧ o.ExactSet ∧ o.data = .set es ep t
  ent : es.toList = L.map (entN w)
  tab : TabOk t (L.map fun p => p.2.hash w)
  nd : (L.map (·.2)).Nodup
  led : w.params.followText "set-order" = true ∨ t.led = true
  room : L.length * 5 < t.mask * 3
  few : L.length < 64
theorem SnR.zero {w : World} {h : Heap} {a : Addr} {L : List (Addr × NestedKey)} {es : Array (Int × Value)} {ep : Nat} {t : SetTable} (R : SnR w h a L es ep t) : Sn0 w h a L es ep t := ⟨R.ob, R.ent, R.tab, R.nd, R.led, R.room, R.few⟩
theorem Sn0.full {w : World} {h : Heap} {a : Addr} {L : List (Addr × NestedKey)} {es : Array (Int × Value)} {ep : Nat} {t : SetTable} (R : Sn0 w h a L es ep t) (k : ∀ p ∈ L, KeyAt h p.2 p.1) : SnR w h a L es ep t := ⟨R.ob, R.ent, R.tab, R.nd, k, R.led, R.room, R.few⟩
theorem Sn0.keep {w : World} {h h' : Heap} {a : Addr} {L : List (Addr × NestedKey)} {es : Array (Int × Value)} {ep : Nat} {t : SetTable} (R : Sn0 w h a L es ep t) (k : ∀ o, h.get? a = some o → h'.get? a = some o) : Sn0 w h' a L es ep t := by
  obtain ⟨o, ho, r⟩ := R.ob
  exact ⟨⟨o, k o ho, r⟩, R.ent, R.tab, R.nd, R.led, R.room, R.few⟩
/-- at a stands a set of these, each key once -/
def SnS (w : World) (h : Heap) (a : Addr) (L : List (Addr × NestedKey)) : Prop := ∃ es ep t, Sn0 w h a L es ep t
/-- what the set has of those gone by -/
structure GotN (ks : List (Addr × NestedKey)) (i : Nat) (L : List (Addr × NestedKey)) : Prop where
  sub : ∀ p ∈ L, p ∈ ks.take i
  all : ∀ p ∈ ks.take i, p.2 ∈ L.map (·.2)
theorem GotN.next {ks L L' : List (Addr × NestedKey)} {i : Nat} {x : Addr × NestedKey} (g : GotN ks i L) (hx : ks[i]? = some x) (old : x.2 ∈ L.map (·.2) → L' = L) (new : x.2 ∉ L.map (·.2) → L'.Perm (x :: L)) : GotN ks (i + 1) L' := by
  have e := take_next hx
  have m : ∀ {p}, p ∈ ks.take (i + 1) ↔ p ∈ ks.take i ∨ p = x := fun {p} => by rw [← e, List.mem_append, List.mem_singleton]
  by_cases c : x.2 ∈ L.map (·.2)
  · rw [old c]
    exact ⟨fun p hp => m.mpr (.inl (g.sub p hp)), fun p hp => (m.mp hp).elim (g.all p) fun z => z ▸ c⟩
  · have pm := new c
    refine ⟨fun p hp => m.mpr ?_, fun p hp => (pm.map (·.2)).mem_iff.mpr ?_⟩
    · exact (List.mem_cons.mp (pm.mem_iff.mp hp)).elim .inr fun z => .inl (g.sub p z)
    · rw [List.map_cons]
      exact (m.mp hp).elim (fun z => .tail _ (g.all p z)) fun z => z ▸ .head _
section
variable {prog : Program} {w : World} {A : Around} {R : Result → Shared → Prop} {I : Addr} {fp wr : List Addr} {G : Array GenState → Array GenState → Prop} {n : Nat} {Pv : Nat → Value → Prop} {St : Nat → Shared → Prop}
theorem loop_keys (W : WalksS prog w A.in1 I fp wr G n Pv St) (S : Addr) (out : S ∉ fp) (ks : List (Addr × NestedKey)) (hn : ks.length = n) (D : List NestedKey) (fewD : D.length < 64) (inD : ∀ p ∈ ks, p.2 ∈ D)
    (val : ∀ i v, Pv i v → ∃ p, ks[i]? = some p ∧ v = .ref p.1) (h0 : Heap) (key : ∀ p ∈ ks, KeyAt h0 p.2 p.1) (S0 : h0.get? S = none) (w0 : ∀ b ∈ wr, h0.get? b = none) (hu : A.in1.units + 16 < cLine) (k : Nat) :
    ∀ (i : Nat) (s : Shared), n - i = k → i ≤ n → St i s → (∀ b o, h0.get? b = some o → s.heap.get? b = some o) → (∃ L, SnS w s.heap S L ∧ GotN ks i L) →
      (∀ s' L, Moved (S :: wr) G s s' → SnS w s'.heap S L → GotN ks n L → (∀ b o, h0.get? b = some o → s'.heap.get? b = some o) → R (.ok (.ret .none)) s') →
      codeAny (model prog w) A (.builtin "set.update.loop" ⟨[.ref S, .ref I], []⟩) R s := by
  have hw : S ∉ wr := fun m => out (W.sub _ m)
  have sub : ∀ b ∈ wr, b ∈ S :: wr := fun _ m => List.mem_cons_of_mem _ m
  have stay : ∀ {L : List (Addr × NestedKey)} {s s' : Shared}, Moved wr G s s' → SnS w s.heap S L → SnS w s'.heap S L := fun m ⟨es, ep, t, r⟩ => ⟨es, ep, t, r.keep fun o e => m.heap S o hw e⟩
  have stand : ∀ {s s' : Shared}, Moved wr G s s' → (∀ b o, h0.get? b = some o → s.heap.get? b = some o) → ∀ b o, h0.get? b = some o → s'.heap.get? b = some o := fun m k b o e => m.heap b o (fun hb => nomatch (w0 b hb).symm.trans e) (k b o e)
  induction k with
  | zero =>
    intro i s ek le st hk ⟨L, hS, g⟩ hR
    obtain rfl : i = n := by omega
    refine codeAny_builtin PyProof.Rows.F.entry_set_update_loop ?_
    rw [Around.under_plainId PyProof.Rows.F.plain_set_update_loop _]
    refine (show wpAny _ A.in1 (pyNext (.ref I) >>= _) _ _ s from wpAny_bind (W.done s _ _ st fun s' m => ?_))
    exact (show wpAny _ A.in1 (ret Value.none) _ _ s' from wpAny_pure (hR s' L (m.mono sub) (stay m hS) g (stand m hk)))
  | succ k ih =>
    intro i s ek le st hk ⟨L, hS, g⟩ hR
    have lt : i < n := by omega
    refine codeAny_builtin PyProof.Rows.F.entry_set_update_loop ?_
    rw [Around.under_plainId PyProof.Rows.F.plain_set_update_loop _]
    refine (show wpAny _ A.in1 (pyNext (.ref I) >>= _) _ _ s from wpAny_bind (W.item i s _ _ lt st fun v s' hP st' m => ?_))
    obtain ⟨p, hp, rfl⟩ := val i v hP
    have hk' := stand m hk
    have mem := List.mem_of_getElem? hp
    refine (show wpAny _ A.in1 (holding [Value.ref p.1] (setAdd S (.ref p.1)) >>= _) _ _ s' from wpAny_bind (wpAny_holding ?_))
    unfold setAdd
    obtain ⟨es, ep, t, S1⟩ := stay m hS
    have kx : KeyAt s'.heap p.2 p.1 := (key p mem).keep hk'
    have S2 : SnR w s'.heap S L es ep t := S1.full fun q hq => (key q (List.mem_of_mem_take (g.sub q hq))).keep hk'
    refine wpAny_holding (wpAny_bind (pyHash_key p.2 _ _ s' _ kx.1 (by have := kx.2; omega) ?_))
    refine add_key (s := { s' with toks := s'.toks + p.2.draws }) S2 kx (by omega) (fun fresh => ?_) fun b h' L' es' ep' t' same S3 old new => ?_
    · have := nodup_leN D (List.nodup_cons.mpr ⟨fresh, S2.nd⟩) fun y hy => by
        rcases List.mem_cons.mp hy with e | hy
        · rw [e]; exact inD p mem
        · obtain ⟨q, hq, rfl⟩ := List.mem_map.mp hy
          exact inD q (List.mem_of_mem_take (g.sub q hq))
      rw [List.length_cons, List.length_map] at this
      omega
    · have hk2 : ∀ b o, h0.get? b = some o → h'.get? b = some o := fun b o e => (same.2 b fun z => by rw [z, S0] at e; cases e).trans (hk' b o e)
      refine wpAny_pure ⟨plainId_quiet PyProof.Rows.F.plain_set_update_loop _, ih (i + 1) _ (by omega) lt (W.frame _ s' _ _ st' (Nat.le_add_right _ _) fun b hb o e => ?_) hk2 ⟨L', ⟨es', ep', t', S3.zero⟩, g.next hp old new⟩ fun s'' L'' m'' hS'' g'' hk'' => ?_⟩
      · rw [same.2 b (fun z : b = S => out (z ▸ hb))]; exact e
      · refine hR s'' L'' (Moved.trans W.gtrans ((m.mono sub).then_heap (Nat.le_add_right _ _) fun b o hb e => ?_) m'') hS'' g'' hk''
        rw [same.2 b (fun z : b = S => hb (z ▸ List.mem_cons_self))]; exact e
end
section
variable {prog : Program} {w : World} {A : Around} {E : Value → Shared → Prop} {s : Shared}
set_option maxHeartbeats 3200000 in
theorem keys_list {l : Addr} {us : Array Value} {ks : List (Addr × NestedKey)} {Q : Value → Shared → Prop} (calm : A.handled = none) (at' : s.heap.IsList l us) (are : us.toList = ks.map fun p => Value.ref p.1) (key : ∀ p ∈ ks, KeyAt s.heap p.2 p.1)
    (D : List NestedKey) (fewD : D.length < 64) (inD : ∀ p ∈ ks, p.2 ∈ D) (hu : A.units + 32 < cLine)
    (go : ∀ (g : Heap) (tk : Nat) (L : List (Addr × NestedKey)), SnS w g s.heap.objs.size L → GotN ks ks.length L → (∀ b o, s.heap.get? b = some o → g.get? b = some o) → Q (.ref s.heap.objs.size) { s with heap := g, toks := tk }) :
    wpAny (model prog w) A (call (.type "set") [.ref l]) Q E s := by
  obtain ⟨c, tl, f1⟩ := PySem.F.called_set.mro; have f2 := PySem.F.called_set.made; have f3 := PySem.F.called_set.sub
  refine wpAny_call (codeAny_of_tree ?_); show wpAny _ _ (callAny (.type "set") _) _ _ _
  refine wpAny_pure ⟨Code.quiet_builtin _ (by decide +kernel), codeAny_builtin PySem.F.entry_type_call ?_⟩; rw [Around.under_plain (weight_type_call_type "set" [.ref l] []) rfl]
  have f4 := PySem.F.called_set.notType; have f5 := PySem.F.called_set.canCreate; have f6 := PySem.F.typeCall_set_1 (.ref l)
  repeat (any_goals (first | assumption | wp_step))
  refine codeAny_mono (code_set_led1 (.ref l) (E := E) (Q₁ := fun ob s₁ => ∃ b : Bool, b = (!w.params.followText "set-order") ∧ ob = .ref s.heap.objs.size ∧ s₁ = { s with heap := freshAt s b }) ⟨_, rfl, rfl, rfl⟩) fun r s₁ hr => ?_
  cases r with
  | error e => exact hr
  | ok fl =>
    cases fl with
    | ret ob =>
      obtain ⟨b0, hb0, rfl, rfl⟩ := hr
      have hS : (freshAt s b0).get? s.heap.objs.size = some (freshSet b0) := Heap.get?_push_size _ rfl
      have hT : Shared.TypeIs { s with heap := freshAt s b0 } (.ref s.heap.objs.size) "set" := ⟨_, hS, rfl⟩
      have f7 := PySem.F.called_set.init.lookup; have f8 := PySem.F.called_set.init.bind (.ref s.heap.objs.size)
      unfold freshAt freshSet at *
      repeat (any_goals (first | assumption | wp_step))
      refine codeAny_mono (codeAny_call_builtin (R := wants (fun r s₂ => r = .none ∧ ∃ g tk L, s₂ = { s with heap := g, toks := tk } ∧ SnS w g s.heap.objs.size L ∧ GotN ks ks.length L ∧ (∀ b o, s.heap.get? b = some o → g.get? b = some o)) E) PySem.F.called_set.init.plain PySem.F.entry_set_init (check_set_init_1 hT ?_)) fun r₂ s₂ hr₂ => ?_
      · obtain ⟨⟨c1, d1, dt, sl⟩, h1, h2, m1, h3⟩ := at'
        simp only at h2 h3; subst h2 h3
        have h1p := Heap.get?_push_of_some { cls := .type "set", dict := none, data := .set #[] 0 (.fresh 0 0 b0) } h1
        have g1 := PySem.F.sub_list_set; have g2 := PySem.F.sub_list_frozenset; have g3 : (Value.type "list" == Value.type "dict") = false := by decide
        have at2 : (s.heap.push { cls := .type "set", dict := none, data := .set #[] 0 (.fresh 0 0 b0) }).IsList l us := ⟨_, h1p, rfl, m1, rfl⟩
        unfold Builtin.«set.__init__» noKeywords Builtin.Frozenset.updateFrom; generalize hPI : pyIter = PI; wp_walk; subst hPI
        refine wpAny_pyIter_list at2 ?_; refine wpAny_bind (wpAny_runValue ?_)
        have lt0 : l < s.heap.objs.size := Heap.lt_size h1
        have calm3 : A.in1.in1.in1.handled = none := by simp [calm]
        have e1 : (s.heap.push { cls := .type "set", dict := none, data := .set #[] 0 (.fresh 0 0 b0) }).objs.size = s.heap.objs.size + 1 := by rw [Heap.size_push]
        have far : l ≠ (s.heap.push { cls := .type "set", dict := none, data := .set #[] 0 (.fresh 0 0 b0) }).objs.size := by rw [e1]; exact Nat.ne_of_lt (Nat.lt_succ_of_lt lt0)
        have out : s.heap.objs.size ∉ [(s.heap.push { cls := .type "set", dict := none, data := .set #[] 0 (.fresh 0 0 b0) }).objs.size, l] := by
          rw [e1]; simp only [List.mem_cons, List.not_mem_nil, or_false, not_or]; exact ⟨Nat.ne_of_lt (Nat.lt_succ_self _), Nat.ne_of_gt lt0⟩
        have lx : ks.length = us.size := by rw [← Array.length_toList, are, List.length_map]
        have vals : ∀ (i : Nat) (v : Value), us[i]? = some v → ∃ p, ks[i]? = some p ∧ v = .ref p.1 := fun i v hv => by
          rw [← Array.getElem?_toList, are, List.getElem?_map] at hv
          obtain ⟨p, hp, e⟩ := Option.map_eq_some_iff.mp hv
          exact ⟨p, hp, e.symm⟩
        have beyond : ∀ b, s.heap.objs.size ≤ b → s.heap.get? b = none := fun b hb => by
          cases z : s.heap.get? b with
          | none => rfl
          | some o => exact absurd (Nat.lt_of_lt_of_le (Heap.lt_size z) hb) (Nat.lt_irrefl _)
        refine loop_keys ((Walks.list calm3 _ l far us).toS) s.heap.objs.size out ks lx D fewD inD vals s.heap key (beyond _ (Nat.le_refl _)) (fun b hb => beyond b (by rw [List.mem_singleton.mp hb, e1]; omega))
          (by show A.units + 1 + 1 + 1 + 16 < cLine; omega) (us.size - 0) 0 _ (by omega) (Nat.zero_le _) ⟨⟨_, Heap.get?_push_size _ rfl, rfl, rfl⟩, (at2.push _)⟩ (fun b o e => Heap.get?_push_of_some _ (Heap.get?_push_of_some _ e)) ?st0 ?end0
        case st0 =>
          refine ⟨[], ⟨#[], 0, .fresh 0 0 b0, ⟨_, Heap.get?_push_of_some { cls := .type "list_iterator", data := .fields #[.ref l, .int 0 0] } hS, ⟨rfl, rfl, rfl⟩, rfl⟩, rfl, ⟨List.Pairwise.nil, rfl, rfl, .inl rfl, fun x hx => (by cases hx), fun i h j hi => (by simp at hi)⟩, List.nodup_nil, ?_, ?_, ?_⟩, fun p h => (by cases h), fun p h => (by simp at h)⟩
          · show _ ∨ b0 = true
            rw [hb0]
            cases w.params.followText "set-order"
            · exact .inr rfl
            · exact .inl rfl
          · show 0 * 5 < 7 * 3
            decide
          · show 0 < 64
            decide
        case end0 =>
          rintro ⟨g, gs, dr, tk, os⟩ L mv hS' got hk
          obtain rfl : gs = s.gens := mv.gens
          obtain rfl : dr = s.drawn := mv.drawn
          obtain rfl : os = s.os := mv.os
          show wpAny _ _ _ _ _ _; refine wpAny_pure ?_; show wpAny _ _ (ret Value.none) _ _ _
          exact wpAny_pure ⟨rfl, g, tk, L, rfl, hS', lx ▸ got, hk⟩
      · cases r₂ with
        | error e => exact hr₂
        | ok fl₂ =>
          cases fl₂ with
          | ret r =>
            obtain ⟨rfl, g, tk, L, rfl, hS', got, hk'⟩ := hr₂
            repeat (any_goals (first | assumption | wp_step))
            exact go _ _ L hS' got hk'
          | _ => exact hr₂.elim
    | _ => exact hr.elim
end
end My
namespace My
open PySem PySem.Spec PyProof.Rows PySem.W L2
/-! set(xs) and sorted(set), of pairs of texts -/
/-- a pair of texts and where it stands -/
abbrev PrT := Addr × (Str × Str)
def kp (p : PrT) : Addr × NestedKey := (p.1, .tup [.text p.2.1, .text p.2.2])
theorem kp_inj {p q : PrT} (h : kp p = kp q) : p = q := by
  obtain ⟨a, x, y⟩ := p
  obtain ⟨b, z, u⟩ := q
  unfold kp at h
  cases h
  rfl
theorem kp_snd {p q : PrT} : (kp p).2 = (kp q).2 ↔ p.2 = q.2 := by
  obtain ⟨a, x, y⟩ := p
  obtain ⟨b, z, u⟩ := q
  unfold kp
  constructor
  · intro h; cases h; rfl
  · intro h; cases h; rfl
/-- the set of these pairs, at a -/
def SnO (w : World) (a : Addr) (M : List PrT) : HO := .ext fun h => SnS w h a (M.map kp)
def PrAt (H : Hp) (p : PrT) : Prop := H p.1 = some (.tup [.str p.2.1, .str p.2.2])
theorem back_kp : ∀ {L : List (Addr × NestedKey)} {ps : List PrT}, (∀ p ∈ L, p ∈ ps.map kp) → ∃ M : List PrT, L = M.map kp ∧ ∀ p ∈ M, p ∈ ps
  | [], _, _ => ⟨[], rfl, fun p h => nomatch h⟩
  | x :: L, ps, h => by
    obtain ⟨q, hq, e⟩ := List.mem_map.mp (h x (.head _))
    obtain ⟨M, e2, sub⟩ := back_kp (L := L) (ps := ps) fun p hp => h p (.tail _ hp)
    exact ⟨q :: M, by rw [List.map_cons, e, e2], fun p hp => (List.mem_cons.mp hp).elim (fun z => z ▸ hq) (sub p)⟩
section
variable {X : Cx}
theorem snO_new {P : Program} {w : World} {H : Hp} {h : Heap} {a : Addr} {M : List PrT} (R : SnS w h a (M.map kp)) : ObjOk P w H h a (SnO w a M) := by
  have ⟨es, ep, t, r⟩ := R
  obtain ⟨o, ho, _⟩ := r.ob
  exact ⟨R, ⟨_, ho⟩, fun h1 h2 ⟨es, ep, t, r⟩ k => ⟨es, ep, t, r.keep k⟩⟩
theorem pr_at {pins : List (Addr × Obj)} {σ : L2.St} {H : Hp} {s : Shared} (I : Inv X pins σ H s) {p : PrT} (h : PrAt H p) : ∃ t u, IsTup s.heap p.1 #[.str p.2.1 t, .str p.2.2 u] := by
  obtain ⟨_, its, rv, o, ho, hc, k, hd⟩ := I.hok p.1 _ h
  obtain ⟨u1, u2, rfl, r1, r2⟩ := vals2 rv
  obtain ⟨t, rfl⟩ := r1
  obtain ⟨u, rfl⟩ := r2
  exact ⟨t, u, o, ho, hc, k, hd⟩
theorem pr_key {pins : List (Addr × Obj)} {σ : L2.St} {H : Hp} {s : Shared} (I : Inv X pins σ H s) {p : PrT} (h : PrAt H p) : KeyAt s.heap (kp p).2 (kp p).1 := by
  obtain ⟨t, u, o, ho, hc, n, hd⟩ := pr_at I h
  refine ⟨.tup ho hc hd (.cons (.text _ _) (.cons (.text _ _) .nil)), ?_⟩
  show NestedKey.depth (.tup [.text p.2.1, .text p.2.2]) ≤ 8
  simp [NestedKey.depth, NestedKey.depthAll]
/-- set(xs), xs a list of pairs of texts, fewer than 64 unlike -/
def rSetPr (K : PySem.W.Frag) (w : World) : List V → Hp → VK → Prop := fun xs H Q => ∃ (l : Addr) (ps : List PrT) (D : List (Str × Str)), xs = [.ref l] ∧ SqL K H l (ps.map fun p => V.ref p.1) ∧ (∀ p ∈ ps, PrAt H p) ∧ D.length < 64 ∧ (∀ p ∈ ps, p.2 ∈ D) ∧
  ∀ (a : Addr) (M : List PrT), H a = none → (∀ p ∈ M, p ∈ ps) → (∀ p ∈ ps, p.2 ∈ M.map (·.2)) → Q (.ref a) (upd H a (SnO w a M))
theorem call_setPr (hc : X.calm = true) (hu : X.A.units + 64 < cLine) : CallR X (.type "set") (rSetPr X.K X.w) := by
  intro pins s σ H xs us Q I r h
  obtain ⟨l, ps, D, rfl, hq, at_, few, inD, q⟩ := h
  rw [Vals.ref1 r]
  obtain ⟨its, rv, pl, hz⟩ := I.list hq
  have e : its = (ps.map kp).map fun p => Value.ref p.1 := by
    have e1 : ps.map (fun p => V.ref p.1) = (ps.map (·.1)).map V.ref := by rw [List.map_map]; rfl
    rw [e1] at rv
    rw [refs_at rv, List.map_map, List.map_map]
    rfl
  refine keys_list (ks := ps.map kp) (I.ok.hd hc) pl.isList (by rw [← e, List.toList_toArray]) (fun p hp => ?_) (D.map fun d => .tup [.text d.1, .text d.2]) (by rw [List.length_map]; exact few) (fun p hp => ?_) (by omega) fun g tk L hS got hk => ?_
  · obtain ⟨z, hz, rfl⟩ := List.mem_map.mp hp
    exact pr_key I (at_ z hz)
  · obtain ⟨z, hz, rfl⟩ := List.mem_map.mp hp
    exact List.mem_map.mpr ⟨z.2, inD z hz, rfl⟩
  · have sub := got.sub
    have all := got.all
    rw [List.take_length] at sub all
    obtain ⟨M, rfl, mem⟩ := back_kp sub
    refine ⟨.ref s.heap.objs.size, upd H s.heap.objs.size (SnO X.w s.heap.objs.size M), I.laid (t' := tk) hk (Nat.le_refl _) (snO_new hS), rfl, q _ M (I.hok.fresh (Nat.le_refl _)) mem fun p hp => ?_⟩
    have m := all (kp p) (List.mem_map.mpr ⟨p, hp, rfl⟩)
    rw [List.map_map] at m
    obtain ⟨z, hz, ez⟩ := List.mem_map.mp m
    exact List.mem_map.mpr ⟨z, hz, kp_snd.mp ez⟩
end
/-! sorted: by how many are less -/
def lessN (S : List Str) (x : Str) : Nat := (S.filter fun z => decide (z.cps.toList < x.cps.toList)).length
theorem lessN_le (S : List Str) (x : Str) : lessN S x ≤ S.length := List.length_filter_le _ _
theorem lessN_mono {x y : Str} (h : x.cps.toList ≤ y.cps.toList) : ∀ S : List Str, lessN S x ≤ lessN S y
  | [] => Nat.le_refl _
  | z :: S => by
    have ih := lessN_mono h S
    unfold lessN at ih ⊢
    rw [List.filter_cons, List.filter_cons]
    by_cases c : z.cps.toList < x.cps.toList
    · have c2 : z.cps.toList < y.cps.toList := Classical.byContradiction fun q => List.not_lt.mpr (List.le_trans h (List.not_lt.mp q)) c
      rw [if_pos (decide_eq_true c), if_pos (decide_eq_true c2), List.length_cons, List.length_cons]
      omega
    · rw [if_neg (by simpa using c)]
      split
      · rw [List.length_cons]; omega
      · exact ih
theorem lessN_lt {x y : Str} (h : x.cps.toList < y.cps.toList) : ∀ {S : List Str}, x ∈ S → lessN S x < lessN S y
  | z :: S, m => by
    have le := lessN_mono (List.le_of_lt h) S
    have irr : ¬ x.cps.toList < x.cps.toList := List.lt_irrefl _
    unfold lessN at le ⊢
    rw [List.filter_cons, List.filter_cons]
    rcases List.mem_cons.mp m with rfl | m
    · rw [if_neg (by simpa using irr), if_pos (decide_eq_true h), List.length_cons]
      omega
    · have ih := lessN_lt h m
      unfold lessN at ih
      by_cases c : z.cps.toList < x.cps.toList
      · have c2 : z.cps.toList < y.cps.toList := List.lt_trans c h
        rw [if_pos (decide_eq_true c), if_pos (decide_eq_true c2), List.length_cons, List.length_cons]
        omega
      · rw [if_neg (by simpa using c)]
        split
        · rw [List.length_cons]; omega
        · exact ih
theorem lessN_iff {S : List Str} {x y : Str} (hx : x ∈ S) : x.cps.toList < y.cps.toList ↔ lessN S x < lessN S y :=
  ⟨fun h => lessN_lt h hx, fun h => Classical.byContradiction fun c => by have := lessN_mono (List.not_lt.mp c) S; omega⟩
theorem lessN_eq {S : List Str} {x y : Str} (hx : x ∈ S) (hy : y ∈ S) (h : lessN S x = lessN S y) : x = y := by
  refine str_le_antisymm (List.not_lt.mp fun c => ?_) (List.not_lt.mp fun c => ?_)
  · have := lessN_lt c hy; omega
  · have := lessN_lt c hx; omega
/-- the rank of a pair among some -/
def prRk (M : List PrT) (p : Str × Str) : Int := (lessN (M.map (·.2.1)) p.1 : Int) * ((M.length : Int) + 1) + (lessN (M.map (·.2.2)) p.2 : Int)
theorem prRk_first {M : List PrT} {p q : PrT} (hp : p ∈ M) (hq : q ∈ M) (ne : p.2.1 ≠ q.2.1) : decide (p.2.1.cps.toList < q.2.1.cps.toList) = decide (prRk M p.2 < prRk M q.2) := by
  have mp : p.2.1 ∈ M.map (·.2.1) := List.mem_map.mpr ⟨p, hp, rfl⟩
  have mq : q.2.1 ∈ M.map (·.2.1) := List.mem_map.mpr ⟨q, hq, rfl⟩
  have bp := lessN_le (M.map (·.2.2)) p.2.2
  have bq := lessN_le (M.map (·.2.2)) q.2.2
  rw [List.length_map] at bp bq
  rw [decide_eq_decide, lessN_iff mp]
  unfold prRk
  have ne : lessN (M.map (·.2.1)) p.2.1 ≠ lessN (M.map (·.2.1)) q.2.1 := fun z => ne (lessN_eq mp mq z)
  generalize lessN (M.map (·.2.1)) p.2.1 = a at ne ⊢
  generalize lessN (M.map (·.2.1)) q.2.1 = b at ne ⊢
  generalize lessN (M.map (·.2.2)) p.2.2 = x at bp ⊢
  generalize lessN (M.map (·.2.2)) q.2.2 = y at bq ⊢
  constructor
  · intro h
    have h' : (a : Int) + 1 ≤ b := by omega
    have := Int.mul_le_mul_of_nonneg_right h' (show (0 : Int) ≤ (M.length : Int) + 1 by omega)
    rw [Int.add_mul] at this
    omega
  · intro h
    refine Classical.byContradiction fun k => ?_
    have h' : (b : Int) + 1 ≤ a := by omega
    have := Int.mul_le_mul_of_nonneg_right h' (show (0 : Int) ≤ (M.length : Int) + 1 by omega)
    rw [Int.add_mul] at this
    omega
theorem prRk_second {M : List PrT} {p q : PrT} (hp : p ∈ M) (e : p.2.1 = q.2.1) : decide (p.2.2.cps.toList < q.2.2.cps.toList) = decide (prRk M p.2 < prRk M q.2) := by
  have mp : p.2.2 ∈ M.map (·.2.2) := List.mem_map.mpr ⟨p, hp, rfl⟩
  rw [decide_eq_decide, lessN_iff mp]
  unfold prRk
  rw [e]
  omega
section
variable {prog : Program} {w : World} {A : Around} {E : Value → Shared → Prop} {s : Shared}
theorem pair_lt {M : List PrT} {p q : PrT} {Q : Bool → Shared → Prop} (hp : p ∈ M) (hq : q ∈ M) {t1 t2 u1 u2 : Tok} (ap : IsTup s.heap p.1 #[.str p.2.1 t1, .str p.2.2 t2]) (aq : IsTup s.heap q.1 #[.str q.2.1 u1, .str q.2.2 u2]) (h : Q (decide (prRk M p.2 < prRk M q.2)) s) :
    wpAny (model prog w) A (keyLt' (tuples' true) (.ref p.1) (.ref q.1)) Q E s := by
  obtain ⟨o, ho, hc, k, hd⟩ := ap
  obtain ⟨o', ho', hc', k', hd'⟩ := aq
  refine kat_lt ho hd ho' hd' ?_
  have e1 := SeqAt.EqAt.str_str (A := A) (s := s) p.2.1 t1 q.2.1 u1
  have e2 := SeqAt.EqAt.str_str (A := A) (s := s) p.2.2 t2 q.2.2 u2
  by_cases c : p.2.1 = q.2.1
  · rw [beq_iff_eq.mpr c] at e1
    rw [← prRk_second hp c] at h
    by_cases d : p.2.2 = q.2.2
    · rw [beq_iff_eq.mpr d] at e2
      rw [d, decide_eq_false (List.lt_irrefl _)] at h
      exact kat_cons (e1 prog w _ _ (kat_yes (kat_cons (e2 prog w _ _ (kat_yes (kat_nil h))))))
    · rw [beq_eq_false_iff_ne.mpr d] at e2
      exact kat_cons (e1 prog w _ _ (kat_yes (kat_cons (e2 prog w _ _ (kat_no (kat_one (E := fun _ _ => False) _ _ (DT.rcLt_str A s p.2.2 t2 q.2.2 u2 prog w _ _ h)))))))
  · rw [beq_eq_false_iff_ne.mpr c] at e1
    rw [← prRk_first hp hq c] at h
    refine kat_cons (e1 prog w _ _ (kat_no (strKind_oneLt prog w A (fun _ _ => False) s (.str p.2.1 t1) (.str q.2.1 u1) p.2.1.cps.toList q.2.1.cps.toList rfl rfl ?_)))
    exact h
theorem pair_heads {h : Heap} : ∀ (M : List PrT), (∀ p ∈ M, ∃ t u, IsTup h p.1 #[.str p.2.1 t, .str p.2.2 u]) → ∃ fs : List Value, KatTups h (M.map fun p => Value.ref p.1) fs ∧ fs.length = M.length ∧ ∀ f ∈ fs, ∃ n t, f = Value.str n t
  | [], _ => ⟨[], KatTups.nil, rfl, fun f hf => nomatch hf⟩
  | p :: M, x => by
    obtain ⟨fs, k, hl, hi⟩ := pair_heads M fun u hu => x u (.tail _ hu)
    obtain ⟨t, u, o, ho, hc, m, hd⟩ := x p (.head _)
    refine ⟨.str p.2.1 t :: fs, KatTups.cons ho hc hd rfl k, by rw [List.length_cons, List.length_cons, hl], fun f hf => ?_⟩
    rcases List.mem_cons.mp hf with rfl | hf
    · exact ⟨p.2.1, t, rfl⟩
    · exact hi f hf
/-- which pair stands at an address -/
noncomputable def prOf (M : List PrT) (v : Value) : Int := match M.find? fun p => v == Value.ref p.1 with
  | some p => prRk M p.2
  | none => 0
theorem prOf_at {h : Heap} {M : List PrT} (x : ∀ p ∈ M, ∃ t u, IsTup h p.1 #[.str p.2.1 t, .str p.2.2 u]) {p : PrT} (hp : p ∈ M) : prOf M (.ref p.1) = prRk M p.2 := by
  unfold prOf
  cases e : M.find? fun q => (Value.ref p.1) == Value.ref q.1 with
  | none => exact absurd (beq_self_eq_true (Value.ref p.1)) (List.find?_eq_none.mp e p hp)
  | some q =>
    have e1 : Value.ref p.1 = Value.ref q.1 := beq_iff_eq.mp (List.find?_some (p := fun q : PrT => (Value.ref p.1) == Value.ref q.1) e)
    have hq := List.mem_of_find?_eq_some e
    obtain ⟨t, u, o, ho, _, n, hd⟩ := x p hp
    obtain ⟨t', u', o', ho', _, n', hd'⟩ := x q hq
    injection e1 with e1
    rw [e1, ho'] at ho
    cases ho
    rw [hd'] at hd
    injection hd with hd _
    have h1 := congrArg Array.toList hd
    simp only [List.cons.injEq, Value.str.injEq, and_true] at h1
    show prRk M q.2 = prRk M p.2
    rw [show q.2 = p.2 from Prod.ext h1.1.1 h1.2.1]
end
section
variable {X : Cx}
/-- sorted(a set of pairs of texts): a new list of the same pairs, in some order -/
def rSortPr (w : World) : List V → Hp → VK → Prop := fun xs H Q => ∃ (a : Addr) (M : List PrT), xs = [.ref a] ∧ H a = some (SnO w a M) ∧ (∀ p ∈ M, PrAt H p) ∧
  ∀ (N : List PrT) (p : Addr), N.Perm M → (M.map (·.2)).Nodup → M.length < 64 → H p = none → Q (.ref p) (upd H p (.lst (N.map fun p => V.ref p.1)))
theorem call_sortPr (hc : X.calm = true) : CallR X (.builtin "sorted") (rSortPr X.w) := by
  intro pins s σ H xs us Q I r h
  obtain ⟨a, M, rfl, ha, at_, q⟩ := h
  rw [Vals.ref1 r]
  obtain ⟨es, ep, t, R⟩ : SnS X.w s.heap a (M.map kp) := (I.hok a _ ha).1
  obtain ⟨o, ho, ex, hd⟩ := R.ob
  have few := R.few
  rw [List.length_map] at few
  have nd : (M.map (·.2)).Nodup := by
    refine List.pairwise_map.mpr (List.Pairwise.imp (fun {p q} ne e => ne (kp_snd.mpr e)) (List.pairwise_map.mp (List.pairwise_map.mp R.nd)))
  have n := ent_size R.ent
  rw [List.length_map] at n
  have fits : t.fits es.size = true := (R.full fun p hp => by
    obtain ⟨z, hz, rfl⟩ := List.mem_map.mp hp
    exact pr_key I (at_ z hz) : SnR X.w s.heap a (M.map kp) es ep t).fits
  refine Calls.call_function_entry kind_sorted plain_sorted entry_sorted (args_sorted1 _) ?_
  unfold Builtin.«sorted»
  refine wpAny_bind (m := checkCount "sorted" 1 1 _) (wpAny_pure ?_)
  refine wpAny_bind (collect_set (A := X.A.in1) (I.ok.hd hc) ⟨o, ho, ex.1, hd⟩ fits (by unfold scanBound; omega) R.tab.ris R.led fun s1 vs k1 hz g1 o1 pm => ?_)
  have e0 : es.toList.map (·.2) = M.map fun p => Value.ref p.1 := by
    rw [R.ent, List.map_map, List.map_map]
    rfl
  rw [e0] at pm
  obtain ⟨N, pN, eN⟩ := perm_lift (fun p : PrT => Value.ref p.1) pm M rfl
  subst eN
  have lN : N.length = M.length := pN.length_eq
  have lz : (N.map fun p : PrT => Value.ref p.1).length ≤ sizeLine := by rw [List.length_map, sizeLine_eq]; omega
  refine wpAny_bind (wpAny_newList ?_ lz)
  have hob : (s1.heap.push (seqObj "list" (N.map fun p : PrT => Value.ref p.1).toArray 0)).get? s1.heap.objs.size = some (seqObj "list" (N.map fun p : PrT => Value.ref p.1).toArray 0) := Heap.get?_push_size _ rfl
  have kb : ∀ c u, s.heap.get? c = some u → (s1.heap.push (seqObj "list" (N.map fun p : PrT => Value.ref p.1).toArray 0)).get? c = some u := fun c u e => Heap.get?_push_of_some _ (k1 c u e)
  have ne0 : ∀ c u, s.heap.get? c = some u → c ≠ s1.heap.objs.size := fun c u e => Nat.ne_of_lt (Heap.lt_size (k1 c u e))
  have lt0 : ∀ c u, s.heap.get? c = some u → c < (s1.heap.push (seqObj "list" (N.map fun p : PrT => Value.ref p.1).toArray 0)).objs.size := fun c u e => Heap.lt_size (kb c u e)
  have hn : H s1.heap.objs.size = none := I.hok.fresh hz
  show wpAny _ _ (holding [Value.ref s1.heap.objs.size] (call (.builtin "list.sort") [Value.ref s1.heap.objs.size]) >>= fun _ => ret (Value.ref s1.heap.objs.size)) _ _ { s1 with heap := s1.heap.push (seqObj "list" (N.map fun p : PrT => Value.ref p.1).toArray 0) }
  generalize s1.heap.push (seqObj "list" (N.map fun p : PrT => Value.ref p.1).toArray 0) = h2 at hob kb lt0 ⊢
  have km : ∀ c u, s.heap.get? c = some u → (TS.midHeap h2 s1.heap.objs.size (N.map fun p : PrT => Value.ref p.1)).get? c = some u := fun c u e => TS.midHeap_old (ne0 _ _ e) (kb _ _ e)
  have tups : ∀ p ∈ N, ∃ t u, IsTup (TS.midHeap h2 s1.heap.objs.size (N.map fun p : PrT => Value.ref p.1)) p.1 #[.str p.2.1 t, .str p.2.2 u] := fun p hp => by
    obtain ⟨t, u, o, ho, r⟩ := pr_at I (at_ p (pN.mem_iff.mp hp))
    exact ⟨t, u, o, km _ _ ho, r⟩
  refine wpAny_bind (wpAny_holding (wpAny_call_entry PyProof.Rows.slot_list_sort ⟨_, hob, rfl⟩ PyProof.Rows.entry_list_sort
    (SK.plain_sort (s := { s1 with heap := h2 }) (r := prOf N) hob (by rw [List.length_map]; omega) (fun g2 Qk hQk => ?_) fun zs out o1' o2 o3 => ⟨.none, rfl, ?_⟩) (PyProof.Rows.args_list_sort _)))
  · obtain ⟨fs, kt, hl, hi⟩ := pair_heads N tups
    rw [List.length_map] at g2
    refine kat_kind (T := Value.type "str") kt (by omega) (fun f hf => ?_) rfl (hQk _ ?_)
    · obtain ⟨n, t, rfl⟩ := hi f hf
      exact .now
    · intro x y hx hy Q' E' hQ'
      rw [pairsOf_toList] at hx hy
      obtain ⟨p, hp, ep⟩ := List.mem_map.mp (mem_zip_self hx).2
      obtain ⟨p', hp', ep'⟩ := List.mem_map.mp (mem_zip_self hy).2
      rw [← ep, ← ep', prOf_at tups hp, prOf_at tups hp'] at hQ'
      rw [← ep, ← ep']
      obtain ⟨t1, t2, a1⟩ := tups p hp
      obtain ⟨u1, u2, a2⟩ := tups p' hp'
      exact pair_lt hp hp' a1 a2 hQ'
  · obtain ⟨po, _⟩ := TS.out_rank o1' o2 o3
    obtain ⟨N2, pN2, eN2⟩ := perm_lift (fun p : PrT => Value.ref p.1) po N rfl
    obtain ⟨eF, heF⟩ := PyProof.Rows.sortedHeap_at (vs := N.map fun p : PrT => Value.ref p.1) (out := out) hob
    have kF : ∀ c u, s.heap.get? c = some u → (sortedHeap h2 s1.heap.objs.size (N.map fun p : PrT => Value.ref p.1) out).get? c = some u := fun c u e => (PyProof.Rows.sortedHeap_old (ne0 c u e) (lt0 c u e)).trans (kb c u e)
    have l2 : (N2.map fun p : PrT => V.ref p.1).length ≤ sizeLine := by rw [List.length_map, pN2.length_eq, sizeLine_eq]; omega
    refine wpAny_pure ⟨_, rfl, .ref s1.heap.objs.size, upd H s1.heap.objs.size (.lst (N2.map fun p => V.ref p.1)), I.call' (ch := []) o1 (Un.laid kF hz hn) (I.hok.laid kF hz ⟨l2, out.toList, eF, by rw [← eN2]; exact vals_maps (fun p : PrT => V.ref p.1) (fun p : PrT => Value.ref p.1) N2 fun _ _ => rfl, heF⟩) (by
      have hb := I.bare
      rw [← g1] at hb
      exact hb) (fun _ z => nomatch z), rfl, q N2 _ (pN2.trans pN) nd few hn⟩
theorem call_setPrK (K : PySem.W.Frag) (w : World) (hK : X.K = K) (hw : X.w = w) (hc : X.calm = true) (hu : X.A.units + 64 < cLine) : CallR X (.type "set") (rSetPr K w) := by
  subst hK hw
  exact call_setPr hc hu
theorem call_sortPrK (w : World) (hw : X.w = w) (hc : X.calm = true) : CallR X (.builtin "sorted") (rSortPr w) := by
  subst hw
  exact call_sortPr hc
end
end My
namespace My
open PySem L2
/-! _law_pairs -/
theorem room64 {k : Nat} {A : Around} (r : Room k A) : A.units + 64 < cLine := by
  have := r.un
  omega
/-- pairs of names, each standing under the other -/
def UpPr (H : Hp) (ks : List (Str × Decl)) (p : PrT) : Prop := PrAt H p ∧ p.2.1 ∈ ks.map (·.1) ∧ Up ks p.2.1 p.2.2
theorem UpPr.mono {H H' : Hp} {ks : List (Str × Decl)} {p : PrT} (t : Tups H H') (h : UpPr H ks p) : UpPr H' ks p := ⟨t _ _ h.1, h.2⟩
/-- all pairs of two unlike ones -/
def twos (ns : List Str) : List (Str × Str) := (ns.flatMap fun a => ns.map fun b => (a, b)).filter fun p => decide (p.1 ≠ p.2)
theorem mem_twos {ns : List Str} {a b : Str} : (a, b) ∈ twos ns ↔ a ∈ ns ∧ b ∈ ns ∧ a ≠ b := by
  unfold twos
  rw [List.mem_filter, List.mem_flatMap]
  constructor
  · rintro ⟨⟨x, hx, hy⟩, ne⟩
    obtain ⟨y, hy, e⟩ := List.mem_map.mp hy
    cases e
    exact ⟨hx, hy, of_decide_eq_true ne⟩
  · rintro ⟨ha, hb, ne⟩
    exact ⟨⟨a, ha, List.mem_map.mpr ⟨b, hb, rfl⟩⟩, decide_eq_true ne⟩
theorem len_prod (ms : List Str) : ∀ ns : List Str, (ns.flatMap fun a => ms.map fun b => (a, b)).length = ns.length * ms.length
  | [] => by simp
  | n :: ns => by
    rw [List.flatMap_cons, List.length_append, len_prod ms ns, List.length_map, List.length_cons, Nat.add_mul]
    omega
theorem twos_few {ns : List Str} (h : ns.length ≤ 8) : (twos ns).length < 64 := by
  have e := len_prod ns ns
  cases ns with
  | nil => decide
  | cons n ns =>
    have : (twos (n :: ns)).length < ((n :: ns).flatMap fun a => (n :: ns).map fun b => (a, b)).length := by
      unfold twos
      rw [List.length_filter_lt_length_iff_exists]
      exact ⟨(n, n), List.mem_flatMap.mpr ⟨n, .head _, List.mem_map.mpr ⟨n, .head _, rfl⟩⟩, by simp⟩
    have := Nat.mul_le_mul h h
    omega
theorem UpPr.two {H : Hp} {ks : List (Str × Decl)} (ok : KindsOk ks) {p : PrT} (h : UpPr H ks p) : p.2 ∈ twos (ks.map (·.1)) := by
  refine mem_twos.mpr ⟨h.2.1, up_in ok h.2.2, fun e => ?_⟩
  have u := h.2.2
  rw [e] at u
  exact up_irr ok u
def spPairs : Sp := fun vs H Q _ => ∃ (l : Addr) (ws : List V) (ks : List (Str × Decl)), vs = [.ref l] ∧ H l = some (.lst ws) ∧ Paired (ItemAt H) ws ks ∧ KindsOk ks ∧ ks.length ≤ 8 ∧
  ∀ (r : Addr) (ps : List PrT) (H' : Hp), Same H H' → H r = none → H' r = some (.lst (ps.map fun p => V.ref p.1)) → (∀ p ∈ ps, UpPr H' ks p) → ps.length ≤ 200 → Q (.ref r) H'
def Ppa (l fl : Addr) (ks : List (Str × Decl)) (H0 : Hp) (i : Nat) (σ : St) (H : Hp) : Prop :=
  ∃ (ps : List PrT) (u2 u3 u4 u5 u6 u7 u8 u9 : Option V), σ = [some (.ref l), some (.ref fl), u2, u3, u4, u5, u6, u7, u8, u9] ∧ Same H0 H ∧ H fl = some (.lst (ps.map fun p => V.ref p.1)) ∧ (∀ p ∈ ps, UpPr H ks p) ∧ ps.length ≤ 20 * i
def Pna (H0 : Hp) (D : Addr) (x : Str) (up : List Str) (i : Nat) (H : Hp) : Prop := Same H0 H ∧ ∃ ps : List PrT, H D = some (.lst (ps.map fun p => V.ref p.1)) ∧ (∀ p ∈ ps, PrAt H p) ∧ ps.map (·.2) = (up.take i).map fun u => (x, u)
def Ppt (l : Addr) (ks : List (Str × Decl)) (H0 : Hp) (_i : Nat) (σ : St) (H : Hp) : Prop :=
  ∃ (fl : Addr) (ps : List PrT) (u2 u3 u4 u5 u6 u7 u8 u9 : Option V), σ = [some (.ref l), some (.ref fl), u2, u3, u4, u5, u6, u7, u8, u9] ∧ Same H0 H ∧ H0 fl = none ∧ H fl = some (.lst (ps.map fun p => V.ref p.1)) ∧ (∀ p ∈ ps, UpPr H ks p) ∧ ps.length ≤ 200
def Ppm (l fl ml : Addr) (ks : List (Str × Decl)) (ps : List PrT) (H0 : Hp) (i : Nat) (σ : St) (H : Hp) : Prop :=
  ∃ (ms : List PrT) (u2 u3 u4 u5 u7 u8 u9 : Option V), σ = [some (.ref l), some (.ref fl), u2, u3, u4, u5, some (.ref ml), u7, u8, u9] ∧ Same H0 H ∧ H fl = some (.lst (ps.map fun p => V.ref p.1)) ∧ (∀ p ∈ ps, UpPr H ks p) ∧ H ml = some (.lst (ms.map fun p => V.ref p.1)) ∧ (∀ p ∈ ms, UpPr H ks p) ∧ ms.length ≤ 200 * i
def Pnb (H0 : Hp) (D : Addr) (ks : List (Str × Decl)) (i : Nat) (H : Hp) : Prop := Same H0 H ∧ ∃ ms : List PrT, H D = some (.lst (ms.map fun p => V.ref p.1)) ∧ (∀ p ∈ ms, UpPr H ks p) ∧ ms.length ≤ i
section
variable {P : Program} {w : World} {K : PySem.W.Frag} {mg : Str → Option Value} {base : Heap} {f : Addr} {fd : FuncData}
set_option maxHeartbeats 4000000 in
theorem ok_pairs (B : Bn mg) (F : Fun K "_law_pairs" "_law_pairs" s__law_pairs f fd) : FnOk P w K mg base CX0 1 f fd ["kinds"] spPairs := by
  refine F.ok sc__law_pairs (fun vs H Q E h => ?_) (fun cdv A outer s H vs Q E hr h => ?_)
  · obtain ⟨l, ws, ks, rfl, _⟩ := h
    rfl
  obtain ⟨l, ws, ks, rfl, hl, pk, ok, l8, q⟩ := h
  have lws := Paired.length pk
  refine ⟨_, (pss_cons (ps_set (i := 1) sc__law_pairs.nd rfl (Or.inl rfl) (pe_lst pa_nil))
    (pss_cons (ps_for PassesOwn.never rfl (piL K rfl (pv 0)) (pg_tup rfl (pgs_cons (pg_name (i := 3) sc__law_pairs.nd rfl (Or.inr rfl)) (pgs_cons (pg_name (i := 4) sc__law_pairs.nd rfl (Or.inl rfl)) pgs_nil))) (pss_cons (ps_set (i := 5) sc__law_pairs.nd rfl (Or.inl rfl) (pe_ifExp (pt_cmpR op_eq (pe_ix (ixT K rfl) (pv 4) pe_int (fun _ _ => rfl)) pe_str (nomark _)) (pe_lst pa_nil) (pe_callTy (listOf K rfl) (by rfl) B.b_list (by decide +kernel) (pa_cons (pe_ix (ixT K rfl) (pv 4) (pe_un un_neg pe_int) (fun _ _ => rfl)) pa_nil))))
    (pss_one (ps_expr (pe_bm PySem.F.plainAttrs_list PySem.F.slot_list_extend PySem.F.type_list_extend mt_extend (pv 1) (pa_cons (pe_lc (own := [("one", 7)]) (g := (gName 7)) rfl sc__law_pairs.nd (piL K rfl (pv 5)) (blkOk_by (N := ["kinds", "found", "turn", "name", "declaration", "above", "more", "one", "lower", "other"]) (sc := defScope s__law_pairs) (by decide +kernel)) (fun _ _ _ _ _ => (pg_name (i := 7) sc__law_pairs.nd rfl (Or.inl rfl) (hf := Or.inr rfl))) (fun _ _ _ _ _ => pts_nil) (fun _ _ _ _ _ => (pe_tup (pa_cons (pv 3) (pa_cons (pv 7) pa_nil))))) pa_nil))))))
    (pss_cons (ps_for PassesOwn.never rfl (pi_range1 rfl B.b_range (pa_cons (pe_callB (lenSeq K rfl) (by rfl) B.b_len PySem.boot_len (pa_cons (pv 0) pa_nil)) pa_nil)) (pg_name (i := 2) sc__law_pairs.nd rfl (Or.inl rfl)) (pss_cons (ps_set (i := 6) sc__law_pairs.nd rfl (Or.inl rfl) (pe_lst pa_nil))
    (pss_cons (ps_for PassesOwn.never rfl (piL K rfl (pv 1)) (pg_tup rfl (pgs_cons (pg_name (i := 3) sc__law_pairs.nd rfl (Or.inr rfl)) (pgs_cons (pg_name (i := 7) sc__law_pairs.nd rfl (Or.inr rfl)) pgs_nil))) (pss_one (ps_expr (pe_bm PySem.F.plainAttrs_list PySem.F.slot_list_extend PySem.F.type_list_extend mt_extend (pv 6) (pa_cons (pe_lc (own := [("lower", 8), ("other", 9)]) (g := (gTup K 2 (gCons (gName 8) (gCons (gName 9) gNil)))) rfl sc__law_pairs.nd (piL K rfl (pv 1)) (blkOk_by (N := ["kinds", "found", "turn", "name", "declaration", "above", "more", "one", "lower", "other"]) (sc := defScope s__law_pairs) (by decide +kernel)) (fun _ _ _ _ _ => (pg_tup rfl (pgs_cons (pg_name (i := 8) sc__law_pairs.nd rfl (Or.inl rfl) (hf := Or.inr rfl)) (pgs_cons (pg_name (i := 9) sc__law_pairs.nd rfl (Or.inl rfl) (hf := Or.inr rfl)) pgs_nil)))) (fun _ _ _ _ _ => (pts_one (pt_cmpR op_eq (pv 8) (pv 7) (nomark _)))) (fun _ _ _ _ _ => (pe_tup (pa_cons (pv 3) (pa_cons (pv 9) pa_nil))))) pa_nil)))))
    (pss_one (ps_set (i := 1) sc__law_pairs.nd rfl (Or.inl rfl) (pe_callB (call_sortPrK w rfl rfl) (by rfl) B.b_sorted (by decide +kernel) (pa_cons (pe_callTy (call_setPrK K w rfl rfl rfl (room64 hr)) (by rfl) B.b_set (by decide +kernel) (pa_cons (pe_op op_cat (pv 1) (pv 6)) pa_nil)) pa_nil)))))))
    (pss_one (ps_ret (pv 1)))))), ?_⟩
  refine ⟨Nat.zero_le _, fun fl nfl => ?_⟩
  have s1 := same_new nfl (.lst [])
  have hfl1 : (upd H fl (.lst [])) fl = some (.lst []) := upd_same
  refine ⟨_, rfl, l, rfl, ⟨_, SqL.of (s1 _ _ hl)⟩, for_list (xs := ws) (Ppa l fl ks H) ?_ ?_ ?_ ?_⟩
  · exact ⟨[], _, _, _, _, _, _, _, _, rfl, s1, hfl1, (fun p h => nomatch h), Nat.zero_le _⟩
  · rintro i σ H2 _ ⟨ps, u2, u3, u4, u5, u6, u7, u8, u9, rfl, s2, _⟩
    exact SqL.of (s2 _ _ hl)
  · rintro i x σ H2 hx ⟨ps, u2, u3, u4, u5, u6, u7, u8, u9, rfl, s2, hf2, up2, lp2⟩
    obtain ⟨k, hk, cc, dv, rfl, hcc, hdv⟩ := Paired.at pk i x hx
    have hi : i < ks.length := (List.getElem?_eq_some_iff.mp hk).1
    have hdv2 := hdv.mono (Tups.of_same s2)
    refine ⟨cc, _, rfl, SqT.of (s2 _ _ hcc), rfl, _, _, rfl, _, _, rfl, rfl, ?_⟩
    have mk : k ∈ ks := List.mem_of_getElem? hk
    have lk : look ks k.1 = some k.2 := look_at ok.once hk
    have few : k.2.up.length ≤ 20 := (ok.few _ mk).1
    clear s1 hfl1 hx
    refine seq_abs (fun σ' H' => ∃ al, σ' = [some (.ref l), some (.ref fl), u2, some (.str k.1), some dv, some (.ref al), u6, u7, u8, u9] ∧ Same H2 H' ∧ H2 al = none ∧ H' al = some (.lst (k.2.up.map V.str))) (fun σ3 H3 w3 => ?_) (fun nx hnx => ?_)
    · obtain ⟨al, rfl, s3, nal, hal⟩ := w3
      have s03 := s2.trans s3
      refine ⟨_, rfl, tyL (s3 _ _ hf2), _, rfl, al, rfl, ⟨_, SqL.of hal⟩, fun Dn nDn => lc_list (xs := k.2.up.map V.str) (Pna H3 Dn k.1 k.2.up) ?_ ?_ ?_ ?_⟩
      · exact ⟨same_new nDn _, [], upd_same, (fun p h => nomatch h), rfl⟩
      · exact fun j H4 _ p => SqL.of (p.1 _ _ hal)
      · rintro j x H4 hx ⟨s4, qs, hqs, aqs, eqs⟩
        rw [List.getElem?_map] at hx
        obtain ⟨o, ho, rfl⟩ := Option.map_eq_some_iff.mp hx
        refine ⟨rfl, _, rfl, _, rfl, (by show 2 ≤ sizeLine; decide), fun t2 nt2 => ?_⟩
        have s5 := same_new nt2 (.tup [V.str k.1, V.str o])
        have ht2 : (upd H4 t2 (.tup [V.str k.1, V.str o])) t2 = some (.tup [V.str k.1, V.str o]) := upd_same
        generalize upd H4 t2 (.tup [V.str k.1, V.str o]) = H5 at s5 ht2
        have T6 : Tups H5 (upd H5 Dn (.lst (qs.map (fun p : PrT => V.ref p.1) ++ [V.ref t2]))) := Tups.upd (s5 _ _ hqs)
        have lq : qs.length ≤ 20 := by
          have := congrArg List.length eqs
          rw [List.length_map, List.length_map] at this
          have := List.length_take_le' j k.2.up
          omega
        refine ⟨_, s5 _ _ hqs, line5 (by rw [List.length_map]; omega), Same.atNew (s4.trans s5) nDn, qs ++ [(t2, (k.1, o))], ?_, fun p hp => ?_, ?_⟩
        · rw [upd_same, List.map_append]
          rfl
        · rcases List.mem_append.mp hp with h | h
          · exact T6 _ _ (s5 _ _ (aqs p h))
          · rw [List.mem_singleton.mp h]
            exact T6 _ _ ht2
        · rw [List.map_append, eqs, ← take_next ho, List.map_append]
          rfl
      rintro H4 ⟨s4, qs, hqs, aqs, eqs⟩
      rw [List.length_map, List.take_length] at eqs
      have lq : qs.length ≤ 20 := by
        have := congrArg List.length eqs
        rw [List.length_map, List.length_map] at this
        omega
      have hf4 := s4 _ _ (s3 _ _ hf2)
      refine ⟨fl, Dn, _, _, rfl, rfl, hf4, hqs, Nat.le_of_lt (line5 (by rw [List.length_map, List.length_map]; omega)), ?_⟩
      have T5 : Tups H4 (upd H4 fl (.lst (ps.map (fun p : PrT => V.ref p.1) ++ qs.map fun p : PrT => V.ref p.1))) := Tups.upd hf4
      have T25 : Tups H2 (upd H4 fl (.lst (ps.map (fun p : PrT => V.ref p.1) ++ qs.map fun p : PrT => V.ref p.1))) := ((Tups.of_same s3).trans (Tups.of_same s4)).trans T5
      refine ⟨ps ++ qs, _, _, _, _, _, _, _, _, rfl, Same.atNew (s03.trans s4) nfl, by rw [upd_same, List.map_append], fun p hp => ?_, by rw [List.length_append]; omega⟩
      rcases List.mem_append.mp hp with h | h
      · exact (up2 p h).mono T25
      · have m : p.2 ∈ k.2.up.map fun u => (k.1, u) := by rw [← eqs]; exact List.mem_map.mpr ⟨p, h, rfl⟩
        obtain ⟨u, hu, e⟩ := List.mem_map.mp m
        refine ⟨T5 _ _ (aqs p h), ?_, ?_⟩
        · rw [← e]; exact List.mem_map.mpr ⟨k, mk, rfl⟩
        · rw [← e]; exact .one ⟨k.2, lk, hu⟩
    · obtain ⟨kn, kd⟩ := k
      dsimp only at hdv2 lk few hnx ⊢
      clear hdv
      cases hdv2 with
      | @record a b c fvs fs up ha hb hf hc =>
        refine ⟨_, rfl, _, _, _, _, rfl, rfl, SqT.of ha, at_of (j := 0) rfl rfl, rfl, _, rfl, ifF rfl ?_⟩
        refine ⟨_, rfl, _, rfl, _, _, _, _, rfl, rfl, SqT.of ha, rfl, c, _, rfl, .inr (SqT.of hc), fun al nal => ?_⟩
        exact hnx _ _ ⟨al, rfl, same_new nal _, nal, upd_same⟩
      | @choice a b cvs cs sh ha hb hf =>
        refine ⟨_, rfl, _, _, _, _, rfl, rfl, SqT.of ha, at_of (j := 0) rfl rfl, rfl, _, rfl, ifT rfl ?_⟩
        refine ⟨Nat.zero_le _, fun al nal => ?_⟩
        exact hnx _ _ ⟨al, rfl, same_new nal _, nal, upd_same⟩
      | @hidden a c up ha hc =>
        refine ⟨_, rfl, _, _, _, _, rfl, rfl, SqT.of ha, at_of (j := 0) rfl rfl, rfl, _, rfl, ifF rfl ?_⟩
        refine ⟨_, rfl, _, rfl, _, _, _, _, rfl, rfl, SqT.of ha, rfl, c, _, rfl, .inr (SqT.of hc), fun al nal => ?_⟩
        exact hnx _ _ ⟨al, rfl, same_new nal _, nal, upd_same⟩
  · rintro σ H2 ⟨ps, u2, u3, u4, u5, u6, u7, u8, u9, rfl, s2, hf2, up2, lp2⟩
    have hl2 := s2 _ _ hl
    refine ⟨_, rfl, l, _, rfl, .inl (SqL.of hl2), _, rfl, by omega, by omega, for_range (lo := 0) (n := (ws.length : Int).toNat) (Ppt l ks H) ?_ ?_ ?_⟩
    · exact ⟨fl, ps, _, _, _, _, _, _, _, _, rfl, s2, nfl, hf2, up2, by omega⟩
    · rintro i σ H3 hi ⟨fl3, ps3, v2, v3, v4, v5, v6, v7, v8, v9, rfl, s3, n3, hf3, up3, lp3⟩
      refine ⟨Nat.zero_le _, fun ml nml => ?_⟩
      have s4 := same_new nml (.lst [])
      have n0 : ∀ b {H' : Hp}, H' b = none → Same H H' → H b = none := fun b H' z sm => by
        cases e : H b with
        | none => rfl
        | some o => rw [sm _ _ e] at z; cases z
      have n4 : H ml = none := n0 ml nml s3
      have nfm : fl3 ≠ ml := ne_of_none hf3 nml
      refine ⟨_, rfl, fl3, rfl, ⟨_, SqL.of (s4 _ _ hf3)⟩, for_list (xs := ps3.map fun p => V.ref p.1) (Ppm l fl3 ml ks ps3 H) ?_ ?_ ?_ ?_⟩
      · exact ⟨[], _, _, _, _, _, _, _, rfl, s3.trans s4, s4 _ _ hf3, fun p hp => (up3 p hp).mono (Tups.of_same s4), upd_same, (fun p h => nomatch h), Nat.zero_le _⟩
      · rintro j σ H5 _ ⟨ms, w2, w3, w4, w5, w7, w8, w9, rfl, s5, hf5, _⟩
        exact SqL.of hf5
      · rintro j x σ H5 hx ⟨ms, w2, w3, w4, w5, w7, w8, w9, rfl, s5, hf5, up5, hm5, um5, lm5⟩
        have hj : j < ps3.length := by
          have := (List.getElem?_eq_some_iff.mp hx).1
          rw [List.length_map] at this
          exact this
        rw [List.getElem?_map] at hx
        obtain ⟨⟨pa, px, py⟩, hp, rfl⟩ := Option.map_eq_some_iff.mp hx
        obtain ⟨ap, mpx, upx⟩ := up5 _ (List.mem_of_getElem? hp)
        have ap : H5 pa = some (.tup [.str px, .str py]) := ap
        refine ⟨pa, _, rfl, SqT.of ap, rfl, _, _, rfl, _, _, rfl, rfl, ?_⟩
        refine ⟨_, rfl, tyL hm5, _, rfl, fl3, rfl, ⟨_, SqL.of hf5⟩, fun Dn nDn => lc_list (xs := ps3.map fun p => V.ref p.1) (Pnb H5 Dn ks) ?_ ?_ ?_ ?_⟩
        · exact ⟨same_new nDn _, [], upd_same, (fun p h => nomatch h), Nat.zero_le _⟩
        · exact fun j H6 _ p => SqL.of (p.1 _ _ hf5)
        · rintro n x H6 hx ⟨s6, qs, hqs, uqs, lqs⟩
          have hn : n < ps3.length := by
            have := (List.getElem?_eq_some_iff.mp hx).1
            rw [List.length_map] at this
            exact this
          rw [List.getElem?_map] at hx
          obtain ⟨⟨qa, qx, qy⟩, hp2, rfl⟩ := Option.map_eq_some_iff.mp hx
          obtain ⟨aq, mqx, uqx⟩ := up5 _ (List.mem_of_getElem? hp2)
          have aq : H5 qa = some (.tup [.str qx, .str qy]) := aq
          have e1 : decide (V.str qx = V.str py) = decide (qx = py) := decide_eq_decide.mpr ⟨fun z => V.str.inj z, fun z => by rw [z]⟩
          refine ⟨qa, _, rfl, SqT.of (s6 _ _ aq), rfl, _, _, rfl, _, _, rfl, rfl, rfl, _, rfl, _, rfl, rfl, _, rfl, ?_⟩
          rw [e1]
          by_cases e : qx = py
          · rw [decide_eq_true e]
            refine iteT ⟨_, rfl, _, rfl, (by show 2 ≤ sizeLine; decide), fun t2 nt2 => ?_⟩
            have s7 := same_new nt2 (.tup [V.str px, V.str qy])
            have ht2 : (upd H6 t2 (.tup [V.str px, V.str qy])) t2 = some (.tup [V.str px, V.str qy]) := upd_same
            generalize upd H6 t2 (.tup [V.str px, V.str qy]) = H7 at s7 ht2
            have T8 : Tups H7 (upd H7 Dn (.lst (qs.map (fun p : PrT => V.ref p.1) ++ [V.ref t2]))) := Tups.upd (s7 _ _ hqs)
            refine ⟨_, s7 _ _ hqs, line5 (by rw [List.length_map]; omega), Same.atNew (s6.trans s7) nDn, qs ++ [(t2, (px, qy))], ?_, fun p hp => ?_, by rw [List.length_append, List.length_singleton]; omega⟩
            · rw [upd_same, List.map_append]
              rfl
            · rcases List.mem_append.mp hp with h | h
              · exact (uqs p h).mono ((Tups.of_same s7).trans T8)
              · rw [List.mem_singleton.mp h]
                exact ⟨T8 _ _ ht2, mpx, upx.trans (e ▸ uqx)⟩
          · rw [decide_eq_false e]
            exact iteF ⟨s6, qs, hqs, uqs, by omega⟩
        rintro H6 ⟨s6, qs, hqs, uqs, lqs⟩
        rw [List.length_map] at lqs
        have hm6 := s6 _ _ hm5
        refine ⟨ml, Dn, _, _, rfl, rfl, hm6, hqs, Nat.le_of_lt (line5 (by rw [List.length_map, List.length_map]; omega)), ?_⟩
        have T7 : Tups H6 (upd H6 ml (.lst (ms.map (fun p : PrT => V.ref p.1) ++ qs.map fun p : PrT => V.ref p.1))) := Tups.upd hm6
        have T57 := (Tups.of_same s6).trans T7
        refine ⟨ms ++ qs, _, _, _, _, _, _, _, rfl, Same.atNew (s5.trans s6) n4, ?_, fun p hp => (up5 p hp).mono T57, by rw [upd_same, List.map_append], fun p hp => ?_, by rw [List.length_append]; omega⟩
        · rw [upd_ne nfm]
          exact s6 _ _ hf5
        · rcases List.mem_append.mp hp with h | h
          · exact (um5 p h).mono T57
          · exact (uqs p h).mono T7
      · rintro σ H5 ⟨ms, w2, w3, w4, w5, w7, w8, w9, rfl, s5, hf5, up5, hm5, um5, lm5⟩
        rw [List.length_map] at lm5
        have lm : ms.length ≤ 40000 := by
          have := Nat.mul_le_mul_left 200 lp3
          omega
        refine ⟨_, rfl, _, rfl, fl3, ml, _, _, rfl, rfl, hf5, hm5, Nat.le_of_lt (line5 (by rw [List.length_map, List.length_map]; omega)), fun cl ncl => ?_⟩
        have s6 := same_new ncl (.lst (ps3.map (fun p : PrT => V.ref p.1) ++ ms.map fun p : PrT => V.ref p.1))
        have all6 : ∀ p ∈ ps3 ++ ms, UpPr H5 ks p := fun p hp => (List.mem_append.mp hp).elim (up5 p) (um5 p)
        refine ⟨cl, ps3 ++ ms, twos (ks.map (·.1)), rfl, SqL.of (by rw [upd_same, List.map_append]), fun p hp => ((all6 p hp).mono (Tups.of_same s6)).1, twos_few (by rw [List.length_map]; exact l8), fun p hp => (all6 p hp).two ok, fun a M na sub cov => ?_⟩
        generalize upd H5 cl (.lst (ps3.map (fun p : PrT => V.ref p.1) ++ ms.map fun p : PrT => V.ref p.1)) = H6 at s6 na ⊢
        have s7 := same_new na (SnO w a M)
        have h67 := (Tups.of_same s6).trans (Tups.of_same s7)
        refine ⟨a, M, rfl, upd_same, fun p hp => ((all6 p (sub p hp)).mono h67).1, fun N b pN nd few nb => ?_⟩
        generalize upd H6 a (SnO w a M) = H7 at s7 h67 nb ⊢
        have s8 := same_new nb (.lst (N.map fun p : PrT => V.ref p.1))
        have s08 := ((s5.trans s6).trans s7).trans s8
        refine ⟨b, N, _, _, _, _, _, _, _, _, rfl, s08, n0 b nb (((s5.trans s6).trans s7)), upd_same, fun p hp => (all6 p (sub p (pN.mem_iff.mp hp))).mono (h67.trans (Tups.of_same s8)), ?_⟩
        have := pN.length_eq
        omega
    · rintro σ H3 ⟨fl3, ps3, v2, v3, v4, v5, v6, v7, v8, v9, rfl, s3, n3, hf3, up3, lp3⟩
      exact ⟨_, rfl, q fl3 ps3 H3 s3 n3 hf3 up3 lp3⟩
end
end My
namespace My
open PySem PySem.Spec PyProof.Rows L2
/-! xs == [] of a list of whatever -/
def rEqNil (K : PySem.W.Frag) : R2 := fun x y H Q => ∃ (a b : Addr) (xs : List V), x = .ref a ∧ y = .ref b ∧ SqL K H a xs ∧ SqL K H b [] ∧ Q (.bl xs.isEmpty) H
section
variable {X : Cx}
theorem op_eqNil (hu : X.A.units < cLine) : OpR X (compareOp .Eq) (rEqNil X.K) := by
  intro pins s σ H x y v u Q I rx ry h
  obtain ⟨a, b, xs, rfl, rfl, ha, hb, q⟩ := h
  cases rx; cases ry
  obtain ⟨its, rv, pl, _⟩ := I.list ha
  obtain ⟨its2, rv2, pl2, _⟩ := I.list hb
  cases rv2
  have l1 := rv.length
  cases xs with
  | nil =>
    cases rv
    exact SeqAt.RcAt.lists (e := fun _ => true) pl.isList pl2.isList rfl hu (fun j h1 _ => absurd h1 (Nat.not_lt_zero _)) _ _ _ _ ⟨.bl true, H, I, rfl, q⟩
  | cons z zs => exact SeqAt.RcAt.lists_lengths pl.isList pl2.isList (by rw [List.size_toArray, ← l1]; rfl) hu _ _ _ _ ⟨.bl false, H, I, rfl, q⟩
theorem eqNil (K : PySem.W.Frag) (hK : X.K = K) (hu : X.A.units + 64 < cLine) : OpR X (compareOp .Eq) (rEqNil K) := by
  subst hK
  exact op_eqNil (by omega)
end
end My
namespace My
open PySem PySem.Spec PyProof.Rows L2
/-! xs != [] of a list of whatever -/
def rNeNil (K : PySem.W.Frag) : R2 := fun x y H Q => ∃ (a b : Addr) (xs : List V), x = .ref a ∧ y = .ref b ∧ SqL K H a xs ∧ SqL K H b [] ∧ Q (.bl (!xs.isEmpty)) H
section
variable {X : Cx}
theorem op_neNil (hu : X.A.units < cLine) : OpR X (compareOp .NotEq) (rNeNil X.K) := by
  intro pins s σ H x y v u Q I rx ry h
  obtain ⟨a, b, xs, rfl, rfl, ha, hb, q⟩ := h
  cases rx; cases ry
  obtain ⟨its, rv, pl, _⟩ := I.list ha
  obtain ⟨its2, rv2, pl2, _⟩ := I.list hb
  cases rv2
  have l1 := rv.length
  cases xs with
  | nil =>
    cases rv
    exact SeqAt.RcNeAt.lists (e := fun _ => true) pl.isList pl2.isList rfl hu (fun j h1 _ => absurd h1 (Nat.not_lt_zero _)) _ _ _ _ ⟨.bl false, H, I, rfl, q⟩
  | cons z zs => exact SeqAt.RcNeAt.lists_lengths pl.isList pl2.isList (by rw [List.size_toArray, ← l1]; rfl) hu _ _ _ _ ⟨.bl true, H, I, rfl, q⟩
theorem neNil (K : PySem.W.Frag) (hK : X.K = K) (hu : X.A.units + 64 < cLine) : OpR X (compareOp .NotEq) (rNeNil K) := by
  subst hK
  exact op_neNil (by omega)
end
end My
namespace My
open PySem L2
/-! _law_family -/
structure FamK (nms : List Str) (k : Kd) : Prop where
  flat : k.flat = true
  deep : k.depth ≤ 3
  few : k.size ≤ 3
  names : ∀ x ∈ k.names, x ∈ nms
theorem FamK.less {nms : List Str} {prs : List (Str × Str)} (hp : ∀ a b, (a, b) ∈ prs → a ∈ nms) {k l : Kd} (h : Less prs k l) (g : FamK nms k) : FamK nms l := by
  obtain ⟨a, _, c, d, e⟩ := h.good hp
  exact ⟨a g.flat, by rw [c]; exact g.deep, by rw [d]; exact g.few, e g.names⟩
/-- pairs of names of these -/
def NmPr (H : Hp) (nms : List Str) (p : PrT) : Prop := PrAt H p ∧ p.2.1 ∈ nms ∧ p.2.2 ∈ nms
theorem NmPr.mono {H H' : Hp} {nms : List Str} {p : PrT} (t : Tups H H') (h : NmPr H nms p) : NmPr H' nms p := ⟨t _ _ h.1, h.2⟩
theorem paired_pr {H : Hp} : ∀ {ps : List PrT}, (∀ p ∈ ps, PrAt H p) → Paired (PairS H) (ps.map fun p => V.ref p.1) (ps.map (·.2))
  | [], _ => .nil
  | p :: _, h => .cons ⟨p.1, rfl, h p (.head _)⟩ (paired_pr fun q hq => h q (.tail _ hq))
def spFam : Sp := fun vs H Q _ => ∃ (d g nl ul : Addr) (n : Int) (nms : List Str) (ps : List PrT), vs = [.ref d, .ref nl, .ref ul] ∧ Tray H d g n ∧ n ≤ 700000 ∧ nl ≠ d ∧ nl ≠ g ∧ ul ≠ d ∧ ul ≠ g ∧ H nl = some (.lst (nms.map V.str)) ∧ nms.length ≤ 1000 ∧ (∀ x ∈ nms, LtS x) ∧
  H ul = some (.lst (ps.map fun p => V.ref p.1)) ∧ (∀ p ∈ ps, NmPr H nms p) ∧ ps.length ≤ 200 ∧
  ∀ (r : Addr) (ws : List V) (ks : List Kd) (H' : Hp), H r = none → H' r = some (.lst ws) → Paired (KdAt H') ws ks → (∀ k ∈ ks, FamK nms k) → ws.length ≤ 8 → Tray H' d g (n + 200) → But d g H H' → Q (.ref r) H'
def Pfam (d g nl ul fl : Addr) (n : Int) (nms : List Str) (ps : List PrT) (H0 : Hp) (i : Nat) (σ : St) (H : Hp) : Prop :=
  ∃ (ws : List V) (ks : List Kd) (u4 u5 u6 u7 : Option V), σ = [some (.ref d), some (.ref nl), some (.ref ul), some (.ref fl), u4, u5, u6, u7] ∧ But d g H0 H ∧ H nl = some (.lst (nms.map V.str)) ∧ H ul = some (.lst (ps.map fun p => V.ref p.1)) ∧ (∀ p ∈ ps, NmPr H nms p) ∧
    H fl = some (.lst ws) ∧ Paired (KdAt H) ws ks ∧ (∀ k ∈ ks, FamK nms k) ∧ ws.length = i ∧ Tray H d g (n + 20 * (i : Int))
/-- what a turn has found -/
def Pone (d g nl ul fl : Addr) (n : Int) (nms : List Str) (ps : List PrT) (ws : List V) (ks : List Kd) (H0 : Hp) (σ : St) (H : Hp) : Prop :=
  ∃ (v : V) (k : Kd) (u4 u6 u7 : Option V), σ = [some (.ref d), some (.ref nl), some (.ref ul), some (.ref fl), u4, some v, u6, u7] ∧ But d g H0 H ∧ H nl = some (.lst (nms.map V.str)) ∧ H ul = some (.lst (ps.map fun p => V.ref p.1)) ∧ (∀ p ∈ ps, NmPr H nms p) ∧
    H fl = some (.lst ws) ∧ Paired (KdAt H) ws ks ∧ KdAt H v k ∧ FamK nms k ∧ Tray H d g n
def Pflip (H0 : Hp) (D : Addr) (ps : List PrT) (i : Nat) (H : Hp) : Prop := Same H0 H ∧ ∃ qs : List PrT, H D = some (.lst (qs.map fun p => V.ref p.1)) ∧ (∀ p ∈ qs, PrAt H p) ∧ qs.map (·.2) = (ps.take i).map fun p => (p.2.2, p.2.1)
section
variable {P : Program} {w : World} {K : PySem.W.Frag} {mg : Str → Option Value} {base : Heap} {f : Addr} {fd : FuncData}
set_option maxHeartbeats 4000000 in
theorem ok_family (B : Bn mg) (F : Fun K "_law_family" "_law_family" s__law_family f fd) (c__law_draw : Cal P w K mg base "_law_draw" 1 ["tray", "many"] spDraw) (c__law_flat_kind : Cal P w K mg base "_law_flat_kind" 5 ["tray", "names", "deep"] (spFlat 3))
    (c__law_lesser : Cal P w K mg base "_law_lesser" 5 ["tray", "kind", "under"] (spLess 3)) : FnOk P w K mg base CX0 6 f fd ["tray", "names", "under"] spFam := by
  refine F.ok sc__law_family (fun vs H Q E h => ?_) (fun cdv A outer s H vs Q E hr h => ?_)
  · obtain ⟨d, g, nl, ul, n, nms, ps, rfl, _⟩ := h
    rfl
  obtain ⟨d, g, nl, ul, n, nms, ps, rfl, D, hn, n1, n2, n3, n4, hnl, ln, lt, hul, hps, lps, q⟩ := h
  refine ⟨_, (pss_cons (ps_set (i := 3) sc__law_family.nd rfl (Or.inl rfl) (pe_lst pa_nil))
    (pss_cons (ps_for PassesOwn.never rfl (pi_range1 rfl B.b_range (pa_cons pe_int pa_nil)) (pg_name (i := 4) sc__law_family.nd rfl (Or.inl rfl)) (pss_cons (ps_set (i := 5) sc__law_family.nd rfl (Or.inl rfl) (pc c__law_flat_kind (hr.mono (by first | decide | omega)) (pa_cons (pv 0) (pa_cons (pv 1) (pa_cons pe_int pa_nil)))))
    (pss_cons (ps_if (PW.pt (pw_and (pt_cmpR (neNil K rfl hr.units) (pv 3) (pe_lst pa_nil) (nomark _)) (pw_and1 (pt_cmpR op_gt (pc c__law_draw (hr.mono (by first | decide | omega)) (pa_cons (pv 0) (pa_cons pe_int pa_nil))) pe_int (nomark _))))) (pss_cons (ps_set (i := 5) sc__law_family.nd rfl (Or.inl rfl) (pc c__law_lesser (hr.mono (by first | decide | omega)) (pa_cons (pv 0) (pa_cons (pe_ix (ixL K rfl) (pv 3) (pc c__law_draw (hr.mono (by first | decide | omega)) (pa_cons (pv 0) (pa_cons (pe_callB (lenSeq K rfl) (by rfl) B.b_len PySem.boot_len (pa_cons (pv 3) pa_nil)) pa_nil))) (fun _ _ => rfl)) (pa_cons (pv 2) pa_nil)))))
    (pss_one (ps_if (pt_cmpR op_eq (pc c__law_draw (hr.mono (by first | decide | omega)) (pa_cons (pv 0) (pa_cons pe_int pa_nil))) pe_int (nomark _)) (pss_one (ps_set (i := 5) sc__law_family.nd rfl (Or.inl rfl) (pc c__law_lesser (hr.mono (by first | decide | omega)) (pa_cons (pv 0) (pa_cons (pv 5) (pa_cons (pe_lc (own := [("name", 6), ("other", 7)]) (g := (gTup K 2 (gCons (gName 6) (gCons (gName 7) gNil)))) rfl sc__law_family.nd (piL K rfl (pv 2)) (blkOk_by (N := ["tray", "names", "under", "found", "k", "one", "name", "other"]) (sc := defScope s__law_family) (by decide +kernel)) (fun _ _ _ _ _ => (pg_tup rfl (pgs_cons (pg_name (i := 6) sc__law_family.nd rfl (Or.inl rfl) (hf := Or.inr rfl)) (pgs_cons (pg_name (i := 7) sc__law_family.nd rfl (Or.inl rfl) (hf := Or.inr rfl)) pgs_nil)))) (fun _ _ _ _ _ => pts_nil) (fun _ _ _ _ _ => (pe_tup (pa_cons (pv 7) (pa_cons (pv 6) pa_nil))))) pa_nil)))))) pss_nil))) pss_nil)
    (pss_one (ps_expr (pe_bm PySem.F.plainAttrs_list PySem.F.slot_list_append PySem.F.type_list_append mt_append (pv 3) (pa_cons (pv 5) pa_nil)))))))
    (pss_one (ps_ret (pv 3))))), ?_⟩
  refine ⟨Nat.zero_le _, fun fl nfl => ?_⟩
  have nefl := D.ne nfl
  have s1 := same_new nfl (.lst [])
  refine ⟨_, rfl, by decide, by decide, for_range (lo := 0) (n := (8 : Int).toNat) (Pfam d g nl ul fl n nms ps H) ?_ ?_ ?_⟩
  · exact ⟨[], [], _, _, _, _, rfl, But.of_same s1, s1 _ _ hnl, s1 _ _ hul, fun p hp => (hps p hp).mono (Tups.of_same s1), upd_same, .nil, (fun k h => nomatch h), rfl, (D.same s1).le (by simp)⟩
  · rintro i σ H2 hi ⟨ws, ks, u4, u5, u6, u7, rfl, b2, hnl2, hul2, hps2, hfl2, pk2, fk2, lw2, D2⟩
    have hi8 : i < 8 := hi
    refine ⟨_, rfl, _, rfl, d, g, nl, _, 3, nms, rfl, rfl, by decide, D2, by omega, n1, n2, hnl2, ln, lt, fun v k H3 hk fk dk sk nk D3 B3 => ?_⟩
    have T3 := D2.tups B3
    have b3 := b2.trans B3
    have hnl3 := B3 _ _ n1 n2 hnl2
    have hul3 := B3 _ _ n3 n4 hul2
    have hfl3 := B3 _ _ nefl.1 nefl.2 hfl2
    have hps3 : ∀ p ∈ ps, NmPr H3 nms p := fun p hp => (hps2 p hp).mono T3
    have pk3 := Paired.mono (fun _ _ z => KdAt.mono T3 z) pk2
    have F3 : FamK nms k := ⟨fk, dk, sk, nk⟩
    clear D2 B3 T3 b2 hnl2 hul2 hfl2 hps2 pk2
    dsimp only
    refine seq_abs (Pone d g nl ul fl (n + 20 * (i : Int) + 16) nms ps ws ks H) (fun σ4 H4 w4 => ?_) (fun nx hnx => ?_)
    · obtain ⟨v, k, w4, w6, w7, rfl, b4, hnl4, hul4, hps4, hfl4, pk4, hk4, F4, D4⟩ := w4
      refine ⟨_, rfl, tyL hfl4, _, rfl, fl, _, _, rfl, rfl, hfl4, line5 (by omega), ?_⟩
      have T5 : Tups H4 (upd H4 fl (.lst (ws ++ [v]))) := Tups.upd hfl4
      have nenl : nl ≠ fl := ne_of_none hnl nfl
      have neul : ul ≠ fl := ne_of_none hul nfl
      refine ⟨ws ++ [v], ks ++ [k], _, _, _, _, rfl, b4.atNew nfl, by rw [upd_ne nenl]; exact hnl4, by rw [upd_ne neul]; exact hul4, fun p hp => (hps4 p hp).mono T5, upd_same, pair_app (Paired.mono (fun _ _ z => KdAt.mono T5 z) pk4) (.cons (hk4.mono T5) .nil), fun k' hk' => ?_, by rw [List.length_append, lw2]; rfl, (D4.at nefl.1 nefl.2).le (by omega)⟩
      rcases List.mem_append.mp hk' with h | h
      · exact fk2 _ h
      · rw [List.mem_singleton.mp h]
        exact F4
    · have nenl : nl ≠ fl := ne_of_none hnl nfl
      refine ⟨_, rfl, Nat.zero_le _, fun tn ntn => ⟨fl, tn, ws, rfl, rfl, SqL.of (by rw [upd_ne (ne_of_none hfl3 ntn)]; exact hfl3), SqL.of upd_same, ?_⟩⟩
      have s4 := same_new ntn (.lst [])
      generalize upd H3 tn (.lst []) = H4 at s4 ⊢
      have b4 := b3.trans (But.of_same s4)
      have T4 := Tups.of_same s4
      have D4 := D3.same s4
      have end1 : Pone d g nl ul fl (n + 20 * (i : Int) + 16) nms ps ws ks H [some (.ref d), some (.ref nl), some (.ref ul), some (.ref fl), some (.int (0 + (i : Int))), some v, u6, u7] H4 :=
        ⟨v, k, _, _, _, rfl, b4, s4 _ _ hnl3, s4 _ _ hul3, fun p hp => (hps3 p hp).mono T4, s4 _ _ hfl3, Paired.mono (fun _ _ z => KdAt.mono T4 z) pk3, hk.mono T4, F3, D4.le (by omega)⟩
      cases hw : !ws.isEmpty with
      | false => exact ⟨_, rfl, iteF (iteF (hnx _ _ end1))⟩
      | true =>
        have l0 : 0 < ws.length := by
          cases ws with
          | nil => cases hw
          | cons _ _ => exact Nat.succ_pos _
        refine ⟨_, rfl, iteT ⟨_, rfl, d, g, 3, _, rfl, D4, by decide, by decide, by omega, fun m H5 m0 m3 D5 B5 => ⟨m, 0, rfl, rfl, _, rfl, ?_⟩⟩⟩
        have T5 := D4.tups B5
        have b5 := b4.trans B5
        have hnl5 := B5 _ _ n1 n2 (s4 _ _ hnl3)
        have hul5 := B5 _ _ n3 n4 (s4 _ _ hul3)
        have hfl5 := B5 _ _ nefl.1 nefl.2 (s4 _ _ hfl3)
        have hps5 : ∀ p ∈ ps, NmPr H5 nms p := fun p hp => ((hps3 p hp).mono T4).mono T5
        have pk5 := Paired.mono (fun _ _ z => (KdAt.mono T4 z).mono T5) pk3
        have hk5 := (hk.mono T4).mono T5
        clear D4 B5 T5 b4 T4 s4 hnl3 hul3 hfl3 hps3 pk3 hk end1 b3 ntn
        cases hm : decide ((0 : Int) < m) with
        | false => exact iteF (hnx _ _ ⟨v, k, _, _, _, rfl, b5, hnl5, hul5, hps5, hfl5, pk5, hk5, F3, D5.le (by omega)⟩)
        | true =>
          refine iteT ?_
          refine ⟨_, rfl, _, rfl, _, rfl, _, rfl, fl, _, rfl, .inl (SqL.of hfl5), d, g, (ws.length : Int), _, rfl, D5, by omega, by omega, by omega, fun j H6 j0 j1 D6 B6 => ?_⟩
          obtain ⟨j, rfl⟩ : ∃ j' : Nat, j = (j' : Int) := ⟨j.toNat, (Int.toNat_of_nonneg j0).symm⟩
          have hj : j < ws.length := by omega
          obtain ⟨v1, hv1⟩ : ∃ v1, ws[j]? = some v1 := ⟨_, List.getElem?_eq_getElem hj⟩
          have T6 := D5.tups B6
          have b6 := b5.trans B6
          have hnl6 := B6 _ _ n1 n2 hnl5
          have hul6 := B6 _ _ n3 n4 hul5
          have hfl6 := B6 _ _ nefl.1 nefl.2 hfl5
          have hps6 : ∀ p ∈ ps, NmPr H6 nms p := fun p hp => (hps5 p hp).mono T6
          have pk6 := Paired.mono (fun _ _ z => KdAt.mono T6 z) pk5
          clear hk5 pk5 hps5 hfl5 hul5 hnl5 b5 B6 T6 D5 F3
          obtain ⟨k1, hk1, kv1⟩ := Paired.at pk6 j v1 hv1
          have F1 := fk2 k1 (List.mem_of_getElem? hk1)
          have lpr : (ps.map (·.2)).length ≤ 10000 := by rw [List.length_map]; omega
          refine ⟨fl, ws, (j : Int), v1, rfl, rfl, SqL.of hfl6, atI_nat hv1, _, rfl, d, g, ul, _, v1, k1, _, ps.map (·.2), rfl, by decide, D6, by omega, n3, n4, kv1, Kd.plain_of_flat F1.flat, F1.deep, hul6, paired_pr fun p hp => (hps6 p hp).1, lpr, fun v2 k2 H7 hk2 less D7 B7 => ?_⟩
          have F2 : FamK nms k2 := F1.less (prs := ps.map (·.2)) (fun a b h => by
            obtain ⟨p, hp, e⟩ := List.mem_map.mp h
            have := (hps6 p hp).2.1
            rw [e] at this
            exact this) less
          have T7 := D6.tups B7
          have b7 := b6.trans B7
          have hnl7 := B7 _ _ n1 n2 hnl6
          have hul7 := B7 _ _ n3 n4 hul6
          have hfl7 := B7 _ _ nefl.1 nefl.2 hfl6
          have hps7 : ∀ p ∈ ps, NmPr H7 nms p := fun p hp => (hps6 p hp).mono T7
          have pk7 := Paired.mono (fun _ _ z => KdAt.mono T7 z) pk6
          clear pk6 hps6 hfl6 hul6 hnl6 b6 B7 T7 D6 kv1
          refine ⟨_, rfl, d, g, 2, _, rfl, D7, by decide, by decide, by omega, fun c H8 c0 c2 D8 B8 => ⟨rfl, _, rfl, ?_⟩⟩
          have T8 := D7.tups B8
          have b8 := b7.trans B8
          have hnl8 := B8 _ _ n1 n2 hnl7
          have hul8 := B8 _ _ n3 n4 hul7
          have hfl8 := B8 _ _ nefl.1 nefl.2 hfl7
          have hps8 : ∀ p ∈ ps, NmPr H8 nms p := fun p hp => (hps7 p hp).mono T8
          have pk8 := Paired.mono (fun _ _ z => KdAt.mono T8 z) pk7
          have kv8 := hk2.mono T8
          clear pk7 hps7 hfl7 hul7 hnl7 b7 B8 T8 D7 hk2
          cases hc : decide (V.int c = V.int 0) with
          | false => exact iteF (hnx _ _ ⟨v2, k2, _, _, _, rfl, b8, hnl8, hul8, hps8, hfl8, pk8, kv8, F2, D8.le (by omega)⟩)
          | true =>
            refine iteT ?_
            refine ⟨_, rfl, _, rfl, _, rfl, ul, rfl, ⟨_, SqL.of hul8⟩, fun Dn nDn => lc_list (xs := ps.map fun p => V.ref p.1) (Pflip H8 Dn ps) ?_ ?_ ?_ ?_⟩
            · exact ⟨same_new nDn _, [], upd_same, (fun p h => nomatch h), rfl⟩
            · exact fun j H9 _ p => SqL.of (p.1 _ _ hul8)
            · rintro j x H9 hx ⟨s9, qs, hqs, uqs, eqs⟩
              have hj : j < ps.length := by
                have := (List.getElem?_eq_some_iff.mp hx).1
                rw [List.length_map] at this
                exact this
              rw [List.getElem?_map] at hx
              obtain ⟨⟨pa, px, py⟩, hp, rfl⟩ := Option.map_eq_some_iff.mp hx
              have ap : H8 pa = some (.tup [.str px, .str py]) := (hps8 _ (List.mem_of_getElem? hp)).1
              refine ⟨pa, _, rfl, SqT.of (s9 _ _ ap), rfl, _, _, rfl, _, _, rfl, rfl, rfl, _, rfl, _, rfl, (by show 2 ≤ sizeLine; decide), fun t2 nt2 => ?_⟩
              have s10 := same_new nt2 (.tup [V.str py, V.str px])
              have ht2 : (upd H9 t2 (.tup [V.str py, V.str px])) t2 = some (.tup [V.str py, V.str px]) := upd_same
              generalize upd H9 t2 (.tup [V.str py, V.str px]) = H10 at s10 ht2
              have T11 : Tups H10 (upd H10 Dn (.lst (qs.map (fun p : PrT => V.ref p.1) ++ [V.ref t2]))) := Tups.upd (s10 _ _ hqs)
              have lq : qs.length ≤ ps.length := by
                have := congrArg List.length eqs
                rw [List.length_map, List.length_map] at this
                have := List.length_take_le' j ps
                omega
              refine ⟨_, s10 _ _ hqs, line5 (by rw [List.length_map]; omega), Same.atNew (s9.trans s10) nDn, qs ++ [(t2, (py, px))], ?_, fun p hp => ?_, ?_⟩
              · rw [upd_same, List.map_append]
                rfl
              · rcases List.mem_append.mp hp with h | h
                · exact T11 _ _ (s10 _ _ (uqs p h))
                · rw [List.mem_singleton.mp h]
                  exact T11 _ _ ht2
              · rw [List.map_append, eqs, ← take_next hp, List.map_append]
                rfl
            rintro H9 ⟨s9, qs, hqs, uqs, eqs⟩
            rw [List.length_map, List.take_length] at eqs
            have D9 := D8.same s9
            have neD := D8.ne nDn
            have T9 := Tups.of_same s9
            have lq : (qs.map (·.2)).length ≤ 10000 := by rw [eqs, List.length_map]; omega
            refine ⟨d, g, Dn, _, v2, k2, _, qs.map (·.2), rfl, by decide, D9, by omega, neD.1, neD.2, kv8.mono T9, Kd.plain_of_flat F2.flat, F2.deep, hqs, paired_pr uqs, lq, fun v3 k3 H10 hk3 less D10 B10 => ?_⟩
            have F3 : FamK nms k3 := F2.less (prs := qs.map (·.2)) (fun a b h => by
              rw [eqs] at h
              obtain ⟨p, hp, e⟩ := List.mem_map.mp h
              have := (hps8 p hp).2.2
              have e1 : p.2.2 = a := congrArg Prod.fst e
              rw [e1] at this
              exact this) less
            have T10 := D9.tups B10
            exact hnx _ _ ⟨v3, k3, _, _, _, rfl, (b8.trans (But.of_same s9)).trans B10, B10 _ _ n1 n2 (s9 _ _ hnl8), B10 _ _ n3 n4 (s9 _ _ hul8), fun p hp => ((hps8 p hp).mono T9).mono T10, B10 _ _ nefl.1 nefl.2 (s9 _ _ hfl8), Paired.mono (fun _ _ z => (KdAt.mono T9 z).mono T10) pk8, hk3, F3, D10.le (by omega)⟩
  · rintro σ H2 ⟨ws, ks, u4, u5, u6, u7, rfl, b2, hnl2, hul2, hps2, hfl2, pk2, fk2, lw2, D2⟩
    exact ⟨_, rfl, q fl ws ks H2 nfl hfl2 pk2 fk2 (by omega) (D2.le (by simp)) b2⟩
end
end My
namespace My
open PySem L2
/-! _law_made_of -/
theorem FamK.fine {nms : List Str} {k : Kd} (lt : ∀ x ∈ nms, LtS x) (F : FamK nms k) : k.fine := ⟨by have := F.deep; omega, by have := F.few; omega, fun x hx => (lt x (F.names x hx)).2⟩
theorem up_row {nms : List Str} {k : Kd} (lt : ∀ x ∈ nms, LtS x) (F : FamK nms k) : (Kd.row k).fine ∧ (∀ x ∈ (Kd.row k).names, x ∈ nms) := by
  have := F.deep
  have := F.few
  exact ⟨⟨by show k.depth + 1 ≤ 30; omega, by show k.size + 1 ≤ 1000; omega, fun x hx => (lt x (F.names x hx)).2⟩, F.names⟩
theorem up_given {nms : List Str} {k : Kd} (lt : ∀ x ∈ nms, LtS x) (F : FamK nms k) : (Kd.calls [] k).fine ∧ (∀ x ∈ (Kd.calls [] k).names, x ∈ nms) := by
  have := F.deep
  have := F.few
  have e : ∀ x ∈ (Kd.calls [] k).names, x ∈ nms := fun x hx => by
    simp only [Kd.names, Kd.namesL, List.nil_append] at hx
    exact F.names x hx
  exact ⟨⟨by simp [Kd.depth, Kd.depths]; omega, by simp [Kd.size, Kd.sizes]; omega, fun x hx => (lt x (e x hx)).2⟩, e⟩
theorem up_taken {nms : List Str} {k : Kd} (lt : ∀ x ∈ nms, LtS x) (F : FamK nms k) : (Kd.calls [k] .num).fine ∧ (∀ x ∈ (Kd.calls [k] .num).names, x ∈ nms) := by
  have := F.deep
  have := F.few
  have e : ∀ x ∈ (Kd.calls [k] .num).names, x ∈ nms := fun x hx => by
    simp only [Kd.names, Kd.namesL, List.append_nil] at hx
    exact F.names x hx
  exact ⟨⟨by simp [Kd.depth, Kd.depths]; omega, by simp [Kd.size, Kd.sizes]; omega, fun x hx => (lt x (e x hx)).2⟩, e⟩
theorem up_text {nms : List Str} {k : Kd} (lt : ∀ x ∈ nms, LtS x) (F : FamK nms k) : (Kd.calls [.text] k).fine ∧ (∀ x ∈ (Kd.calls [.text] k).names, x ∈ nms) := by
  have := F.deep
  have := F.few
  have e : ∀ x ∈ (Kd.calls [.text] k).names, x ∈ nms := fun x hx => by
    simp only [Kd.names, Kd.namesL, List.nil_append] at hx
    exact F.names x hx
  exact ⟨⟨by simp [Kd.depth, Kd.depths]; omega, by simp [Kd.size, Kd.sizes]; omega, fun x hx => (lt x (e x hx)).2⟩, e⟩
theorem up_answers {nms : List Str} {k : Kd} {n : Int} (lt : ∀ x ∈ nms, LtS x) (F : FamK nms k) : (Kd.answers n k).fine ∧ (∀ x ∈ (Kd.answers n k).names, x ∈ nms) := by
  have := F.deep
  have := F.few
  exact ⟨⟨by show k.depth + 1 ≤ 30; omega, by show k.size + 1 ≤ 1000; omega, fun x hx => (lt x (F.names x hx)).2⟩, F.names⟩
def spMade (K : PySem.W.Frag) (C : Addr) : Sp := fun vs H Q _ => ∃ (e : Addr) (ds : List (Str × Decl)) (es : List Door) (us : List V) (v w : V) (a b : Kd), vs = [.ref e, v, w] ∧ EdAt K C H e ds es us ∧ KdAt H v a ∧ KdAt H w b ∧ (∀ x ∈ ds.map (·.1), LtS x) ∧ FamK (ds.map (·.1)) a ∧ FamK (ds.map (·.1)) b ∧
  ∀ H', Same H H' → Q (.bl true) H'
section
variable {P : Program} {w : World} {K : PySem.W.Frag} {mg : Str → Option Value} {base : Heap} {f : Addr} {fd : FuncData} {C : Addr}
set_option maxHeartbeats 4000000 in
theorem ok_made (F : Fun K "_law_made_of" "_law_made_of" s__law_made_of f fd) (c_fits : Cal P w K mg base "fits" 7 ["edition", "given", "wanted"] (spKindFits K C)) : FnOk P w K mg base CX0 8 f fd ["own", "one", "other"] (spMade K C) := by
  refine F.ok sc__law_made_of (fun vs H Q E h => ?_) (fun cdv A outer s H vs Q E hr h => ?_)
  · obtain ⟨e, ds, es, us, v, w, a, b, rfl, _⟩ := h
    rfl
  obtain ⟨e, ds, es, us, v, w, a, b, rfl, hE, hv, hw, lt, Fa, Fb, q⟩ := h
  refine ⟨_, (pss_cons (ps_set (i := 3) sc__law_made_of.nd rfl (Or.inl rfl) (pc c_fits (hr.mono (by first | decide | omega)) (pa_cons (pv 0) (pa_cons (pv 1) (pa_cons (pv 2) pa_nil)))))
    (pss_cons (ps_if (pt_cmpR op_ne (pc c_fits (hr.mono (by first | decide | omega)) (pa_cons (pv 0) (pa_cons (pe_tup (pa_cons pe_str (pa_cons (pv 1) pa_nil))) (pa_cons (pe_tup (pa_cons pe_str (pa_cons (pv 2) pa_nil))) pa_nil)))) (pv 3) (nomark _)) (pss_one (ps_ret pe_bl)) pss_nil)
    (pss_cons (ps_if (pt_cmpR op_ne (pc c_fits (hr.mono (by first | decide | omega)) (pa_cons (pv 0) (pa_cons (pe_tup (pa_cons pe_str (pa_cons (pe_tup pa_nil) (pa_cons (pv 1) pa_nil)))) (pa_cons (pe_tup (pa_cons pe_str (pa_cons (pe_tup pa_nil) (pa_cons (pv 2) pa_nil)))) pa_nil)))) (pv 3) (nomark _)) (pss_one (ps_ret pe_bl)) pss_nil)
    (pss_cons (ps_if (pt_cmpR op_ne (pc c_fits (hr.mono (by first | decide | omega)) (pa_cons (pv 0) (pa_cons (pe_tup (pa_cons pe_str (pa_cons (pe_tup (pa_cons (pv 2) pa_nil)) (pa_cons (pe_tup (pa_cons pe_str pa_nil)) pa_nil)))) (pa_cons (pe_tup (pa_cons pe_str (pa_cons (pe_tup (pa_cons (pv 1) pa_nil)) (pa_cons (pe_tup (pa_cons pe_str pa_nil)) pa_nil)))) pa_nil)))) (pv 3) (nomark _)) (pss_one (ps_ret pe_bl)) pss_nil)
    (pss_cons (ps_if (pt_cmpR op_ne (pc c_fits (hr.mono (by first | decide | omega)) (pa_cons (pv 0) (pa_cons (pe_tup (pa_cons pe_str (pa_cons pe_int (pa_cons (pv 1) pa_nil)))) (pa_cons (pe_tup (pa_cons pe_str (pa_cons (pe_tup (pa_cons (pe_tup (pa_cons pe_str pa_nil)) pa_nil)) (pa_cons (pv 2) pa_nil)))) pa_nil)))) (pv 3) (nomark _)) (pss_one (ps_ret pe_bl)) pss_nil)
    (pss_one (ps_ret (pe_cmpR op_isBl (pc c_fits (hr.mono (by first | decide | omega)) (pa_cons (pv 0) (pa_cons (pe_tup (pa_cons pe_str (pa_cons pe_int (pa_cons (pv 1) pa_nil)))) (pa_cons (pe_tup (pa_cons pe_str (pa_cons (pe_tup (pa_cons (pe_tup (pa_cons pe_str pa_nil)) pa_nil)) (pa_cons (pv 2) pa_nil)))) pa_nil)))) pe_bl (nomark _))))))))), ?_⟩
  refine ⟨_, rfl, _, rfl, _, rfl, e, ds, es, us, v, w, a, b, rfl, hE, hv, hw, Fa.fine lt, Fb.fine lt, fun r1 H1 hr1 s1 => ?_⟩
  have f1 : r1 = true ↔ Fit (Up ds) a b := hr1.trans (fitsP_iff Fa.names Fb.names)
  have T1 := Tups.of_same s1
  have hv1 := hv.mono T1
  have hw1 := hw.mono T1
  have hE1 := hE.same s1
  clear hE hv hw T1 hr1
  -- rows
  refine ⟨_, rfl, _, rfl, (by show 2 ≤ sizeLine; decide), fun t1 nt1 => ⟨_, rfl, (by show 2 ≤ sizeLine; decide), fun t2 nt2 => ?_⟩⟩
  have a1 := same_new nt1 (.tup [.str "row", v])
  have h1 : (upd H1 t1 (.tup [.str "row", v])) t1 = some (.tup [.str "row", v]) := upd_same
  generalize upd H1 t1 (.tup [.str "row", v]) = G1 at a1 h1 nt2 ⊢
  have a2 := same_new nt2 (.tup [.str "row", w])
  have h2 : (upd G1 t2 (.tup [.str "row", w])) t2 = some (.tup [.str "row", w]) := upd_same
  generalize upd G1 t2 (.tup [.str "row", w]) = G2 at a2 h2 ⊢
  have aa := a1.trans a2
  have TA := Tups.of_same aa
  refine ⟨e, ds, es, us, _, _, .row a, .row b, rfl, hE1.same aa, .row (a2 _ _ h1) (hv1.mono TA), .row h2 (hw1.mono TA), (up_row lt Fa).1, (up_row lt Fb).1, fun r2 H2 hr2 s2 => ?_⟩
  have e2 : r2 = r1 := Bool.eq_iff_iff.mpr ((hr2.trans ((fitsP_iff (up_row lt Fa).2 (up_row lt Fb).2).trans fit_row)).trans f1.symm)
  refine ⟨_, rfl, rfl, _, rfl, iteNS (by rw [e2]) ?_⟩
  have s12 := (s1.trans aa).trans s2
  have S2 := aa.trans s2
  have hv2 := hv1.mono (Tups.of_same S2)
  have hw2 := hw1.mono (Tups.of_same S2)
  have hE2 := hE1.same S2
  clear hE1 hv1 hw1 TA aa a1 a2 h1 h2 nt1 nt2 hr2 S2 s1 s2
  -- callbacks without values
  refine ⟨_, rfl, (by show 0 ≤ sizeLine; decide), fun t1 nt1 => ⟨_, rfl, (by show 3 ≤ sizeLine; decide), fun t2 nt2 => ⟨(by show 0 ≤ sizeLine; decide), fun t3 nt3 => ⟨_, rfl, (by show 3 ≤ sizeLine; decide), fun t4 nt4 => ?_⟩⟩⟩⟩
  have a1 := same_new nt1 (.tup [])
  have h1 : (upd H2 t1 (.tup [])) t1 = some (.tup []) := upd_same
  generalize upd H2 t1 (.tup []) = G1 at a1 h1 nt2 nt3 nt4 ⊢
  have a2 := same_new nt2 (.tup [.str "calls", .ref t1, v])
  have h2 : (upd G1 t2 (.tup [.str "calls", .ref t1, v])) t2 = some (.tup [.str "calls", .ref t1, v]) := upd_same
  generalize upd G1 t2 (.tup [.str "calls", .ref t1, v]) = G2 at a2 h2 nt3 nt4 ⊢
  have a3 := same_new nt3 (.tup [])
  have h3 : (upd G2 t3 (.tup [])) t3 = some (.tup []) := upd_same
  generalize upd G2 t3 (.tup []) = G3 at a3 h3 nt4 ⊢
  have a4 := same_new nt4 (.tup [.str "calls", .ref t3, w])
  have h4 : (upd G3 t4 (.tup [.str "calls", .ref t3, w])) t4 = some (.tup [.str "calls", .ref t3, w]) := upd_same
  generalize upd G3 t4 (.tup [.str "calls", .ref t3, w]) = G4 at a4 h4 ⊢
  have aa := ((a1.trans a2).trans a3).trans a4
  have TA := Tups.of_same aa
  refine ⟨e, ds, es, us, _, _, .calls [] a, .calls [] b, rfl, hE2.same aa, .calls (a4 _ _ (a3 _ _ h2)) (a4 _ _ (a3 _ _ (a2 _ _ h1))) .nil (hv2.mono TA), .calls h4 (a4 _ _ h3) .nil (hw2.mono TA), (up_given lt Fa).1, (up_given lt Fb).1, fun r3 H3 hr3 s3 => ?_⟩
  have e3 : r3 = r1 := Bool.eq_iff_iff.mpr ((hr3.trans ((fitsP_iff (up_given lt Fa).2 (up_given lt Fb).2).trans fit_given)).trans f1.symm)
  refine ⟨_, rfl, rfl, _, rfl, iteNS (by rw [e3]) ?_⟩
  have s13 := (s12.trans aa).trans s3
  have S3 := aa.trans s3
  have hv3 := hv2.mono (Tups.of_same S3)
  have hw3 := hw2.mono (Tups.of_same S3)
  have hE3 := hE2.same S3
  clear hE2 hv2 hw2 TA aa a1 a2 a3 a4 h1 h2 h3 h4 nt1 nt2 nt3 nt4 hr3 S3 s3 s12 e2 e3
  -- callbacks with one value
  refine ⟨_, rfl, _, rfl, (by show 1 ≤ sizeLine; decide), fun t1 nt1 => ⟨(by show 1 ≤ sizeLine; decide), fun t2 nt2 => ⟨(by show 3 ≤ sizeLine; decide), fun t3 nt3 => ⟨_, rfl, (by show 1 ≤ sizeLine; decide), fun t4 nt4 => ⟨(by show 1 ≤ sizeLine; decide), fun t5 nt5 => ⟨(by show 3 ≤ sizeLine; decide), fun t6 nt6 => ?_⟩⟩⟩⟩⟩⟩
  have a1 := same_new nt1 (.tup [w])
  have h1 : (upd H3 t1 (.tup [w])) t1 = some (.tup [w]) := upd_same
  generalize upd H3 t1 (.tup [w]) = G1 at a1 h1 nt2 nt3 nt4 nt5 nt6 ⊢
  have a2 := same_new nt2 (.tup [.str "num"])
  have h2 : (upd G1 t2 (.tup [.str "num"])) t2 = some (.tup [.str "num"]) := upd_same
  generalize upd G1 t2 (.tup [.str "num"]) = G2 at a2 h2 nt3 nt4 nt5 nt6 ⊢
  have a3 := same_new nt3 (.tup [.str "calls", .ref t1, .ref t2])
  have h3 : (upd G2 t3 (.tup [.str "calls", .ref t1, .ref t2])) t3 = some (.tup [.str "calls", .ref t1, .ref t2]) := upd_same
  generalize upd G2 t3 (.tup [.str "calls", .ref t1, .ref t2]) = G3 at a3 h3 nt4 nt5 nt6 ⊢
  have a4 := same_new nt4 (.tup [v])
  have h4 : (upd G3 t4 (.tup [v])) t4 = some (.tup [v]) := upd_same
  generalize upd G3 t4 (.tup [v]) = G4 at a4 h4 nt5 nt6 ⊢
  have a5 := same_new nt5 (.tup [.str "num"])
  have h5 : (upd G4 t5 (.tup [.str "num"])) t5 = some (.tup [.str "num"]) := upd_same
  generalize upd G4 t5 (.tup [.str "num"]) = G5 at a5 h5 nt6 ⊢
  have a6 := same_new nt6 (.tup [.str "calls", .ref t4, .ref t5])
  have h6 : (upd G5 t6 (.tup [.str "calls", .ref t4, .ref t5])) t6 = some (.tup [.str "calls", .ref t4, .ref t5]) := upd_same
  generalize upd G5 t6 (.tup [.str "calls", .ref t4, .ref t5]) = G6 at a6 h6 ⊢
  have a36 := (a4.trans a5).trans a6
  have aa := ((a1.trans a2).trans a3).trans a36
  have TA := Tups.of_same aa
  refine ⟨e, ds, es, us, _, _, .calls [b] .num, .calls [a] .num, rfl, hE3.same aa, .calls (a36 _ _ h3) (a36 _ _ (a3 _ _ (a2 _ _ h1))) (.cons (hw3.mono TA) .nil) (.num (a36 _ _ (a3 _ _ h2))), .calls h6 (a6 _ _ (a5 _ _ h4)) (.cons (hv3.mono TA) .nil) (.num (a6 _ _ h5)), (up_taken lt Fb).1, (up_taken lt Fa).1, fun r4 H4 hr4 s4 => ?_⟩
  have e4 : r4 = r1 := Bool.eq_iff_iff.mpr ((hr4.trans ((fitsP_iff (up_taken lt Fb).2 (up_taken lt Fa).2).trans fit_taken)).trans f1.symm)
  refine ⟨_, rfl, rfl, _, rfl, iteNS (by rw [e4]) ?_⟩
  have s14 := (s13.trans aa).trans s4
  have S4 := aa.trans s4
  have hv4 := hv3.mono (Tups.of_same S4)
  have hw4 := hw3.mono (Tups.of_same S4)
  have hE4 := hE3.same S4
  clear hE3 hv3 hw3 TA aa a36 a1 a2 a3 a4 a5 a6 h1 h2 h3 h4 h5 h6 nt1 nt2 nt3 nt4 nt5 nt6 hr4 S4 s4 s13 e4
  -- answers of one
  refine ⟨_, rfl, _, rfl, (by show 3 ≤ sizeLine; decide), fun t1 nt1 => ⟨(by show 1 ≤ sizeLine; decide), fun t2 nt2 => ⟨(by show 1 ≤ sizeLine; decide), fun t3 nt3 => ⟨_, rfl, (by show 3 ≤ sizeLine; decide), fun t4 nt4 => ?_⟩⟩⟩⟩
  have a1 := same_new nt1 (.tup [.str "answers", .int 1, v])
  have h1 : (upd H4 t1 (.tup [.str "answers", .int 1, v])) t1 = some (.tup [.str "answers", .int 1, v]) := upd_same
  generalize upd H4 t1 (.tup [.str "answers", .int 1, v]) = G1 at a1 h1 nt2 nt3 nt4 ⊢
  have a2 := same_new nt2 (.tup [.str "text"])
  have h2 : (upd G1 t2 (.tup [.str "text"])) t2 = some (.tup [.str "text"]) := upd_same
  generalize upd G1 t2 (.tup [.str "text"]) = G2 at a2 h2 nt3 nt4 ⊢
  have a3 := same_new nt3 (.tup [.ref t2])
  have h3 : (upd G2 t3 (.tup [.ref t2])) t3 = some (.tup [.ref t2]) := upd_same
  generalize upd G2 t3 (.tup [.ref t2]) = G3 at a3 h3 nt4 ⊢
  have a4 := same_new nt4 (.tup [.str "calls", .ref t3, w])
  have h4 : (upd G3 t4 (.tup [.str "calls", .ref t3, w])) t4 = some (.tup [.str "calls", .ref t3, w]) := upd_same
  generalize upd G3 t4 (.tup [.str "calls", .ref t3, w]) = G4 at a4 h4 ⊢
  have aa := ((a1.trans a2).trans a3).trans a4
  have TA := Tups.of_same aa
  refine ⟨e, ds, es, us, _, _, .answers 1 a, .calls [.text] b, rfl, hE4.same aa, .answers (a4 _ _ (a3 _ _ (a2 _ _ h1))) (hv4.mono TA), .calls h4 (a4 _ _ h3) (.cons (.text (a4 _ _ (a3 _ _ h2))) .nil) (hw4.mono TA), (up_answers lt Fa).1, (up_text lt Fb).1, fun r5 H5 hr5 s5 => ?_⟩
  have e5 : r5 = r1 := Bool.eq_iff_iff.mpr ((hr5.trans ((fitsP_iff (up_answers lt Fa).2 (up_text lt Fb).2).trans (fit_answers.trans ⟨fun z => z.2, fun z => ⟨rfl, z⟩⟩))).trans f1.symm)
  refine ⟨_, rfl, rfl, _, rfl, iteNS (by rw [e5]) ?_⟩
  have s15 := (s14.trans aa).trans s5
  have S5 := aa.trans s5
  have hv5 := hv4.mono (Tups.of_same S5)
  have hw5 := hw4.mono (Tups.of_same S5)
  have hE5 := hE4.same S5
  clear hE4 hv4 hw4 TA aa a1 a2 a3 a4 h1 h2 h3 h4 nt1 nt2 nt3 nt4 hr5 S5 s5 s14 e5
  -- answers of two
  refine ⟨_, rfl, _, rfl, (by show 3 ≤ sizeLine; decide), fun t1 nt1 => ⟨(by show 1 ≤ sizeLine; decide), fun t2 nt2 => ⟨(by show 1 ≤ sizeLine; decide), fun t3 nt3 => ⟨_, rfl, (by show 3 ≤ sizeLine; decide), fun t4 nt4 => ?_⟩⟩⟩⟩
  have a1 := same_new nt1 (.tup [.str "answers", .int 2, v])
  have h1 : (upd H5 t1 (.tup [.str "answers", .int 2, v])) t1 = some (.tup [.str "answers", .int 2, v]) := upd_same
  generalize upd H5 t1 (.tup [.str "answers", .int 2, v]) = G1 at a1 h1 nt2 nt3 nt4 ⊢
  have a2 := same_new nt2 (.tup [.str "text"])
  have h2 : (upd G1 t2 (.tup [.str "text"])) t2 = some (.tup [.str "text"]) := upd_same
  generalize upd G1 t2 (.tup [.str "text"]) = G2 at a2 h2 nt3 nt4 ⊢
  have a3 := same_new nt3 (.tup [.ref t2])
  have h3 : (upd G2 t3 (.tup [.ref t2])) t3 = some (.tup [.ref t2]) := upd_same
  generalize upd G2 t3 (.tup [.ref t2]) = G3 at a3 h3 nt4 ⊢
  have a4 := same_new nt4 (.tup [.str "calls", .ref t3, w])
  have h4 : (upd G3 t4 (.tup [.str "calls", .ref t3, w])) t4 = some (.tup [.str "calls", .ref t3, w]) := upd_same
  generalize upd G3 t4 (.tup [.str "calls", .ref t3, w]) = G4 at a4 h4 ⊢
  have aa := ((a1.trans a2).trans a3).trans a4
  have TA := Tups.of_same aa
  refine ⟨e, ds, es, us, _, _, .answers 2 a, .calls [.text] b, rfl, hE5.same aa, .answers (a4 _ _ (a3 _ _ (a2 _ _ h1))) (hv5.mono TA), .calls h4 (a4 _ _ h3) (.cons (.text (a4 _ _ (a3 _ _ h2))) .nil) (hw5.mono TA), (up_answers lt Fa).1, (up_text lt Fb).1, fun r6 H6 hr6 s6 => ?_⟩
  have e6 : r6 = false := by
    cases r6 with
    | false => rfl
    | true => exact absurd ((fit_answers.mp ((fitsP_iff (up_answers lt Fa).2 (up_text lt Fb).2).mp (hr6.mp rfl))).1) (by simp)
  subst e6
  exact ⟨false, false, rfl, rfl, q H6 ((s15.trans aa).trans s6)⟩
end
end My
namespace My
open PySem L2
theorem Tray.lists {H : Hp} {d g : Addr} {n : Int} (D : Tray H d g n) : (∃ xs, H d = some (.lst xs)) ∧ ∃ xs, H g = some (.lst xs) := by
  obtain ⟨ns, cur, fold, k, D⟩ := D
  exact ⟨⟨_, D.d⟩, ⟨_, D.g⟩⟩
/-- an edition, while numbers are drawn -/
theorem EdAt.but {K : PySem.W.Frag} {C : Addr} {H H' : Hp} {e d g : Addr} {ds : List (Str × Decl)} {es : List Door} {us : List V} {n : Int} (h : EdAt K C H e ds es us) (D : Tray H d g n) (o1 : EdOff H e d) (o2 : EdOff H e g) (B : But d g H H') : EdAt K C H' e ds es us ∧ EdOff H' e d ∧ EdOff H' e g := by
  obtain ⟨dx, n0, l, m, da, ba, ta, ws, zs, kvs, bvs, ts, h0, hn, hl, hw, hm, hz, hd, hk, hb, hv, ht, hr⟩ := h.ex
  obtain ⟨⟨x1, hd1⟩, ⟨x2, hg1⟩⟩ := D.lists
  have T := D.tups B
  have ne : ∀ (b : Addr) (o : HO), (∀ zs, o ≠ .lst zs) → H b = some o → H' b = some o := fun b o no hb => B b o (ne_of hb hd1 (no _)) (ne_of hb hg1 (no _)) hb
  obtain ⟨pl, pm⟩ := o1 C dx n0 l m da ba ta h0
  obtain ⟨ql, qm⟩ := o2 C dx n0 l m da ba ta h0
  have sq : SqT K H' n0 us := by
    rcases hn with (h | ⟨o, h⟩) | h
    · exact .inl (.inl (ne _ _ (fun _ z => nomatch z) h))
    · exact .inl (.inr ⟨o, ne _ _ (fun _ z => nomatch z) h⟩)
    · exact .inr h
  have h0' : H' e = some (.ins C dx (edFs n0 l m da ba ta)) := ne _ _ (fun _ z => nomatch z) h0
  exact ⟨⟨dx, n0, l, m, da, ba, ta, ws, zs, kvs, bvs, ts, h0', sq, B _ _ pl.symm ql.symm hl, Paired.mono (fun _ _ z => z.mono T) hw, B _ _ pm.symm qm.symm hm, Paired.mono (fun _ _ z => z.mono T) hz,
    ne _ _ (fun _ z => nomatch z) hd, hk.mono T, ne _ _ (fun _ z => nomatch z) hb, Paired.mono (fun _ _ z => z.mono T) hv, ne _ _ (fun _ z => nomatch z) ht, Paired.mono (fun _ _ z => by
      obtain ⟨e, b, us, o, e1, h, r⟩ := z
      exact ⟨e, b, us, o, e1, ne _ _ (fun _ z => nomatch z) h, r⟩) hr⟩, o1.mono h0 h0', o2.mono h0 h0'⟩
end My
namespace My
open PySem L2
/-! the law: fits is an order -/
def spLaw (K : PySem.W.Frag) : Sp := fun vs H Q _ => ∃ (a : Addr) (ns : List Int), vs = [.ref a] ∧ SqL K H a (ns.map V.int) ∧ ns.length ≤ 63 ∧ ∀ H', Q (.bl true) H'
def Pla (d g : Addr) (i : Nat) (σ : St) (H : Hp) : Prop :=
  ∃ (u0 u2 u3 u4 u5 u6 u7 u8 u9 u10 u11 : Option V), σ = [u0, some (.ref d), u2, u3, u4, u5, u6, u7, u8, u9, u10, u11] ∧ Tray H d g (50000 * (i : Int))
def Psome (d e fl : Addr) (H0 : Hp) (_i : Nat) (σ : St) (H : Hp) : Prop :=
  ∃ (u0 u2 u3 u6 u7 u8 u9 u10 u11 : Option V), σ = [u0, some (.ref d), u2, u3, some (.ref e), some (.ref fl), u6, u7, u8, u9, u10, u11] ∧ Same H0 H
def Pother (d e fl : Addr) (v : V) (H0 : Hp) (_i : Nat) (σ : St) (H : Hp) : Prop :=
  ∃ (u0 u2 u3 u7 u8 u9 u10 u11 : Option V), σ = [u0, some (.ref d), u2, u3, some (.ref e), some (.ref fl), some v, u7, u8, u9, u10, u11] ∧ Same H0 H
def Pthird (d e fl : Addr) (v w : V) (r : Bool) (H0 : Hp) (_i : Nat) (σ : St) (H : Hp) : Prop :=
  ∃ (u0 u2 u3 u9 u10 u11 : Option V), σ = [u0, some (.ref d), u2, u3, some (.ref e), some (.ref fl), some v, some w, some (.bl r), u9, u10, u11] ∧ Same H0 H
def Pnme (H0 : Hp) (D : Addr) (ks : List (Str × Decl)) (i : Nat) (H : Hp) : Prop := Same H0 H ∧ H D = some (.lst (((ks.take i).map (·.1)).map V.str))
theorem cut_few (k : Nat) (xs : List V) : (cutV xs none (some (k : Int))).length ≤ k := by
  unfold cutV
  rw [List.length_take, List.length_drop, HT.sIx_nat, HT.sIx_none]
  omega
section
variable {P : Program} {w : World} {K : PySem.W.Frag} {mg : Str → Option Value} {base : Heap} {f : Addr} {fd : FuncData} {C fI aT aF : Addr} {gI : FuncData} {dsv : List Value}
set_option maxHeartbeats 8000000 in
theorem ok_law (B : Bn mg) (M : Mn K mg aT aF) (c : EdC K C) (F : Fun K "law" "law" s_law f fd)
    (c__law_tray : Cal P w K mg base "_law_tray" 1 ["script"] (spTray K)) (c__law_kinds : Cal P w K mg base "_law_kinds" 14 ["tray", "most"] spKinds) (c__law_pairs : Cal P w K mg base "_law_pairs" 1 ["kinds"] spPairs) (c__law_family : Cal P w K mg base "_law_family" 6 ["tray", "names", "under"] spFam)
    (c_fits : Cal P w K mg base "fits" 7 ["edition", "given", "wanted"] (spKindFits K C)) (c__law_made_of : Cal P w K mg base "_law_made_of" 8 ["own", "one", "other"] (spMade K C))
    (mk : Mk K C fI) (f_init : FnOk P w K mg base CX0 10 fI gI ["self", "kinds", "doors", "number"] (spInit K C)) (m_Edition : mg "Edition" = some (.ref C)) (bm_init : Binds K gI ["self", "kinds", "doors", "number"] dsv) (rm_init : Vals [.ref aF] dsv) :
    FnOk P w K mg base CX0 16 f fd ["script"] (spLaw K) := by
  refine F.ok sc_law (fun vs H Q E h => ?_) (fun cdv A outer s H vs Q E hr h => ?_)
  · obtain ⟨a, ns, rfl, _⟩ := h
    rfl
  obtain ⟨a, ns, rfl, hS, h63, q⟩ := h
  refine ⟨_, (pss_cons (ps_set (i := 1) sc_law.nd rfl (Or.inl rfl) (pc c__law_tray (hr.mono (by first | decide | omega)) (pa_cons (pv 0) pa_nil)))
    (pss_cons (ps_for PassesOwn.never rfl (pi_range1 rfl B.b_range (pa_cons (pe_op op_add pe_int (pe_callB (lenSeq K rfl) (by rfl) B.b_len PySem.boot_len (pa_cons (pe_slice (slL K rfl) (pv 0) po_none (po_some pe_int)) pa_nil))) pa_nil)) (pg_name (i := 2) sc_law.nd rfl (Or.inl rfl)) (pss_cons (ps_set (i := 3) sc_law.nd rfl (Or.inl rfl) (pc c__law_kinds (hr.mono (by first | decide | omega)) (pa_cons (pv 1) (pa_cons pe_int pa_nil))))
    (pss_cons (ps_set (i := 4) sc_law.nd rfl (Or.inl rfl) (pe_make mk f_init (hr.mono (by first | decide | omega)) rfl m_Edition bm_init rm_init pass0 (pa_cons (pe_callTy (listOf K rfl) (by rfl) B.b_list (by decide +kernel) (pa_cons (pv 3) pa_nil)) (pa_cons (pe_lst pa_nil) pa_nil))))
    (pss_cons (ps_set (i := 5) sc_law.nd rfl (Or.inl rfl) (pc c__law_family (hr.mono (by first | decide | omega)) (pa_cons (pv 1) (pa_cons (pe_lc (own := [("name", 10), ("declaration", 11)]) (g := (gTup K 2 (gCons (gName 10) (gCons (gName 11) gNil)))) rfl sc_law.nd (piL K rfl (pv 3)) (blkOk_by (N := ["script", "tray", "k", "kinds", "own", "some", "one", "other", "both", "third", "name", "declaration"]) (sc := defScope s_law) (by decide +kernel)) (fun _ _ _ _ _ => (pg_tup rfl (pgs_cons (pg_name (i := 10) sc_law.nd rfl (Or.inl rfl) (hf := Or.inr rfl)) (pgs_cons (pg_name (i := 11) sc_law.nd rfl (Or.inl rfl) (hf := Or.inr rfl)) pgs_nil)))) (fun _ _ _ _ _ => pts_nil) (fun _ _ _ _ _ => (pv 10))) (pa_cons (pc c__law_pairs (hr.mono (by first | decide | omega)) (pa_cons (pv 3) pa_nil)) pa_nil)))))
    (pss_one (ps_for PassesOwn.never rfl (piL K rfl (pv 5)) (pg_name (i := 6) sc_law.nd rfl (Or.inl rfl)) (pss_cons (ps_if (pt_cmpR op_notBl (pc c_fits (hr.mono (by first | decide | omega)) (pa_cons (pv 4) (pa_cons (pv 6) (pa_cons (pv 6) pa_nil)))) pe_bl (nomark _)) (pss_one (ps_ret pe_bl)) pss_nil)
    (pss_one (ps_for PassesOwn.never rfl (piL K rfl (pv 5)) (pg_name (i := 7) sc_law.nd rfl (Or.inl rfl)) (pss_cons (ps_set (i := 8) sc_law.nd rfl (Or.inl rfl) (pc c_fits (hr.mono (by first | decide | omega)) (pa_cons (pv 4) (pa_cons (pv 6) (pa_cons (pv 7) pa_nil)))))
    (pss_cons (ps_if (PW.pt (pw_or (PW.pt (pw_and (pt_val (pv 8)) (pw_and (pt_cmpR (neD K rfl hr.units) (pv 6) (pv 7) (nomark _)) (pw_and1 (pt_val (pc c_fits (hr.mono (by first | decide | omega)) (pa_cons (pv 4) (pa_cons (pv 7) (pa_cons (pv 6) pa_nil))))))))) (pw_or1 (pt_not (pt_val (pc c__law_made_of (hr.mono (by first | decide | omega)) (pa_cons (pv 4) (pa_cons (pv 6) (pa_cons (pv 7) pa_nil))))))))) (pss_one (ps_ret pe_bl)) pss_nil)
    (pss_one (ps_for PassesOwn.never rfl (piL K rfl (pv 5)) (pg_name (i := 9) sc_law.nd rfl (Or.inl rfl)) (pss_one (ps_if (PW.pt (pw_and (pt_val (pv 8)) (pw_and (pt_val (pc c_fits (hr.mono (by first | decide | omega)) (pa_cons (pv 4) (pa_cons (pv 7) (pa_cons (pv 9) pa_nil))))) (pw_and1 (pt_not (pt_val (pc c_fits (hr.mono (by first | decide | omega)) (pa_cons (pv 4) (pa_cons (pv 6) (pa_cons (pv 9) pa_nil)))))))))) (pss_one (ps_ret pe_bl)) pss_nil)))))))))))))))
    (pss_one (ps_ret pe_bl)))), ?_⟩
  refine ⟨_, rfl, a, ns, rfl, hS, h63, fun d g H1 hd hg D1 s1 => ?_⟩
  have hS1 := s1.seq hS
  refine ⟨_, rfl, _, rfl, a, _, rfl, hS1, fun sc nsc => ⟨sc, _, rfl, .inl (SqL.of upd_same), _, _, rfl, rfl, ?_⟩⟩
  have D3 := D1.new (o := .lst (cutV (ns.map V.int) none (some 4))) nsc
  generalize upd H1 sc (.lst (cutV (ns.map V.int) none (some 4))) = H3 at D3
  have lc : (cutV (ns.map V.int) none (some 4)).length ≤ 4 := cut_few 4 _
  generalize ((cutV (ns.map V.int) none (some 4)).length : Nat) = len at lc
  clear D1 hS1 hS nsc s1 hd hg
  refine ⟨_, rfl, by omega, by omega, for_range (lo := 0) (n := (1 + (len : Int)).toNat) (Pla d g) ?_ ?_ ?_⟩
  · exact ⟨_, _, _, _, _, _, _, _, _, _, _, rfl, D3.le (by omega)⟩
  · clear D3
    rintro i σ H4 hi ⟨u0, u2, u3, u4, u5, u6, u7, u8, u9, u10, u11, rfl, D4⟩
    have hi5 : i < 5 := by omega
    refine ⟨_, rfl, d, g, _, 8, rfl, D4, by omega, by decide, fun sl ws ks ds nms un H7 nsl hsl pks pm lds st hall hnm D7 _ => ?_⟩
    have dk := st.drawn pm (by omega) hall hnm
    have hok := dk.ok
    have lks : ks.length ≤ 8 := by rw [pm.length_eq]; omega
    have lws := Paired.length pks
    have nesl := D4.ne nsl
    clear D4 nsl
    -- own
    refine ⟨_, rfl, sl, ws, rfl, .inl (SqL.of hsl), fun l1 nl1 => ⟨Nat.zero_le _, fun l2 nl2 => fun e dx nx ndx nxd => ?_⟩⟩
    have s8 := (same_new nl1 (.lst ws)).trans (same_new nl2 (.lst []))
    have hl1 : (upd (upd H7 l1 (.lst ws)) l2 (.lst [])) l1 = some (.lst ws) := (same_new nl2 _) _ _ upd_same
    have hl2 : (upd (upd H7 l1 (.lst ws)) l2 (.lst [])) l2 = some (.lst []) := upd_same
    generalize upd (upd H7 l1 (.lst ws)) l2 (.lst []) = H8 at s8 hl1 hl2 nx ndx ⊢
    have s9 : Same H8 (upd (upd H8 dx (.own e)) e (.ins C dx [])) := Same.atNew (same_new ndx _) nx
    have T9 := (Tups.of_same s8).trans (Tups.of_same s9)
    have pk9 := Paired.mono (fun _ _ z => ItemAt.mono T9 z) pks
    refine ⟨e, dx, l1, l2, aF, ws, [], [.int 1, .int 0, .int 0], ks, [], rfl, upd_same, SqL.of (s9 _ _ hl1), pk9, hok, SqL.of (s9 _ _ hl2), .nil, ⟨by decide, fun _ h => by simp at h, .nil, fun _ h => by simp at h⟩, M.q_FIRST _, fun H' hE hnew kp => ⟨rfl, ?_⟩⟩
    have s10 : Same H7 H' := s8.trans fun b o z => kp b o (ne_of_none z nx) (s9 b o z)
    obtain ⟨⟨x1, hd7⟩, ⟨x2, hg7⟩⟩ := D7.lists
    have o1 : EdOff H' e d := hnew.off (s9 _ _ (s8 _ _ hd7))
    have o2 : EdOff H' e g := hnew.off (s9 _ _ (s8 _ _ hg7))
    have D10 := D7.same s10
    have hsl10 := s10 _ _ hsl
    have pk10 := Paired.mono (fun _ _ z => ItemAt.mono (Tups.of_same s10) z) pks
    clear hl1 hl2 s8 s9 T9 pk9 kp hnew nx ndx nxd hd7 hg7 D7 hsl pks s10
    -- the names
    refine ⟨_, rfl, _, rfl, sl, rfl, ⟨_, SqL.of hsl10⟩, fun nl nnl => lc_list (xs := ws) (Pnme H' nl ks) ?_ ?_ ?_ ?_⟩
    · exact ⟨same_new nnl _, upd_same⟩
    · exact fun j H8 _ p => SqL.of (p.1 _ _ hsl10)
    · rintro j x H8 hx ⟨s8, hacc⟩
      obtain ⟨k, hk, cc, dv, rfl, hc, _⟩ := Paired.at pk10 j x hx
      refine ⟨cc, _, rfl, SqT.of (s8 _ _ hc), rfl, _, _, rfl, _, _, rfl, rfl, rfl, _, rfl, _, hacc, ?_, Same.atNew s8 nnl, ?_⟩
      · rw [List.length_map, List.length_map]
        exact line5 (Nat.le_trans (List.length_take_le' _ _) (by omega))
      · rw [upd_same, ← take_next hk, List.map_append, List.map_append]
        rfl
    rintro H8 ⟨s8, hnl⟩
    rw [lws, List.take_length] at hnl
    have E8 := hE.same s8
    obtain ⟨dx8, n8, l8, m8, da8, ba8, ta8, _, _, _, _, _, i8, _⟩ := id hE.ex
    have o18 := o1.mono i8 (s8 _ _ i8)
    have o28 := o2.mono i8 (s8 _ _ i8)
    have D8 := D10.same s8
    have hsl8 := s8 _ _ hsl10
    have pk8 := Paired.mono (fun _ _ z => ItemAt.mono (Tups.of_same s8) z) pk10
    have nenl := D10.ne nnl
    clear hE o1 o2 D10 hsl10 pk10 i8 s8 nnl
    -- the pairs
    refine ⟨_, rfl, sl, ws, ks, rfl, hsl8, pk8, hok, lks, fun r ps H9 s9 nr hr9 ups lps => ?_⟩
    have E9 := E8.same s9
    obtain ⟨dx8, n8, l8, m8, da8, ba8, ta8, _, _, _, _, _, i8, _⟩ := id E8.ex
    have o19 := o18.mono i8 (s9 _ _ i8)
    have o29 := o28.mono i8 (s9 _ _ i8)
    have D9 := D8.same s9
    have ner := D8.ne nr
    have lt : ∀ x ∈ ks.map (·.1), LtS x := fun x hx => (dk.nm x hx).1
    -- some
    refine ⟨d, g, nl, r, _, ks.map (·.1), ps, rfl, D9, by omega, nenl.1, nenl.2, ner.1, ner.2, s9 _ _ hnl, by rw [List.length_map]; omega, lt, hr9, fun p hp => ⟨(ups p hp).1, (ups p hp).2.1, up_in hok (ups p hp).2.2⟩, lps, fun fl vs fs HA nfl hfl pf Ff lf DA BA => ?_⟩
    obtain ⟨EA, _, _⟩ := E9.but D9 o19 o29 BA
    clear E8 o18 o28 D8 hsl8 pk8 s9 hnl E9 o19 o29 D9 BA i8
    refine ⟨_, rfl, fl, rfl, ⟨_, SqL.of hfl⟩, for_list (xs := vs) (Psome d e fl HA) ?_ ?_ ?_ ?_⟩
    · exact ⟨_, _, _, _, _, _, _, _, _, rfl, fun _ _ z => z⟩
    · rintro j σ HB _ ⟨v0, v2, v3, v6, v7, v8, v9, v10, v11, rfl, sB⟩
      exact SqL.of (sB _ _ hfl)
    · rintro j x σ HB hx ⟨v0, v2, v3, v6, v7, v8, v9, v10, v11, rfl, sB⟩
      obtain ⟨a, ha, kx⟩ := Paired.at pf j x hx
      have Fa := Ff a (List.mem_of_getElem? ha)
      have EB := EA.same sB
      have kB := kx.mono (Tups.of_same sB)
      refine ⟨_, rfl, _, rfl, _, rfl, e, ks, [], _, x, x, a, a, rfl, EB, kB, kB, Fa.fine lt, Fa.fine lt, fun r1 HC hr1 sC => ?_⟩
      have e1 : r1 = true := hr1.mpr (.inl rfl)
      refine ⟨r1, true, rfl, rfl, _, rfl, iteNS e1 ?_⟩
      have sAC := sB.trans sC
      refine ⟨_, rfl, fl, rfl, ⟨_, SqL.of (sAC _ _ hfl)⟩, for_list (xs := vs) (Pother d e fl x HA) ?_ ?_ ?_ ?_⟩
      · exact ⟨_, _, _, _, _, _, _, _, rfl, sAC⟩
      · rintro j σ HD _ ⟨v0, v2, v3, v7, v8, v9, v10, v11, rfl, sD⟩
        exact SqL.of (sD _ _ hfl)
      · clear sB EB kB hr1 sC sAC v6 v7 v8 v9 v10 v11
        rintro m y σ HD hy ⟨v0, v2, v3, v7, v8, v9, v10, v11, rfl, sD⟩
        obtain ⟨b, hb, ky⟩ := Paired.at pf m y hy
        have Fb := Ff b (List.mem_of_getElem? hb)
        have ED := EA.same sD
        have kxD := kx.mono (Tups.of_same sD)
        have kyD := ky.mono (Tups.of_same sD)
        refine ⟨_, rfl, _, rfl, _, rfl, e, ks, [], _, x, y, a, b, rfl, ED, kxD, kyD, Fa.fine lt, Fb.fine lt, fun r2 HE hr2 sE => ?_⟩
        have sAE := sD.trans sE
        clear ED kxD kyD sE sD
        dsimp only
        refine seq_abs (fun σ' H' => σ' = [v0, some (.ref d), v2, v3, some (.ref e), some (.ref fl), some x, some y, some (.bl r2), v9, v10, v11] ∧ Same HA H') (fun σ' HF w => ?_) (fun nx hnx => ?_)
        · obtain ⟨rfl, sF⟩ := w
          refine ⟨_, rfl, fl, rfl, ⟨_, SqL.of (sF _ _ hfl)⟩, for_list (xs := vs) (Pthird d e fl x y r2 HA) ?_ ?_ ?_ ?_⟩
          · exact ⟨_, _, _, _, _, _, rfl, sF⟩
          · rintro n σ HG _ ⟨v0, v2, v3, v9, v10, v11, rfl, sG⟩
            exact SqL.of (sG _ _ hfl)
          · clear sF sAE
            rintro n z σ HG hz ⟨v0, v2, v3, v9, v10, v11, rfl, sG⟩
            obtain ⟨c3, hc3, kz⟩ := Paired.at pf n z hz
            have Fc := Ff c3 (List.mem_of_getElem? hc3)
            have next : ∀ HJ, Same HA HJ → Pthird d e fl x y r2 HA (n + 1) [v0, some (.ref d), v2, v3, some (.ref e), some (.ref fl), some x, some y, some (.bl r2), some z, v10, v11] HJ := fun HJ sJ => ⟨_, _, _, _, _, _, rfl, sJ⟩
            cases r2 with
            | false => exact ⟨_, rfl, _, rfl, iteF (iteF (next _ sG))⟩
            | true =>
              refine ⟨_, rfl, _, rfl, iteT ?_⟩
              refine ⟨_, rfl, _, rfl, _, rfl, e, ks, [], _, y, z, b, c3, rfl, EA.same sG, ky.mono (Tups.of_same sG), kz.mono (Tups.of_same sG), Fb.fine lt, Fc.fine lt, fun r3 HI hr3 sI => ?_⟩
              have sAI := sG.trans sI
              cases r3 with
              | false => exact ⟨_, rfl, iteF (iteF (next _ sAI))⟩
              | true =>
                refine ⟨_, rfl, iteT ?_⟩
                refine ⟨_, rfl, _, rfl, _, rfl, e, ks, [], _, x, z, a, c3, rfl, EA.same sAI, kx.mono (Tups.of_same sAI), kz.mono (Tups.of_same sAI), Fa.fine lt, Fc.fine lt, fun r4 HJ hr4 sJ => ?_⟩
                have e4 : r4 = true := hr4.mpr (fitsP_trans (hr2.mp rfl) (hr3.mp rfl))
                subst e4
                exact ⟨_, rfl, iteF (next _ (sAI.trans sJ))⟩
          · rintro σ HG ⟨v0, v2, v3, v9, v10, v11, rfl, sG⟩
            exact ⟨_, _, _, _, _, _, _, _, rfl, sG⟩
        · have end1 : ∀ HF, Same HA HF → nx [v0, some (.ref d), v2, v3, some (.ref e), some (.ref fl), some x, some y, some (.bl r2), v9, v10, v11] HF := fun HF z => hnx _ _ ⟨rfl, z⟩
          cases r2 with
          | false =>
            refine ⟨_, rfl, _, rfl, iteF (iteF ?_)⟩
            refine ⟨_, rfl, _, rfl, _, rfl, e, ks, [], _, x, y, a, b, rfl, EA.same sAE, kx.mono (Tups.of_same sAE), ky.mono (Tups.of_same sAE), lt, Fa, Fb, fun HF sF => ?_⟩
            exact ⟨_, rfl, iteF (end1 _ (sAE.trans sF))⟩
          | true =>
            refine ⟨_, rfl, _, rfl, iteT ?_⟩
            refine ⟨_, rfl, _, rfl, _, _, (kx.mono (Tups.of_same sAE)).dp, (ky.mono (Tups.of_same sAE)).dp, Kd.fine_shaped (Fa.fine lt), Kd.fine_shaped (Fb.fine lt), _, rfl, ?_⟩
            cases hab : PyData.eqv a.data b.data with
            | true =>
              refine iteF (iteF ?_)
              refine ⟨_, rfl, _, rfl, _, rfl, e, ks, [], _, x, y, a, b, rfl, EA.same sAE, kx.mono (Tups.of_same sAE), ky.mono (Tups.of_same sAE), lt, Fa, Fb, fun HF sF => ?_⟩
              exact ⟨_, rfl, iteF (end1 _ (sAE.trans sF))⟩
            | false =>
              refine iteT ?_
              refine ⟨_, rfl, _, rfl, _, rfl, e, ks, [], _, y, x, b, a, rfl, EA.same sAE, ky.mono (Tups.of_same sAE), kx.mono (Tups.of_same sAE), Fb.fine lt, Fa.fine lt, fun r3 HI hr3 sI => ?_⟩
              have e3 : r3 = false := by
                cases r3 with
                | false => rfl
                | true =>
                  have e := fitsP_anti hok (hr2.mp rfl) (hr3.mp rfl)
                  rw [(Kd.data_iff a b).mpr e] at hab
                  cases hab
              subst e3
              have sAI := sAE.trans sI
              refine ⟨_, rfl, iteF ?_⟩
              refine ⟨_, rfl, _, rfl, _, rfl, e, ks, [], _, x, y, a, b, rfl, EA.same sAI, kx.mono (Tups.of_same sAI), ky.mono (Tups.of_same sAI), lt, Fa, Fb, fun HF sF => ?_⟩
              exact ⟨_, rfl, iteF (end1 _ (sAI.trans sF))⟩
      · rintro σ HD ⟨v0, v2, v3, v7, v8, v9, v10, v11, rfl, sD⟩
        exact ⟨_, _, _, _, _, _, _, _, _, rfl, sD⟩
    · rintro σ HB ⟨v0, v2, v3, v6, v7, v8, v9, v10, v11, rfl, sB⟩
      exact ⟨_, _, _, _, _, _, _, _, _, _, _, rfl, (DA.same sB).le (by omega)⟩
  · rintro σ H4 _
    exact q H4
end
end My
namespace My
open PySem L2
theorem binds_init {K : PySem.W.Frag} {f aF : Addr} {fd : FuncData} (F : FunD K "__init__" "Edition.__init__" (defArgs s_Edition___init__) (defBody s_Edition___init__) (defScope s_Edition___init__) [] [("number", V.ref aF)] f fd) :
    ∃ ds, Vals [V.ref aF] ds ∧ Binds K fd ["self", "kinds", "doors", "number"] ds :=
  F.binds0 3 (by simp) rfl fun D doc pm an cdv ct us ks l1 l2 =>
    match us, l1, ks, l2 with
    | [a, b, c], _, [v], _ => ⟨_, _, _, _, _, _, rfl, rfl, rfl⟩
set_option maxHeartbeats 0 in
theorem all_mk {l : PySem.W.OpenLaw} {w : World} {K : PySem.W.Frag} {h : Heap} {mg : Str → Option Value} {fa : Addr} (X : K.In h) (G : h.Ns mainGlobals mg) (hfa : mg "law" = some (.ref fa))
    {f0 : Addr} {od0 an0 : Option Addr} {sl0 : Array (Option Value)} {oc0 kV0 dc0 pm0 cd0 ct0 : Value}
    (a0 : PySem.W.nsIn K mainGlobals "kinds_directly_in" = some (some (.ref f0)))
    (l0 : K.lookup f0 = some ⟨oc0, od0, .func (PySem.W.fnOf "kinds_directly_in" "kinds_directly_in" (defArgs s_kinds_directly_in) (defBody s_kinds_directly_in) (defScope s_kinds_directly_in) .none kV0 dc0 pm0 an0 cd0 ct0), sl0⟩)
    (c0 : PySem.W.codeIn K cd0 "kinds_directly_in" = true)
    (k0 : PySem.W.keepIn K (.ref f0) = true)
    {f1 : Addr} {od1 an1 : Option Addr} {sl1 : Array (Option Value)} {oc1 kV1 dc1 pm1 cd1 ct1 : Value}
    (a1 : PySem.W.nsIn K mainGlobals "depth" = some (some (.ref f1)))
    (l1 : K.lookup f1 = some ⟨oc1, od1, .func (PySem.W.fnOf "depth" "depth" (defArgs s_depth) (defBody s_depth) (defScope s_depth) .none kV1 dc1 pm1 an1 cd1 ct1), sl1⟩)
    (c1 : PySem.W.codeIn K cd1 "depth" = true)
    (k1 : PySem.W.keepIn K (.ref f1) = true)
    {f2 : Addr} {od2 an2 : Option Addr} {sl2 : Array (Option Value)} {oc2 kV2 dc2 pm2 cd2 ct2 : Value}
    (a2 : PySem.W.nsIn K mainGlobals "kinds_in" = some (some (.ref f2)))
    (l2 : K.lookup f2 = some ⟨oc2, od2, .func (PySem.W.fnOf "kinds_in" "kinds_in" (defArgs s_kinds_in) (defBody s_kinds_in) (defScope s_kinds_in) .none kV2 dc2 pm2 an2 cd2 ct2), sl2⟩)
    (c2 : PySem.W.codeIn K cd2 "kinds_in" = true)
    (k2 : PySem.W.keepIn K (.ref f2) = true)
    {f3 : Addr} {od3 an3 : Option Addr} {sl3 : Array (Option Value)} {oc3 kV3 dc3 pm3 cd3 ct3 : Value}
    (a3 : PySem.W.nsIn K mainGlobals "names_in" = some (some (.ref f3)))
    (l3 : K.lookup f3 = some ⟨oc3, od3, .func (PySem.W.fnOf "names_in" "names_in" (defArgs s_names_in) (defBody s_names_in) (defScope s_names_in) .none kV3 dc3 pm3 an3 cd3 ct3), sl3⟩)
    (c3 : PySem.W.codeIn K cd3 "names_in" = true)
    (k3 : PySem.W.keepIn K (.ref f3) = true)
    {f4 : Addr} {od4 an4 : Option Addr} {sl4 : Array (Option Value)} {oc4 kV4 dc4 pm4 cd4 ct4 : Value}
    (a4 : PySem.W.nsIn K mainGlobals "calls_in" = some (some (.ref f4)))
    (l4 : K.lookup f4 = some ⟨oc4, od4, .func (PySem.W.fnOf "calls_in" "calls_in" (defArgs s_calls_in) (defBody s_calls_in) (defScope s_calls_in) .none kV4 dc4 pm4 an4 cd4 ct4), sl4⟩)
    (c4 : PySem.W.codeIn K cd4 "calls_in" = true)
    (k4 : PySem.W.keepIn K (.ref f4) = true)
    {f5 : Addr} {od5 an5 : Option Addr} {sl5 : Array (Option Value)} {oc5 kV5 dc5 pm5 cd5 ct5 : Value}
    (a5 : PySem.W.nsIn K mainGlobals "has_calls_in_calls" = some (some (.ref f5)))
    (l5 : K.lookup f5 = some ⟨oc5, od5, .func (PySem.W.fnOf "has_calls_in_calls" "has_calls_in_calls" (defArgs s_has_calls_in_calls) (defBody s_has_calls_in_calls) (defScope s_has_calls_in_calls) .none kV5 dc5 pm5 an5 cd5 ct5), sl5⟩)
    (c5 : PySem.W.codeIn K cd5 "has_calls_in_calls" = true)
    (k5 : PySem.W.keepIn K (.ref f5) = true)
    {f6 : Addr} {od6 an6 : Option Addr} {sl6 : Array (Option Value)} {oc6 kV6 dc6 pm6 cd6 ct6 : Value}
    (a6 : PySem.W.nsIn K mainGlobals "directly_above" = some (some (.ref f6)))
    (l6 : K.lookup f6 = some ⟨oc6, od6, .func (PySem.W.fnOf "directly_above" "directly_above" (defArgs s_directly_above) (defBody s_directly_above) (defScope s_directly_above) .none kV6 dc6 pm6 an6 cd6 ct6), sl6⟩)
    (c6 : PySem.W.codeIn K cd6 "directly_above" = true)
    (k6 : PySem.W.keepIn K (.ref f6) = true)
    {f7 : Addr} {od7 an7 : Option Addr} {sl7 : Array (Option Value)} {oc7 kV7 dc7 pm7 cd7 ct7 : Value}
    (a7 : PySem.W.nsIn K mainGlobals "names_above" = some (some (.ref f7)))
    (l7 : K.lookup f7 = some ⟨oc7, od7, .func (PySem.W.fnOf "names_above" "names_above" (defArgs s_names_above) (defBody s_names_above) (defScope s_names_above) .none kV7 dc7 pm7 an7 cd7 ct7), sl7⟩)
    (c7 : PySem.W.codeIn K cd7 "names_above" = true)
    (k7 : PySem.W.keepIn K (.ref f7) = true)
    {f8 : Addr} {od8 an8 : Option Addr} {sl8 : Array (Option Value)} {oc8 kV8 dc8 pm8 cd8 ct8 : Value}
    (a8 : PySem.W.nsIn K mainGlobals "table_above" = some (some (.ref f8)))
    (l8 : K.lookup f8 = some ⟨oc8, od8, .func (PySem.W.fnOf "table_above" "table_above" (defArgs s_table_above) (defBody s_table_above) (defScope s_table_above) .none kV8 dc8 pm8 an8 cd8 ct8), sl8⟩)
    (c8 : PySem.W.codeIn K cd8 "table_above" = true)
    (k8 : PySem.W.keepIn K (.ref f8) = true)
    {f9 : Addr} {od9 an9 : Option Addr} {sl9 : Array (Option Value)} {oc9 kV9 dc9 pm9 cd9 ct9 : Value}
    (a9 : PySem.W.nsIn K mainGlobals "all_declared" = some (some (.ref f9)))
    (l9 : K.lookup f9 = some ⟨oc9, od9, .func (PySem.W.fnOf "all_declared" "all_declared" (defArgs s_all_declared) (defBody s_all_declared) (defScope s_all_declared) .none kV9 dc9 pm9 an9 cd9 ct9), sl9⟩)
    (c9 : PySem.W.codeIn K cd9 "all_declared" = true)
    (k9 : PySem.W.keepIn K (.ref f9) = true)
    {f10 : Addr} {od10 an10 : Option Addr} {sl10 : Array (Option Value)} {oc10 kV10 dc10 pm10 cd10 ct10 : Value}
    (a10 : PySem.W.nsIn K mainGlobals "pairs_asked" = some (some (.ref f10)))
    (l10 : K.lookup f10 = some ⟨oc10, od10, .func (PySem.W.fnOf "pairs_asked" "pairs_asked" (defArgs s_pairs_asked) (defBody s_pairs_asked) (defScope s_pairs_asked) .none kV10 dc10 pm10 an10 cd10 ct10), sl10⟩)
    (c10 : PySem.W.codeIn K cd10 "pairs_asked" = true)
    (k10 : PySem.W.keepIn K (.ref f10) = true)
    {f11 : Addr} {od11 an11 : Option Addr} {sl11 : Array (Option Value)} {oc11 kV11 dc11 pm11 cd11 ct11 : Value}
    (a11 : PySem.W.nsIn K mainGlobals "fits_by" = some (some (.ref f11)))
    (l11 : K.lookup f11 = some ⟨oc11, od11, .func (PySem.W.fnOf "fits_by" "fits_by" (defArgs s_fits_by) (defBody s_fits_by) (defScope s_fits_by) .none kV11 dc11 pm11 an11 cd11 ct11), sl11⟩)
    (c11 : PySem.W.codeIn K cd11 "fits_by" = true)
    (k11 : PySem.W.keepIn K (.ref f11) = true)
    {f12 : Addr} {od12 an12 : Option Addr} {sl12 : Array (Option Value)} {oc12 kV12 dc12 pm12 cd12 ct12 : Value}
    (a12 : PySem.W.nsIn K mainGlobals "is_name" = some (some (.ref f12)))
    (l12 : K.lookup f12 = some ⟨oc12, od12, .func (PySem.W.fnOf "is_name" "is_name" (defArgs s_is_name) (defBody s_is_name) (defScope s_is_name) .none kV12 dc12 pm12 an12 cd12 ct12), sl12⟩)
    (c12 : PySem.W.codeIn K cd12 "is_name" = true)
    (k12 : PySem.W.keepIn K (.ref f12) = true)
    {f13 : Addr} {od13 an13 : Option Addr} {sl13 : Array (Option Value)} {oc13 kV13 dc13 pm13 cd13 ct13 : Value}
    (a13 : PySem.W.nsIn K mainGlobals "any_twice" = some (some (.ref f13)))
    (l13 : K.lookup f13 = some ⟨oc13, od13, .func (PySem.W.fnOf "any_twice" "any_twice" (defArgs s_any_twice) (defBody s_any_twice) (defScope s_any_twice) .none kV13 dc13 pm13 an13 cd13 ct13), sl13⟩)
    (c13 : PySem.W.codeIn K cd13 "any_twice" = true)
    (k13 : PySem.W.keepIn K (.ref f13) = true)
    {f14 : Addr} {od14 an14 : Option Addr} {sl14 : Array (Option Value)} {oc14 kV14 dc14 pm14 cd14 ct14 : Value}
    (a14 : PySem.W.nsIn K mainGlobals "first_declared" = some (some (.ref f14)))
    (l14 : K.lookup f14 = some ⟨oc14, od14, .func (PySem.W.fnOf "first_declared" "first_declared" (defArgs s_first_declared) (defBody s_first_declared) (defScope s_first_declared) .none kV14 dc14 pm14 an14 cd14 ct14), sl14⟩)
    (c14 : PySem.W.codeIn K cd14 "first_declared" = true)
    (k14 : PySem.W.keepIn K (.ref f14) = true)
    {f15 : Addr} {od15 an15 : Option Addr} {sl15 : Array (Option Value)} {oc15 kV15 dc15 pm15 cd15 ct15 : Value}
    (a15 : PySem.W.nsIn K mainGlobals "kind_is_sound" = some (some (.ref f15)))
    (l15 : K.lookup f15 = some ⟨oc15, od15, .func (PySem.W.fnOf "kind_is_sound" "kind_is_sound" (defArgs s_kind_is_sound) (defBody s_kind_is_sound) (defScope s_kind_is_sound) .none kV15 dc15 pm15 an15 cd15 ct15), sl15⟩)
    (c15 : PySem.W.codeIn K cd15 "kind_is_sound" = true)
    (k15 : PySem.W.keepIn K (.ref f15) = true)
    {f16 : Addr} {od16 an16 : Option Addr} {sl16 : Array (Option Value)} {oc16 kV16 dc16 pm16 cd16 ct16 : Value}
    (a16 : PySem.W.nsIn K mainGlobals "names_are_sound" = some (some (.ref f16)))
    (l16 : K.lookup f16 = some ⟨oc16, od16, .func (PySem.W.fnOf "names_are_sound" "names_are_sound" (defArgs s_names_are_sound) (defBody s_names_are_sound) (defScope s_names_are_sound) .none kV16 dc16 pm16 an16 cd16 ct16), sl16⟩)
    (c16 : PySem.W.codeIn K cd16 "names_are_sound" = true)
    (k16 : PySem.W.keepIn K (.ref f16) = true)
    {f17 : Addr} {od17 an17 : Option Addr} {sl17 : Array (Option Value)} {oc17 kV17 dc17 pm17 cd17 ct17 : Value}
    (a17 : PySem.W.nsIn K mainGlobals "above_is_sound" = some (some (.ref f17)))
    (l17 : K.lookup f17 = some ⟨oc17, od17, .func (PySem.W.fnOf "above_is_sound" "above_is_sound" (defArgs s_above_is_sound) (defBody s_above_is_sound) (defScope s_above_is_sound) .none kV17 dc17 pm17 an17 cd17 ct17), sl17⟩)
    (c17 : PySem.W.codeIn K cd17 "above_is_sound" = true)
    (k17 : PySem.W.keepIn K (.ref f17) = true)
    {f18 : Addr} {od18 an18 : Option Addr} {sl18 : Array (Option Value)} {oc18 kV18 dc18 pm18 cd18 ct18 : Value}
    (a18 : PySem.W.nsIn K mainGlobals "has_fields_of" = some (some (.ref f18)))
    (l18 : K.lookup f18 = some ⟨oc18, od18, .func (PySem.W.fnOf "has_fields_of" "has_fields_of" (defArgs s_has_fields_of) (defBody s_has_fields_of) (defScope s_has_fields_of) .none kV18 dc18 pm18 an18 cd18 ct18), sl18⟩)
    (c18 : PySem.W.codeIn K cd18 "has_fields_of" = true)
    (k18 : PySem.W.keepIn K (.ref f18) = true)
    {f19 : Addr} {od19 an19 : Option Addr} {sl19 : Array (Option Value)} {oc19 kV19 dc19 pm19 cd19 ct19 : Value}
    (a19 : PySem.W.nsIn K mainGlobals "record_is_sound" = some (some (.ref f19)))
    (l19 : K.lookup f19 = some ⟨oc19, od19, .func (PySem.W.fnOf "record_is_sound" "record_is_sound" (defArgs s_record_is_sound) (defBody s_record_is_sound) (defScope s_record_is_sound) .none kV19 dc19 pm19 an19 cd19 ct19), sl19⟩)
    (c19 : PySem.W.codeIn K cd19 "record_is_sound" = true)
    (k19 : PySem.W.keepIn K (.ref f19) = true)
    {f20 : Addr} {od20 an20 : Option Addr} {sl20 : Array (Option Value)} {oc20 kV20 dc20 pm20 cd20 ct20 : Value}
    (a20 : PySem.W.nsIn K mainGlobals "choice_is_sound" = some (some (.ref f20)))
    (l20 : K.lookup f20 = some ⟨oc20, od20, .func (PySem.W.fnOf "choice_is_sound" "choice_is_sound" (defArgs s_choice_is_sound) (defBody s_choice_is_sound) (defScope s_choice_is_sound) .none kV20 dc20 pm20 an20 cd20 ct20), sl20⟩)
    (c20 : PySem.W.codeIn K cd20 "choice_is_sound" = true)
    (k20 : PySem.W.keepIn K (.ref f20) = true)
    {f21 : Addr} {od21 an21 : Option Addr} {sl21 : Array (Option Value)} {oc21 kV21 dc21 pm21 cd21 ct21 : Value}
    (a21 : PySem.W.nsIn K mainGlobals "declaration_is_sound" = some (some (.ref f21)))
    (l21 : K.lookup f21 = some ⟨oc21, od21, .func (PySem.W.fnOf "declaration_is_sound" "declaration_is_sound" (defArgs s_declaration_is_sound) (defBody s_declaration_is_sound) (defScope s_declaration_is_sound) .none kV21 dc21 pm21 an21 cd21 ct21), sl21⟩)
    (c21 : PySem.W.codeIn K cd21 "declaration_is_sound" = true)
    (k21 : PySem.W.keepIn K (.ref f21) = true)
    {f22 : Addr} {od22 an22 : Option Addr} {sl22 : Array (Option Value)} {oc22 kV22 dc22 pm22 cd22 ct22 : Value}
    (a22 : PySem.W.nsIn K mainGlobals "door_is_sound" = some (some (.ref f22)))
    (l22 : K.lookup f22 = some ⟨oc22, od22, .func (PySem.W.fnOf "door_is_sound" "door_is_sound" (defArgs s_door_is_sound) (defBody s_door_is_sound) (defScope s_door_is_sound) .none kV22 dc22 pm22 an22 cd22 ct22), sl22⟩)
    (c22 : PySem.W.codeIn K cd22 "door_is_sound" = true)
    (k22 : PySem.W.keepIn K (.ref f22) = true)
    {f23 : Addr} {od23 an23 : Option Addr} {sl23 : Array (Option Value)} {oc23 kV23 dc23 pm23 cd23 ct23 : Value}
    (a23 : PySem.W.nsIn K mainGlobals "check_lengths" = some (some (.ref f23)))
    (l23 : K.lookup f23 = some ⟨oc23, od23, .func (PySem.W.fnOf "check_lengths" "check_lengths" (defArgs s_check_lengths) (defBody s_check_lengths) (defScope s_check_lengths) .none kV23 dc23 pm23 an23 cd23 ct23), sl23⟩)
    (c23 : PySem.W.codeIn K cd23 "check_lengths" = true)
    (k23 : PySem.W.keepIn K (.ref f23) = true)
    {f24 : Addr} {od24 an24 : Option Addr} {sl24 : Array (Option Value)} {oc24 kV24 dc24 pm24 cd24 ct24 : Value}
    (a24 : PySem.W.nsIn K mainGlobals "check_kinds" = some (some (.ref f24)))
    (l24 : K.lookup f24 = some ⟨oc24, od24, .func (PySem.W.fnOf "check_kinds" "check_kinds" (defArgs s_check_kinds) (defBody s_check_kinds) (defScope s_check_kinds) .none kV24 dc24 pm24 an24 cd24 ct24), sl24⟩)
    (c24 : PySem.W.codeIn K cd24 "check_kinds" = true)
    (k24 : PySem.W.keepIn K (.ref f24) = true)
    {f25 : Addr} {od25 an25 : Option Addr} {sl25 : Array (Option Value)} {oc25 kV25 dc25 pm25 cd25 ct25 : Value}
    (a25 : PySem.W.nsIn K mainGlobals "check_doors" = some (some (.ref f25)))
    (l25 : K.lookup f25 = some ⟨oc25, od25, .func (PySem.W.fnOf "check_doors" "check_doors" (defArgs s_check_doors) (defBody s_check_doors) (defScope s_check_doors) .none kV25 dc25 pm25 an25 cd25 ct25), sl25⟩)
    (c25 : PySem.W.codeIn K cd25 "check_doors" = true)
    (k25 : PySem.W.keepIn K (.ref f25) = true)
    {f26 : Addr} {od26 an26 : Option Addr} {sl26 : Array (Option Value)} {oc26 kV26 dc26 pm26 cd26 ct26 : Value}
    (a26 : PySem.W.nsIn K mainGlobals "fits" = some (some (.ref f26)))
    (l26 : K.lookup f26 = some ⟨oc26, od26, .func (PySem.W.fnOf "fits" "fits" (defArgs s_fits) (defBody s_fits) (defScope s_fits) .none kV26 dc26 pm26 an26 cd26 ct26), sl26⟩)
    (c26 : PySem.W.codeIn K cd26 "fits" = true)
    (k26 : PySem.W.keepIn K (.ref f26) = true)
    {f27 : Addr} {od27 an27 : Option Addr} {sl27 : Array (Option Value)} {oc27 kV27 dc27 pm27 cd27 ct27 : Value}
    (a27 : PySem.W.nsIn K mainGlobals "_law_tray" = some (some (.ref f27)))
    (l27 : K.lookup f27 = some ⟨oc27, od27, .func (PySem.W.fnOf "_law_tray" "_law_tray" (defArgs s__law_tray) (defBody s__law_tray) (defScope s__law_tray) .none kV27 dc27 pm27 an27 cd27 ct27), sl27⟩)
    (c27 : PySem.W.codeIn K cd27 "_law_tray" = true)
    (k27 : PySem.W.keepIn K (.ref f27) = true)
    {f28 : Addr} {od28 an28 : Option Addr} {sl28 : Array (Option Value)} {oc28 kV28 dc28 pm28 cd28 ct28 : Value}
    (a28 : PySem.W.nsIn K mainGlobals "_law_draw" = some (some (.ref f28)))
    (l28 : K.lookup f28 = some ⟨oc28, od28, .func (PySem.W.fnOf "_law_draw" "_law_draw" (defArgs s__law_draw) (defBody s__law_draw) (defScope s__law_draw) .none kV28 dc28 pm28 an28 cd28 ct28), sl28⟩)
    (c28 : PySem.W.codeIn K cd28 "_law_draw" = true)
    (k28 : PySem.W.keepIn K (.ref f28) = true)
    {f29 : Addr} {od29 an29 : Option Addr} {sl29 : Array (Option Value)} {oc29 kV29 dc29 pm29 cd29 ct29 : Value}
    (a29 : PySem.W.nsIn K mainGlobals "_law_name" = some (some (.ref f29)))
    (l29 : K.lookup f29 = some ⟨oc29, od29, .func (PySem.W.fnOf "_law_name" "_law_name" (defArgs s__law_name) (defBody s__law_name) (defScope s__law_name) .none kV29 dc29 pm29 an29 cd29 ct29), sl29⟩)
    (c29 : PySem.W.codeIn K cd29 "_law_name" = true)
    (k29 : PySem.W.keepIn K (.ref f29) = true)
    {f30 : Addr} {od30 an30 : Option Addr} {sl30 : Array (Option Value)} {oc30 kV30 dc30 pm30 cd30 ct30 : Value}
    (a30 : PySem.W.nsIn K mainGlobals "_law_names" = some (some (.ref f30)))
    (l30 : K.lookup f30 = some ⟨oc30, od30, .func (PySem.W.fnOf "_law_names" "_law_names" (defArgs s__law_names) (defBody s__law_names) (defScope s__law_names) .none kV30 dc30 pm30 an30 cd30 ct30), sl30⟩)
    (c30 : PySem.W.codeIn K cd30 "_law_names" = true)
    (k30 : PySem.W.keepIn K (.ref f30) = true)
    {f31 : Addr} {od31 an31 : Option Addr} {sl31 : Array (Option Value)} {oc31 kV31 dc31 pm31 cd31 ct31 : Value}
    (a31 : PySem.W.nsIn K mainGlobals "_law_flat_kind" = some (some (.ref f31)))
    (l31 : K.lookup f31 = some ⟨oc31, od31, .func (PySem.W.fnOf "_law_flat_kind" "_law_flat_kind" (defArgs s__law_flat_kind) (defBody s__law_flat_kind) (defScope s__law_flat_kind) .none kV31 dc31 pm31 an31 cd31 ct31), sl31⟩)
    (c31 : PySem.W.codeIn K cd31 "_law_flat_kind" = true)
    (k31 : PySem.W.keepIn K (.ref f31) = true)
    {f32 : Addr} {od32 an32 : Option Addr} {sl32 : Array (Option Value)} {oc32 kV32 dc32 pm32 cd32 ct32 : Value}
    (a32 : PySem.W.nsIn K mainGlobals "_law_kind" = some (some (.ref f32)))
    (l32 : K.lookup f32 = some ⟨oc32, od32, .func (PySem.W.fnOf "_law_kind" "_law_kind" (defArgs s__law_kind) (defBody s__law_kind) (defScope s__law_kind) .none kV32 dc32 pm32 an32 cd32 ct32), sl32⟩)
    (c32 : PySem.W.codeIn K cd32 "_law_kind" = true)
    (k32 : PySem.W.keepIn K (.ref f32) = true)
    {f33 : Addr} {od33 an33 : Option Addr} {sl33 : Array (Option Value)} {oc33 kV33 dc33 pm33 cd33 ct33 : Value}
    (a33 : PySem.W.nsIn K mainGlobals "_law_lesser" = some (some (.ref f33)))
    (l33 : K.lookup f33 = some ⟨oc33, od33, .func (PySem.W.fnOf "_law_lesser" "_law_lesser" (defArgs s__law_lesser) (defBody s__law_lesser) (defScope s__law_lesser) .none kV33 dc33 pm33 an33 cd33 ct33), sl33⟩)
    (c33 : PySem.W.codeIn K cd33 "_law_lesser" = true)
    (k33 : PySem.W.keepIn K (.ref f33) = true)
    {f34 : Addr} {od34 an34 : Option Addr} {sl34 : Array (Option Value)} {oc34 kV34 dc34 pm34 cd34 ct34 : Value}
    (a34 : PySem.W.nsIn K mainGlobals "_law_record" = some (some (.ref f34)))
    (l34 : K.lookup f34 = some ⟨oc34, od34, .func (PySem.W.fnOf "_law_record" "_law_record" (defArgs s__law_record) (defBody s__law_record) (defScope s__law_record) .none kV34 dc34 pm34 an34 cd34 ct34), sl34⟩)
    (c34 : PySem.W.codeIn K cd34 "_law_record" = true)
    (k34 : PySem.W.keepIn K (.ref f34) = true)
    {f35 : Addr} {od35 an35 : Option Addr} {sl35 : Array (Option Value)} {oc35 kV35 dc35 pm35 cd35 ct35 : Value}
    (a35 : PySem.W.nsIn K mainGlobals "_law_declaration" = some (some (.ref f35)))
    (l35 : K.lookup f35 = some ⟨oc35, od35, .func (PySem.W.fnOf "_law_declaration" "_law_declaration" (defArgs s__law_declaration) (defBody s__law_declaration) (defScope s__law_declaration) .none kV35 dc35 pm35 an35 cd35 ct35), sl35⟩)
    (c35 : PySem.W.codeIn K cd35 "_law_declaration" = true)
    (k35 : PySem.W.keepIn K (.ref f35) = true)
    {f36 : Addr} {od36 an36 : Option Addr} {sl36 : Array (Option Value)} {oc36 kV36 dc36 pm36 cd36 ct36 : Value}
    (a36 : PySem.W.nsIn K mainGlobals "_law_kinds" = some (some (.ref f36)))
    (l36 : K.lookup f36 = some ⟨oc36, od36, .func (PySem.W.fnOf "_law_kinds" "_law_kinds" (defArgs s__law_kinds) (defBody s__law_kinds) (defScope s__law_kinds) .none kV36 dc36 pm36 an36 cd36 ct36), sl36⟩)
    (c36 : PySem.W.codeIn K cd36 "_law_kinds" = true)
    (k36 : PySem.W.keepIn K (.ref f36) = true)
    {f37 : Addr} {od37 an37 : Option Addr} {sl37 : Array (Option Value)} {oc37 kV37 dc37 pm37 cd37 ct37 : Value}
    (a37 : PySem.W.nsIn K mainGlobals "_law_family" = some (some (.ref f37)))
    (l37 : K.lookup f37 = some ⟨oc37, od37, .func (PySem.W.fnOf "_law_family" "_law_family" (defArgs s__law_family) (defBody s__law_family) (defScope s__law_family) .none kV37 dc37 pm37 an37 cd37 ct37), sl37⟩)
    (c37 : PySem.W.codeIn K cd37 "_law_family" = true)
    (k37 : PySem.W.keepIn K (.ref f37) = true)
    {f38 : Addr} {od38 an38 : Option Addr} {sl38 : Array (Option Value)} {oc38 kV38 dc38 pm38 cd38 ct38 : Value}
    (a38 : PySem.W.nsIn K mainGlobals "_law_pairs" = some (some (.ref f38)))
    (l38 : K.lookup f38 = some ⟨oc38, od38, .func (PySem.W.fnOf "_law_pairs" "_law_pairs" (defArgs s__law_pairs) (defBody s__law_pairs) (defScope s__law_pairs) .none kV38 dc38 pm38 an38 cd38 ct38), sl38⟩)
    (c38 : PySem.W.codeIn K cd38 "_law_pairs" = true)
    (k38 : PySem.W.keepIn K (.ref f38) = true)
    {f39 : Addr} {od39 an39 : Option Addr} {sl39 : Array (Option Value)} {oc39 kV39 dc39 pm39 cd39 ct39 : Value}
    (a39 : PySem.W.nsIn K mainGlobals "_law_made_of" = some (some (.ref f39)))
    (l39 : K.lookup f39 = some ⟨oc39, od39, .func (PySem.W.fnOf "_law_made_of" "_law_made_of" (defArgs s__law_made_of) (defBody s__law_made_of) (defScope s__law_made_of) .none kV39 dc39 pm39 an39 cd39 ct39), sl39⟩)
    (c39 : PySem.W.codeIn K cd39 "_law_made_of" = true)
    (k39 : PySem.W.keepIn K (.ref f39) = true)
    {f40 : Addr} {od40 an40 : Option Addr} {sl40 : Array (Option Value)} {oc40 kV40 dc40 pm40 cd40 ct40 : Value}
    (a40 : PySem.W.nsIn K mainGlobals "law" = some (some (.ref f40)))
    (l40 : K.lookup f40 = some ⟨oc40, od40, .func (PySem.W.fnOf "law" "law" (defArgs s_law) (defBody s_law) (defScope s_law) .none kV40 dc40 pm40 an40 cd40 ct40), sl40⟩)
    (c40 : PySem.W.codeIn K cd40 "law" = true)
    (k40 : PySem.W.keepIn K (.ref f40) = true)
    {C fI kD aF : Addr} {odI anI : Option Addr} {slI : Array (Option Value)} {ocI dcI pmI cdI ctI : Value}
    (aC : PySem.W.nsIn K mainGlobals "Edition" = some (some (.ref C)))
    (aI : PySem.W.findIn K (.ref C) "__init__" = some (some (.ref fI)))
    (iI : PySem.W.isFn K (.ref fI) = true)
    (lI : K.lookup fI = some ⟨ocI, odI, .func (PySem.W.fnOf "__init__" "Edition.__init__" (defArgs s_Edition___init__) (defBody s_Edition___init__) (defScope s_Edition___init__) .none (.ref kD) dcI pmI anI cdI ctI), slI⟩)
    (cI : PySem.W.codeIn K cdI "Edition.__init__" = true)
    (kI : PySem.W.keepIn K (.ref fI) = true)
    (kq : PySem.W.nsIn K kD "number" = some (some (.ref aF)))
    (pg : PySem.W.plainGet K C Str.empty = true)
    (hd : PySem.W.hasDictIn K C = true)
    (po : PySem.W.plainOver K C = true)
    (sa : PySem.W.findIn K (.ref C) "__setattr__" = some (some (.builtin "object.__setattr__")))
    (mkC : PySem.W.makesIn K C = true)
    (kcC : PySem.W.keepIn K (.ref C) = true)
    (nnumber : PySem.W.findIn K (.ref C) "number" = some none)
    (n_kinds : PySem.W.findIn K (.ref C) "_kinds" = some none)
    (n_doors : PySem.W.findIn K (.ref C) "_doors" = some none)
    (n_declared : PySem.W.findIn K (.ref C) "_declared" = some none)
    (n_by_name : PySem.W.findIn K (.ref C) "_by_name" = some none)
    (n_above : PySem.W.findIn K (.ref C) "_above" = some none)
    {fm0 : Addr} {odm0 anm0 : Option Addr} {slm0 : Array (Option Value)} {ocm0 kVm0 dcm0 pmm0 cdm0 ctm0 : Value}
    (am0 : PySem.W.findIn K (.ref C) "kind_fits" = some (some (.ref fm0)))
    (im0 : PySem.W.isFn K (.ref fm0) = true)
    (lm0 : K.lookup fm0 = some ⟨ocm0, odm0, .func (PySem.W.fnOf "kind_fits" "Edition.kind_fits" (defArgs s_Edition_kind_fits) (defBody s_Edition_kind_fits) (defScope s_Edition_kind_fits) .none kVm0 dcm0 pmm0 anm0 cdm0 ctm0), slm0⟩)
    (cm0 : PySem.W.codeIn K cdm0 "Edition.kind_fits" = true)
    (km0 : PySem.W.keepIn K (.ref fm0) = true)
    {aT : Addr} {tLETTERS tLONGEST tMOST_KINDS tMOST_DOORS tMOST_ROWS tMOST_CALLED tDEEPEST tT1 tT2 : Tok} {odT : Option Addr} {nT : Nat} {slT : Array (Option Value)}
    (eLETTERS : PySem.W.nsIn K mainGlobals "LETTERS" = some (some (.str "abcdefghijklmnopqrstuvwxyz" tLETTERS)))
    (eLONGEST : PySem.W.nsIn K mainGlobals "LONGEST" = some (some (.int 8 tLONGEST)))
    (eMOST_KINDS : PySem.W.nsIn K mainGlobals "MOST_KINDS" = some (some (.int 12 tMOST_KINDS)))
    (eMOST_DOORS : PySem.W.nsIn K mainGlobals "MOST_DOORS" = some (some (.int 16 tMOST_DOORS)))
    (eMOST_ROWS : PySem.W.nsIn K mainGlobals "MOST_ROWS" = some (some (.int 6 tMOST_ROWS)))
    (eMOST_CALLED : PySem.W.nsIn K mainGlobals "MOST_CALLED" = some (some (.int 3 tMOST_CALLED)))
    (eDEEPEST : PySem.W.nsIn K mainGlobals "DEEPEST" = some (some (.int 4 tDEEPEST)))
    (eTAKEN : PySem.W.nsIn K mainGlobals "TAKEN" = some (some (.ref aT)))
    (qTAKEN : K.lookup aT = some ⟨.type "tuple", odT, .seq #[.str "num" tT1, .str "text" tT2] nT, slT⟩)
    {tF1 tF2 tF3 : Tok} {odF : Option Addr} {nF : Nat} {slF : Array (Option Value)}
    (eFIRST : PySem.W.nsIn K mainGlobals "FIRST" = some (some (.ref aF)))
    (qFIRST : K.lookup aF = some ⟨.type "tuple", odF, .seq #[.int 1 tF1, .int 0 tF2, .int 0 tF3] nF, slF⟩)
    (z0 : PySem.W.nsIn K mainGlobals "abs" = some none)
    (z1 : PySem.W.nsIn K mainGlobals "all" = some none)
    (z2 : PySem.W.nsIn K mainGlobals "any" = some none)
    (z3 : PySem.W.nsIn K mainGlobals "isinstance" = some none)
    (z4 : PySem.W.nsIn K mainGlobals "len" = some none)
    (z5 : PySem.W.nsIn K mainGlobals "list" = some none)
    (z6 : PySem.W.nsIn K mainGlobals "max" = some none)
    (z7 : PySem.W.nsIn K mainGlobals "range" = some none)
    (z8 : PySem.W.nsIn K mainGlobals "set" = some none)
    (z9 : PySem.W.nsIn K mainGlobals "sorted" = some none)
    (z10 : PySem.W.nsIn K mainGlobals "tuple" = some none)
    (z11 : PySem.W.nsIn K mainGlobals "zip" = some none)
    : ∃ fd : FuncData, (∀ (s : Shared) (v : Value), BindsTo s fd ⟨[v], []⟩ [("script", v)]) ∧ ∀ base : Heap, K.In base → base.Ns mainGlobals mg → FnOk l.prog w K mg base CX0 16 fa fd ["script"] (spLaw K) := by
  have e := hfa.symm.trans (PySem.W.mg_of X G a40)
  cases e
  have F_kinds_directly_in := fun_mk (st := s_kinds_directly_in) l0 c0 k0
  have b_kinds_directly_in := F_kinds_directly_in.binds (ps := ["kind"]) fun _ _ _ _ _ _ us hl => match us, hl with | [_], _ => rfl
  have m_kinds_directly_in := PySem.W.mg_of X G a0
  have k_kinds_directly_in := k0
  have F_depth := fun_mk (st := s_depth) l1 c1 k1
  have b_depth := F_depth.binds (ps := ["kind"]) fun _ _ _ _ _ _ us hl => match us, hl with | [_], _ => rfl
  have m_depth := PySem.W.mg_of X G a1
  have k_depth := k1
  have F_kinds_in := fun_mk (st := s_kinds_in) l2 c2 k2
  have b_kinds_in := F_kinds_in.binds (ps := ["kind"]) fun _ _ _ _ _ _ us hl => match us, hl with | [_], _ => rfl
  have m_kinds_in := PySem.W.mg_of X G a2
  have k_kinds_in := k2
  have F_names_in := fun_mk (st := s_names_in) l3 c3 k3
  have b_names_in := F_names_in.binds (ps := ["kind"]) fun _ _ _ _ _ _ us hl => match us, hl with | [_], _ => rfl
  have m_names_in := PySem.W.mg_of X G a3
  have k_names_in := k3
  have F_calls_in := fun_mk (st := s_calls_in) l4 c4 k4
  have b_calls_in := F_calls_in.binds (ps := ["kind"]) fun _ _ _ _ _ _ us hl => match us, hl with | [_], _ => rfl
  have m_calls_in := PySem.W.mg_of X G a4
  have k_calls_in := k4
  have F_has_calls_in_calls := fun_mk (st := s_has_calls_in_calls) l5 c5 k5
  have b_has_calls_in_calls := F_has_calls_in_calls.binds (ps := ["kind"]) fun _ _ _ _ _ _ us hl => match us, hl with | [_], _ => rfl
  have m_has_calls_in_calls := PySem.W.mg_of X G a5
  have k_has_calls_in_calls := k5
  have F_directly_above := fun_mk (st := s_directly_above) l6 c6 k6
  have b_directly_above := F_directly_above.binds (ps := ["declaration"]) fun _ _ _ _ _ _ us hl => match us, hl with | [_], _ => rfl
  have m_directly_above := PySem.W.mg_of X G a6
  have k_directly_above := k6
  have F_names_above := fun_mk (st := s_names_above) l7 c7 k7
  have b_names_above := F_names_above.binds (ps := ["declared", "name"]) fun _ _ _ _ _ _ us hl => match us, hl with | [_, _], _ => rfl
  have m_names_above := PySem.W.mg_of X G a7
  have k_names_above := k7
  have F_table_above := fun_mk (st := s_table_above) l8 c8 k8
  have b_table_above := F_table_above.binds (ps := ["declared"]) fun _ _ _ _ _ _ us hl => match us, hl with | [_], _ => rfl
  have m_table_above := PySem.W.mg_of X G a8
  have k_table_above := k8
  have F_all_declared := fun_mk (st := s_all_declared) l9 c9 k9
  have b_all_declared := F_all_declared.binds (ps := ["above", "kind"]) fun _ _ _ _ _ _ us hl => match us, hl with | [_, _], _ => rfl
  have m_all_declared := PySem.W.mg_of X G a9
  have k_all_declared := k9
  have F_pairs_asked := fun_mk (st := s_pairs_asked) l10 c10 k10
  have b_pairs_asked := F_pairs_asked.binds (ps := ["above", "given", "wanted"]) fun _ _ _ _ _ _ us hl => match us, hl with | [_, _, _], _ => rfl
  have m_pairs_asked := PySem.W.mg_of X G a10
  have k_pairs_asked := k10
  have F_fits_by := fun_mk (st := s_fits_by) l11 c11 k11
  have b_fits_by := F_fits_by.binds (ps := ["above", "given", "wanted"]) fun _ _ _ _ _ _ us hl => match us, hl with | [_, _, _], _ => rfl
  have m_fits_by := PySem.W.mg_of X G a11
  have k_fits_by := k11
  have F_is_name := fun_mk (st := s_is_name) l12 c12 k12
  have b_is_name := F_is_name.binds (ps := ["text"]) fun _ _ _ _ _ _ us hl => match us, hl with | [_], _ => rfl
  have m_is_name := PySem.W.mg_of X G a12
  have k_is_name := k12
  have F_any_twice := fun_mk (st := s_any_twice) l13 c13 k13
  have b_any_twice := F_any_twice.binds (ps := ["names"]) fun _ _ _ _ _ _ us hl => match us, hl with | [_], _ => rfl
  have m_any_twice := PySem.W.mg_of X G a13
  have k_any_twice := k13
  have F_first_declared := fun_mk (st := s_first_declared) l14 c14 k14
  have b_first_declared := F_first_declared.binds (ps := ["kinds"]) fun _ _ _ _ _ _ us hl => match us, hl with | [_], _ => rfl
  have m_first_declared := PySem.W.mg_of X G a14
  have k_first_declared := k14
  have F_kind_is_sound := fun_mk (st := s_kind_is_sound) l15 c15 k15
  have b_kind_is_sound := F_kind_is_sound.binds (ps := ["declared", "kind"]) fun _ _ _ _ _ _ us hl => match us, hl with | [_, _], _ => rfl
  have m_kind_is_sound := PySem.W.mg_of X G a15
  have k_kind_is_sound := k15
  have F_names_are_sound := fun_mk (st := s_names_are_sound) l16 c16 k16
  have b_names_are_sound := F_names_are_sound.binds (ps := ["names"]) fun _ _ _ _ _ _ us hl => match us, hl with | [_], _ => rfl
  have m_names_are_sound := PySem.W.mg_of X G a16
  have k_names_are_sound := k16
  have F_above_is_sound := fun_mk (st := s_above_is_sound) l17 c17 k17
  have b_above_is_sound := F_above_is_sound.binds (ps := ["declared", "name", "declaration", "above"]) fun _ _ _ _ _ _ us hl => match us, hl with | [_, _, _, _], _ => rfl
  have m_above_is_sound := PySem.W.mg_of X G a17
  have k_above_is_sound := k17
  have F_has_fields_of := fun_mk (st := s_has_fields_of) l18 c18 k18
  have b_has_fields_of := F_has_fields_of.binds (ps := ["above", "fields", "wanted"]) fun _ _ _ _ _ _ us hl => match us, hl with | [_, _, _], _ => rfl
  have m_has_fields_of := PySem.W.mg_of X G a18
  have k_has_fields_of := k18
  have F_record_is_sound := fun_mk (st := s_record_is_sound) l19 c19 k19
  have b_record_is_sound := F_record_is_sound.binds (ps := ["declared", "declaration", "above"]) fun _ _ _ _ _ _ us hl => match us, hl with | [_, _, _], _ => rfl
  have m_record_is_sound := PySem.W.mg_of X G a19
  have k_record_is_sound := k19
  have F_choice_is_sound := fun_mk (st := s_choice_is_sound) l20 c20 k20
  have b_choice_is_sound := F_choice_is_sound.binds (ps := ["declared", "declaration"]) fun _ _ _ _ _ _ us hl => match us, hl with | [_, _], _ => rfl
  have m_choice_is_sound := PySem.W.mg_of X G a20
  have k_choice_is_sound := k20
  have F_declaration_is_sound := fun_mk (st := s_declaration_is_sound) l21 c21 k21
  have b_declaration_is_sound := F_declaration_is_sound.binds (ps := ["declared", "name", "declaration", "above"]) fun _ _ _ _ _ _ us hl => match us, hl with | [_, _, _, _], _ => rfl
  have m_declaration_is_sound := PySem.W.mg_of X G a21
  have k_declaration_is_sound := k21
  have F_door_is_sound := fun_mk (st := s_door_is_sound) l22 c22 k22
  have b_door_is_sound := F_door_is_sound.binds (ps := ["declared", "door"]) fun _ _ _ _ _ _ us hl => match us, hl with | [_, _], _ => rfl
  have m_door_is_sound := PySem.W.mg_of X G a22
  have k_door_is_sound := k22
  have F_check_lengths := fun_mk (st := s_check_lengths) l23 c23 k23
  have b_check_lengths := F_check_lengths.binds (ps := ["kinds", "doors"]) fun _ _ _ _ _ _ us hl => match us, hl with | [_, _], _ => rfl
  have m_check_lengths := PySem.W.mg_of X G a23
  have k_check_lengths := k23
  have F_check_kinds := fun_mk (st := s_check_kinds) l24 c24 k24
  have b_check_kinds := F_check_kinds.binds (ps := ["kinds"]) fun _ _ _ _ _ _ us hl => match us, hl with | [_], _ => rfl
  have m_check_kinds := PySem.W.mg_of X G a24
  have k_check_kinds := k24
  have F_check_doors := fun_mk (st := s_check_doors) l25 c25 k25
  have b_check_doors := F_check_doors.binds (ps := ["kinds", "doors"]) fun _ _ _ _ _ _ us hl => match us, hl with | [_, _], _ => rfl
  have m_check_doors := PySem.W.mg_of X G a25
  have k_check_doors := k25
  have F_fits := fun_mk (st := s_fits) l26 c26 k26
  have b_fits := F_fits.binds (ps := ["edition", "given", "wanted"]) fun _ _ _ _ _ _ us hl => match us, hl with | [_, _, _], _ => rfl
  have m_fits := PySem.W.mg_of X G a26
  have k_fits := k26
  have F__law_tray := fun_mk (st := s__law_tray) l27 c27 k27
  have b__law_tray := F__law_tray.binds (ps := ["script"]) fun _ _ _ _ _ _ us hl => match us, hl with | [_], _ => rfl
  have m__law_tray := PySem.W.mg_of X G a27
  have k__law_tray := k27
  have F__law_draw := fun_mk (st := s__law_draw) l28 c28 k28
  have b__law_draw := F__law_draw.binds (ps := ["tray", "many"]) fun _ _ _ _ _ _ us hl => match us, hl with | [_, _], _ => rfl
  have m__law_draw := PySem.W.mg_of X G a28
  have k__law_draw := k28
  have F__law_name := fun_mk (st := s__law_name) l29 c29 k29
  have b__law_name := F__law_name.binds (ps := ["tray", "used"]) fun _ _ _ _ _ _ us hl => match us, hl with | [_, _], _ => rfl
  have m__law_name := PySem.W.mg_of X G a29
  have k__law_name := k29
  have F__law_names := fun_mk (st := s__law_names) l30 c30 k30
  have b__law_names := F__law_names.binds (ps := ["tray", "many", "used"]) fun _ _ _ _ _ _ us hl => match us, hl with | [_, _, _], _ => rfl
  have m__law_names := PySem.W.mg_of X G a30
  have k__law_names := k30
  have F__law_flat_kind := fun_mk (st := s__law_flat_kind) l31 c31 k31
  have b__law_flat_kind := F__law_flat_kind.binds (ps := ["tray", "names", "deep"]) fun _ _ _ _ _ _ us hl => match us, hl with | [_, _, _], _ => rfl
  have m__law_flat_kind := PySem.W.mg_of X G a31
  have k__law_flat_kind := k31
  have F__law_kind := fun_mk (st := s__law_kind) l32 c32 k32
  have b__law_kind := F__law_kind.binds (ps := ["tray", "names", "deep"]) fun _ _ _ _ _ _ us hl => match us, hl with | [_, _, _], _ => rfl
  have m__law_kind := PySem.W.mg_of X G a32
  have k__law_kind := k32
  have F__law_lesser := fun_mk (st := s__law_lesser) l33 c33 k33
  have b__law_lesser := F__law_lesser.binds (ps := ["tray", "kind", "under"]) fun _ _ _ _ _ _ us hl => match us, hl with | [_, _, _], _ => rfl
  have m__law_lesser := PySem.W.mg_of X G a33
  have k__law_lesser := k33
  have F__law_record := fun_mk (st := s__law_record) l34 c34 k34
  have b__law_record := F__law_record.binds (ps := ["tray", "names", "done", "under"]) fun _ _ _ _ _ _ us hl => match us, hl with | [_, _, _, _], _ => rfl
  have m__law_record := PySem.W.mg_of X G a34
  have k__law_record := k34
  have F__law_declaration := fun_mk (st := s__law_declaration) l35 c35 k35
  have b__law_declaration := F__law_declaration.binds (ps := ["tray", "names", "done", "under"]) fun _ _ _ _ _ _ us hl => match us, hl with | [_, _, _, _], _ => rfl
  have m__law_declaration := PySem.W.mg_of X G a35
  have k__law_declaration := k35
  have F__law_kinds := fun_mk (st := s__law_kinds) l36 c36 k36
  have b__law_kinds := F__law_kinds.binds (ps := ["tray", "most"]) fun _ _ _ _ _ _ us hl => match us, hl with | [_, _], _ => rfl
  have m__law_kinds := PySem.W.mg_of X G a36
  have k__law_kinds := k36
  have F__law_family := fun_mk (st := s__law_family) l37 c37 k37
  have b__law_family := F__law_family.binds (ps := ["tray", "names", "under"]) fun _ _ _ _ _ _ us hl => match us, hl with | [_, _, _], _ => rfl
  have m__law_family := PySem.W.mg_of X G a37
  have k__law_family := k37
  have F__law_pairs := fun_mk (st := s__law_pairs) l38 c38 k38
  have b__law_pairs := F__law_pairs.binds (ps := ["kinds"]) fun _ _ _ _ _ _ us hl => match us, hl with | [_], _ => rfl
  have m__law_pairs := PySem.W.mg_of X G a38
  have k__law_pairs := k38
  have F__law_made_of := fun_mk (st := s__law_made_of) l39 c39 k39
  have b__law_made_of := F__law_made_of.binds (ps := ["own", "one", "other"]) fun _ _ _ _ _ _ us hl => match us, hl with | [_, _, _], _ => rfl
  have m__law_made_of := PySem.W.mg_of X G a39
  have k__law_made_of := k39
  have F_law := fun_mk (st := s_law) l40 c40 k40
  have c : EdC K C := ⟨⟨pg, hd, po, sa⟩, nnumber, n_kinds, n_doors, n_declared, n_by_name, n_above⟩
  have FI : FunD K "__init__" "Edition.__init__" (defArgs s_Edition___init__) (defBody s_Edition___init__) (defScope s_Edition___init__) [] [("number", V.ref aF)] fI _ := ⟨⟨ocI, odI, .none, .ref kD, dcI, pmI, anI, cdI, ctI, slI, rfl, lI, cI, .inl ⟨rfl, rfl⟩, .inr ⟨kD, rfl, fun q hq => by rw [show q = (("number" : Str), V.ref aF) from List.mem_singleton.mp hq]; exact ⟨_, kq, rfl⟩⟩⟩, kI⟩
  obtain ⟨dsv, rm_init, bm_init⟩ := binds_init FI
  have mk : Mk K C fI := ⟨mkC, aI, iI, kcC⟩
  have m_Edition := PySem.W.mg_of X G aC
  have F_Edition_kind_fits := fun_mk (st := s_Edition_kind_fits) lm0 cm0 km0
  have bm_kind_fits := F_Edition_kind_fits.binds (ps := ["self", "given", "wanted"]) fun _ _ _ _ _ _ us hl => match us, hl with | [_, _, _], _ => rfl
  have m_kind_fits : Meth K C "kind_fits" fm0 := ⟨am0, im0, km0⟩
  have M : Mn K mg aT aF := ⟨⟨_, PySem.W.mg_of X G eLETTERS⟩, ⟨_, PySem.W.mg_of X G eLONGEST⟩, PySem.W.mg_of X G eTAKEN, fun H => .inr ⟨_, _, _, qTAKEN, rfl, rfl, (by show 2 ≤ sizeLine; decide), .cons ⟨_, rfl⟩ (.cons ⟨_, rfl⟩ .nil)⟩, ⟨_, PySem.W.mg_of X G eMOST_KINDS⟩, ⟨_, PySem.W.mg_of X G eMOST_DOORS⟩, ⟨_, PySem.W.mg_of X G eMOST_ROWS⟩, ⟨_, PySem.W.mg_of X G eMOST_CALLED⟩, ⟨_, PySem.W.mg_of X G eDEEPEST⟩, PySem.W.mg_of X G eFIRST, fun H => .inr ⟨_, _, _, qFIRST, rfl, rfl, (by show 3 ≤ sizeLine; decide), .cons ⟨_, rfl⟩ (.cons ⟨_, rfl⟩ (.cons ⟨_, rfl⟩ .nil))⟩⟩
  have B : Bn mg := ⟨PySem.W.mg_none_of X G z0, PySem.W.mg_none_of X G z1, PySem.W.mg_none_of X G z2, PySem.W.mg_none_of X G z3, PySem.W.mg_none_of X G z4, PySem.W.mg_none_of X G z5, PySem.W.mg_none_of X G z6, PySem.W.mg_none_of X G z7, PySem.W.mg_none_of X G z8, PySem.W.mg_none_of X G z9, PySem.W.mg_none_of X G z10, PySem.W.mg_none_of X G z11⟩
  refine ⟨PySem.W.fnOf "law" "law" (defArgs s_law) (defBody s_law) (defScope s_law) .none kV40 dc40 pm40 an40 cd40 ct40, fun s v => .of_eq rfl, fun base _ _ => ?_⟩
  have c_kinds_directly_in : Cal l.prog w K mg base "kinds_directly_in" 1 ["kind"] spInner := ⟨_, _, ok_inner F_kinds_directly_in, m_kinds_directly_in, k_kinds_directly_in, b_kinds_directly_in⟩
  have c_depth : Cal l.prog w K mg base "depth" 2 ["kind"] spDepth := ⟨_, _, ok_depth F_depth c_kinds_directly_in, m_depth, k_depth, b_depth⟩
  have c_kinds_in : Cal l.prog w K mg base "kinds_in" 2 ["kind"] spKindsIn := ⟨_, _, ok_kinds_in F_kinds_in c_kinds_directly_in, m_kinds_in, k_kinds_in, b_kinds_in⟩
  have c_calls_in : Cal l.prog w K mg base "calls_in" 3 ["kind"] spCallsIn := ⟨_, _, ok_calls_in F_calls_in c_kinds_in, m_calls_in, k_calls_in, b_calls_in⟩
  have c_names_in : Cal l.prog w K mg base "names_in" 3 ["kind"] spNamesIn := ⟨_, _, ok_names_in F_names_in c_kinds_in, m_names_in, k_names_in, b_names_in⟩
  have c_has_calls_in_calls : Cal l.prog w K mg base "has_calls_in_calls" 4 ["kind"] spCcc := ⟨_, _, ok_ccc B F_has_calls_in_calls c_calls_in, m_has_calls_in_calls, k_has_calls_in_calls, b_has_calls_in_calls⟩
  have c_is_name : Cal l.prog w K mg base "is_name" 1 ["text"] spIsName := ⟨_, _, ok_is_name B M F_is_name, m_is_name, k_is_name, b_is_name⟩
  have c_any_twice : Cal l.prog w K mg base "any_twice" 1 ["names"] (spTwice K) := ⟨_, _, ok_twice B F_any_twice, m_any_twice, k_any_twice, b_any_twice⟩
  have c_kind_is_sound : Cal l.prog w K mg base "kind_is_sound" 5 ["declared", "kind"] spSound := ⟨_, _, ok_sound B M F_kind_is_sound c_depth c_calls_in c_names_in c_has_calls_in_calls, m_kind_is_sound, k_kind_is_sound, b_kind_is_sound⟩
  have c_names_are_sound : Cal l.prog w K mg base "names_are_sound" 2 ["names"] (spNamesSound K) := ⟨_, _, ok_names_sound B M F_names_are_sound c_is_name c_any_twice, m_names_are_sound, k_names_are_sound, b_names_are_sound⟩
  have c_directly_above : Cal l.prog w K mg base "directly_above" 1 ["declaration"] spDirect := ⟨_, _, ok_direct F_directly_above, m_directly_above, k_directly_above, b_directly_above⟩
  have c_names_above : Cal l.prog w K mg base "names_above" 2 ["declared", "name"] spNamesAbove := ⟨_, _, ok_names_above B F_names_above c_directly_above, m_names_above, k_names_above, b_names_above⟩
  have c_table_above : Cal l.prog w K mg base "table_above" 3 ["declared"] spTable := ⟨_, _, ok_table F_table_above c_names_above, m_table_above, k_table_above, b_table_above⟩
  have c_all_declared : Cal l.prog w K mg base "all_declared" 4 ["above", "kind"] spAllDecl := ⟨_, _, ok_all_decl B F_all_declared c_names_in, m_all_declared, k_all_declared, b_all_declared⟩
  have c_pairs_asked : Cal l.prog w K mg base "pairs_asked" 1 ["above", "given", "wanted"] spAsked := ⟨_, _, ok_asked B F_pairs_asked, m_pairs_asked, k_pairs_asked, b_pairs_asked⟩
  have c_fits_by : Cal l.prog w K mg base "fits_by" 5 ["above", "given", "wanted"] spFits := ⟨_, _, ok_fits B F_fits_by c_all_declared c_pairs_asked, m_fits_by, k_fits_by, b_fits_by⟩
  have c_first_declared : Cal l.prog w K mg base "first_declared" 1 ["kinds"] (spFirst K) := ⟨_, _, ok_first F_first_declared, m_first_declared, k_first_declared, b_first_declared⟩
  have c_above_is_sound : Cal l.prog w K mg base "above_is_sound" 2 ["declared", "name", "declaration", "above"] spAboveOk := ⟨_, _, ok_above_sound B F_above_is_sound c_directly_above c_any_twice, m_above_is_sound, k_above_is_sound, b_above_is_sound⟩
  have c_has_fields_of : Cal l.prog w K mg base "has_fields_of" 6 ["above", "fields", "wanted"] spHasF := ⟨_, _, ok_has_fields F_has_fields_of c_fits_by, m_has_fields_of, k_has_fields_of, b_has_fields_of⟩
  have c_record_is_sound : Cal l.prog w K mg base "record_is_sound" 7 ["declared", "declaration", "above"] spRecOk := ⟨_, _, ok_record B F_record_is_sound c_names_are_sound c_kind_is_sound c_has_fields_of, m_record_is_sound, k_record_is_sound, b_record_is_sound⟩
  have c_choice_is_sound : Cal l.prog w K mg base "choice_is_sound" 6 ["declared", "declaration"] spChOk := ⟨_, _, ok_choice B F_choice_is_sound c_names_are_sound c_kind_is_sound, m_choice_is_sound, k_choice_is_sound, b_choice_is_sound⟩
  have c_declaration_is_sound : Cal l.prog w K mg base "declaration_is_sound" 8 ["declared", "name", "declaration", "above"] spDeclOk := ⟨_, _, ok_declaration F_declaration_is_sound c_is_name c_above_is_sound c_record_is_sound c_choice_is_sound, m_declaration_is_sound, k_declaration_is_sound, b_declaration_is_sound⟩
  have c_door_is_sound : Cal l.prog w K mg base "door_is_sound" 6 ["declared", "door"] spDoorOk := ⟨_, _, ok_door B F_door_is_sound c_is_name c_names_are_sound c_kind_is_sound, m_door_is_sound, k_door_is_sound, b_door_is_sound⟩
  have c_check_lengths : Cal l.prog w K mg base "check_lengths" 1 ["kinds", "doors"] (spChkLen K) := ⟨_, _, ok_check_lengths B M F_check_lengths, m_check_lengths, k_check_lengths, b_check_lengths⟩
  have c_check_kinds : Cal l.prog w K mg base "check_kinds" 9 ["kinds"] (spChkKinds K) := ⟨_, _, ok_check_kinds B F_check_kinds c_first_declared c_table_above c_declaration_is_sound, m_check_kinds, k_check_kinds, b_check_kinds⟩
  have c_check_doors : Cal l.prog w K mg base "check_doors" 9 ["kinds", "doors"] (spChkDoors K) := ⟨_, _, ok_check_doors B F_check_doors c_first_declared c_door_is_sound, m_check_doors, k_check_doors, b_check_doors⟩
  have f_init := ok_init (P := l.prog) (w := w) (mg := mg) (base := base) B c FI c_check_lengths c_check_kinds c_check_doors c_table_above
  have c__law_draw : Cal l.prog w K mg base "_law_draw" 1 ["tray", "many"] spDraw := ⟨_, _, ok_draw F__law_draw, m__law_draw, k__law_draw, b__law_draw⟩
  have c__law_tray : Cal l.prog w K mg base "_law_tray" 1 ["script"] (spTray K) := ⟨_, _, ok_tray B F__law_tray, m__law_tray, k__law_tray, b__law_tray⟩
  have c__law_name : Cal l.prog w K mg base "_law_name" 2 ["tray", "used"] spName := ⟨_, _, ok_name B F__law_name c__law_draw, m__law_name, k__law_name, b__law_name⟩
  have c__law_names : Cal l.prog w K mg base "_law_names" 3 ["tray", "many", "used"] spNames := ⟨_, _, ok_names B F__law_names c__law_name, m__law_names, k__law_names, b__law_names⟩
  have c__law_flat_kind : Cal l.prog w K mg base "_law_flat_kind" 6 ["tray", "names", "deep"] (spFlatTo 5) :=
    ⟨_, _, FnOk_any fun e le => (ok_flat B F__law_flat_kind m__law_flat_kind b__law_flat_kind c__law_draw e).mono (by omega), m__law_flat_kind, k__law_flat_kind, b__law_flat_kind⟩
  have c__law_kind : Cal l.prog w K mg base "_law_kind" 11 ["tray", "names", "deep"] (spKind 4) := ⟨_, _, ok_kind B F__law_kind m__law_kind b__law_kind c__law_draw c__law_flat_kind 4 (by decide), m__law_kind, k__law_kind, b__law_kind⟩
  have c__law_lesser : Cal l.prog w K mg base "_law_lesser" 6 ["tray", "kind", "under"] (spLess 4) := ⟨_, _, ok_lesser B F__law_lesser m__law_lesser b__law_lesser c__law_draw 4, m__law_lesser, k__law_lesser, b__law_lesser⟩
  have c__law_record : Cal l.prog w K mg base "_law_record" 12 ["tray", "names", "done", "under"] spRecord := ⟨_, _, ok_lrecord B F__law_record c__law_draw c__law_names c__law_kind c__law_lesser, m__law_record, k__law_record, b__law_record⟩
  have c__law_declaration : Cal l.prog w K mg base "_law_declaration" 13 ["tray", "names", "done", "under"] spDecl := ⟨_, _, ok_ldeclaration B F__law_declaration c__law_draw c__law_names c__law_kind c__law_record, m__law_declaration, k__law_declaration, b__law_declaration⟩
  have c__law_kinds : Cal l.prog w K mg base "_law_kinds" 14 ["tray", "most"] spKinds := ⟨_, _, ok_kinds B F__law_kinds c__law_draw c__law_names c__law_declaration, m__law_kinds, k__law_kinds, b__law_kinds⟩
  have f_kind_fits := ok_kind_fits (P := l.prog) (w := w) (mg := mg) (base := base) c F_Edition_kind_fits c_fits_by
  have f_fits := ok_fits_def (P := l.prog) (w := w) (mg := mg) (base := base) c F_fits m_kind_fits f_kind_fits bm_kind_fits
  have c_fits : Cal l.prog w K mg base "fits" 7 ["edition", "given", "wanted"] (spKindFits K C) := ⟨_, _, f_fits, m_fits, k_fits, b_fits⟩
  have c__law_flat3 : Cal l.prog w K mg base "_law_flat_kind" 5 ["tray", "names", "deep"] (spFlat 3) := ⟨_, _, (ok_flat B F__law_flat_kind m__law_flat_kind b__law_flat_kind c__law_draw 3).mono (by omega), m__law_flat_kind, k__law_flat_kind, b__law_flat_kind⟩
  have c__law_less3 : Cal l.prog w K mg base "_law_lesser" 5 ["tray", "kind", "under"] (spLess 3) := ⟨_, _, ok_lesser B F__law_lesser m__law_lesser b__law_lesser c__law_draw 3, m__law_lesser, k__law_lesser, b__law_lesser⟩
  have c__law_pairs : Cal l.prog w K mg base "_law_pairs" 1 ["kinds"] spPairs := ⟨_, _, ok_pairs B F__law_pairs, m__law_pairs, k__law_pairs, b__law_pairs⟩
  have c__law_family : Cal l.prog w K mg base "_law_family" 6 ["tray", "names", "under"] spFam := ⟨_, _, ok_family B F__law_family c__law_draw c__law_flat3 c__law_less3, m__law_family, k__law_family, b__law_family⟩
  have c__law_made_of : Cal l.prog w K mg base "_law_made_of" 8 ["own", "one", "other"] (spMade K C) := ⟨_, _, ok_made F__law_made_of c_fits, m__law_made_of, k__law_made_of, b__law_made_of⟩
  exact ok_law B M c F_law c__law_tray c__law_kinds c__law_pairs c__law_family c_fits c__law_made_of mk f_init m_Edition bm_init rm_init
theorem walk {l : PySem.W.OpenLaw} {q : Program} {loose : List Str} {XP : (Str → Option Value) → Heap → Prop} {YP : World → Heap → Prop} {d : DefRec} {K : Params → PySem.W.Frag}
    (hn : l.most = some 63) (hdf : d.params.defaults = []) (hY : ∀ (w : World) (h : Heap), YP w h → (K w.params).In h)
    (F : ∀ (w : World) (mg : Str → Option Value) (fa : Addr) (h : Heap), (K w.params).In h → h.Ns mainGlobals mg → mg d.name = some (.ref fa) →
      ∃ fd : FuncData, (∀ (s : Shared) (u : Value), BindsTo s fd ⟨[u], []⟩ [("script", u)]) ∧ ∀ base : Heap, (K w.params).In base → base.Ns mainGlobals mg →
        FnOk l.prog w (K w.params) mg base CX0 16 fa fd ["script"] (spLaw (K w.params))) :
    PySem.W.WalkO q loose XP YP l.row.toRowW d [] (fun f vs => PySem.call f vs) :=
  L2.walk_of (n := 63) (k := 16) (x := "script") (CX := fun _ => CX0) (sp := fun w => spLaw (K w.params)) hn (by decide) hdf ⟨rfl, by decide, by decide⟩ hY F
    (fun _ _ a ns hl _ hS => ⟨a, ns, rfl, hS, hl, fun _ => rfl⟩) fun _ _ _ _ _ z => z
end My
open PySem PySem.W PyProof.Rows
set_option maxRecDepth 100000 in
set_option maxHeartbeats 0 in
theorem PySem.Challenge.cw_stillruns_k08_whole_fits_is_an_order_holds : PySem.Challenge.rw_stillruns_k08_whole_fits_is_an_order.Holds := by
  w_on; o_law; k_head; (case hw => w_witness2)
  k_fill
  refine My.walk (l := PySem.Challenge.rw_stillruns_k08_whole_fits_is_an_order) rfl rfl (fun w h Y => PySem.W.kIn_of Y) ?F
  case F =>
    intro w mg fa h KX G hmg
    refine' My.all_mk KX G hmg ?a0 ?l0 ?c0 ?k0 ?a1 ?l1 ?c1 ?k1 ?a2 ?l2 ?c2 ?k2 ?a3 ?l3 ?c3 ?k3 ?a4 ?l4 ?c4 ?k4 ?a5 ?l5 ?c5 ?k5 ?a6 ?l6 ?c6 ?k6 ?a7 ?l7 ?c7 ?k7 ?a8 ?l8 ?c8 ?k8 ?a9 ?l9 ?c9 ?k9 ?a10 ?l10 ?c10 ?k10 ?a11 ?l11 ?c11 ?k11 ?a12 ?l12 ?c12 ?k12 ?a13 ?l13 ?c13 ?k13 ?a14 ?l14 ?c14 ?k14 ?a15 ?l15 ?c15 ?k15 ?a16 ?l16 ?c16 ?k16 ?a17 ?l17 ?c17 ?k17 ?a18 ?l18 ?c18 ?k18 ?a19 ?l19 ?c19 ?k19 ?a20 ?l20 ?c20 ?k20 ?a21 ?l21 ?c21 ?k21 ?a22 ?l22 ?c22 ?k22 ?a23 ?l23 ?c23 ?k23 ?a24 ?l24 ?c24 ?k24 ?a25 ?l25 ?c25 ?k25 ?a26 ?l26 ?c26 ?k26 ?a27 ?l27 ?c27 ?k27 ?a28 ?l28 ?c28 ?k28 ?a29 ?l29 ?c29 ?k29 ?a30 ?l30 ?c30 ?k30 ?a31 ?l31 ?c31 ?k31 ?a32 ?l32 ?c32 ?k32 ?a33 ?l33 ?c33 ?k33 ?a34 ?l34 ?c34 ?k34 ?a35 ?l35 ?c35 ?k35 ?a36 ?l36 ?c36 ?k36 ?a37 ?l37 ?c37 ?k37 ?a38 ?l38 ?c38 ?k38 ?a39 ?l39 ?c39 ?k39 ?a40 ?l40 ?c40 ?k40 ?aC ?aI ?iI ?lI ?cI ?kI ?kq ?pg ?hd ?po ?sa ?mkC ?kcC ?nnumber ?n_kinds ?n_doors ?n_declared ?n_by_name ?n_above ?am0 ?im0 ?lm0 ?cm0 ?km0 ?eLETTERS ?eLONGEST ?eMOST_KINDS ?eMOST_DOORS ?eMOST_ROWS ?eMOST_CALLED ?eDEEPEST ?eTAKEN ?qTAKEN ?eFIRST ?qFIRST ?z0 ?z1 ?z2 ?z3 ?z4 ?z5 ?z6 ?z7 ?z8 ?z9 ?z10 ?z11
    (case a0 => k_is)
    (case l0 => k_is)
    (case c0 => k_is)
    (case k0 => k_is)
    (case a1 => k_is)
    (case l1 => k_is)
    (case c1 => k_is)
    (case k1 => k_is)
    (case a2 => k_is)
    (case l2 => k_is)
    (case c2 => k_is)
    (case k2 => k_is)
    (case a3 => k_is)
    (case l3 => k_is)
    (case c3 => k_is)
    (case k3 => k_is)
    (case a4 => k_is)
    (case l4 => k_is)
    (case c4 => k_is)
    (case k4 => k_is)
    (case a5 => k_is)
    (case l5 => k_is)
    (case c5 => k_is)
    (case k5 => k_is)
    (case a6 => k_is)
    (case l6 => k_is)
    (case c6 => k_is)
    (case k6 => k_is)
    (case a7 => k_is)
    (case l7 => k_is)
    (case c7 => k_is)
    (case k7 => k_is)
    (case a8 => k_is)
    (case l8 => k_is)
    (case c8 => k_is)
    (case k8 => k_is)
    (case a9 => k_is)
    (case l9 => k_is)
    (case c9 => k_is)
    (case k9 => k_is)
    (case a10 => k_is)
    (case l10 => k_is)
    (case c10 => k_is)
    (case k10 => k_is)
    (case a11 => k_is)
    (case l11 => k_is)
    (case c11 => k_is)
    (case k11 => k_is)
    (case a12 => k_is)
    (case l12 => k_is)
    (case c12 => k_is)
    (case k12 => k_is)
    (case a13 => k_is)
    (case l13 => k_is)
    (case c13 => k_is)
    (case k13 => k_is)
    (case a14 => k_is)
    (case l14 => k_is)
    (case c14 => k_is)
    (case k14 => k_is)
    (case a15 => k_is)
    (case l15 => k_is)
    (case c15 => k_is)
    (case k15 => k_is)
    (case a16 => k_is)
    (case l16 => k_is)
    (case c16 => k_is)
    (case k16 => k_is)
    (case a17 => k_is)
    (case l17 => k_is)
    (case c17 => k_is)
    (case k17 => k_is)
    (case a18 => k_is)
    (case l18 => k_is)
    (case c18 => k_is)
    (case k18 => k_is)
    (case a19 => k_is)
    (case l19 => k_is)
    (case c19 => k_is)
    (case k19 => k_is)
    (case a20 => k_is)
    (case l20 => k_is)
    (case c20 => k_is)
    (case k20 => k_is)
    (case a21 => k_is)
    (case l21 => k_is)
    (case c21 => k_is)
    (case k21 => k_is)
    (case a22 => k_is)
    (case l22 => k_is)
    (case c22 => k_is)
    (case k22 => k_is)
    (case a23 => k_is)
    (case l23 => k_is)
    (case c23 => k_is)
    (case k23 => k_is)
    (case a24 => k_is)
    (case l24 => k_is)
    (case c24 => k_is)
    (case k24 => k_is)
    (case a25 => k_is)
    (case l25 => k_is)
    (case c25 => k_is)
    (case k25 => k_is)
    (case a26 => k_is)
    (case l26 => k_is)
    (case c26 => k_is)
    (case k26 => k_is)
    (case a27 => k_is)
    (case l27 => k_is)
    (case c27 => k_is)
    (case k27 => k_is)
    (case a28 => k_is)
    (case l28 => k_is)
    (case c28 => k_is)
    (case k28 => k_is)
    (case a29 => k_is)
    (case l29 => k_is)
    (case c29 => k_is)
    (case k29 => k_is)
    (case a30 => k_is)
    (case l30 => k_is)
    (case c30 => k_is)
    (case k30 => k_is)
    (case a31 => k_is)
    (case l31 => k_is)
    (case c31 => k_is)
    (case k31 => k_is)
    (case a32 => k_is)
    (case l32 => k_is)
    (case c32 => k_is)
    (case k32 => k_is)
    (case a33 => k_is)
    (case l33 => k_is)
    (case c33 => k_is)
    (case k33 => k_is)
    (case a34 => k_is)
    (case l34 => k_is)
    (case c34 => k_is)
    (case k34 => k_is)
    (case a35 => k_is)
    (case l35 => k_is)
    (case c35 => k_is)
    (case k35 => k_is)
    (case a36 => k_is)
    (case l36 => k_is)
    (case c36 => k_is)
    (case k36 => k_is)
    (case a37 => k_is)
    (case l37 => k_is)
    (case c37 => k_is)
    (case k37 => k_is)
    (case a38 => k_is)
    (case l38 => k_is)
    (case c38 => k_is)
    (case k38 => k_is)
    (case a39 => k_is)
    (case l39 => k_is)
    (case c39 => k_is)
    (case k39 => k_is)
    (case a40 => k_is)
    (case l40 => k_is)
    (case c40 => k_is)
    (case k40 => k_is)
    (case aC => k_is)
    (case aI => k_is)
    (case iI => k_is)
    (case lI => k_is)
    (case cI => k_is)
    (case kI => k_is)
    (case kq => k_is)
    (case pg => k_is)
    (case hd => k_is)
    (case po => k_is)
    (case sa => k_is)
    (case mkC => k_is)
    (case kcC => k_is)
    (case nnumber => k_is)
    (case n_kinds => k_is)
    (case n_doors => k_is)
    (case n_declared => k_is)
    (case n_by_name => k_is)
    (case n_above => k_is)
    (case am0 => k_is)
    (case im0 => k_is)
    (case lm0 => k_is)
    (case cm0 => k_is)
    (case km0 => k_is)
    (case eLETTERS => k_is)
    (case eLONGEST => k_is)
    (case eMOST_KINDS => k_is)
    (case eMOST_DOORS => k_is)
    (case eMOST_ROWS => k_is)
    (case eMOST_CALLED => k_is)
    (case eDEEPEST => k_is)
    (case eTAKEN => k_is)
    (case qTAKEN => k_is)
    (case eFIRST => k_is)
    (case qFIRST => k_is)
    (case z0 => k_is)
    (case z1 => k_is)
    (case z2 => k_is)
    (case z3 => k_is)
    (case z4 => k_is)
    (case z5 => k_is)
    (case z6 => k_is)
    (case z7 => k_is)
    (case z8 => k_is)
    (case z9 => k_is)
    (case z10 => k_is)
    (case z11 => k_is)
