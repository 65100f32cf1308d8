import PyProof.Rows.All
import Wide.All
import OpenK.AllK
import Wide.FinOn
import HandS.Base
import HandS.Call
import HandS.List
import HandS.Comp
import HandS.Ends
import HandS.Iter
import HandS.Words
import HandS.WordsList
import HandS.Star
import HandS.More
import HandS.ForMost
import HandS.IsInst
import HandS.TupAny
import PySem.Challenge.RW_stillruns_k01_kinds_and_depth
set_option Elab.async false
set_option linter.unusedVariables false
set_option maxRecDepth 100000
namespace My
open PySem L2
/-! a def that stands behind the top, by what a caller needs of it -/
structure Cal (P : Program) (w : World) (K : PySem.W.Frag) (mg : Str → Option Value) (base : Heap) (x : Str) (n : Nat) (ps : List Str) (sp : Sp) : Prop where
  ex : ∃ (f : Addr) (fd : FuncData), FnOk P w K mg base CX0 n f fd ps sp ∧
    mg x = some (.ref f) ∧ PySem.W.keepIn K (.ref f) = true ∧ Binds K fd ps []
/-- how one keyword binds (the only parameter) -/
structure CalK (P : Program) (w : World) (K : PySem.W.Frag) (mg : Str → Option Value) (base : Heap) (x : Str) (n : Nat) (y : Str) (sp : Sp) : Prop where
  ex : ∃ (f : Addr) (fd : FuncData), FnOk P w K mg base CX0 n f fd [y] sp ∧
    mg x = some (.ref f) ∧ PySem.W.keepIn K (.ref f) = true ∧ KBinds K fd [y] [y] (fun us ws => us ++ ws) (fun vs zs => vs ++ zs)
section
variable {X : Cx} {x : Str} {n m : Nat} {ps : List Str} {sp : Sp} {es : List Expr} {e : Expr} {t tk : TA} {p pos : Pos} {y : Str} {kws : List Keyword}
theorem kbinds1 {K : PySem.W.Frag} {x qual : Str} {st : Stmt} {f : Addr} {fd : FuncData} {y : Str} (F : Fun K x qual st f fd)
    (h1 : ∀ (kV doc pm : Value) (an : Option Addr) (cdv ct u : Value), bindArgs (PySem.W.fnOf x qual (defArgs st) (defBody st) (defScope st) .none kV doc pm an cdv ct) ⟨[u], []⟩ = pure [(y, u)])
    (h2 : ∀ (kV doc pm : Value) (an : Option Addr) (cdv ct u : Value), bindArgs (PySem.W.fnOf x qual (defArgs st) (defBody st) (defScope st) .none kV doc pm an cdv ct) ⟨[], [(y, u)]⟩ = pure [(y, u)]) :
    KBinds K fd [y] [y] (fun us ws => us ++ ws) (fun vs zs => vs ++ zs) := by
  obtain ⟨oc, od, kV, doc, pm, an, cdv, ct, osl, rfl, lk, hcd⟩ := F.ex
  refine ⟨fun s us ws _ hl => ?_, fun r1 r2 => r1.append r2⟩
  match us, ws, hl with
  | [u], [], _ => exact .of_eq (h1 kV doc pm an cdv ct u)
  | [], [u], _ => exact .of_eq (h2 kV doc pm an cdv ct u)
theorem pc (C : Cal X.prog X.w X.K X.mg X.base x n ps sp) (hr : Room n X.A) (ha : PA X (e :: es) t) (hg : Gl X x := by rfl)
    (hdb : (x == ("__debug__" : Str)) = false := by decide)
    (he : starEach (e :: es) X.env = (false, eval e X.env) :: starEach es X.env := by rfl)
    (hpl : (backTo pos (starEach es X.env)).any (·.1) = false := by rfl) :
    PE X (.Call (.Name x p) (e :: es) [] pos) (tCall sp [] E0 t) := by
  obtain ⟨f, fd, F, hm, hk, hb⟩ := C.ex
  exact pe_call F hr hg hm hk hb .nil pass0 ha hdb he hpl
theorem pck0 (C : CalK X.prog X.w X.K X.mg X.base x n y sp) (hr : Room n X.A) (hkw : PK X kws tk) (hg : Gl X x := by rfl)
    (hdb : (x == ("__debug__" : Str)) = false := by decide)
    (hall : (backToKw pos (keywordEach kws X.env)).all (·.1.isSome) = true := by rfl)
    (hks : (backToKw pos (keywordEach kws X.env)).filterMap (·.1) = [y] := by rfl)
    (hpl : ((backTo pos (starEach [] X.env)).any (·.1) || (backToKw pos (keywordEach kws X.env)).any (·.1.isNone)) = false := by rfl) :
    PE X (.Call (.Name x p) [] kws pos) (fun σ H Q => tk σ H fun zs H2 => sp zs H2 Q E0) := by
  obtain ⟨f, fd, F, hm, hk, hb⟩ := C.ex
  refine ⟨fun pins s σ H Q I h => ?_⟩
  refine wpAny_Call_Name_kw (ld_glob I hg hm ?_ hdb)
  refine PySem.W.callWith_KW0 (h₀ := X.base) I.ok.mod.kin hk hall ?_ hpl
  refine thn (hkw.run pos pins s σ H _ I h) fun ws s2 ⟨zs, H2, I2, rz, q2⟩ => ⟨I2.kIn, ?_⟩
  rw [hks]
  exact run_fnk (us := []) (vs := []) F hr hb pass0 I2 .nil rz q2
end
/-! the rules that speak of the written part, told its name (so they stand in a comprehension's block, too) -/
section
variable {X : Cx} (K : PySem.W.Frag) (h : X.K = K)
include h
theorem ixL : IxR X (rIxL K) := by subst h; exact ix_list
theorem ixT : IxR X (rIxT K) := by subst h; exact ix_tup
theorem inSeq : OpR X (compareOp .In) (rIn K false) := by subst h; exact op_in_seq
theorem notInSeq : OpR X (compareOp .NotIn) (rIn K true) := by subst h; exact op_notIn_seq
theorem eqD (hu : X.A.units + 64 < cLine) : OpR X (compareOp .Eq) (rEqD K) := by subst h; exact op_eqD hu
theorem neD (hu : X.A.units + 64 < cLine) : OpR X (compareOp .NotEq) (rNeD K) := by subst h; exact op_neD hu
theorem lenSeq : CallR X (.builtin "len") (fun xs H Q => ∃ p ys, xs = [.ref p] ∧ (SqL K H p ys ∨ SqT K H p ys) ∧ Q (.int ys.length) H) := by
  subst h; exact call_len_seq
theorem listOf : CallR X (.type "list") (fun xs H Q => ∃ p ys, xs = [.ref p] ∧ (SqL K H p ys ∨ SqT K H p ys) ∧
    ∀ l, H l = none → Q (.ref l) (upd H l (.lst ys))) := by subst h; exact call_list_of
theorem tupleOf : CallR X (.type "tuple") (fun xs H Q => ∃ p ys, xs = [.ref p] ∧
    ((SqL K H p ys ∧ ∀ l, H l = none → Q (.ref l) (upd H l (.tup ys))) ∨ (SqT K H p ys ∧ Q (.ref p) H))) := by subst h; exact call_tuple_of
theorem isInst : CallR X (.builtin "isinstance") (rIsi K) := by subst h; exact call_isi
theorem isInstT : CallR X (.builtin "isinstance") (rIsiT K) := by subst h; exact call_isiT
theorem sumOf (hc : X.calm = true) : CallR X (.builtin "sum") (rSum K) := by subst h; exact cr_sum hc
theorem maxOf (hc : X.calm = true) : CallR X (.builtin "max") (rMax K) := by subst h; exact cr_max hc
theorem minOf (hc : X.calm = true) : CallR X (.builtin "min") (rMin K) := by subst h; exact cr_min hc
theorem allOf (hc : X.calm = true) : CallR X (.builtin "all") (rAll K) := by subst h; exact cr_all hc
theorem anyOf (hc : X.calm = true) : CallR X (.builtin "any") (rAny K) := by subst h; exact cr_any hc
theorem slL : SlR X (rSlL K) := by subst h; exact sl_list
theorem slT : SlR X (rSlA K) := by subst h; exact sl_tupA
theorem catT : OpR X (binaryOp .Add) (rCatA K) := by subst h; exact op_catA
theorem truth {a : Expr} {ta : TE} (ha : PE X a ta)
    (he : ∀ whole, isTrue a X.env whole = (do let v ← whole; standAt a.pos; holding [v] (truthy v)) := by intro _; rfl) :
    PT X a (fun σ H Q => ta σ H fun x H' => ∃ k, TruV K x H' k ∧ Q k H') := by subst h; exact pt_truth ha he
theorem piL {tg l : Expr} {tl : TE} (hl : PE X l tl) : PI X tg l (iList K tl) := by subst h; exact pi_list hl
theorem piT {tg l : Expr} {tl : TE} (hl : PE X l tl) : PI X tg l (iTup K tl) := by subst h; exact pi_tup hl
theorem star {e : Expr} {es : List Expr} {te : TE} {t : TA} {p : Pos} (he : PE X e te) (hr : PA X es t)
    (hs : starEach (.Starred e p :: es) X.env = (true, eval e X.env) :: starEach es X.env := by rfl) :
    PA X (.Starred e p :: es) (StX.tStar K te t) := by subst h; exact StX.pa_star he hr hs
end
/-- a text so many times (a few) -/
theorem op_mul_str {X : Cx} : OpR X (binaryOp .Mult) (fun x y H Q => ∃ (z : Str) (n : Int), x = .str z ∧ y = .int n ∧ 1 ≤ n ∧ n ≤ 1000 ∧ z.length ≤ 1000 ∧ Q (.str (Txt.mul z n)) H) := by
  intro pins s σ H x y v u Q I rx ry h
  obtain ⟨z, n, rfl, rfl, h1, h2, h3, q⟩ := h
  obtain ⟨t, rfl⟩ := rx
  obtain ⟨t2, rfl⟩ := ry
  refine SB.mul ⟨by simp; omega, fun _ _ => ?_, fun _ _ => ?_⟩ fun t' k => ⟨.str _, H, I.tok k, ⟨t', rfl⟩, q⟩
  · have e : (9223372036854775 : Int) ≤ (2 ^ 63 - 1) / n := by
      rw [Int.le_ediv_iff_mul_le (by omega)]
      omega
    omega
  · have e : z.length * n.toNat ≤ 1000 * 1000 := Nat.mul_le_mul h3 (by omega)
    unfold Builtin.Str.tooLong
    rw [sizeLine_eq]
    simp
    omega
theorem ifT {c : Bool} {A B : Prop} (hc : c = true) (h : A) : if c = true then A else B := by
  rw [if_pos hc]
  exact h
theorem ifF {c : Bool} {A B : Prop} (hc : c = false) (h : B) : if c = true then A else B := by
  rw [if_neg (by rw [hc]; exact Bool.false_ne_true)]
  exact h
theorem Paired.at {α β : Type} {F : α → β → Prop} : ∀ {l₁ : List α} {l₂ : List β}, Paired F l₁ l₂ → ∀ (i : Nat) (x : α), l₁[i]? = some x → ∃ y, l₂[i]? = some y ∧ F x y
  | _, _, .nil, i, x, h => by simp at h
  | _, _, .cons r t, 0, x, h => by
    have e := Option.some.inj h
    subst e
    exact ⟨_, rfl, r⟩
  | _, _, .cons r t, i + 1, x, h => Paired.at t i x h
theorem take_next {α : Type} {l : List α} {i : Nat} {x : α} (h : l[i]? = some x) : l.take i ++ [x] = l.take (i + 1) := by
  rw [List.take_succ, h]
  rfl
theorem tyL {K : PySem.W.Frag} {H : Hp} {p : Addr} {xs : List V} (h : H p = some (.lst xs)) : tyV K "list" (.ref p) H := Or.inl ⟨rfl, _, SqL.of h⟩
theorem seq_set {te : TE} {i : Nat} {u : TS} {D : Ends} {σ : St} {H : Hp} (h : te σ H fun x H1 => u D (σ.set i (some x)) H1) : tSeq (tAsg te (gName i)) u D σ H := h
theorem gn {i : Nat} {v : V} {σ : St} {H : Hp} {Q : St → Hp → Prop} (h : Q (σ.set i (some v)) H) : gName i v σ H Q := h
theorem seq_abs {t u : TS} {D : Ends} {σ : St} {H : Hp} (R : St → Hp → Prop) (hd : ∀ σ' H', R σ' H' → u D σ' H')
    (h : ∀ nx : St → Hp → Prop, (∀ σ' H', R σ' H' → nx σ' H') → t { D with nx := nx } σ H) : tSeq t u D σ H := h (u D) hd
end My
namespace My
open PySem L2
/-! general: heaps, pairs, lists -/
def But (d g : Addr) (H H' : Hp) : Prop := ∀ a o, a ≠ d → a ≠ g → H a = some o → H' a = some o
theorem But.refl (d g : Addr) (H : Hp) : But d g H H := fun _ _ _ _ h => h
theorem But.trans {d g : Addr} {H H1 H2 : Hp} (a : But d g H H1) (b : But d g H1 H2) : But d g H H2 := fun x o h1 h2 h => b x o h1 h2 (a x o h1 h2 h)
theorem But.new {d g p : Addr} {H H1 : Hp} {o : HO} (a : But d g H H1) (hp : H1 p = none) : But d g H (upd H1 p o) := fun x u h1 h2 h => by
  have q := a x u h1 h2 h
  rw [upd_ne (ne_of_none q hp)]
  exact q
theorem But.atD {d g : Addr} {H H1 : Hp} {o : HO} (a : But d g H H1) : But d g H (upd H1 d o) := fun x u h1 h2 h => by
  rw [upd_ne h1]
  exact a x u h1 h2 h
theorem But.atG {d g : Addr} {H H1 : Hp} {o : HO} (a : But d g H H1) : But d g H (upd H1 g o) := fun x u h1 h2 h => by
  rw [upd_ne h2]
  exact a x u h1 h2 h
theorem But.of_same {d g : Addr} {H H1 : Hp} (a : Same H H1) : But d g H H1 := fun x u _ _ h => a x u h
theorem same_new {H : Hp} {p : Addr} (h : H p = none) (o : HO) : Same H (upd H p o) := fun b u q => by rw [upd_ne (ne_of_none q h)]; exact q
theorem shaped_ints (ns : List Int) : SeqAt.shaped (.list (ns.map PyData.int)) = true := by
  have a : PyData.canLayAll0 (ns.map PyData.int) = true := by
    induction ns with
    | nil => rfl
    | cons x r ih => rw [List.map_cons, PyData.canLayAll0, ih]; rfl
  have b : PyData.depthAll (ns.map PyData.int) = 0 := by
    induction ns with
    | nil => rfl
    | cons x r ih => rw [List.map_cons, PyData.depthAll, ih (by rw [List.map_cons, PyData.canLayAll0] at a; exact (Bool.and_eq_true_iff.mp a).2)]; rfl
  unfold SeqAt.shaped
  rw [PyData.canLay0, a, PyData.depth, b]
  rfl
theorem dp_ints {K : PySem.W.Frag} {H : Hp} (ns : List Int) : DpAll K H (ns.map V.int) (ns.map PyData.int) := by
  induction ns with
  | nil => exact .nil
  | cons x r ih => exact .cons (.int x) ih
theorem eqv_nil (ns : List Int) : PyData.eqv (.list (ns.map PyData.int)) (.list []) = ns.isEmpty := by
  cases ns with
  | nil => simp [PyData.eqv, PyData.eqvAll]
  | cons x r => simp [PyData.eqv, PyData.eqvAll]
theorem last_of {ns : List Int} (h : ns ≠ []) : ∃ l x, ns = l ++ [x] := ⟨ns.dropLast, ns.getLast h, (List.dropLast_concat_getLast h).symm⟩
theorem abs_if (n : Int) : (if n < 0 then -n else n) = (n.natAbs : Int) := by split <;> omega
theorem Same.atNew {H0 H : Hp} {g : Addr} {o : HO} (s : Same H0 H) (h : H0 g = none) : Same H0 (upd H g o) := fun b u q => by
  rw [upd_ne (ne_of_none q h)]
  exact s b u q
def Tups (H H' : Hp) : Prop := ∀ a xs, H a = some (.tup xs) → H' a = some (.tup xs)
theorem Tups.of_same {H H' : Hp} (s : Same H H') : Tups H H' := fun a xs h => s a _ h
theorem Tups.refl (H : Hp) : Tups H H := fun _ _ h => h
theorem Tups.trans {H H1 H2 : Hp} (a : Tups H H1) (b : Tups H1 H2) : Tups H H2 := fun x xs h => b x xs (a x xs h)
theorem line5 {n : Nat} (h : n ≤ 100000) : n < sizeLine := Nat.lt_of_le_of_lt h (by decide)
theorem cut_last {K : List V} {v : V} (h : K ≠ []) : ¬ (HT.sIx (K ++ [v]).length 0 (some (-1)) = 0 ∧ HT.sIx (K ++ [v]).length (K ++ [v]).length none = (K ++ [v]).length) ∧ cutV (K ++ [v]) (some (-1)) none = [v] := by
  have e : HT.sIx (K ++ [v]).length 0 (some (-1)) = K.length := by
    show (if (-1 : Int) < 0 then ((-1 : Int) + ((K ++ [v]).length : Int)).toNat else min (-1 : Int).toNat (K ++ [v]).length) = K.length
    rw [if_pos (by decide), List.length_append, List.length_singleton]
    omega
  have e2 : HT.sIx (K ++ [v]).length (K ++ [v]).length none = K.length + 1 := by
    rw [HT.sIx_none, List.length_append, List.length_singleton]
  constructor
  · rintro ⟨a, _⟩
    rw [e] at a
    exact h (List.eq_nil_of_length_eq_zero a)
  · unfold cutV
    rw [e, e2, List.drop_left, Nat.add_sub_cancel_left]
    rfl
theorem pair_app {α β : Type} {F : α → β → Prop} : ∀ {l₁ r₁ : List α} {l₂ r₂ : List β}, Paired F l₁ l₂ → Paired F r₁ r₂ → Paired F (l₁ ++ r₁) (l₂ ++ r₂)
  | _, _, _, _, .nil, h => h
  | _, _, _, _, .cons r t, h => .cons r (pair_app t h)
theorem pair_snoc {α β : Type} {F : α → β → Prop} {x : α} : ∀ {l : List α} {ns : List β}, Paired F (l ++ [x]) ns → ∃ nl k, ns = nl ++ [k] ∧ Paired F l nl ∧ F x k
  | [], _, .cons r .nil => ⟨[], _, rfl, .nil, r⟩
  | _ :: l, _, .cons r t => by
    obtain ⟨nl, k, e, p, q⟩ := pair_snoc (l := l) t
    exact ⟨_ :: nl, k, by rw [e]; rfl, .cons r p, q⟩
theorem le_sum {k : Nat} : ∀ {ns : List Nat}, k ∈ ns → k ≤ ns.sum
  | x :: r, h => by
    rw [List.sum_cons]
    rcases List.mem_cons.mp h with rfl | h
    · omega
    · have := le_sum h
      omega
theorem sum_cast (ns : List Nat) : (ns.map fun n : Nat => (n : Int)).sum = (ns.sum : Int) := by
  induction ns with
  | nil => rfl
  | cons x r ih => rw [List.map_cons, List.sum_cons, ih, List.sum_cons]; omega
theorem Tups.upd {H : Hp} {p : Addr} {xs : List V} {o : HO} (h : H p = some (.lst xs)) : Tups H (upd H p o) := fun a ys e => by
  rw [upd_ne (ne_of e h (by intro z; cases z))]
  exact e
theorem pair_take {α β : Type} {F : α → β → Prop} : ∀ {l₁ : List α} {l₂ : List β} (k : Nat), Paired F l₁ l₂ → Paired F (l₁.take k) (l₂.take k)
  | _, _, 0, _ => .nil
  | _, _, _ + 1, .nil => .nil
  | _, _, k + 1, .cons r t => .cons r (pair_take k t)
theorem take_sum_le : ∀ (ns : List Nat) (k : Nat), (ns.take k).sum ≤ ns.sum
  | [], k => by simp
  | x :: r, 0 => by simp
  | x :: r, k + 1 => by
    have := take_sum_le r k
    rw [List.take_succ_cons, List.sum_cons, List.sum_cons]
    omega
theorem cut_ints (ns : List Int) (lo hi : Option Int) : ∃ ns' : List Int, cutV (ns.map V.int) lo hi = ns'.map V.int ∧ ns'.length ≤ ns.length := by
  refine ⟨(ns.drop (HT.sIx (ns.map V.int).length 0 lo)).take (HT.sIx (ns.map V.int).length (ns.map V.int).length hi - HT.sIx (ns.map V.int).length 0 lo), ?_, ?_⟩
  · unfold cutV
    rw [List.map_take, List.map_drop]
  · rw [List.length_take, List.length_drop]
    omega
theorem But.atNew {d g p : Addr} {H0 H : Hp} {o : HO} (b : But d g H0 H) (h : H0 p = none) : But d g H0 (upd H p o) := fun a u h1 h2 e => by
  rw [upd_ne (ne_of_none e h)]
  exact b a u h1 h2 e
end My
namespace My
open PySem L2
def top (i : Nat) : Stmt := PySem.Challenge.pw_stillruns_k01_kinds_and_depth.main.body.getD i (.Pass ⟨0, 0, 0, 0⟩)
abbrev s_kinds_directly_in : Stmt := top 1
theorem sc_kinds_directly_in : FnScope ["kind"] ["kind"] (defScope s_kinds_directly_in) := ⟨rfl, rfl, rfl, by decide +kernel, rfl, by decide +kernel, by decide +kernel⟩
abbrev s_depth : Stmt := top 2
theorem sc_depth : FnScope ["kind", "levels", "level", "outer", "inner"] ["kind"] (defScope s_depth) := ⟨rfl, rfl, rfl, by decide +kernel, rfl, by decide +kernel, by decide +kernel⟩
abbrev s__law_tray : Stmt := top 4
theorem sc__law_tray : FnScope ["script", "fold", "great", "cell", "much"] ["script"] (defScope s__law_tray) := ⟨rfl, rfl, rfl, by decide +kernel, rfl, by decide +kernel, by decide +kernel⟩
abbrev s__law_draw : Stmt := top 5
theorem sc__law_draw : FnScope ["tray", "many", "mixed", "found"] ["tray", "many"] (defScope s__law_draw) := ⟨rfl, rfl, rfl, by decide +kernel, rfl, by decide +kernel, by decide +kernel⟩
abbrev s__law_name : Stmt := top 6
theorem sc__law_name : FnScope ["tray", "used", "letters", "way", "letter", "name", "some", "words", "old", "at", "k", "one"] ["tray", "used"] (defScope s__law_name) := ⟨rfl, rfl, rfl, by decide +kernel, rfl, by decide +kernel, by decide +kernel⟩
abbrev s__law_names : Stmt := top 7
theorem sc__law_names : FnScope ["tray", "many", "used", "found", "k"] ["tray", "many", "used"] (defScope s__law_names) := ⟨rfl, rfl, rfl, by decide +kernel, rfl, by decide +kernel, by decide +kernel⟩
abbrev s__law_flat_kind : Stmt := top 8
theorem sc__law_flat_kind : FnScope ["tray", "names", "deep", "way"] ["tray", "names", "deep"] (defScope s__law_flat_kind) := ⟨rfl, rfl, rfl, by decide +kernel, rfl, by decide +kernel, by decide +kernel⟩
abbrev s__law_kind : Stmt := top 9
theorem sc__law_kind : FnScope ["tray", "names", "deep", "way", "many", "called", "k"] ["tray", "names", "deep"] (defScope s__law_kind) := ⟨rfl, rfl, rfl, by decide +kernel, rfl, by decide +kernel, by decide +kernel⟩
abbrev s__law_under : Stmt := top 10
theorem sc__law_under : FnScope ["kinds", "one", "other", "first", "seen", "waits", "declaration", "above", "name"] ["kinds", "one", "other"] (defScope s__law_under) := ⟨rfl, rfl, rfl, by decide +kernel, rfl, by decide +kernel, by decide +kernel⟩
abbrev s__law_within : Stmt := top 11
theorem sc__law_within : FnScope ["whole", "found", "waits", "one", "deep", "part"] ["whole"] (defScope s__law_within) := ⟨rfl, rfl, rfl, by decide +kernel, rfl, by decide +kernel, by decide +kernel⟩
abbrev s_law : Stmt := top 12
theorem sc_law : FnScope ["script", "tray", "names", "k", "one", "due", "found", "part", "deep"] ["script"] (defScope s_law) := ⟨rfl, rfl, rfl, by decide +kernel, rfl, by decide +kernel, by decide +kernel⟩
structure Bn (mg : Str → Option Value) : Prop where
  b_bool : mg "bool" = none
  b_int : mg "int" = none
  b_isinstance : mg "isinstance" = none
  b_len : mg "len" = none
  b_list : mg "list" = none
  b_max : mg "max" = none
  b_range : mg "range" = none
  b_tuple : mg "tuple" = none
end My
namespace My
open PySem L2
/-! the tray of draws -/
structure TrayP (H : Hp) (d g : Addr) (ns : List Int) (cur fold k n : Int) : Prop where
  d : H d = some (.lst [.ref g, .int cur, .int fold, .int k])
  g : H g = some (.lst (ns.map V.int))
  pos : ∀ x ∈ ns, 0 ≤ x
  c0 : 0 ≤ cur
  f0 : 0 ≤ fold
  f1 : fold < 2305843009213693951
  k0 : 0 ≤ k
  k1 : k ≤ n
def Tray (H : Hp) (d g : Addr) (n : Int) : Prop := ∃ ns cur fold k, TrayP H d g ns cur fold k n
theorem TrayP.ne {H : Hp} {d g : Addr} {ns : List Int} {cur fold k n : Int} (D : TrayP H d g ns cur fold k n) : d ≠ g := by
  refine ne_of D.d D.g fun e => ?_
  injection e with e
  cases ns with
  | nil => cases e
  | cons x r => rw [List.map_cons] at e; cases e
theorem TrayP.same {H H' : Hp} {d g : Addr} {ns : List Int} {cur fold k n : Int} (D : TrayP H d g ns cur fold k n) (s : Same H H') : TrayP H' d g ns cur fold k n :=
  ⟨s _ _ D.d, s _ _ D.g, D.pos, D.c0, D.f0, D.f1, D.k0, D.k1⟩
theorem TrayP.new {H : Hp} {d g p : Addr} {ns : List Int} {cur fold k n : Int} {o : HO} (D : TrayP H d g ns cur fold k n) (hp : H p = none) : TrayP (upd H p o) d g ns cur fold k n := D.same (same_new hp o)
theorem Tray.same {H H' : Hp} {d g : Addr} {n : Int} (D : Tray H d g n) (s : Same H H') : Tray H' d g n := by
  obtain ⟨ns, cur, fold, k, D⟩ := D
  exact ⟨ns, cur, fold, k, D.same s⟩
theorem Tray.new {H : Hp} {d g p : Addr} {n : Int} {o : HO} (D : Tray H d g n) (hp : H p = none) : Tray (upd H p o) d g n := D.same (same_new hp o)
theorem Tray.le {H : Hp} {d g : Addr} {n m : Int} (D : Tray H d g n) (h : n ≤ m) : Tray H d g m := by
  obtain ⟨ns, cur, fold, k, D⟩ := D
  exact ⟨ns, cur, fold, k, D.d, D.g, D.pos, D.c0, D.f0, D.f1, D.k0, Int.le_trans D.k1 h⟩
theorem Tray.tups {H H' : Hp} {d g : Addr} {n : Int} (D : Tray H d g n) (b : But d g H H') : Tups H H' := by
  obtain ⟨ns, cur, fold, k, D⟩ := D
  exact fun a xs e => b a _ (ne_of e D.d (by intro z; cases z)) (ne_of e D.g (by intro z; cases z)) e
theorem Tray.ne {H : Hp} {d g p : Addr} {n : Int} (D : Tray H d g n) (h : H p = none) : p ≠ d ∧ p ≠ g := by
  obtain ⟨ns, cur, fold, k, D⟩ := D
  exact ⟨(ne_of_none D.d h).symm, (ne_of_none D.g h).symm⟩
theorem Tray.at {H : Hp} {d g p : Addr} {n : Int} {o : HO} (D : Tray H d g n) (h1 : p ≠ d) (h2 : p ≠ g) : Tray (upd H p o) d g n := by
  obtain ⟨ns, cur, fold, k, D⟩ := D
  exact ⟨ns, cur, fold, k, by rw [upd_ne h1.symm]; exact D.d, by rw [upd_ne h2.symm]; exact D.g, D.pos, D.c0, D.f0, D.f1, D.k0, D.k1⟩
/-- _law_tray -/
def spTray (K : PySem.W.Frag) : Sp := fun vs H Q _ => ∃ (a : Addr) (ns : List Int), vs = [.ref a] ∧ SqL K H a (ns.map V.int) ∧ ns.length ≤ 63 ∧
  ∀ (d g : Addr) (H' : Hp), H d = none → H g = none → Tray H' d g 0 → Same H H' → Q (.ref d) H'
def Ptray (a g : Addr) (H0 : Hp) (i : Nat) (σ : St) (H : Hp) : Prop :=
  ∃ (gs : List Int) (fold : Int) (u1 u2 : Option V), σ = [some (.ref a), some (.int fold), some (.ref g), u1, u2] ∧ H0 g = none ∧ H g = some (.lst (gs.map V.int)) ∧ gs.length ≤ i ∧
    (∀ x ∈ gs, 0 ≤ x) ∧ 0 ≤ fold ∧ fold < 2305843009213693951 ∧ Same H0 H
/-- _law_draw -/
def spDraw : Sp := fun vs H Q _ => ∃ (d g : Addr) (many n : Int), vs = [.ref d, .int many] ∧ Tray H d g n ∧ 0 < many ∧ many ≤ 1000000000 ∧ n ≤ 1000000 ∧
  ∀ (r : Int) (H' : Hp), 0 ≤ r → r < many → Tray H' d g (n + 1) → But d g H H' → Q (.int r) H'
def Wdraw (d g : Addr) (many n : Int) (H0 : Hp) (m : Nat) (σ : St) (H : Hp) : Prop :=
  σ = [some (.ref d), some (.int many), none, none] ∧ ∃ ns cur fold k, TrayP H d g ns cur fold k n ∧ But d g H0 H ∧ m = ns.length
theorem seq0 {α : Type} {x : α} {r : List α} : seqIndex? 0 (x :: r).length = some 0 := (ixN_seq (n := (x :: r).length) (i := 0) (by
  unfold ixN
  rw [if_pos (by decide), if_pos (by rw [List.length_cons]; omega)]
  rfl)).1
theorem pow61 : (2 : Int) ^ (61 : Int).toNat - 1 = 2305843009213693951 := by decide
theorem pow18 : (10 : Int) ^ (18 : Int).toNat = 1000000000000000000 := by decide
section
variable {P : Program} {w : World} {K : PySem.W.Frag} {mg : Str → Option Value} {base : Heap} {f : Addr} {fd : FuncData}
theorem ok_tray (B : Bn mg) (F : Fun K "_law_tray" "_law_tray" s__law_tray f fd) : FnOk P w K mg base CX0 1 f fd ["script"] (spTray K) := by
  refine F.ok sc__law_tray (fun vs H Q E h => ?_) (fun cdv A outer s H vs Q E hr h => ?_)
  · obtain ⟨a, ns, rfl, _⟩ := h
    rfl
  obtain ⟨a, ns, rfl, hS, h63, q⟩ := h
  refine ⟨_, (pss_cons (ps_set (i := 1) sc__law_tray.nd rfl (Or.inl rfl) pe_int)
    (pss_cons (ps_set (i := 2) sc__law_tray.nd rfl (Or.inl rfl) (pe_lst pa_nil))
    (pss_cons (ps_for PassesOwn.never rfl (piL K rfl (pv 0)) (pg_name (i := 3) sc__law_tray.nd rfl (Or.inl rfl)) (pss_cons (ps_set (i := 1) sc__law_tray.nd rfl (Or.inl rfl) (pe_op op_mod (pe_op op_add (pe_op op_mul (pv 1) pe_int) (pv 3)) (pe_op op_sub (pe_op op_pow pe_int pe_int) pe_int)))
    (pss_cons (ps_set (i := 4) sc__law_tray.nd rfl (Or.inl rfl) (pe_callB (call_max2 rfl) (by rfl) B.b_max (by decide +kernel) (pa_cons (pv 3) (pa_cons (pe_op op_sub pe_int (pv 3)) pa_nil))))
    (pss_one (ps_if (pt_cmpR op_ge (pv 4) (pe_op op_pow pe_int pe_int) (nomark _)) (pss_one (ps_expr (pe_bm PySem.F.plainAttrs_list PySem.F.slot_list_append PySem.F.type_list_append mt_append (pv 2) (pa_cons (pe_op op_sub (pv 4) (pe_op op_pow pe_int pe_int)) pa_nil)))) pss_nil)))))
    (pss_one (ps_ret (pe_lst (pa_cons (pv 2) (pa_cons pe_int (pa_cons (pv 1) (pa_cons pe_int pa_nil)))))))))), ?_⟩
  refine ⟨Nat.zero_le _, fun g hg => ?_⟩
  refine ⟨_, rfl, a, rfl, ⟨_, (same_new hg _).seq hS⟩, for_list (xs := ns.map V.int) (Ptray a g H) ?_ ?_ ?_ ?_⟩
  · exact ⟨[], 314159265358979, none, none, rfl, hg, upd_same, Nat.le_refl _, fun x hx => by simp at hx, by decide, by decide, same_new hg _⟩
  · rintro i σ H1 _ ⟨gs, fold, u1, u2, rfl, h0, h1, h2, h3, h4, h5, h6⟩
    exact h6.seq hS
  · rintro i x σ H1 hx ⟨gs, fold, u1, u2, rfl, h0, h1, h2, h3, h4, h5, h6⟩
    rw [List.getElem?_map] at hx
    obtain ⟨c, hc, rfl⟩ := Option.map_eq_some_iff.mp hx
    have hi : i < ns.length := (List.getElem?_eq_some_iff.mp hc).1
    have f0 : 0 ≤ (fold * 1000003 + c) % 2305843009213693951 := Int.emod_nonneg _ (by decide)
    have f1 : (fold * 1000003 + c) % 2305843009213693951 < 2305843009213693951 := Int.emod_lt_of_pos _ (by decide)
    refine ⟨_, rfl, _, _, rfl, rfl, .inl ⟨by omega, by omega⟩, _, rfl, _, _, rfl, rfl, _, _, rfl, rfl, ⟨by decide, by decide, by decide⟩, _, _, rfl, rfl, _, _, rfl, rfl,
      (show (0 : Int) < (2 : Int) ^ (61 : Int).toNat - 1 by decide), ?_⟩
    rw [pow61]
    refine ⟨_, rfl, _, rfl, _, _, rfl, rfl, c, 0 - c, rfl, ?_⟩
    have emax : ∃ mx : Int, (if 0 - c > c then 0 - c else c) = mx := ⟨_, rfl⟩
    obtain ⟨mx, emax⟩ := emax
    rw [emax]
    refine ⟨_, rfl, _, _, rfl, rfl, ⟨by decide, by decide, by decide⟩, _, _, rfl, rfl, _, rfl, ?_⟩
    rw [pow18]
    refine ite2 (fun hc1 => ?_) (fun hc1 => ?_)
    · refine ⟨_, rfl, tyL h1, _, rfl, _, _, rfl, rfl, ⟨by decide, by decide, by decide⟩, _, _, rfl, rfl, g, _, _, rfl, rfl, h1, ?_, ?_⟩
      · rw [List.length_map]
        exact small1000 (by omega)
      · have hc2 := of_decide_eq_true hc1
        refine ⟨gs ++ [mx - (10 : Int) ^ (18 : Int).toNat], _, _, _, rfl, h0, ?_, ?_, ?_, f0, f1, Same.atNew h6 h0⟩
        · rw [upd_same, List.map_append]
          rfl
        · rw [List.length_append, List.length_singleton]
          omega
        · intro y hy
          rw [pow18] at hy
          rcases List.mem_append.mp hy with hy | hy
          · exact h3 y hy
          · have : y = mx - 1000000000000000000 := by simpa using hy
            omega
    · exact ⟨gs, _, _, _, rfl, h0, h1, by omega, h3, f0, f1, h6⟩
  · rintro σ H1 ⟨gs, fold, u1, u2, rfl, h0, h1, h2, h3, h4, h5, h6⟩
    refine ⟨_, rfl, _, rfl, by show 4 ≤ sizeLine; decide, fun d hd => ?_⟩
    exact q d g _ (h6.free hd) h0 ⟨gs, 0, fold, 0, upd_same, by rw [upd_ne (ne_of_none h1 hd)]; exact h1, h3, Int.le_refl _, h4, h5, Int.le_refl _, Int.le_refl _⟩ (h6.trans (same_new hd _))
theorem ok_draw (F : Fun K "_law_draw" "_law_draw" s__law_draw f fd) : FnOk P w K mg base CX0 1 f fd ["tray", "many"] spDraw := by
  refine F.ok sc__law_draw (fun vs H Q E h => ?_) (fun cdv A outer s H vs Q E hr h => ?_)
  · obtain ⟨d, g, many, n, rfl, _⟩ := h
    rfl
  obtain ⟨d, g, many, n, rfl, D, h0, h1, h2, q⟩ := h
  refine ⟨_, (pss_cons (ps_while PassesOwn.never (PW.pt (pw_and (pt_cmpR op_lt (pe_ix (ixL K rfl) (pv 0) pe_int (fun _ _ => rfl)) pe_int (nomark _)) (pw_and1 (pt_cmpR (neD K rfl hr.units) (pe_ix (ixL K rfl) (pv 0) pe_int (fun _ _ => rfl)) (pe_lst pa_nil) (nomark _))))) (pss_one (ps_asg (pe_bm PySem.F.plainAttrs_list PySem.F.slot_list_pop PySem.F.type_list_pop mt_popAt (pe_ix (ixL K rfl) (pv 0) pe_int (fun _ _ => rfl)) (pa_cons pe_int pa_nil)) (pg_sub (pv 0) pe_int set_list))))
    (pss_cons (ps_if (pt_cmpR op_ge (pe_ix (ixL K rfl) (pv 0) pe_int (fun _ _ => rfl)) pe_int (nomark _)) (pss_cons (ps_set (i := 3) sc__law_draw.nd rfl (Or.inl rfl) (pe_op op_mod (pe_ix (ixL K rfl) (pv 0) pe_int (fun _ _ => rfl)) (pv 1)))
    (pss_cons (ps_asg (pe_op op_fdiv (pe_ix (ixL K rfl) (pv 0) pe_int (fun _ _ => rfl)) (pv 1)) (pg_sub (pv 0) pe_int set_list))
    (pss_one (ps_ret (pv 3))))) pss_nil)
    (pss_cons (ps_asg (pe_op op_add (pe_ix (ixL K rfl) (pv 0) pe_int (fun _ _ => rfl)) pe_int) (pg_sub (pv 0) pe_int set_list))
    (pss_cons (ps_set (i := 2) sc__law_draw.nd rfl (Or.inl rfl) (pe_op op_mod (pe_op op_add (pe_op op_mul (pe_op op_add (pe_ix (ixL K rfl) (pv 0) pe_int (fun _ _ => rfl)) pe_int) (pe_op op_pow (pe_op op_add (pe_ix (ixL K rfl) (pv 0) pe_int (fun _ _ => rfl)) pe_int) pe_int)) (pe_op op_mul pe_int (pe_ix (ixL K rfl) (pv 0) pe_int (fun _ _ => rfl)))) (pe_op op_sub (pe_op op_pow pe_int pe_int) pe_int)))
    (pss_one (ps_ret (pe_op op_mod (pe_op op_fdiv (pe_op op_mod (pe_op op_pow (pv 2) pe_int) (pe_op op_add (pe_op op_pow pe_int pe_int) pe_int)) pe_int) (pv 1)))))))), ?_⟩
  obtain ⟨ns0, cur0, fold0, k0, D0⟩ := D
  refine seq_abs (fun σ' H' => ∃ m, Wdraw d g many n H m σ' H') (fun σ1 H1 w1 => ?_) (fun nx hnx => ?_)
  · obtain ⟨_, rfl, ns, cur, fold, k, D1, B1, _⟩ := w1
    refine ⟨_, rfl, _, _, _, _, rfl, rfl, SqL.of D1.d, by rfl, _, _, rfl, rfl, _, rfl, ite2 (fun c => ?_) (fun c => ?_)⟩
    · refine ⟨_, rfl, _, _, _, _, rfl, rfl, SqL.of D1.d, by rfl, _, rfl, _, _, rfl, rfl, h0, ?_⟩
      refine ⟨_, rfl, _, _, _, _, rfl, rfl, SqL.of D1.d, by rfl, _, rfl, _, _, rfl, rfl, ⟨h0, by show many < 1073741824; omega⟩, _, rfl, _, _, _, 1, rfl, rfl, D1.d, by rfl, _, rfl, ?_⟩
      exact q _ _ (Int.emod_nonneg _ (by omega)) (Int.emod_lt_of_pos _ h0) ⟨ns, cur / many, fold, k, upd_same, by rw [upd_ne D1.ne.symm]; exact D1.g, D1.pos, Int.ediv_nonneg D1.c0 (by omega), D1.f0, D1.f1, D1.k0, by have := D1.k1; omega⟩ B1.atD
    have e0 := D1.k0
    have e1 := D1.k1
    have e2 := D1.f0
    have e3 := D1.f1
    refine ⟨_, rfl, _, _, _, _, rfl, rfl, SqL.of D1.d, by rfl, _, _, rfl, rfl, _, rfl, _, _, _, 3, rfl, rfl, D1.d, by rfl, ?_⟩
    have hd : (upd H1 d (.lst ([V.ref g, V.int cur, V.int fold, V.int k].set 3 (V.int (k + 1))))) d = some (.lst [V.ref g, V.int cur, V.int fold, V.int (k + 1)]) := upd_same
    have D2 : TrayP (upd H1 d (.lst ([V.ref g, V.int cur, V.int fold, V.int k].set 3 (V.int (k + 1))))) d g ns cur fold (k + 1) (n + 1) := ⟨hd, by rw [upd_ne D1.ne.symm]; exact D1.g, D1.pos, D1.c0, e2, e3, by omega, by omega⟩
    have B2 : But d g H (upd H1 d (.lst ([V.ref g, V.int cur, V.int fold, V.int k].set 3 (V.int (k + 1))))) := B1.atD
    refine ⟨_, rfl, _, _, _, _, rfl, rfl, SqL.of hd, by rfl, _, _, rfl, rfl, ?_⟩
    refine ⟨_, rfl, _, _, _, _, rfl, rfl, SqL.of hd, by rfl, _, _, rfl, rfl, _, _, rfl, rfl, ⟨by decide, by decide, by show (k + 1 + 2 : Int).natAbs < 2 ^ 64; omega⟩, _, _, rfl, rfl, .inl ⟨?_, ?_⟩, ?_⟩
    · show -(2 ^ 64) < fold + 5
      omega
    · show fold + 5 < 2 ^ 64
      omega
    refine ⟨_, rfl, _, _, _, _, rfl, rfl, SqL.of hd, by rfl, _, _, rfl, rfl, .inl ⟨by decide, by decide⟩, _, _, rfl, rfl, _, _, rfl, rfl, ⟨by decide, by decide, by decide⟩, _, _, rfl, rfl, _, _, rfl, rfl,
      (show (0 : Int) < (2 : Int) ^ (61 : Int).toNat - 1 by decide), ?_⟩
    rw [pow61]
    generalize hz : ((fold + 5) * (k + 1 + 2) ^ (3 : Int).toNat + 1000003 * (k + 1)) % 2305843009213693951 = z
    have z0 : 0 ≤ z := by rw [← hz]; exact Int.emod_nonneg _ (by decide)
    have z1 : z < 2305843009213693951 := by rw [← hz]; exact Int.emod_lt_of_pos _ (by decide)
    refine ⟨_, rfl, _, _, rfl, rfl, ⟨by decide, by decide, by omega⟩, _, _, rfl, rfl, ⟨by decide, by decide, by decide⟩, _, _, rfl, rfl, _, _, rfl, rfl, (show (0 : Int) < (10 : Int) ^ (18 : Int).toNat + 9 by decide), _, _, rfl, rfl, ⟨by decide, by decide⟩, _, rfl, _, _, rfl, rfl, h0, ?_⟩
    exact q _ _ (Int.emod_nonneg _ (by omega)) (Int.emod_lt_of_pos _ h0) ⟨_, _, _, _, D2⟩ B2
  refine ⟨Wdraw d g many n H, ⟨ns0.length, rfl, ns0, cur0, fold0, k0, D0, But.refl _ _ _, rfl⟩, fun m σ H1 w1 => ?_⟩
  obtain ⟨rfl, ns, cur, fold, k, D1, B1, rfl⟩ := w1
  refine ⟨_, rfl, _, _, _, _, rfl, rfl, SqL.of D1.d, by rfl, _, _, rfl, rfl, _, rfl, ite2 (fun c => ?_) (fun c => ?_)⟩
  · refine ⟨_, rfl, _, _, _, _, rfl, rfl, SqL.of D1.d, by rfl, Nat.zero_le _, fun p hp => ?_⟩
    have D2 := D1.new (o := .lst []) hp
    have B2 := B1.new (o := .lst []) hp
    refine ⟨.list (ns.map PyData.int), .list [], .lst (SqL.of D2.g) (dp_ints ns), .lst (SqL.of upd_same) .nil, shaped_ints ns, rfl, _, rfl, ?_⟩
    rw [eqv_nil]
    generalize upd H1 p (.lst []) = H2 at D2 B2
    clear D1 B1 hp
    cases ns with
    | nil => exact iteF (hnx _ _ ⟨0, rfl, [], cur, fold, k, D2, B2, rfl⟩)
    | cons x r =>
      refine iteT ?_
      refine ⟨fun σ' H' => ∃ m', m' < (x :: r).length ∧ Wdraw d g many n H m' σ' H', fun _ _ h => h, ?_⟩
      refine ⟨_, rfl, _, _, _, _, rfl, rfl, SqL.of D2.d, by rfl, tyL D2.g, g, _, 0, 0, .int x, rfl, rfl, D2.g, by decide, by decide, seq0, rfl, ?_⟩
      refine ⟨_, rfl, _, _, _, 1, rfl, rfl, (by rw [upd_ne D2.ne]; exact D2.d), by rfl, ?_⟩
      refine ⟨r.length, by simp, rfl, r, x, fold, k, ?_, B2.atG.atD, rfl⟩
      exact ⟨upd_same, by rw [upd_ne D2.ne.symm, upd_same]; rfl, fun y hy => D2.pos y (by simp [hy]), D2.pos x (by simp), D2.f0, D2.f1, D2.k0, D2.k1⟩
  · exact iteF (hnx _ _ ⟨_, rfl, ns, cur, fold, k, D1, B1, rfl⟩)
end
end My
namespace My
open PySem L2
/-! texts of small letters -/
def LtA (z : Str) : Prop := ∀ c ∈ z.cps.toList, 97 ≤ c ∧ c ≤ 122
def LtS (z : Str) : Prop := z.length ≤ 8 ∧ LtA z
/-- a name -/
def Nm (z : Str) : Prop := LtS z ∧ z ≠ "" ∧ z ≠ "num" ∧ z ≠ "text"
theorem LtA.app {x y : Str} (a : LtA x) (b : LtA y) : LtA (x ++ y) := fun c h => by
  have h : c ∈ (x.cps ++ y.cps).toList := h
  rw [Array.toList_append] at h
  rcases List.mem_append.mp h with h | h
  · exact a c h
  · exact b c h
theorem LtA.cut {z : Str} (a : LtA z) (lo hi : Option Int) : LtA (cutS z lo hi) := fun c h => by
  have h : c ∈ (z.cps.toList.drop (HT.sIx z.length 0 lo)).take (HT.sIx z.length z.length hi - HT.sIx z.length 0 lo) := by
    have e : (cutS z lo hi).cps.toList = (z.cps.toList.drop (HT.sIx z.length 0 lo)).take (HT.sIx z.length z.length hi - HT.sIx z.length 0 lo) := by
      unfold cutS
      simp
    rw [e] at h
    exact h
  exact a c (List.mem_of_mem_drop (List.mem_of_mem_take h))
theorem LtA.one {c : Nat} (h0 : 97 ≤ c) (h1 : c ≤ 122) : LtA ⟨#[c]⟩ := fun x h => by
  have : x = c := by simpa using h
  omega
theorem LtA.nil : LtA "" := fun c h => by
  have h : c ∈ ([] : List Nat) := h
  cases h
theorem len_app (x y : Str) : (x ++ y).length = x.length + y.length := by
  show (x.cps ++ y.cps).size = _
  rw [Array.size_append]
  rfl
theorem cut8 (z : Str) : (cutS z none (some 8)).length ≤ 8 := by
  have e : (cutS z none (some 8)).length = ((z.cps.toList.drop (HT.sIx z.length 0 none)).take (HT.sIx z.length z.length (some ((8 : Nat) : Int)) - HT.sIx z.length 0 none)).length := by
    unfold cutS
    show (List.toArray _).size = _
    rw [List.size_toArray]
    rfl
  rw [e, List.length_take, HT.sIx_nat, HT.sIx_none]
  omega
theorem join_lt : ∀ ys : List Str, (∀ y ∈ ys, LtA y) → LtA (Str.join "" ys)
  | [], _ => LtA.nil
  | [x], h => h x (by simp)
  | x :: y :: r, h => ((h x (by simp)).app LtA.nil).app (join_lt (y :: r) fun z hz => h z (by simp [hz]))
theorem join_len : ∀ ys : List Str, (Str.join "" ys).length = (ys.map (·.length)).sum
  | [] => rfl
  | [x] => by simp [Str.join]
  | x :: y :: r => by
    have ih := join_len (y :: r)
    show ((x ++ "") ++ Str.join "" (y :: r)).length = _
    rw [len_app, len_app, ih, List.map_cons, List.sum_cons]
    rfl
abbrev abc : Str := "abcdefghijklmnopqrstuvwxyz"
theorem abc_list : abc.cps.toList = (List.range 26).map (fun k => 97 + k) := by decide +kernel
theorem abc_at {r : Int} (h0 : 0 ≤ r) (h1 : r < 26) : atI abc.cps.toList r = some (97 + r.toNat) := by
  have e : r = ((r.toNat : Nat) : Int) := by omega
  rw [abc_list]
  have h : ((List.range 26).map (fun k => 97 + k))[r.toNat]? = some (97 + r.toNat) := by
    rw [List.getElem?_map, List.getElem?_range (by omega)]
    rfl
  rw [e]
  exact atI_nat h
theorem abc_len : abc.length ≤ sizeLine := by decide
/-- some = [..]: texts made by a turn's number -/
def Pf (H0 : Hp) (D : Addr) (f : Nat → Str) (i : Nat) (H : Hp) : Prop := Same H0 H ∧ H D = some (.lst (((List.range i).map f).map V.str))
theorem Pf.next {H0 H : Hp} {D : Addr} {f : Nat → Str} {i : Nat} (p : Pf H0 D f i H) (n : H0 D = none) : Pf H0 D f (i + 1) (upd H D (.lst ((((List.range i).map f).map V.str) ++ [.str (f i)]))) := by
  refine ⟨Same.atNew p.1 n, ?_⟩
  rw [upd_same, List.range_succ, List.map_append, List.map_append]
  rfl
def one1 (k : Nat) : Str := ⟨#[97 + k]⟩
theorem one1_inj {a b : Nat} (h : one1 a = one1 b) : a = b := by
  have e : #[97 + a] = #[97 + b] := congrArg Str.cps h
  simp at e
  exact e
/-- a list without what stands twice, all in another one, is no longer -/
theorem nodup_len {α : Type} [DecidableEq α] : ∀ {l m : List α}, l.Nodup → (∀ x ∈ l, x ∈ m) → l.length ≤ m.length
  | [], _, _, _ => Nat.zero_le _
  | x :: r, m, h, s => by
    have hx := s x (by simp)
    have hr := (List.nodup_cons.mp h)
    have ih := nodup_len (l := r) (m := m.erase x) hr.2 fun y hy => by
      have hne : y ≠ x := fun e => hr.1 (e ▸ hy)
      exact (List.mem_erase_of_ne hne).mpr (s y (by simp [hy]))
    rw [List.length_erase_of_mem hx] at ih
    have := List.length_pos_of_mem hx
    rw [List.length_cons]
    omega
abbrev taken : List Str := ["", "num", "text"]
def keepN (us : List Str) (s : Str) : Bool := !inV (.str s) (us.map V.str ++ [.str "", .str "num", .str "text"])
theorem inV_str {s : Str} {us : List Str} : inV (.str s) (us.map V.str) = decide (s ∈ us) := by
  induction us with
  | nil => rfl
  | cons x r ih =>
    have e : inV (.str s) ((x :: r).map V.str) = (eqV (.str x) (.str s) || inV (.str s) (r.map V.str)) := rfl
    rw [e, ih]
    show ((x == s) || decide (s ∈ r)) = _
    by_cases h : x = s
    · subst h; simp
    · have h2 : ¬ s = x := fun z => h z.symm
      simp [h, h2]
theorem keepN_iff {us : List Str} {s : Str} : keepN us s = true ↔ s ∉ us ++ taken := by
  unfold keepN
  have e : us.map V.str ++ [.str "", .str "num", .str "text"] = (us ++ taken).map V.str := by rw [List.map_append]; rfl
  rw [e, inV_str]
  simp
theorem some_kept {us : List Str} (h : us.length ≤ 22) (ss : List Str) (hs : ∀ k, k < 26 → one1 k ∈ ss) : ∃ z r, ss.filter (keepN us) = z :: r := by
  cases e : ss.filter (keepN us) with
  | cons z r => exact ⟨z, r, rfl⟩
  | nil =>
    exfalso
    have all : ∀ x ∈ (List.range 26).map one1, x ∈ us ++ taken := fun x hx => by
      obtain ⟨k, hk, rfl⟩ := List.mem_map.mp hx
      have hm := hs k (List.mem_range.mp hk)
      have hn := List.filter_eq_nil_iff.mp e _ hm
      rw [keepN_iff] at hn
      exact Classical.byContradiction hn
    have nd : ((List.range 26).map one1).Nodup := by
      rw [List.nodup_iff_pairwise_ne, List.pairwise_map]
      exact (List.nodup_range (n := 26)).imp fun h z => h (one1_inj z)
    have := nodup_len nd all
    rw [List.length_map, List.length_range, List.length_append] at this
    have e3 : taken.length = 3 := rfl
    omega
end My
namespace My
open PySem L2
/-- _law_name -/
def spName : Sp := fun vs H Q _ => ∃ (d g u : Addr) (n : Int) (us : List Str), vs = [.ref d, .ref u] ∧ Tray H d g n ∧ n ≤ 900000 ∧ u ≠ d ∧ u ≠ g ∧ H u = some (.lst (us.map V.str)) ∧ us.length ≤ 22 ∧ (∀ x ∈ us, LtS x) ∧
  ∀ (z : Str) (H' : Hp), Nm z → z ∉ us → Tray H' d g (n + 20) → But d g H H' → Q (.str z) H'
def Plet (d g D8 : Addr) (n : Int) (H0 : Hp) (i : Nat) (H : Hp) : Prop := But d g H0 H ∧ Tray H d g (n + (i : Int)) ∧ ∃ ys : List Str, H D8 = some (.lst (ys.map V.str)) ∧ ys.length = i ∧ (∀ y ∈ ys, LtA y ∧ y.length = 1)
def Pkeep (H0 : Hp) (D8 : Addr) (us ss : List Str) (i : Nat) (H : Hp) : Prop := Same H0 H ∧ H D8 = some (.lst (((ss.take i).filter (keepN us)).map V.str))
theorem sum_ones : ∀ {ys : List Str}, (∀ y ∈ ys, LtA y ∧ y.length = 1) → (ys.map (·.length)).sum = ys.length
  | [], _ => rfl
  | x :: r, h => by
    rw [List.map_cons, List.sum_cons, sum_ones (ys := r) fun y hy => h y (by simp [hy]), (h x (by simp)).2, List.length_cons]
    omega
theorem dp_strs {K : PySem.W.Frag} {H : Hp} (us : List Str) : DpAll K H (us.map V.str) (us.map PyData.str) := by
  induction us with
  | nil => exact .nil
  | cons x r ih => exact .cons (.str x) ih
theorem eqv_nils (us : List Str) : PyData.eqv (.list (us.map PyData.str)) (.list []) = us.isEmpty := by
  cases us with
  | nil => simp [PyData.eqv, PyData.eqvAll]
  | cons x r => simp [PyData.eqv, PyData.eqvAll]
theorem strOk_lt {x : Str} (h : LtA x) : PyData.strOk x = true := by
  unfold PyData.strOk
  rw [← Array.all_toList, List.all_eq_true]
  intro c hc
  have := h c hc
  exact decide_eq_true (by omega)
theorem shaped_strs {us : List Str} (h : ∀ x ∈ us, LtA x) : SeqAt.shaped (.list (us.map PyData.str)) = true := by
  have a : PyData.canLayAll0 (us.map PyData.str) = true := by
    induction us with
    | nil => rfl
    | cons x r ih =>
      rw [List.map_cons, PyData.canLayAll0, ih fun y hy => h y (by simp [hy]), PyData.canLay0, strOk_lt (h x (by simp))]
      rfl
  have b : PyData.depthAll (us.map PyData.str) = 0 := by
    clear a
    induction us with
    | nil => rfl
    | cons x r ih =>
      rw [List.map_cons, PyData.depthAll, ih fun y hy => h y (by simp [hy])]
      rfl
  unfold SeqAt.shaped
  rw [PyData.canLay0, a, PyData.depth, b]
  rfl
theorem filt1 {α : Type} {p : α → Bool} {x : α} (h : p x = true) : [x].filter p = [x] := by simp [h]
theorem filt0 {α : Type} {p : α → Bool} {x : α} (h : p x = false) : [x].filter p = [] := by simp [h]
abbrev hints : List Str := ["under", "record", "door", "choice", "hidden", "look", "one", "new", "as", "ask", "none", "ok"]
theorem hints_ok : ∀ x ∈ hints, LtS x := by
  intro x hx
  have : (x.length ≤ 8 ∧ x.cps.toList.all fun c => decide (97 ≤ c ∧ c ≤ 122)) := by
    simp only [hints, List.mem_cons, List.mem_nil_iff, or_false] at hx
    rcases hx with rfl | rfl | rfl | rfl | rfl | rfl | rfl | rfl | rfl | rfl | rfl | rfl <;> decide +kernel
  refine ⟨this.1, fun c hc => ?_⟩
  have := List.all_eq_true.mp this.2 c hc
  exact of_decide_eq_true this
theorem str_at {us : List Str} {r : Int} (h0 : 0 ≤ r) (h1 : r < (us.length : Int)) : ∃ x : Str, atI (us.map V.str) r = some (.str x) ∧ x ∈ us := by
  have e : r = ((r.toNat : Nat) : Int) := by omega
  have hl : r.toNat < us.length := by omega
  refine ⟨us[r.toNat], ?_, List.getElem_mem hl⟩
  exact at_of e (by rw [List.getElem?_map, List.getElem?_eq_getElem hl]; rfl)
theorem mul3 (c : Nat) : Txt.mul ⟨#[c]⟩ 3 = ⟨#[c, c, c]⟩ := rfl
theorem mul5 (c : Nat) : Txt.mul ⟨#[c]⟩ 5 = ⟨#[c, c, c, c, c]⟩ := rfl
def one2 (k : Nat) : Str := ⟨#[97 + k]⟩ ++ ⟨#[97 + (25 - k)]⟩
def one3 (k : Nat) : Str := Txt.mul ⟨#[97 + k]⟩ 3
def one5 (k : Nat) : Str := Txt.mul ⟨#[97 + k]⟩ 5
theorem ones_ok {k : Nat} (h : k < 26) : LtS (one1 k) ∧ LtS (one2 k) ∧ LtS (one3 k) ∧ LtS (one5 k) := by
  refine ⟨⟨by show 1 ≤ 8; decide, LtA.one (by omega) (by omega)⟩, ⟨by show 2 ≤ 8; decide, (LtA.one (by omega) (by omega)).app (LtA.one (by omega) (by omega))⟩, ⟨by show 3 ≤ 8; decide, fun c hc => ?_⟩, ⟨by show 5 ≤ 8; decide, fun c hc => ?_⟩⟩
  · unfold one3 at hc
    rw [mul3] at hc
    simp at hc
    omega
  · unfold one5 at hc
    rw [mul5] at hc
    simp at hc
    omega
abbrev allSome (nm : Str) : List Str := (((([nm] ++ (List.range 26).map one1) ++ (List.range 26).map one2) ++ (List.range 26).map one3) ++ (List.range 26).map one5)
section
variable {P : Program} {w : World} {K : PySem.W.Frag} {mg : Str → Option Value} {base : Heap} {f : Addr} {fd : FuncData}
theorem ok_name (B : Bn mg) (F : Fun K "_law_name" "_law_name" s__law_name f fd) (c__law_draw : Cal P w K mg base "_law_draw" 1 ["tray", "many"] spDraw) : FnOk P w K mg base CX0 2 f fd ["tray", "used"] spName := by
  refine F.ok sc__law_name (fun vs H Q E h => ?_) (fun cdv A outer s H vs Q E hr h => ?_)
  · obtain ⟨d, g, u, n, us, rfl, _⟩ := h
    rfl
  obtain ⟨d, g, u, n, us, rfl, D, hn, nd, ng, hu, h22, hus, q⟩ := h
  refine ⟨_, (pss_cons (ps_set (i := 2) sc__law_name.nd rfl (Or.inr rfl) pe_str)
    (pss_cons (ps_set (i := 3) sc__law_name.nd rfl (Or.inl rfl) (pc c__law_draw (hr.mono (by first | decide | omega)) (pa_cons (pv 0) (pa_cons pe_int pa_nil))))
    (pss_cons (ps_set (i := 4) sc__law_name.nd rfl (Or.inl rfl) (pe_ix ix_str (pv 2) (pc c__law_draw (hr.mono (by first | decide | omega)) (pa_cons (pv 0) (pa_cons pe_int pa_nil))) (fun _ _ => rfl)))
    (pss_cons (ps_set (i := 5) sc__law_name.nd rfl (Or.inl rfl) (pe_join pe_str (pe_lc (own := [("k", 10)]) (g := (gName 10)) rfl sc__law_name.nd (pi_range1 rfl B.b_range (pa_cons (pe_op op_add pe_int (pc c__law_draw (hr.mono (by first | decide | omega)) (pa_cons (pv 0) (pa_cons pe_int pa_nil)))) pa_nil)) (blkOk_by (N := ["tray", "used", "letters", "way", "letter", "name", "some", "words", "old", "at", "k", "one"]) (sc := defScope s__law_name) (by decide +kernel)) (fun _ _ _ _ _ => (pg_name (i := 10) sc__law_name.nd rfl (Or.inl rfl) (hf := Or.inr rfl))) (fun _ _ _ _ _ => pts_nil) (fun _ _ _ _ _ => (pe_ix ix_str (pv 2) (pc c__law_draw (hr.mono (by first | decide | omega)) (pa_cons (pv 0) (pa_cons pe_int pa_nil))) (fun _ _ => rfl))))))
    (pss_cons (ps_if (pt_cmpR op_eq (pv 3) pe_int (nomark _)) (pss_cons (ps_set (i := 7) sc__law_name.nd rfl (Or.inl rfl) (pe_lst (pa_cons pe_str (pa_cons pe_str (pa_cons pe_str (pa_cons pe_str (pa_cons pe_str (pa_cons pe_str (pa_cons pe_str (pa_cons pe_str (pa_cons pe_str (pa_cons pe_str (pa_cons pe_str (pa_cons pe_str pa_nil))))))))))))))
    (pss_one (ps_set (i := 5) sc__law_name.nd rfl (Or.inl rfl) (pe_ix (ixL K rfl) (pv 7) (pc c__law_draw (hr.mono (by first | decide | omega)) (pa_cons (pv 0) (pa_cons pe_int pa_nil))) (fun _ _ => rfl))))) (pss_one (ps_if (PW.pt (pw_and (pt_cmpR op_gt (pv 3) pe_int (nomark _)) (pw_and1 (pt_cmpR (neD K rfl hr.units) (pv 1) (pe_lst pa_nil) (nomark _))))) (pss_cons (ps_set (i := 8) sc__law_name.nd rfl (Or.inl rfl) (pe_ix (ixL K rfl) (pv 1) (pc c__law_draw (hr.mono (by first | decide | omega)) (pa_cons (pv 0) (pa_cons (pe_callB (lenSeq K rfl) (by rfl) B.b_len PySem.boot_len (pa_cons (pv 1) pa_nil)) pa_nil))) (fun _ _ => rfl)))
    (pss_cons (ps_set (i := 9) sc__law_name.nd rfl (Or.inl rfl) (pc c__law_draw (hr.mono (by first | decide | omega)) (pa_cons (pv 0) (pa_cons (pe_op op_add (pe_callB call_len_str (by rfl) B.b_len PySem.boot_len (pa_cons (pv 8) pa_nil)) pe_int) pa_nil))))
    (pss_one (ps_set (i := 5) sc__law_name.nd rfl (Or.inl rfl) (pe_slice sl_str (pe_op op_add_str (pe_op op_add_str (pe_slice sl_str (pv 8) po_none (po_some (pv 9))) (pe_ix (ixL K rfl) (pe_lst (pa_cons (pv 4) (pa_cons (pv 4) (pa_cons pe_str pa_nil)))) (pe_op op_sub (pv 3) pe_int) (fun _ _ => rfl))) (pe_slice sl_str (pv 8) (po_some (pe_op op_add (pv 9) (pe_ix (ixL K rfl) (pe_lst (pa_cons pe_int (pa_cons pe_int (pa_cons pe_int pa_nil)))) (pe_op op_sub (pv 3) pe_int) (fun _ _ => rfl)))) po_none)) po_none (po_some pe_int)))))) pss_nil)))
    (pss_cons (ps_set (i := 6) sc__law_name.nd rfl (Or.inl rfl) (pe_op op_cat (pe_op op_cat (pe_lst (pa_cons (pv 5) pa_nil)) (pe_lc (own := [("k", 10)]) (g := (gName 10)) rfl sc__law_name.nd (pi_range1 rfl B.b_range (pa_cons pe_int pa_nil)) (blkOk_by (N := ["tray", "used", "letters", "way", "letter", "name", "some", "words", "old", "at", "k", "one"]) (sc := defScope s__law_name) (by decide +kernel)) (fun _ _ _ _ _ => (pg_name (i := 10) sc__law_name.nd rfl (Or.inl rfl) (hf := Or.inr rfl))) (fun _ _ _ _ _ => pts_nil) (fun _ _ _ _ _ => (pe_ix ix_str (pv 2) (pv 10) (fun _ _ => rfl))))) (pe_lc (own := [("k", 10)]) (g := (gName 10)) rfl sc__law_name.nd (pi_range1 rfl B.b_range (pa_cons pe_int pa_nil)) (blkOk_by (N := ["tray", "used", "letters", "way", "letter", "name", "some", "words", "old", "at", "k", "one"]) (sc := defScope s__law_name) (by decide +kernel)) (fun _ _ _ _ _ => (pg_name (i := 10) sc__law_name.nd rfl (Or.inl rfl) (hf := Or.inr rfl))) (fun _ _ _ _ _ => pts_nil) (fun _ _ _ _ _ => (pe_op op_add_str (pe_ix ix_str (pv 2) (pv 10) (fun _ _ => rfl)) (pe_ix ix_str (pv 2) (pe_op op_sub pe_int (pv 10)) (fun _ _ => rfl)))))))
    (pss_cons (ps_set (i := 6) sc__law_name.nd rfl (Or.inl rfl) (pe_op op_cat (pe_op op_cat (pv 6) (pe_lc (own := [("k", 10)]) (g := (gName 10)) rfl sc__law_name.nd (pi_range1 rfl B.b_range (pa_cons pe_int pa_nil)) (blkOk_by (N := ["tray", "used", "letters", "way", "letter", "name", "some", "words", "old", "at", "k", "one"]) (sc := defScope s__law_name) (by decide +kernel)) (fun _ _ _ _ _ => (pg_name (i := 10) sc__law_name.nd rfl (Or.inl rfl) (hf := Or.inr rfl))) (fun _ _ _ _ _ => pts_nil) (fun _ _ _ _ _ => (pe_op op_mul_str (pe_ix ix_str (pv 2) (pv 10) (fun _ _ => rfl)) pe_int)))) (pe_lc (own := [("k", 10)]) (g := (gName 10)) rfl sc__law_name.nd (pi_range1 rfl B.b_range (pa_cons pe_int pa_nil)) (blkOk_by (N := ["tray", "used", "letters", "way", "letter", "name", "some", "words", "old", "at", "k", "one"]) (sc := defScope s__law_name) (by decide +kernel)) (fun _ _ _ _ _ => (pg_name (i := 10) sc__law_name.nd rfl (Or.inl rfl) (hf := Or.inr rfl))) (fun _ _ _ _ _ => pts_nil) (fun _ _ _ _ _ => (pe_op op_mul_str (pe_ix ix_str (pv 2) (pv 10) (fun _ _ => rfl)) pe_int)))))
    (pss_one (ps_ret (pe_ix (ixL K rfl) (pe_lc (own := [("one", 11)]) (g := (gName 11)) rfl sc__law_name.nd (piL K rfl (pv 6)) (blkOk_by (N := ["tray", "used", "letters", "way", "letter", "name", "some", "words", "old", "at", "k", "one"]) (sc := defScope s__law_name) (by decide +kernel)) (fun _ _ _ _ _ => (pg_name (i := 11) sc__law_name.nd rfl (Or.inl rfl) (hf := Or.inr rfl))) (fun _ _ _ _ _ => (pts_one (pt_cmpR (notInSeq K rfl) (pv 11) (pe_op op_cat (pv 1) (pe_lst (pa_cons pe_str (pa_cons pe_str (pa_cons pe_str pa_nil))))) (by rfl)))) (fun _ _ _ _ _ => (pv 11))) pe_int (fun _ _ => rfl))))))))))), ?_⟩
  refine seq_set ?_
  dsimp only [tC]
  refine seq_set ?_
  refine ⟨_, rfl, d, g, 5, n, rfl, D, by decide, by decide, by omega, fun way H1 w0 w1 D1 B1 => ?_⟩
  dsimp only
  refine seq_set ?_
  refine ⟨_, rfl, _, rfl, d, g, 26, n + 1, rfl, D1, by decide, by decide, by omega, fun r2 H2 r0 r1 D2 B2 => ⟨_, _, _, rfl, rfl, abc_len, abc_at r0 r1, ?_⟩⟩
  have hlet : LtA (⟨#[97 + r2.toNat]⟩ : Str) := LtA.one (by omega) (by omega)
  have hlet1 : (⟨#[97 + r2.toNat]⟩ : Str).length = 1 := rfl
  generalize (⟨#[97 + r2.toNat]⟩ : Str) = letter at hlet hlet1
  dsimp only
  refine seq_set ?_
  refine ⟨⟨_, rfl⟩, _, rfl, d, g, 8, n + 1 + 1, rfl, D2, by decide, by decide, by omega, fun r3 H3 q0 q1 D3 B3 => ?_⟩
  have B03 := (B1.trans B2).trans B3
  refine ⟨_, _, rfl, rfl, _, rfl, by omega, by omega, fun D8 hD8 => ?_⟩
  have ne8 := D3.ne hD8
  refine lc_range (lo := 0) (n := (1 + r3).toNat) (Plet d g D8 (n + 3) H3) ?_ ?_ ?_
  · exact ⟨(But.refl d g H3).new hD8, (D3.le (by simp; omega)).new hD8, [], upd_same, rfl, fun y hy => by simp at hy⟩
  · rintro i H4 hi ⟨b4, D4, ys, hy, ly, ay⟩
    refine ⟨rfl, _, rfl, _, rfl, d, g, 26, n + 3 + (i : Int), rfl, D4, by decide, by decide, by omega, fun r5 H5 z0 z1 D5 B5 => ?_⟩
    refine ⟨_, _, _, rfl, rfl, abc_len, abc_at z0 z1, ys.map V.str, B5 _ _ ne8.1 ne8.2 hy, line5 (by rw [List.length_map]; omega), (b4.trans B5).atNew hD8, (D5.le (by omega)).at ne8.1 ne8.2, ys ++ [⟨#[97 + r5.toNat]⟩], ?_, ?_, ?_⟩
    · rw [upd_same, List.map_append]
      rfl
    · rw [List.length_append, ly]
      rfl
    · intro y hy2
      rcases List.mem_append.mp hy2 with hy2 | hy2
      · exact ay y hy2
      · have e : y = ⟨#[97 + r5.toNat]⟩ := by simpa using hy2
        rw [e]
        exact ⟨LtA.one (by omega) (by omega), rfl⟩
  rintro H4 ⟨b4, D4, ys, hy, ly, ay⟩
  have hsum := sum_ones ay
  have e0 : (("" : Str)).length = 0 := rfl
  refine ⟨_, D8, ys, rfl, rfl, .inl (SqL.of hy), ?_, ?_⟩
  · rw [hsum, e0]
    omega
  rw [show Txt.join "" ys = Str.join "" ys from PySem.StrLaws.glued_eq_join _ _]
  have hnm : LtS (Str.join "" ys) := ⟨by rw [join_len, hsum]; omega, join_lt ys fun y hy => (ay y hy).1⟩
  generalize Str.join "" ys = nm0 at hnm
  have B04 := B03.trans b4
  have D4' : Tray H4 d g (n + 11) := D4.le (by omega)
  clear ay hsum ly hy hD8 ne8 b4 D4 B3 B2 B1 B03 D1 D2 D3
  dsimp only
  refine seq_abs (fun σ' H' => ∃ nm u7 u8 u9, σ' = [some (.ref d), some (.ref u), some (.str abc), some (.int way), some (.str letter), some (.str nm), none, u7, u8, u9, none, none] ∧ LtS nm ∧ Tray H' d g (n + 20) ∧ But d g H H') (fun σ5 H5 w5 => ?_) (fun nx hnx => ?_)
  · obtain ⟨nm, u7, u8, u9, rfl, hnm5, D5, B5⟩ := w5
    have hu5 := B5 _ _ nd ng hu
    refine seq_set ?_
    -- [name] + [letters[k] ..] + [..]
    refine ⟨_, rfl, (by show 1 ≤ sizeLine; decide), fun l0 n0 => ?_⟩
    have s0 := same_new n0 (.lst [V.str nm])
    have e0 : (upd H5 l0 (.lst [V.str nm])) l0 = some (.lst [V.str nm]) := upd_same
    generalize upd H5 l0 (.lst [V.str nm]) = H6 at s0 e0
    refine ⟨_, rfl, by decide, by decide, fun D1 nD1 => lc_range (lo := 0) (n := 26) (Pf H6 D1 one1) ?_ ?_ ?_⟩
    · exact ⟨same_new nD1 _, upd_same⟩
    · rintro i H7 hi p
      exact ⟨rfl, _, rfl, _, rfl, _, _, _, rfl, rfl, abc_len, abc_at (r := 0 + (i : Int)) (by omega) (by omega), _, p.2, line5 (by simp; omega), by rw [show (0 + (i : Int)).toNat = i by omega]; exact p.next nD1⟩
    rintro H7 p7
    refine ⟨l0, D1, _, _, rfl, rfl, p7.1 _ _ e0, p7.2, (by simp; decide), fun l1 n1 => ?_⟩
    have s1 := (s0.trans p7.1).trans (same_new n1 (.lst ([V.str nm] ++ ((List.range 26).map one1).map V.str)))
    have e1 : (upd H7 l1 (.lst ([V.str nm] ++ ((List.range 26).map one1).map V.str))) l1 = some (.lst (([nm] ++ (List.range 26).map one1).map V.str)) := by rw [upd_same, List.map_append]; rfl
    generalize upd H7 l1 (.lst ([V.str nm] ++ ((List.range 26).map one1).map V.str)) = H8 at s1 e1
    refine ⟨_, rfl, by decide, by decide, fun D2 nD2 => lc_range (lo := 0) (n := 26) (Pf H8 D2 one2) ?_ ?_ ?_⟩
    · exact ⟨same_new nD2 _, upd_same⟩
    · rintro i H9 hi p
      refine ⟨rfl, _, rfl, _, rfl, _, _, _, rfl, rfl, abc_len, abc_at (r := 0 + (i : Int)) (by omega) (by omega), ?_⟩
      refine ⟨_, rfl, _, rfl, _, _, rfl, rfl, _, _, _, rfl, rfl, abc_len, abc_at (r := 25 - (0 + (i : Int))) (by omega) (by omega), _, _, rfl, rfl, (by show 1 + 1 ≤ sizeLine; decide), _, p.2, line5 (by simp; omega), ?_⟩
      rw [show (0 + (i : Int)).toNat = i by omega, show (25 - (0 + (i : Int))).toNat = 25 - i by omega]
      exact p.next nD2
    rintro H9 p9
    refine ⟨l1, D2, _, _, rfl, rfl, p9.1 _ _ e1, p9.2, (by simp; decide), fun l2 n2 => ?_⟩
    rw [← List.map_append]
    have s2 := (s1.trans p9.1).trans (same_new n2 (.lst ((([nm] ++ (List.range 26).map one1) ++ (List.range 26).map one2).map V.str)))
    have e2 : (upd H9 l2 (.lst ((([nm] ++ (List.range 26).map one1) ++ (List.range 26).map one2).map V.str))) l2 = some (.lst ((([nm] ++ (List.range 26).map one1) ++ (List.range 26).map one2).map V.str)) := upd_same
    generalize upd H9 l2 (.lst ((([nm] ++ (List.range 26).map one1) ++ (List.range 26).map one2).map V.str)) = Ha at s2 e2
    clear p7 p9 e0 e1 s0 s1 n0 n1 n2 nD1 nD2
    dsimp only
    refine seq_set ?_
    refine ⟨_, rfl, _, rfl, by decide, by decide, fun D3 nD3 => lc_range (lo := 0) (n := 26) (Pf Ha D3 one3) ?_ ?_ ?_⟩
    · exact ⟨same_new nD3 _, upd_same⟩
    · rintro i Hb hi p
      refine ⟨rfl, _, rfl, _, rfl, _, _, _, rfl, rfl, abc_len, abc_at (r := 0 + (i : Int)) (by omega) (by omega), _, 3, rfl, rfl, by decide, by decide, (by show 1 ≤ 1000; decide), _, p.2, line5 (by simp; omega), ?_⟩
      rw [show (0 + (i : Int)).toNat = i by omega]
      exact p.next nD3
    rintro Hb pb
    refine ⟨l2, D3, _, _, rfl, rfl, pb.1 _ _ e2, pb.2, (by simp; decide), fun l3 n3 => ?_⟩
    rw [← List.map_append]
    have s3 := (s2.trans pb.1).trans (same_new n3 (.lst (((([nm] ++ (List.range 26).map one1) ++ (List.range 26).map one2) ++ (List.range 26).map one3).map V.str)))
    have e3 : (upd Hb l3 (.lst (((([nm] ++ (List.range 26).map one1) ++ (List.range 26).map one2) ++ (List.range 26).map one3).map V.str))) l3 = some (.lst (((([nm] ++ (List.range 26).map one1) ++ (List.range 26).map one2) ++ (List.range 26).map one3).map V.str)) := upd_same
    generalize upd Hb l3 (.lst (((([nm] ++ (List.range 26).map one1) ++ (List.range 26).map one2) ++ (List.range 26).map one3).map V.str)) = Hc at s3 e3
    refine ⟨_, rfl, by decide, by decide, fun D4 nD4 => lc_range (lo := 0) (n := 26) (Pf Hc D4 one5) ?_ ?_ ?_⟩
    · exact ⟨same_new nD4 _, upd_same⟩
    · rintro i Hd hi p
      refine ⟨rfl, _, rfl, _, rfl, _, _, _, rfl, rfl, abc_len, abc_at (r := 0 + (i : Int)) (by omega) (by omega), _, 5, rfl, rfl, by decide, by decide, (by show 1 ≤ 1000; decide), _, p.2, line5 (by simp; omega), ?_⟩
      rw [show (0 + (i : Int)).toNat = i by omega]
      exact p.next nD4
    rintro Hd pd
    refine ⟨l3, D4, _, _, rfl, rfl, pd.1 _ _ e3, pd.2, (by simp; decide), fun l4 n4 => ?_⟩
    rw [← List.map_append]
    have s4 := (s3.trans pd.1).trans (same_new n4 (.lst ((((([nm] ++ (List.range 26).map one1) ++ (List.range 26).map one2) ++ (List.range 26).map one3) ++ (List.range 26).map one5).map V.str)))
    have e4 : (upd Hd l4 (.lst ((((([nm] ++ (List.range 26).map one1) ++ (List.range 26).map one2) ++ (List.range 26).map one3) ++ (List.range 26).map one5).map V.str))) l4 = some (.lst ((allSome nm).map V.str)) := upd_same
    generalize upd Hd l4 (.lst ((((([nm] ++ (List.range 26).map one1) ++ (List.range 26).map one2) ++ (List.range 26).map one3) ++ (List.range 26).map one5).map V.str)) = He at s4 e4
    clear pb pd e2 e3 s2 s3 n3 n4 nD3 nD4
    have B6 : But d g H He := B5.trans (But.of_same s4)
    have D6 := D5.same s4
    have hu6 := s4 _ _ hu5
    dsimp only
    refine ⟨_, rfl, l4, rfl, ⟨_, SqL.of e4⟩, fun D5 nD5 => lc_list (xs := (allSome nm).map V.str) (Pkeep He D5 us (allSome nm)) ?_ ?_ ?_ ?_⟩
    · exact ⟨same_new nD5 _, upd_same⟩
    · exact fun i Hf _ p => SqL.of (p.1 _ _ e4)
    · rintro i x Hf hx ⟨sf, hD⟩
      rw [List.getElem?_map] at hx
      obtain ⟨sx, hsx, rfl⟩ := Option.map_eq_some_iff.mp hx
      have hi : i < (allSome nm).length := (List.getElem?_eq_some_iff.mp hsx).1
      have hall : (us.map V.str ++ [V.str "", V.str "num", V.str "text"]).all flatV = true := by
        rw [List.all_append, List.all_map]
        simp [flatV]
      refine ⟨rfl, _, rfl, _, rfl, (by show 3 ≤ sizeLine; decide), fun l nl => ⟨u, l, _, _, rfl, rfl, (same_new nl _) _ _ (sf _ _ hu6), upd_same, ?_, fun m8 nm8 => ?_⟩⟩
      · rw [List.length_map]
        exact Nat.le_of_lt (line5 (show us.length + 3 ≤ 100000 by omega))
      have s7 := (same_new nl (.lst [V.str "", V.str "num", V.str "text"])).trans (same_new nm8 (.lst (us.map V.str ++ [V.str "", V.str "num", V.str "text"])))
      have e7 : (upd (upd Hf l (.lst [V.str "", V.str "num", V.str "text"])) m8 (.lst (us.map V.str ++ [V.str "", V.str "num", V.str "text"]))) m8 = some (.lst (us.map V.str ++ [V.str "", V.str "num", V.str "text"])) := upd_same
      generalize upd (upd Hf l (.lst [V.str "", V.str "num", V.str "text"])) m8 (.lst (us.map V.str ++ [V.str "", V.str "num", V.str "text"])) = Hg at s7 e7
      refine ⟨m8, _, rfl, .inl (SqL.of e7), rfl, hall, _, rfl, ?_⟩
      show if keepN us sx = true then _ else _
      cases hk : keepN us sx with
      | true =>
        refine iteT ?_
        refine ⟨_, rfl, _, s7 _ _ hD, ?_, Same.atNew (sf.trans s7) nD5, ?_⟩
        · rw [List.length_map]
          exact line5 (Nat.le_trans (List.length_filter_le _ _) (Nat.le_trans (List.length_take_le' _ _) (by simp [allSome])))
        · rw [upd_same, ← take_next hsx, List.filter_append, List.map_append, filt1 hk]
          rfl
      | false =>
        refine iteF ⟨sf.trans s7, ?_⟩
        rw [← take_next hsx, List.filter_append, filt0 hk]
        simpa using s7 _ _ hD
    · rintro Hf ⟨sf, hD⟩
      rw [List.length_map, List.take_length] at hD
      obtain ⟨z, r, hz⟩ := some_kept h22 (allSome nm) fun k hk => by
        simp only [allSome, List.mem_append]
        exact .inl (.inl (.inl (.inr (List.mem_map.mpr ⟨k, List.mem_range.mpr hk, rfl⟩))))
      rw [hz] at hD
      have hzm : z ∈ (allSome nm).filter (keepN us) := by rw [hz]; simp
      obtain ⟨hz1, hz2⟩ := List.mem_filter.mp hzm
      rw [keepN_iff] at hz2
      have hzl : LtS z := by
        have ok : ∀ k, k < 26 → LtS (one1 k) ∧ LtS (one2 k) ∧ LtS (one3 k) ∧ LtS (one5 k) := fun k hk => ones_ok hk
        simp only [allSome, List.mem_append, List.mem_singleton, List.mem_map, List.mem_range] at hz1
        rcases hz1 with (((rfl | ⟨k, hk, rfl⟩) | ⟨k, hk, rfl⟩) | ⟨k, hk, rfl⟩) | ⟨k, hk, rfl⟩
        · exact hnm5
        · exact (ok k hk).1
        · exact (ok k hk).2.1
        · exact (ok k hk).2.2.1
        · exact (ok k hk).2.2.2
      refine ⟨_, _, _, .str z, rfl, rfl, SqL.of hD, at_of rfl rfl, ?_⟩
      refine q z Hf ⟨hzl, fun e => hz2 (by simp [e]), fun e => hz2 (by simp [e]), fun e => hz2 (by simp [e])⟩ (fun e => hz2 (by simp [e])) (D6.same sf) (B6.trans (But.of_same sf))
  · refine ⟨_, rfl, rfl, _, rfl, ite2 (fun c => ?_) (fun c => ?_)⟩
    · refine ⟨(by show 12 ≤ sizeLine; decide), fun l nl => ?_⟩
      have D5 := D4'.new (o := .lst (hints.map V.str)) nl
      have B5 := B04.new (o := .lst (hints.map V.str)) nl
      have hl : (upd H4 l (.lst (hints.map V.str))) l = some (.lst (hints.map V.str)) := upd_same
      have ne := D4'.ne nl
      refine ⟨_, rfl, _, rfl, d, g, 12, n + 11, rfl, D5, by decide, by decide, by omega, fun r6 H6 z0 z1 D6 B6 => ?_⟩
      obtain ⟨x, hx, hxm⟩ := str_at (us := hints) z0 z1
      refine ⟨_, _, _, .str x, rfl, rfl, SqL.of (B6 _ _ ne.1 ne.2 hl), hx, ?_⟩
      exact hnx _ _ ⟨x, _, _, _, rfl, hints_ok x hxm, D6.le (by omega), B5.trans B6⟩
    refine ⟨_, rfl, _, _, rfl, rfl, _, rfl, ite2 (fun c2 => ?_) (fun c2 => ?_)⟩
    · have c2' := of_decide_eq_true c2
      refine ⟨_, rfl, Nat.zero_le _, fun p np => ?_⟩
      have D5 := D4'.new (o := .lst []) np
      have B5 := B04.new (o := .lst []) np
      refine ⟨.list (us.map PyData.str), .list [], .lst (SqL.of (B5 _ _ nd ng hu)) (dp_strs us), .lst (SqL.of upd_same) .nil, shaped_strs (fun x hx => (hus x hx).2), rfl, _, rfl, ?_⟩
      rw [eqv_nils]
      generalize upd H4 p (.lst []) = H5 at D5 B5
      cases us with
      | nil =>
        refine iteF ?_
        exact hnx _ _ ⟨nm0, _, _, _, rfl, hnm, D5.le (by omega), B5⟩
      | cons x0 rest =>
        refine iteT ?_
        have hu5 := B5 _ _ nd ng hu
        have lpos : (0 : Int) < (((x0 :: rest).map V.str).length : Int) := by rw [List.length_map, List.length_cons]; omega
        have l22 : (((x0 :: rest).map V.str).length : Int) ≤ 22 := by rw [List.length_map]; omega
        refine ⟨_, rfl, _, rfl, _, rfl, u, _, rfl, .inl (SqL.of hu5), d, g, _, n + 11, rfl, D5, lpos, by omega, by omega, fun r6 H6 z0 z1 D6 B6 => ?_⟩
        rw [List.length_map] at z1
        obtain ⟨old, hold, hom⟩ := str_at z0 z1
        refine ⟨_, _, _, .str old, rfl, rfl, SqL.of (B6 _ _ nd ng hu5), hold, ?_⟩
        have ho := hus old hom
        have ho8 : (old.length : Int) ≤ 8 := by have := ho.1; omega
        have big : ∀ {k : Nat}, k ≤ 100 → k ≤ sizeLine := fun h => Nat.le_of_lt (line5 (by omega))
        have hol : old.length ≤ sizeLine := big (by have := ho.1; omega)
        refine ⟨_, rfl, _, rfl, old, rfl, hol, _, _, rfl, rfl, d, g, _, n + 11 + 1, rfl, D6, by omega, by omega, by omega, fun r7 H7 y0 y1 D7 B7 => ?_⟩
        refine ⟨_, rfl, _, rfl, _, rfl, old, rfl, hol, _, rfl, _, rfl, (by show 3 ≤ sizeLine; decide), fun l1 nl1 => ?_⟩
        have hw : way - 1 = 0 ∨ way - 1 = 1 ∨ way - 1 = 2 := by
          have : ¬ way = 4 := fun z => c (decide_eq_true (by rw [z]))
          omega
        have pick1 : ∃ y : Str, atI [V.str letter, V.str letter, V.str ""] (way - 1) = some (.str y) ∧ LtA y ∧ y.length ≤ 1 := by
          rcases hw with h | h | h <;> rw [h]
          · exact ⟨letter, at_of (j := 0) rfl rfl, hlet, by omega⟩
          · exact ⟨letter, at_of (j := 1) rfl rfl, hlet, by omega⟩
          · exact ⟨"", at_of (j := 2) rfl rfl, LtA.nil, by decide⟩
        obtain ⟨y, hy, ly, ly1⟩ := pick1
        have pick2 : ∃ k : Int, atI [V.int 0, V.int 1, V.int 1] (way - 1) = some (.int k) := by
          rcases hw with h | h | h <;> rw [h]
          · exact ⟨0, at_of (j := 0) rfl rfl⟩
          · exact ⟨1, at_of (j := 1) rfl rfl⟩
          · exact ⟨1, at_of (j := 2) rfl rfl⟩
        obtain ⟨k, hk⟩ := pick2
        refine ⟨_, rfl, _, _, rfl, rfl, _, _, _, .str y, rfl, rfl, SqL.of upd_same, hy, _, _, rfl, rfl, ?_, ?_⟩
        · have := cutS_length old none (some r7)
          exact big (by have := ho.1; omega)
        refine ⟨_, rfl, _, rfl, (by show 3 ≤ sizeLine; decide), fun l2 nl2 => ⟨_, rfl, _, _, rfl, rfl, _, _, _, .int k, rfl, rfl, SqL.of upd_same, hk, _, _, rfl, rfl, _, rfl, old, rfl, hol, _, _, rfl, rfl, ?_, ?_⟩⟩
        · have h1 := cutS_length old none (some r7)
          have h2 := cutS_length old (some (r7 + k)) none
          rw [len_app]
          exact big (by have := ho.1; omega)
        refine ⟨_, rfl, _, rfl, ?_, ?_⟩
        · have h1 := cutS_length old none (some r7)
          have h2 := cutS_length old (some (r7 + k)) none
          rw [len_app, len_app]
          exact big (by have := ho.1; omega)
        refine hnx _ _ ⟨_, _, _, _, rfl, ⟨cut8 _, LtA.cut (((ho.2.cut _ _).app ly).app (ho.2.cut _ _)) _ _⟩, ((D7.new nl1).new nl2).le (by omega), (((B5.trans B6).trans B7).new nl1).new nl2⟩
    · refine iteF ?_
      exact hnx _ _ ⟨nm0, _, _, _, rfl, hnm, D4'.le (by omega), B04⟩
end
end My
namespace My
open PySem L2
/-! kinds -/
inductive Kd where
  | num | text
  | of (x : Str)
  | row (k : Kd)
  | calls (ps : List Kd) (r : Kd)
  | answers (n : Int) (k : Kd)
mutual
def Kd.depth : Kd → Nat
  | .num => 1
  | .text => 1
  | .of _ => 1
  | .row k => Kd.depth k + 1
  | .calls ps r => max (Kd.depths ps) (Kd.depth r) + 1
  | .answers _ k => Kd.depth k + 1
def Kd.depths : List Kd → Nat
  | [] => 0
  | k :: r => max (Kd.depth k) (Kd.depths r)
end
mutual
def Kd.size : Kd → Nat
  | .num => 1
  | .text => 1
  | .of _ => 1
  | .row k => Kd.size k + 1
  | .calls ps r => Kd.sizes ps + Kd.size r + 1
  | .answers _ k => Kd.size k + 1
def Kd.sizes : List Kd → Nat
  | [] => 0
  | k :: r => Kd.size k + Kd.sizes r
end
mutual
/-- v stands for the kind k -/
inductive KdAt (H : Hp) : V → Kd → Prop
  | num {a : Addr} (h : H a = some (.tup [.str "num"])) : KdAt H (.ref a) .num
  | text {a : Addr} (h : H a = some (.tup [.str "text"])) : KdAt H (.ref a) .text
  | of {a : Addr} {x : Str} (h : H a = some (.tup [.str "of", .str x])) : KdAt H (.ref a) (.of x)
  | row {a : Addr} {v : V} {k : Kd} (h : H a = some (.tup [.str "row", v])) (hk : KdAt H v k) : KdAt H (.ref a) (.row k)
  | calls {a b : Addr} {vs : List V} {v : V} {ps : List Kd} {r : Kd} (h : H a = some (.tup [.str "calls", .ref b, v])) (hb : H b = some (.tup vs)) (hp : KdsAt H vs ps) (hr : KdAt H v r) : KdAt H (.ref a) (.calls ps r)
  | answers {a : Addr} {n : Int} {v : V} {k : Kd} (h : H a = some (.tup [.str "answers", .int n, v])) (hk : KdAt H v k) : KdAt H (.ref a) (.answers n k)
inductive KdsAt (H : Hp) : List V → List Kd → Prop
  | nil : KdsAt H [] []
  | cons {v : V} {vs : List V} {k : Kd} {ks : List Kd} (h : KdAt H v k) (t : KdsAt H vs ks) : KdsAt H (v :: vs) (k :: ks)
end
mutual
theorem KdAt.mono {H H' : Hp} (t : Tups H H') : ∀ {k : Kd} {v : V}, KdAt H v k → KdAt H' v k
  | .num, _, .num h => .num (t _ _ h)
  | .text, _, .text h => .text (t _ _ h)
  | .of _, _, .of h => .of (t _ _ h)
  | .row _, _, .row h hk => .row (t _ _ h) (KdAt.mono t hk)
  | .calls _ _, _, .calls h hb hp hr => .calls (t _ _ h) (t _ _ hb) (KdsAt.mono t hp) (KdAt.mono t hr)
  | .answers _ _, _, .answers h hk => .answers (t _ _ h) (KdAt.mono t hk)
theorem KdsAt.mono {H H' : Hp} (t : Tups H H') : ∀ {ks : List Kd} {vs : List V}, KdsAt H vs ks → KdsAt H' vs ks
  | [], _, .nil => .nil
  | _ :: _, _, .cons h r => .cons (KdAt.mono t h) (KdsAt.mono t r)
end
theorem KdsAt.len {H : Hp} : ∀ {ks : List Kd} {vs : List V}, KdsAt H vs ks → vs.length = ks.length
  | [], _, .nil => rfl
  | _ :: _, _, .cons _ r => by rw [List.length_cons, KdsAt.len r, List.length_cons]
theorem KdsAt.app {H : Hp} : ∀ {ks ls : List Kd} {vs ws : List V}, KdsAt H vs ks → KdsAt H ws ls → KdsAt H (vs ++ ws) (ks ++ ls)
  | [], _, _, _, .nil, h => h
  | _ :: _, _, _, _, .cons a r, h => .cons a (KdsAt.app r h)
theorem KdsAt.get {H : Hp} : ∀ {ks : List Kd} {vs : List V}, KdsAt H vs ks → ∀ (i : Nat) (v : V), vs[i]? = some v → ∃ k, ks[i]? = some k ∧ KdAt H v k
  | [], _, .nil, i, v, h => by simp at h
  | _ :: _, _, .cons a r, 0, v, h => by
    have e := Option.some.inj h
    subst e
    exact ⟨_, rfl, a⟩
  | _ :: _, _, .cons a r, i + 1, v, h => KdsAt.get r i v h
theorem Kd.depths_app : ∀ (a b : List Kd), Kd.depths (a ++ b) = max (Kd.depths a) (Kd.depths b)
  | [], b => by simp [Kd.depths]
  | k :: r, b => by
    rw [List.cons_append, Kd.depths, Kd.depths, Kd.depths_app r b]
    omega
theorem Kd.sizes_app : ∀ (a b : List Kd), Kd.sizes (a ++ b) = Kd.sizes a + Kd.sizes b
  | [], b => by simp [Kd.sizes]
  | k :: r, b => by
    rw [List.cons_append, Kd.sizes, Kd.sizes, Kd.sizes_app r b]
    omega
/-- what stands within, by one step -/
def Kd.inner : Kd → List Kd
  | .row k => [k]
  | .calls ps r => ps ++ [r]
  | .answers _ k => [k]
  | _ => []
theorem Kd.depth_inner (k : Kd) : k.depth = Kd.depths k.inner + 1 := by
  cases k with
  | num => rfl
  | text => rfl
  | of x => rfl
  | row k => simp [Kd.depth, Kd.inner, Kd.depths]
  | calls ps r => simp [Kd.depth, Kd.inner, Kd.depths, Kd.depths_app]
  | answers n k => simp [Kd.depth, Kd.inner, Kd.depths]
theorem Kd.size_inner (k : Kd) : k.size = Kd.sizes k.inner + 1 := by
  cases k with
  | num => rfl
  | text => rfl
  | of x => rfl
  | row k => simp [Kd.size, Kd.inner, Kd.sizes]
  | calls ps r => simp [Kd.size, Kd.inner, Kd.sizes, Kd.sizes_app]
  | answers n k => simp [Kd.size, Kd.inner, Kd.sizes]
theorem Kd.len_sizes : ∀ (ks : List Kd), ks.length ≤ Kd.sizes ks
  | [] => Nat.le_refl _
  | k :: r => by
    have := Kd.len_sizes r
    have h : 1 ≤ k.size := by rw [Kd.size_inner]; omega
    rw [List.length_cons, Kd.sizes]
    omega
/-- no callback in it -/
def Kd.flat : Kd → Bool
  | .num => true
  | .text => true
  | .of _ => true
  | .row k => k.flat
  | _ => false
/-- a kind as the law's writings have it: no answer literals, no calls in calls, three called at most -/
def Kd.plain : Kd → Bool
  | .num => true
  | .text => true
  | .of _ => true
  | .row k => k.plain
  | .calls ps r => ps.all Kd.flat && r.flat && decide (ps.length ≤ 3)
  | .answers _ _ => false
mutual
def Kd.names : Kd → List Str
  | .num => []
  | .text => []
  | .of x => [x]
  | .row k => Kd.names k
  | .calls ps r => Kd.namesL ps ++ Kd.names r
  | .answers _ k => Kd.names k
def Kd.namesL : List Kd → List Str
  | [] => []
  | k :: r => Kd.names k ++ Kd.namesL r
end
end My
namespace My
open PySem L2
/-- _law_names -/
def spNames : Sp := fun vs H Q _ => ∃ (d g u : Addr) (n : Int) (m : Nat) (us : List Str), vs = [.ref d, .int (m : Int), .ref u] ∧ Tray H d g n ∧ n ≤ 800000 ∧ u ≠ d ∧ u ≠ g ∧ H u = some (.lst (us.map V.str)) ∧ us.length + m ≤ 22 ∧ (∀ x ∈ us, LtS x) ∧
  ∀ (r : Addr) (zs : List Str) (H' : Hp), H r = none → H' r = some (.lst (zs.map V.str)) → zs.length = m → (∀ z ∈ zs, Nm z ∧ z ∉ us) → zs.Nodup → Tray H' d g (n + 20 * (m : Int)) → But d g H H' → Q (.ref r) H'
def Pnam (d g u r : Addr) (n : Int) (m : Nat) (us : List Str) (H0 : Hp) (i : Nat) (σ : St) (H : Hp) : Prop :=
  ∃ (zs : List Str) (uk : Option V), σ = [some (.ref d), some (.int (m : Int)), some (.ref u), some (.ref r), uk] ∧ But d g H0 H ∧ H r = some (.lst (zs.map V.str)) ∧ zs.length = i ∧ (∀ z ∈ zs, Nm z ∧ z ∉ us) ∧ zs.Nodup ∧ Tray H d g (n + 20 * (i : Int))
/-- _law_flat_kind -/
def spFlat (e : Nat) : Sp := fun vs H Q _ => ∃ (d g nl : Addr) (n deep : Int) (nms : List Str), vs = [.ref d, .ref nl, .int deep] ∧ deep = (e : Int) ∧ 1 ≤ e ∧ Tray H d g n ∧ n + 2 * (e : Int) ≤ 900000 ∧ nl ≠ d ∧ nl ≠ g ∧ H nl = some (.lst (nms.map V.str)) ∧
  nms.length ≤ 1000 ∧ (∀ x ∈ nms, LtS x) ∧ ∀ (v : V) (k : Kd) (H' : Hp), KdAt H' v k → k.flat = true → k.depth ≤ e → k.size ≤ e → (∀ x ∈ k.names, x ∈ nms) → Tray H' d g (n + 2 * (e : Int)) → But d g H H' → Q v H'
/-- _law_kind -/
def spKind (e : Nat) : Sp := fun vs H Q _ => ∃ (d g nl : Addr) (n deep : Int) (nms : List Str), vs = [.ref d, .ref nl, .int deep] ∧ deep = (e : Int) ∧ 1 ≤ e ∧ Tray H d g n ∧ n + 10 * (e : Int) + 10 ≤ 900000 ∧ nl ≠ d ∧ nl ≠ g ∧ H nl = some (.lst (nms.map V.str)) ∧
  nms.length ≤ 1000 ∧ (∀ x ∈ nms, LtS x) ∧ ∀ (v : V) (k : Kd) (H' : Hp), KdAt H' v k → k.plain = true → k.depth ≤ e → k.size ≤ 5 * e → (∀ x ∈ k.names, x ∈ nms) → Tray H' d g (n + 10 * (e : Int) + 10) → But d g H H' → Q v H'
theorem Kd.plain_of_flat : ∀ {k : Kd}, k.flat = true → k.plain = true
  | .num, _ => rfl
  | .text, _ => rfl
  | .of _, _ => rfl
  | .row k, h => Kd.plain_of_flat (k := k) h
def Pcalled (d g D8 : Addr) (n : Int) (e : Nat) (nms : List Str) (H0 : Hp) (i : Nat) (H : Hp) : Prop :=
  But d g H0 H ∧ Tray H d g (n + 2 * (e : Int) * (i : Int)) ∧ ∃ vs ks, H D8 = some (.lst vs) ∧ KdsAt H vs ks ∧ ks.length = i ∧ ks.all Kd.flat = true ∧ Kd.depths ks ≤ e ∧ Kd.sizes ks ≤ e * i ∧ (∀ x ∈ Kd.namesL ks, x ∈ nms)
theorem Kd.namesL_app : ∀ (a b : List Kd), Kd.namesL (a ++ b) = Kd.namesL a ++ Kd.namesL b
  | [], b => rfl
  | k :: r, b => by
    rw [List.cons_append, Kd.namesL, Kd.namesL, Kd.namesL_app r b, List.append_assoc]
section
variable {P : Program} {w : World} {K : PySem.W.Frag} {mg : Str → Option Value} {base : Heap} {f : Addr} {fd : FuncData}
theorem ok_names (B : Bn mg) (F : Fun K "_law_names" "_law_names" s__law_names f fd) (c__law_name : Cal P w K mg base "_law_name" 2 ["tray", "used"] spName) : FnOk P w K mg base CX0 3 f fd ["tray", "many", "used"] spNames := by
  refine F.ok sc__law_names (fun vs H Q E h => ?_) (fun cdv A outer s H vs Q E hr h => ?_)
  · obtain ⟨d, g, u, n, m, us, rfl, _⟩ := h
    rfl
  obtain ⟨d, g, u, n, m, us, rfl, D, hn, nd, ng, hu, h22, hus, q⟩ := h
  refine ⟨_, (pss_cons (ps_set (i := 3) sc__law_names.nd rfl (Or.inl rfl) (pe_lst pa_nil))
    (pss_cons (ps_for PassesOwn.never rfl (pi_range1 rfl B.b_range (pa_cons (pv 1) pa_nil)) (pg_name (i := 4) sc__law_names.nd rfl (Or.inl rfl)) (pss_one (ps_expr (pe_bm PySem.F.plainAttrs_list PySem.F.slot_list_append PySem.F.type_list_append mt_append (pv 3) (pa_cons (pc c__law_name (hr.mono (by first | decide | omega)) (pa_cons (pv 0) (pa_cons (pe_op op_cat (pv 2) (pv 3)) pa_nil))) pa_nil)))))
    (pss_one (ps_ret (pv 3))))), ?_⟩
  refine ⟨Nat.zero_le _, fun r nr => ⟨_, rfl, _, rfl, by omega, by omega, for_range (lo := 0) (n := (m : Int).toNat) (Pnam d g u r n m us H) ?_ ?_ ?_⟩⟩
  · exact ⟨[], none, rfl, (But.refl d g H).new nr, upd_same, rfl, fun z hz => by simp at hz, List.nodup_nil, (D.new nr).le (by simp)⟩
  · rintro i σ H1 hi ⟨zs, uk, rfl, b1, hr1, lz, az, ndz, D1⟩
    have hi2 : i < m := by omega
    have ner : r ≠ d ∧ r ≠ g := D.ne nr
    have hu1 := b1 _ _ nd ng hu
    refine ⟨_, rfl, tyL hr1, _, rfl, _, rfl, _, rfl, u, r, _, _, rfl, rfl, hu1, hr1, ?_, fun c nc => ?_⟩
    · rw [List.length_map, List.length_map]
      exact Nat.le_of_lt (line5 (by omega))
    have nec := D1.ne nc
    have D2 := D1.new (o := .lst (us.map V.str ++ zs.map V.str)) nc
    have e2 : (upd H1 c (.lst (us.map V.str ++ zs.map V.str))) c = some (.lst ((us ++ zs).map V.str)) := by rw [upd_same, List.map_append]
    have b2 := b1.new (o := .lst (us.map V.str ++ zs.map V.str)) nc
    have hr2 : (upd H1 c (.lst (us.map V.str ++ zs.map V.str))) r = some (.lst (zs.map V.str)) := same_new nc _ _ _ hr1
    generalize upd H1 c (.lst (us.map V.str ++ zs.map V.str)) = H2 at D2 e2 b2 hr2
    refine ⟨d, g, c, n + 20 * (i : Int), us ++ zs, rfl, D2, by omega, nec.1, nec.2, e2, by rw [List.length_append]; omega, fun x hx => ?_, fun z H3 hz1 hz2 D3 B3 => ?_⟩
    · rcases List.mem_append.mp hx with hx | hx
      · exact hus x hx
      · exact (az x hx).1.1
    have hr3 := B3 _ _ ner.1 ner.2 hr2
    refine ⟨r, _, _, rfl, rfl, hr3, line5 (by rw [List.length_map]; omega), zs ++ [z], _, rfl, ?_, ?_, ?_, ?_, ?_, ?_⟩
    · exact (b2.trans B3).atNew nr
    · rw [upd_same, List.map_append]
      rfl
    · rw [List.length_append, lz]
      rfl
    · intro y hy
      rcases List.mem_append.mp hy with hy | hy
      · exact az y hy
      · have e : y = z := by simpa using hy
        rw [e]
        exact ⟨hz1, fun h => hz2 (List.mem_append_left _ h)⟩
    · rw [List.nodup_append]
      refine ⟨ndz, by simp, fun a ha b hb e => ?_⟩
      have eb : b = z := by simpa using hb
      exact hz2 (List.mem_append_right _ (by rw [← eb, ← e]; exact ha))
    · exact (D3.le (by omega)).at ner.1 ner.2
  · rintro σ H1 ⟨zs, uk, rfl, b1, hr1, lz, az, ndz, D1⟩
    refine ⟨_, rfl, ?_⟩
    exact q r zs H1 nr hr1 (by omega) az ndz (D1.le (by omega)) b1
theorem ok_flat (B : Bn mg) (F : Fun K "_law_flat_kind" "_law_flat_kind" s__law_flat_kind f fd) (hm : mg "_law_flat_kind" = some (.ref f)) (hb : Binds K fd ["tray", "names", "deep"] [])
    (c__law_draw : Cal P w K mg base "_law_draw" 1 ["tray", "many"] spDraw) : ∀ e : Nat, FnOk P w K mg base CX0 (e + 1) f fd ["tray", "names", "deep"] (spFlat e)
  | 0 => by
    have no : ∀ vs H Q E, ¬ spFlat 0 vs H Q E := fun vs H Q E h => by
      obtain ⟨d, g, nl, n, deep, nms, _, _, h, _⟩ := h
      omega
    exact ⟨fun vs H Q E h => absurd h (no vs H Q E), fun A outer s H args us vs Q E _ _ _ _ h => absurd h (no vs H Q E)⟩
  | e + 1 => by
    have c__law_flat_kind : Cal P w K mg base "_law_flat_kind" (e + 1) ["tray", "names", "deep"] (spFlat e) := ⟨f, fd, ok_flat B F hm hb c__law_draw e, hm, F.kp, hb⟩
    refine F.ok sc__law_flat_kind (fun vs H Q E h => ?_) (fun cdv A outer s H vs Q E hr h => ?_)
    · obtain ⟨d, g, nl, n, deep, nms, rfl, _⟩ := h
      rfl
    obtain ⟨d, g, nl, n, deep, nms, rfl, he, _, D, hn, nd, ng, hnl, h1000, hlt, q⟩ := h
    refine ⟨_, (pss_cons (ps_set (i := 3) sc__law_flat_kind.nd rfl (Or.inl rfl) (pc c__law_draw (hr.mono (by first | decide | omega)) (pa_cons (pv 0) (pa_cons pe_int pa_nil))))
    (pss_cons (ps_if (PW.pt (pw_and (pt_cmpR op_gt (pv 3) pe_int (nomark _)) (pw_and1 (pt_cmpR op_gt (pv 2) pe_int (nomark _))))) (pss_one (ps_ret (pe_tup (pa_cons pe_str (pa_cons (pc c__law_flat_kind (hr.mono (by first | decide | omega)) (pa_cons (pv 0) (pa_cons (pv 1) (pa_cons (pe_op op_sub (pv 2) pe_int) pa_nil)))) pa_nil))))) pss_nil)
    (pss_cons (ps_if (PW.pt (pw_and (pt_cmpR op_gt (pv 3) pe_int (nomark _)) (pw_and1 (pt_cmpR (neD K rfl hr.units) (pv 1) (pe_lst pa_nil) (nomark _))))) (pss_one (ps_ret (pe_tup (pa_cons pe_str (pa_cons (pe_ix (ixL K rfl) (pv 1) (pc c__law_draw (hr.mono (by first | decide | omega)) (pa_cons (pv 0) (pa_cons (pe_callB (lenSeq K rfl) (by rfl) B.b_len PySem.boot_len (pa_cons (pv 1) pa_nil)) pa_nil))) (fun _ _ => rfl)) pa_nil))))) pss_nil)
    (pss_one (ps_ret (pe_ix (ixL K rfl) (pe_lst (pa_cons (pe_tup (pa_cons pe_str pa_nil)) (pa_cons (pe_tup (pa_cons pe_str pa_nil)) pa_nil))) (pe_op op_mod (pv 3) pe_int) (fun _ _ => rfl))))))), ?_⟩
    refine seq_set ?_
    refine ⟨_, rfl, d, g, 7, n, rfl, D, by decide, by decide, by omega, fun way H1 w0 w1 D1 B1 => ?_⟩
    dsimp only
    have hn1 := B1 _ _ nd ng hnl
    refine seq_abs (fun σ' H' => σ' = [some (.ref d), some (.ref nl), some (.int deep), some (.int way)] ∧ H' = H1) (fun σ2 H2 w2 => ?_) (fun nx hnx => ?_)
    · obtain ⟨rfl, rfl⟩ := w2
      refine seq_abs (fun σ' H' => σ' = [some (.ref d), some (.ref nl), some (.int deep), some (.int way)] ∧ But d g H H' ∧ Tray H' d g (n + 1)) (fun σ3 H3 w3 => ?_) (fun nx hnx => ?_)
      · obtain ⟨rfl, B3, D3⟩ := w3
        refine ⟨(by show 1 ≤ sizeLine; decide), fun a na => ⟨(by show 1 ≤ sizeLine; decide), fun b nb => ⟨(by show 2 ≤ sizeLine; decide), fun l nl2 => ?_⟩⟩⟩
        have s4 := ((same_new na (.tup [V.str "num"])).trans (same_new nb (.tup [V.str "text"]))).trans (same_new nl2 (.lst [.ref a, .ref b]))
        have ea : (upd (upd (upd H3 a (.tup [V.str "num"])) b (.tup [V.str "text"])) l (.lst [.ref a, .ref b])) a = some (.tup [V.str "num"]) := same_new nl2 _ _ _ (same_new nb _ _ _ upd_same)
        have eb : (upd (upd (upd H3 a (.tup [V.str "num"])) b (.tup [V.str "text"])) l (.lst [.ref a, .ref b])) b = some (.tup [V.str "text"]) := same_new nl2 _ _ _ upd_same
        have el : (upd (upd (upd H3 a (.tup [V.str "num"])) b (.tup [V.str "text"])) l (.lst [.ref a, .ref b])) l = some (.lst [.ref a, .ref b]) := upd_same
        generalize upd (upd (upd H3 a (.tup [V.str "num"])) b (.tup [V.str "text"])) l (.lst [.ref a, .ref b]) = H4 at s4 ea eb el
        refine ⟨_, rfl, _, _, rfl, rfl, (show (0 : Int) < 2 by decide), ?_⟩
        have hw : way % 2 = 0 ∨ way % 2 = 1 := by omega
        have fin : ∀ (v : V) (k : Kd), KdAt H4 v k → k.flat = true → k.depth = 1 → k.size = 1 → k.names = [] → Q v H4 := fun v k hk h1 h2 h3 h4 =>
          q v k H4 hk h1 (by omega) (by omega) (by rw [h4]; exact fun x hx => by simp at hx) ((D3.le (by omega)).same s4) (B3.trans (But.of_same s4))
        rcases hw with hw | hw
        · exact ⟨_, _, _, _, rfl, rfl, SqL.of el, at_of (j := 0) hw rfl, fin _ _ (.num ea) rfl rfl rfl rfl⟩
        · exact ⟨_, _, _, _, rfl, rfl, SqL.of el, at_of (j := 1) hw rfl, fin _ _ (.text eb) rfl rfl rfl rfl⟩
      · refine ⟨_, rfl, _, _, rfl, rfl, _, rfl, ite2 (fun c => ?_) (fun c => ?_)⟩
        · refine ⟨_, rfl, Nat.zero_le _, fun p np => ?_⟩
          have D3 := D1.new (o := .lst []) np
          have B3 := B1.new (o := .lst []) np
          have hn3 := B3 _ _ nd ng hnl
          refine ⟨.list (nms.map PyData.str), .list [], .lst (SqL.of hn3) (dp_strs nms), .lst (SqL.of upd_same) .nil, shaped_strs (fun x hx => (hlt x hx).2), rfl, _, rfl, ?_⟩
          rw [eqv_nils]
          generalize upd H2 p (.lst []) = H3 at D3 B3 hn3
          cases nms with
          | nil => exact iteF (hnx _ _ ⟨rfl, B3, D3⟩)
          | cons x0 rest =>
            refine iteT ?_
            have lpos : (0 : Int) < (((x0 :: rest).map V.str).length : Int) := by rw [List.length_map, List.length_cons]; omega
            have l22 : (((x0 :: rest).map V.str).length : Int) ≤ 1000 := by rw [List.length_map]; omega
            refine ⟨_, rfl, _, rfl, _, rfl, nl, _, rfl, .inl (SqL.of hn3), d, g, _, n + 1, rfl, D3, lpos, by omega, by omega, fun r6 H6 z0 z1 D6 B6 => ?_⟩
            rw [List.length_map] at z1
            obtain ⟨x, hx, hxm⟩ := str_at z0 z1
            refine ⟨_, _, _, .str x, rfl, rfl, SqL.of (B6 _ _ nd ng hn3), hx, (by show 2 ≤ sizeLine; decide), fun a na => ?_⟩
            have hns : ∀ y ∈ (Kd.of x).names, y ∈ x0 :: rest := fun y hy => by
              have e1 : y = x := by simpa [Kd.names] using hy
              rw [e1]
              exact hxm
            exact q _ (.of x) _ (.of upd_same) rfl (by show 1 ≤ e + 1; omega) (by show 1 ≤ e + 1; omega) hns ((D6.new na).le (by omega)) ((B3.trans B6).new na)
        · exact iteF (hnx _ _ ⟨rfl, B1, D1⟩)
    · refine ⟨_, rfl, _, _, rfl, rfl, _, rfl, ite2 (fun c => ?_) (fun c => ?_)⟩
      · refine ⟨_, rfl, _, _, rfl, rfl, _, rfl, ite2 (fun c2 => ?_) (fun c2 => ?_)⟩
        · have c2' : 1 < deep := of_decide_eq_true c2
          refine ⟨_, rfl, _, rfl, _, rfl, _, _, rfl, rfl, d, g, nl, n + 1, _, nms, rfl, by omega, by omega, D1, by omega, nd, ng, hn1, h1000, hlt, fun v k H2 hk k1 k2 k3 k4 D2 B2 => ?_⟩
          refine ⟨(by show 2 ≤ sizeLine; decide), fun a na => ?_⟩
          exact q _ (.row k) _ (.row upd_same (hk.mono (Tups.of_same (same_new na _)))) k1 (by show k.depth + 1 ≤ e + 1; omega) (by show k.size + 1 ≤ e + 1; omega) k4 ((D2.new na).le (by omega)) ((B1.trans B2).new na)
        · exact hnx _ _ ⟨rfl, rfl⟩
      · exact iteF (hnx _ _ ⟨rfl, rfl⟩)
end
end My
namespace My
open PySem L2
/-- one def, so many promises -/
theorem FnOk_any {P : Program} {w : World} {K : PySem.W.Frag} {mg : Str → Option Value} {base : Heap} {n : Nat} {f : Addr} {fd : FuncData} {ps : List Str} {sp : Nat → Sp} {E : Nat}
    (h : ∀ e, e ≤ E → FnOk P w K mg base CX0 n f fd ps (sp e)) : FnOk P w K mg base CX0 n f fd ps (fun vs H Q X => ∃ e, e ≤ E ∧ sp e vs H Q X) :=
  ⟨fun vs H Q X ⟨e, l, z⟩ => (h e l).len vs H Q X z, fun A outer s H args us vs Q X a b c d ⟨e, l, z⟩ => (h e l).run A outer s H args us vs Q X a b c d z⟩
def spFlatTo (E : Nat) : Sp := fun vs H Q X => ∃ e, e ≤ E ∧ spFlat e vs H Q X
section
variable {P : Program} {w : World} {K : PySem.W.Frag} {mg : Str → Option Value} {base : Heap} {f : Addr} {fd : FuncData}
theorem ok_kind (B : Bn mg) (F : Fun K "_law_kind" "_law_kind" s__law_kind f fd) (hm : mg "_law_kind" = some (.ref f)) (hb : Binds K fd ["tray", "names", "deep"] [])
    (c__law_draw : Cal P w K mg base "_law_draw" 1 ["tray", "many"] spDraw) (c__law_flat_kind : Cal P w K mg base "_law_flat_kind" 6 ["tray", "names", "deep"] (spFlatTo 5)) : ∀ e : Nat, e ≤ 5 → FnOk P w K mg base CX0 (e + 7) f fd ["tray", "names", "deep"] (spKind e)
  | 0, _ => by
    have no : ∀ vs H Q E, ¬ spKind 0 vs H Q E := fun vs H Q E h => by
      obtain ⟨d, g, nl, n, deep, nms, _, _, h, _⟩ := h
      omega
    exact ⟨fun vs H Q E h => absurd h (no vs H Q E), fun A outer s H args us vs Q E _ _ _ _ h => absurd h (no vs H Q E)⟩
  | e + 1, le => by
    have c__law_kind : Cal P w K mg base "_law_kind" (e + 7) ["tray", "names", "deep"] (spKind e) := ⟨f, fd, ok_kind B F hm hb c__law_draw c__law_flat_kind e (by omega), hm, F.kp, hb⟩
    refine F.ok sc__law_kind (fun vs H Q E h => ?_) (fun cdv A outer s H vs Q E hr h => ?_)
    · obtain ⟨d, g, nl, n, deep, nms, rfl, _⟩ := h
      rfl
    obtain ⟨d, g, nl, n, deep, nms, rfl, he, _, D, hn, nd, ng, hnl, h1000, hlt, q⟩ := h
    refine ⟨_, (pss_cons (ps_set (i := 3) sc__law_kind.nd rfl (Or.inl rfl) (pc c__law_draw (hr.mono (by first | decide | omega)) (pa_cons (pv 0) (pa_cons pe_int pa_nil))))
    (pss_cons (ps_if (PW.pt (pw_and (pt_cmpR op_eq (pv 3) pe_int (nomark _)) (pw_and1 (pt_cmpR op_gt (pv 2) pe_int (nomark _))))) (pss_cons (ps_set (i := 4) sc__law_kind.nd rfl (Or.inl rfl) (pc c__law_draw (hr.mono (by first | decide | omega)) (pa_cons (pv 0) (pa_cons pe_int pa_nil))))
    (pss_cons (ps_set (i := 5) sc__law_kind.nd rfl (Or.inl rfl) (pe_callTy (tupleOf K rfl) (by rfl) B.b_tuple (by decide +kernel) (pa_cons (pe_lc (own := [("k", 6)]) (g := (gName 6)) rfl sc__law_kind.nd (pi_range1 rfl B.b_range (pa_cons (pv 4) pa_nil)) (blkOk_by (N := ["tray", "names", "deep", "way", "many", "called", "k"]) (sc := defScope s__law_kind) (by decide +kernel)) (fun _ _ _ _ _ => (pg_name (i := 6) sc__law_kind.nd rfl (Or.inl rfl) (hf := Or.inr rfl))) (fun _ _ _ _ _ => pts_nil) (fun _ _ _ _ _ => (pc c__law_flat_kind (hr.mono (by first | decide | omega)) (pa_cons (pv 0) (pa_cons (pv 1) (pa_cons (pe_op op_sub (pv 2) pe_int) pa_nil)))))) pa_nil)))
    (pss_one (ps_ret (pe_tup (pa_cons pe_str (pa_cons (pv 5) (pa_cons (pc c__law_flat_kind (hr.mono (by first | decide | omega)) (pa_cons (pv 0) (pa_cons (pv 1) (pa_cons (pe_op op_sub (pv 2) pe_int) pa_nil)))) pa_nil)))))))) pss_nil)
    (pss_cons (ps_if (PW.pt (pw_and (pt_cmpR op_eq (pv 3) pe_int (nomark _)) (pw_and1 (pt_cmpR op_gt (pv 2) pe_int (nomark _))))) (pss_one (ps_ret (pe_tup (pa_cons pe_str (pa_cons (pc c__law_kind (hr.mono (by first | decide | omega)) (pa_cons (pv 0) (pa_cons (pv 1) (pa_cons (pe_op op_sub (pv 2) pe_int) pa_nil)))) pa_nil))))) pss_nil)
    (pss_one (ps_ret (pc c__law_flat_kind (hr.mono (by first | decide | omega)) (pa_cons (pv 0) (pa_cons (pv 1) (pa_cons (pv 2) pa_nil))))))))), ?_⟩
    refine seq_set ?_
    refine ⟨_, rfl, d, g, 8, n, rfl, D, by decide, by decide, by omega, fun way H1 w0 w1 D1 B1 => ?_⟩
    dsimp only
    have hn1 := B1 _ _ nd ng hnl
    have hn0 : n + 10 * (e : Int) + 20 ≤ 900000 := by omega
    refine seq_abs (fun σ' H' => σ' = [some (.ref d), some (.ref nl), some (.int deep), some (.int way), none, none, none] ∧ H' = H1) (fun σ2 H2 w2 => ?_) (fun nx hnx => ?_)
    · obtain ⟨rfl, rfl⟩ := w2
      refine seq_abs (fun σ' H' => σ' = [some (.ref d), some (.ref nl), some (.int deep), some (.int way), none, none, none] ∧ H' = H2) (fun σ3 H3 w3 => ?_) (fun nx hnx => ?_)
      · obtain ⟨rfl, rfl⟩ := w3
        refine ⟨_, rfl, _, rfl, _, rfl, e + 1, le, d, g, nl, n + 1, deep, nms, rfl, he, by omega, D1, by omega, nd, ng, hn1, h1000, hlt, fun v k H4 hk k1 k2 k3 k4 D4 B4 => ?_⟩
        exact q v k H4 hk (Kd.plain_of_flat k1) k2 (by omega) k4 (D4.le (by omega)) (B1.trans B4)
      · refine ⟨_, rfl, rfl, _, rfl, ite2 (fun c => ?_) (fun c => ?_)⟩
        · refine ⟨_, rfl, _, _, rfl, rfl, _, rfl, ite2 (fun c2 => ?_) (fun c2 => ?_)⟩
          · have c2' : 1 < deep := of_decide_eq_true c2
            refine ⟨_, rfl, _, rfl, _, rfl, _, _, rfl, rfl, d, g, nl, n + 1, _, nms, rfl, by omega, by omega, D1, by omega, nd, ng, hn1, h1000, hlt, fun v k H4 hk k1 k2 k3 k4 D4 B4 => ?_⟩
            refine ⟨(by show 2 ≤ sizeLine; decide), fun a na => ?_⟩
            exact q _ (.row k) _ (.row upd_same (hk.mono (Tups.of_same (same_new na _)))) k1 (by show k.depth + 1 ≤ e + 1; omega) (by show k.size + 1 ≤ 5 * (e + 1); omega) k4 ((D4.new na).le (by omega)) ((B1.trans B4).new na)
          · exact hnx _ _ ⟨rfl, rfl⟩
        · exact iteF (hnx _ _ ⟨rfl, rfl⟩)
    · refine ⟨_, rfl, rfl, _, rfl, ite2 (fun c => ?_) (fun c => ?_)⟩
      · refine ⟨_, rfl, _, _, rfl, rfl, _, rfl, ite2 (fun c2 => ?_) (fun c2 => ?_)⟩
        · have c2' : 1 < deep := of_decide_eq_true c2
          refine ⟨_, rfl, d, g, 4, n + 1, rfl, D1, by decide, by decide, by omega, fun many H2 m0 m1 D2 B2 => ?_⟩
          have B12 := B1.trans B2
          refine ⟨_, rfl, _, rfl, by omega, by omega, fun D8 nD8 => ?_⟩
          have ne8 := D2.ne nD8
          have hn2 := B12 _ _ nd ng hnl
          refine lc_range (lo := 0) (n := many.toNat) (Pcalled d g D8 (n + 1 + 1) e nms H2) ?_ ?_ ?_
          · exact ⟨(But.refl d g H2).new nD8, (D2.new nD8).le (by simp), [], [], upd_same, .nil, rfl, rfl, Nat.zero_le _, Nat.zero_le _, fun x hx => by simp [Kd.namesL] at hx⟩
          · rintro i H3 hi ⟨b3, D3, vs, ks, hv, kv, lk, ak, dk, sk, nk⟩
            have hi4 : i < 4 := by omega
            have e1 : 2 * (e : Int) * (((i + 1 : Nat)) : Int) = 2 * (e : Int) * (i : Int) + 2 * (e : Int) := by rw [Int.natCast_succ, Int.mul_add, Int.mul_one]
            have e2 : 2 * (e : Int) * (i : Int) ≤ 2 * (e : Int) * 3 := Int.mul_le_mul_of_nonneg_left (by omega) (by omega)
            have e3 : e * (i + 1) = e * i + e := Nat.mul_succ e i
            refine ⟨rfl, _, rfl, _, rfl, _, rfl, _, _, rfl, rfl, e, by omega, d, g, nl, n + 1 + 1 + 2 * (e : Int) * (i : Int), _, nms, rfl, by omega, by omega, D3, by omega, nd, ng, b3 _ _ nd ng hn2, h1000, hlt, fun v k H4 hk k1 k2 k3 k4 D4 B4 => ?_⟩
            have T := (D3.tups B4).trans (Tups.upd (o := .lst (vs ++ [v])) (B4 _ _ ne8.1 ne8.2 hv))
            have T2 := Tups.upd (o := .lst (vs ++ [v])) (B4 _ _ ne8.1 ne8.2 hv)
            refine ⟨vs, B4 _ _ ne8.1 ne8.2 hv, line5 (by rw [kv.len]; omega), (b3.trans B4).atNew nD8, ?_, vs ++ [v], ks ++ [k], upd_same, (kv.mono T).app (.cons (hk.mono T2) .nil), by rw [List.length_append, lk]; rfl, ?_, ?_, ?_, ?_⟩
            · rw [e1]
              exact (D4.le (by omega)).at ne8.1 ne8.2
            · rw [List.all_append, ak]
              simp [k1]
            · rw [Kd.depths_app]
              simp [Kd.depths]
              omega
            · rw [Kd.sizes_app, e3]
              simp [Kd.sizes]
              omega
            · rw [Kd.namesL_app]
              intro x hx
              rcases List.mem_append.mp hx with hx | hx
              · exact nk x hx
              · exact k4 x (by simpa [Kd.namesL] using hx)
          rintro H3 ⟨b3, D3, vs, ks, hv, kv, lk, ak, dk, sk, nk⟩
          have e2 : 2 * (e : Int) * ((many.toNat : Nat) : Int) ≤ 2 * (e : Int) * 3 := Int.mul_le_mul_of_nonneg_left (by omega) (by omega)
          have e4 : e * many.toNat ≤ e * 3 := Nat.mul_le_mul_left e (by omega)
          refine ⟨D8, _, rfl, .inl ⟨SqL.of hv, fun t nt => ?_⟩⟩
          have s4 := same_new nt (.tup vs)
          have ht : (upd H3 t (.tup vs)) t = some (.tup vs) := upd_same
          have b4 := (B12.trans b3).new (o := .tup vs) nt
          have D4 := D3.new (o := .tup vs) nt
          generalize upd H3 t (.tup vs) = H4 at s4 ht b4 D4
          refine ⟨_, rfl, _, rfl, _, rfl, _, rfl, _, _, rfl, rfl, e, by omega, d, g, nl, _, _, nms, rfl, by omega, by omega, D4, by omega, nd, ng, b4 _ _ nd ng hnl, h1000, hlt, fun v k H5 hk k1 k2 k3 k4 D5 B5 => ?_⟩
          refine ⟨(by show 3 ≤ sizeLine; decide), fun a na => ?_⟩
          have T5 := (D4.tups B5).trans (Tups.of_same (same_new na (.tup [.str "calls", .ref t, v])))
          have T0 := (Tups.of_same s4).trans T5
          refine q _ (.calls ks k) _ (.calls upd_same (T5 _ _ ht) (kv.mono T0) (hk.mono (Tups.of_same (same_new na _)))) ?_ ?_ ?_ ?_ ((D5.new na).le (by omega)) ((b4.trans B5).new na)
          · show (ks.all Kd.flat && k.flat && decide (ks.length ≤ 3)) = true
            rw [ak, k1, decide_eq_true (by omega)]
            rfl
          · show max (Kd.depths ks) k.depth + 1 ≤ e + 1
            omega
          · show Kd.sizes ks + k.size + 1 ≤ 5 * (e + 1)
            omega
          · intro x hx
            have hx : x ∈ Kd.namesL ks ++ k.names := hx
            rcases List.mem_append.mp hx with hx | hx
            · exact nk x hx
            · exact k4 x hx
        · exact hnx _ _ ⟨rfl, rfl⟩
      · exact iteF (hnx _ _ ⟨rfl, rfl⟩)
end
end My
namespace My
open PySem L2
mutual
def Kd.data : Kd → PyData
  | .num => .tuple [.str "num"]
  | .text => .tuple [.str "text"]
  | .of x => .tuple [.str "of", .str x]
  | .row k => .tuple [.str "row", Kd.data k]
  | .calls ps r => .tuple [.str "calls", .tuple (Kd.datas ps), Kd.data r]
  | .answers n k => .tuple [.str "answers", .int n, Kd.data k]
def Kd.datas : List Kd → List PyData
  | [] => []
  | k :: r => Kd.data k :: Kd.datas r
end
mutual
theorem KdAt.dp {K : PySem.W.Frag} {H : Hp} : ∀ {k : Kd} {v : V}, KdAt H v k → Dp K H v k.data
  | .num, _, .num h => .tup (SqT.of h) (.cons (.str _) .nil)
  | .text, _, .text h => .tup (SqT.of h) (.cons (.str _) .nil)
  | .of _, _, .of h => .tup (SqT.of h) (.cons (.str _) (.cons (.str _) .nil))
  | .row _, _, .row h hk => .tup (SqT.of h) (.cons (.str _) (.cons (KdAt.dp hk) .nil))
  | .calls _ _, _, .calls h hb hp hr => .tup (SqT.of h) (.cons (.str _) (.cons (.tup (SqT.of hb) (KdsAt.dp hp)) (.cons (KdAt.dp hr) .nil)))
  | .answers _ _, _, .answers h hk => .tup (SqT.of h) (.cons (.str _) (.cons (.int _) (.cons (KdAt.dp hk) .nil)))
theorem KdsAt.dp {K : PySem.W.Frag} {H : Hp} : ∀ {ks : List Kd} {vs : List V}, KdsAt H vs ks → DpAll K H vs (Kd.datas ks)
  | [], _, .nil => .nil
  | _ :: _, _, .cons h r => .cons (KdAt.dp h) (KdsAt.dp r)
end
mutual
theorem Kd.data_depth : ∀ (k : Kd), PyData.depth k.data ≤ 2 * k.depth
  | .num => by simp [Kd.data, Kd.depth, PyData.depth, PyData.depthAll]
  | .text => by simp [Kd.data, Kd.depth, PyData.depth, PyData.depthAll]
  | .of x => by simp [Kd.data, Kd.depth, PyData.depth, PyData.depthAll]
  | .row k => by
    have := Kd.data_depth k
    simp [Kd.data, Kd.depth, PyData.depth, PyData.depthAll]
    omega
  | .calls ps r => by
    have a := Kd.datas_depth ps
    have b := Kd.data_depth r
    simp [Kd.data, Kd.depth, PyData.depth, PyData.depthAll]
    omega
  | .answers n k => by
    have := Kd.data_depth k
    simp [Kd.data, Kd.depth, PyData.depth, PyData.depthAll]
    omega
theorem Kd.datas_depth : ∀ (ks : List Kd), PyData.depthAll (Kd.datas ks) ≤ 2 * Kd.depths ks
  | [] => by simp [Kd.datas, PyData.depthAll, Kd.depths]
  | k :: r => by
    have a := Kd.data_depth k
    have b := Kd.datas_depth r
    simp [Kd.datas, PyData.depthAll, Kd.depths]
    omega
end
mutual
theorem Kd.data_lay : ∀ (k : Kd), (∀ x ∈ k.names, LtA x) → PyData.canLay0 k.data = true
  | .num, _ => by decide +kernel
  | .text, _ => by decide +kernel
  | .of x, h => by
    have := strOk_lt (h x (by simp [Kd.names]))
    simp [Kd.data, PyData.canLay0, PyData.canLayAll0, this]
    decide +kernel
  | .row k, h => by
    have := Kd.data_lay k h
    simp [Kd.data, PyData.canLay0, PyData.canLayAll0, this]
    decide +kernel
  | .calls ps r, h => by
    have a := Kd.datas_lay ps fun x hx => h x (List.mem_append_left _ hx)
    have b := Kd.data_lay r fun x hx => h x (List.mem_append_right _ hx)
    simp [Kd.data, PyData.canLay0, PyData.canLayAll0, a, b]
    decide +kernel
  | .answers n k, h => by
    have := Kd.data_lay k h
    simp [Kd.data, PyData.canLay0, PyData.canLayAll0, this]
    decide +kernel
theorem Kd.datas_lay : ∀ (ks : List Kd), (∀ x ∈ Kd.namesL ks, LtA x) → PyData.canLayAll0 (Kd.datas ks) = true
  | [], _ => rfl
  | k :: r, h => by
    have a := Kd.data_lay k fun x hx => h x (List.mem_append_left _ hx)
    have b := Kd.datas_lay r fun x hx => h x (List.mem_append_right _ hx)
    simp [Kd.datas, PyData.canLayAll0, a, b]
end
/-- kinds_directly_in -/
def spInner : Sp := fun vs H Q _ => ∃ (v : V) (k : Kd), vs = [v] ∧ KdAt H v k ∧ k.size ≤ 100000 ∧
  ∀ (r : Addr) (ws : List V) (H' : Hp), H r = none → H' r = some (.lst ws) → KdsAt H' ws k.inner → Same H H' → Q (.ref r) H'
/-- depth -/
def spDepth : Sp := fun vs H Q _ => ∃ (v : V) (k : Kd), vs = [v] ∧ KdAt H v k ∧ k.size ≤ 100000 ∧ ∀ H', Same H H' → Q (.int (k.depth : Int)) H'
def Kd.inners : List Kd → List Kd
  | [] => []
  | k :: r => k.inner ++ Kd.inners r
theorem Kd.inners_app : ∀ (a b : List Kd), Kd.inners (a ++ b) = Kd.inners a ++ Kd.inners b
  | [], b => rfl
  | k :: r, b => by
    rw [List.cons_append, Kd.inners, Kd.inners, Kd.inners_app r b, List.append_assoc]
theorem Kd.depths_inners : ∀ (ks : List Kd), ks ≠ [] → Kd.depths ks = Kd.depths (Kd.inners ks) + 1
  | [k], _ => by
    rw [Kd.depths, Kd.depths, Kd.inners, Kd.inners, List.append_nil, Kd.depth_inner]
    omega
  | k :: k2 :: r, _ => by
    have ih := Kd.depths_inners (k2 :: r) (by simp)
    rw [Kd.depths, Kd.inners, Kd.depths_app, ih, Kd.depth_inner]
    omega
theorem Kd.sizes_inners : ∀ (ks : List Kd), Kd.sizes (Kd.inners ks) + ks.length = Kd.sizes ks
  | [] => rfl
  | k :: r => by
    have ih := Kd.sizes_inners r
    rw [Kd.inners, Kd.sizes_app, List.length_cons, Kd.sizes, Kd.size_inner k]
    omega
theorem Kd.sizes_mem {k : Kd} : ∀ {ks : List Kd}, k ∈ ks → k.size ≤ Kd.sizes ks
  | x :: r, h => by
    rw [Kd.sizes]
    rcases List.mem_cons.mp h with rfl | h
    · omega
    · have := Kd.sizes_mem h
      omega
theorem Kd.sizes_take : ∀ (ks : List Kd) (i : Nat), Kd.sizes (ks.take i) ≤ Kd.sizes ks
  | [], i => by simp
  | x :: r, 0 => by simp [Kd.sizes]
  | x :: r, i + 1 => by
    have := Kd.sizes_take r i
    rw [List.take_succ_cons, Kd.sizes, Kd.sizes]
    omega
def Wdep (v : V) (k : Kd) (H0 : Hp) (m : Nat) (σ : St) (H : Hp) : Prop :=
  ∃ (l : Addr) (ws : List V) (ks : List Kd) (lv : Nat) (u3 u4 : Option V), σ = [some v, some (.int (lv : Int)), some (.ref l), u3, u4] ∧ Same H0 H ∧ H l = some (.lst ws) ∧ KdsAt H ws ks ∧ lv + Kd.depths ks = k.depth ∧ Kd.sizes ks ≤ 100000 ∧ m = Kd.depths ks
def Pdep (H0 : Hp) (D : Addr) (ks : List Kd) (i : Nat) (H : Hp) : Prop := Same H0 H ∧ ∃ acc, H D = some (.lst acc) ∧ KdsAt H acc (Kd.inners (ks.take i))
def Pdep2 (H1 H3 : Hp) (r D : Addr) (ys acc : List V) (j : Nat) (H : Hp) : Prop := Same H1 H ∧ Tups H3 H ∧ H r = some (.lst ys) ∧ H D = some (.lst (acc ++ ys.take j))
section
variable {P : Program} {w : World} {K : PySem.W.Frag} {mg : Str → Option Value} {base : Heap} {f : Addr} {fd : FuncData}
theorem ok_inner (F : Fun K "kinds_directly_in" "kinds_directly_in" s_kinds_directly_in f fd) : FnOk P w K mg base CX0 1 f fd ["kind"] spInner := by
  refine F.ok sc_kinds_directly_in (fun vs H Q E h => ?_) (fun cdv A outer s H vs Q E hr h => ?_)
  · obtain ⟨v, k, rfl, _⟩ := h
    rfl
  obtain ⟨v, k, rfl, hk, hs, q⟩ := h
  refine ⟨_, (pss_cons (ps_if (pt_cmpR op_eq (pe_ix (ixT K rfl) (pv 0) pe_int (fun _ _ => rfl)) pe_str (nomark _)) (pss_one (ps_ret (pe_lst (pa_cons (pe_ix (ixT K rfl) (pv 0) pe_int (fun _ _ => rfl)) pa_nil)))) pss_nil)
    (pss_cons (ps_if (pt_cmpR op_eq (pe_ix (ixT K rfl) (pv 0) pe_int (fun _ _ => rfl)) pe_str (nomark _)) (pss_one (ps_ret (pe_lst (star K rfl (pe_ix (ixT K rfl) (pv 0) pe_int (fun _ _ => rfl)) (pa_cons (pe_ix (ixT K rfl) (pv 0) pe_int (fun _ _ => rfl)) pa_nil))))) pss_nil)
    (pss_cons (ps_if (pt_cmpR op_eq (pe_ix (ixT K rfl) (pv 0) pe_int (fun _ _ => rfl)) pe_str (nomark _)) (pss_one (ps_ret (pe_lst (pa_cons (pe_ix (ixT K rfl) (pv 0) pe_int (fun _ _ => rfl)) pa_nil)))) pss_nil)
    (pss_one (ps_ret (pe_lst pa_nil)))))), ?_⟩
  cases hk with
  | num ha =>
    refine ⟨_, rfl, _, _, _, _, rfl, rfl, SqT.of ha, at_of rfl rfl, rfl, _, rfl, ifF (by decide) ?_⟩
    refine ⟨_, rfl, _, _, _, _, rfl, rfl, SqT.of ha, at_of rfl rfl, rfl, _, rfl, ifF (by decide) ?_⟩
    refine ⟨_, rfl, _, _, _, _, rfl, rfl, SqT.of ha, at_of rfl rfl, rfl, _, rfl, ifF (by decide) ?_⟩
    exact ⟨Nat.zero_le _, fun r nr => q r _ _ nr upd_same .nil (same_new nr _)⟩
  | text ha =>
    refine ⟨_, rfl, _, _, _, _, rfl, rfl, SqT.of ha, at_of rfl rfl, rfl, _, rfl, ifF (by decide) ?_⟩
    refine ⟨_, rfl, _, _, _, _, rfl, rfl, SqT.of ha, at_of rfl rfl, rfl, _, rfl, ifF (by decide) ?_⟩
    refine ⟨_, rfl, _, _, _, _, rfl, rfl, SqT.of ha, at_of rfl rfl, rfl, _, rfl, ifF (by decide) ?_⟩
    exact ⟨Nat.zero_le _, fun r nr => q r _ _ nr upd_same .nil (same_new nr _)⟩
  | of ha =>
    refine ⟨_, rfl, _, _, _, _, rfl, rfl, SqT.of ha, at_of rfl rfl, rfl, _, rfl, ifF (by decide) ?_⟩
    refine ⟨_, rfl, _, _, _, _, rfl, rfl, SqT.of ha, at_of rfl rfl, rfl, _, rfl, ifF (by decide) ?_⟩
    refine ⟨_, rfl, _, _, _, _, rfl, rfl, SqT.of ha, at_of rfl rfl, rfl, _, rfl, ifF (by decide) ?_⟩
    exact ⟨Nat.zero_le _, fun r nr => q r _ _ nr upd_same .nil (same_new nr _)⟩
  | row ha hk =>
    refine ⟨_, rfl, _, _, _, _, rfl, rfl, SqT.of ha, at_of rfl rfl, rfl, _, rfl, ifT (by decide) ?_⟩
    refine ⟨_, rfl, _, _, _, _, rfl, rfl, SqT.of ha, at_of rfl rfl, (by show 1 ≤ sizeLine; decide), fun r nr => ?_⟩
    exact q r _ _ nr upd_same (.cons (hk.mono (Tups.of_same (same_new nr _))) .nil) (same_new nr _)
  | @calls a b ws v ps r ha hb hp hr2 =>
    refine ⟨_, rfl, _, _, _, _, rfl, rfl, SqT.of ha, at_of rfl rfl, rfl, _, rfl, ifF (by decide) ?_⟩
    refine ⟨_, rfl, _, _, _, _, rfl, rfl, SqT.of ha, at_of rfl rfl, rfl, _, rfl, ifT (by decide) ?_⟩
    refine ⟨_, rfl, _, _, _, _, rfl, rfl, SqT.of ha, at_of rfl rfl, b, ws, rfl, .inl (SqT.of hb), _, rfl, _, _, _, _, rfl, rfl, SqT.of ha, at_of rfl rfl, ?_, fun p np => ?_⟩
    · have h1 := hp.len
      have h2 := Kd.len_sizes ps
      have h3 : (Kd.calls ps r).size = Kd.sizes ps + r.size + 1 := rfl
      rw [List.length_append, h1]
      exact Nat.le_of_lt (line5 (show ps.length + 1 ≤ 100000 by omega))
    · have T := Tups.of_same (same_new np (.lst (ws ++ [v])))
      exact q p _ _ np upd_same ((hp.mono T).app (.cons (hr2.mono T) .nil)) (same_new np _)
  | answers ha hk =>
    refine ⟨_, rfl, _, _, _, _, rfl, rfl, SqT.of ha, at_of rfl rfl, rfl, _, rfl, ifF (by decide) ?_⟩
    refine ⟨_, rfl, _, _, _, _, rfl, rfl, SqT.of ha, at_of rfl rfl, rfl, _, rfl, ifF (by decide) ?_⟩
    refine ⟨_, rfl, _, _, _, _, rfl, rfl, SqT.of ha, at_of rfl rfl, rfl, _, rfl, ifT (by decide) ?_⟩
    refine ⟨_, rfl, _, _, _, _, rfl, rfl, SqT.of ha, at_of rfl rfl, (by show 1 ≤ sizeLine; decide), fun r nr => ?_⟩
    exact q r _ _ nr upd_same (.cons (hk.mono (Tups.of_same (same_new nr _))) .nil) (same_new nr _)
theorem ok_depth (F : Fun K "depth" "depth" s_depth f fd) (c_kinds_directly_in : Cal P w K mg base "kinds_directly_in" 1 ["kind"] spInner) : FnOk P w K mg base CX0 2 f fd ["kind"] spDepth := by
  refine F.ok sc_depth (fun vs H Q E h => ?_) (fun cdv A outer s H vs Q E hr h => ?_)
  · obtain ⟨v, k, rfl, _⟩ := h
    rfl
  obtain ⟨v, k, rfl, hk, hs, q⟩ := h
  refine ⟨_, (pss_cons (ps_set (i := 1) sc_depth.nd rfl (Or.inl rfl) pe_int)
    (pss_cons (ps_set (i := 2) sc_depth.nd rfl (Or.inl rfl) (pe_lst (pa_cons (pv 0) pa_nil)))
    (pss_cons (ps_while PassesOwn.never (truth K rfl (pv 2)) (pss_cons (ps_aug (i := 1) sc_depth.nd rfl (Or.inl rfl) pe_int ip_add)
    (pss_one (ps_setLc2 (i := 2) (own := [("outer", 3), ("inner", 4)]) (g := (gName 3)) (g1 := (gName 4)) (vs1 := [4]) rfl sc_depth.nd rfl rfl (sw_true rfl rfl rfl (by decide +kernel)) (piL K rfl (pv 2)) (blkOk_by (N := ["kind", "levels", "level", "outer", "inner"]) (sc := defScope s_depth) (by decide +kernel)) (by decide) (fun _ _ _ _ _ => (pg_name (i := 3) sc_depth.nd rfl (Or.inl rfl) (hf := Or.inr rfl))) (fun _ _ _ _ _ => pts_nil) (fun _ _ _ _ _ => (piL K rfl (pc c_kinds_directly_in (hr.mono (by first | decide | omega)) (pa_cons (pv 3) pa_nil)))) (fun _ _ _ _ _ => (pg_name (i := 4) sc_depth.nd rfl (Or.inl rfl) (hf := Or.inr rfl))) (fun _ _ _ _ _ => pts_nil) (fun _ _ _ _ _ => (pv 4))))))
    (pss_one (ps_ret (pv 1)))))), ?_⟩
  refine ⟨_, rfl, (by show 1 ≤ sizeLine; decide), fun l0 n0 => ?_⟩
  refine ⟨Wdep v k H, ⟨k.depth, l0, [v], [k], 0, none, none, rfl, same_new n0 _, upd_same, .cons (hk.mono (Tups.of_same (same_new n0 _))) .nil, by simp [Kd.depths], by simp [Kd.sizes]; omega, by simp [Kd.depths]⟩, fun m σ H1 w1 => ?_⟩
  obtain ⟨l, ws, ks, lv, u3, u4, rfl, s1, hl, hks, hd, hz, rfl⟩ := w1
  refine ⟨_, rfl, _, .inl ⟨ws, SqL.of hl, rfl⟩, ?_⟩
  have hlen := hks.len
  by_cases hn : ws = []
  · subst hn
    refine iteF ⟨_, rfl, ?_⟩
    have e : ks = [] := List.eq_nil_of_length_eq_zero hlen.symm
    subst e
    have e2 : k.depth = lv := by simp [Kd.depths] at hd; omega
    rw [← e2]
    exact q _ s1
  · have hkn : ks ≠ [] := fun e => hn (by subst e; exact List.eq_nil_of_length_eq_zero hlen)
    refine ifT (by cases ws with | nil => exact absurd rfl hn | cons a b => rfl) ?_
    have hdi := Kd.depths_inners ks hkn
    have hsi := Kd.sizes_inners ks
    refine ⟨fun σ' H' => ∃ m', m' < Kd.depths ks ∧ Wdep v k H m' σ' H', fun _ _ h => h, ?_⟩
    refine ⟨_, rfl, _, _, rfl, rfl, _, rfl, l, rfl, ⟨_, SqL.of hl⟩, fun D nD => ?_⟩
    have nlD : l ≠ D := ne_of_none hl nD
    refine ⟨fun i m H' => m = ws.length - i ∧ i ≤ ws.length ∧ Pdep H1 D ks i H', ⟨ws.length, by simp, Nat.zero_le _, same_new nD _, [], upd_same, .nil⟩, ?_⟩
    rintro i m H2 ⟨rfl, hi, s2, acc, hacc, kacc⟩
    have hl2 : SqL K H2 l ws := SqL.of (s2 _ _ hl)
    by_cases hlt : i < ws.length
    · refine .inr ⟨⟨ws, ws[i], hl2, by simp [hlt]⟩, Pdep H1 D ks (i + 1), fun H' p' => ⟨ws.length - (i + 1), by omega, rfl, hlt, p'⟩, fun x H' y => ?_⟩
      obtain ⟨e, y⟩ := y
      subst e
      have hx := y ws hl2
      obtain ⟨kx, hkx, kdx⟩ := hks.get i x hx
      have hkm : kx ∈ ks := List.mem_of_getElem? hkx
      have hkz := Kd.sizes_mem hkm
      refine ⟨rfl, _, rfl, x, kx, rfl, kdx.mono (Tups.of_same s2), by omega, fun r ys H3 nr hr3 kys s3 => ?_⟩
      have accl := kacc.len
      have ysl := kys.len
      have bound : acc.length + ys.length ≤ 100000 := by
        have h1 : Kd.sizes (Kd.inners (ks.take (i + 1))) ≤ Kd.sizes ks := by
          have a := Kd.sizes_inners (ks.take (i + 1))
          have b := Kd.sizes_take ks (i + 1)
          omega
        rw [← take_next hkx, Kd.inners_app, Kd.sizes_app] at h1
        have h2 := Kd.len_sizes (Kd.inners (ks.take i))
        have h3 := Kd.len_sizes kx.inner
        have h4 : Kd.inners [kx] = kx.inner := by simp [Kd.inners]
        rw [h4] at h1
        omega
      have hacc3 := s3 _ _ hacc
      have nrD : r ≠ D := (ne_of_none hacc nr).symm
      refine ⟨r, rfl, ⟨_, SqL.of hr3⟩, fun j m' H' => m' = ys.length - j ∧ j ≤ ys.length ∧ Pdep2 H1 H3 r D ys acc j H', ⟨ys.length, by simp, Nat.zero_le _, s2.trans s3, Tups.refl _, hr3, by simpa using hacc3⟩, ?_⟩
      rintro j m' H4 ⟨rfl, hj, s4, t4, hr4, hD4⟩
      have hr4' : SqL K H4 r ys := SqL.of hr4
      by_cases hlt2 : j < ys.length
      · refine .inr ⟨⟨ys, ys[j], hr4', by simp [hlt2]⟩, Pdep2 H1 H3 r D ys acc (j + 1), fun H' p' => ⟨ys.length - (j + 1), by omega, rfl, hlt2, p'⟩, fun z H' y2 => ?_⟩
        obtain ⟨e, y2⟩ := y2
        subst e
        have hz2 := y2 ys hr4'
        refine ⟨rfl, _, rfl, _, hD4, ?_, Same.atNew s4 nD, t4.trans (Tups.upd hD4), by rw [upd_ne nrD]; exact hr4, ?_⟩
        · have := List.length_take_le' j ys
          rw [List.length_append]
          exact line5 (by omega)
        · rw [upd_same, List.append_assoc, take_next hz2]
      · have e : j = ys.length := by omega
        subst e
        rw [List.take_length] at hD4
        refine .inl ⟨⟨ys, hr4', Nat.le_refl _⟩, s4, acc ++ ys, hD4, ?_⟩
        rw [← take_next hkx, Kd.inners_app]
        have h4 : Kd.inners [kx] = kx.inner := by simp [Kd.inners]
        rw [h4]
        exact (kacc.mono ((Tups.of_same s3).trans t4)).app (kys.mono t4)
    · have e : i = ws.length := by omega
      subst e
      rw [hlen, List.take_length] at kacc
      exact .inl ⟨⟨ws, hl2, Nat.le_refl _⟩, _, by omega, D, acc, Kd.inners ks, lv + 1, _, _, rfl, s1.trans s2, hacc, kacc, by omega, by omega, rfl⟩
end
end My
namespace My
open PySem L2
def PairN (H : Hp) (v : V) (n : Nat) : Prop := ∃ a x, v = .ref a ∧ H a = some (.tup [x, .int (n : Int)])
def PairK (H : Hp) (v : V) (p : Kd × Nat) : Prop := ∃ a x, v = .ref a ∧ H a = some (.tup [x, .int (p.2 : Int)]) ∧ KdAt H x p.1
theorem PairN.mono {H H' : Hp} (t : Tups H H') {v : V} {n : Nat} (h : PairN H v n) : PairN H' v n := by
  obtain ⟨a, x, e, h⟩ := h
  exact ⟨a, x, e, t _ _ h⟩
theorem PairK.mono {H H' : Hp} (t : Tups H H') {v : V} {p : Kd × Nat} (h : PairK H v p) : PairK H' v p := by
  obtain ⟨a, x, e, h, k⟩ := h
  exact ⟨a, x, e, t _ _ h, k.mono t⟩
def pdata (p : Kd × Nat) : PyData := .tuple [p.1.data, .int (p.2 : Int)]
theorem dp_pairs {K : PySem.W.Frag} {H : Hp} : ∀ {ws : List V} {kns : List (Kd × Nat)}, Paired (PairK H) ws kns → DpAll K H ws (kns.map pdata)
  | _, _, .nil => .nil
  | _, _, .cons h t => by
    obtain ⟨a, x, rfl, ha, hk⟩ := h
    exact .cons (.tup (SqT.of ha) (.cons hk.dp (.cons (.int _) .nil))) (dp_pairs t)
theorem shaped_pairs {kns : List (Kd × Nat)} (h : ∀ p ∈ kns, p.1.depth ≤ 25 ∧ ∀ x ∈ p.1.names, LtA x) : SeqAt.shaped (.list (kns.map pdata)) = true := by
  have a : PyData.canLayAll0 (kns.map pdata) = true := by
    induction kns with
    | nil => rfl
    | cons p r ih =>
      have h1 := Kd.data_lay p.1 (h p (by simp)).2
      rw [List.map_cons, PyData.canLayAll0, ih fun y hy => h y (by simp [hy])]
      simp [pdata, PyData.canLay0, PyData.canLayAll0, h1]
  have b : PyData.depthAll (kns.map pdata) ≤ 51 := by
    clear a
    induction kns with
    | nil => exact Nat.zero_le _
    | cons p r ih =>
      have ih := ih fun y hy => h y (by simp [hy])
      have h1 := Kd.data_depth p.1
      have h2 := (h p (by simp)).1
      rw [List.map_cons, PyData.depthAll]
      have e : PyData.depth (pdata p) = PyData.depth p.1.data + 1 := by simp [pdata, PyData.depth, PyData.depthAll]
      rw [e]
      omega
  unfold SeqAt.shaped
  rw [PyData.canLay0, a, PyData.depth, decide_eq_true (by omega)]
  rfl
theorem eqv_nild (ds : List PyData) : PyData.eqv (.list ds) (.list []) = ds.isEmpty := by
  cases ds with
  | nil => simp [PyData.eqv, PyData.eqvAll]
  | cons x r => simp [PyData.eqv, PyData.eqvAll]
def szs (kns : List (Kd × Nat)) : Nat := Kd.sizes (kns.map (·.1))
theorem Kd.depths_mem : ∀ {ks : List Kd}, 1 ≤ Kd.depths ks → ∃ k ∈ ks, k.depth = Kd.depths ks
  | [], h => by simp [Kd.depths] at h
  | k :: r, h => by
    rw [Kd.depths]
    by_cases c : Kd.depths r ≤ k.depth
    · exact ⟨k, by simp, by omega⟩
    · obtain ⟨x, hx, e⟩ := Kd.depths_mem (ks := r) (by omega)
      exact ⟨x, by simp [hx], by omega⟩
theorem Kd.depths_le {k : Kd} : ∀ {ks : List Kd}, k ∈ ks → k.depth ≤ Kd.depths ks
  | x :: r, h => by
    rw [Kd.depths]
    rcases List.mem_cons.mp h with rfl | h
    · omega
    · have := Kd.depths_le h
      omega
theorem Kd.namesL_mem {k : Kd} {x : Str} : ∀ {ks : List Kd}, k ∈ ks → x ∈ k.names → x ∈ Kd.namesL ks
  | y :: r, h, hx => by
    rw [Kd.namesL]
    rcases List.mem_cons.mp h with rfl | h
    · exact List.mem_append_left _ hx
    · exact List.mem_append_right _ (Kd.namesL_mem h hx)
theorem Kd.inner_names {k i : Kd} (h : i ∈ k.inner) {x : Str} (hx : x ∈ i.names) : x ∈ k.names := by
  cases k with
  | num => simp [Kd.inner] at h
  | text => simp [Kd.inner] at h
  | of y => simp [Kd.inner] at h
  | row k =>
    have e : i = k := by simpa [Kd.inner] using h
    subst e
    exact hx
  | calls ps r =>
    show x ∈ Kd.namesL ps ++ r.names
    rcases List.mem_append.mp (show i ∈ ps ++ [r] from h) with h | h
    · exact List.mem_append_left _ (Kd.namesL_mem h hx)
    · have e : i = r := by simpa using h
      subst e
      exact List.mem_append_right _ hx
  | answers n k =>
    have e : i = k := by simpa [Kd.inner] using h
    subst e
    exact hx
theorem Kd.depth_pos (k : Kd) : 1 ≤ k.depth := by
  rw [Kd.depth_inner]
  omega
/-- _law_within -/
def spWithin : Sp := fun vs H Q _ => ∃ (v : V) (k : Kd), vs = [v] ∧ KdAt H v k ∧ k.size ≤ 100000 ∧ k.depth ≤ 20 ∧ (∀ x ∈ k.names, LtA x) ∧
  ∀ (r : Addr) (fs : List V) (ns : List Nat) (H' : Hp), H r = none → H' r = some (.lst fs) → Paired (PairN H') fs ns → k.depth ∈ ns → (∀ n ∈ ns, n ≤ k.depth) → fs.length ≤ k.size → Same H H' → Q (.ref r) H'
def Wwi (k : Kd) (v : V) (rf rw : Addr) (H0 : Hp) (m : Nat) (σ : St) (H : Hp) : Prop :=
  ∃ (fs : List V) (ns : List Nat) (ws : List V) (kns : List (Kd × Nat)) (u3 u4 u5 : Option V), σ = [some v, some (.ref rf), some (.ref rw), u3, u4, u5] ∧ Same H0 H ∧ H rf = some (.lst fs) ∧ Paired (PairN H) fs ns ∧
    H rw = some (.lst ws) ∧ Paired (PairK H) ws kns ∧ (∀ n ∈ ns, n ≤ k.depth) ∧ (∀ p ∈ kns, p.2 + p.1.depth ≤ k.depth + 1 ∧ ∀ x ∈ p.1.names, LtA x) ∧
    (k.depth ∈ ns ∨ ∃ p ∈ kns, p.2 + p.1.depth = k.depth + 1) ∧ fs.length + szs kns = k.size ∧ m = szs kns
theorem Wwi.next {k k0 : Kd} {n0 : Nat} {v x : V} {rf rw p : Addr} {H0 H H' : Hp} {fs wr acc : List V} {ns : List Nat} {knr : List (Kd × Nat)} {u3 u4 u5 : Option V}
    (s : Same H0 H') (t : Tups H H') (hf : H' rf = some (.lst (fs ++ [.ref p]))) (pf : Paired (PairN H) fs ns) (hp : H' p = some (.tup [x, .int (n0 : Int)])) (hw : H' rw = some (.lst (wr ++ acc)))
    (pw : Paired (PairK H) wr knr) (pa : Paired (PairK H') acc (k0.inner.map fun i => (i, n0 + 1))) (hn : ∀ n ∈ ns, n ≤ k.depth) (hk : ∀ p ∈ (k0, n0) :: knr, p.2 + p.1.depth ≤ k.depth + 1 ∧ ∀ x ∈ p.1.names, LtA x)
    (hw2 : k.depth ∈ ns ∨ ∃ p ∈ (k0, n0) :: knr, p.2 + p.1.depth = k.depth + 1) (hs : fs.length + szs ((k0, n0) :: knr) = k.size) :
    ∃ m', m' < szs ((k0, n0) :: knr) ∧ Wwi k v rf rw H0 m' [some v, some (.ref rf), some (.ref rw), u3, u4, u5] H' := by
  have h0 := hk (k0, n0) (by simp)
  have hd := Kd.depth_inner k0
  have hz := Kd.size_inner k0
  have e1 : szs ((k0, n0) :: knr) = k0.size + szs knr := rfl
  have e2 : szs (knr ++ k0.inner.map fun i => (i, n0 + 1)) = szs knr + Kd.sizes k0.inner := by
    unfold szs
    rw [List.map_append, Kd.sizes_app, List.map_map]
    have : (k0.inner.map ((fun q : Kd × Nat => q.1) ∘ fun i => (i, n0 + 1))) = k0.inner := by
      rw [show ((fun q : Kd × Nat => q.1) ∘ fun i : Kd => (i, n0 + 1)) = id from rfl, List.map_id]
    rw [this]
  refine ⟨_, ?_, fs ++ [.ref p], ns ++ [n0], wr ++ acc, knr ++ k0.inner.map fun i => (i, n0 + 1), u3, u4, u5, rfl, s, hf, pair_app (Paired.mono (fun _ _ z => z.mono t) pf) (.cons ⟨p, x, rfl, hp⟩ .nil), hw, pair_app (Paired.mono (fun _ _ z => z.mono t) pw) pa, ?_, ?_, ?_, ?_, rfl⟩
  · rw [e1, e2]
    omega
  · intro n h
    rcases List.mem_append.mp h with h | h
    · exact hn n h
    · have e : n = n0 := by simpa using h
      have := h0.1
      have := Kd.depth_pos k0
      simp only at *
      omega
  · intro q h
    rcases List.mem_append.mp h with h | h
    · exact hk q (by simp [h])
    · obtain ⟨i, hi, rfl⟩ := List.mem_map.mp h
      have h3 := Kd.depths_le hi
      have h4 := h0.1
      simp only at h4
      exact ⟨by show n0 + 1 + i.depth ≤ k.depth + 1; omega, fun y hy => h0.2 y (Kd.inner_names hi hy)⟩
  · rcases hw2 with h | ⟨q, hq, e⟩
    · exact .inl (List.mem_append_left _ h)
    · rcases List.mem_cons.mp hq with rfl | hq
      · simp only at e
        by_cases c : 1 ≤ Kd.depths k0.inner
        · obtain ⟨i, hi, ei⟩ := Kd.depths_mem c
          exact .inr ⟨(i, n0 + 1), List.mem_append_right _ (List.mem_map.mpr ⟨i, hi, rfl⟩), by show n0 + 1 + i.depth = k.depth + 1; omega⟩
        · have : n0 = k.depth := by omega
          exact .inl (List.mem_append_right _ (by simp [this]))
      · exact .inr ⟨q, List.mem_append_left _ hq, e⟩
  · rw [List.length_append, e2]
    rw [e1] at hs
    simp only [List.length_singleton]
    omega
theorem catA_one {K : PySem.W.Frag} {Q : VK} {b t : Addr} {ws : List V} {v : V} {H : Hp} (hb : H b = some (.tup ws)) (ht : H t = some (.tup [v])) (hl : ws.length + 1 ≤ sizeLine)
    (h : ∀ T H', Same H H' → H' T = some (.tup (ws ++ [v])) → Q (.ref T) H') : rCatA K (.ref b) (.ref t) H Q := by
  refine ⟨b, t, ws, [v], rfl, rfl, SqT.of hb, SqT.of ht, hl, fun e => ?_, fun _ e => (by cases e), fun _ _ p np => h p _ (same_new np _) upd_same⟩
  subst e
  exact h t H (Same.refl _) ht
def Pinn (H0 : Hp) (D : Addr) (ks : List Kd) (n : Nat) (i : Nat) (H : Hp) : Prop := Same H0 H ∧ ∃ acc, H D = some (.lst acc) ∧ Paired (PairK H) acc ((ks.take i).map fun k => (k, n))
theorem pair_len {α β : Type} {F : α → β → Prop} {l : List α} {m : List β} (h : Paired F l m) : l.length = m.length := h.length
section
variable {P : Program} {w : World} {K : PySem.W.Frag} {mg : Str → Option Value} {base : Heap} {f : Addr} {fd : FuncData}
theorem ok_within (F : Fun K "_law_within" "_law_within" s__law_within f fd) : FnOk P w K mg base CX0 1 f fd ["whole"] spWithin := by
  refine F.ok sc__law_within (fun vs H Q E h => ?_) (fun cdv A outer s H vs Q E hr h => ?_)
  · obtain ⟨v, k, rfl, _⟩ := h
    rfl
  obtain ⟨v, k, rfl, hk, hz, hd, hnm, q⟩ := h
  refine ⟨_, (pss_cons (ps_set (i := 1) sc__law_within.nd rfl (Or.inl rfl) (pe_lst pa_nil))
    (pss_cons (ps_set (i := 2) sc__law_within.nd rfl (Or.inl rfl) (pe_lst (pa_cons (pe_tup (pa_cons (pv 0) (pa_cons pe_int pa_nil))) pa_nil)))
    (pss_cons (ps_while PassesOwn.never (pt_cmpR (neD K rfl hr.units) (pv 2) (pe_lst pa_nil) (nomark _)) (pss_cons (ps_asg (pe_bm PySem.F.plainAttrs_list PySem.F.slot_list_pop PySem.F.type_list_pop mt_popAt (pv 2) (pa_cons pe_int pa_nil)) (pg_tup rfl (pgs_cons (pg_name (i := 3) sc__law_within.nd rfl (Or.inl rfl)) (pgs_cons (pg_name (i := 4) sc__law_within.nd rfl (Or.inr rfl)) pgs_nil))))
    (pss_cons (ps_expr (pe_bm PySem.F.plainAttrs_list PySem.F.slot_list_append PySem.F.type_list_append mt_append (pv 1) (pa_cons (pe_tup (pa_cons (pv 3) (pa_cons (pv 4) pa_nil))) pa_nil)))
    (pss_cons (ps_if (pt_cmpR op_eq (pe_ix (ixT K rfl) (pv 3) pe_int (fun _ _ => rfl)) pe_str (nomark _)) (pss_one (ps_expr (pe_bm PySem.F.plainAttrs_list PySem.F.slot_list_append PySem.F.type_list_append mt_append (pv 2) (pa_cons (pe_tup (pa_cons (pe_ix (ixT K rfl) (pv 3) pe_int (fun _ _ => rfl)) (pa_cons (pe_op op_add (pv 4) pe_int) pa_nil))) pa_nil)))) pss_nil)
    (pss_cons (ps_if (pt_cmpR op_eq (pe_ix (ixT K rfl) (pv 3) pe_int (fun _ _ => rfl)) pe_str (nomark _)) (pss_one (ps_expr (pe_bm PySem.F.plainAttrs_list PySem.F.slot_list_extend PySem.F.type_list_extend mt_extend (pv 2) (pa_cons (pe_lc (own := [("part", 5)]) (g := (gName 5)) rfl sc__law_within.nd (piT K rfl (pe_op (catT K rfl) (pe_ix (ixT K rfl) (pv 3) pe_int (fun _ _ => rfl)) (pe_tup (pa_cons (pe_ix (ixT K rfl) (pv 3) pe_int (fun _ _ => rfl)) pa_nil)))) (blkOk_by (N := ["whole", "found", "waits", "one", "deep", "part"]) (sc := defScope s__law_within) (by decide +kernel)) (fun _ _ _ _ _ => (pg_name (i := 5) sc__law_within.nd rfl (Or.inl rfl) (hf := Or.inr rfl))) (fun _ _ _ _ _ => pts_nil) (fun _ _ _ _ _ => (pe_tup (pa_cons (pv 5) (pa_cons (pe_op op_add (pv 4) pe_int) pa_nil))))) pa_nil)))) pss_nil)
    (pss_one (ps_if (pt_cmpR op_eq (pe_ix (ixT K rfl) (pv 3) pe_int (fun _ _ => rfl)) pe_str (nomark _)) (pss_one (ps_expr (pe_bm PySem.F.plainAttrs_list PySem.F.slot_list_append PySem.F.type_list_append mt_append (pv 2) (pa_cons (pe_tup (pa_cons (pe_ix (ixT K rfl) (pv 3) pe_int (fun _ _ => rfl)) (pa_cons (pe_op op_add (pv 4) pe_int) pa_nil))) pa_nil)))) pss_nil)))))))
    (pss_one (ps_ret (pv 1)))))), ?_⟩
  refine ⟨Nat.zero_le _, fun rf nrf => ⟨_, rfl, (by show 2 ≤ sizeLine; decide), fun t0 nt0 => ⟨(by show 1 ≤ sizeLine; decide), fun rw nrw => ?_⟩⟩⟩
  have s3 := ((same_new nrf (.lst [])).trans (same_new nt0 (.tup [v, .int 1]))).trans (same_new nrw (.lst [.ref t0]))
  have hrf : (upd (upd (upd H rf (.lst [])) t0 (.tup [v, .int 1])) rw (.lst [.ref t0])) rf = some (.lst []) := same_new nrw _ _ _ (same_new nt0 _ _ _ upd_same)
  have ht0 : (upd (upd (upd H rf (.lst [])) t0 (.tup [v, .int 1])) rw (.lst [.ref t0])) t0 = some (.tup [v, .int 1]) := same_new nrw _ _ _ upd_same
  have hrw : (upd (upd (upd H rf (.lst [])) t0 (.tup [v, .int 1])) rw (.lst [.ref t0])) rw = some (.lst [.ref t0]) := upd_same
  have nfw : rf ≠ rw := ne_of_none (same_new nt0 (.tup [v, .int 1]) _ _ upd_same) nrw
  have nrw0 : H rw = none := ((same_new nrf (.lst [])).trans (same_new nt0 (.tup [v, .int 1]))).free nrw
  generalize upd (upd (upd H rf (.lst [])) t0 (.tup [v, .int 1])) rw (.lst [.ref t0]) = Hs at s3 hrf ht0 hrw
  refine ⟨Wwi k v rf rw H, ⟨szs [(k, 1)], [], [], [.ref t0], [(k, 1)], none, none, none, rfl, s3, hrf, .nil, hrw, .cons ⟨t0, v, rfl, ht0, hk.mono (Tups.of_same s3)⟩ .nil, fun n hn => by simp at hn, ?_, .inr ⟨(k, 1), by simp, by show 1 + k.depth = k.depth + 1; omega⟩, by simp [szs, Kd.sizes], rfl⟩, fun m σ H1 w1 => ?_⟩
  · intro p hp
    have e : p = (k, 1) := by simpa using hp
    subst e
    exact ⟨by show 1 + k.depth ≤ k.depth + 1; omega, hnm⟩
  obtain ⟨fs, ns, ws, kns, u3, u4, u5, rfl, s1, hf, pf, hw, pw, hn, hkn, hw2, hs, rfl⟩ := w1
  have hd2 : ∀ p ∈ kns, p.1.depth ≤ 25 ∧ ∀ x ∈ p.1.names, LtA x := fun p hp => ⟨by have a := (hkn p hp).1; omega, (hkn p hp).2⟩
  refine ⟨_, rfl, Nat.zero_le _, fun p0 np0 => ?_⟩
  have t2 := same_new np0 (.lst [])
  have e0 : (upd H1 p0 (.lst [])) p0 = some (.lst []) := upd_same
  generalize upd H1 p0 (.lst []) = H2 at t2 e0
  have s2 := s1.trans t2
  have hf2 := t2 _ _ hf
  have hrw2 := t2 _ _ hw
  have pf2 := Paired.mono (fun _ _ z => PairN.mono (Tups.of_same t2) z) pf
  have pw2 := Paired.mono (fun _ _ z => PairK.mono (Tups.of_same t2) z) pw
  clear s1 hf hw pf pw t2
  refine ⟨.list (kns.map pdata), .list [], .lst (SqL.of hrw2) (dp_pairs pw2), .lst (SqL.of e0) .nil, shaped_pairs hd2, rfl, _, rfl, ?_⟩
  rw [eqv_nild]
  cases pw2 with
  | nil =>
    refine iteF ⟨_, rfl, ?_⟩
    have hD : k.depth ∈ ns := by
      rcases hw2 with h | ⟨p, hp, _⟩
      · exact h
      · simp at hp
    have hs' : fs.length ≤ k.size := by
      have : szs [] = 0 := rfl
      omega
    exact q rf fs ns H2 nrf hf2 pf2 hD hn hs' s2
  | @cons w0 pk wr knr hp0 pwr =>
    obtain ⟨k0, n0⟩ := pk
    obtain ⟨a0, x0, rfl, ha0, hk0⟩ := hp0
    refine iteT ?_
    have hlw : wr.length + 1 ≤ 100000 := by
      have h1 := pwr.length
      have h2 := Kd.len_sizes (((k0, n0) :: knr).map (·.1))
      have h3 : Kd.sizes (((k0, n0) :: knr).map (·.1)) = szs ((k0, n0) :: knr) := rfl
      simp only [List.length_map, List.length_cons] at h2
      omega
    have hlf : fs.length + 1 ≤ 100000 := by
      have h2 := Kd.len_sizes (((k0, n0) :: knr).map (·.1))
      have h3 : Kd.sizes (((k0, n0) :: knr).map (·.1)) = szs ((k0, n0) :: knr) := rfl
      simp only [List.length_map, List.length_cons] at h2
      omega
    have hin : wr.length + k0.inner.length ≤ 100000 := by
      have h1 := pwr.length
      have h2 := Kd.len_sizes (knr.map (·.1))
      have h3 := Kd.len_sizes k0.inner
      have h4 := Kd.size_inner k0
      have h5 : szs ((k0, n0) :: knr) = k0.size + Kd.sizes (knr.map (·.1)) := rfl
      simp only [List.length_map] at h2
      omega
    refine ⟨fun σ' H' => ∃ m', m' < szs ((k0, n0) :: knr) ∧ Wwi k v rf rw H m' σ' H', fun _ _ h => h, ?_⟩
    refine ⟨_, rfl, tyL hrw2, rw, _, 0, 0, .ref a0, rfl, rfl, hrw2, by decide, by decide, seq0, rfl, ?_⟩
    have T3 : Tups H2 (upd H2 rw (.lst wr)) := Tups.upd hrw2
    have s3 : Same H (upd H2 rw (.lst wr)) := Same.atNew s2 nrw0
    have hf3 : (upd H2 rw (.lst wr)) rf = some (.lst fs) := by rw [upd_ne nfw]; exact hf2
    have hw3 : (upd H2 rw (.lst wr)) rw = some (.lst wr) := upd_same
    have er : (V.ref a0 :: wr).eraseIdx 0 = wr := rfl
    rw [er]
    generalize upd H2 rw (.lst wr) = H3 at T3 s3 hf3 hw3
    have pf3 := Paired.mono (fun _ _ z => PairN.mono T3 z) pf2
    have pw3 := Paired.mono (fun _ _ z => PairK.mono T3 z) pwr
    have hk3 := hk0.mono T3
    refine ⟨a0, _, rfl, SqT.of (T3 _ _ ha0), rfl, _, _, rfl, _, _, rfl, rfl, ?_⟩
    refine ⟨_, rfl, tyL hf3, _, rfl, _, rfl, (by show 2 ≤ sizeLine; decide), fun p np => ⟨rf, fs, .ref p, rfl, rfl, same_new np _ _ _ hf3, line5 (by omega), ?_⟩⟩
    have T4 : Tups H3 (upd (upd H3 p (.tup [x0, .int (n0 : Int)])) rf (.lst (fs ++ [.ref p]))) := (Tups.of_same (same_new np _)).trans (Tups.upd (same_new np _ _ _ hf3))
    have s4 : Same H (upd (upd H3 p (.tup [x0, .int (n0 : Int)])) rf (.lst (fs ++ [.ref p]))) := Same.atNew (s3.trans (same_new np _)) nrf
    have hf4 : (upd (upd H3 p (.tup [x0, .int (n0 : Int)])) rf (.lst (fs ++ [.ref p]))) rf = some (.lst (fs ++ [.ref p])) := upd_same
    have hp4 : (upd (upd H3 p (.tup [x0, .int (n0 : Int)])) rf (.lst (fs ++ [.ref p]))) p = some (.tup [x0, .int (n0 : Int)]) := Tups.upd (same_new np _ _ _ hf3) _ _ upd_same
    have hw4 : (upd (upd H3 p (.tup [x0, .int (n0 : Int)])) rf (.lst (fs ++ [.ref p]))) rw = some (.lst wr) := by rw [upd_ne nfw.symm]; exact same_new np _ _ _ hw3
    generalize upd (upd H3 p (.tup [x0, .int (n0 : Int)])) rf (.lst (fs ++ [.ref p])) = H4 at T4 s4 hf4 hp4 hw4
    have hk4 := hk3.mono T4
    have fin : ∀ (H' : Hp) (acc : List V) (u5 : Option V), Same H H' → Tups H4 H' → H' rf = some (.lst (fs ++ [.ref p])) → H' rw = some (.lst (wr ++ acc)) → Paired (PairK H') acc (k0.inner.map fun i => (i, n0 + 1)) →
        ∃ m', m' < szs ((k0, n0) :: knr) ∧ Wwi k v rf rw H m' [some v, some (.ref rf), some (.ref rw), some x0, some (.int (n0 : Int)), u5] H' := fun H' acc u5 s' t' f' w' p' =>
      Wwi.next (k0 := k0) (x := x0) s' (T4.trans t') f' pf3 (t' _ _ hp4) w' pw3 p' hn hkn hw2 hs
    cases hk4 with
    | num ha =>
      refine ⟨_, rfl, _, _, _, _, rfl, rfl, SqT.of ha, at_of rfl rfl, rfl, _, rfl, ifF (by decide) ?_⟩
      refine ⟨_, rfl, _, _, _, _, rfl, rfl, SqT.of ha, at_of rfl rfl, rfl, _, rfl, ifF (by decide) ?_⟩
      refine ⟨_, rfl, _, _, _, _, rfl, rfl, SqT.of ha, at_of rfl rfl, rfl, _, rfl, ifF (by decide) ?_⟩
      exact fin H4 [] _ s4 (Tups.refl _) hf4 (by rw [List.append_nil]; exact hw4) .nil
    | text ha =>
      refine ⟨_, rfl, _, _, _, _, rfl, rfl, SqT.of ha, at_of rfl rfl, rfl, _, rfl, ifF (by decide) ?_⟩
      refine ⟨_, rfl, _, _, _, _, rfl, rfl, SqT.of ha, at_of rfl rfl, rfl, _, rfl, ifF (by decide) ?_⟩
      refine ⟨_, rfl, _, _, _, _, rfl, rfl, SqT.of ha, at_of rfl rfl, rfl, _, rfl, ifF (by decide) ?_⟩
      exact fin H4 [] _ s4 (Tups.refl _) hf4 (by rw [List.append_nil]; exact hw4) .nil
    | of ha =>
      refine ⟨_, rfl, _, _, _, _, rfl, rfl, SqT.of ha, at_of rfl rfl, rfl, _, rfl, ifF (by decide) ?_⟩
      refine ⟨_, rfl, _, _, _, _, rfl, rfl, SqT.of ha, at_of rfl rfl, rfl, _, rfl, ifF (by decide) ?_⟩
      refine ⟨_, rfl, _, _, _, _, rfl, rfl, SqT.of ha, at_of rfl rfl, rfl, _, rfl, ifF (by decide) ?_⟩
      exact fin H4 [] _ s4 (Tups.refl _) hf4 (by rw [List.append_nil]; exact hw4) .nil
    | @row a vi ki ha hki =>
      refine ⟨_, rfl, _, _, _, _, rfl, rfl, SqT.of ha, at_of rfl rfl, rfl, _, rfl, ifT (by decide) ?_⟩
      refine ⟨_, rfl, tyL hw4, _, rfl, _, _, _, _, rfl, rfl, SqT.of ha, at_of rfl rfl, _, rfl, _, _, rfl, rfl, (by show 2 ≤ sizeLine; decide), fun p2 np2 => ⟨rw, wr, .ref p2, rfl, rfl, same_new np2 _ _ _ hw4, line5 (by omega), ?_⟩⟩
      have T5 : Tups H4 (upd (upd H4 p2 (.tup [vi, .int ((n0 : Int) + 1)])) rw (.lst (wr ++ [.ref p2]))) := (Tups.of_same (same_new np2 _)).trans (Tups.upd (same_new np2 _ _ _ hw4))
      have ha5 := T5 _ _ ha
      have e5 := fin (upd (upd H4 p2 (.tup [vi, .int ((n0 : Int) + 1)])) rw (.lst (wr ++ [.ref p2]))) [.ref p2] u5 (Same.atNew (s4.trans (same_new np2 _)) nrw0) T5 (by rw [upd_ne nfw]; exact same_new np2 _ _ _ hf4) upd_same
        (.cons ⟨p2, vi, rfl, Tups.upd (same_new np2 _ _ _ hw4) _ _ upd_same, hki.mono T5⟩ .nil)
      refine ⟨_, rfl, _, _, _, _, rfl, rfl, SqT.of ha5, at_of rfl rfl, rfl, _, rfl, ifF (by decide) ?_⟩
      refine ⟨_, rfl, _, _, _, _, rfl, rfl, SqT.of ha5, at_of rfl rfl, rfl, _, rfl, ifF (by decide) ?_⟩
      exact e5
    | @answers a nn vi ki ha hki =>
      refine ⟨_, rfl, _, _, _, _, rfl, rfl, SqT.of ha, at_of rfl rfl, rfl, _, rfl, ifF (by decide) ?_⟩
      refine ⟨_, rfl, _, _, _, _, rfl, rfl, SqT.of ha, at_of rfl rfl, rfl, _, rfl, ifF (by decide) ?_⟩
      refine ⟨_, rfl, _, _, _, _, rfl, rfl, SqT.of ha, at_of rfl rfl, rfl, _, rfl, ifT (by decide) ?_⟩
      refine ⟨_, rfl, tyL hw4, _, rfl, _, _, _, _, rfl, rfl, SqT.of ha, at_of rfl rfl, _, rfl, _, _, rfl, rfl, (by show 2 ≤ sizeLine; decide), fun p2 np2 => ⟨rw, wr, .ref p2, rfl, rfl, same_new np2 _ _ _ hw4, line5 (by omega), ?_⟩⟩
      have T5 : Tups H4 (upd (upd H4 p2 (.tup [vi, .int ((n0 : Int) + 1)])) rw (.lst (wr ++ [.ref p2]))) := (Tups.of_same (same_new np2 _)).trans (Tups.upd (same_new np2 _ _ _ hw4))
      exact fin (upd (upd H4 p2 (.tup [vi, .int ((n0 : Int) + 1)])) rw (.lst (wr ++ [.ref p2]))) [.ref p2] u5 (Same.atNew (s4.trans (same_new np2 _)) nrw0) T5 (by rw [upd_ne nfw]; exact same_new np2 _ _ _ hf4) upd_same
        (.cons ⟨p2, vi, rfl, Tups.upd (same_new np2 _ _ _ hw4) _ _ upd_same, hki.mono T5⟩ .nil)
    | @calls a b vs vr ps r ha hb hps hr2 =>
      have hlp := hps.len
      have hpl : ps.length + 1 ≤ 100000 := by
        have h1 : (Kd.calls ps r).inner.length = ps.length + 1 := by simp [Kd.inner]
        omega
      refine ⟨_, rfl, _, _, _, _, rfl, rfl, SqT.of ha, at_of rfl rfl, rfl, _, rfl, ifF (by decide) ?_⟩
      refine ⟨_, rfl, _, _, _, _, rfl, rfl, SqT.of ha, at_of rfl rfl, rfl, _, rfl, ifT (by decide) ?_⟩
      refine ⟨_, rfl, tyL hw4, _, rfl, _, _, _, _, rfl, rfl, SqT.of ha, at_of rfl rfl, _, rfl, _, _, _, _, rfl, rfl, SqT.of ha, at_of rfl rfl, (by show 1 ≤ sizeLine; decide), fun t nt => ?_⟩
      refine catA_one (same_new nt _ _ _ hb) upd_same (Nat.le_of_lt (line5 (by omega))) fun T H5 s5 hT => ?_
      have s45 := (same_new nt (.tup [vr])).trans s5
      have ks5 := ((hps.mono (Tups.of_same s45)).app (.cons (hr2.mono (Tups.of_same s45)) .nil))
      refine ⟨T, rfl, ⟨_, SqT.of hT⟩, fun D nD => lc_tup (xs := vs ++ [vr]) (Pinn H5 D (ps ++ [r]) (n0 + 1)) ?_ ?_ ?_ ?_⟩
      · exact ⟨same_new nD _, [], upd_same, .nil⟩
      · exact fun i H6 _ p6 => SqT.of (p6.1 _ _ hT)
      · rintro i x H6 hx ⟨s6, acc, hacc, pacc⟩
        obtain ⟨ki, hki, hkx⟩ := ks5.get i x hx
        have hil : i < (ps ++ [r]).length := (List.getElem?_eq_some_iff.mp hki).1
        have la := pacc.length
        refine ⟨rfl, _, rfl, _, rfl, _, _, rfl, rfl, (by show 2 ≤ sizeLine; decide), fun p2 np2 => ⟨acc, same_new np2 _ _ _ hacc, ?_, Same.atNew (s6.trans (same_new np2 _)) nD, acc ++ [.ref p2], upd_same, ?_⟩⟩
        · rw [la, List.length_map]
          have := List.length_take_le' i (ps ++ [r])
          have h1 : (ps ++ [r]).length = ps.length + 1 := by simp
          exact line5 (by omega)
        · have T7 : Tups H6 (upd (upd H6 p2 (.tup [x, .int ((n0 : Int) + 1)])) D (.lst (acc ++ [.ref p2]))) := (Tups.of_same (same_new np2 _)).trans (Tups.upd (same_new np2 _ _ _ hacc))
          rw [← take_next hki, List.map_append]
          exact pair_app (Paired.mono (fun _ _ z => PairK.mono T7 z) pacc) (.cons ⟨p2, x, rfl, Tups.upd (same_new np2 _ _ _ hacc) _ _ upd_same, hkx.mono ((Tups.of_same s6).trans T7)⟩ .nil)
      · rintro H6 ⟨s6, acc, hacc, pacc⟩
        rw [ks5.len, List.take_length] at pacc
        have la := pacc.length
        have h1 : (ps ++ [r]).length = ps.length + 1 := by simp
        have s46 := s45.trans s6
        rw [List.length_map, h1] at la
        have h2 : (Kd.calls ps r).inner.length = ps.length + 1 := by simp [Kd.inner]
        refine ⟨rw, D, wr, acc, rfl, rfl, s46 _ _ hw4, hacc, Nat.le_of_lt (line5 (by omega)), ?_⟩
        have T7 : Tups H6 (upd H6 rw (.lst (wr ++ acc))) := Tups.upd (s46 _ _ hw4)
        have ha7 := T7 _ _ (s46 _ _ ha)
        refine ⟨_, rfl, _, _, _, _, rfl, rfl, SqT.of ha7, at_of rfl rfl, rfl, _, rfl, ifF (by decide) ?_⟩
        exact fin _ acc u5 (Same.atNew (s4.trans s46) nrw0) ((Tups.of_same s46).trans T7) (by rw [upd_ne nfw]; exact s46 _ _ hf4) upd_same (Paired.mono (fun _ _ z => PairK.mono T7 z) pacc)
end
end My
namespace My
open PySem L2
def spKindTo (E : Nat) : Sp := fun vs H Q X => ∃ e, e ≤ E ∧ spKind e vs H Q X
def spLaw (K : PySem.W.Frag) : Sp := fun vs H Q _ => ∃ (a : Addr) (ns : List Int), vs = [.ref a] ∧ SqL K H a (ns.map V.int) ∧ ns.length ≤ 63 ∧ ∀ H', Q (.bl true) H'
def Plaw (a d g nl : Addr) (n : Int) (nms : List Str) (H0 : Hp) (i : Nat) (σ : St) (H : Hp) : Prop :=
  ∃ u3 u4 u5 u6 u7 u8, σ = [some (.ref a), some (.ref d), some (.ref nl), u3, u4, u5, u6, u7, u8] ∧ But d g H0 H ∧ Tray H d g (n + 61 * (i : Int)) ∧ H nl = some (.lst (nms.map V.str))
def Pmax (H0 : Hp) (D8 : Addr) (ns : List Nat) (i : Nat) (H : Hp) : Prop := Same H0 H ∧ H D8 = some (.lst (((ns.take i).map fun n : Nat => (n : Int)).map V.int))
def Pfnd (a d nl : Addr) (v : V) (D : Int) (l : Addr) (H0 : Hp) (u3 : Option V) (_i : Nat) (σ : St) (H : Hp) : Prop :=
  ∃ u6 u7 u8, σ = [some (.ref a), some (.ref d), some (.ref nl), u3, some v, some (.int D), u6, u7, u8] ∧ H = H0 ∧ H l = some (.lst [.int D, .int D])
section
variable {P : Program} {w : World} {K : PySem.W.Frag} {mg : Str → Option Value} {base : Heap} {f : Addr} {fd : FuncData}
theorem ok_law (B : Bn mg) (F : Fun K "law" "law" s_law f fd) (c__law_tray : Cal P w K mg base "_law_tray" 1 ["script"] (spTray K)) (c__law_draw : Cal P w K mg base "_law_draw" 1 ["tray", "many"] spDraw)
    (c__law_names : Cal P w K mg base "_law_names" 3 ["tray", "many", "used"] spNames) (c__law_kind : Cal P w K mg base "_law_kind" 12 ["tray", "names", "deep"] (spKindTo 5)) (c__law_within : Cal P w K mg base "_law_within" 1 ["whole"] spWithin)
    (c_depth : Cal P w K mg base "depth" 2 ["kind"] spDepth) (kb_depth : CalK P w K mg base "depth" 2 "kind" spDepth) : FnOk P w K mg base CX0 13 f fd ["script"] (spLaw K) := by
  refine F.ok sc_law (fun vs H Q E h => ?_) (fun cdv A outer s H vs Q E hr h => ?_)
  · obtain ⟨a, ns, rfl, _⟩ := h
    rfl
  obtain ⟨a, ns, rfl, hS, h63, q⟩ := h
  refine ⟨_, (pss_cons (ps_set (i := 1) sc_law.nd rfl (Or.inl rfl) (pc c__law_tray (hr.mono (by first | decide | omega)) (pa_cons (pv 0) pa_nil)))
    (pss_cons (ps_set (i := 2) sc_law.nd rfl (Or.inl rfl) (pc c__law_names (hr.mono (by first | decide | omega)) (pa_cons (pv 1) (pa_cons (pc c__law_draw (hr.mono (by first | decide | omega)) (pa_cons (pv 1) (pa_cons pe_int pa_nil))) (pa_cons (pe_lst pa_nil) pa_nil)))))
    (pss_cons (ps_for PassesOwn.never rfl (pi_range1 rfl B.b_range (pa_cons (pe_op op_add pe_int (pe_callB (lenSeq K rfl) (by rfl) B.b_len PySem.boot_len (pa_cons (pe_slice (slL K rfl) (pv 0) po_none (po_some pe_int)) pa_nil))) pa_nil)) (pg_name (i := 3) sc_law.nd rfl (Or.inl rfl)) (pss_cons (ps_set (i := 4) sc_law.nd rfl (Or.inl rfl) (pc c__law_kind (hr.mono (by first | decide | omega)) (pa_cons (pv 1) (pa_cons (pv 2) (pa_cons (pe_op op_add pe_int (pc c__law_draw (hr.mono (by first | decide | omega)) (pa_cons (pv 1) (pa_cons pe_int pa_nil)))) pa_nil)))))
    (pss_cons (ps_set (i := 5) sc_law.nd rfl (Or.inl rfl) (pe_callB (maxOf K rfl rfl) (by rfl) B.b_max (by decide +kernel) (pa_cons (pe_lc (own := [("part", 7), ("deep", 8)]) (g := (gTup K 2 (gCons (gName 7) (gCons (gName 8) gNil)))) rfl sc_law.nd (piL K rfl (pc c__law_within (hr.mono (by first | decide | omega)) (pa_cons (pv 4) pa_nil))) (blkOk_by (N := ["script", "tray", "names", "k", "one", "due", "found", "part", "deep"]) (sc := defScope s_law) (by decide +kernel)) (fun _ _ _ _ _ => (pg_tup rfl (pgs_cons (pg_name (i := 7) sc_law.nd rfl (Or.inl rfl) (hf := Or.inr rfl)) (pgs_cons (pg_name (i := 8) sc_law.nd rfl (Or.inl rfl) (hf := Or.inr rfl)) pgs_nil)))) (fun _ _ _ _ _ => pts_nil) (fun _ _ _ _ _ => (pv 8))) pa_nil)))
    (pss_one (ps_for PassesOwn.never rfl (piL K rfl (pe_lst (pa_cons (pc c_depth (hr.mono (by first | decide | omega)) (pa_cons (pv 4) pa_nil)) (pa_cons (pck0 kb_depth (hr.mono (by first | decide | omega)) (pk_cons (pv 4) pk_nil)) pa_nil)))) (pg_name (i := 6) sc_law.nd rfl (Or.inl rfl)) (pss_one (ps_if (PW.pt (pw_or (pt_not (pt_val (pe_callB (isInst K rfl) (by rfl) B.b_isinstance (by decide +kernel) (pa_cons (pv 6) (pa_cons (pe_bltn (v := .ty "int") (by rfl) B.b_int (by decide +kernel) rfl) pa_nil))))) (pw_or (pt_val (pe_callB (isInst K rfl) (by rfl) B.b_isinstance (by decide +kernel) (pa_cons (pv 6) (pa_cons (pe_bltn (v := .ty "bool") (by rfl) B.b_bool (by decide +kernel) rfl) pa_nil)))) (pw_or1 (pt_cmpR op_ne (pv 6) (pv 5) (nomark _)))))) (pss_one (ps_ret pe_bl)) pss_nil)))))))
    (pss_one (ps_ret pe_bl))))), ?_⟩
  refine ⟨_, rfl, a, ns, rfl, hS, h63, fun d g H1 nd ng D1 s1 => ?_⟩
  refine ⟨_, rfl, _, rfl, d, g, 7, 0, rfl, D1, by decide, by decide, by decide, fun r H2 r0 r1 D2 B2 => ⟨Nat.zero_le _, fun u nu => ?_⟩⟩
  have neu := D2.ne nu
  have er : r = ((r.toNat : Nat) : Int) := by omega
  rw [er]
  refine ⟨d, g, u, 0 + 1, r.toNat, [], rfl, D2.new nu, by decide, neu.1, neu.2, upd_same, by simp; omega, fun x hx => by simp at hx, fun nl zs H3 nnl hnl lz az ndz D3 B3 => ?_⟩
  have sBut : ∀ {Hx : Hp}, But d g H1 Hx → Same H Hx := fun b x o e => b x o (ne_of_none e nd) (ne_of_none e ng) (s1 x o e)
  have B23 : But d g H1 H3 := (B2.new nu).trans B3
  have hn8 : nl ≠ d ∧ nl ≠ g := (D2.new nu).ne nnl
  have hlt : ∀ x ∈ zs, LtS x := fun x hx => (az x hx).1.1
  -- the loop's turns
  refine ⟨_, rfl, _, rfl, a, _, rfl, (sBut B23).seq hS, fun p np => ?_⟩
  obtain ⟨ns', ecut, lcut⟩ := cut_ints ns none (some 16)
  rw [ecut]
  refine ⟨p, _, rfl, .inl (SqL.of upd_same), _, _, rfl, rfl, _, rfl, by rw [List.length_map]; omega, by rw [List.length_map]; omega, ?_⟩
  have lt : (2 + (((ns'.map V.int).length : Nat) : Int)).toNat ≤ 65 := by rw [List.length_map]; omega
  generalize (2 + (((ns'.map V.int).length : Nat) : Int)).toNat = turns at lt
  have B3p := B23.new (o := .lst (ns'.map V.int)) np
  have D3p := D3.new (o := .lst (ns'.map V.int)) np
  have hnp : (upd H3 p (.lst (ns'.map V.int))) nl = some (.lst (zs.map V.str)) := same_new np _ _ _ hnl
  generalize upd H3 p (.lst (ns'.map V.int)) = H4 at B3p D3p hnp
  have hr7 : r.toNat ≤ 7 := by omega
  refine for_range (lo := 0) (n := turns) (Plaw a d g nl 200 zs H1) ?_ ?_ ?_
  · exact ⟨none, none, none, none, none, none, rfl, B3p, D3p.le (by simp; omega), hnp⟩
  · rintro i σ H5 hi ⟨u3, u4, u5, u6, u7, u8, rfl, B5, D5, h5⟩
    refine ⟨_, rfl, _, rfl, _, rfl, d, g, 5, 200 + 61 * (i : Int), rfl, D5, by decide, by decide, by omega, fun r6 H6 z0 z1 D6 B6 => ?_⟩
    refine ⟨_, _, rfl, rfl, (1 + r6).toNat, by omega, d, g, nl, _, _, zs, rfl, by omega, by omega, D6, by omega, hn8.1, hn8.2, B6 _ _ hn8.1 hn8.2 h5, by omega, hlt, fun v k H7 hk k1 k2 k3 k4 D7 B7 => ?_⟩
    have hz : k.size ≤ 100000 := by omega
    have hkn : ∀ x ∈ k.names, LtA x := fun x hx => (hlt x (k4 x hx)).2
    have h7 := B7 _ _ hn8.1 hn8.2 (B6 _ _ hn8.1 hn8.2 h5)
    have B57 := (B5.trans B6).trans B7
    refine ⟨_, rfl, v, k, rfl, hk, hz, by omega, hkn, fun rr fs nn H8 nrr hrr pfn hDn hle hlen s8 => ⟨rr, rfl, ⟨_, SqL.of hrr⟩, fun D8 nD8 => lc_list (xs := fs) (Pmax H8 D8 nn) ?_ ?_ ?_ ?_⟩⟩
    · exact ⟨same_new nD8 _, upd_same⟩
    · exact fun j H9 _ p9 => SqL.of (p9.1 _ _ hrr)
    · rintro j x H9 hx ⟨s9, e9⟩
      obtain ⟨n, hn, b, y, rfl, hb⟩ := Paired.at pfn j x hx
      have hjn : j < nn.length := (List.getElem?_eq_some_iff.mp hn).1
      have := pfn.length
      refine ⟨b, _, rfl, SqT.of (s9 _ _ hb), rfl, _, _, rfl, _, _, rfl, rfl, rfl, _, rfl, _, e9, ?_, Same.atNew s9 nD8, ?_⟩
      · rw [List.length_map, List.length_map]
        have := List.length_take_le' j nn
        exact line5 (by omega)
      · rw [upd_same, ← take_next hn, List.map_append, List.map_append]
        rfl
    rintro H9 ⟨s9, e9⟩
    rw [pfn.length, List.take_length] at e9
    refine ⟨D8, _, rfl, SqL.of e9, ?_, fun m hm1 hm2 => ?_⟩
    · rw [List.length_map]
      exact List.length_pos_of_mem hDn
    have em : m = (k.depth : Int) := by
      obtain ⟨n, hn, rfl⟩ := List.mem_map.mp hm1
      have h1 := hle n hn
      have h2 := hm2 (k.depth : Int) (List.mem_map.mpr ⟨_, hDn, rfl⟩)
      omega
    subst em
    have T79 := (Tups.of_same s8).trans (Tups.of_same s9)
    have B79 : But d g H7 H9 := But.of_same (s8.trans s9)
    have hk9 := hk.mono T79
    refine ⟨_, rfl, v, k, rfl, hk9, hz, fun Ha sa => ⟨_, rfl, v, k, rfl, hk9.mono (Tups.of_same sa), hz, fun Hb sb => ⟨(by show 2 ≤ sizeLine; decide), fun l nl2 => ?_⟩⟩⟩
    have el : (upd Hb l (.lst [.int (k.depth : Int), .int (k.depth : Int)])) l = some (.lst [.int (k.depth : Int), .int (k.depth : Int)]) := upd_same
    have sall := ((s8.trans s9).trans (sa.trans sb)).trans (same_new nl2 (.lst [.int (k.depth : Int), .int (k.depth : Int)]))
    generalize upd Hb l (.lst [.int (k.depth : Int), .int (k.depth : Int)]) = Hc at el sall
    refine ⟨l, rfl, ⟨_, SqL.of el⟩, for_list (xs := [.int (k.depth : Int), .int (k.depth : Int)]) (Pfnd a d nl v (k.depth : Int) l Hc (some (.int (0 + (i : Int))))) ?_ ?_ ?_ ?_⟩
    · exact ⟨_, _, _, rfl, rfl, el⟩
    · rintro j σ Hd _ ⟨v6, v7, v8, rfl, rfl, e⟩
      exact SqL.of e
    · rintro j x σ Hd hx ⟨v6, v7, v8, rfl, rfl, e⟩
      have ex : x = .int (k.depth : Int) := by
        have hm := List.mem_of_getElem? hx
        simpa using hm
      subst ex
      refine ⟨_, rfl, _, _, _, _, _, rfl, .ty "int", .base (.int _), kit_ty (r := true) (by decide +kernel), _, rfl, iteF ?_⟩
      refine ⟨_, rfl, _, _, _, _, _, rfl, .ty "bool", .base (.int _), kit_ty (r := false) (by decide +kernel), _, rfl, iteF ?_⟩
      refine ⟨_, rfl, _, rfl, rfl, _, rfl, iteNS rfl ?_⟩
      exact ⟨_, _, _, rfl, rfl, e⟩
    · rintro σ Hd ⟨v6, v7, v8, rfl, rfl, e⟩
      exact ⟨_, _, _, _, _, _, rfl, B57.trans (But.of_same sall), (D7.same sall).le (by omega), sall _ _ h7⟩
  · rintro σ H5 _
    exact q H5
end
end My
namespace My
open PySem L2
theorem all_mk {l : PySem.W.OpenLaw} {w : World} {K : PySem.W.Frag} {h : Heap} {mg : Str → Option Value} {fa : Addr} (X : K.In h) (G : h.Ns mainGlobals mg) (hfa : mg "law" = some (.ref fa))
    {f0 : Addr} {od0 an0 : Option Addr} {sl0 : Array (Option Value)} {oc0 kV0 dc0 pm0 cd0 ct0 : Value}
    (a0 : PySem.W.nsIn K mainGlobals "_law_tray" = some (some (.ref f0)))
    (l0 : K.lookup f0 = some ⟨oc0, od0, .func (PySem.W.fnOf "_law_tray" "_law_tray" (defArgs s__law_tray) (defBody s__law_tray) (defScope s__law_tray) .none kV0 dc0 pm0 an0 cd0 ct0), sl0⟩)
    (c0 : PySem.W.codeIn K cd0 "_law_tray" = true) (k0 : PySem.W.keepIn K (.ref f0) = true)
    {f1 : Addr} {od1 an1 : Option Addr} {sl1 : Array (Option Value)} {oc1 kV1 dc1 pm1 cd1 ct1 : Value}
    (a1 : PySem.W.nsIn K mainGlobals "_law_draw" = some (some (.ref f1)))
    (l1 : K.lookup f1 = some ⟨oc1, od1, .func (PySem.W.fnOf "_law_draw" "_law_draw" (defArgs s__law_draw) (defBody s__law_draw) (defScope s__law_draw) .none kV1 dc1 pm1 an1 cd1 ct1), sl1⟩)
    (c1 : PySem.W.codeIn K cd1 "_law_draw" = true) (k1 : PySem.W.keepIn K (.ref f1) = true)
    {f2 : Addr} {od2 an2 : Option Addr} {sl2 : Array (Option Value)} {oc2 kV2 dc2 pm2 cd2 ct2 : Value}
    (a2 : PySem.W.nsIn K mainGlobals "_law_name" = some (some (.ref f2)))
    (l2 : K.lookup f2 = some ⟨oc2, od2, .func (PySem.W.fnOf "_law_name" "_law_name" (defArgs s__law_name) (defBody s__law_name) (defScope s__law_name) .none kV2 dc2 pm2 an2 cd2 ct2), sl2⟩)
    (c2 : PySem.W.codeIn K cd2 "_law_name" = true) (k2 : PySem.W.keepIn K (.ref f2) = true)
    {f3 : Addr} {od3 an3 : Option Addr} {sl3 : Array (Option Value)} {oc3 kV3 dc3 pm3 cd3 ct3 : Value}
    (a3 : PySem.W.nsIn K mainGlobals "_law_names" = some (some (.ref f3)))
    (l3 : K.lookup f3 = some ⟨oc3, od3, .func (PySem.W.fnOf "_law_names" "_law_names" (defArgs s__law_names) (defBody s__law_names) (defScope s__law_names) .none kV3 dc3 pm3 an3 cd3 ct3), sl3⟩)
    (c3 : PySem.W.codeIn K cd3 "_law_names" = true) (k3 : PySem.W.keepIn K (.ref f3) = true)
    {f4 : Addr} {od4 an4 : Option Addr} {sl4 : Array (Option Value)} {oc4 kV4 dc4 pm4 cd4 ct4 : Value}
    (a4 : PySem.W.nsIn K mainGlobals "_law_flat_kind" = some (some (.ref f4)))
    (l4 : K.lookup f4 = some ⟨oc4, od4, .func (PySem.W.fnOf "_law_flat_kind" "_law_flat_kind" (defArgs s__law_flat_kind) (defBody s__law_flat_kind) (defScope s__law_flat_kind) .none kV4 dc4 pm4 an4 cd4 ct4), sl4⟩)
    (c4 : PySem.W.codeIn K cd4 "_law_flat_kind" = true) (k4 : PySem.W.keepIn K (.ref f4) = true)
    {f5 : Addr} {od5 an5 : Option Addr} {sl5 : Array (Option Value)} {oc5 kV5 dc5 pm5 cd5 ct5 : Value}
    (a5 : PySem.W.nsIn K mainGlobals "_law_kind" = some (some (.ref f5)))
    (l5 : K.lookup f5 = some ⟨oc5, od5, .func (PySem.W.fnOf "_law_kind" "_law_kind" (defArgs s__law_kind) (defBody s__law_kind) (defScope s__law_kind) .none kV5 dc5 pm5 an5 cd5 ct5), sl5⟩)
    (c5 : PySem.W.codeIn K cd5 "_law_kind" = true) (k5 : PySem.W.keepIn K (.ref f5) = true)
    {f6 : Addr} {od6 an6 : Option Addr} {sl6 : Array (Option Value)} {oc6 kV6 dc6 pm6 cd6 ct6 : Value}
    (a6 : PySem.W.nsIn K mainGlobals "_law_within" = some (some (.ref f6)))
    (l6 : K.lookup f6 = some ⟨oc6, od6, .func (PySem.W.fnOf "_law_within" "_law_within" (defArgs s__law_within) (defBody s__law_within) (defScope s__law_within) .none kV6 dc6 pm6 an6 cd6 ct6), sl6⟩)
    (c6 : PySem.W.codeIn K cd6 "_law_within" = true) (k6 : PySem.W.keepIn K (.ref f6) = true)
    {f7 : Addr} {od7 an7 : Option Addr} {sl7 : Array (Option Value)} {oc7 kV7 dc7 pm7 cd7 ct7 : Value}
    (a7 : PySem.W.nsIn K mainGlobals "kinds_directly_in" = some (some (.ref f7)))
    (l7 : K.lookup f7 = some ⟨oc7, od7, .func (PySem.W.fnOf "kinds_directly_in" "kinds_directly_in" (defArgs s_kinds_directly_in) (defBody s_kinds_directly_in) (defScope s_kinds_directly_in) .none kV7 dc7 pm7 an7 cd7 ct7), sl7⟩)
    (c7 : PySem.W.codeIn K cd7 "kinds_directly_in" = true) (k7 : PySem.W.keepIn K (.ref f7) = true)
    {f8 : Addr} {od8 an8 : Option Addr} {sl8 : Array (Option Value)} {oc8 kV8 dc8 pm8 cd8 ct8 : Value}
    (a8 : PySem.W.nsIn K mainGlobals "depth" = some (some (.ref f8)))
    (l8 : K.lookup f8 = some ⟨oc8, od8, .func (PySem.W.fnOf "depth" "depth" (defArgs s_depth) (defBody s_depth) (defScope s_depth) .none kV8 dc8 pm8 an8 cd8 ct8), sl8⟩)
    (c8 : PySem.W.codeIn K cd8 "depth" = true) (k8 : PySem.W.keepIn K (.ref f8) = true)
    {f9 : Addr} {od9 an9 : Option Addr} {sl9 : Array (Option Value)} {oc9 kV9 dc9 pm9 cd9 ct9 : Value}
    (a9 : PySem.W.nsIn K mainGlobals "law" = some (some (.ref f9)))
    (l9 : K.lookup f9 = some ⟨oc9, od9, .func (PySem.W.fnOf "law" "law" (defArgs s_law) (defBody s_law) (defScope s_law) .none kV9 dc9 pm9 an9 cd9 ct9), sl9⟩)
    (c9 : PySem.W.codeIn K cd9 "law" = true) (k9 : PySem.W.keepIn K (.ref f9) = true)
    (z0 : PySem.W.nsIn K mainGlobals "bool" = some none)
    (z1 : PySem.W.nsIn K mainGlobals "int" = some none)
    (z2 : PySem.W.nsIn K mainGlobals "isinstance" = some none)
    (z3 : PySem.W.nsIn K mainGlobals "len" = some none)
    (z4 : PySem.W.nsIn K mainGlobals "list" = some none)
    (z5 : PySem.W.nsIn K mainGlobals "max" = some none)
    (z6 : PySem.W.nsIn K mainGlobals "range" = some none)
    (z7 : PySem.W.nsIn K mainGlobals "tuple" = some none)
    : ∃ fd : FuncData, (∀ (s : Shared) (v : Value), BindsTo s fd ⟨[v], []⟩ [("script", v)]) ∧ ∀ base : Heap, K.In base → base.Ns mainGlobals mg → FnOk l.prog w K mg base CX0 13 fa fd ["script"] (spLaw K) := by
  have e := hfa.symm.trans (PySem.W.mg_of X G a9)
  cases e
  have F__law_tray := fun_mk (st := s__law_tray) l0 c0 k0
  have b__law_tray := F__law_tray.binds (ps := ["script"]) fun _ _ _ _ _ _ us hl => match us, hl with | [_], _ => rfl
  have m__law_tray := PySem.W.mg_of X G a0
  have F__law_draw := fun_mk (st := s__law_draw) l1 c1 k1
  have b__law_draw := F__law_draw.binds (ps := ["tray", "many"]) fun _ _ _ _ _ _ us hl => match us, hl with | [_, _], _ => rfl
  have m__law_draw := PySem.W.mg_of X G a1
  have F__law_name := fun_mk (st := s__law_name) l2 c2 k2
  have b__law_name := F__law_name.binds (ps := ["tray", "used"]) fun _ _ _ _ _ _ us hl => match us, hl with | [_, _], _ => rfl
  have m__law_name := PySem.W.mg_of X G a2
  have F__law_names := fun_mk (st := s__law_names) l3 c3 k3
  have b__law_names := F__law_names.binds (ps := ["tray", "many", "used"]) fun _ _ _ _ _ _ us hl => match us, hl with | [_, _, _], _ => rfl
  have m__law_names := PySem.W.mg_of X G a3
  have F__law_flat_kind := fun_mk (st := s__law_flat_kind) l4 c4 k4
  have b__law_flat_kind := F__law_flat_kind.binds (ps := ["tray", "names", "deep"]) fun _ _ _ _ _ _ us hl => match us, hl with | [_, _, _], _ => rfl
  have m__law_flat_kind := PySem.W.mg_of X G a4
  have F__law_kind := fun_mk (st := s__law_kind) l5 c5 k5
  have b__law_kind := F__law_kind.binds (ps := ["tray", "names", "deep"]) fun _ _ _ _ _ _ us hl => match us, hl with | [_, _, _], _ => rfl
  have m__law_kind := PySem.W.mg_of X G a5
  have F__law_within := fun_mk (st := s__law_within) l6 c6 k6
  have b__law_within := F__law_within.binds (ps := ["whole"]) fun _ _ _ _ _ _ us hl => match us, hl with | [_], _ => rfl
  have m__law_within := PySem.W.mg_of X G a6
  have F_kinds_directly_in := fun_mk (st := s_kinds_directly_in) l7 c7 k7
  have b_kinds_directly_in := F_kinds_directly_in.binds (ps := ["kind"]) fun _ _ _ _ _ _ us hl => match us, hl with | [_], _ => rfl
  have m_kinds_directly_in := PySem.W.mg_of X G a7
  have F_depth := fun_mk (st := s_depth) l8 c8 k8
  have b_depth := F_depth.binds (ps := ["kind"]) fun _ _ _ _ _ _ us hl => match us, hl with | [_], _ => rfl
  have m_depth := PySem.W.mg_of X G a8
  have F_law := fun_mk (st := s_law) l9 c9 k9
  have B : Bn mg := ⟨PySem.W.mg_none_of X G z0, PySem.W.mg_none_of X G z1, PySem.W.mg_none_of X G z2, PySem.W.mg_none_of X G z3, PySem.W.mg_none_of X G z4, PySem.W.mg_none_of X G z5, PySem.W.mg_none_of X G z6, PySem.W.mg_none_of X G z7⟩
  refine ⟨PySem.W.fnOf "law" "law" (defArgs s_law) (defBody s_law) (defScope s_law) .none kV9 dc9 pm9 an9 cd9 ct9, fun s v => .of_eq rfl, fun base _ _ => ?_⟩
  have Dr : Cal l.prog w K mg base "_law_draw" 1 ["tray", "many"] spDraw := ⟨_, _, ok_draw F__law_draw, m__law_draw, k1, b__law_draw⟩
  have Tr : Cal l.prog w K mg base "_law_tray" 1 ["script"] (spTray K) := ⟨_, _, ok_tray B F__law_tray, m__law_tray, k0, b__law_tray⟩
  have Na : Cal l.prog w K mg base "_law_name" 2 ["tray", "used"] spName := ⟨_, _, ok_name B F__law_name Dr, m__law_name, k2, b__law_name⟩
  have Ns : Cal l.prog w K mg base "_law_names" 3 ["tray", "many", "used"] spNames := ⟨_, _, ok_names B F__law_names Na, m__law_names, k3, b__law_names⟩
  have Fl : Cal l.prog w K mg base "_law_flat_kind" 6 ["tray", "names", "deep"] (spFlatTo 5) :=
    ⟨_, _, FnOk_any fun e le => (ok_flat B F__law_flat_kind m__law_flat_kind b__law_flat_kind Dr e).mono (by omega), m__law_flat_kind, k4, b__law_flat_kind⟩
  have Ki : Cal l.prog w K mg base "_law_kind" 12 ["tray", "names", "deep"] (spKindTo 5) :=
    ⟨_, _, FnOk_any fun e le => (ok_kind B F__law_kind m__law_kind b__law_kind Dr Fl e le).mono (by omega), m__law_kind, k5, b__law_kind⟩
  have Wi : Cal l.prog w K mg base "_law_within" 1 ["whole"] spWithin := ⟨_, _, ok_within F__law_within, m__law_within, k6, b__law_within⟩
  have In : Cal l.prog w K mg base "kinds_directly_in" 1 ["kind"] spInner := ⟨_, _, ok_inner F_kinds_directly_in, m_kinds_directly_in, k7, b_kinds_directly_in⟩
  have De : Cal l.prog w K mg base "depth" 2 ["kind"] spDepth := ⟨_, _, ok_depth F_depth In, m_depth, k8, b_depth⟩
  have Dk : CalK l.prog w K mg base "depth" 2 "kind" spDepth := ⟨_, _, ok_depth F_depth In, m_depth, k8, kbinds1 F_depth (fun _ _ _ _ _ _ _ => rfl) (fun _ _ _ _ _ _ _ => rfl)⟩
  exact ok_law B F_law Tr Dr Ns Ki Wi De Dk
theorem walk {l : PySem.W.OpenLaw} {q : Program} {loose : List Str} {XP : (Str → Option Value) → Heap → Prop} {YP : World → Heap → Prop} {d : DefRec} {K : Params → PySem.W.Frag}
    (hn : l.most = some 63) (hdf : d.params.defaults = []) (hY : ∀ (w : World) (h : Heap), YP w h → (K w.params).In h)
    (F : ∀ (w : World) (mg : Str → Option Value) (fa : Addr) (h : Heap), (K w.params).In h → h.Ns mainGlobals mg → mg d.name = some (.ref fa) →
      ∃ fd : FuncData, (∀ (s : Shared) (u : Value), BindsTo s fd ⟨[u], []⟩ [("script", u)]) ∧ ∀ base : Heap, (K w.params).In base → base.Ns mainGlobals mg →
        FnOk l.prog w (K w.params) mg base CX0 13 fa fd ["script"] (spLaw (K w.params))) :
    PySem.W.WalkO q loose XP YP l.row.toRowW d [] (fun f vs => PySem.call f vs) :=
  L2.walk_of (n := 63) (k := 13) (x := "script") (CX := fun _ => CX0) (sp := fun w => spLaw (K w.params)) hn (by decide) hdf ⟨rfl, by decide, by decide⟩ hY F
    (fun _ _ a ns hl _ hS => ⟨a, ns, rfl, hS, hl, fun _ => rfl⟩) fun _ _ _ _ _ z => z
end My
open PySem PySem.W PyProof.Rows
set_option maxRecDepth 100000 in
set_option maxHeartbeats 0 in
theorem PySem.Challenge.cw_stillruns_k01_kinds_and_depth_holds : PySem.Challenge.rw_stillruns_k01_kinds_and_depth.Holds := by
  w_on; o_law; k_head; (case hw => w_witness2)
  k_fill
  refine My.walk (l := PySem.Challenge.rw_stillruns_k01_kinds_and_depth) rfl rfl (fun w h Y => PySem.W.kIn_of Y) ?F
  case F =>
    intro w mg fa h KX G hmg
    refine' My.all_mk KX G hmg ?a0 ?l0 ?c0 ?k0 ?a1 ?l1 ?c1 ?k1 ?a2 ?l2 ?c2 ?k2 ?a3 ?l3 ?c3 ?k3 ?a4 ?l4 ?c4 ?k4 ?a5 ?l5 ?c5 ?k5 ?a6 ?l6 ?c6 ?k6 ?a7 ?l7 ?c7 ?k7 ?a8 ?l8 ?c8 ?k8 ?a9 ?l9 ?c9 ?k9 ?z0 ?z1 ?z2 ?z3 ?z4 ?z5 ?z6 ?z7
    (case a0 => k_is)
    (case l0 => k_is)
    (case c0 => k_is)
    (case k0 => k_is)
    (case a1 => k_is)
    (case l1 => k_is)
    (case c1 => k_is)
    (case k1 => k_is)
    (case a2 => k_is)
    (case l2 => k_is)
    (case c2 => k_is)
    (case k2 => k_is)
    (case a3 => k_is)
    (case l3 => k_is)
    (case c3 => k_is)
    (case k3 => k_is)
    (case a4 => k_is)
    (case l4 => k_is)
    (case c4 => k_is)
    (case k4 => k_is)
    (case a5 => k_is)
    (case l5 => k_is)
    (case c5 => k_is)
    (case k5 => k_is)
    (case a6 => k_is)
    (case l6 => k_is)
    (case c6 => k_is)
    (case k6 => k_is)
    (case a7 => k_is)
    (case l7 => k_is)
    (case c7 => k_is)
    (case k7 => k_is)
    (case a8 => k_is)
    (case l8 => k_is)
    (case c8 => k_is)
    (case k8 => k_is)
    (case a9 => k_is)
    (case l9 => k_is)
    (case c9 => k_is)
    (case k9 => k_is)
    (case z0 => k_is)
    (case z1 => k_is)
    (case z2 => k_is)
    (case z3 => k_is)
    (case z4 => k_is)
    (case z5 => k_is)
    (case z6 => k_is)
    (case z7 => k_is)
