import PyProof.Rows.All
import Wide.All
import OpenK.AllK
import Wide.FinOn
import HandS.Base
import HandS.Call
import HandS.List
import HandS.Comp
import HandS.Ends
import HandS.Iter
import HandS.Words
import HandS.WordsList
import HandS.Star
import HandS.More
import HandS.ForMost
import HandS.IsInst
import HandS.TupAny
import PySem.Challenge.RW_stillruns_k11_sizes
set_option Elab.async false
set_option linter.unusedVariables false
set_option maxRecDepth 100000
namespace My
open PySem L2
/-! a def that stands behind the top, by what a caller needs of it -/
structure Cal (P : Program) (w : World) (K : PySem.W.Frag) (mg : Str → Option Value) (base : Heap) (x : Str) (n : Nat) (ps : List Str) (sp : Sp) : Prop where
  ex : ∃ (f : Addr) (fd : FuncData), FnOk P w K mg base CX0 n f fd ps sp ∧
    mg x = some (.ref f) ∧ PySem.W.keepIn K (.ref f) = true ∧ Binds K fd ps []
/-- how one keyword binds (the only parameter) -/
structure CalK (P : Program) (w : World) (K : PySem.W.Frag) (mg : Str → Option Value) (base : Heap) (x : Str) (n : Nat) (y : Str) (sp : Sp) : Prop where
  ex : ∃ (f : Addr) (fd : FuncData), FnOk P w K mg base CX0 n f fd [y] sp ∧
    mg x = some (.ref f) ∧ PySem.W.keepIn K (.ref f) = true ∧ KBinds K fd [y] [y] (fun us ws => us ++ ws) (fun vs zs => vs ++ zs)
section
variable {X : Cx} {x : Str} {n m : Nat} {ps : List Str} {sp : Sp} {es : List Expr} {e : Expr} {t tk : TA} {p pos : Pos} {y : Str} {kws : List Keyword}
theorem kbinds1 {K : PySem.W.Frag} {x qual : Str} {st : Stmt} {f : Addr} {fd : FuncData} {y : Str} (F : Fun K x qual st f fd)
    (h1 : ∀ (kV doc pm : Value) (an : Option Addr) (cdv ct u : Value), bindArgs (PySem.W.fnOf x qual (defArgs st) (defBody st) (defScope st) .none kV doc pm an cdv ct) ⟨[u], []⟩ = pure [(y, u)])
    (h2 : ∀ (kV doc pm : Value) (an : Option Addr) (cdv ct u : Value), bindArgs (PySem.W.fnOf x qual (defArgs st) (defBody st) (defScope st) .none kV doc pm an cdv ct) ⟨[], [(y, u)]⟩ = pure [(y, u)]) :
    KBinds K fd [y] [y] (fun us ws => us ++ ws) (fun vs zs => vs ++ zs) := by
  obtain ⟨oc, od, kV, doc, pm, an, cdv, ct, osl, rfl, lk, hcd⟩ := F.ex
  refine ⟨fun s us ws _ hl => ?_, fun r1 r2 => r1.append r2⟩
  match us, ws, hl with
  | [u], [], _ => exact .of_eq (h1 kV doc pm an cdv ct u)
  | [], [u], _ => exact .of_eq (h2 kV doc pm an cdv ct u)
theorem pc (C : Cal X.prog X.w X.K X.mg X.base x n ps sp) (hr : Room n X.A) (ha : PA X (e :: es) t) (hg : Gl X x := by rfl)
    (hdb : (x == ("__debug__" : Str)) = false := by decide)
    (he : starEach (e :: es) X.env = (false, eval e X.env) :: starEach es X.env := by rfl)
    (hpl : (backTo pos (starEach es X.env)).any (·.1) = false := by rfl) :
    PE X (.Call (.Name x p) (e :: es) [] pos) (tCall sp [] E0 t) := by
  obtain ⟨f, fd, F, hm, hk, hb⟩ := C.ex
  exact pe_call F hr hg hm hk hb .nil pass0 ha hdb he hpl
theorem pck0 (C : CalK X.prog X.w X.K X.mg X.base x n y sp) (hr : Room n X.A) (hkw : PK X kws tk) (hg : Gl X x := by rfl)
    (hdb : (x == ("__debug__" : Str)) = false := by decide)
    (hall : (backToKw pos (keywordEach kws X.env)).all (·.1.isSome) = true := by rfl)
    (hks : (backToKw pos (keywordEach kws X.env)).filterMap (·.1) = [y] := by rfl)
    (hpl : ((backTo pos (starEach [] X.env)).any (·.1) || (backToKw pos (keywordEach kws X.env)).any (·.1.isNone)) = false := by rfl) :
    PE X (.Call (.Name x p) [] kws pos) (fun σ H Q => tk σ H fun zs H2 => sp zs H2 Q E0) := by
  obtain ⟨f, fd, F, hm, hk, hb⟩ := C.ex
  refine ⟨fun pins s σ H Q I h => ?_⟩
  refine wpAny_Call_Name_kw (ld_glob I hg hm ?_ hdb)
  refine PySem.W.callWith_KW0 (h₀ := X.base) I.ok.mod.kin hk hall ?_ hpl
  refine thn (hkw.run pos pins s σ H _ I h) fun ws s2 ⟨zs, H2, I2, rz, q2⟩ => ⟨I2.kIn, ?_⟩
  rw [hks]
  exact run_fnk (us := []) (vs := []) F hr hb pass0 I2 .nil rz q2
end
/-! the rules that speak of the written part, told its name (so they stand in a comprehension's block, too) -/
section
variable {X : Cx} (K : PySem.W.Frag) (h : X.K = K)
include h
theorem ixL : IxR X (rIxL K) := by subst h; exact ix_list
theorem ixT : IxR X (rIxT K) := by subst h; exact ix_tup
theorem inSeq : OpR X (compareOp .In) (rIn K false) := by subst h; exact op_in_seq
theorem notInSeq : OpR X (compareOp .NotIn) (rIn K true) := by subst h; exact op_notIn_seq
theorem eqD (hu : X.A.units + 64 < cLine) : OpR X (compareOp .Eq) (rEqD K) := by subst h; exact op_eqD hu
theorem neD (hu : X.A.units + 64 < cLine) : OpR X (compareOp .NotEq) (rNeD K) := by subst h; exact op_neD hu
theorem lenSeq : CallR X (.builtin "len") (fun xs H Q => ∃ p ys, xs = [.ref p] ∧ (SqL K H p ys ∨ SqT K H p ys) ∧ Q (.int ys.length) H) := by
  subst h; exact call_len_seq
theorem listOf : CallR X (.type "list") (fun xs H Q => ∃ p ys, xs = [.ref p] ∧ (SqL K H p ys ∨ SqT K H p ys) ∧
    ∀ l, H l = none → Q (.ref l) (upd H l (.lst ys))) := by subst h; exact call_list_of
theorem tupleOf : CallR X (.type "tuple") (fun xs H Q => ∃ p ys, xs = [.ref p] ∧
    ((SqL K H p ys ∧ ∀ l, H l = none → Q (.ref l) (upd H l (.tup ys))) ∨ (SqT K H p ys ∧ Q (.ref p) H))) := by subst h; exact call_tuple_of
theorem isInst : CallR X (.builtin "isinstance") (rIsi K) := by subst h; exact call_isi
theorem isInstT : CallR X (.builtin "isinstance") (rIsiT K) := by subst h; exact call_isiT
theorem sumOf (hc : X.calm = true) : CallR X (.builtin "sum") (rSum K) := by subst h; exact cr_sum hc
theorem maxOf (hc : X.calm = true) : CallR X (.builtin "max") (rMax K) := by subst h; exact cr_max hc
theorem minOf (hc : X.calm = true) : CallR X (.builtin "min") (rMin K) := by subst h; exact cr_min hc
theorem allOf (hc : X.calm = true) : CallR X (.builtin "all") (rAll K) := by subst h; exact cr_all hc
theorem anyOf (hc : X.calm = true) : CallR X (.builtin "any") (rAny K) := by subst h; exact cr_any hc
theorem slL : SlR X (rSlL K) := by subst h; exact sl_list
theorem slT : SlR X (rSlA K) := by subst h; exact sl_tupA
theorem catT : OpR X (binaryOp .Add) (rCatA K) := by subst h; exact op_catA
theorem truth {a : Expr} {ta : TE} (ha : PE X a ta)
    (he : ∀ whole, isTrue a X.env whole = (do let v ← whole; standAt a.pos; holding [v] (truthy v)) := by intro _; rfl) :
    PT X a (fun σ H Q => ta σ H fun x H' => ∃ k, TruV K x H' k ∧ Q k H') := by subst h; exact pt_truth ha he
theorem piL {tg l : Expr} {tl : TE} (hl : PE X l tl) : PI X tg l (iList K tl) := by subst h; exact pi_list hl
theorem piT {tg l : Expr} {tl : TE} (hl : PE X l tl) : PI X tg l (iTup K tl) := by subst h; exact pi_tup hl
theorem star {e : Expr} {es : List Expr} {te : TE} {t : TA} {p : Pos} (he : PE X e te) (hr : PA X es t)
    (hs : starEach (.Starred e p :: es) X.env = (true, eval e X.env) :: starEach es X.env := by rfl) :
    PA X (.Starred e p :: es) (StX.tStar K te t) := by subst h; exact StX.pa_star he hr hs
end
theorem ifT {c : Bool} {A B : Prop} (hc : c = true) (h : A) : if c = true then A else B := by
  rw [if_pos hc]
  exact h
theorem ifF {c : Bool} {A B : Prop} (hc : c = false) (h : B) : if c = true then A else B := by
  rw [if_neg (by rw [hc]; exact Bool.false_ne_true)]
  exact h
theorem Paired.at {α β : Type} {F : α → β → Prop} : ∀ {l₁ : List α} {l₂ : List β}, Paired F l₁ l₂ → ∀ (i : Nat) (x : α), l₁[i]? = some x → ∃ y, l₂[i]? = some y ∧ F x y
  | _, _, .nil, i, x, h => by simp at h
  | _, _, .cons r t, 0, x, h => by
    have e := Option.some.inj h
    subst e
    exact ⟨_, rfl, r⟩
  | _, _, .cons r t, i + 1, x, h => Paired.at t i x h
theorem take_next {α : Type} {l : List α} {i : Nat} {x : α} (h : l[i]? = some x) : l.take i ++ [x] = l.take (i + 1) := by
  rw [List.take_succ, h]
  rfl
theorem tyL {K : PySem.W.Frag} {H : Hp} {p : Addr} {xs : List V} (h : H p = some (.lst xs)) : tyV K "list" (.ref p) H := Or.inl ⟨rfl, _, SqL.of h⟩
theorem seq_set {te : TE} {i : Nat} {u : TS} {D : Ends} {σ : St} {H : Hp} (h : te σ H fun x H1 => u D (σ.set i (some x)) H1) : tSeq (tAsg te (gName i)) u D σ H := h
theorem gn {i : Nat} {v : V} {σ : St} {H : Hp} {Q : St → Hp → Prop} (h : Q (σ.set i (some v)) H) : gName i v σ H Q := h
theorem seq_abs {t u : TS} {D : Ends} {σ : St} {H : Hp} (R : St → Hp → Prop) (hd : ∀ σ' H', R σ' H' → u D σ' H')
    (h : ∀ nx : St → Hp → Prop, (∀ σ' H', R σ' H' → nx σ' H') → t { D with nx := nx } σ H) : tSeq t u D σ H := h (u D) hd
end My
namespace My
open PySem L2
def top (i : Nat) : Stmt := PySem.Challenge.pw_stillruns_k11_sizes.main.body.getD i (.Pass ⟨0, 0, 0, 0⟩)
abbrev s_parts_of : Stmt := top 1
theorem sc_parts_of : FnScope ["term", "_", "part"] ["term"] (defScope s_parts_of) := ⟨rfl, rfl, rfl, by decide +kernel, rfl, by decide +kernel, by decide +kernel⟩
abbrev s_size : Stmt := top 3
theorem sc_size : FnScope ["term", "count", "waiting", "each"] ["term"] (defScope s_size) := ⟨rfl, rfl, rfl, by decide +kernel, rfl, by decide +kernel, by decide +kernel⟩
abbrev s__law_deck : Stmt := top 5
theorem sc__law_deck : FnScope ["script", "great", "fold", "cell"] ["script"] (defScope s__law_deck) := ⟨rfl, rfl, rfl, by decide +kernel, rfl, by decide +kernel, by decide +kernel⟩
abbrev s__law_take : Stmt := top 6
theorem sc__law_take : FnScope ["deck", "many", "k", "mixed", "drawn"] ["deck", "many"] (defScope s__law_take) := ⟨rfl, rfl, rfl, by decide +kernel, rfl, by decide +kernel, by decide +kernel⟩
abbrev s__law_leaf : Stmt := top 7
theorem sc__law_leaf : FnScope ["deck", "way"] ["deck"] (defScope s__law_leaf) := ⟨rfl, rfl, rfl, by decide +kernel, rfl, by decide +kernel, by decide +kernel⟩
abbrev s__law_around : Stmt := top 8
theorem sc__law_around : FnScope ["deck", "parts", "word", "given", "k"] ["deck", "parts"] (defScope s__law_around) := ⟨rfl, rfl, rfl, by decide +kernel, rfl, by decide +kernel, by decide +kernel⟩
abbrev s__law_drawn : Stmt := top 9
theorem sc__law_drawn : FnScope ["deck", "deep", "room", "many", "k"] ["deck", "deep", "room"] (defScope s__law_drawn) := ⟨rfl, rfl, rfl, by decide +kernel, rfl, by decide +kernel, by decide +kernel⟩
abbrev s__law_line : Stmt := top 10
theorem sc__law_line : FnScope ["deck", "prog", "k"] ["deck"] (defScope s__law_line) := ⟨rfl, rfl, rfl, by decide +kernel, rfl, by decide +kernel, by decide +kernel⟩
abbrev s__law_parts : Stmt := top 11
theorem sc__law_parts : FnScope ["prog", "part", "name"] ["prog"] (defScope s__law_parts) := ⟨rfl, rfl, rfl, by decide +kernel, rfl, by decide +kernel, by decide +kernel⟩
abbrev s__law_size : Stmt := top 12
theorem sc__law_size : FnScope ["prog", "part"] ["prog"] (defScope s__law_size) := ⟨rfl, rfl, rfl, by decide +kernel, rfl, by decide +kernel, by decide +kernel⟩
abbrev s_law : Stmt := top 13
theorem sc_law : FnScope ["script", "k", "deck", "prog", "found"] ["script"] (defScope s_law) := ⟨rfl, rfl, rfl, by decide +kernel, rfl, by decide +kernel, by decide +kernel⟩
structure Bn (mg : Str → Option Value) : Prop where
  b_abs : mg "abs" = none
  b_bool : mg "bool" = none
  b_int : mg "int" = none
  b_isinstance : mg "isinstance" = none
  b_len : mg "len" = none
  b_list : mg "list" = none
  b_max : mg "max" = none
  b_min : mg "min" = none
  b_range : mg "range" = none
  b_sum : mg "sum" = none
  b_tuple : mg "tuple" = none
end My
namespace My
open PySem L2
/-! heaps -/
/-- all that is tracked stays, but the lists at d and g -/
def But (d g : Addr) (H H' : Hp) : Prop := ∀ a o, a ≠ d → a ≠ g → H a = some o → H' a = some o
theorem But.refl (d g : Addr) (H : Hp) : But d g H H := fun _ _ _ _ h => h
theorem But.trans {d g : Addr} {H H1 H2 : Hp} (a : But d g H H1) (b : But d g H1 H2) : But d g H H2 := fun x o h1 h2 h => b x o h1 h2 (a x o h1 h2 h)
theorem But.new {d g p : Addr} {H H1 : Hp} {o : HO} (a : But d g H H1) (hp : H1 p = none) : But d g H (upd H1 p o) := fun x u h1 h2 h => by
  have q := a x u h1 h2 h
  rw [upd_ne (ne_of_none q hp)]
  exact q
theorem But.atD {d g : Addr} {H H1 : Hp} {o : HO} (a : But d g H H1) : But d g H (upd H1 d o) := fun x u h1 h2 h => by
  rw [upd_ne h1]
  exact a x u h1 h2 h
theorem But.atG {d g : Addr} {H H1 : Hp} {o : HO} (a : But d g H H1) : But d g H (upd H1 g o) := fun x u h1 h2 h => by
  rw [upd_ne h2]
  exact a x u h1 h2 h
theorem But.of_same {d g : Addr} {H H1 : Hp} (a : Same H H1) : But d g H H1 := fun x u _ _ h => a x u h
theorem same_new {H : Hp} {p : Addr} (h : H p = none) (o : HO) : Same H (upd H p o) := fun b u q => by rw [upd_ne (ne_of_none q h)]; exact q
/-! the deck -/
structure DeckP (H : Hp) (d g : Addr) (ns : List Int) (fold k n : Int) : Prop where
  d : H d = some (.lst [.ref g, .int fold, .int k])
  g : H g = some (.lst (ns.map V.int))
  pos : ∀ x ∈ ns, 0 ≤ x
  f0 : 0 ≤ fold
  f1 : fold < 2305843009213693951
  k0 : 0 ≤ k
  k1 : k ≤ n
def Deck (H : Hp) (d g : Addr) (n : Int) : Prop := ∃ ns fold k, DeckP H d g ns fold k n
theorem DeckP.ne {H : Hp} {d g : Addr} {ns : List Int} {fold k n : Int} (D : DeckP H d g ns fold k n) : d ≠ g := by
  refine ne_of D.d D.g fun e => ?_
  injection e with e
  cases ns with
  | nil => cases e
  | cons x r => rw [List.map_cons] at e; cases e
theorem DeckP.new {H : Hp} {d g p : Addr} {ns : List Int} {fold k n : Int} {o : HO} (D : DeckP H d g ns fold k n) (hp : H p = none) : DeckP (upd H p o) d g ns fold k n :=
  ⟨by rw [upd_ne (ne_of_none D.d hp)]; exact D.d, by rw [upd_ne (ne_of_none D.g hp)]; exact D.g, D.pos, D.f0, D.f1, D.k0, D.k1⟩
theorem DeckP.same {H H' : Hp} {d g : Addr} {ns : List Int} {fold k n : Int} (D : DeckP H d g ns fold k n) (s : Same H H') : DeckP H' d g ns fold k n :=
  ⟨s _ _ D.d, s _ _ D.g, D.pos, D.f0, D.f1, D.k0, D.k1⟩
theorem Deck.same {H H' : Hp} {d g : Addr} {n : Int} (D : Deck H d g n) (s : Same H H') : Deck H' d g n := by
  obtain ⟨ns, fold, k, D⟩ := D
  exact ⟨ns, fold, k, D.same s⟩
theorem Deck.new {H : Hp} {d g p : Addr} {n : Int} {o : HO} (D : Deck H d g n) (hp : H p = none) : Deck (upd H p o) d g n := D.same (same_new hp o)
theorem Deck.le {H : Hp} {d g : Addr} {n m : Int} (D : Deck H d g n) (h : n ≤ m) : Deck H d g m := by
  obtain ⟨ns, fold, k, D⟩ := D
  exact ⟨ns, fold, k, D.d, D.g, D.pos, D.f0, D.f1, D.k0, Int.le_trans D.k1 h⟩
theorem shaped_ints (ns : List Int) : SeqAt.shaped (.list (ns.map PyData.int)) = true := by
  have a : PyData.canLayAll0 (ns.map PyData.int) = true := by
    induction ns with
    | nil => rfl
    | cons x r ih => rw [List.map_cons, PyData.canLayAll0, ih]; rfl
  have b : PyData.depthAll (ns.map PyData.int) = 0 := by
    induction ns with
    | nil => rfl
    | cons x r ih => rw [List.map_cons, PyData.depthAll, ih (by rw [List.map_cons, PyData.canLayAll0] at a; exact (Bool.and_eq_true_iff.mp a).2)]; rfl
  unfold SeqAt.shaped
  rw [PyData.canLay0, a, PyData.depth, b]
  rfl
theorem dp_ints {K : PySem.W.Frag} {H : Hp} (ns : List Int) : DpAll K H (ns.map V.int) (ns.map PyData.int) := by
  induction ns with
  | nil => exact .nil
  | cons x r ih => exact .cons (.int x) ih
theorem eqv_nil (ns : List Int) : PyData.eqv (.list (ns.map PyData.int)) (.list []) = ns.isEmpty := by
  cases ns with
  | nil => simp [PyData.eqv, PyData.eqvAll]
  | cons x r => simp [PyData.eqv, PyData.eqvAll]
/-- _law_take: a number below many, the deck goes on by one -/
def spTake : Sp := fun vs H Q _ => ∃ (d g : Addr) (many n : Int), vs = [.ref d, .int many] ∧ Deck H d g n ∧ 0 < many ∧ many ≤ 1000000000 ∧ n ≤ 1000000 ∧
  ∀ (r : Int) (H' : Hp), 0 ≤ r → r < many → Deck H' d g (n + 1) → But d g H H' → Q (.int r) H'
def Wtake (d g : Addr) (many n : Int) (H0 : Hp) (m : Nat) (σ : St) (H : Hp) : Prop :=
  σ = [some (.ref d), some (.int many), none, none, none] ∧ ∃ ns fold k, DeckP H d g ns fold k n ∧ But d g H0 H ∧ m = ns.length
theorem last_of {ns : List Int} (h : ns ≠ []) : ∃ l x, ns = l ++ [x] := ⟨ns.dropLast, ns.getLast h, (List.dropLast_concat_getLast h).symm⟩
section
variable {P : Program} {w : World} {K : PySem.W.Frag} {mg : Str → Option Value} {base : Heap} {f : Addr} {fd : FuncData}
theorem ok_take (F : Fun K "_law_take" "_law_take" s__law_take f fd) : FnOk P w K mg base CX0 1 f fd ["deck", "many"] spTake := by
  refine F.ok sc__law_take (fun vs H Q E h => ?_) (fun cdv A outer s H vs Q E hr h => ?_)
  · obtain ⟨d, g, many, n, rfl, _⟩ := h
    rfl
  obtain ⟨d, g, many, n, rfl, D, h0, h1, h2, q⟩ := h
  refine ⟨_, (pss_cons (ps_while PassesOwn.never (PW.pt (pw_and (pt_cmpR (neD K rfl hr.units) (pe_ix (ixL K rfl) (pv 0) pe_int (fun _ _ => rfl)) (pe_lst pa_nil) (nomark _)) (pw_and1 (pt_cmpR op_lt (pe_ix (ixL K rfl) (pe_ix (ixL K rfl) (pv 0) pe_int (fun _ _ => rfl)) (pe_un un_neg pe_int) (fun _ _ => rfl)) pe_int (nomark _))))) (pss_one (ps_expr (pe_bm0 PySem.F.plainAttrs_list PySem.F.slot_list_pop PySem.F.type_list_pop mt_pop (pe_ix (ixL K rfl) (pv 0) pe_int (fun _ _ => rfl))))))
    (pss_cons (ps_if (pt_cmpR (neD K rfl hr.units) (pe_ix (ixL K rfl) (pv 0) pe_int (fun _ _ => rfl)) (pe_lst pa_nil) (nomark _)) (pss_cons (ps_set (i := 4) sc__law_take.nd rfl (Or.inl rfl) (pe_op op_mod (pe_ix (ixL K rfl) (pe_ix (ixL K rfl) (pv 0) pe_int (fun _ _ => rfl)) (pe_un un_neg pe_int) (fun _ _ => rfl)) (pv 1)))
    (pss_cons (ps_asg (pe_op op_fdiv (pe_ix (ixL K rfl) (pe_ix (ixL K rfl) (pv 0) pe_int (fun _ _ => rfl)) (pe_un un_neg pe_int) (fun _ _ => rfl)) (pv 1)) (pg_sub (pe_ix (ixL K rfl) (pv 0) pe_int (fun _ _ => rfl)) (pe_un un_neg pe_int) set_list))
    (pss_one (ps_ret (pv 4))))) pss_nil)
    (pss_cons (ps_asg (pe_op op_add (pe_ix (ixL K rfl) (pv 0) pe_int (fun _ _ => rfl)) pe_int) (pg_sub (pv 0) pe_int set_list))
    (pss_cons (ps_set (i := 2) sc__law_take.nd rfl (Or.inl rfl) (pe_ix (ixL K rfl) (pv 0) pe_int (fun _ _ => rfl)))
    (pss_cons (ps_set (i := 3) sc__law_take.nd rfl (Or.inl rfl) (pe_op op_add (pe_op op_mul (pe_op op_add (pe_ix (ixL K rfl) (pv 0) pe_int (fun _ _ => rfl)) pe_int) (pe_op op_pow (pe_op op_add (pv 2) pe_int) pe_int)) (pe_op op_mul pe_int (pv 2))))
    (pss_one (ps_ret (pe_op op_mod (pe_op op_fdiv (pe_op op_mod (pe_op op_pow (pe_op op_mod (pv 3) pe_int) pe_int) pe_int) pe_int) (pv 1))))))))), ?_⟩
  obtain ⟨ns0, fold0, k0, D0⟩ := D
  refine seq_abs (fun σ' H' => ∃ m, Wtake d g many n H m σ' H') (fun σ1 H1 w1 => ?_) (fun nx hnx => ?_)
  · obtain ⟨_, rfl, ns, fold, k, D1, B1, _⟩ := w1
    refine ⟨_, rfl, _, _, _, _, rfl, rfl, SqL.of D1.d, by rfl, Nat.zero_le _, fun p hp => ?_⟩
    have D2 := D1.new (o := .lst []) hp
    have B2 := B1.new (o := .lst []) hp
    refine ⟨.list (ns.map PyData.int), .list [], .lst (SqL.of D2.g) (dp_ints ns), .lst (SqL.of upd_same) .nil, shaped_ints ns, rfl, _, rfl, ?_⟩
    rw [eqv_nil]
    generalize upd H1 p (.lst []) = H2 at D2 B2
    clear D1 B1 hp
    by_cases hn : ns = []
    · subst hn
      refine iteF ?_
      refine ⟨_, rfl, _, _, _, _, rfl, rfl, SqL.of D2.d, by rfl, _, _, rfl, rfl, _, rfl, _, _, _, 2, rfl, rfl, D2.d, rfl, ?_⟩
      refine ⟨_, rfl, _, _, _, _, rfl, rfl, SqL.of upd_same, by rfl, ?_⟩
      have e0 := D2.k0
      have e1 := D2.k1
      have e2 := D2.f0
      have e3 := D2.f1
      refine ⟨_, rfl, _, _, _, _, rfl, rfl, SqL.of upd_same, by rfl, _, _, rfl, rfl, _, rfl, _, _, rfl, rfl, _, _, rfl, rfl,
        ⟨by decide, by decide, by show (k + 1 + 5 : Int).natAbs < 2 ^ 64; omega⟩, _, _, rfl, rfl, .inl ⟨?_, ?_⟩, _, rfl, _, _, rfl, rfl, .inl ⟨by decide, by decide⟩, _, _, rfl, rfl, ?_⟩
      · show -(2 ^ 64) < fold + 40503
        omega
      · show fold + 40503 < 2 ^ 64
        omega
      refine ⟨_, rfl, _, _, rfl, rfl, (show (0 : Int) < 2305843009213693951 by decide), _, _, rfl, rfl, ⟨by decide, by decide, ?_⟩, _, _, rfl, rfl, (show (0 : Int) < 1000000007 by decide), _, _, rfl, rfl, ⟨by decide, by decide⟩, _, rfl, _, _, rfl, rfl, h0, ?_⟩
      · show Int.natAbs (_ % 2305843009213693951) < 2 ^ 64
        omega
      refine q _ _ (Int.emod_nonneg _ (by omega)) (Int.emod_lt_of_pos _ h0) ⟨[], fold, k + 1, upd_same, by rw [upd_ne D2.ne.symm]; exact D2.g, D2.pos, e2, e3, by omega, by omega⟩ B2.atD
    · obtain ⟨l, x, rfl⟩ := last_of hn
      refine ite2 (fun _ => ?_) (fun c => absurd (by cases l <;> rfl) c)
      have hg : H2 g = some (.lst (l.map V.int ++ [.int x])) := by rw [D2.g, List.map_append]; rfl
      have hx := D2.pos x (by simp)
      refine ⟨_, rfl, _, _, _, _, rfl, rfl, SqL.of D2.d, by rfl, _, rfl, _, _, _, _, rfl, rfl, SqL.of hg, atI_last _ _, ?_⟩
      refine ⟨_, rfl, _, _, rfl, rfl, h0, ?_⟩
      refine ⟨_, rfl, _, _, _, _, rfl, rfl, SqL.of D2.d, by rfl, _, rfl, _, _, _, _, rfl, rfl, SqL.of hg, atI_last _ _, _, rfl, _, _, rfl, rfl, ⟨h0, by show many < 1073741824; omega⟩, ?_⟩
      refine ⟨_, rfl, _, _, _, _, rfl, rfl, SqL.of D2.d, by rfl, _, rfl, _, _, _, l.length, rfl, rfl, hg, ?_, _, rfl, ?_⟩
      · show ixN _ (-1) = _
        unfold ixN
        rw [List.length_append, List.length_map, List.length_singleton, if_neg (by decide), if_pos (by omega)]
        congr 1
        omega
      refine q _ _ (Int.emod_nonneg _ (by omega)) (Int.emod_lt_of_pos _ h0) ⟨l ++ [x / many], fold, k, by rw [upd_ne D2.ne]; exact D2.d, ?_, ?_, D2.f0, D2.f1, D2.k0, by have := D2.k1; omega⟩ B2.atG
      · rw [upd_same]
        congr 2
        rw [List.map_append, List.set_append_right _ _ (by simp)]
        simp
      · intro y hy
        rcases List.mem_append.mp hy with hy | hy
        · exact D2.pos y (by simp [hy])
        · have : y = x / many := by simpa using hy
          rw [this]
          exact Int.ediv_nonneg hx (by omega)
  refine ⟨Wtake d g many n H, ⟨ns0.length, rfl, ns0, fold0, k0, D0, But.refl _ _ _, rfl⟩, fun m σ H1 w1 => ?_⟩
  obtain ⟨rfl, ns, fold, k, D1, B1, rfl⟩ := w1
  refine ⟨_, rfl, _, _, _, _, rfl, rfl, SqL.of D1.d, by rfl, Nat.zero_le _, fun p hp => ?_⟩
  have D2 := D1.new (o := .lst []) hp
  have B2 := B1.new (o := .lst []) hp
  refine ⟨.list (ns.map PyData.int), .list [], .lst (SqL.of D2.g) (dp_ints ns), .lst (SqL.of upd_same) .nil, shaped_ints ns, rfl, _, rfl, ?_⟩
  rw [eqv_nil]
  generalize upd H1 p (.lst []) = H2 at D2 B2
  clear D1 B1 hp
  by_cases hn : ns = []
  · subst hn
    refine iteF ?_
    exact hnx _ _ ⟨0, rfl, [], fold, k, D2, B2, rfl⟩
  · obtain ⟨l, x, rfl⟩ := last_of hn
    have hg : H2 g = some (.lst (l.map V.int ++ [.int x])) := by rw [D2.g, List.map_append]; rfl
    refine ite2 (fun _ => ?_) (fun c => absurd (by cases l <;> rfl) c)
    refine ⟨_, rfl, _, _, _, _, rfl, rfl, SqL.of D2.d, by rfl, _, rfl, _, _, _, _, rfl, rfl, SqL.of hg, atI_last _ _, _, _, rfl, rfl, _, rfl, ?_⟩
    refine ite2 (fun _ => ?_) (fun _ => ?_)
    · refine ⟨fun σ' H' => ∃ m', m' < (l ++ [x]).length ∧ Wtake d g many n H m' σ' H', fun _ _ h => h, ?_⟩
      refine ⟨_, rfl, _, _, _, _, rfl, rfl, SqL.of D2.d, by rfl, tyL hg, g, _, .int x, rfl, rfl, hg, ?_, ?_⟩
      · simp
      · refine ⟨l.length, by simp, rfl, l, fold, k, ?_, B2.atG, rfl⟩
        refine ⟨by rw [upd_ne D2.ne]; exact D2.d, by rw [upd_same]; simp, fun y hy => D2.pos y (by simp [hy]), D2.f0, D2.f1, D2.k0, D2.k1⟩
    · exact hnx _ _ ⟨_, rfl, _, fold, k, D2, B2, rfl⟩
end
end My
namespace My
open PySem L2
theorem abs_if (n : Int) : (if n < 0 then -n else n) = (n.natAbs : Int) := by split <;> omega
/-- _law_deck: a new deck -/
def spDeck (K : PySem.W.Frag) : Sp := fun vs H Q _ => ∃ (a : Addr) (ns : List Int), vs = [.ref a] ∧ SqL K H a (ns.map V.int) ∧ ns.length ≤ 63 ∧
  ∀ (d g : Addr) (H' : Hp), H d = none → H g = none → Deck H' d g 0 → Same H H' → Q (.ref d) H'
def Pdeck (a g : Addr) (H0 : Hp) (i : Nat) (σ : St) (H : Hp) : Prop :=
  ∃ (gs : List Int) (fold : Int) (u : Option V), σ = [some (.ref a), some (.ref g), some (.int fold), u] ∧ H0 g = none ∧ H g = some (.lst (gs.map V.int)) ∧ gs.length ≤ i ∧
    (∀ x ∈ gs, 0 ≤ x) ∧ 0 ≤ fold ∧ fold < 2305843009213693951 ∧ Same H0 H
theorem Same.atNew {H0 H : Hp} {g : Addr} {o : HO} (s : Same H0 H) (h : H0 g = none) : Same H0 (upd H g o) := fun b u q => by
  rw [upd_ne (ne_of_none q h)]
  exact s b u q
section
variable {P : Program} {w : World} {K : PySem.W.Frag} {mg : Str → Option Value} {base : Heap} {f : Addr} {fd : FuncData}
theorem ok_deck (B : Bn mg) (F : Fun K "_law_deck" "_law_deck" s__law_deck f fd) : FnOk P w K mg base CX0 1 f fd ["script"] (spDeck K) := by
  refine F.ok sc__law_deck (fun vs H Q E h => ?_) (fun cdv A outer s H vs Q E hr h => ?_)
  · obtain ⟨a, ns, rfl, _⟩ := h
    rfl
  obtain ⟨a, ns, rfl, hS, h63, q⟩ := h
  refine ⟨_, (pss_cons (ps_set (i := 1) sc__law_deck.nd rfl (Or.inl rfl) (pe_lst pa_nil))
    (pss_cons (ps_set (i := 2) sc__law_deck.nd rfl (Or.inl rfl) pe_int)
    (pss_cons (ps_for PassesOwn.never rfl (piL K rfl (pv 0)) (pg_name (i := 3) sc__law_deck.nd rfl (Or.inl rfl)) (pss_cons (ps_set (i := 2) sc__law_deck.nd rfl (Or.inl rfl) (pe_op op_mod (pe_op op_add (pe_op op_mul (pv 2) pe_int) (pv 3)) pe_int))
    (pss_one (ps_if (pt_cmpR op_ge (pe_callB call_abs (by rfl) B.b_abs (by decide +kernel) (pa_cons (pv 3) pa_nil)) (pe_op op_pow pe_int pe_int) (nomark _)) (pss_one (ps_expr (pe_bm PySem.F.plainAttrs_list PySem.F.slot_list_insert PySem.F.type_list_insert mt_insert (pv 1) (pa_cons pe_int (pa_cons (pe_op op_sub (pe_callB call_abs (by rfl) B.b_abs (by decide +kernel) (pa_cons (pv 3) pa_nil)) (pe_op op_pow pe_int pe_int)) pa_nil))))) pss_nil))))
    (pss_one (ps_ret (pe_lst (pa_cons (pv 1) (pa_cons (pv 2) (pa_cons pe_int pa_nil))))))))), ?_⟩
  refine ⟨Nat.zero_le _, fun g hg => ?_⟩
  refine ⟨_, rfl, a, rfl, ⟨_, (same_new hg _).seq hS⟩, for_list (xs := ns.map V.int) (Pdeck a g H) ?_ ?_ ?_ ?_⟩
  · exact ⟨[], 11, none, rfl, hg, upd_same, Nat.le_refl _, fun x hx => by simp at hx, by decide, by decide, same_new hg _⟩
  · rintro i σ H1 _ ⟨gs, fold, u, rfl, h0, h1, h2, h3, h4, h5, h6⟩
    exact h6.seq hS
  · rintro i x σ H1 hx ⟨gs, fold, u, rfl, h0, h1, h2, h3, h4, h5, h6⟩
    rw [List.getElem?_map] at hx
    obtain ⟨c, hc, rfl⟩ := Option.map_eq_some_iff.mp hx
    have hi : i < ns.length := (List.getElem?_eq_some_iff.mp hc).1
    have f0 : 0 ≤ (fold * 1000003 + c) % 2305843009213693951 := Int.emod_nonneg _ (by decide)
    have f1 : (fold * 1000003 + c) % 2305843009213693951 < 2305843009213693951 := Int.emod_lt_of_pos _ (by decide)
    refine ⟨_, rfl, _, _, rfl, rfl, .inl ⟨by omega, by omega⟩, _, rfl, _, _, rfl, rfl, _, _, rfl, rfl, (show (0 : Int) < 2305843009213693951 by decide), ?_⟩
    refine ⟨_, rfl, c, rfl, _, _, rfl, rfl, ⟨by decide, by decide, by decide⟩, _, _, rfl, rfl, _, rfl, ?_⟩
    rw [abs_if]
    refine ite2 (fun hc1 => ?_) (fun hc1 => ?_)
    · refine ⟨_, rfl, tyL h1, _, rfl, c, rfl, _, _, rfl, rfl, ⟨by decide, by decide, by decide⟩, _, _, rfl, rfl, g, _, 0, _, rfl, rfl, h1, ?_, Int.le_refl _, by decide, ?_⟩
      · rw [List.length_map]
        exact small1000 (by omega)
      · rw [abs_if]
        have e1 : (10 : Int) ^ (18 : Int).toNat = 1000000000000000000 := by decide
        refine ⟨((c.natAbs : Int) - (10 : Int) ^ (18 : Int).toNat) :: gs, _, _, rfl, h0, ?_, ?_, ?_, f0, f1, Same.atNew h6 h0⟩
        · rw [upd_same]
          rfl
        · rw [List.length_cons]
          omega
        · intro y hy
          rcases List.mem_cons.mp hy with rfl | hy
          · have hc2 := of_decide_eq_true hc1
            rw [e1] at hc2 ⊢
            omega
          · exact h3 y hy
    · exact ⟨gs, _, _, rfl, h0, h1, by omega, h3, f0, f1, h6⟩
  · intro σ H1 p
    rw [List.length_map] at p
    obtain ⟨gs, fold, u, rfl, h0, h1, h2, h3, h4, h5, h6⟩ := p
    refine ⟨_, rfl, _, rfl, by show 3 ≤ sizeLine; decide, fun d hd => ?_⟩
    exact q d g _ (h6.free hd) h0 ⟨gs, fold, 0, upd_same, by rw [upd_ne (ne_of_none h1 hd)]; exact h1, h3, h4, h5, Int.le_refl _, Int.le_refl _⟩ (h6.trans (same_new hd _))
end
end My
namespace My
open PySem L2
/-! terms in the heap -/
/-- an argument (name, part) -/
def ArgAt (H : Hp) (q p : V) : Prop := ∃ a nm, q = .ref a ∧ H a = some (.tup [.str nm, p])
/-- what a tuple of these items has as parts -/
inductive Parts (H : Hp) : List V → List V → Prop
  | num (i : Int) : Parts H [.str "num", .int i] []
  | text (z : Str) : Parts H [.str "text", .str z] []
  | bare (k c : Str) : Parts H [.str "case", .str k, .str c, .non] []
  | args {w : Str} {mid : List V} {g : Addr} {qs ps : List V} (hw : w = "call" ∨ w = "make" ∨ w = "handed") (hg : H g = some (.tup qs)) (h : Paired (ArgAt H) qs ps) : Parts H ((.str w :: mid) ++ [.ref g]) ps
  | ask {v : V} {g : Addr} {vs : List V} (hg : H g = some (.tup vs)) : Parts H [.str "ask", v, .ref g] (v :: vs)
  | last {w : Str} {mid ys : List V} {b : Addr} (hw : w = "get" ∨ w = "case" ∨ w = "as" ∨ w = "look" ∨ w = "one" ∨ w = "answer") (hb : H b = some (.tup ys)) : Parts H ((.str w :: mid) ++ [.ref b]) [.ref b]
/-- the tuples stay -/
def Tups (H H' : Hp) : Prop := ∀ a xs, H a = some (.tup xs) → H' a = some (.tup xs)
theorem Tups.of_same {H H' : Hp} (s : Same H H') : Tups H H' := fun a xs h => s a _ h
theorem Tups.refl (H : Hp) : Tups H H := fun _ _ h => h
theorem Tups.trans {H H1 H2 : Hp} (a : Tups H H1) (b : Tups H1 H2) : Tups H H2 := fun x xs h => b x xs (a x xs h)
theorem Parts.mono {H H' : Hp} (t : Tups H H') {xs ps : List V} (h : Parts H xs ps) : Parts H' xs ps := by
  cases h with
  | num i => exact .num i
  | text z => exact .text z
  | bare k c => exact .bare k c
  | args hw hg h => exact .args hw (t _ _ hg) (Paired.mono (fun q p ⟨a, nm, e, h⟩ => ⟨a, nm, e, t _ _ h⟩) h)
  | ask hg => exact .ask (t _ _ hg)
  | last hw hb => exact .last hw (t _ _ hb)
/-- v is a term, at most so deep, of the size n -/
def IsTm (H : Hp) : Nat → V → Nat → Prop
  | 0, _, _ => False
  | d + 1, v, n => ∃ a xs ps ns, v = .ref a ∧ H a = some (.tup xs) ∧ Parts H xs ps ∧ Paired (IsTm H d) ps ns ∧ n = 1 + ns.sum
theorem IsTm.mono {H H' : Hp} (t : Tups H H') : ∀ {d : Nat} {v : V} {n : Nat}, IsTm H d v n → IsTm H' d v n
  | 0, _, _, h => h.elim
  | d + 1, v, n, ⟨a, xs, ps, ns, e, h, p, r, q⟩ => ⟨a, xs, ps, ns, e, t _ _ h, p.mono t, Paired.mono (fun _ _ z => IsTm.mono t z) r, q⟩
theorem IsTm.up {H : Hp} : ∀ {d : Nat} {v : V} {n : Nat}, IsTm H d v n → IsTm H (d + 1) v n
  | 0, _, _, h => h.elim
  | d + 1, v, n, ⟨a, xs, ps, ns, e, h, p, r, q⟩ => ⟨a, xs, ps, ns, e, h, p, Paired.mono (fun _ _ z => IsTm.up z) r, q⟩
theorem IsTm.le {H : Hp} {d e : Nat} {v : V} {n : Nat} (h : IsTm H d v n) (l : d ≤ e) : IsTm H e v n := by
  induction l with
  | refl => exact h
  | step _ ih => exact ih.up
theorem IsTm.pos {H : Hp} {d : Nat} {v : V} {n : Nat} (h : IsTm H d v n) : 1 ≤ n := by
  cases d with
  | zero => exact h.elim
  | succ d =>
    obtain ⟨_, _, _, ns, _, _, _, _, e⟩ := h
    omega
theorem len_le_sum {H : Hp} {d : Nat} : ∀ {ps : List V} {ns : List Nat}, Paired (IsTm H d) ps ns → ps.length ≤ ns.sum
  | _, _, .nil => Nat.le_refl _
  | _, _, .cons r t => by
    have a := len_le_sum t
    have b := r.pos
    rw [List.length_cons, List.sum_cons]
    omega
/-- parts_of and the law's own: a new list of the parts -/
def spParts : Sp := fun vs H Q _ => ∃ (a : Addr) (xs ps : List V), vs = [.ref a] ∧ H a = some (.tup xs) ∧ Parts H xs ps ∧ ps.length ≤ 100000 ∧
  ∀ (r : Addr) (H' : Hp), H r = none → H' r = some (.lst ps) → Same H H' → Q (.ref r) H'
theorem line5 {n : Nat} (h : n ≤ 100000) : n < sizeLine := Nat.lt_of_le_of_lt h (by decide)
def Pcol (H0 : Hp) (D : Addr) (ps : List V) (i : Nat) (H : Hp) : Prop := Same H0 H ∧ H D = some (.lst (ps.take i))
theorem cut_last {K : List V} {v : V} (h : K ≠ []) : ¬ (HT.sIx (K ++ [v]).length 0 (some (-1)) = 0 ∧ HT.sIx (K ++ [v]).length (K ++ [v]).length none = (K ++ [v]).length) ∧ cutV (K ++ [v]) (some (-1)) none = [v] := by
  have e : HT.sIx (K ++ [v]).length 0 (some (-1)) = K.length := by
    show (if (-1 : Int) < 0 then ((-1 : Int) + ((K ++ [v]).length : Int)).toNat else min (-1 : Int).toNat (K ++ [v]).length) = K.length
    rw [if_pos (by decide), List.length_append, List.length_singleton]
    omega
  have e2 : HT.sIx (K ++ [v]).length (K ++ [v]).length none = K.length + 1 := by
    rw [HT.sIx_none, List.length_append, List.length_singleton]
  constructor
  · rintro ⟨a, _⟩
    rw [e] at a
    exact h (List.eq_nil_of_length_eq_zero a)
  · unfold cutV
    rw [e, e2, List.drop_left, Nat.add_sub_cancel_left]
    rfl
/-- no tuple: a number, a text or None -/
def Bare (v : V) : Prop := (∃ i, v = .int i) ∨ (∃ z, v = .str z) ∨ v = .non
/-- by the word: what the two walks over parts meet -/
inductive Word (H : Hp) (xs ps : List V) : Prop
  | leaf (w : Str) (K : List V) (v : V) (e : xs = (.str w :: K) ++ [v]) (h1 : inV (.str w) [.str "num", .str "text", .str "hole"] = true ∨ (inV (.str w) [.str "num", .str "text", .str "hole"] = false ∧ v = .non))
      (h2 : inV (.str w) [.str "call", .str "make", .str "handed"] = false) (h3 : decide (V.str w = .str "ask") = false) (hv : Bare v) (hp : ps = [])
  | args (w : Str) (K : List V) (g : Addr) (qs : List V) (e : xs = (.str w :: K) ++ [.ref g]) (h1 : inV (.str w) [.str "num", .str "text", .str "hole"] = false)
      (h2 : inV (.str w) [.str "call", .str "make", .str "handed"] = true) (hg : H g = some (.tup qs)) (h : Paired (ArgAt H) qs ps)
  | ask (v : V) (g : Addr) (vs : List V) (e : xs = [.str "ask", v, .ref g]) (hg : H g = some (.tup vs)) (hp : ps = v :: vs)
  | last (w : Str) (K : List V) (b : Addr) (ys : List V) (e : xs = (.str w :: K) ++ [.ref b]) (h1 : inV (.str w) [.str "num", .str "text", .str "hole"] = false)
      (h2 : inV (.str w) [.str "call", .str "make", .str "handed"] = false) (h3 : decide (V.str w = .str "ask") = false) (hb : H b = some (.tup ys)) (hp : ps = [.ref b])
theorem Parts.word {H : Hp} {xs ps : List V} (h : Parts H xs ps) : Word H xs ps := by
  cases h with
  | num i => exact .leaf "num" [] (.int i) rfl (.inl rfl) rfl (by decide) (.inl ⟨_, rfl⟩) rfl
  | text z => exact .leaf "text" [] (.str z) rfl (.inl rfl) rfl (by decide) (.inr (.inl ⟨_, rfl⟩)) rfl
  | bare k c => exact .leaf "case" [.str k, .str c] .non rfl (.inr ⟨rfl, rfl⟩) rfl (by decide) (.inr (.inr rfl)) rfl
  | args hw hg h => rcases hw with rfl | rfl | rfl <;> exact .args _ _ _ _ rfl rfl rfl hg h
  | ask hg => exact .ask _ _ _ rfl hg rfl
  | last hw hb => rcases hw with rfl | rfl | rfl | rfl | rfl | rfl <;> exact .last _ _ _ _ rfl rfl rfl (by decide) hb rfl
theorem at_head {w : Str} {K : List V} {v : V} : atI ((.str w :: K) ++ [v]) 0 = some (.str w) := at_of rfl rfl
section
variable {P : Program} {w : World} {K : PySem.W.Frag} {mg : Str → Option Value} {base : Heap} {f : Addr} {fd : FuncData}
theorem ok_parts (F : Fun K "parts_of" "parts_of" s_parts_of f fd) : FnOk P w K mg base CX0 1 f fd ["term"] spParts := by
  refine F.ok sc_parts_of (fun vs H Q E h => ?_) (fun cdv A outer s H vs Q E hr h => ?_)
  · obtain ⟨a, xs, ps, rfl, _⟩ := h
    rfl
  obtain ⟨a, xs, ps, rfl, ha, hp0, hl, q⟩ := h
  refine ⟨_, (pss_cons (ps_if (pt_cmpR (inSeq K rfl) (pe_ix (ixT K rfl) (pv 0) pe_int (fun _ _ => rfl)) (pe_tup (pa_cons pe_str (pa_cons pe_str (pa_cons pe_str pa_nil)))) (by rfl)) (pss_one (ps_ret (pe_lst pa_nil))) pss_nil)
    (pss_cons (ps_if (pt_cmpR (inSeq K rfl) (pe_ix (ixT K rfl) (pv 0) pe_int (fun _ _ => rfl)) (pe_tup (pa_cons pe_str (pa_cons pe_str (pa_cons pe_str pa_nil)))) (by rfl)) (pss_one (ps_ret (pe_lc (own := [("_", 1), ("part", 2)]) (g := (gTup K 2 (gCons (gName 1) (gCons (gName 2) gNil)))) rfl sc_parts_of.nd (piT K rfl (pe_ix (ixT K rfl) (pv 0) (pe_un un_neg pe_int) (fun _ _ => rfl))) (blkOk_by (N := ["term", "_", "part"]) (sc := defScope s_parts_of) (by decide +kernel)) (fun _ _ _ _ _ => (pg_tup rfl (pgs_cons (pg_name (i := 1) sc_parts_of.nd rfl (Or.inl rfl) (hf := Or.inr rfl)) (pgs_cons (pg_name (i := 2) sc_parts_of.nd rfl (Or.inl rfl) (hf := Or.inr rfl)) pgs_nil)))) (fun _ _ _ _ _ => pts_nil) (fun _ _ _ _ _ => (pv 2))))) pss_nil)
    (pss_cons (ps_if (pt_cmpR op_eq (pe_ix (ixT K rfl) (pv 0) pe_int (fun _ _ => rfl)) pe_str (nomark _)) (pss_one (ps_ret (pe_lst (pa_cons (pe_ix (ixT K rfl) (pv 0) pe_int (fun _ _ => rfl)) (star K rfl (pe_ix (ixT K rfl) (pv 0) pe_int (fun _ _ => rfl)) pa_nil))))) pss_nil)
    (pss_one (ps_ret (pe_ifExp (pt_cmpR op_isN (pe_ix (ixT K rfl) (pv 0) (pe_un un_neg pe_int) (fun _ _ => rfl)) pe_non (nomark _)) (pe_lst pa_nil) (pe_lst (pa_cons (pe_ix (ixT K rfl) (pv 0) (pe_un un_neg pe_int) (fun _ _ => rfl)) pa_nil)))))))), ?_⟩
  cases hp0.word with
  | leaf w L v e h1 h2 h3 hv hp =>
    subst e hp
    refine ⟨_, rfl, _, _, _, _, rfl, rfl, SqT.of ha, at_head, (by show 3 ≤ sizeLine; decide), fun t1 n1 => ⟨t1, _, rfl, .inr (SqT.of upd_same), rfl, rfl, _, rfl, ?_⟩⟩
    have S1 := same_new n1 (.tup [V.str "num", V.str "text", V.str "hole"])
    generalize upd H t1 (.tup [V.str "num", V.str "text", V.str "hole"]) = H1 at S1
    rcases h1 with h1 | ⟨h1, rfl⟩
    · refine ifT h1 ?_
      exact ⟨Nat.zero_le _, fun r nr => q r _ (S1.free nr) upd_same (S1.trans (same_new nr _))⟩
    refine ifF h1 ?_
    refine ⟨_, rfl, _, _, _, _, rfl, rfl, SqT.of (S1 _ _ ha), at_head, (by show 3 ≤ sizeLine; decide), fun t2 n2 => ⟨t2, _, rfl, .inr (SqT.of upd_same), rfl, rfl, _, rfl, ?_⟩⟩
    have S2 := S1.trans (same_new n2 (.tup [V.str "call", V.str "make", V.str "handed"]))
    generalize upd H1 t2 (.tup [V.str "call", V.str "make", V.str "handed"]) = H2 at S2
    refine ifF h2 ?_
    refine ⟨_, rfl, _, _, _, _, rfl, rfl, SqT.of (S2 _ _ ha), at_head, rfl, _, rfl, ifF h3 ?_⟩
    refine ⟨_, rfl, _, rfl, _, _, _, _, rfl, rfl, SqT.of (S2 _ _ ha), atI_last _ _, rfl, _, rfl, ifT rfl ?_⟩
    exact ⟨Nat.zero_le _, fun r nr => q r _ (S2.free nr) upd_same (S2.trans (same_new nr _))⟩
  | args w L g qs e h1 h2 hg h =>
    subst e
    refine ⟨_, rfl, _, _, _, _, rfl, rfl, SqT.of ha, at_head, (by show 3 ≤ sizeLine; decide), fun t1 n1 => ⟨t1, _, rfl, .inr (SqT.of upd_same), rfl, rfl, _, rfl, ifF h1 ?_⟩⟩
    have S1 := same_new n1 (.tup [V.str "num", V.str "text", V.str "hole"])
    generalize upd H t1 (.tup [V.str "num", V.str "text", V.str "hole"]) = H1 at S1
    refine ⟨_, rfl, _, _, _, _, rfl, rfl, SqT.of (S1 _ _ ha), at_head, (by show 3 ≤ sizeLine; decide), fun t2 n2 => ⟨t2, _, rfl, .inr (SqT.of upd_same), rfl, rfl, _, rfl, ifT h2 ?_⟩⟩
    have S2 := S1.trans (same_new n2 (.tup [V.str "call", V.str "make", V.str "handed"]))
    generalize upd H1 t2 (.tup [V.str "call", V.str "make", V.str "handed"]) = H2 at S2
    have hg2 := S2 _ _ hg
    refine ⟨_, rfl, _, rfl, _, _, _, _, rfl, rfl, SqT.of (S2 _ _ ha), atI_last _ _, g, rfl, ⟨_, SqT.of hg2⟩, fun D nD => lc_tup (xs := qs) (Pcol H2 D ps) ?_ ?_ ?_ ?_⟩
    · exact ⟨same_new nD _, upd_same⟩
    · exact fun i H3 _ p => SqT.of (p.1 _ _ hg2)
    · intro i x H3 hx p
      obtain ⟨y, hy, b, nm, rfl, hb⟩ := Paired.at h i x hx
      refine ⟨b, _, rfl, SqT.of (p.1 _ _ (S2 _ _ hb)), rfl, _, _, rfl, _, _, rfl, rfl, rfl, ?_⟩
      refine ⟨_, rfl, _, p.2, ?_, ?_, ?_⟩
      · exact line5 (Nat.le_trans (List.length_take_le' _ _) hl)
      · exact Same.atNew p.1 nD
      · rw [upd_same, take_next hy]
    · intro H3 p
      refine q D _ (S2.free nD) ?_ (S2.trans p.1)
      rw [p.2, h.length, List.take_length]
  | ask v g vs e hg hp =>
    subst e hp
    refine ⟨_, rfl, _, _, _, _, rfl, rfl, SqT.of ha, at_of rfl rfl, (by show 3 ≤ sizeLine; decide), fun t1 n1 => ⟨t1, _, rfl, .inr (SqT.of upd_same), rfl, rfl, _, rfl, ifF rfl ?_⟩⟩
    have S1 := same_new n1 (.tup [V.str "num", V.str "text", V.str "hole"])
    generalize upd H t1 (.tup [V.str "num", V.str "text", V.str "hole"]) = H1 at S1
    refine ⟨_, rfl, _, _, _, _, rfl, rfl, SqT.of (S1 _ _ ha), at_of rfl rfl, (by show 3 ≤ sizeLine; decide), fun t2 n2 => ⟨t2, _, rfl, .inr (SqT.of upd_same), rfl, rfl, _, rfl, ifF rfl ?_⟩⟩
    have S2 := S1.trans (same_new n2 (.tup [V.str "call", V.str "make", V.str "handed"]))
    generalize upd H1 t2 (.tup [V.str "call", V.str "make", V.str "handed"]) = H2 at S2
    refine ⟨_, rfl, _, _, _, _, rfl, rfl, SqT.of (S2 _ _ ha), at_of rfl rfl, rfl, _, rfl, ifT (by decide) ?_⟩
    refine ⟨_, rfl, _, _, _, _, rfl, rfl, SqT.of (S2 _ _ ha), at_of rfl rfl, _, rfl, _, _, _, _, rfl, rfl, SqT.of (S2 _ _ ha), at_of rfl rfl, g, _, rfl, .inl (SqT.of (S2 _ _ hg)), ?_, fun r nr => ?_⟩
    · show (v :: (vs ++ [])).length ≤ sizeLine
      rw [List.append_nil]
      exact Nat.le_of_lt (line5 hl)
    · refine q r _ (S2.free nr) ?_ (S2.trans (same_new nr _))
      rw [upd_same, List.append_nil]
  | last w L b ys e h1 h2 h3 hb hp =>
    subst e hp
    refine ⟨_, rfl, _, _, _, _, rfl, rfl, SqT.of ha, at_head, (by show 3 ≤ sizeLine; decide), fun t1 n1 => ⟨t1, _, rfl, .inr (SqT.of upd_same), rfl, rfl, _, rfl, ifF h1 ?_⟩⟩
    have S1 := same_new n1 (.tup [V.str "num", V.str "text", V.str "hole"])
    generalize upd H t1 (.tup [V.str "num", V.str "text", V.str "hole"]) = H1 at S1
    refine ⟨_, rfl, _, _, _, _, rfl, rfl, SqT.of (S1 _ _ ha), at_head, (by show 3 ≤ sizeLine; decide), fun t2 n2 => ⟨t2, _, rfl, .inr (SqT.of upd_same), rfl, rfl, _, rfl, ifF h2 ?_⟩⟩
    have S2 := S1.trans (same_new n2 (.tup [V.str "call", V.str "make", V.str "handed"]))
    generalize upd H1 t2 (.tup [V.str "call", V.str "make", V.str "handed"]) = H2 at S2
    refine ⟨_, rfl, _, _, _, _, rfl, rfl, SqT.of (S2 _ _ ha), at_head, rfl, _, rfl, ifF h3 ?_⟩
    refine ⟨_, rfl, _, rfl, _, _, _, _, rfl, rfl, SqT.of (S2 _ _ ha), atI_last _ _, rfl, _, rfl, ifF (by rfl) ?_⟩
    refine ⟨_, rfl, _, rfl, _, _, _, _, rfl, rfl, SqT.of (S2 _ _ ha), atI_last _ _, (by show 1 ≤ sizeLine; decide), fun r nr => ?_⟩
    exact q r _ (S2.free nr) upd_same (S2.trans (same_new nr _))
end
end My
namespace My
open PySem L2
def Pone (H0 : Hp) (D : Addr) (xs : List V) (i : Nat) (H : Hp) : Prop := Same H0 H ∧ H D = some (.lst (if i = 0 then [] else xs))
theorem bare_ty {K : PySem.W.Frag} {H : Hp} {v : V} (h : Bare v) : ∃ t, TyX K H v t ∧ PySem.W.kitOne K t (.type "tuple") = some false := by
  rcases h with ⟨i, rfl⟩ | ⟨z, rfl⟩ | rfl
  · exact ⟨_, .base (.int i), kit_ty (by decide +kernel)⟩
  · exact ⟨_, .base (.str z), kit_ty (by decide +kernel)⟩
  · exact ⟨_, .base .non, kit_ty (by decide +kernel)⟩
section
variable {P : Program} {w : World} {K : PySem.W.Frag} {mg : Str → Option Value} {base : Heap} {f : Addr} {fd : FuncData}
theorem ok_lparts (B : Bn mg) (F : Fun K "_law_parts" "_law_parts" s__law_parts f fd) : FnOk P w K mg base CX0 1 f fd ["prog"] spParts := by
  refine F.ok sc__law_parts (fun vs H Q E h => ?_) (fun cdv A outer s H vs Q E hr h => ?_)
  · obtain ⟨a, xs, ps, rfl, _⟩ := h
    rfl
  obtain ⟨a, xs, ps, rfl, ha, hp0, hl, q⟩ := h
  refine ⟨_, (pss_cons (ps_if (pt_cmpR (inSeq K rfl) (pe_ix (ixT K rfl) (pv 0) pe_int (fun _ _ => rfl)) (pe_lst (pa_cons pe_str (pa_cons pe_str (pa_cons pe_str pa_nil)))) (by rfl)) (pss_one (ps_ret (pe_lc (own := [("name", 2), ("part", 1)]) (g := (gTup K 2 (gCons (gName 2) (gCons (gName 1) gNil)))) rfl sc__law_parts.nd (piT K rfl (pe_ix (ixT K rfl) (pv 0) (pe_un un_neg pe_int) (fun _ _ => rfl))) (blkOk_by (N := ["prog", "part", "name"]) (sc := defScope s__law_parts) (by decide +kernel)) (fun _ _ _ _ _ => (pg_tup rfl (pgs_cons (pg_name (i := 2) sc__law_parts.nd rfl (Or.inl rfl) (hf := Or.inr rfl)) (pgs_cons (pg_name (i := 1) sc__law_parts.nd rfl (Or.inl rfl) (hf := Or.inr rfl)) pgs_nil)))) (fun _ _ _ _ _ => pts_nil) (fun _ _ _ _ _ => (pv 1))))) pss_nil)
    (pss_cons (ps_if (pt_cmpR op_eq (pe_ix (ixT K rfl) (pv 0) pe_int (fun _ _ => rfl)) pe_str (nomark _)) (pss_one (ps_ret (pe_op op_cat (pe_lst (pa_cons (pe_ix (ixT K rfl) (pv 0) pe_int (fun _ _ => rfl)) pa_nil)) (pe_callTy (listOf K rfl) (by rfl) B.b_list (by decide +kernel) (pa_cons (pe_ix (ixT K rfl) (pv 0) pe_int (fun _ _ => rfl)) pa_nil))))) pss_nil)
    (pss_one (ps_ret (pe_lc (own := [("part", 1)]) (g := (gName 1)) rfl sc__law_parts.nd (piT K rfl (pe_slice (slT K rfl) (pv 0) (po_some (pe_un un_neg pe_int)) po_none)) (blkOk_by (N := ["prog", "part", "name"]) (sc := defScope s__law_parts) (by decide +kernel)) (fun _ _ _ _ _ => (pg_name (i := 1) sc__law_parts.nd rfl (Or.inl rfl) (hf := Or.inr rfl))) (fun _ _ _ _ _ => (pts_one (pt_val (pe_callB (isInst K rfl) (by rfl) B.b_isinstance (by decide +kernel) (pa_cons (pv 1) (pa_cons (pe_bltn (v := .ty "tuple") (by rfl) B.b_tuple (by decide +kernel) rfl) pa_nil)))))) (fun _ _ _ _ _ => (pv 1))))))), ?_⟩
  cases hp0.word with
  | leaf w L v e h1 h2 h3 hv hp =>
    subst e hp
    refine ⟨_, rfl, _, _, _, _, rfl, rfl, SqT.of ha, at_head, (by show 3 ≤ sizeLine; decide), fun t2 n2 => ⟨t2, _, rfl, .inl (SqL.of upd_same), rfl, rfl, _, rfl, ifF h2 ?_⟩⟩
    have S2 := same_new n2 (.lst [V.str "call", V.str "make", V.str "handed"])
    generalize upd H t2 (.lst [V.str "call", V.str "make", V.str "handed"]) = H2 at S2
    refine ⟨_, rfl, _, _, _, _, rfl, rfl, SqT.of (S2 _ _ ha), at_head, rfl, _, rfl, ifF h3 ?_⟩
    obtain ⟨c1, c2⟩ := cut_last (K := V.str w :: L) (v := v) (by simp)
    refine ⟨_, rfl, _, rfl, _, rfl, _, _, rfl, SqT.of (S2 _ _ ha), fun z => absurd z c1, fun _ p np => ?_⟩
    rw [c2]
    have S3 := S2.trans (same_new np (.tup [v]))
    have hp3 : (upd H2 p (.tup [v])) p = some (.tup [v]) := upd_same
    generalize upd H2 p (.tup [v]) = H3 at S3 hp3
    refine ⟨p, rfl, ⟨_, SqT.of hp3⟩, fun D nD => lc_tup (xs := [v]) (Pone H3 D []) ?_ ?_ ?_ ?_⟩
    · exact ⟨same_new nD _, upd_same⟩
    · exact fun i H4 _ p4 => SqT.of (p4.1 _ _ hp3)
    · intro i x H4 hx p4
      have hi : i < 1 := (List.getElem?_eq_some_iff.mp hx).1
      have ei : i = 0 := by omega
      subst ei
      have ex : v = x := Option.some.inj hx
      subst ex
      obtain ⟨t, ty, kk⟩ := bare_ty (K := K) (H := H4) hv
      refine ⟨rfl, _, rfl, _, _, t, _, _, rfl, .ty "tuple", ty, kk, _, rfl, ?_⟩
      exact iteF ⟨p4.1, p4.2⟩
    · intro H4 p4
      exact q D _ (S3.free nD) p4.2 (S3.trans p4.1)
  | args w L g qs e h1 h2 hg h =>
    subst e
    refine ⟨_, rfl, _, _, _, _, rfl, rfl, SqT.of ha, at_head, (by show 3 ≤ sizeLine; decide), fun t2 n2 => ⟨t2, _, rfl, .inl (SqL.of upd_same), rfl, rfl, _, rfl, ifT h2 ?_⟩⟩
    have S2 := same_new n2 (.lst [V.str "call", V.str "make", V.str "handed"])
    generalize upd H t2 (.lst [V.str "call", V.str "make", V.str "handed"]) = H2 at S2
    have hg2 := S2 _ _ hg
    refine ⟨_, rfl, _, rfl, _, _, _, _, rfl, rfl, SqT.of (S2 _ _ ha), atI_last _ _, g, rfl, ⟨_, SqT.of hg2⟩, fun D nD => lc_tup (xs := qs) (Pcol H2 D ps) ?_ ?_ ?_ ?_⟩
    · exact ⟨same_new nD _, upd_same⟩
    · exact fun i H3 _ p => SqT.of (p.1 _ _ hg2)
    · intro i x H3 hx p
      obtain ⟨y, hy, b, nm, rfl, hb⟩ := Paired.at h i x hx
      refine ⟨b, _, rfl, SqT.of (p.1 _ _ (S2 _ _ hb)), rfl, _, _, rfl, _, _, rfl, rfl, rfl, ?_⟩
      refine ⟨_, rfl, _, p.2, ?_, ?_, ?_⟩
      · exact line5 (Nat.le_trans (List.length_take_le' _ _) hl)
      · exact Same.atNew p.1 nD
      · rw [upd_same, take_next hy]
    · intro H3 p
      refine q D _ (S2.free nD) ?_ (S2.trans p.1)
      rw [p.2, h.length, List.take_length]
  | ask v g vs e hg hp =>
    subst e hp
    refine ⟨_, rfl, _, _, _, _, rfl, rfl, SqT.of ha, at_of rfl rfl, (by show 3 ≤ sizeLine; decide), fun t2 n2 => ⟨t2, _, rfl, .inl (SqL.of upd_same), rfl, rfl, _, rfl, ifF rfl ?_⟩⟩
    have S2 := same_new n2 (.lst [V.str "call", V.str "make", V.str "handed"])
    generalize upd H t2 (.lst [V.str "call", V.str "make", V.str "handed"]) = H2 at S2
    refine ⟨_, rfl, _, _, _, _, rfl, rfl, SqT.of (S2 _ _ ha), at_of rfl rfl, rfl, _, rfl, ifT (by decide) ?_⟩
    refine ⟨_, rfl, _, _, _, _, rfl, rfl, SqT.of (S2 _ _ ha), at_of rfl rfl, (by show 1 ≤ sizeLine; decide), fun p1 np1 => ?_⟩
    have S3 := S2.trans (same_new np1 (.lst [v]))
    have e3 : (upd H2 p1 (.lst [v])) p1 = some (.lst [v]) := upd_same
    generalize upd H2 p1 (.lst [v]) = H3 at S3 e3
    refine ⟨_, rfl, _, _, _, _, rfl, rfl, SqT.of (S3 _ _ ha), at_of rfl rfl, g, _, rfl, .inr (SqT.of (S3 _ _ hg)), fun p2 np2 => ?_⟩
    refine ⟨p1, p2, _, _, rfl, rfl, (same_new np2 _) _ _ e3, upd_same, ?_, fun r nr => ?_⟩
    · show 1 + vs.length ≤ sizeLine
      rw [List.length_cons] at hl
      exact Nat.le_of_lt (line5 (by omega))
    · have S4 := S3.trans (same_new np2 (.lst vs))
      exact q r _ (S4.free nr) upd_same (S4.trans (same_new nr _))
  | last w L b ys e h1 h2 h3 hb hp =>
    subst e hp
    refine ⟨_, rfl, _, _, _, _, rfl, rfl, SqT.of ha, at_head, (by show 3 ≤ sizeLine; decide), fun t2 n2 => ⟨t2, _, rfl, .inl (SqL.of upd_same), rfl, rfl, _, rfl, ifF h2 ?_⟩⟩
    have S2 := same_new n2 (.lst [V.str "call", V.str "make", V.str "handed"])
    generalize upd H t2 (.lst [V.str "call", V.str "make", V.str "handed"]) = H2 at S2
    refine ⟨_, rfl, _, _, _, _, rfl, rfl, SqT.of (S2 _ _ ha), at_head, rfl, _, rfl, ifF h3 ?_⟩
    obtain ⟨c1, c2⟩ := cut_last (K := V.str w :: L) (v := V.ref b) (by simp)
    refine ⟨_, rfl, _, rfl, _, rfl, _, _, rfl, SqT.of (S2 _ _ ha), fun z => absurd z c1, fun _ p np => ?_⟩
    rw [c2]
    have S3 := S2.trans (same_new np (.tup [V.ref b]))
    have hp3 : (upd H2 p (.tup [V.ref b])) p = some (.tup [V.ref b]) := upd_same
    generalize upd H2 p (.tup [V.ref b]) = H3 at S3 hp3
    refine ⟨p, rfl, ⟨_, SqT.of hp3⟩, fun D nD => lc_tup (xs := [V.ref b]) (Pone H3 D [V.ref b]) ?_ ?_ ?_ ?_⟩
    · exact ⟨same_new nD _, upd_same⟩
    · exact fun i H4 _ p4 => SqT.of (p4.1 _ _ hp3)
    · intro i x H4 hx p4
      have hi : i < 1 := (List.getElem?_eq_some_iff.mp hx).1
      have ei : i = 0 := by omega
      subst ei
      have ex : V.ref b = x := Option.some.inj hx
      subst ex
      refine ⟨rfl, _, rfl, _, _, _, _, _, rfl, .ty "tuple", .base (.tup (p4.1 _ _ (S3 _ _ hb))), kit_ty (r := true) (by decide +kernel), _, rfl, ?_⟩
      refine iteT ⟨_, rfl, _, p4.2, (by show 0 < sizeLine; decide), Same.atNew p4.1 nD, ?_⟩
      rw [upd_same]
      rfl
    · intro H4 p4
      exact q D _ (S3.free nD) p4.2 (S3.trans p4.1)
end
end My
namespace My
open PySem L2
theorem pair_app {α β : Type} {F : α → β → Prop} : ∀ {l₁ r₁ : List α} {l₂ r₂ : List β}, Paired F l₁ l₂ → Paired F r₁ r₂ → Paired F (l₁ ++ r₁) (l₂ ++ r₂)
  | _, _, _, _, .nil, h => h
  | _, _, _, _, .cons r t, h => .cons r (pair_app t h)
theorem pair_snoc {α β : Type} {F : α → β → Prop} {x : α} : ∀ {l : List α} {ns : List β}, Paired F (l ++ [x]) ns → ∃ nl k, ns = nl ++ [k] ∧ Paired F l nl ∧ F x k
  | [], _, .cons r .nil => ⟨[], _, rfl, .nil, r⟩
  | _ :: l, _, .cons r t => by
    obtain ⟨nl, k, e, p, q⟩ := pair_snoc (l := l) t
    exact ⟨_ :: nl, k, by rw [e]; rfl, .cons r p, q⟩
/-- size, the program's and the law's own: of a term at most d deep -/
def spSize (d : Nat) : Sp := fun vs H Q _ => ∃ (v : V) (n : Nat), vs = [v] ∧ IsTm H d v n ∧ n ≤ 100000 ∧ ∀ H', Same H H' → Q (.int n) H'
def Wsize (d : Nat) (v : V) (p : Addr) (n : Nat) (H0 : Hp) (m : Nat) (σ : St) (H : Hp) : Prop :=
  ∃ (ws : List V) (ns : List Nat) (u : Option V) (c : Nat), σ = [some v, some (.int c), some (.ref p), u] ∧ H0 p = none ∧ H p = some (.lst ws) ∧ Paired (IsTm H d) ws ns ∧ Same H0 H ∧ c + ns.sum = n ∧ m = ns.sum
theorem Tups.upd {H : Hp} {p : Addr} {xs : List V} {o : HO} (h : H p = some (.lst xs)) : Tups H (upd H p o) := fun a ys e => by
  rw [upd_ne (ne_of e h (by intro z; cases z))]
  exact e
section
variable {P : Program} {w : World} {K : PySem.W.Frag} {mg : Str → Option Value} {base : Heap} {f : Addr} {fd : FuncData}
theorem ok_size {d : Nat} (F : Fun K "size" "size" s_size f fd) (c_parts_of : Cal P w K mg base "parts_of" 1 ["term"] spParts) : FnOk P w K mg base CX0 2 f fd ["term"] (spSize d) := by
  refine F.ok sc_size (fun vs H Q E h => ?_) (fun cdv A outer s H vs Q E hr h => ?_)
  · obtain ⟨v, n, rfl, _⟩ := h
    rfl
  obtain ⟨v, n, rfl, ht, hl, q⟩ := h
  refine ⟨_, (pss_cons (ps_set (i := 1) sc_size.nd rfl (Or.inl rfl) pe_int)
    (pss_cons (ps_set (i := 2) sc_size.nd rfl (Or.inl rfl) (pe_lst (pa_cons (pv 0) pa_nil)))
    (pss_cons (ps_while PassesOwn.never (truth K rfl (pv 2)) (pss_cons (ps_set (i := 3) sc_size.nd rfl (Or.inl rfl) (pe_bm0 PySem.F.plainAttrs_list PySem.F.slot_list_pop PySem.F.type_list_pop mt_pop (pv 2)))
    (pss_cons (ps_aug (i := 1) sc_size.nd rfl (Or.inl rfl) pe_int ip_add)
    (pss_one (ps_expr (pe_bm PySem.F.plainAttrs_list PySem.F.slot_list_extend PySem.F.type_list_extend mt_extend (pv 2) (pa_cons (pc c_parts_of (hr.mono (by first | decide | omega)) (pa_cons (pv 3) pa_nil)) pa_nil)))))))
    (pss_one (ps_ret (pv 1)))))), ?_⟩
  refine ⟨_, rfl, (by show 1 ≤ sizeLine; decide), fun p np => ?_⟩
  refine ⟨Wsize d v p n H, ⟨n, [v], [n], none, 0, rfl, np, upd_same, .cons (ht.mono (Tups.of_same (same_new np _))) .nil, same_new np _, by simp, by simp⟩, fun m σ H1 w1 => ?_⟩
  obtain ⟨ws, ns, u, c, rfl, h0, hp, hw, hs, hc, rfl⟩ := w1
  refine ⟨_, rfl, _, .inl ⟨ws, SqL.of hp, rfl⟩, ?_⟩
  by_cases hn : ws = []
  · subst hn
    refine iteF ?_
    refine ⟨_, rfl, ?_⟩
    cases hw
    have e : c = n := by simpa using hc
    subst e
    exact q _ hs
  · have e : ws = ws.dropLast ++ [ws.getLast hn] := (List.dropLast_concat_getLast hn).symm
    generalize ws.dropLast = l at e
    generalize ws.getLast hn = x at e
    subst e
    obtain ⟨nl, k, rfl, hl1, hk⟩ := pair_snoc hw
    refine ite2 (fun _ => ?_) (fun c => absurd (by cases l <;> rfl) c)
    refine ⟨fun σ' H' => ∃ m', m' < (nl ++ [k]).sum ∧ Wsize d v p n H m' σ' H', fun _ _ h => h, ?_⟩
    refine ⟨_, rfl, tyL hp, p, _, x, rfl, rfl, hp, by simp, ?_⟩
    rw [List.dropLast_concat]
    have T1 : Tups H1 (upd H1 p (.lst l)) := Tups.upd hp
    have hp2 : (upd H1 p (.lst l)) p = some (.lst l) := upd_same
    have hs2 : Same H (upd H1 p (.lst l)) := Same.atNew hs h0
    generalize upd H1 p (.lst l) = H2 at T1 hp2 hs2
    cases d with
    | zero => exact hk.elim
    | succ d =>
      obtain ⟨a, xs, ps, nn, rfl, ha, hpp, hnn, rfl⟩ := hk
      have hsum : (nl ++ [1 + nn.sum]).sum = nl.sum + 1 + nn.sum := by simp; omega
      rw [hsum] at hc ⊢
      have hpl := len_le_sum hnn
      have hll := len_le_sum hl1
      refine ⟨_, rfl, _, _, rfl, rfl, _, rfl, tyL hp2, _, rfl, a, xs, ps, rfl, T1 _ _ ha, hpp.mono T1, by omega, fun r H3 nr hr s3 => ?_⟩
      refine ⟨p, r, l, ps, rfl, rfl, s3 _ _ hp2, hr, Nat.le_of_lt (line5 (by omega)), nl.sum + nn.sum, by omega, l ++ ps, nl ++ nn, _, c + 1, rfl, h0, upd_same, ?_, Same.atNew (hs2.trans s3) h0, by simp; omega, by simp⟩
      have T2 : Tups H1 (upd H3 p (.lst (l ++ ps))) := T1.trans ((Tups.of_same s3).trans (Tups.upd (s3 _ _ hp2)))
      exact pair_app (Paired.mono (fun _ _ z => z.mono T2) hl1) (Paired.mono (fun _ _ z => (z.mono T2).up) hnn)
def Plsz (H0 : Hp) (D : Addr) (ns : List Nat) (i : Nat) (H : Hp) : Prop := Same H0 H ∧ H D = some (.lst ((ns.take i).map fun n : Nat => V.int (n : Int)))
theorem le_sum {k : Nat} : ∀ {ns : List Nat}, k ∈ ns → k ≤ ns.sum
  | x :: r, h => by
    rw [List.sum_cons]
    rcases List.mem_cons.mp h with rfl | h
    · omega
    · have := le_sum h
      omega
theorem sum_cast (ns : List Nat) : (ns.map fun n : Nat => (n : Int)).sum = (ns.sum : Int) := by
  induction ns with
  | nil => rfl
  | cons x r ih => rw [List.map_cons, List.sum_cons, ih, List.sum_cons]; omega
theorem ok_lsize (B : Bn mg) (F : Fun K "_law_size" "_law_size" s__law_size f fd) (hm : mg "_law_size" = some (.ref f)) (hb : Binds K fd ["prog"] []) (c__law_parts : Cal P w K mg base "_law_parts" 1 ["prog"] spParts) :
    ∀ d : Nat, FnOk P w K mg base CX0 (d + 1) f fd ["prog"] (spSize d)
  | 0 => by
    have no : ∀ vs H Q E, ¬ spSize 0 vs H Q E := fun vs H Q E h => by
      obtain ⟨v, n, _, h, _⟩ := h
      exact h
    exact ⟨fun vs H Q E h => absurd h (no vs H Q E), fun A outer s H args us vs Q E _ _ _ _ h => absurd h (no vs H Q E)⟩
  | d + 1 => by
    have c__law_size : Cal P w K mg base "_law_size" (d + 1) ["prog"] (spSize d) := ⟨f, fd, ok_lsize B F hm hb c__law_parts d, hm, F.kp, hb⟩
    refine F.ok sc__law_size (fun vs H Q E h => ?_) (fun cdv A outer s H vs Q E hr h => ?_)
    · obtain ⟨v, n, rfl, _⟩ := h
      rfl
    obtain ⟨v, n, rfl, ht, hl, q⟩ := h
    obtain ⟨a, xs, ps, ns, rfl, ha, hp, hn, rfl⟩ := ht
    refine ⟨_, (pss_one (ps_ret (pe_op op_add pe_int (pe_callB (sumOf K rfl rfl) (by rfl) B.b_sum (by decide +kernel) (pa_cons (pe_lc (own := [("part", 1)]) (g := (gName 1)) rfl sc__law_size.nd (piL K rfl (pc c__law_parts (hr.mono (by first | decide | omega)) (pa_cons (pv 0) pa_nil))) (blkOk_by (N := ["prog", "part"]) (sc := defScope s__law_size) (by decide +kernel)) (fun _ _ _ _ _ => (pg_name (i := 1) sc__law_size.nd rfl (Or.inl rfl) (hf := Or.inr rfl))) (fun _ _ _ _ _ => pts_nil) (fun _ _ _ _ _ => (pc c__law_size (hr.mono (by first | decide | omega)) (pa_cons (pv 1) pa_nil)))) pa_nil))))), ?_⟩
    have hll := len_le_sum hn
    refine ⟨_, rfl, a, xs, ps, rfl, ha, hp, by omega, fun r H1 nr hr1 s1 => ⟨r, rfl, ⟨_, SqL.of hr1⟩, fun D nD => lc_list (xs := ps) (Plsz H1 D ns) ?_ ?_ ?_ ?_⟩⟩
    · exact ⟨same_new nD _, upd_same⟩
    · exact fun i H2 _ p => SqL.of (p.1 _ _ hr1)
    · intro i x H2 hx p
      obtain ⟨k, hk, tk⟩ := Paired.at hn i x hx
      have hks : k ≤ ns.sum := le_sum (List.mem_of_getElem? hk)
      refine ⟨rfl, _, rfl, x, k, rfl, tk.mono (Tups.of_same (s1.trans p.1)), by omega, fun H3 s3 => ⟨_, s3 _ _ p.2, ?_, Same.atNew (p.1.trans s3) nD, ?_⟩⟩
      · rw [List.length_map]
        have h1 := List.length_take_le' i ns
        have h2 := hn.length
        exact line5 (by omega)
      · rw [upd_same, ← take_next hk, List.map_append]
        rfl
    · intro H2 p
      have e : H2 D = some (.lst ((ns.map fun n : Nat => (n : Int)).map V.int)) := by
        rw [p.2, hn.length, List.take_length, List.map_map]
        rfl
      refine ⟨D, _, rfl, SqL.of e, _, _, rfl, rfl, ?_⟩
      rw [sum_cast]
      have e2 : (1 : Int) + (ns.sum : Int) = ((1 + ns.sum : Nat) : Int) := by omega
      have z := q H2 (s1.trans p.1)
      rw [← e2] at z
      exact z
end
end My
namespace My
open PySem L2
theorem DeckP.tups {H H' : Hp} {d g : Addr} {ns : List Int} {fold k n : Int} (D : DeckP H d g ns fold k n) (b : But d g H H') : Tups H H' := fun a xs e =>
  b a _ (ne_of e D.d (by intro z; cases z)) (ne_of e D.g (by intro z; cases z)) e
theorem Deck.tups {H H' : Hp} {d g : Addr} {n : Int} (D : Deck H d g n) (b : But d g H H') : Tups H H' := by
  obtain ⟨ns, fold, k, D⟩ := D
  exact D.tups b
theorem Deck.ne {H : Hp} {d g p : Addr} {n : Int} (D : Deck H d g n) (h : H p = none) : p ≠ d ∧ p ≠ g := by
  obtain ⟨ns, fold, k, D⟩ := D
  exact ⟨(ne_of_none D.d h).symm, (ne_of_none D.g h).symm⟩
/-- _law_leaf -/
def spLeaf : Sp := fun vs H Q _ => ∃ (d g : Addr) (n : Int), vs = [.ref d] ∧ Deck H d g n ∧ n ≤ 900000 ∧
  ∀ (v : V) (H' : Hp), IsTm H' 1 v 1 → Deck H' d g (n + 3) → But d g H H' → Q v H'
section
variable {P : Program} {w : World} {K : PySem.W.Frag} {mg : Str → Option Value} {base : Heap} {f : Addr} {fd : FuncData}
theorem ok_leaf (F : Fun K "_law_leaf" "_law_leaf" s__law_leaf f fd) (c__law_take : Cal P w K mg base "_law_take" 1 ["deck", "many"] spTake) : FnOk P w K mg base CX0 2 f fd ["deck"] spLeaf := by
  refine F.ok sc__law_leaf (fun vs H Q E h => ?_) (fun cdv A outer s H vs Q E hr h => ?_)
  · obtain ⟨d, g, n, rfl, _⟩ := h
    rfl
  obtain ⟨d, g, n, rfl, D, hn, q⟩ := h
  refine ⟨_, (pss_cons (ps_set (i := 1) sc__law_leaf.nd rfl (Or.inl rfl) (pc c__law_take (hr.mono (by first | decide | omega)) (pa_cons (pv 0) (pa_cons pe_int pa_nil))))
    (pss_cons (ps_if (pt_cmpR op_eq (pv 1) pe_int (nomark _)) (pss_one (ps_ret (pe_tup (pa_cons pe_str (pa_cons (pe_slice sl_str pe_str po_none (po_some (pc c__law_take (hr.mono (by first | decide | omega)) (pa_cons (pv 0) (pa_cons pe_int pa_nil))))) pa_nil))))) pss_nil)
    (pss_cons (ps_if (pt_cmpR op_eq (pv 1) pe_int (nomark _)) (pss_one (ps_ret (pe_tup (pa_cons pe_str (pa_cons pe_str (pa_cons pe_str (pa_cons pe_non pa_nil))))))) pss_nil)
    (pss_cons (ps_if (pt_cmpR op_eq (pv 1) pe_int (nomark _)) (pss_one (ps_ret (pe_tup (pa_cons pe_str (pa_cons pe_str (pa_cons (pe_tup pa_nil) pa_nil)))))) pss_nil)
    (pss_one (ps_ret (pe_tup (pa_cons pe_str (pa_cons (pe_op op_mul (pe_ix (ixL K rfl) (pe_lst (pa_cons pe_int (pa_cons (pe_un un_neg pe_int) pa_nil))) (pc c__law_take (hr.mono (by first | decide | omega)) (pa_cons (pv 0) (pa_cons pe_int pa_nil))) (fun _ _ => rfl)) (pe_op op_pow (pc c__law_take (hr.mono (by first | decide | omega)) (pa_cons (pv 0) (pa_cons (pe_op op_pow pe_int pe_int) pa_nil))) pe_int)) pa_nil))))))))), ?_⟩
  refine ⟨_, rfl, d, g, 4, n, rfl, D, by decide, by decide, by omega, fun r H1 r0 r1 D1 B1 => ?_⟩
  refine ⟨_, rfl, rfl, _, rfl, ite2 (fun c => ?_) (fun _ => ?_)⟩
  · refine ⟨_, rfl, d, g, 13, n + 1, rfl, D1, by decide, by decide, by omega, fun r2 H2 _ _ D2 B2 => ?_⟩
    refine ⟨_, rfl, _, rfl, (by show (12 : Nat) ≤ sizeLine; decide), (by show 2 ≤ sizeLine; decide), fun p np => ?_⟩
    exact q _ _ ⟨p, _, [], [], rfl, upd_same, .text _, .nil, rfl⟩ ((D2.le (by omega)).new np) ((B1.trans B2).new np)
  refine ⟨_, rfl, rfl, _, rfl, ite2 (fun c => ?_) (fun _ => ?_)⟩
  · refine ⟨(by show 4 ≤ sizeLine; decide), fun p np => ?_⟩
    exact q _ _ ⟨p, _, [], [], rfl, upd_same, .bare _ _, .nil, rfl⟩ ((D1.le (by omega)).new np) (B1.new np)
  refine ⟨_, rfl, rfl, _, rfl, ite2 (fun c => ?_) (fun _ => ?_)⟩
  · refine ⟨Nat.zero_le _, fun p1 np1 => ⟨(by show 3 ≤ sizeLine; decide), fun p np => ?_⟩⟩
    have hp1 : (upd (upd H1 p1 (.tup [])) p (.tup [.str "call", .str "d", .ref p1])) p1 = some (.tup []) := (same_new np _) _ _ upd_same
    exact q _ _ ⟨p, _, [], [], rfl, upd_same, .args (w := "call") (mid := [.str "d"]) (.inl rfl) hp1 .nil, .nil, rfl⟩ (((D1.le (by omega)).new np1).new np) ((B1.new np1).new np)
  refine ⟨_, rfl, (by show 2 ≤ sizeLine; decide), fun l nl => ?_⟩
  have D1' := D1.new (o := .lst [V.int 1, V.int (-1)]) nl
  have B1' := B1.new (o := .lst [V.int 1, V.int (-1)]) nl
  have hl : (upd H1 l (.lst [V.int 1, V.int (-1)])) l = some (.lst [V.int 1, V.int (-1)]) := upd_same
  have ne := D1.ne nl
  refine ⟨_, rfl, d, g, 2, n + 1, rfl, D1', by decide, by decide, by omega, fun r2 H2 z0 z1 D2 B2 => ?_⟩
  have hl2 := B2 _ _ ne.1 ne.2 hl
  have key : ∃ i : Int, atI [V.int 1, V.int (-1)] r2 = some (.int i) ∧ -1 ≤ i ∧ i ≤ 1 := by
    have : r2 = 0 ∨ r2 = 1 := by omega
    rcases this with rfl | rfl
    · exact ⟨1, at_of (j := 0) rfl rfl, by decide, by decide⟩
    · exact ⟨-1, at_of (j := 1) rfl rfl, by decide, by decide⟩
  obtain ⟨i, hi, i0, i1⟩ := key
  refine ⟨_, _, _, _, rfl, rfl, SqL.of hl2, hi, ?_⟩
  refine ⟨_, rfl, _, _, rfl, rfl, ⟨by decide, by decide, by decide⟩, d, g, _, n + 1 + 1, rfl, D2, by decide, by decide, by omega, fun r3 H3 u0 u1 D3 B3 => ?_⟩
  have u1' : r3 < 1000000000 := u1
  refine ⟨_, _, rfl, rfl, ⟨by decide, by decide, by omega⟩, _, _, rfl, rfl, .inl ⟨by omega, by omega⟩, (by show 2 ≤ sizeLine; decide), fun p np => ?_⟩
  exact q _ _ ⟨p, _, [], [], rfl, upd_same, .num _, .nil, rfl⟩ ((D3.le (by omega)).new np) (((B1'.trans B2).trans B3).new np)
end
end My
namespace My
open PySem L2
/-- _law_around -/
def spAround : Sp := fun vs H Q _ => ∃ (e : Nat) (d g pl : Addr) (n : Int) (ps : List V) (ns : List Nat), vs = [.ref d, .ref pl] ∧ Deck H d g n ∧ n ≤ 900000 ∧ pl ≠ d ∧ pl ≠ g ∧ H pl = some (.lst ps) ∧ Paired (IsTm H e) ps ns ∧
  1 ≤ ps.length ∧ ps.length ≤ 6 ∧ ∀ (v : V) (H' : Hp) (m : Nat), IsTm H' (e + 1) v m → m ≤ 1 + ns.sum → Deck H' d g (n + 2) → But d g H H' → Q v H'
def Pgiv (H0 : Hp) (D : Addr) (ps : List V) (i : Nat) (H : Hp) : Prop := Same H0 H ∧ ∃ qs, H D = some (.lst qs) ∧ qs.length = i ∧ Paired (ArgAt H) qs (ps.take i)
theorem ArgAt.mono {H H' : Hp} (t : Tups H H') {q p : V} (h : ArgAt H q p) : ArgAt H' q p := by
  obtain ⟨a, nm, e, h⟩ := h
  exact ⟨a, nm, e, t _ _ h⟩
theorem pair_take {α β : Type} {F : α → β → Prop} : ∀ {l₁ : List α} {l₂ : List β} (k : Nat), Paired F l₁ l₂ → Paired F (l₁.take k) (l₂.take k)
  | _, _, 0, _ => .nil
  | _, _, _ + 1, .nil => .nil
  | _, _, k + 1, .cons r t => .cons r (pair_take k t)
theorem take_sum_le : ∀ (ns : List Nat) (k : Nat), (ns.take k).sum ≤ ns.sum
  | [], k => by simp
  | x :: r, 0 => by simp
  | x :: r, k + 1 => by
    have := take_sum_le r k
    rw [List.take_succ_cons, List.sum_cons, List.sum_cons]
    omega
abbrev aroundWords : List V := [.str "call", .str "make", .str "get", .str "case", .str "as", .str "look", .str "one", .str "answer", .str "ask", .str "handed"]
theorem word_at {r : Int} (h0 : 0 ≤ r) (h1 : r < 10) : ∃ w : Str, atI aroundWords r = some (.str w) ∧ V.str w ∈ aroundWords := by
  have e : r = ((r.toNat : Nat) : Int) := by omega
  have hl : r.toNat < aroundWords.length := by
    show r.toNat < 10
    omega
  have hm := List.getElem_mem hl
  have hi : aroundWords[r.toNat]? = some aroundWords[r.toNat] := List.getElem?_eq_getElem hl
  have hs : ∃ w : Str, aroundWords[r.toNat] = V.str w := by
    generalize aroundWords[r.toNat] = x at hm
    simp only [aroundWords, List.mem_cons, List.mem_nil_iff, or_false] at hm
    rcases hm with rfl | rfl | rfl | rfl | rfl | rfl | rfl | rfl | rfl | rfl <;> exact ⟨_, rfl⟩
  obtain ⟨w, hw⟩ := hs
  refine ⟨w, ?_, ?_⟩
  · rw [e]
    exact (atI_nat hi).trans (by rw [hw])
  · rw [← hw]
    exact hm
theorem cut14 {x : V} {r : List V} : cutV (x :: r) (some 1) (some 4) = r.take 3 := by
  unfold cutV
  have e1 : HT.sIx (x :: r).length 0 (some 1) = 1 := by
    show HT.sIx (x :: r).length 0 (some ((1 : Nat) : Int)) = 1
    rw [HT.sIx_nat, List.length_cons]
    omega
  have e2 : HT.sIx (x :: r).length (x :: r).length (some 4) = min 4 (r.length + 1) := by
    show HT.sIx (x :: r).length (x :: r).length (some ((4 : Nat) : Int)) = _
    rw [HT.sIx_nat, List.length_cons]
  rw [e1, e2]
  show r.take (min 4 (r.length + 1) - 1) = r.take 3
  rcases Nat.lt_or_ge r.length 3 with h | h
  · rw [List.take_of_length_le (by omega), List.take_of_length_le (by omega)]
  · congr 1
    omega
section
variable {P : Program} {w : World} {K : PySem.W.Frag} {mg : Str → Option Value} {base : Heap} {f : Addr} {fd : FuncData}
theorem ok_around (B : Bn mg) (F : Fun K "_law_around" "_law_around" s__law_around f fd) (c__law_take : Cal P w K mg base "_law_take" 1 ["deck", "many"] spTake) : FnOk P w K mg base CX0 2 f fd ["deck", "parts"] spAround := by
  refine F.ok sc__law_around (fun vs H Q E h => ?_) (fun cdv A outer s H vs Q E hr h => ?_)
  · obtain ⟨e, d, g, pl, n, ps, ns, rfl, _⟩ := h
    rfl
  obtain ⟨e, d, g, pl, n, ps, ns, rfl, D, hn, nd, ng, hpl, hpn, p1, p6, q⟩ := h
  refine ⟨_, (pss_cons (ps_set (i := 2) sc__law_around.nd rfl (Or.inl rfl) (pe_ix (ixL K rfl) (pe_lst (pa_cons pe_str (pa_cons pe_str (pa_cons pe_str (pa_cons pe_str (pa_cons pe_str (pa_cons pe_str (pa_cons pe_str (pa_cons pe_str (pa_cons pe_str (pa_cons pe_str pa_nil))))))))))) (pc c__law_take (hr.mono (by first | decide | omega)) (pa_cons (pv 0) (pa_cons pe_int pa_nil))) (fun _ _ => rfl)))
    (pss_cons (ps_set (i := 3) sc__law_around.nd rfl (Or.inl rfl) (pe_callTy (tupleOf K rfl) (by rfl) B.b_tuple (by decide +kernel) (pa_cons (pe_lc (own := [("k", 4)]) (g := (gName 4)) rfl sc__law_around.nd (pi_range1 rfl B.b_range (pa_cons (pe_callB (call_min2 rfl) (by rfl) B.b_min (by decide +kernel) (pa_cons pe_int (pa_cons (pe_callB (lenSeq K rfl) (by rfl) B.b_len PySem.boot_len (pa_cons (pv 1) pa_nil)) pa_nil))) pa_nil)) (blkOk_by (N := ["deck", "parts", "word", "given", "k"]) (sc := defScope s__law_around) (by decide +kernel)) (fun _ _ _ _ _ => (pg_name (i := 4) sc__law_around.nd rfl (Or.inl rfl) (hf := Or.inr rfl))) (fun _ _ _ _ _ => pts_nil) (fun _ _ _ _ _ => (pe_tup (pa_cons (pe_ix ix_str pe_str (pv 4) (fun _ _ => rfl)) (pa_cons (pe_ix (ixL K rfl) (pv 1) (pv 4) (fun _ _ => rfl)) pa_nil))))) pa_nil)))
    (pss_cons (ps_if (PW.pt (pw_or (pt_cmpR op_eq (pv 2) pe_str (nomark _)) (pw_or1 (pt_cmpR op_eq (pv 2) pe_str (nomark _))))) (pss_one (ps_ret (pe_tup (pa_cons (pv 2) (pa_cons pe_str (pa_cons (pv 3) pa_nil)))))) pss_nil)
    (pss_cons (ps_if (pt_cmpR op_eq (pv 2) pe_str (nomark _)) (pss_one (ps_ret (pe_tup (pa_cons (pv 2) (pa_cons pe_str (pa_cons pe_str (pa_cons (pe_op op_sub (pc c__law_take (hr.mono (by first | decide | omega)) (pa_cons (pv 0) (pa_cons pe_int pa_nil))) pe_int) (pa_cons (pv 3) pa_nil)))))))) pss_nil)
    (pss_cons (ps_if (pt_cmpR op_eq (pv 2) pe_str (nomark _)) (pss_one (ps_ret (pe_tup (pa_cons (pv 2) (pa_cons (pe_ix (ixL K rfl) (pv 1) pe_int (fun _ _ => rfl)) (pa_cons (pe_callTy (tupleOf K rfl) (by rfl) B.b_tuple (by decide +kernel) (pa_cons (pe_slice (slL K rfl) (pv 1) (po_some pe_int) (po_some pe_int)) pa_nil)) pa_nil)))))) pss_nil)
    (pss_cons (ps_if (pt_cmpR op_eq (pv 2) pe_str (nomark _)) (pss_one (ps_ret (pe_tup (pa_cons (pv 2) (pa_cons (pe_ix (ixL K rfl) (pv 1) pe_int (fun _ _ => rfl)) pa_nil))))) pss_nil)
    (pss_cons (ps_if (pt_cmpR op_eq (pv 2) pe_str (nomark _)) (pss_one (ps_ret (pe_tup (pa_cons (pv 2) (pa_cons pe_str (pa_cons pe_str (pa_cons (pe_ix (ixL K rfl) (pv 1) pe_int (fun _ _ => rfl)) pa_nil))))))) pss_nil)
    (pss_cons (ps_if (pt_cmpR op_eq (pv 2) pe_str (nomark _)) (pss_one (ps_ret (pe_tup (pa_cons (pv 2) (pa_cons (pc c__law_take (hr.mono (by first | decide | omega)) (pa_cons (pv 0) (pa_cons pe_int pa_nil))) (pa_cons (pe_ix (ixL K rfl) (pv 1) pe_int (fun _ _ => rfl)) pa_nil)))))) pss_nil)
    (pss_one (ps_ret (pe_tup (pa_cons (pv 2) (pa_cons (pe_ix (ixL K rfl) (pe_lst (pa_cons (pe_tup (pa_cons pe_str (pa_cons pe_str pa_nil))) (pa_cons pe_str pa_nil))) (pe_callTy call_int1 (by rfl) B.b_int (by decide +kernel) (pa_cons (pe_cmpR op_ne (pv 2) pe_str (nomark _)) pa_nil)) (fun _ _ => rfl)) (pa_cons (pe_ix (ixL K rfl) (pv 1) pe_int (fun _ _ => rfl)) pa_nil)))))))))))))), ?_⟩
  refine ⟨(by show 10 ≤ sizeLine; decide), fun l nl => ?_⟩
  have D0 := D.new (o := .lst aroundWords) nl
  have B0 := (But.refl d g H).new (o := .lst aroundWords) nl
  have hl : (upd H l (.lst aroundWords)) l = some (.lst aroundWords) := upd_same
  have ne := D.ne nl
  refine ⟨_, rfl, d, g, 10, n, rfl, D0, by decide, by decide, by omega, fun r H1 r0 r1 D1 B1 => ?_⟩
  obtain ⟨wd, hw, hwm⟩ := word_at r0 r1
  refine ⟨_, _, _, _, rfl, rfl, SqL.of (B1 _ _ ne.1 ne.2 hl), hw, ?_⟩
  have B01 := B0.trans B1
  have hpl1 := B01 _ _ nd ng hpl
  have T1 := D.tups B01
  generalize upd H l (.lst aroundWords) = Hx at B1 hl
  refine ⟨_, rfl, pl, _, rfl, .inl (SqL.of hpl1), _, _, rfl, ?_⟩
  have e6 : (if (ps.length : Int) < 6 then (ps.length : Int) else 6) = (ps.length : Int) := by split <;> omega
  rw [e6]
  refine ⟨_, rfl, by omega, by omega, fun D8 hD => ?_⟩
  rw [Int.toNat_natCast]
  refine lc_range (lo := 0) (n := ps.length) (Pgiv H1 D8 ps) ?_ ?_ ?_
  · exact ⟨same_new hD _, [], upd_same, rfl, .nil⟩
  · rintro i H2 hi ⟨s2, qs, hq, lq, pq⟩
    have hx : ps[i]? = some ps[i] := List.getElem?_eq_getElem hi
    have hc : ∃ c, atI ("abcdef" : Str).cps.toList ((0 : Int) + (i : Int)) = some c := by
      rw [Int.zero_add]
      have hl6 : i < ("abcdef" : Str).cps.toList.length := by
        show i < 6
        omega
      exact ⟨_, atI_nat (List.getElem?_eq_getElem hl6)⟩
    obtain ⟨c, hc⟩ := hc
    refine ⟨rfl, _, rfl, _, _, c, rfl, rfl, (by show (6 : Nat) ≤ sizeLine; decide), hc, ?_⟩
    refine ⟨_, rfl, _, rfl, _, _, _, ps[i], rfl, rfl, SqL.of (s2 _ _ hpl1), (by rw [Int.zero_add]; exact atI_nat hx), (by show 2 ≤ sizeLine; decide), fun p np => ?_⟩
    have s3 := same_new np (.tup [.str ⟨#[c]⟩, ps[i]])
    refine ⟨qs, s3 _ _ hq, line5 (by omega), Same.atNew (s2.trans s3) hD, qs ++ [.ref p], upd_same, by rw [List.length_append, lq]; rfl, ?_⟩
    rw [← take_next hx]
    have T3 : Tups H2 (upd (upd H2 p (.tup [.str ⟨#[c]⟩, ps[i]])) D8 (.lst (qs ++ [.ref p]))) := (Tups.of_same s3).trans (Tups.upd (s3 _ _ hq))
    refine pair_app (Paired.mono (fun _ _ z => z.mono T3) pq) (.cons ⟨p, _, rfl, Tups.upd (s3 _ _ hq) _ _ upd_same⟩ .nil)
  rintro H2 ⟨s2, qs, hq, lq, pq⟩
  rw [List.take_length] at pq
  refine ⟨D8, _, rfl, .inl ⟨SqL.of hq, fun t nt => ?_⟩⟩
  have s3 := s2.trans (same_new nt (.tup qs))
  have pq3 : Paired (ArgAt (upd H2 t (.tup qs))) qs ps := Paired.mono (fun _ _ z => z.mono (Tups.of_same (same_new nt (.tup qs)))) pq
  have ht : (upd H2 t (.tup qs)) t = some (.tup qs) := upd_same
  generalize upd H2 t (.tup qs) = H3 at s3 pq3 ht
  have B3 : But d g H H3 := B01.trans (But.of_same s3)
  have D3 := D1.same s3
  have hpl3 := s3 _ _ hpl1
  have hpn3 : Paired (IsTm H3 e) ps ns := Paired.mono (fun _ _ z => z.mono (D.tups B3)) hpn
  clear hq pq hD s2 hpl1 T1 B1 B0 hl nl hpl hpn
  obtain ⟨x, rest, rfl⟩ : ∃ x rest, ps = x :: rest := by
    cases ps with
    | nil => simp at p1
    | cons x rest => exact ⟨x, rest, rfl⟩
  obtain ⟨k, nr, rfl, hx, hrest⟩ : ∃ k nr, ns = k :: nr ∧ IsTm H3 e x k ∧ Paired (IsTm H3 e) rest nr := by
    cases hpn3 with
    | cons a b => exact ⟨_, _, rfl, a, b⟩
  obtain ⟨b, ys, rfl, hb⟩ : ∃ b ys, x = .ref b ∧ H3 b = some (.tup ys) := by
    cases e with
    | zero => exact hx.elim
    | succ e =>
      obtain ⟨a, xs, _, _, rfl, ha, _⟩ := hx
      exact ⟨a, xs, rfl, ha⟩
  rw [List.sum_cons] at q
  -- the words that hold the first part alone
  have one : ∀ (mid : List V) (H4 : Hp) (p : Addr), Tups H3 H4 → Deck H4 d g (n + 2) → But d g H H4 → H4 p = none → (wd = "get" ∨ wd = "case" ∨ wd = "as" ∨ wd = "look" ∨ wd = "one" ∨ wd = "answer") →
      Q (.ref p) (upd H4 p (.tup ((.str wd :: mid) ++ [.ref b]))) := fun mid H4 p s4 D4 B4 np hwd =>
    q _ _ (1 + k) ⟨p, _, [.ref b], [k], rfl, upd_same, .last hwd ((s4.trans (Tups.of_same (same_new np _))) _ _ hb), .cons (hx.mono (s4.trans (Tups.of_same (same_new np _)))) .nil, by simp⟩ (by omega) (D4.new np) (B4.new np)
  have at0 : atI (V.ref b :: rest) 0 = some (.ref b) := at_of rfl rfl
  -- call, make
  have calls : ∀ (w' : Str) (mid : List V) (H4 : Hp) (p : Addr), Tups H3 H4 → Deck H4 d g (n + 2) → But d g H H4 → H4 p = none → (w' = "call" ∨ w' = "make" ∨ w' = "handed") →
      Q (.ref p) (upd H4 p (.tup ((.str w' :: mid) ++ [.ref t]))) := fun w' mid H4 p s4 D4 B4 np hwd => by
    have T := s4.trans (Tups.of_same (same_new np (.tup ((.str w' :: mid) ++ [.ref t]))))
    exact q _ _ (1 + (k + nr.sum)) ⟨p, _, .ref b :: rest, k :: nr, rfl, upd_same, .args hwd (T _ _ ht) (Paired.mono (fun _ _ z => z.mono T) pq3),
      .cons (hx.mono T) (Paired.mono (fun _ _ z => z.mono T) hrest), by rw [List.sum_cons]⟩ (Nat.le_refl _) (D4.new np) (B4.new np)
  have D3' : Deck H3 d g (n + 2) := D3.le (by omega)
  refine ⟨_, rfl, rfl, _, rfl, ite2 (fun c => ?_) (fun c1 => ?_)⟩
  · have c' := of_decide_eq_true c
    injection c' with c'
    subst c'
    refine ⟨_, rfl, _, rfl, (by show 3 ≤ sizeLine; decide), fun p np => ?_⟩
    exact calls _ [.str "d"] H3 p (Tups.refl _) D3' B3 np (.inl rfl)
  refine ⟨_, rfl, rfl, _, rfl, ite2 (fun c => ?_) (fun c2 => ?_)⟩
  · have c' := of_decide_eq_true c
    injection c' with c'
    subst c'
    refine ⟨_, rfl, _, rfl, (by show 3 ≤ sizeLine; decide), fun p np => ?_⟩
    exact calls _ [.str "d"] H3 p (Tups.refl _) D3' B3 np (.inr (.inl rfl))
  refine ⟨_, rfl, rfl, _, rfl, ite2 (fun c => ?_) (fun c3 => ?_)⟩
  · have c' := of_decide_eq_true c
    injection c' with c'
    subst c'
    refine ⟨_, rfl, _, rfl, d, g, 5, n + 1, rfl, D3, by decide, by decide, by omega, fun r2 H4 _ _ D4 B4 => ?_⟩
    refine ⟨_, _, rfl, rfl, _, rfl, (by show 5 ≤ sizeLine; decide), fun p np => ?_⟩
    exact calls _ [.str "d", .str "p", .int (r2 - 1)] H4 p (D3.tups B4) (D4.le (by omega)) (B3.trans B4) np (.inr (.inr rfl))
  refine ⟨_, rfl, rfl, _, rfl, ite2 (fun c => ?_) (fun c4 => ?_)⟩
  · have c' := of_decide_eq_true c
    injection c' with c'
    subst c'
    refine ⟨_, rfl, _, rfl, _, _, _, _, rfl, rfl, SqL.of hpl3, at0, _, rfl, _, rfl, _, rfl, _, _, rfl, SqL.of hpl3, fun z nz => ?_⟩
    rw [cut14]
    have s4 := same_new nz (.lst (rest.take 3))
    refine ⟨z, _, rfl, .inl ⟨SqL.of upd_same, fun u nu => ?_⟩⟩
    have s5 := s4.trans (same_new nu (.tup (rest.take 3)))
    have hu : (upd (upd H3 z (.lst (rest.take 3))) u (.tup (rest.take 3))) u = some (.tup (rest.take 3)) := upd_same
    generalize upd (upd H3 z (.lst (rest.take 3))) u (.tup (rest.take 3)) = H5 at s5 hu
    refine ⟨(by show 3 ≤ sizeLine; decide), fun p np => ?_⟩
    have s6 := s5.trans (same_new np (.tup [.str "ask", .ref b, .ref u]))
    have hs := take_sum_le nr 3
    exact q _ _ (1 + (k + (nr.take 3).sum)) ⟨p, _, .ref b :: rest.take 3, k :: nr.take 3, rfl, upd_same, .ask ((same_new np _) _ _ hu),
      .cons (hx.mono (Tups.of_same s6)) (Paired.mono (fun _ _ y => y.mono (Tups.of_same s6)) (pair_take 3 hrest)), by rw [List.sum_cons]⟩ (by omega) ((D3'.same s5).new np) ((B3.trans (But.of_same s5)).new np)
  refine ⟨_, rfl, rfl, _, rfl, ite2 (fun c => ?_) (fun c5 => ?_)⟩
  · have c' := of_decide_eq_true c
    injection c' with c'
    subst c'
    refine ⟨_, rfl, _, rfl, _, _, _, _, rfl, rfl, SqL.of hpl3, at0, (by show 2 ≤ sizeLine; decide), fun p np => ?_⟩
    exact one [] H3 p (Tups.refl _) D3' B3 np (by decide)
  refine ⟨_, rfl, rfl, _, rfl, ite2 (fun c => ?_) (fun c6 => ?_)⟩
  · have c' := of_decide_eq_true c
    injection c' with c'
    subst c'
    refine ⟨_, rfl, _, rfl, _, _, _, _, rfl, rfl, SqL.of hpl3, at0, (by show 4 ≤ sizeLine; decide), fun p np => ?_⟩
    exact one [.str "k", .str "c"] H3 p (Tups.refl _) D3' B3 np (by decide)
  refine ⟨_, rfl, rfl, _, rfl, ite2 (fun c => ?_) (fun c7 => ?_)⟩
  · have c' := of_decide_eq_true c
    injection c' with c'
    subst c'
    refine ⟨_, rfl, _, rfl, d, g, 4, n + 1, rfl, D3, by decide, by decide, by omega, fun r2 H4 _ _ D4 B4 => ?_⟩
    refine ⟨_, rfl, _, _, _, _, rfl, rfl, SqL.of (B4 _ _ nd ng hpl3), at0, (by show 3 ≤ sizeLine; decide), fun p np => ?_⟩
    exact one [.int r2] H4 p (D3.tups B4) (D4.le (by omega)) (B3.trans B4) np (by decide)
  have hwd : wd = "get" ∨ wd = "case" ∨ wd = "as" ∨ wd = "look" ∨ wd = "one" ∨ wd = "answer" := by
    simp only [aroundWords, List.mem_cons, List.mem_nil_iff, or_false, V.str.injEq] at hwm
    simp only [decide_eq_true_eq, V.str.injEq] at c1 c2 c3 c4 c5 c6 c7
    rcases hwm with h | h | h | h | h | h | h | h | h | h
    · exact absurd h c1
    · exact absurd h c2
    · exact .inl h
    · exact absurd h c6
    · exact .inr (.inr (.inl h))
    · exact .inr (.inr (.inr (.inl h)))
    · exact absurd h c5
    · exact absurd h c7
    · exact absurd h c4
    · exact absurd h c3
  refine ⟨_, rfl, (by show 2 ≤ sizeLine; decide), fun t8 nt8 => ⟨(by show 2 ≤ sizeLine; decide), fun l8 nl8 => ?_⟩⟩
  have s4 := (same_new nt8 (.tup [.str "a", .str "b"])).trans (same_new nl8 (.lst [.ref t8, .str "f"]))
  have hl8 : (upd (upd H3 t8 (.tup [.str "a", .str "b"])) l8 (.lst [.ref t8, .str "f"])) l8 = some (.lst [.ref t8, .str "f"]) := upd_same
  generalize upd (upd H3 t8 (.tup [.str "a", .str "b"])) l8 (.lst [.ref t8, .str "f"]) = H4 at s4 hl8
  refine ⟨_, rfl, rfl, .inr ⟨_, rfl, ?_⟩⟩
  have pick : ∀ kk : Bool, ∃ v, atI [V.ref t8, V.str "f"] (if kk then 1 else 0) = some v := fun kk => by
    cases kk with
    | true => exact ⟨_, at_of (j := 1) rfl rfl⟩
    | false => exact ⟨_, at_of (j := 0) rfl rfl⟩
  obtain ⟨v8, hv8⟩ := pick (!decide (V.str wd = V.str "look"))
  refine ⟨_, _, _, v8, rfl, rfl, SqL.of hl8, hv8, ?_⟩
  refine ⟨_, rfl, _, _, _, _, rfl, rfl, SqL.of (s4 _ _ hpl3), at0, (by show 3 ≤ sizeLine; decide), fun p np => ?_⟩
  exact one [v8] H4 p (Tups.of_same s4) (D3'.same s4) (B3.trans (But.of_same s4)) np hwd
end
end My
namespace My
open PySem L2
/-- a term's greatest size by its room -/
def roomS (room : Int) : Int := if room < 1 then 1 else 7 * room
theorem roomS_pos (room : Int) : 1 ≤ roomS room := by
  unfold roomS
  split <;> omega
theorem room_step {room many : Int} (h : 2 ≤ room) (m0 : 1 ≤ many) (m1 : many ≤ 6) : many * roomS ((room - 1) / many) ≤ 7 * (room - 1) := by
  unfold roomS
  split
  · omega
  · have e : many * ((room - 1) / many) ≤ room - 1 := Int.mul_ediv_self_le (by omega)
    have e2 : many * (7 * ((room - 1) / many)) = 7 * (many * ((room - 1) / many)) := by rw [← Int.mul_assoc, Int.mul_comm many 7, Int.mul_assoc]
    rw [e2]
    omega
/-- _law_drawn: a term at most e deep -/
def spDrawn (e : Nat) : Sp := fun vs H Q _ => ∃ (d g : Addr) (deep room n : Int), vs = [.ref d, .int deep, .int room] ∧ deep = (e : Int) ∧ 1 ≤ e ∧ 0 ≤ room ∧ room ≤ 200 ∧ Deck H d g n ∧ n + 8 * roomS room ≤ 800000 ∧
  ∀ (v : V) (H' : Hp) (m : Nat), IsTm H' e v m → (m : Int) ≤ roomS room → Deck H' d g (n + 8 * roomS room) → But d g H H' → Q v H'
def Pdr (d g D8 : Addr) (H0 : Hp) (e : Nat) (n s : Int) (i : Nat) (H : Hp) : Prop :=
  But d g H0 H ∧ ∃ vs ns, H D8 = some (.lst vs) ∧ vs.length = i ∧ Paired (IsTm H e) vs ns ∧ (ns.sum : Int) ≤ (i : Int) * s ∧ Deck H d g (n + 8 * ((i : Int) * s))
theorem But.atNew {d g p : Addr} {H0 H : Hp} {o : HO} (b : But d g H0 H) (h : H0 p = none) : But d g H0 (upd H p o) := fun a u h1 h2 e => by
  rw [upd_ne (ne_of_none e h)]
  exact b a u h1 h2 e
theorem Deck.at {H : Hp} {d g p : Addr} {n : Int} {o : HO} (D : Deck H d g n) (h1 : p ≠ d) (h2 : p ≠ g) : Deck (upd H p o) d g n := by
  obtain ⟨ns, fold, k, D⟩ := D
  exact ⟨ns, fold, k, by rw [upd_ne h1.symm]; exact D.d, by rw [upd_ne h2.symm]; exact D.g, D.pos, D.f0, D.f1, D.k0, D.k1⟩
section
variable {P : Program} {w : World} {K : PySem.W.Frag} {mg : Str → Option Value} {base : Heap} {f : Addr} {fd : FuncData}
theorem ok_drawn (B : Bn mg) (F : Fun K "_law_drawn" "_law_drawn" s__law_drawn f fd) (hm : mg "_law_drawn" = some (.ref f)) (hb : Binds K fd ["deck", "deep", "room"] [])
    (c__law_take : Cal P w K mg base "_law_take" 1 ["deck", "many"] spTake) (c__law_leaf : Cal P w K mg base "_law_leaf" 2 ["deck"] spLeaf) (c__law_around : Cal P w K mg base "_law_around" 2 ["deck", "parts"] spAround) :
    ∀ e : Nat, FnOk P w K mg base CX0 (e + 2) f fd ["deck", "deep", "room"] (spDrawn e)
  | 0 => by
    have no : ∀ vs H Q E, ¬ spDrawn 0 vs H Q E := fun vs H Q E h => by
      obtain ⟨d, g, deep, room, n, _, _, h, _⟩ := h
      omega
    exact ⟨fun vs H Q E h => absurd h (no vs H Q E), fun A outer s H args us vs Q E _ _ _ _ h => absurd h (no vs H Q E)⟩
  | e + 1 => by
    have c__law_drawn : Cal P w K mg base "_law_drawn" (e + 2) ["deck", "deep", "room"] (spDrawn e) := ⟨f, fd, ok_drawn B F hm hb c__law_take c__law_leaf c__law_around e, hm, F.kp, hb⟩
    refine F.ok sc__law_drawn (fun vs H Q E h => ?_) (fun cdv A outer s H vs Q E hr h => ?_)
    · obtain ⟨d, g, deep, room, n, rfl, _⟩ := h
      rfl
    obtain ⟨d, g, deep, room, n, rfl, he, _, h0, h200, D, hn, q⟩ := h
    have hS := roomS_pos room
    refine ⟨_, (pss_cons (ps_if (PW.pt (pw_or (pt_cmpR op_eq (pv 1) pe_int (nomark _)) (pw_or (pt_cmpR op_lt (pv 2) pe_int (nomark _)) (pw_or1 (pt_cmpR op_eq (pc c__law_take (hr.mono (by first | decide | omega)) (pa_cons (pv 0) (pa_cons pe_int pa_nil))) pe_int (nomark _)))))) (pss_one (ps_ret (pc c__law_leaf (hr.mono (by first | decide | omega)) (pa_cons (pv 0) pa_nil)))) pss_nil)
    (pss_cons (ps_set (i := 3) sc__law_drawn.nd rfl (Or.inr rfl) (pe_op op_add pe_int (pc c__law_take (hr.mono (by first | decide | omega)) (pa_cons (pv 0) (pa_cons pe_int pa_nil)))))
    (pss_one (ps_ret (pc c__law_around (hr.mono (by first | decide | omega)) (pa_cons (pv 0) (pa_cons (pe_lc (own := [("k", 4)]) (g := (gName 4)) rfl sc__law_drawn.nd (pi_range1 rfl B.b_range (pa_cons (pv 3) pa_nil)) (blkOk_by (N := ["deck", "deep", "room", "many", "k"]) (sc := defScope s__law_drawn) (by decide +kernel)) (fun _ _ _ _ _ => (pg_name (i := 4) sc__law_drawn.nd rfl (Or.inl rfl) (hf := Or.inr rfl))) (fun _ _ _ _ _ => pts_nil) (fun _ _ _ _ _ => (pc c__law_drawn (hr.mono (by first | decide | omega)) (pa_cons (pv 0) (pa_cons (pe_op op_sub (pv 1) pe_int) (pa_cons (pe_op op_fdiv (pe_op op_sub (pv 2) pe_int) (pv 3)) pa_nil)))))) pa_nil))))))), ?_⟩
    refine ⟨_, rfl, rfl, _, rfl, ite2 (fun c => ?_) (fun c1 => ?_)⟩
    · refine ⟨_, rfl, d, g, n, rfl, D, by omega, fun v H1 tm D1 B1 => ?_⟩
      exact q _ _ 1 (tm.le (by omega)) (by omega) (D1.le (by omega)) B1
    refine ⟨_, rfl, _, _, rfl, rfl, _, rfl, ite2 (fun c => ?_) (fun c2 => ?_)⟩
    · refine ⟨_, rfl, d, g, n, rfl, D, by omega, fun v H1 tm D1 B1 => ?_⟩
      exact q _ _ 1 (tm.le (by omega)) (by omega) (D1.le (by omega)) B1
    refine ⟨_, rfl, d, g, 4, n, rfl, D, by decide, by decide, by omega, fun r H1 _ _ D1 B1 => ?_⟩
    refine ⟨rfl, _, rfl, ite2 (fun c => ?_) (fun c3 => ?_)⟩
    · refine ⟨_, rfl, d, g, n + 1, rfl, D1, by omega, fun v H2 tm D2 B2 => ?_⟩
      exact q _ _ 1 (tm.le (by omega)) (by omega) (D2.le (by omega)) (B1.trans B2)
    have hroom : 2 ≤ room := by
      have : ¬ room < 2 := fun z => c2 (decide_eq_true z)
      omega
    refine ⟨_, rfl, d, g, 6, n + 1, rfl, D1, by decide, by decide, by omega, fun r2 H2 z0 z1 D2 B2 => ?_⟩
    refine ⟨_, _, rfl, rfl, ?_⟩
    have m0 : 1 ≤ 1 + r2 := by omega
    have m1 : 1 + r2 ≤ 6 := by omega
    have step := room_step hroom m0 m1
    have hS2 := roomS_pos ((room - 1) / (1 + r2))
    have r0 : 0 ≤ (room - 1) / (1 + r2) := Int.ediv_nonneg (by omega) (by omega)
    have r1 : (room - 1) / (1 + r2) ≤ 200 := by
      have := Int.ediv_le_self (b := 1 + r2) (a := room - 1) (by omega)
      omega
    have big : roomS room = 7 * room := by
      unfold roomS
      rw [if_neg (by omega)]
    generalize hrr : (room - 1) / (1 + r2) = rr at step r0 r1 hS2
    generalize hss : roomS rr = ss at step hS2
    have B12 := B1.trans B2
    refine ⟨_, rfl, _, rfl, _, rfl, by omega, by omega, fun D8 hD => ?_⟩
    have ne := D2.ne hD
    refine lc_range (lo := 0) (n := (1 + r2).toNat) (Pdr d g D8 H2 e (n + 1 + 1) ss) ?_ ?_ ?_
    · exact ⟨(But.refl d g H2).new hD, [], [], upd_same, rfl, .nil, by simp, (D2.le (by simp)).new hD⟩
    · rintro i H3 hi ⟨b3, vs, ns, hv, lv, pv3, sv, D3⟩
      have hi2 : (i : Int) + 1 ≤ 1 + r2 := by omega
      have hle : ((i : Int) + 1) * ss ≤ (1 + r2) * ss := Int.mul_le_mul_of_nonneg_right hi2 (by omega)
      have e1 : (((i + 1 : Nat) : Int)) * ss = (i : Int) * ss + ss := by
        rw [Int.natCast_succ, Int.add_mul, Int.one_mul]
      rw [Int.add_mul, Int.one_mul] at hle
      have he1 : 1 ≤ e := by
        have : ¬ deep = 1 := fun z => c1 (decide_eq_true (by rw [z]))
        omega
      refine ⟨rfl, _, rfl, _, rfl, _, _, rfl, rfl, _, rfl, _, _, rfl, rfl, _, rfl, _, _, rfl, rfl, ⟨by omega, by omega⟩, d, g, _, _, _, rfl, by omega, he1, by rw [hrr]; exact r0, by rw [hrr]; exact r1, D3, by rw [hrr, hss]; omega, fun v H4 m tm hm4 D4 B4 => ?_⟩
      rw [hrr, hss] at hm4 D4
      refine ⟨vs, B4 _ _ ne.1 ne.2 hv, line5 (by omega), But.atNew (b3.trans B4) hD, vs ++ [v], ns ++ [m], upd_same, by rw [List.length_append, lv]; rfl, ?_, ?_, ?_⟩
      · have T : Tups H3 (upd H4 D8 (.lst (vs ++ [v]))) := (D3.tups B4).trans (Tups.upd (B4 _ _ ne.1 ne.2 hv))
        exact pair_app (Paired.mono (fun _ _ z => z.mono T) pv3) (.cons (tm.mono (Tups.upd (B4 _ _ ne.1 ne.2 hv))) .nil)
      · rw [e1, List.sum_append]
        have : ([m] : List Nat).sum = m := by simp
        rw [this]
        omega
      · rw [e1]
        exact (D4.le (by omega)).at ne.1 ne.2
    rintro H3 ⟨b3, vs, ns, hv, lv, pv3, sv, D3⟩
    have em : (((1 + r2).toNat : Nat) : Int) = 1 + r2 := by omega
    rw [em] at sv D3
    refine ⟨e, d, g, D8, _, vs, ns, rfl, D3, by omega, ne.1, ne.2, hv, pv3, by omega, by omega, fun v H4 m tm hm4 D4 B4 => ?_⟩
    refine q v H4 m tm (by omega) (D4.le (by omega)) (B12.trans (b3.trans B4))
end
end My
namespace My
open PySem L2
/-- _law_line -/
def spLine : Sp := fun vs H Q _ => ∃ (d g : Addr) (n : Int), vs = [.ref d] ∧ Deck H d g n ∧ n ≤ 800000 ∧
  ∀ (v : V) (H' : Hp) (m : Nat), IsTm H' 30 v m → m ≤ 30 → Deck H' d g (n + 100) → But d g H H' → Q v H'
def Plin (d g : Addr) (n : Int) (H0 : Hp) (i : Nat) (σ : St) (H : Hp) : Prop :=
  ∃ v m u, σ = [some (.ref d), some v, u] ∧ IsTm H (i + 1) v m ∧ m ≤ i + 1 ∧ Deck H d g (n + 4 + 2 * (i : Int)) ∧ But d g H0 H
theorem cut_ints (ns : List Int) (lo hi : Option Int) : ∃ ns' : List Int, cutV (ns.map V.int) lo hi = ns'.map V.int ∧ ns'.length ≤ ns.length := by
  refine ⟨(ns.drop (HT.sIx (ns.map V.int).length 0 lo)).take (HT.sIx (ns.map V.int).length (ns.map V.int).length hi - HT.sIx (ns.map V.int).length 0 lo), ?_, ?_⟩
  · unfold cutV
    rw [List.map_take, List.map_drop]
  · rw [List.length_take, List.length_drop]
    omega
/-- what the law promises -/
def spLaw (K : PySem.W.Frag) : Sp := fun vs H Q _ => ∃ (a : Addr) (ns : List Int), vs = [.ref a] ∧ SqL K H a (ns.map V.int) ∧ ns.length ≤ 63 ∧ ∀ H', Q (.bl true) H'
def Plaw (a : Addr) (H0 : Hp) (_i : Nat) (σ : St) (H : Hp) : Prop := ∃ u1 u2 u3 u4, σ = [some (.ref a), u1, u2, u3, u4] ∧ Same H0 H
section
variable {P : Program} {w : World} {K : PySem.W.Frag} {mg : Str → Option Value} {base : Heap} {f : Addr} {fd : FuncData}
theorem ok_line (B : Bn mg) (F : Fun K "_law_line" "_law_line" s__law_line f fd)
    (c__law_take : Cal P w K mg base "_law_take" 1 ["deck", "many"] spTake) (c__law_leaf : Cal P w K mg base "_law_leaf" 2 ["deck"] spLeaf) (c__law_around : Cal P w K mg base "_law_around" 2 ["deck", "parts"] spAround) :
    FnOk P w K mg base CX0 3 f fd ["deck"] spLine := by
  refine F.ok sc__law_line (fun vs H Q E h => ?_) (fun cdv A outer s H vs Q E hr h => ?_)
  · obtain ⟨d, g, n, rfl, _⟩ := h
    rfl
  obtain ⟨d, g, n, rfl, D, hn, q⟩ := h
  refine ⟨_, (pss_cons (ps_set (i := 1) sc__law_line.nd rfl (Or.inl rfl) (pc c__law_leaf (hr.mono (by first | decide | omega)) (pa_cons (pv 0) pa_nil)))
    (pss_cons (ps_for PassesOwn.never rfl (pi_range1 rfl B.b_range (pa_cons (pc c__law_take (hr.mono (by first | decide | omega)) (pa_cons (pv 0) (pa_cons pe_int pa_nil))) pa_nil)) (pg_name (i := 2) sc__law_line.nd rfl (Or.inl rfl)) (pss_one (ps_set (i := 1) sc__law_line.nd rfl (Or.inl rfl) (pc c__law_around (hr.mono (by first | decide | omega)) (pa_cons (pv 0) (pa_cons (pe_lst (pa_cons (pv 1) pa_nil)) pa_nil))))))
    (pss_one (ps_ret (pv 1))))), ?_⟩
  refine ⟨_, rfl, d, g, n, rfl, D, by omega, fun v H1 tm D1 B1 => ?_⟩
  refine ⟨_, rfl, d, g, 30, n + 3, rfl, D1, by decide, by decide, by omega, fun r H2 r0 r1 D2 B2 => ?_⟩
  refine ⟨_, rfl, by omega, by omega, for_range (lo := 0) (n := r.toNat) (Plin d g n H) ?_ ?_ ?_⟩
  · exact ⟨v, 1, none, rfl, tm.mono (D1.tups B2), by omega, D2.le (by omega), B1.trans B2⟩
  · rintro i σ H3 hi ⟨v3, m3, u3, rfl, t3, hm3, D3, B3⟩
    refine ⟨_, rfl, _, rfl, (by show 1 ≤ sizeLine; decide), fun pl npl => ?_⟩
    have ne := D3.ne npl
    refine ⟨i + 1, d, g, pl, n + 4 + 2 * (i : Int), [v3], [m3], rfl, D3.new npl, by omega, ne.1, ne.2, upd_same, .cons (t3.mono (Tups.of_same (same_new npl _))) .nil, Nat.le_refl 1, (by show 1 ≤ 6; decide), fun v4 H4 m4 t4 hm4 D4 B4 => ?_⟩
    have e : ([m3] : List Nat).sum = m3 := by simp
    rw [e] at hm4
    exact ⟨v4, m4, _, rfl, t4, by omega, D4.le (by omega), (B3.new npl).trans B4⟩
  · rintro σ H3 ⟨v3, m3, u3, rfl, t3, hm3, D3, B3⟩
    refine ⟨_, rfl, ?_⟩
    exact q v3 H3 m3 (t3.le (by omega)) (by omega) (D3.le (by omega)) B3
theorem ok_law (B : Bn mg) (F : Fun K "law" "law" s_law f fd) (c__law_deck : Cal P w K mg base "_law_deck" 1 ["script"] (spDeck K)) (c__law_drawn : Cal P w K mg base "_law_drawn" 32 ["deck", "deep", "room"] (spDrawn 30))
    (c__law_take : Cal P w K mg base "_law_take" 1 ["deck", "many"] spTake) (c__law_line : Cal P w K mg base "_law_line" 3 ["deck"] spLine)
    (c_size : Cal P w K mg base "size" 2 ["term"] (spSize 30)) (kb_size : CalK P w K mg base "size" 2 "term" (spSize 30)) (c__law_size : Cal P w K mg base "_law_size" 31 ["prog"] (spSize 30)) :
    FnOk P w K mg base CX0 33 f fd ["script"] (spLaw K) := by
  refine F.ok sc_law (fun vs H Q E h => ?_) (fun cdv A outer s H vs Q E hr h => ?_)
  · obtain ⟨a, ns, rfl, _⟩ := h
    rfl
  obtain ⟨a, ns, rfl, hS, h63, q⟩ := h
  refine ⟨_, (pss_cons (ps_for PassesOwn.never rfl (pi_range1 rfl B.b_range (pa_cons (pe_callB (call_max2 rfl) (by rfl) B.b_max (by decide +kernel) (pa_cons pe_int (pa_cons (pe_callB (call_min2 rfl) (by rfl) B.b_min (by decide +kernel) (pa_cons pe_int (pa_cons (pe_callB (lenSeq K rfl) (by rfl) B.b_len PySem.boot_len (pa_cons (pv 0) pa_nil)) pa_nil))) pa_nil))) pa_nil)) (pg_name (i := 1) sc_law.nd rfl (Or.inl rfl)) (pss_cons (ps_set (i := 2) sc_law.nd rfl (Or.inl rfl) (pc c__law_deck (hr.mono (by first | decide | omega)) (pa_cons (pe_slice (slL K rfl) (pv 0) (po_some (pv 1)) po_none) pa_nil)))
    (pss_cons (ps_set (i := 3) sc_law.nd rfl (Or.inl rfl) (pc c__law_drawn (hr.mono (by first | decide | omega)) (pa_cons (pv 2) (pa_cons pe_int (pa_cons pe_int pa_nil)))))
    (pss_cons (ps_if (pt_cmpR op_eq (pc c__law_take (hr.mono (by first | decide | omega)) (pa_cons (pv 2) (pa_cons pe_int pa_nil))) pe_int (nomark _)) (pss_one (ps_set (i := 3) sc_law.nd rfl (Or.inl rfl) (pc c__law_line (hr.mono (by first | decide | omega)) (pa_cons (pv 2) pa_nil)))) pss_nil)
    (pss_cons (ps_set (i := 4) sc_law.nd rfl (Or.inl rfl) (pc c_size (hr.mono (by first | decide | omega)) (pa_cons (pv 3) pa_nil)))
    (pss_cons (ps_if (PW.pt (pw_or (pt_not (pt_val (pe_callB (isInst K rfl) (by rfl) B.b_isinstance (by decide +kernel) (pa_cons (pv 4) (pa_cons (pe_bltn (v := .ty "int") (by rfl) B.b_int (by decide +kernel) rfl) pa_nil))))) (pw_or (pt_val (pe_callB (isInst K rfl) (by rfl) B.b_isinstance (by decide +kernel) (pa_cons (pv 4) (pa_cons (pe_bltn (v := .ty "bool") (by rfl) B.b_bool (by decide +kernel) rfl) pa_nil)))) (pw_or1 (pt_cmpR op_ne (pv 4) (pc c__law_size (hr.mono (by first | decide | omega)) (pa_cons (pv 3) pa_nil)) (nomark _)))))) (pss_one (ps_ret pe_bl)) pss_nil)
    (pss_one (ps_if (pt_cmpR op_ne (pck0 kb_size (hr.mono (by first | decide | omega)) (pk_cons (pv 3) pk_nil)) (pv 4) (nomark _)) (pss_one (ps_ret pe_bl)) pss_nil))))))))
    (pss_one (ps_ret pe_bl))), ?_⟩
  refine ⟨_, rfl, a, _, rfl, .inl hS, _, _, rfl, _, _, rfl, ?_⟩
  rw [List.length_map]
  generalize ((ns.length : Nat) : Int) = len
  have e1 : ∃ t : Int, (if (if len < 20 then len else 20) > 1 then (if len < 20 then len else 20) else 1) = t ∧ 0 ≤ t ∧ t ≤ 20 := ⟨_, rfl, by split <;> (try split) <;> omega, by split <;> (try split) <;> omega⟩
  obtain ⟨t, e1, t0, t1⟩ := e1
  rw [e1]
  refine ⟨_, rfl, by omega, by omega, for_range (lo := 0) (n := t.toNat) (Plaw a H) ?_ ?_ ?_⟩
  · exact ⟨none, none, none, none, rfl, Same.refl _⟩
  · rintro i σ H1 hi ⟨u1, u2, u3, u4, rfl, s1⟩
    refine gn ?_
    dsimp only
    refine seq_set ?_
    refine ⟨_, rfl, _, rfl, _, rfl, a, _, rfl, s1.seq hS, fun p np => ?_⟩
    obtain ⟨ns', e2, l2⟩ := cut_ints ns (some ((0 : Int) + (i : Int))) none
    rw [e2]
    refine ⟨p, ns', rfl, SqL.of upd_same, by omega, fun d g H2 nd ng D2 s2 => ?_⟩
    have s02 := (s1.trans (same_new np _)).trans s2
    have nd0 := (s1.trans (same_new np _)).free nd
    have ng0 := (s1.trans (same_new np _)).free ng
    have sBut : ∀ {H3 : Hp}, But d g H2 H3 → Same H H3 := fun b x o e => b x o (ne_of_none e nd0) (ne_of_none e ng0) (s02 x o e)
    dsimp only
    refine seq_set ?_
    refine ⟨_, rfl, d, g, 30, 200, 0, rfl, rfl, by decide, by decide, by decide, D2, by decide, fun v H3 m tm hm D3 B3 => ?_⟩
    have hm2 : m ≤ 1400 := by
      have : roomS 200 = 1400 := by decide
      omega
    dsimp only
    refine seq_abs (fun σ' H' => ∃ v m, σ' = [some (.ref a), some (.int (0 + (i : Int))), some (.ref d), some v, u4] ∧ IsTm H' 30 v m ∧ m ≤ 1400 ∧ Same H H') (fun σ4 H4 w4 => ?_) (fun nx hnx => ?_)
    · obtain ⟨v4, m4, rfl, t4, hm4, s4⟩ := w4
      refine ⟨_, rfl, v4, m4, rfl, t4, by omega, fun H5 s5 => ?_⟩
      have t5 := t4.mono (Tups.of_same s5)
      refine ⟨_, rfl, _, _, _, _, _, rfl, .ty "int", .base (.int _), kit_ty (r := true) (by decide +kernel), _, rfl, iteF ?_⟩
      refine ⟨_, rfl, _, _, _, _, _, rfl, .ty "bool", .base (.int _), kit_ty (r := false) (by decide +kernel), _, rfl, iteF ?_⟩
      refine ⟨_, rfl, _, rfl, v4, m4, rfl, t5, by omega, fun H6 s6 => ⟨rfl, _, rfl, iteNS rfl ?_⟩⟩
      refine ⟨_, rfl, v4, m4, rfl, t5.mono (Tups.of_same s6), by omega, fun H7 s7 => ⟨_, rfl, rfl, _, rfl, iteNS rfl ?_⟩⟩
      exact ⟨_, _, _, _, rfl, ((s4.trans s5).trans s6).trans s7⟩
    · refine ⟨_, rfl, d, g, 4, _, rfl, D3, by decide, by decide, by decide, fun r H4 _ _ D4 B4 => ⟨rfl, _, rfl, ite2 (fun _ => ?_) (fun _ => ?_)⟩⟩
      · refine ⟨_, rfl, d, g, _, rfl, D4, by decide, fun v5 H5 m5 t5 hm5 D5 B5 => ?_⟩
        exact hnx _ _ ⟨v5, m5, rfl, t5, by omega, sBut ((B3.trans B4).trans B5)⟩
      · exact hnx _ _ ⟨v, m, rfl, tm.mono (D3.tups B4), hm2, sBut (B3.trans B4)⟩
  · rintro σ H1 _
    exact q H1
end
end My
namespace My
open PySem L2
theorem all_mk {l : PySem.W.OpenLaw} {w : World} {K : PySem.W.Frag} {h : Heap} {mg : Str → Option Value} {fa : Addr} (X : K.In h) (G : h.Ns mainGlobals mg) (hfa : mg "law" = some (.ref fa))
    {f0 : Addr} {od0 an0 : Option Addr} {sl0 : Array (Option Value)} {oc0 kV0 dc0 pm0 cd0 ct0 : Value}
    (a0 : PySem.W.nsIn K mainGlobals "_law_deck" = some (some (.ref f0)))
    (l0 : K.lookup f0 = some ⟨oc0, od0, .func (PySem.W.fnOf "_law_deck" "_law_deck" (defArgs s__law_deck) (defBody s__law_deck) (defScope s__law_deck) .none kV0 dc0 pm0 an0 cd0 ct0), sl0⟩)
    (c0 : PySem.W.codeIn K cd0 "_law_deck" = true) (k0 : PySem.W.keepIn K (.ref f0) = true)
    {f1 : Addr} {od1 an1 : Option Addr} {sl1 : Array (Option Value)} {oc1 kV1 dc1 pm1 cd1 ct1 : Value}
    (a1 : PySem.W.nsIn K mainGlobals "_law_take" = some (some (.ref f1)))
    (l1 : K.lookup f1 = some ⟨oc1, od1, .func (PySem.W.fnOf "_law_take" "_law_take" (defArgs s__law_take) (defBody s__law_take) (defScope s__law_take) .none kV1 dc1 pm1 an1 cd1 ct1), sl1⟩)
    (c1 : PySem.W.codeIn K cd1 "_law_take" = true) (k1 : PySem.W.keepIn K (.ref f1) = true)
    {f2 : Addr} {od2 an2 : Option Addr} {sl2 : Array (Option Value)} {oc2 kV2 dc2 pm2 cd2 ct2 : Value}
    (a2 : PySem.W.nsIn K mainGlobals "_law_leaf" = some (some (.ref f2)))
    (l2 : K.lookup f2 = some ⟨oc2, od2, .func (PySem.W.fnOf "_law_leaf" "_law_leaf" (defArgs s__law_leaf) (defBody s__law_leaf) (defScope s__law_leaf) .none kV2 dc2 pm2 an2 cd2 ct2), sl2⟩)
    (c2 : PySem.W.codeIn K cd2 "_law_leaf" = true) (k2 : PySem.W.keepIn K (.ref f2) = true)
    {f3 : Addr} {od3 an3 : Option Addr} {sl3 : Array (Option Value)} {oc3 kV3 dc3 pm3 cd3 ct3 : Value}
    (a3 : PySem.W.nsIn K mainGlobals "_law_around" = some (some (.ref f3)))
    (l3 : K.lookup f3 = some ⟨oc3, od3, .func (PySem.W.fnOf "_law_around" "_law_around" (defArgs s__law_around) (defBody s__law_around) (defScope s__law_around) .none kV3 dc3 pm3 an3 cd3 ct3), sl3⟩)
    (c3 : PySem.W.codeIn K cd3 "_law_around" = true) (k3 : PySem.W.keepIn K (.ref f3) = true)
    {f4 : Addr} {od4 an4 : Option Addr} {sl4 : Array (Option Value)} {oc4 kV4 dc4 pm4 cd4 ct4 : Value}
    (a4 : PySem.W.nsIn K mainGlobals "_law_drawn" = some (some (.ref f4)))
    (l4 : K.lookup f4 = some ⟨oc4, od4, .func (PySem.W.fnOf "_law_drawn" "_law_drawn" (defArgs s__law_drawn) (defBody s__law_drawn) (defScope s__law_drawn) .none kV4 dc4 pm4 an4 cd4 ct4), sl4⟩)
    (c4 : PySem.W.codeIn K cd4 "_law_drawn" = true) (k4 : PySem.W.keepIn K (.ref f4) = true)
    {f5 : Addr} {od5 an5 : Option Addr} {sl5 : Array (Option Value)} {oc5 kV5 dc5 pm5 cd5 ct5 : Value}
    (a5 : PySem.W.nsIn K mainGlobals "_law_line" = some (some (.ref f5)))
    (l5 : K.lookup f5 = some ⟨oc5, od5, .func (PySem.W.fnOf "_law_line" "_law_line" (defArgs s__law_line) (defBody s__law_line) (defScope s__law_line) .none kV5 dc5 pm5 an5 cd5 ct5), sl5⟩)
    (c5 : PySem.W.codeIn K cd5 "_law_line" = true) (k5 : PySem.W.keepIn K (.ref f5) = true)
    {f6 : Addr} {od6 an6 : Option Addr} {sl6 : Array (Option Value)} {oc6 kV6 dc6 pm6 cd6 ct6 : Value}
    (a6 : PySem.W.nsIn K mainGlobals "_law_parts" = some (some (.ref f6)))
    (l6 : K.lookup f6 = some ⟨oc6, od6, .func (PySem.W.fnOf "_law_parts" "_law_parts" (defArgs s__law_parts) (defBody s__law_parts) (defScope s__law_parts) .none kV6 dc6 pm6 an6 cd6 ct6), sl6⟩)
    (c6 : PySem.W.codeIn K cd6 "_law_parts" = true) (k6 : PySem.W.keepIn K (.ref f6) = true)
    {f7 : Addr} {od7 an7 : Option Addr} {sl7 : Array (Option Value)} {oc7 kV7 dc7 pm7 cd7 ct7 : Value}
    (a7 : PySem.W.nsIn K mainGlobals "_law_size" = some (some (.ref f7)))
    (l7 : K.lookup f7 = some ⟨oc7, od7, .func (PySem.W.fnOf "_law_size" "_law_size" (defArgs s__law_size) (defBody s__law_size) (defScope s__law_size) .none kV7 dc7 pm7 an7 cd7 ct7), sl7⟩)
    (c7 : PySem.W.codeIn K cd7 "_law_size" = true) (k7 : PySem.W.keepIn K (.ref f7) = true)
    {f8 : Addr} {od8 an8 : Option Addr} {sl8 : Array (Option Value)} {oc8 kV8 dc8 pm8 cd8 ct8 : Value}
    (a8 : PySem.W.nsIn K mainGlobals "parts_of" = some (some (.ref f8)))
    (l8 : K.lookup f8 = some ⟨oc8, od8, .func (PySem.W.fnOf "parts_of" "parts_of" (defArgs s_parts_of) (defBody s_parts_of) (defScope s_parts_of) .none kV8 dc8 pm8 an8 cd8 ct8), sl8⟩)
    (c8 : PySem.W.codeIn K cd8 "parts_of" = true) (k8 : PySem.W.keepIn K (.ref f8) = true)
    {f9 : Addr} {od9 an9 : Option Addr} {sl9 : Array (Option Value)} {oc9 kV9 dc9 pm9 cd9 ct9 : Value}
    (a9 : PySem.W.nsIn K mainGlobals "size" = some (some (.ref f9)))
    (l9 : K.lookup f9 = some ⟨oc9, od9, .func (PySem.W.fnOf "size" "size" (defArgs s_size) (defBody s_size) (defScope s_size) .none kV9 dc9 pm9 an9 cd9 ct9), sl9⟩)
    (c9 : PySem.W.codeIn K cd9 "size" = true) (k9 : PySem.W.keepIn K (.ref f9) = true)
    {f10 : Addr} {od10 an10 : Option Addr} {sl10 : Array (Option Value)} {oc10 kV10 dc10 pm10 cd10 ct10 : Value}
    (a10 : PySem.W.nsIn K mainGlobals "law" = some (some (.ref f10)))
    (l10 : K.lookup f10 = some ⟨oc10, od10, .func (PySem.W.fnOf "law" "law" (defArgs s_law) (defBody s_law) (defScope s_law) .none kV10 dc10 pm10 an10 cd10 ct10), sl10⟩)
    (c10 : PySem.W.codeIn K cd10 "law" = true) (k10 : PySem.W.keepIn K (.ref f10) = true)
    (z0 : PySem.W.nsIn K mainGlobals "abs" = some none)
    (z1 : PySem.W.nsIn K mainGlobals "bool" = some none)
    (z2 : PySem.W.nsIn K mainGlobals "int" = some none)
    (z3 : PySem.W.nsIn K mainGlobals "isinstance" = some none)
    (z4 : PySem.W.nsIn K mainGlobals "len" = some none)
    (z5 : PySem.W.nsIn K mainGlobals "list" = some none)
    (z6 : PySem.W.nsIn K mainGlobals "max" = some none)
    (z7 : PySem.W.nsIn K mainGlobals "min" = some none)
    (z8 : PySem.W.nsIn K mainGlobals "range" = some none)
    (z9 : PySem.W.nsIn K mainGlobals "sum" = some none)
    (z10 : PySem.W.nsIn K mainGlobals "tuple" = some none)
    : ∃ fd : FuncData, (∀ (s : Shared) (v : Value), BindsTo s fd ⟨[v], []⟩ [("script", v)]) ∧ ∀ base : Heap, K.In base → base.Ns mainGlobals mg → FnOk l.prog w K mg base CX0 33 fa fd ["script"] (spLaw K) := by
  have e := hfa.symm.trans (PySem.W.mg_of X G a10)
  cases e
  have F__law_deck := fun_mk (st := s__law_deck) l0 c0 k0
  have b__law_deck := F__law_deck.binds (ps := ["script"]) fun _ _ _ _ _ _ us hl => match us, hl with | [_], _ => rfl
  have m__law_deck := PySem.W.mg_of X G a0
  have F__law_take := fun_mk (st := s__law_take) l1 c1 k1
  have b__law_take := F__law_take.binds (ps := ["deck", "many"]) fun _ _ _ _ _ _ us hl => match us, hl with | [_, _], _ => rfl
  have m__law_take := PySem.W.mg_of X G a1
  have F__law_leaf := fun_mk (st := s__law_leaf) l2 c2 k2
  have b__law_leaf := F__law_leaf.binds (ps := ["deck"]) fun _ _ _ _ _ _ us hl => match us, hl with | [_], _ => rfl
  have m__law_leaf := PySem.W.mg_of X G a2
  have F__law_around := fun_mk (st := s__law_around) l3 c3 k3
  have b__law_around := F__law_around.binds (ps := ["deck", "parts"]) fun _ _ _ _ _ _ us hl => match us, hl with | [_, _], _ => rfl
  have m__law_around := PySem.W.mg_of X G a3
  have F__law_drawn := fun_mk (st := s__law_drawn) l4 c4 k4
  have b__law_drawn := F__law_drawn.binds (ps := ["deck", "deep", "room"]) fun _ _ _ _ _ _ us hl => match us, hl with | [_, _, _], _ => rfl
  have m__law_drawn := PySem.W.mg_of X G a4
  have F__law_line := fun_mk (st := s__law_line) l5 c5 k5
  have b__law_line := F__law_line.binds (ps := ["deck"]) fun _ _ _ _ _ _ us hl => match us, hl with | [_], _ => rfl
  have m__law_line := PySem.W.mg_of X G a5
  have F__law_parts := fun_mk (st := s__law_parts) l6 c6 k6
  have b__law_parts := F__law_parts.binds (ps := ["prog"]) fun _ _ _ _ _ _ us hl => match us, hl with | [_], _ => rfl
  have m__law_parts := PySem.W.mg_of X G a6
  have F__law_size := fun_mk (st := s__law_size) l7 c7 k7
  have b__law_size := F__law_size.binds (ps := ["prog"]) fun _ _ _ _ _ _ us hl => match us, hl with | [_], _ => rfl
  have m__law_size := PySem.W.mg_of X G a7
  have F_parts_of := fun_mk (st := s_parts_of) l8 c8 k8
  have b_parts_of := F_parts_of.binds (ps := ["term"]) fun _ _ _ _ _ _ us hl => match us, hl with | [_], _ => rfl
  have m_parts_of := PySem.W.mg_of X G a8
  have F_size := fun_mk (st := s_size) l9 c9 k9
  have b_size := F_size.binds (ps := ["term"]) fun _ _ _ _ _ _ us hl => match us, hl with | [_], _ => rfl
  have m_size := PySem.W.mg_of X G a9
  have F_law := fun_mk (st := s_law) l10 c10 k10
  have B : Bn mg := ⟨PySem.W.mg_none_of X G z0, PySem.W.mg_none_of X G z1, PySem.W.mg_none_of X G z2, PySem.W.mg_none_of X G z3, PySem.W.mg_none_of X G z4, PySem.W.mg_none_of X G z5, PySem.W.mg_none_of X G z6, PySem.W.mg_none_of X G z7, PySem.W.mg_none_of X G z8, PySem.W.mg_none_of X G z9, PySem.W.mg_none_of X G z10⟩
  refine ⟨PySem.W.fnOf "law" "law" (defArgs s_law) (defBody s_law) (defScope s_law) .none kV10 dc10 pm10 an10 cd10 ct10, fun s v => .of_eq rfl, fun base _ _ => ?_⟩
  have T : Cal l.prog w K mg base "_law_take" 1 ["deck", "many"] spTake := ⟨_, _, ok_take F__law_take, m__law_take, k1, b__law_take⟩
  have De : Cal l.prog w K mg base "_law_deck" 1 ["script"] (spDeck K) := ⟨_, _, ok_deck B F__law_deck, m__law_deck, k0, b__law_deck⟩
  have Le : Cal l.prog w K mg base "_law_leaf" 2 ["deck"] spLeaf := ⟨_, _, ok_leaf F__law_leaf T, m__law_leaf, k2, b__law_leaf⟩
  have Ar : Cal l.prog w K mg base "_law_around" 2 ["deck", "parts"] spAround := ⟨_, _, ok_around B F__law_around T, m__law_around, k3, b__law_around⟩
  have Dr : Cal l.prog w K mg base "_law_drawn" 32 ["deck", "deep", "room"] (spDrawn 30) := ⟨_, _, ok_drawn B F__law_drawn m__law_drawn b__law_drawn T Le Ar 30, m__law_drawn, k4, b__law_drawn⟩
  have Li : Cal l.prog w K mg base "_law_line" 3 ["deck"] spLine := ⟨_, _, ok_line B F__law_line T Le Ar, m__law_line, k5, b__law_line⟩
  have Lp : Cal l.prog w K mg base "_law_parts" 1 ["prog"] spParts := ⟨_, _, ok_lparts B F__law_parts, m__law_parts, k6, b__law_parts⟩
  have Ls : Cal l.prog w K mg base "_law_size" 31 ["prog"] (spSize 30) := ⟨_, _, ok_lsize B F__law_size m__law_size b__law_size Lp 30, m__law_size, k7, b__law_size⟩
  have Pa : Cal l.prog w K mg base "parts_of" 1 ["term"] spParts := ⟨_, _, ok_parts F_parts_of, m_parts_of, k8, b_parts_of⟩
  have Sz : Cal l.prog w K mg base "size" 2 ["term"] (spSize 30) := ⟨_, _, ok_size F_size Pa, m_size, k9, b_size⟩
  have Sk : CalK l.prog w K mg base "size" 2 "term" (spSize 30) := ⟨_, _, ok_size F_size Pa, m_size, k9, kbinds1 F_size (fun _ _ _ _ _ _ _ => rfl) (fun _ _ _ _ _ _ _ => rfl)⟩
  exact ok_law B F_law De Dr T Li Sz Sk Ls
theorem walk {l : PySem.W.OpenLaw} {q : Program} {loose : List Str} {XP : (Str → Option Value) → Heap → Prop} {YP : World → Heap → Prop} {d : DefRec} {K : Params → PySem.W.Frag}
    (hn : l.most = some 63) (hdf : d.params.defaults = []) (hY : ∀ (w : World) (h : Heap), YP w h → (K w.params).In h)
    (F : ∀ (w : World) (mg : Str → Option Value) (fa : Addr) (h : Heap), (K w.params).In h → h.Ns mainGlobals mg → mg d.name = some (.ref fa) →
      ∃ fd : FuncData, (∀ (s : Shared) (u : Value), BindsTo s fd ⟨[u], []⟩ [("script", u)]) ∧ ∀ base : Heap, (K w.params).In base → base.Ns mainGlobals mg →
        FnOk l.prog w (K w.params) mg base CX0 33 fa fd ["script"] (spLaw (K w.params))) :
    PySem.W.WalkO q loose XP YP l.row.toRowW d [] (fun f vs => PySem.call f vs) :=
  L2.walk_of (n := 63) (k := 33) (x := "script") (CX := fun _ => CX0) (sp := fun w => spLaw (K w.params)) hn (by decide) hdf ⟨rfl, by decide, by decide⟩ hY F
    (fun _ _ a ns hl _ hS => ⟨a, ns, rfl, hS, hl, fun _ => rfl⟩) fun _ _ _ _ _ z => z
end My
open PySem PySem.W PyProof.Rows
set_option maxRecDepth 100000 in
set_option maxHeartbeats 0 in
theorem PySem.Challenge.cw_stillruns_k11_sizes_holds : PySem.Challenge.rw_stillruns_k11_sizes.Holds := by
  w_on; o_law; k_head; (case hw => w_witness2)
  k_fill
  refine My.walk (l := PySem.Challenge.rw_stillruns_k11_sizes) rfl rfl (fun w h Y => PySem.W.kIn_of Y) ?F
  case F =>
    intro w mg fa h KX G hmg
    refine' My.all_mk KX G hmg ?a0 ?l0 ?c0 ?k0 ?a1 ?l1 ?c1 ?k1 ?a2 ?l2 ?c2 ?k2 ?a3 ?l3 ?c3 ?k3 ?a4 ?l4 ?c4 ?k4 ?a5 ?l5 ?c5 ?k5 ?a6 ?l6 ?c6 ?k6 ?a7 ?l7 ?c7 ?k7 ?a8 ?l8 ?c8 ?k8 ?a9 ?l9 ?c9 ?k9 ?a10 ?l10 ?c10 ?k10 ?z0 ?z1 ?z2 ?z3 ?z4 ?z5 ?z6 ?z7 ?z8 ?z9 ?z10
    (case a0 => k_is)
    (case l0 => k_is)
    (case c0 => k_is)
    (case k0 => k_is)
    (case a1 => k_is)
    (case l1 => k_is)
    (case c1 => k_is)
    (case k1 => k_is)
    (case a2 => k_is)
    (case l2 => k_is)
    (case c2 => k_is)
    (case k2 => k_is)
    (case a3 => k_is)
    (case l3 => k_is)
    (case c3 => k_is)
    (case k3 => k_is)
    (case a4 => k_is)
    (case l4 => k_is)
    (case c4 => k_is)
    (case k4 => k_is)
    (case a5 => k_is)
    (case l5 => k_is)
    (case c5 => k_is)
    (case k5 => k_is)
    (case a6 => k_is)
    (case l6 => k_is)
    (case c6 => k_is)
    (case k6 => k_is)
    (case a7 => k_is)
    (case l7 => k_is)
    (case c7 => k_is)
    (case k7 => k_is)
    (case a8 => k_is)
    (case l8 => k_is)
    (case c8 => k_is)
    (case k8 => k_is)
    (case a9 => k_is)
    (case l9 => k_is)
    (case c9 => k_is)
    (case k9 => k_is)
    (case a10 => k_is)
    (case l10 => k_is)
    (case c10 => k_is)
    (case k10 => k_is)
    (case z0 => k_is)
    (case z1 => k_is)
    (case z2 => k_is)
    (case z3 => k_is)
    (case z4 => k_is)
    (case z5 => k_is)
    (case z6 => k_is)
    (case z7 => k_is)
    (case z8 => k_is)
    (case z9 => k_is)
    (case z10 => k_is)
