import PyProof.Rows.All
import Wide.All
import OpenK.AllK
import Wide.FinOn
import HandS.EndTab
import HandS.Head0
import HandS.Head1
import HandS.Head2
import KE.KNestM
import HandS.Base
import HandS.Call
import HandS.List
import HandS.Comp
import HandS.Ends
import HandS.Iter
import HandS.Words
import HandS.WordsList
import HandS.Star
import HandS.More
import HandS.ForMost
import HandS.IsInst
import HandS.TupAny
import KE.KDictPairs
import HandS.WordsExc
import HandS.Text
import HandS.Nested
import HandS.WrittenGet
import KE.KDictZip
import HandS.Zip
import HandS.Walk
import HandS.HeadWalk
import HandS.Deep
import PyProof.ReprRoads
import PyProof.ReprBulk
import PyProof.FitsInt
import PyProof.Rows.RegReprOcc
import HandS.DictComp
import KE.KTypeName
import KE.KExcSuper
import KE.KSuper
import HandS.Exc
import HandS.ExcInit
import HandS.ExcIs
import HandS.FStr
import HandS.ClsMeth
import HandS.Defaults
import PyProof.EqAt
import PyProof.NeKinds
import KE.KExcIs
import HandS.ExcField
import HandS.ExcValue
import HandS.Sort
import PySem.Challenge.RW_stillruns_k56_unfolding_refused
set_option Elab.async false
set_option linter.unusedVariables false
set_option maxRecDepth 100000
namespace My
open PySem PySem.W PyProof.Rows
theorem dropH {r : OpenRow} (H : Hook) (h : False) : r.Holds := h.elim
local macro_rules | `(tactic| o_head $H) => `(tactic| exact My.dropH $H (by assumption))
set_option maxHeartbeats 0 in
theorem frg (h : False) : PySem.Challenge.rw_stillruns_k56_unfolding_refused.Holds := by
  w_on; o_law; k_head
end My
namespace My
open PySem L2
def names0 : List PySem.Str := [("StillError" : PySem.Str), ("NoEdition" : PySem.Str), ("TooGreat" : PySem.Str), ("Breaks" : PySem.Str), ("Holds" : PySem.Str), ("NoBridge" : PySem.Str), ("NoText" : PySem.Str), ("NoRow" : PySem.Str), ("NoName" : PySem.Str), ("NoKind" : PySem.Str), ("parts_of" : PySem.Str), ("with_parts" : PySem.Str), ("walked" : PySem.Str), ("rebuilt" : PySem.Str), ("filled" : PySem.Str), ("unfolded" : PySem.Str), ("_law_deck" : PySem.Str), ("_law_take" : PySem.Str), ("_law_row" : PySem.Str), ("_law_drawn" : PySem.Str), ("_law_parts_and" : PySem.Str), ("_law_listed" : PySem.Str), ("_law_filled" : PySem.Str), ("_law_unfolded" : PySem.Str), ("_law_right" : PySem.Str)]
def namesT : List PySem.Str := names0
def asT0 : List Addr := [2, 3, 15, 18, 23, 24, 25, 27, 28, 30, 31, 32, 33, 34, 35, 38, 41, 46, 47, 49, 50, 52, 53, 54, 55, 56, 59, 62, 67, 68, 70, 71, 73, 74, 75]
def asT1 : List Addr := [76, 77, 80, 83, 88, 89, 91, 92, 94, 95, 96, 97, 98, 101, 104, 109, 110, 112, 113, 115, 116, 117, 118, 119, 122, 125, 130, 131, 133, 134, 136, 137, 138, 139, 140]
def asT2 : List Addr := [143, 146, 151, 152, 154, 155, 157, 158, 159, 160, 161, 164, 167, 172, 173, 175, 176, 178, 179, 180, 181, 182, 185, 188, 193, 194, 196, 197, 199, 200, 201, 202, 203, 206, 209]
def asT3 : List Addr := [214, 215, 217, 218, 220, 221, 222, 223, 224, 227, 230, 231, 232, 235, 236, 237, 239, 240, 242, 243, 244, 246, 247, 249, 250, 251, 253, 254, 256, 257, 258, 261, 262, 263, 265]
def asT4 : List Addr := [266, 268, 269, 270, 272, 273, 275, 276, 277, 280, 281, 282, 285, 286, 287, 290, 291, 292, 295, 296, 297, 300, 301, 302, 305, 306, 307, 309, 310, 312, 313, 314, 317, 318]
def asT : List Addr := asT0 ++ asT1 ++ asT2 ++ asT3 ++ asT4
def tsT : List Addr := [252, 245, 259]
open PySem.W PySem.Calls PyProof.Rows in
theorem head_km {r : PySem.W.OpenRow} {q : Program} {M : Nat} {loose : List PySem.Str} {d : DefRec} {kwd : List (PySem.Str × PySem.Expr)} {K : Params → PySem.W.Frag} {as : List Addr} {e0 : ∀ P, as = (K P).map (·.1)} {ts : List Addr} (H : PySem.W.Hook) (hH : H = PySem.W.kmHook K as e0 ts)
    (e : PySem.W.opening r.prog = PySem.W.plainProg r.prog.main.scope.names) (f : ∀ s, fenceModules? r.prog s = some s)
    (run : ∀ (b : Bool) (w : World) (os : OsState), (HandSHeadRun.endF (HandSHeadRun.stepQ (HandSHeadRun.denQ HandSHeadRun.tabQ) r.prog (w.withFollow "special-get-raises" b)) M r.prog (w.withFollow "special-get-raises" b) os).map (fun s => (HandSHeadRun.looksF r.prog (boot_heap (w.withFollow "special-get-raises" b).params) s.abs, HandSHeadRun.seenQ q loose (importedModules r.prog.main.body) (fun s => xlAt q [] s && recOk r.toRowW.records s) s.abs, (as.map (HandSHeadRun.getT s), ts.map (HandSHeadRun.getT s)))) = some (true, openGood q loose, ((K (w.withFollow "special-get-raises" b).params).map fun p => some p.2, ts.map fun _ => some (tabObj #[]))))
    (hdef : PySem.W.defOf q r.name = some (d, kwd)) (hp : r.prog.theDef r.name = some (d.params, d.body, d.scope)) (hk : kwWritten? d.params.kwonlyargs d.params.kw_defaults = some kwd)
    (hwr : (!r.writes || r.records.isEmpty) = true) (k1 : r.wellSaid = true) (ok : (PySem.W.chainsOk q && PySem.W.opensWell r.prog && (PySem.W.frees r.toRowW && r.within.isEmpty)) = true) (hb : r.prog.bare) (hw : r.toRowW.promised)
    (call : PySem.W.WalkO q loose (PySem.W.XL q []) H.says r.toRowW d kwd fun f vs => PySem.call f vs) : r.Holds := by
  subst hH
  exact HandSHeadRun.head_any (H := PySem.W.kmHook K as e0 ts) (ob := fun s => (as.map (HandSHeadRun.getT s), ts.map (HandSHeadRun.getT s))) (fun s => Prod.ext (List.map_congr_left fun a _ => HandSHeadRun.getT_eq s a) (List.map_congr_left fun a _ => HandSHeadRun.getT_eq s a)) e f (fun w => PySem.W.byRow2 "special-get-raises" (P := fun w => HandSHeadRun.RunEq r q (PySem.W.kmHook K as e0 ts) (fun s => (as.map (HandSHeadRun.getT s), ts.map (HandSHeadRun.getT s))) M loose w) (fun w os => run false w os) (fun w os => run true w os) w) hdef hp hk hwr k1 ok hb hw call
open PySem.W PySem.Calls PyProof.Rows in
theorem runs (b : Bool) (w : World) (os : OsState) : (HandSHeadRun.endF (HandSHeadRun.stepQ (HandSHeadRun.denQ HandSHeadRun.tabQ) (PySem.W.OpenLaw.row PySem.Challenge.rw_stillruns_k56_unfolding_refused).prog (w.withFollow "special-get-raises" b)) 9000 (PySem.W.OpenLaw.row PySem.Challenge.rw_stillruns_k56_unfolding_refused).prog (w.withFollow "special-get-raises" b) os).map (fun s => (HandSHeadRun.looksF (PySem.W.OpenLaw.row PySem.Challenge.rw_stillruns_k56_unfolding_refused).prog (boot_heap (w.withFollow "special-get-raises" b).params) s.abs, HandSHeadRun.seenQ (view (PySem.W.OpenLaw.row PySem.Challenge.rw_stillruns_k56_unfolding_refused).prog [30]) namesT (importedModules (PySem.W.OpenLaw.row PySem.Challenge.rw_stillruns_k56_unfolding_refused).prog.main.body) (fun s => xlAt (view (PySem.W.OpenLaw.row PySem.Challenge.rw_stillruns_k56_unfolding_refused).prog [30]) [] s && recOk (PySem.W.OpenLaw.row PySem.Challenge.rw_stillruns_k56_unfolding_refused).toRowW.records s) s.abs, (asT.map (HandSHeadRun.getT s), tsT.map (HandSHeadRun.getT s)))) = some (true, openGood (view (PySem.W.OpenLaw.row PySem.Challenge.rw_stillruns_k56_unfolding_refused).prog [30]) namesT, ((My.frg.heap_39 (w.withFollow "special-get-raises" b).params).map fun p => some p.2, tsT.map fun _ => some (tabObj #[]))) := by
  cases b <;> kernel_rfl
end My
namespace My
open PySem L2
/-! a def that stands behind the top, by what a caller needs of it -/
structure Cal (P : Program) (w : World) (K : PySem.W.Frag) (mg : Str → Option Value) (base : Heap) (x : Str) (n : Nat) (ps : List Str) (sp : Sp) : Prop where
  ex : ∃ (f : Addr) (fd : FuncData), FnOk P w K mg base CX0 n f fd ps sp ∧
    mg x = some (.ref f) ∧ PySem.W.keepIn K (.ref f) = true ∧ Binds K fd ps []
/-- how one keyword binds (the only parameter) -/
structure CalK (P : Program) (w : World) (K : PySem.W.Frag) (mg : Str → Option Value) (base : Heap) (x : Str) (n : Nat) (y : Str) (sp : Sp) : Prop where
  ex : ∃ (f : Addr) (fd : FuncData), FnOk P w K mg base CX0 n f fd [y] sp ∧
    mg x = some (.ref f) ∧ PySem.W.keepIn K (.ref f) = true ∧ KBinds K fd [y] [y] (fun us ws => us ++ ws) (fun vs zs => vs ++ zs)
section
variable {X : Cx} {x : Str} {n m : Nat} {ps : List Str} {sp : Sp} {es : List Expr} {e : Expr} {t tk : TA} {p pos : Pos} {y : Str} {kws : List Keyword}
theorem kbinds1 {K : PySem.W.Frag} {x qual : Str} {st : Stmt} {f : Addr} {fd : FuncData} {y : Str} (F : Fun K x qual st f fd)
    (h1 : ∀ (kV doc pm : Value) (an : Option Addr) (cdv ct u : Value), bindArgs (PySem.W.fnOf x qual (defArgs st) (defBody st) (defScope st) .none kV doc pm an cdv ct) ⟨[u], []⟩ = pure [(y, u)])
    (h2 : ∀ (kV doc pm : Value) (an : Option Addr) (cdv ct u : Value), bindArgs (PySem.W.fnOf x qual (defArgs st) (defBody st) (defScope st) .none kV doc pm an cdv ct) ⟨[], [(y, u)]⟩ = pure [(y, u)]) :
    KBinds K fd [y] [y] (fun us ws => us ++ ws) (fun vs zs => vs ++ zs) := by
  obtain ⟨oc, od, kV, doc, pm, an, cdv, ct, osl, rfl, lk, hcd⟩ := F.ex
  refine ⟨fun s us ws _ hl => ?_, fun r1 r2 => r1.append r2⟩
  match us, ws, hl with
  | [u], [], _ => exact .of_eq (h1 kV doc pm an cdv ct u)
  | [], [u], _ => exact .of_eq (h2 kV doc pm an cdv ct u)
theorem pc (C : Cal X.prog X.w X.K X.mg X.base x n ps sp) (hr : Room n X.A) (ha : PA X (e :: es) t) (hg : Gl X x := by rfl)
    (hdb : (x == ("__debug__" : Str)) = false := by decide)
    (he : starEach (e :: es) X.env = (false, eval e X.env) :: starEach es X.env := by rfl)
    (hpl : (backTo pos (starEach es X.env)).any (·.1) = false := by rfl) :
    PE X (.Call (.Name x p) (e :: es) [] pos) (tCall sp [] E0 t) := by
  obtain ⟨f, fd, F, hm, hk, hb⟩ := C.ex
  exact pe_call F hr hg hm hk hb .nil pass0 ha hdb he hpl
theorem pck0 (C : CalK X.prog X.w X.K X.mg X.base x n y sp) (hr : Room n X.A) (hkw : PK X kws tk) (hg : Gl X x := by rfl)
    (hdb : (x == ("__debug__" : Str)) = false := by decide)
    (hall : (backToKw pos (keywordEach kws X.env)).all (·.1.isSome) = true := by rfl)
    (hks : (backToKw pos (keywordEach kws X.env)).filterMap (·.1) = [y] := by rfl)
    (hpl : ((backTo pos (starEach [] X.env)).any (·.1) || (backToKw pos (keywordEach kws X.env)).any (·.1.isNone)) = false := by rfl) :
    PE X (.Call (.Name x p) [] kws pos) (fun σ H Q => tk σ H fun zs H2 => sp zs H2 Q E0) := by
  obtain ⟨f, fd, F, hm, hk, hb⟩ := C.ex
  refine ⟨fun pins s σ H Q I h => ?_⟩
  refine wpAny_Call_Name_kw (ld_glob I hg hm ?_ hdb)
  refine PySem.W.callWith_KW0 (h₀ := X.base) I.ok.mod.kin hk hall ?_ hpl
  refine thn (hkw.run pos pins s σ H _ I h) fun ws s2 ⟨zs, H2, I2, rz, q2⟩ => ⟨I2.kIn, ?_⟩
  rw [hks]
  exact run_fnk (us := []) (vs := []) F hr hb pass0 I2 .nil rz q2
end
/-! the rules that speak of the written part, told its name (so they stand in a comprehension's block, too) -/
section
variable {X : Cx} (K : PySem.W.Frag) (h : X.K = K)
include h
theorem ixL : IxR X (rIxL K) := by subst h; exact ix_list
theorem ixT : IxR X (rIxT K) := by subst h; exact ix_tup
theorem inSeq : OpR X (compareOp .In) (rIn K false) := by subst h; exact op_in_seq
theorem notInSeq : OpR X (compareOp .NotIn) (rIn K true) := by subst h; exact op_notIn_seq
theorem eqD (hu : X.A.units + 64 < cLine) : OpR X (compareOp .Eq) (rEqD K) := by subst h; exact op_eqD hu
theorem neD (hu : X.A.units + 64 < cLine) : OpR X (compareOp .NotEq) (rNeD K) := by subst h; exact op_neD hu
theorem lenSeq : CallR X (.builtin "len") (fun xs H Q => ∃ p ys, xs = [.ref p] ∧ (SqL K H p ys ∨ SqT K H p ys) ∧ Q (.int ys.length) H) := by
  subst h; exact call_len_seq
theorem listOf : CallR X (.type "list") (fun xs H Q => ∃ p ys, xs = [.ref p] ∧ (SqL K H p ys ∨ SqT K H p ys) ∧
    ∀ l, H l = none → Q (.ref l) (upd H l (.lst ys))) := by subst h; exact call_list_of
theorem tupleOf : CallR X (.type "tuple") (fun xs H Q => ∃ p ys, xs = [.ref p] ∧
    ((SqL K H p ys ∧ ∀ l, H l = none → Q (.ref l) (upd H l (.tup ys))) ∨ (SqT K H p ys ∧ Q (.ref p) H))) := by subst h; exact call_tuple_of
theorem isInst : CallR X (.builtin "isinstance") (rIsi K) := by subst h; exact call_isi
theorem isInstT : CallR X (.builtin "isinstance") (rIsiT K) := by subst h; exact call_isiT
theorem sumOf (hc : X.calm = true) : CallR X (.builtin "sum") (rSum K) := by subst h; exact cr_sum hc
theorem maxOf (hc : X.calm = true) : CallR X (.builtin "max") (rMax K) := by subst h; exact cr_max hc
theorem minOf (hc : X.calm = true) : CallR X (.builtin "min") (rMin K) := by subst h; exact cr_min hc
theorem allOf (hc : X.calm = true) : CallR X (.builtin "all") (rAll K) := by subst h; exact cr_all hc
theorem anyOf (hc : X.calm = true) : CallR X (.builtin "any") (rAny K) := by subst h; exact cr_any hc
theorem slL : SlR X (rSlL K) := by subst h; exact sl_list
theorem slT : SlR X (rSlA K) := by subst h; exact sl_tupA
theorem catT : OpR X (binaryOp .Add) (rCatA K) := by subst h; exact op_catA
theorem truth {a : Expr} {ta : TE} (ha : PE X a ta)
    (he : ∀ whole, isTrue a X.env whole = (do let v ← whole; standAt a.pos; holding [v] (truthy v)) := by intro _; rfl) :
    PT X a (fun σ H Q => ta σ H fun x H' => ∃ k, TruV K x H' k ∧ Q k H') := by subst h; exact pt_truth ha he
theorem piL {tg l : Expr} {tl : TE} (hl : PE X l tl) : PI X tg l (iList K tl) := by subst h; exact pi_list hl
theorem piT {tg l : Expr} {tl : TE} (hl : PE X l tl) : PI X tg l (iTup K tl) := by subst h; exact pi_tup hl
theorem star {e : Expr} {es : List Expr} {te : TE} {t : TA} {p : Pos} (he : PE X e te) (hr : PA X es t)
    (hs : starEach (.Starred e p :: es) X.env = (true, eval e X.env) :: starEach es X.env := by rfl) :
    PA X (.Starred e p :: es) (StX.tStar K te t) := by subst h; exact StX.pa_star he hr hs
end
/-- a text so many times (a few) -/
theorem op_mul_str {X : Cx} : OpR X (binaryOp .Mult) (fun x y H Q => ∃ (z : Str) (n : Int), x = .str z ∧ y = .int n ∧ 1 ≤ n ∧ n ≤ 1000 ∧ z.length ≤ 1000 ∧ Q (.str (Txt.mul z n)) H) := by
  intro pins s σ H x y v u Q I rx ry h
  obtain ⟨z, n, rfl, rfl, h1, h2, h3, q⟩ := h
  obtain ⟨t, rfl⟩ := rx
  obtain ⟨t2, rfl⟩ := ry
  refine SB.mul ⟨by simp; omega, fun _ _ => ?_, fun _ _ => ?_⟩ fun t' k => ⟨.str _, H, I.tok k, ⟨t', rfl⟩, q⟩
  · have e : (9223372036854775 : Int) ≤ (2 ^ 63 - 1) / n := by
      rw [Int.le_ediv_iff_mul_le (by omega)]
      omega
    omega
  · have e : z.length * n.toNat ≤ 1000 * 1000 := Nat.mul_le_mul h3 (by omega)
    unfold Builtin.Str.tooLong
    rw [sizeLine_eq]
    simp
    omega
/-- a text so many times (a few, or none) -/
theorem op_mul_str0 {X : Cx} : OpR X (binaryOp .Mult) (fun x y H Q => ∃ (z : Str) (n : Int), x = .str z ∧ y = .int n ∧ 0 ≤ n ∧ n ≤ 1000 ∧ z.length ≤ 1000 ∧ Q (.str (Txt.mul z n)) H) := by
  intro pins s σ H x y v u Q I rx ry h
  obtain ⟨z, n, rfl, rfl, h1, h2, h3, q⟩ := h
  obtain ⟨t, rfl⟩ := rx
  obtain ⟨t2, rfl⟩ := ry
  refine SB.mul ⟨by simp; omega, fun hn _ => ?_, fun hn _ => ?_⟩ fun t' k => ⟨.str _, H, I.tok k, ⟨t', rfl⟩, q⟩
  · have e : (9223372036854775 : Int) ≤ (2 ^ 63 - 1) / n := by
      rw [Int.le_ediv_iff_mul_le (by omega)]
      omega
    omega
  · have e : z.length * n.toNat ≤ 1000 * 1000 := Nat.mul_le_mul h3 (by omega)
    unfold Builtin.Str.tooLong
    rw [sizeLine_eq]
    simp
    omega
theorem ifT {c : Bool} {A B : Prop} (hc : c = true) (h : A) : if c = true then A else B := by
  rw [if_pos hc]
  exact h
theorem ifF {c : Bool} {A B : Prop} (hc : c = false) (h : B) : if c = true then A else B := by
  rw [if_neg (by rw [hc]; exact Bool.false_ne_true)]
  exact h
theorem Paired.at {α β : Type} {F : α → β → Prop} : ∀ {l₁ : List α} {l₂ : List β}, Paired F l₁ l₂ → ∀ (i : Nat) (x : α), l₁[i]? = some x → ∃ y, l₂[i]? = some y ∧ F x y
  | _, _, .nil, i, x, h => by simp at h
  | _, _, .cons r t, 0, x, h => by
    have e := Option.some.inj h
    subst e
    exact ⟨_, rfl, r⟩
  | _, _, .cons r t, i + 1, x, h => Paired.at t i x h
theorem take_next {α : Type} {l : List α} {i : Nat} {x : α} (h : l[i]? = some x) : l.take i ++ [x] = l.take (i + 1) := by
  rw [List.take_succ, h]
  rfl
theorem tyL {K : PySem.W.Frag} {H : Hp} {p : Addr} {xs : List V} (h : H p = some (.lst xs)) : tyV K "list" (.ref p) H := Or.inl ⟨rfl, _, SqL.of h⟩
theorem seq_set {te : TE} {i : Nat} {u : TS} {D : Ends} {σ : St} {H : Hp} (h : te σ H fun x H1 => u D (σ.set i (some x)) H1) : tSeq (tAsg te (gName i)) u D σ H := h
theorem gn {i : Nat} {v : V} {σ : St} {H : Hp} {Q : St → Hp → Prop} (h : Q (σ.set i (some v)) H) : gName i v σ H Q := h
theorem seq_abs {t u : TS} {D : Ends} {σ : St} {H : Hp} (R : St → Hp → Prop) (hd : ∀ σ' H', R σ' H' → u D σ' H')
    (h : ∀ nx : St → Hp → Prop, (∀ σ' H', R σ' H' → nx σ' H') → t { D with nx := nx } σ H) : tSeq t u D σ H := h (u D) hd
/-! constants of a module -/
theorem pgS {X : Cx} {x z : Str} {pos : Pos} (hm : ∃ t, X.mg x = some (.str z t)) (hg : Gl X x := by rfl) (hd : (x == ("__debug__" : Str)) = false := by decide) : PE X (.Name x pos) (tC (.str z)) := by
  obtain ⟨t, hm⟩ := hm
  exact pe_glob hg hm ⟨t, rfl⟩ hd
theorem pgI {X : Cx} {x : Str} {n : Int} {pos : Pos} (hm : ∃ t, X.mg x = some (.int n t)) (hg : Gl X x := by rfl) (hd : (x == ("__debug__" : Str)) = false := by decide) : PE X (.Name x pos) (tC (.int n)) := by
  obtain ⟨t, hm⟩ := hm
  exact pe_glob hg hm ⟨t, rfl⟩ hd
theorem pgT {X : Cx} {x : Str} {a : Addr} {pos : Pos} (hm : X.mg x = some (.ref a)) (hg : Gl X x := by rfl) (hd : (x == ("__debug__" : Str)) = false := by decide) : PE X (.Name x pos) (tC (.ref a)) :=
  pe_glob hg hm rfl hd
/-- what the modules' constants are -/
structure Mn (K : PySem.W.Frag) (mg : Str → Option Value) (aT aF : Addr) : Prop where
  m_LETTERS : ∃ t, mg "LETTERS" = some (.str "abcdefghijklmnopqrstuvwxyz" t)
  m_LONGEST : ∃ t, mg "LONGEST" = some (.int 8 t)
  m_TAKEN : mg "TAKEN" = some (.ref aT)
  q_TAKEN : ∀ H, SqT K H aT [.str "num", .str "text"]
  m_MOST_KINDS : ∃ t, mg "MOST_KINDS" = some (.int 12 t)
  m_MOST_DOORS : ∃ t, mg "MOST_DOORS" = some (.int 16 t)
  m_MOST_ROWS : ∃ t, mg "MOST_ROWS" = some (.int 6 t)
  m_MOST_CALLED : ∃ t, mg "MOST_CALLED" = some (.int 3 t)
  m_DEEPEST : ∃ t, mg "DEEPEST" = some (.int 4 t)
  m_FIRST : mg "FIRST" = some (.ref aF)
  q_FIRST : ∀ H, SqT K H aF [.int 1, .int 0, .int 0]
/-- a def called by keywords alone (their names ks, in the order in which they are written) -/
structure CalN (P : Program) (w : World) (K : PySem.W.Frag) (mg : Str → Option Value) (base : Heap) (x : Str) (n : Nat) (ps ks : List Str) (gV : List V → List V → List V) (sp : Sp) : Prop where
  ex : ∃ (f : Addr) (fd : FuncData) (g : List Value → List Value → List Value), FnOk P w K mg base CX0 n f fd ps sp ∧ mg x = some (.ref f) ∧ PySem.W.keepIn K (.ref f) = true ∧ KBinds K fd ps ks g gV
theorem pckN {X : Cx} {x : Str} {n : Nat} {ps ks : List Str} {sp : Sp} {gV : List V → List V → List V} {kws : List Keyword} {tk : TA} {p pos : Pos} (C : CalN X.prog X.w X.K X.mg X.base x n ps ks gV sp) (hr : Room n X.A) (hkw : PK X kws tk) (hg : Gl X x := by rfl)
    (hdb : (x == ("__debug__" : Str)) = false := by decide)
    (hall : (backToKw pos (keywordEach kws X.env)).all (·.1.isSome) = true := by rfl)
    (hks : (backToKw pos (keywordEach kws X.env)).filterMap (·.1) = ks := by rfl)
    (hpl : ((backTo pos (starEach [] X.env)).any (·.1) || (backToKw pos (keywordEach kws X.env)).any (·.1.isNone)) = false := by rfl) :
    PE X (.Call (.Name x p) [] kws pos) (fun σ H Q => tk σ H fun zs H2 => sp (gV [] zs) H2 Q E0) := by
  obtain ⟨f, fd, g, F, hm, hk, hb⟩ := C.ex
  refine ⟨fun pins s σ H Q I h => ?_⟩
  refine wpAny_Call_Name_kw (ld_glob I hg hm ?_ hdb)
  refine PySem.W.callWith_KW0 (h₀ := X.base) I.ok.mod.kin hk hall ?_ hpl
  refine thn (hkw.run pos pins s σ H _ I h) fun ws s2 ⟨zs, H2, I2, rz, q2⟩ => ⟨I2.kIn, ?_⟩
  rw [hks]
  exact run_fnk (us := []) (vs := []) F hr hb pass0 I2 .nil rz q2
end My
namespace My
open PySem L2
def top (i : Nat) : Stmt := PySem.Challenge.pw_stillruns_k56_unfolding_refused.main.body.getD i (.Pass ⟨0, 0, 0, 0⟩)
def inClass (s : Stmt) : List Stmt := match s with
  | .ClassDef (body := b) .. => b
  | _ => []
abbrev s_parts_of : Stmt := top 12
theorem sc_parts_of : FnScope ["term", "_", "part"] ["term"] (defScope s_parts_of) := ⟨rfl, rfl, rfl, by decide +kernel, rfl, by decide +kernel, by decide +kernel⟩
abbrev s_with_parts : Stmt := top 13
theorem sc_with_parts : FnScope ["term", "parts", "row", "part"] ["term", "parts"] (defScope s_with_parts) := ⟨rfl, rfl, rfl, by decide +kernel, rfl, by decide +kernel, by decide +kernel⟩
abbrev s_walked : Stmt := top 15
theorem sc_walked : FnScope ["term", "step", "begun", "result", "at", "parts", "given", "part"] ["term", "step"] (defScope s_walked) := ⟨rfl, rfl, rfl, by decide +kernel, rfl, by decide +kernel, by decide +kernel⟩
abbrev s_rebuilt : Stmt := top 16
theorem sc_rebuilt : FnScope ["term", "change", "step"] ["term", "change"] (defScope s_rebuilt) := ⟨rfl, rfl, rfl, by decide +kernel, rfl, by decide +kernel, by decide +kernel⟩
abbrev s_filled : Stmt := top 18
theorem sc_filled : FnScope ["door", "template", "arguments", "change"] ["door", "template", "arguments"] (defScope s_filled) := ⟨rfl, rfl, rfl, by decide +kernel, rfl, by decide +kernel, by decide +kernel⟩
abbrev s_unfolded : Stmt := top 19
theorem sc_unfolded : FnScope ["bridge", "term", "templates", "change", "door", "_", "template"] ["bridge", "term"] (defScope s_unfolded) := ⟨rfl, rfl, rfl, by decide +kernel, rfl, by decide +kernel, by decide +kernel⟩
abbrev s__law_deck : Stmt := top 21
theorem sc__law_deck : FnScope ["script", "great", "fold", "cell"] ["script"] (defScope s__law_deck) := ⟨rfl, rfl, rfl, by decide +kernel, rfl, by decide +kernel, by decide +kernel⟩
abbrev s__law_take : Stmt := top 22
theorem sc__law_take : FnScope ["deck", "many", "k", "mixed", "drawn"] ["deck", "many"] (defScope s__law_take) := ⟨rfl, rfl, rfl, by decide +kernel, rfl, by decide +kernel, by decide +kernel⟩
abbrev s__law_row : Stmt := top 23
theorem sc__law_row : FnScope ["deck", "name", "entries", "holes", "template", "hole", "way", "one", "k"] ["deck", "name"] (defScope s__law_row) := ⟨rfl, rfl, rfl, by decide +kernel, rfl, by decide +kernel, by decide +kernel⟩
abbrev s__law_drawn : Stmt := top 24
theorem sc__law_drawn : FnScope ["deck", "rows", "deep", "way", "given", "name", "entries", "one", "row"] ["deck", "rows", "deep"] (defScope s__law_drawn) := ⟨rfl, rfl, rfl, by decide +kernel, rfl, by decide +kernel, by decide +kernel⟩
abbrev s__law_parts_and : Stmt := top 25
theorem sc__law_parts_and : FnScope ["prog", "change", "some", "k", "one"] ["prog", "change"] (defScope s__law_parts_and) := ⟨rfl, rfl, rfl, by decide +kernel, rfl, by decide +kernel, by decide +kernel⟩
abbrev s__law_listed : Stmt := top 26
theorem sc__law_listed : FnScope ["prog", "part", "name"] ["prog"] (defScope s__law_listed) := ⟨rfl, rfl, rfl, by decide +kernel, rfl, by decide +kernel, by decide +kernel⟩
abbrev s__law_filled : Stmt := top 27
theorem sc__law_filled : FnScope ["template", "given", "parts", "part", "one"] ["template", "given"] (defScope s__law_filled) := ⟨rfl, rfl, rfl, by decide +kernel, rfl, by decide +kernel, by decide +kernel⟩
abbrev s__law_unfolded : Stmt := top 28
theorem sc__law_unfolded : FnScope ["rows", "prog", "parts", "lacks", "row", "found", "bare", "part", "one"] ["rows", "prog"] (defScope s__law_unfolded) := ⟨rfl, rfl, rfl, by decide +kernel, rfl, by decide +kernel, by decide +kernel⟩
abbrev s__law_right : Stmt := top 29
theorem sc__law_right : FnScope ["rows", "prog", "named", "due", "door", "caught", "found", "e"] ["rows", "prog", "named"] (defScope s__law_right) := ⟨rfl, rfl, rfl, by decide +kernel, rfl, by decide +kernel, by decide +kernel⟩
abbrev s_law : Stmt := top 30
theorem sc_law : FnScope ["script", "k", "deck", "rows", "prog", "before", "j"] ["script"] (defScope s_law) := ⟨rfl, rfl, rfl, by decide +kernel, rfl, by decide +kernel, by decide +kernel⟩
structure Bn (mg : Str → Option Value) : Prop where
  b_ValueError : mg "ValueError" = none
  b_abs : mg "abs" = none
  b_all : mg "all" = none
  b_any : mg "any" = none
  b_dict : mg "dict" = none
  b_int : mg "int" = none
  b_isinstance : mg "isinstance" = none
  b_len : mg "len" = none
  b_list : mg "list" = none
  b_max : mg "max" = none
  b_min : mg "min" = none
  b_range : mg "range" = none
  b_set : mg "set" = none
  b_sorted : mg "sorted" = none
  b_str : mg "str" = none
  b_tuple : mg "tuple" = none
  b_zip : mg "zip" = none
end My
namespace My
open PySem L2
/-! general: heaps, pairs, lists -/
def But (d g : Addr) (H H' : Hp) : Prop := ∀ a o, a ≠ d → a ≠ g → H a = some o → H' a = some o
theorem But.refl (d g : Addr) (H : Hp) : But d g H H := fun _ _ _ _ h => h
theorem But.trans {d g : Addr} {H H1 H2 : Hp} (a : But d g H H1) (b : But d g H1 H2) : But d g H H2 := fun x o h1 h2 h => b x o h1 h2 (a x o h1 h2 h)
theorem But.new {d g p : Addr} {H H1 : Hp} {o : HO} (a : But d g H H1) (hp : H1 p = none) : But d g H (upd H1 p o) := fun x u h1 h2 h => by
  have q := a x u h1 h2 h
  rw [upd_ne (ne_of_none q hp)]
  exact q
theorem But.atD {d g : Addr} {H H1 : Hp} {o : HO} (a : But d g H H1) : But d g H (upd H1 d o) := fun x u h1 h2 h => by
  rw [upd_ne h1]
  exact a x u h1 h2 h
theorem But.atG {d g : Addr} {H H1 : Hp} {o : HO} (a : But d g H H1) : But d g H (upd H1 g o) := fun x u h1 h2 h => by
  rw [upd_ne h2]
  exact a x u h1 h2 h
theorem But.of_same {d g : Addr} {H H1 : Hp} (a : Same H H1) : But d g H H1 := fun x u _ _ h => a x u h
theorem same_new {H : Hp} {p : Addr} (h : H p = none) (o : HO) : Same H (upd H p o) := fun b u q => by rw [upd_ne (ne_of_none q h)]; exact q
theorem shaped_ints (ns : List Int) : SeqAt.shaped (.list (ns.map PyData.int)) = true := by
  have a : PyData.canLayAll0 (ns.map PyData.int) = true := by
    induction ns with
    | nil => rfl
    | cons x r ih => rw [List.map_cons, PyData.canLayAll0, ih]; rfl
  have b : PyData.depthAll (ns.map PyData.int) = 0 := by
    induction ns with
    | nil => rfl
    | cons x r ih => rw [List.map_cons, PyData.depthAll, ih (by rw [List.map_cons, PyData.canLayAll0] at a; exact (Bool.and_eq_true_iff.mp a).2)]; rfl
  unfold SeqAt.shaped
  rw [PyData.canLay0, a, PyData.depth, b]
  rfl
theorem dp_ints {K : PySem.W.Frag} {H : Hp} (ns : List Int) : DpAll K H (ns.map V.int) (ns.map PyData.int) := by
  induction ns with
  | nil => exact .nil
  | cons x r ih => exact .cons (.int x) ih
theorem eqv_nil (ns : List Int) : PyData.eqv (.list (ns.map PyData.int)) (.list []) = ns.isEmpty := by
  cases ns with
  | nil => simp [PyData.eqv, PyData.eqvAll]
  | cons x r => simp [PyData.eqv, PyData.eqvAll]
theorem last_of {ns : List Int} (h : ns ≠ []) : ∃ l x, ns = l ++ [x] := ⟨ns.dropLast, ns.getLast h, (List.dropLast_concat_getLast h).symm⟩
theorem abs_if (n : Int) : (if n < 0 then -n else n) = (n.natAbs : Int) := by split <;> omega
theorem Same.atNew {H0 H : Hp} {g : Addr} {o : HO} (s : Same H0 H) (h : H0 g = none) : Same H0 (upd H g o) := fun b u q => by
  rw [upd_ne (ne_of_none q h)]
  exact s b u q
structure Tups (H H' : Hp) : Prop where
  t : ∀ a xs, H a = some (.tup xs) → H' a = some (.tup xs)
  f : ∀ a u xs, H a = some (.frz u (.tup xs)) → H' a = some (.frz u (.tup xs))
instance {H H' : Hp} : CoeFun (Tups H H') (fun _ => ∀ a xs, H a = some (.tup xs) → H' a = some (.tup xs)) := ⟨Tups.t⟩
theorem Tups.of_same {H H' : Hp} (s : Same H H') : Tups H H' := ⟨fun a xs h => s a _ h, fun a u xs h => s a _ h⟩
theorem Tups.refl (H : Hp) : Tups H H := ⟨fun _ _ h => h, fun _ _ _ h => h⟩
theorem Tups.trans {H H1 H2 : Hp} (a : Tups H H1) (b : Tups H1 H2) : Tups H H2 := ⟨fun x xs h => b.t x xs (a.t x xs h), fun x u xs h => b.f x u xs (a.f x u xs h)⟩
/-- a tuple without a dict of its own -/
def FzT (H : Hp) (b : Addr) (xs : List V) : Prop := ∃ u : Obj, H b = some (.frz u (.tup xs)) ∧ u.dict = none
theorem FzT.mono {H H' : Hp} (t : Tups H H') {b : Addr} {xs : List V} (h : FzT H b xs) : FzT H' b xs := by
  obtain ⟨u, h1, h2⟩ := h
  exact ⟨u, t.f _ _ _ h1, h2⟩
theorem FzT.sq {K : PySem.W.Frag} {H : Hp} {b : Addr} {xs : List V} (h : FzT H b xs) : SqT K H b xs := by
  obtain ⟨u, h1, h2⟩ := h
  exact .inl (.inr ⟨u, h1⟩)
theorem line5 {n : Nat} (h : n ≤ 100000) : n < sizeLine := Nat.lt_of_le_of_lt h (by decide)
theorem cut_last {K : List V} {v : V} (h : K ≠ []) : ¬ (HT.sIx (K ++ [v]).length 0 (some (-1)) = 0 ∧ HT.sIx (K ++ [v]).length (K ++ [v]).length none = (K ++ [v]).length) ∧ cutV (K ++ [v]) (some (-1)) none = [v] := by
  have e : HT.sIx (K ++ [v]).length 0 (some (-1)) = K.length := by
    show (if (-1 : Int) < 0 then ((-1 : Int) + ((K ++ [v]).length : Int)).toNat else min (-1 : Int).toNat (K ++ [v]).length) = K.length
    rw [if_pos (by decide), List.length_append, List.length_singleton]
    omega
  have e2 : HT.sIx (K ++ [v]).length (K ++ [v]).length none = K.length + 1 := by
    rw [HT.sIx_none, List.length_append, List.length_singleton]
  constructor
  · rintro ⟨a, _⟩
    rw [e] at a
    exact h (List.eq_nil_of_length_eq_zero a)
  · unfold cutV
    rw [e, e2, List.drop_left, Nat.add_sub_cancel_left]
    rfl
theorem pair_app {α β : Type} {F : α → β → Prop} : ∀ {l₁ r₁ : List α} {l₂ r₂ : List β}, Paired F l₁ l₂ → Paired F r₁ r₂ → Paired F (l₁ ++ r₁) (l₂ ++ r₂)
  | _, _, _, _, .nil, h => h
  | _, _, _, _, .cons r t, h => .cons r (pair_app t h)
theorem pair_snoc {α β : Type} {F : α → β → Prop} {x : α} : ∀ {l : List α} {ns : List β}, Paired F (l ++ [x]) ns → ∃ nl k, ns = nl ++ [k] ∧ Paired F l nl ∧ F x k
  | [], _, .cons r .nil => ⟨[], _, rfl, .nil, r⟩
  | _ :: l, _, .cons r t => by
    obtain ⟨nl, k, e, p, q⟩ := pair_snoc (l := l) t
    exact ⟨_ :: nl, k, by rw [e]; rfl, .cons r p, q⟩
theorem le_sum {k : Nat} : ∀ {ns : List Nat}, k ∈ ns → k ≤ ns.sum
  | x :: r, h => by
    rw [List.sum_cons]
    rcases List.mem_cons.mp h with rfl | h
    · omega
    · have := le_sum h
      omega
theorem sum_cast (ns : List Nat) : (ns.map fun n : Nat => (n : Int)).sum = (ns.sum : Int) := by
  induction ns with
  | nil => rfl
  | cons x r ih => rw [List.map_cons, List.sum_cons, ih, List.sum_cons]; omega
theorem Tups.upd {H : Hp} {p : Addr} {xs : List V} {o : HO} (h : H p = some (.lst xs)) : Tups H (upd H p o) := ⟨fun a ys e => by
  rw [upd_ne (ne_of e h (by intro z; cases z))]
  exact e, fun a u ys e => by
  rw [upd_ne (ne_of e h (by intro z; cases z))]
  exact e⟩
theorem pair_take {α β : Type} {F : α → β → Prop} : ∀ {l₁ : List α} {l₂ : List β} (k : Nat), Paired F l₁ l₂ → Paired F (l₁.take k) (l₂.take k)
  | _, _, 0, _ => .nil
  | _, _, _ + 1, .nil => .nil
  | _, _, k + 1, .cons r t => .cons r (pair_take k t)
theorem take_sum_le : ∀ (ns : List Nat) (k : Nat), (ns.take k).sum ≤ ns.sum
  | [], k => by simp
  | x :: r, 0 => by simp
  | x :: r, k + 1 => by
    have := take_sum_le r k
    rw [List.take_succ_cons, List.sum_cons, List.sum_cons]
    omega
theorem cut_ints (ns : List Int) (lo hi : Option Int) : ∃ ns' : List Int, cutV (ns.map V.int) lo hi = ns'.map V.int ∧ ns'.length ≤ ns.length := by
  refine ⟨(ns.drop (HT.sIx (ns.map V.int).length 0 lo)).take (HT.sIx (ns.map V.int).length (ns.map V.int).length hi - HT.sIx (ns.map V.int).length 0 lo), ?_, ?_⟩
  · unfold cutV
    rw [List.map_take, List.map_drop]
  · rw [List.length_take, List.length_drop]
    omega
theorem But.atNew {d g p : Addr} {H0 H : Hp} {o : HO} (b : But d g H0 H) (h : H0 p = none) : But d g H0 (upd H p o) := fun a u h1 h2 e => by
  rw [upd_ne (ne_of_none e h)]
  exact b a u h1 h2 e
end My
namespace My
open PySem PySem.Spec PyProof.Rows L2
/-! tuple(list) that tells that it has no dict of its own; dict(..) of such a tuple of pairs -/
theorem tupleOfF (K : PySem.W.Frag) {X : Cx} (eK : X.K = K) : CallR X (.type "tuple") (fun xs H Q => ∃ p ys, xs = [.ref p] ∧ SqL K H p ys ∧ ∀ l (u : Obj), H l = none → u.dict = none → Q (.ref l) (upd H l (.frz u (.tup ys)))) := by
  subst eK
  intro pins s σ H xs us Q I r h
  obtain ⟨p, ys, rfl, hq, q⟩ := h
  obtain ⟨u, rfl, rx⟩ := vals1 r
  cases rx
  obtain ⟨its, r', pl, hz⟩ := I.list hq
  have hlen := r'.length
  refine call_tuple_list pl.isList (fun h' kp => ?_) (by simp only [List.size_toArray] <;> omega)
  have I1 : Inv X pins σ H { s with heap := h' } := I.kept (t' := s.toks) kp
  have I2 : Inv X pins σ (upd H h'.objs.size (.frz { cls := .type "tuple", data := .seq its.toArray } (.tup ys))) { s with heap := h'.push { cls := .type "tuple", data := .seq its.toArray } } :=
    I1.laid (t' := s.toks) (fun b o e => Heap.get?_push_of_some _ e) (Nat.le_refl _) (show ObjOk X.prog X.w _ _ _ (.frz _ (.tup ys)) from ⟨Heap.get?_push_size _ rfl, hz, its, r', IsTup.new _ _⟩)
  exact ⟨.ref h'.objs.size, _, I2, rfl, q _ _ (I1.hok.fresh (Nat.le_refl _)) rfl⟩
section
variable {X : Cx}
theorem pairs_ofU {pins : List (Addr × Obj)} {σ : L2.St} {H : Hp} {s : Shared} (I : Inv X pins σ H s) : ∀ {ps : List Addr} {kvs : List (Key × V)}, Paired (fun p kv => SqT X.K H p [kV kv.1, kv.2]) ps kvs →
    ∃ (prs : List (Key × Value)) (uvs : List (Value × Value)), KV kvs prs ∧ prs.length = ps.length ∧ uvs.length = ps.length ∧
      ∀ (j : Nat) (u v : Value), uvs[j]? = some (u, v) → ∃ (b : Addr) (k : Key), ps[j]? = some b ∧ prs[j]? = some (k, v) ∧ IsTup s.heap b #[u, v] ∧ keyIs k u = true
  | _, _, .nil => ⟨[], [], .nil, rfl, rfl, fun j u v e => by simp at e⟩
  | _, _, .cons (a := p) (b := kv) h t => by
    obtain ⟨prs, uvs, r, hl, hl2, hp⟩ := pairs_ofU I t
    obtain ⟨its, rv, ht, _⟩ := I.tuple h
    obtain ⟨u, y, ei, ru, ry⟩ := vals2 rv
    subst ei
    refine ⟨(kv.1, y) :: prs, (u, y) :: uvs, .cons ⟨rfl, ry⟩ r, by rw [List.length_cons, List.length_cons, hl], by rw [List.length_cons, List.length_cons, hl2], fun j u' v' e => ?_⟩
    cases j with
    | zero =>
      have e' : (u, y) = (u', v') := Option.some.inj e
      cases e'
      exact ⟨p, kv.1, rfl, rfl, ht, kV_is (P := X.prog) (w := X.w) ru⟩
    | succ j =>
      obtain ⟨b, k, e1, e2, e3, e4⟩ := hp j u' v' (by simpa using e)
      exact ⟨b, k, by simpa using e1, by simpa using e2, e3, e4⟩
theorem call_dictF (K : PySem.W.Frag) (eK : X.K = K) (hcalm : X.calm = true) : CallR X (.type "dict") (fun xs H Q => ∃ (b : Addr) (ps : List Addr) (kvs : List (Key × V)), xs = [.ref b] ∧ FzT H b (ps.map V.ref) ∧ Paired (fun p kv => SqT K H p [kV kv.1, kv.2]) ps kvs ∧
    ∀ p, H p = none → Q (.ref p) (upd H p (.dK (mergeK [] kvs)))) := by
  subst eK
  intro pins s σ H xs us Q I r q
  obtain ⟨b, ps, kvs, ex, ⟨ob, hfz, hdn⟩, hp, q⟩ := q
  subst ex
  obtain ⟨u, eu, rx⟩ := vals1 r
  subst eu
  cases rx
  obtain ⟨hg, hz, its, rv, ob', hg', hc, n, hd⟩ := (show ObjOk X.prog X.w H s.heap b (.frz ob (.tup (ps.map V.ref))) from I.hok b _ hfz)
  rw [hg] at hg'
  cases hg'
  have ei := refs_at rv
  subst ei
  rw [List.length_map] at hz
  obtain ⟨prs, uvs, rel, hl, hl2, hpr⟩ := pairs_ofU I hp
  have pi : PairItems s.heap (ps.map Value.ref).toArray (fun j => ps.getD j 0) uvs := ⟨by simp [hl2], fun j k v e => by
    obtain ⟨b', k', e1, e2, e3, e4⟩ := hpr j k v e
    refine ⟨?_, .inl ?_⟩
    · simp [e1]
    · have e5 : ps.getD j 0 = b' := by rw [List.getD_eq_getElem?_getD, e1]; rfl
      show s.heap.IsTuple (ps.getD j 0) #[k, v]
      rw [e5]
      exact e3⟩
  refine PySem.call_dict_pairs (knd := mixKind X.prog X.w) (kvs := prs) (PairArg.tuple b (ps.map Value.ref).toArray (fun j => ps.getD j 0) uvs) (I.ok.hd hcalm) ⟨⟨ob, n, hg, hc, hdn, hd⟩, pi⟩ ⟨by rw [hl, hl2], fun i key v e => ?_⟩ (by rw [hl2]; exact hz) fun h' tk hd' k => ?_
  · obtain ⟨b', k', e1, e2, e3, e4⟩ := hpr i key v e
    exact ⟨k', e2, e4⟩
  · have hm : (s.heap.objs.size == sysModules) = false := beq_eq_false_iff_ne.mpr (Nat.ne_of_gt I.big)
    have hlen : (mergeK [] kvs).length ≤ sizeLine := by
      refine Nat.le_trans (length_mergeK kvs []) ?_
      rw [List.length_nil, Nat.zero_add, rel.length, hl]
      exact hz
    exact ⟨.ref s.heap.objs.size, upd H s.heap.objs.size (.dK (mergeK [] kvs)), I.laid (t' := tk) (fun b o e => k b o (fun h => nomatch h) e) (Nat.le_refl _) (show ObjOk X.prog X.w _ _ _ (.dK (mergeK [] kvs)) from ⟨hlen, hm, merged [] prs, KV.merge rel .nil, hd'⟩), rfl, q _ (I.hok.fresh (Nat.le_refl _))⟩
end
end My
namespace My
open PySem PySem.Spec PyProof.Rows L2
/-! a written tuple, and a sum of two tuples, that tell that they have no dict of their own -/
def tTupF (t : TA) : TE := fun σ H Q => t σ H fun xs H1 => xs.length ≤ sizeLine ∧ ∀ p (u : Obj), H1 p = none → u.dict = none → Q (.ref p) (upd H1 p (.frz u (.tup xs)))
section
variable {X : Cx} {es : List Expr} {t : TA} {pos : Pos}
theorem pe_tupF {c} (h : PA X es t) : PE X (.Tuple es c pos) (tTupF t) := by
  refine ⟨fun pins s0 σ H Q I hq => ?_⟩
  refine wpAny_Tuple_spliced (thn (h.run pos pins s0 σ H _ I hq) fun us s1 ⟨xs, H1, J, r, z, q⟩ => ?_)
  have free : H1 s1.heap.objs.size = none := J.hok.fresh (Nat.le_refl _)
  refine ⟨by rw [← r.length]; exact z, .ref s1.heap.objs.size, _, J.laid (t' := s1.toks) (o := .frz { cls := .type "tuple", data := .seq us.toArray } (.tup xs)) (fun b v e => Heap.get?_push_of_some _ e) (Nat.le_refl _) ?_, rfl, q _ _ free rfl⟩
  exact ⟨Heap.get?_push_size _ rfl, z, us, r, IsTup.new _ _⟩
/-- t + u, of which the second one is not empty -/
def rCatF (K : PySem.W.Frag) : R2 := fun x y H Q => ∃ a b xs ys, x = .ref a ∧ y = .ref b ∧ SqT K H a xs ∧ SqT K H b ys ∧ ys ≠ [] ∧ xs.length + ys.length ≤ sizeLine ∧
  (xs = [] → Q (.ref b) H) ∧ (xs ≠ [] → ∀ p (u : Obj), H p = none → u.dict = none → Q (.ref p) (upd H p (.frz u (.tup (xs ++ ys)))))
theorem op_catF (K : PySem.W.Frag) (eK : X.K = K) : OpR X (binaryOp .Add) (rCatF K) := by
  subst eK
  intro pins s0 σ H x y v u Q I rx ry h
  obtain ⟨a, b, xs, ys, rfl, rfl, ha, hb, ny, hz, w0, w2⟩ := h
  cases rx
  cases ry
  obtain ⟨vs, r1, p1, _⟩ := I.tuple ha
  obtain ⟨ws, r2, p2, _⟩ := I.tuple hb
  by_cases hx : xs = []
  · subst hx
    cases r1
    exact cat_tup0 p1 p2 ⟨.ref b, H, I, rfl, w0 rfl⟩
  have sz : vs.length + ws.length ≤ sizeLine := by rw [← r1.length, ← r2.length]; exact hz
  refine HT.cat_tup p1 p2 (fun z => hx (r1.nil_iff.mp z)) (fun z => absurd (r2.nil_iff.mp z) ny) (fun _ => ?_) sz
  have free : H s0.heap.objs.size = none := I.hok.fresh (Nat.le_refl _)
  refine ⟨.ref s0.heap.objs.size, _, I.laid (t' := s0.toks) (o := .frz { cls := .type "tuple", data := .seq (vs ++ ws).toArray } (.tup (xs ++ ys))) (fun b v e => Heap.get?_push_of_some _ e) (Nat.le_refl _) ?_, rfl, w2 hx _ _ free rfl⟩
  refine ⟨Heap.get?_push_size _ rfl, by rw [List.length_append]; exact hz, vs ++ ws, r1.append r2, IsTup.new _ _⟩
theorem rCatF_of {K : PySem.W.Frag} {H : Hp} {Q : V → Hp → Prop} {a b : Addr} {xs ys : List V} (ha : SqT K H a xs) (hb : FzT H b ys) (ny : ys ≠ []) (l : xs.length + ys.length ≤ sizeLine) (q : ∀ c H', Same H H' → FzT H' c (xs ++ ys) → Q (.ref c) H') : rCatF K (.ref a) (.ref b) H Q :=
  ⟨a, b, xs, ys, rfl, rfl, ha, hb.sq, ny, l, fun z => by
    subst z
    exact q b H (Same.refl _) hb, fun _ p u np hu => q p _ (same_new np _) ⟨u, upd_same, hu⟩⟩
end
end My
namespace My
open PySem PySem.Spec PyProof.Rows L2
class IsTplC (p : Prop) (H : outParam Hp) (a : outParam Addr) (xs : outParam (List V)) (K : PySem.W.Frag) : Prop where
  sq : p → SqT K H a xs
instance {K : PySem.W.Frag} {H : Hp} {a : Addr} {xs : List V} : IsTplC (H a = some (.tup xs)) H a xs K := ⟨SqT.of⟩
instance {K : PySem.W.Frag} {H : Hp} {a : Addr} {xs : List V} : IsTplC (FzT H a xs) H a xs K := ⟨FzT.sq⟩
theorem SqX {p : Prop} {K : PySem.W.Frag} {H : Hp} {a : Addr} {xs : List V} (h : p) [i : IsTplC p H a xs K] : SqT K H a xs := i.sq h
class MvS (p : Prop) (H H' : Hp) (q : outParam Prop) : Prop where
  mv : Same H H' → p → q
instance {H H' : Hp} {a : Addr} {o : HO} : MvS (H a = some o) H H' (H' a = some o) := ⟨fun s h => s _ _ h⟩
instance {H H' : Hp} {a : Addr} {xs : List V} : MvS (FzT H a xs) H H' (FzT H' a xs) := ⟨fun s h => h.mono (Tups.of_same s)⟩
theorem mvS {p q : Prop} {H H' : Hp} (s : Same H H') (h : p) [i : MvS p H H' q] : q := i.mv s h
end My
namespace My
open PySem L2
/-! terms -/
/-- what a term is by itself, its parts left out -/
inductive Hd where
  | num (i : Int) | text (z : Str) | hole (x : Str)
  | call (x : Str) (ns : List Str) | make (x : Str) (ns : List Str) | get (x : Str)
  | bare (x c : Str) | case (x c : Str) | as_ (x : Str) | look (xs : List Str) | one | answer (n : Int) | ask
  | handed (x p : Str) (i : Int) (ns : List Str)
inductive Tm where
  | nd (h : Hd) (ts : List Tm)
mutual
def Tm.size : Tm → Nat
  | .nd _ ts => Tm.sizes ts + 1
def Tm.sizes : List Tm → Nat
  | [] => 0
  | t :: r => t.size + Tm.sizes r
end
mutual
def Tm.depth : Tm → Nat
  | .nd _ ts => Tm.depths ts + 1
def Tm.depths : List Tm → Nat
  | [] => 0
  | t :: r => max t.depth (Tm.depths r)
end
def Tm.hd : Tm → Hd
  | .nd h _ => h
def Tm.parts : Tm → List Tm
  | .nd _ ts => ts
theorem Tm.eta (t : Tm) : t = .nd t.hd t.parts := by
  cases t
  rfl
theorem Tm.size_parts (t : Tm) : t.size = Tm.sizes t.parts + 1 := by
  cases t
  rfl
theorem Tm.sizes_app : ∀ (a b : List Tm), Tm.sizes (a ++ b) = Tm.sizes a + Tm.sizes b
  | [], b => by simp [Tm.sizes]
  | t :: r, b => by
    rw [List.cons_append, Tm.sizes, Tm.sizes, Tm.sizes_app r b]
    omega
theorem Tm.sizes_mem {t : Tm} : ∀ {ts : List Tm}, t ∈ ts → t.size ≤ Tm.sizes ts
  | x :: r, h => by
    rw [Tm.sizes]
    rcases List.mem_cons.mp h with rfl | h
    · omega
    · have := Tm.sizes_mem h
      omega
theorem Tm.depths_mem {t : Tm} : ∀ {ts : List Tm}, t ∈ ts → t.depth ≤ Tm.depths ts
  | x :: r, h => by
    rw [Tm.depths]
    rcases List.mem_cons.mp h with rfl | h
    · omega
    · have := Tm.depths_mem h
      omega
theorem Tm.len_sizes : ∀ (ts : List Tm), ts.length ≤ Tm.sizes ts
  | [] => Nat.le_refl _
  | t :: r => by
    have := Tm.len_sizes r
    have := t.size_parts
    rw [List.length_cons, Tm.sizes]
    omega
/-- rows (name, part) -/
inductive ArgsAt (H : Hp) : List V → List Str → List V → Prop
  | nil : ArgsAt H [] [] []
  | cons {b : Addr} {x : Str} {p : V} {qs ps : List V} {ns : List Str} (h : H b = some (.tup [.str x, p])) (t : ArgsAt H qs ns ps) : ArgsAt H (.ref b :: qs) (x :: ns) (p :: ps)
theorem ArgsAt.mono {H H' : Hp} (t : Tups H H') {qs ps : List V} {ns : List Str} (h : ArgsAt H qs ns ps) : ArgsAt H' qs ns ps := by
  induction h with
  | nil => exact .nil
  | cons h _ ih => exact .cons (t _ _ h) ih
theorem ArgsAt.len {H : Hp} {qs ps : List V} {ns : List Str} (h : ArgsAt H qs ns ps) : qs.length = ps.length ∧ ns.length = ps.length := by
  induction h with
  | nil => exact ⟨rfl, rfl⟩
  | cons h _ ih => exact ⟨congrArg (· + 1) ih.1, congrArg (· + 1) ih.2⟩
theorem ArgsAt.get {H : Hp} {qs ps : List V} {ns : List Str} (h : ArgsAt H qs ns ps) : ∀ (i : Nat) (q : V), qs[i]? = some q → ∃ b x p, q = .ref b ∧ ns[i]? = some x ∧ ps[i]? = some p ∧ H b = some (.tup [.str x, p]) := by
  induction h with
  | nil => intro i q e; simp at e
  | cons h _ ih =>
    intro i q e
    cases i with
    | zero =>
      have e := Option.some.inj e
      exact ⟨_, _, _, e.symm, rfl, rfl, h⟩
    | succ i => exact ih i q e
theorem ArgsAt.app {H : Hp} {qs ps : List V} {ns : List Str} (h : ArgsAt H qs ns ps) {b : Addr} {x : Str} {p : V} (hb : H b = some (.tup [.str x, p])) : ArgsAt H (qs ++ [.ref b]) (ns ++ [x]) (ps ++ [p]) := by
  induction h with
  | nil => exact .cons hb .nil
  | cons h _ ih => exact .cons h ih
/-- v stands for a term that is by itself hd, with the parts ps -/
inductive NdAt (H : Hp) : V → Hd → List V → Prop
  | num {a : Addr} {i : Int} (h : H a = some (.tup [.str "num", .int i])) : NdAt H (.ref a) (.num i) []
  | text {a : Addr} {z : Str} (h : H a = some (.tup [.str "text", .str z])) : NdAt H (.ref a) (.text z) []
  | hole {a : Addr} {x : Str} (h : H a = some (.tup [.str "hole", .str x])) : NdAt H (.ref a) (.hole x) []
  | call {a g : Addr} {x : Str} {ns : List Str} {qs ps : List V} (h : H a = some (.tup [.str "call", .str x, .ref g])) (hg : FzT H g qs) (hq : ArgsAt H qs ns ps) : NdAt H (.ref a) (.call x ns) ps
  | make {a g : Addr} {x : Str} {ns : List Str} {qs ps : List V} (h : H a = some (.tup [.str "make", .str x, .ref g])) (hg : FzT H g qs) (hq : ArgsAt H qs ns ps) : NdAt H (.ref a) (.make x ns) ps
  | get {a b : Addr} {x : Str} (h : H a = some (.tup [.str "get", .str x, .ref b])) : NdAt H (.ref a) (.get x) [.ref b]
  | bare {a : Addr} {x c : Str} (h : H a = some (.tup [.str "case", .str x, .str c, .non])) : NdAt H (.ref a) (.bare x c) []
  | case {a b : Addr} {x c : Str} (h : H a = some (.tup [.str "case", .str x, .str c, .ref b])) : NdAt H (.ref a) (.case x c) [.ref b]
  | as_ {a b : Addr} {x : Str} (h : H a = some (.tup [.str "as", .str x, .ref b])) : NdAt H (.ref a) (.as_ x) [.ref b]
  | look {a b g : Addr} {xs : List Str} (h : H a = some (.tup [.str "look", .ref g, .ref b])) (hg : H g = some (.tup (xs.map V.str))) : NdAt H (.ref a) (.look xs) [.ref b]
  | one {a b : Addr} (h : H a = some (.tup [.str "one", .ref b])) : NdAt H (.ref a) .one [.ref b]
  | answer {a b : Addr} {n : Int} (h : H a = some (.tup [.str "answer", .int n, .ref b])) : NdAt H (.ref a) (.answer n) [.ref b]
  | ask {a g : Addr} {v : V} {vs : List V} (h : H a = some (.tup [.str "ask", v, .ref g])) (hg : H g = some (.tup vs)) : NdAt H (.ref a) .ask (v :: vs)
  | handed {a g : Addr} {x p : Str} {i : Int} {ns : List Str} {qs ps : List V} (h : H a = some (.tup [.str "handed", .str x, .str p, .int i, .ref g])) (hg : FzT H g qs) (hq : ArgsAt H qs ns ps) : NdAt H (.ref a) (.handed x p i ns) ps
theorem NdAt.mono {H H' : Hp} (t : Tups H H') {v : V} {h : Hd} {ps : List V} (n : NdAt H v h ps) : NdAt H' v h ps := by
  cases n with
  | num h => exact .num (t _ _ h)
  | text h => exact .text (t _ _ h)
  | hole h => exact .hole (t _ _ h)
  | call h hg hq => exact .call (t _ _ h) (hg.mono t) (hq.mono t)
  | make h hg hq => exact .make (t _ _ h) (hg.mono t) (hq.mono t)
  | get h => exact .get (t _ _ h)
  | bare h => exact .bare (t _ _ h)
  | case h => exact .case (t _ _ h)
  | as_ h => exact .as_ (t _ _ h)
  | look h hg => exact .look (t _ _ h) (t _ _ hg)
  | one h => exact .one (t _ _ h)
  | answer h => exact .answer (t _ _ h)
  | ask h hg => exact .ask (t _ _ h) (t _ _ hg)
  | handed h hg hq => exact .handed (t _ _ h) (hg.mono t) (hq.mono t)
theorem NdAt.ref {H : Hp} {v : V} {h : Hd} {ps : List V} (n : NdAt H v h ps) : ∃ a xs, v = .ref a ∧ H a = some (.tup xs) := by
  cases n <;> exact ⟨_, _, rfl, ‹_›⟩
mutual
inductive TmAt (H : Hp) : V → Tm → Prop
  | nd {v : V} {h : Hd} {ps : List V} {ts : List Tm} (n : NdAt H v h ps) (hs : TmsAt H ps ts) : TmAt H v (.nd h ts)
inductive TmsAt (H : Hp) : List V → List Tm → Prop
  | nil : TmsAt H [] []
  | cons {v : V} {vs : List V} {t : Tm} {ts : List Tm} (h : TmAt H v t) (r : TmsAt H vs ts) : TmsAt H (v :: vs) (t :: ts)
end
mutual
theorem TmAt.mono {H H' : Hp} (t : Tups H H') : ∀ {x : Tm} {v : V}, TmAt H v x → TmAt H' v x
  | .nd _ _, _, .nd n hs => .nd (n.mono t) (TmsAt.mono t hs)
theorem TmsAt.mono {H H' : Hp} (t : Tups H H') : ∀ {xs : List Tm} {vs : List V}, TmsAt H vs xs → TmsAt H' vs xs
  | [], _, .nil => .nil
  | _ :: _, _, .cons h r => .cons (TmAt.mono t h) (TmsAt.mono t r)
end
theorem TmsAt.len {H : Hp} : ∀ {xs : List Tm} {vs : List V}, TmsAt H vs xs → vs.length = xs.length
  | [], _, .nil => rfl
  | _ :: _, _, .cons _ r => by rw [List.length_cons, TmsAt.len r, List.length_cons]
theorem TmsAt.get {H : Hp} : ∀ {xs : List Tm} {vs : List V}, TmsAt H vs xs → ∀ (i : Nat) (t : Tm), xs[i]? = some t → ∃ v, vs[i]? = some v ∧ TmAt H v t
  | [], _, .nil, i, t, h => by simp at h
  | _ :: _, _, .cons a r, 0, t, h => by
    have e := Option.some.inj h
    subst e
    exact ⟨_, rfl, a⟩
  | _ :: _, _, .cons a r, i + 1, t, h => TmsAt.get r i t h
theorem TmsAt.app {H : Hp} : ∀ {ts : List Tm} {vs : List V}, TmsAt H vs ts → ∀ {v : V} {t : Tm}, TmAt H v t → TmsAt H (vs ++ [v]) (ts ++ [t])
  | [], _, .nil, _, _, h => .cons h .nil
  | _ :: _, _, .cons a r, _, _, h => .cons a (TmsAt.app r h)
theorem TmAt.ref {H : Hp} {v : V} {t : Tm} (h : TmAt H v t) : ∃ a xs, v = .ref a ∧ H a = some (.tup xs) := by
  cases h with
  | nd n _ => exact n.ref
theorem TmAt.node {H : Hp} {v : V} {t : Tm} (h : TmAt H v t) : ∃ ps, NdAt H v t.hd ps ∧ TmsAt H ps t.parts := by
  cases h with
  | nd n hs => exact ⟨_, n, hs⟩
/-- by the word: what a walk over the parts meets -/
inductive Wrd (H : Hp) (xs ps : List V) : Prop
  | leaf (w : Str) (K : List V) (v : V) (e : xs = (.str w :: K) ++ [v]) (h1 : inV (.str w) [.str "num", .str "text", .str "hole"] = true ∨ (inV (.str w) [.str "num", .str "text", .str "hole"] = false ∧ v = .non))
      (h2 : inV (.str w) [.str "call", .str "make", .str "handed"] = false) (h3 : decide (V.str w = .str "ask") = false) (hp : ps = [])
  | args (w : Str) (K : List V) (g : Addr) (qs : List V) (ns : List Str) (e : xs = (.str w :: K) ++ [.ref g]) (h1 : inV (.str w) [.str "num", .str "text", .str "hole"] = false)
      (h2 : inV (.str w) [.str "call", .str "make", .str "handed"] = true) (hg : FzT H g qs) (h : ArgsAt H qs ns ps)
  | ask (v : V) (g : Addr) (vs : List V) (e : xs = [.str "ask", v, .ref g]) (hg : H g = some (.tup vs)) (hp : ps = v :: vs)
  | last (w : Str) (K : List V) (b : Addr) (e : xs = (.str w :: K) ++ [.ref b]) (h1 : inV (.str w) [.str "num", .str "text", .str "hole"] = false)
      (h2 : inV (.str w) [.str "call", .str "make", .str "handed"] = false) (h3 : decide (V.str w = .str "ask") = false) (hp : ps = [.ref b])
theorem NdAt.wrd {H : Hp} {v : V} {h : Hd} {ps : List V} (n : NdAt H v h ps) : ∃ a xs, v = .ref a ∧ H a = some (.tup xs) ∧ Wrd H xs ps := by
  cases n with
  | num h => exact ⟨_, _, rfl, h, .leaf "num" [] _ rfl (.inl rfl) rfl (by decide) rfl⟩
  | text h => exact ⟨_, _, rfl, h, .leaf "text" [] _ rfl (.inl rfl) rfl (by decide) rfl⟩
  | hole h => exact ⟨_, _, rfl, h, .leaf "hole" [] _ rfl (.inl rfl) rfl (by decide) rfl⟩
  | call h hg hq => exact ⟨_, _, rfl, h, .args "call" [_] _ _ _ rfl rfl rfl hg hq⟩
  | make h hg hq => exact ⟨_, _, rfl, h, .args "make" [_] _ _ _ rfl rfl rfl hg hq⟩
  | get h => exact ⟨_, _, rfl, h, .last "get" [_] _ rfl rfl rfl (by decide) rfl⟩
  | bare h => exact ⟨_, _, rfl, h, .leaf "case" [_, _] .non rfl (.inr ⟨rfl, rfl⟩) rfl (by decide) rfl⟩
  | case h => exact ⟨_, _, rfl, h, .last "case" [_, _] _ rfl rfl rfl (by decide) rfl⟩
  | as_ h => exact ⟨_, _, rfl, h, .last "as" [_] _ rfl rfl rfl (by decide) rfl⟩
  | look h hg => exact ⟨_, _, rfl, h, .last "look" [_] _ rfl rfl rfl (by decide) rfl⟩
  | one h => exact ⟨_, _, rfl, h, .last "one" [] _ rfl rfl rfl (by decide) rfl⟩
  | answer h => exact ⟨_, _, rfl, h, .last "answer" [_] _ rfl rfl rfl (by decide) rfl⟩
  | ask h hg => exact ⟨_, _, rfl, h, .ask _ _ _ rfl hg rfl⟩
  | handed h hg hq => exact ⟨_, _, rfl, h, .args "handed" [_, _, _] _ _ _ rfl rfl rfl hg hq⟩
theorem at_head {w : Str} {K : List V} {v : V} : atI ((.str w :: K) ++ [v]) 0 = some (.str w) := at_of rfl rfl
end My
namespace My
open PySem L2
/-- parts_of: a new list of the parts -/
def spParts : Sp := fun vs H Q _ => ∃ (v : V) (h : Hd) (ps : List V), vs = [v] ∧ NdAt H v h ps ∧ ps.length ≤ 100000 ∧
  ∀ (r : Addr) (H' : Hp), H r = none → H' r = some (.lst ps) → Same H H' → Q (.ref r) H'
def Pcol (H0 : Hp) (D : Addr) (ps : List V) (i : Nat) (H : Hp) : Prop := Same H0 H ∧ H D = some (.lst (ps.take i))
section
variable {P : Program} {w : World} {K : PySem.W.Frag} {mg : Str → Option Value} {base : Heap} {f : Addr} {fd : FuncData}
theorem ok_parts (F : Fun K "parts_of" "parts_of" s_parts_of f fd) : FnOk P w K mg base CX0 1 f fd ["term"] spParts := by
  refine F.ok sc_parts_of (fun vs H Q E h => ?_) (fun cdv A outer s H vs Q E hr h => ?_)
  · obtain ⟨v, h, ps, rfl, _⟩ := h
    rfl
  obtain ⟨v, hd, ps, rfl, hn, hl, q⟩ := h
  refine ⟨_, (pss_cons (ps_if (pt_cmpR (inSeq K rfl) (pe_ix (ixT K rfl) (pv 0) pe_int (fun _ _ => rfl)) (pe_tup (pa_cons pe_str (pa_cons pe_str (pa_cons pe_str pa_nil)))) (by rfl)) (pss_one (ps_ret (pe_lst pa_nil))) pss_nil)
    (pss_cons (ps_if (pt_cmpR (inSeq K rfl) (pe_ix (ixT K rfl) (pv 0) pe_int (fun _ _ => rfl)) (pe_tup (pa_cons pe_str (pa_cons pe_str (pa_cons pe_str pa_nil)))) (by rfl)) (pss_one (ps_ret (pe_lc (own := [("_", 1), ("part", 2)]) (g := (gTup K 2 (gCons (gName 1) (gCons (gName 2) gNil)))) rfl sc_parts_of.nd (piT K rfl (pe_ix (ixT K rfl) (pv 0) (pe_un un_neg pe_int) (fun _ _ => rfl))) (blkOk_by (N := ["term", "_", "part"]) (sc := defScope s_parts_of) (by decide +kernel)) (fun _ _ _ _ _ => (pg_tup rfl (pgs_cons (pg_name (i := 1) sc_parts_of.nd rfl (Or.inl rfl) (hf := Or.inr rfl)) (pgs_cons (pg_name (i := 2) sc_parts_of.nd rfl (Or.inl rfl) (hf := Or.inr rfl)) pgs_nil)))) (fun _ _ _ _ _ => pts_nil) (fun _ _ _ _ _ => (pv 2))))) pss_nil)
    (pss_cons (ps_if (pt_cmpR op_eq (pe_ix (ixT K rfl) (pv 0) pe_int (fun _ _ => rfl)) pe_str (nomark _)) (pss_one (ps_ret (pe_lst (pa_cons (pe_ix (ixT K rfl) (pv 0) pe_int (fun _ _ => rfl)) (star K rfl (pe_ix (ixT K rfl) (pv 0) pe_int (fun _ _ => rfl)) pa_nil))))) pss_nil)
    (pss_one (ps_ret (pe_ifExp (pt_cmpR op_isN (pe_ix (ixT K rfl) (pv 0) (pe_un un_neg pe_int) (fun _ _ => rfl)) pe_non (nomark _)) (pe_lst pa_nil) (pe_lst (pa_cons (pe_ix (ixT K rfl) (pv 0) (pe_un un_neg pe_int) (fun _ _ => rfl)) pa_nil)))))))), ?_⟩
  obtain ⟨a, xs, rfl, ha, W⟩ := hn.wrd
  clear hn
  cases W with
  | leaf w L v e h1 h2 h3 hp =>
    subst e hp
    refine ⟨_, rfl, _, _, _, _, rfl, rfl, SqT.of ha, at_head, (by show 3 ≤ sizeLine; decide), fun t1 n1 => ⟨t1, _, rfl, .inr (SqT.of upd_same), rfl, rfl, _, rfl, ?_⟩⟩
    have S1 := same_new n1 (.tup [V.str "num", V.str "text", V.str "hole"])
    generalize upd H t1 (.tup [V.str "num", V.str "text", V.str "hole"]) = H1 at S1
    rcases h1 with h1 | ⟨h1, rfl⟩
    · refine ifT h1 ?_
      exact ⟨Nat.zero_le _, fun r nr => q r _ (S1.free nr) upd_same (S1.trans (same_new nr _))⟩
    refine ifF h1 ?_
    refine ⟨_, rfl, _, _, _, _, rfl, rfl, SqT.of (S1 _ _ ha), at_head, (by show 3 ≤ sizeLine; decide), fun t2 n2 => ⟨t2, _, rfl, .inr (SqT.of upd_same), rfl, rfl, _, rfl, ?_⟩⟩
    have S2 := S1.trans (same_new n2 (.tup [V.str "call", V.str "make", V.str "handed"]))
    generalize upd H1 t2 (.tup [V.str "call", V.str "make", V.str "handed"]) = H2 at S2
    refine ifF h2 ?_
    refine ⟨_, rfl, _, _, _, _, rfl, rfl, SqT.of (S2 _ _ ha), at_head, rfl, _, rfl, ifF h3 ?_⟩
    refine ⟨_, rfl, _, rfl, _, _, _, _, rfl, rfl, SqT.of (S2 _ _ ha), atI_last _ _, rfl, _, rfl, ifT rfl ?_⟩
    exact ⟨Nat.zero_le _, fun r nr => q r _ (S2.free nr) upd_same (S2.trans (same_new nr _))⟩
  | args w L g qs ns e h1 h2 hg h =>
    subst e
    refine ⟨_, rfl, _, _, _, _, rfl, rfl, SqT.of ha, at_head, (by show 3 ≤ sizeLine; decide), fun t1 n1 => ⟨t1, _, rfl, .inr (SqT.of upd_same), rfl, rfl, _, rfl, ifF h1 ?_⟩⟩
    have S1 := same_new n1 (.tup [V.str "num", V.str "text", V.str "hole"])
    generalize upd H t1 (.tup [V.str "num", V.str "text", V.str "hole"]) = H1 at S1
    refine ⟨_, rfl, _, _, _, _, rfl, rfl, SqT.of (S1 _ _ ha), at_head, (by show 3 ≤ sizeLine; decide), fun t2 n2 => ⟨t2, _, rfl, .inr (SqT.of upd_same), rfl, rfl, _, rfl, ifT h2 ?_⟩⟩
    have S2 := S1.trans (same_new n2 (.tup [V.str "call", V.str "make", V.str "handed"]))
    generalize upd H1 t2 (.tup [V.str "call", V.str "make", V.str "handed"]) = H2 at S2
    have hg2 := hg.mono (Tups.of_same S2)
    refine ⟨_, rfl, _, rfl, _, _, _, _, rfl, rfl, SqT.of (S2 _ _ ha), atI_last _ _, g, rfl, ⟨_, SqX hg2⟩, fun D nD => lc_tup (xs := qs) (Pcol H2 D ps) ?_ ?_ ?_ ?_⟩
    · exact ⟨same_new nD _, upd_same⟩
    · exact fun i H3 _ p => SqX (mvS p.1 hg2)
    · intro i x H3 hx p
      obtain ⟨b, nm, y, rfl, _, hy, hb⟩ := h.get i x hx
      refine ⟨b, _, rfl, SqT.of (p.1 _ _ (S2 _ _ hb)), rfl, _, _, rfl, _, _, rfl, rfl, rfl, ?_⟩
      refine ⟨_, rfl, _, p.2, ?_, ?_, ?_⟩
      · exact line5 (Nat.le_trans (List.length_take_le' _ _) hl)
      · exact Same.atNew p.1 nD
      · rw [upd_same, take_next hy]
    · intro H3 p
      refine q D _ (S2.free nD) ?_ (S2.trans p.1)
      rw [p.2, h.len.1, List.take_length]
  | ask v g vs e hg hp =>
    subst e hp
    refine ⟨_, rfl, _, _, _, _, rfl, rfl, SqT.of ha, at_of rfl rfl, (by show 3 ≤ sizeLine; decide), fun t1 n1 => ⟨t1, _, rfl, .inr (SqT.of upd_same), rfl, rfl, _, rfl, ifF rfl ?_⟩⟩
    have S1 := same_new n1 (.tup [V.str "num", V.str "text", V.str "hole"])
    generalize upd H t1 (.tup [V.str "num", V.str "text", V.str "hole"]) = H1 at S1
    refine ⟨_, rfl, _, _, _, _, rfl, rfl, SqT.of (S1 _ _ ha), at_of rfl rfl, (by show 3 ≤ sizeLine; decide), fun t2 n2 => ⟨t2, _, rfl, .inr (SqT.of upd_same), rfl, rfl, _, rfl, ifF rfl ?_⟩⟩
    have S2 := S1.trans (same_new n2 (.tup [V.str "call", V.str "make", V.str "handed"]))
    generalize upd H1 t2 (.tup [V.str "call", V.str "make", V.str "handed"]) = H2 at S2
    refine ⟨_, rfl, _, _, _, _, rfl, rfl, SqT.of (S2 _ _ ha), at_of rfl rfl, rfl, _, rfl, ifT (by decide) ?_⟩
    refine ⟨_, rfl, _, _, _, _, rfl, rfl, SqT.of (S2 _ _ ha), at_of rfl rfl, _, rfl, _, _, _, _, rfl, rfl, SqT.of (S2 _ _ ha), at_of rfl rfl, g, _, rfl, .inl (SqT.of (S2 _ _ hg)), ?_, fun r nr => ?_⟩
    · show (v :: (vs ++ [])).length ≤ sizeLine
      rw [List.append_nil]
      exact Nat.le_of_lt (line5 hl)
    · refine q r _ (S2.free nr) ?_ (S2.trans (same_new nr _))
      rw [upd_same, List.append_nil]
  | last w L b e h1 h2 h3 hp =>
    subst e hp
    refine ⟨_, rfl, _, _, _, _, rfl, rfl, SqT.of ha, at_head, (by show 3 ≤ sizeLine; decide), fun t1 n1 => ⟨t1, _, rfl, .inr (SqT.of upd_same), rfl, rfl, _, rfl, ifF h1 ?_⟩⟩
    have S1 := same_new n1 (.tup [V.str "num", V.str "text", V.str "hole"])
    generalize upd H t1 (.tup [V.str "num", V.str "text", V.str "hole"]) = H1 at S1
    refine ⟨_, rfl, _, _, _, _, rfl, rfl, SqT.of (S1 _ _ ha), at_head, (by show 3 ≤ sizeLine; decide), fun t2 n2 => ⟨t2, _, rfl, .inr (SqT.of upd_same), rfl, rfl, _, rfl, ifF h2 ?_⟩⟩
    have S2 := S1.trans (same_new n2 (.tup [V.str "call", V.str "make", V.str "handed"]))
    generalize upd H1 t2 (.tup [V.str "call", V.str "make", V.str "handed"]) = H2 at S2
    refine ⟨_, rfl, _, _, _, _, rfl, rfl, SqT.of (S2 _ _ ha), at_head, rfl, _, rfl, ifF h3 ?_⟩
    refine ⟨_, rfl, _, rfl, _, _, _, _, rfl, rfl, SqT.of (S2 _ _ ha), atI_last _ _, rfl, _, rfl, ifF (by rfl) ?_⟩
    refine ⟨_, rfl, _, rfl, _, _, _, _, rfl, rfl, SqT.of (S2 _ _ ha), atI_last _ _, (by show 1 ≤ sizeLine; decide), fun r nr => ?_⟩
    exact q r _ (S2.free nr) upd_same (S2.trans (same_new nr _))
end
end My
namespace My
open PySem PySem.Spec PyProof.Rows L2 NdefX LamX
/-! a call of a local name that holds a function made by a def within another def; what its cells hold is told by the frame -/
def tCallV (i : Nat) (f : Addr) (F : NF) (sp : Sp) (E : L2.St → XK) (t : TA) : TE := fun σ H Q => σ[i]? = some (some (.ref f)) ∧ H f = some (FnO f F) ∧
  t σ H fun vs H1 => H1 f = some (FnO f F) ∧ H1 F.c = some (CodeO F.c F.qual) ∧ sp vs H1 Q (E σ)
section
variable {X : Cx} {CX : CXT} {ps fr : List Str} {i k : Nat} {x : Str} {f : Addr} {F : NF} {ws : List (Option V)} {sp : List (Option V) → Sp} {ES : L2.St → XK} {t : TA} {e : Expr} {es : List Expr} {p pos : Pos}
theorem pe_callV (Fn : NOk X.prog X.w X.K X.mg X.base CX k f F ps fr sp) (hC : ∀ pins σ H s, Inv X pins σ H s → CellsAt F.cl fr ws s.heap H) (hr : Room k X.A) (hN : X.N[i]? = some x) (hv : Vis X.env.scope x) (hx : ∀ σ, PassesAt CX X σ (ES σ)) (ha : PA X (e :: es) t)
    (hd : (x == ("__debug__" : Str)) = false := by decide) (hcd : (x == ("__classdict__" : Str)) = false := by decide)
    (he : starEach (e :: es) X.env = (false, eval e X.env) :: starEach es X.env := by rfl) (hpl : (backTo pos (starEach es X.env)).any (·.1) = false := by rfl) :
    PE X (.Call (.Name x p) (e :: es) [] pos) (tCallV i f F (sp ws) ES t) := by
  refine ⟨fun pins s σ H Q I ⟨hs, hf, ht⟩ => wpAny_Call_Name_kw (thn ((pe_var (pos := p) hN hv hd hcd).run pins s σ H (fun v H1 => v = .ref f ∧ H1 = H) I ⟨.ref f, hs, rfl, rfl⟩) fun u s1 ⟨v, H1, J, r, ev, eH⟩ => ?_)⟩
  subst ev eH
  cases r
  refine PySem.W.callWith_F (first := []) (fnAt_of J hf) (thn (ha.run pos pins s1 σ _ _ J ht) fun us s2 ⟨vs, H2, J2, rv, f2, c2, q⟩ => ⟨fnAt_of J2 f2, ?_⟩) he hpl
  refine wpAny_call (codeAny_mono (Fn.run X.A X.stack s2 H2 us vs ws Q (ES σ) hr J2.env0 f2 c2 (hC pins σ H2 s2 J2) rv q) fun r s' h => ?_)
  cases r with
  | error e => exact hx σ pins H2 s2 e s' J2 h
  | ok fl =>
    cases fl with
    | ret u => exact J2.after h
    | _ => exact h.elim
end
/-- a function made within another def that doesn't raise, taken as one that may -/
theorem NOk.loud {CX : CXT} {P : Program} {w : World} {K : PySem.W.Frag} {mg : Str → Option Value} {base : Heap} {k : Nat} {f : Addr} {F : NF} {ps fr : List Str} {sp : List (Option V) → Sp} (o : NOk P w K mg base CX0 k f F ps fr sp) : NOk P w K mg base CX k f F ps fr sp :=
  ⟨o.len, fun A outer s H us vs ws Q E hr e0 hf hc C r q => codeAny_mono (o.run A outer s H us vs ws Q E hr e0 hf hc C r q) fun r s' h => by
    cases r with
    | error e => exact False.elim h
    | ok fl => cases fl <;> exact h⟩
theorem cells_none {h : Heap} {H : Hp} : CellsAt [] [] [] h H := ⟨rfl, fun _ _ e => (by cases e), fun _ _ _ e => (by cases e), fun _ _ e => (by simp at e)⟩
end My
namespace My
open PySem L2 NdefX LamX
/-! what walked keeps -/
/-- a term begun: its row (at, parts, given), by their places -/
structure Fr where
  e : Addr
  p : Addr
  g : Addr
  v : V
  t : Tm
  gs : List V
/-- what the first parts gave is right -/
def Rts (R : Hp → Tm → V → Prop) (H : Hp) (ts : List Tm) (gs : List V) : Prop := gs.length ≤ ts.length ∧ ∀ (i : Nat) (t : Tm) (v : V), gs[i]? = some v → ts[i]? = some t → R H t v
structure FrAt (R : Hp → Tm → V → Prop) (H : Hp) (f : Fr) : Prop where
  row : H f.e = some (.tup [f.v, .ref f.p, .ref f.g])
  tm : TmAt H f.v f.t
  ps : ∃ ps, H f.p = some (.lst ps) ∧ TmsAt H ps f.t.parts
  gs : H f.g = some (.lst f.gs)
  rt : Rts R H f.t.parts f.gs
/-- each term begun is the next part of the one below it, the last the root -/
def Lnk (root : Tm) : List Fr → Tm → Prop
  | [], t => t = root
  | f :: r, t => f.t.parts[f.gs.length]? = some t ∧ Lnk root r f.t
/-- the lists that are changed are apart from each other, and from the lists of parts -/
structure Apt (H0 : Hp) (b : Addr) (fs : List Fr) : Prop where
  b0 : H0 b = none
  g0 : ∀ f ∈ fs, H0 f.g = none
  bg : ∀ f ∈ fs, f.g ≠ b ∧ f.p ≠ b
  gp : ∀ f ∈ fs, ∀ f' ∈ fs, f.g ≠ f'.p
  nd : (fs.map Fr.g).Nodup
/-- the stack: the terms begun, the last first -/
structure Stk (R : Hp → Tm → V → Prop) (H : Hp) (b : Addr) (fs : List Fr) : Prop where
  lst : H b = some (.lst (fs.reverse.map fun f => .ref f.e))
  at_ : ∀ f ∈ fs, FrAt R H f
def leftB : List Fr → Nat
  | [] => 0
  | f :: r => 1 + 2 * Tm.sizes (f.t.parts.drop (f.gs.length + 1)) + leftB r
def leftT : List Fr → Nat
  | [] => 0
  | f :: r => 1 + 2 * Tm.sizes (f.t.parts.drop f.gs.length) + leftB r
theorem leftB_len : ∀ (fs : List Fr), fs.length ≤ leftB fs
  | [] => Nat.le_refl _
  | f :: r => by
    have := leftB_len r
    rw [List.length_cons, leftB]
    omega
theorem leftT_len (fs : List Fr) : fs.length ≤ leftT fs := by
  cases fs with
  | nil => exact Nat.le_refl _
  | cons f r =>
    have := leftB_len r
    rw [List.length_cons, leftT]
    omega
section
variable {R : Hp → Tm → V → Prop} (mn : ∀ H H' t v, Tups H H' → R H t v → R H' t v)
include mn
theorem Rts.mono {H H' : Hp} {ts : List Tm} {gs : List V} (T : Tups H H') (h : Rts R H ts gs) : Rts R H' ts gs := ⟨h.1, fun i t v a b => mn _ _ _ _ T (h.2 i t v a b)⟩
omit mn in
theorem Rts.snoc {H : Hp} {ts : List Tm} {gs : List V} (h : Rts R H ts gs) {t : Tm} {v : V} (e : ts[gs.length]? = some t) (r : R H t v) : Rts R H ts (gs ++ [v]) := by
  have l : gs.length < ts.length := (List.getElem?_eq_some_iff.mp e).1
  refine ⟨by rw [List.length_append]; exact l, fun i t' v' a b => ?_⟩
  by_cases c : i < gs.length
  · rw [List.getElem?_append_left c] at a
    exact h.2 i t' v' a b
  · have li : i < (gs ++ [v]).length := (List.getElem?_eq_some_iff.mp a).1
    rw [List.length_append, List.length_singleton] at li
    have ei : i = gs.length := by omega
    subst ei
    rw [List.getElem?_append_right (Nat.le_refl _), Nat.sub_self] at a
    cases a
    rw [e] at b
    cases b
    exact r
theorem FrAt.mono {H H' : Hp} {f : Fr} (T : Tups H H') (hp : ∀ xs, H f.p = some (.lst xs) → H' f.p = some (.lst xs)) (hg : ∀ xs, H f.g = some (.lst xs) → H' f.g = some (.lst xs)) (h : FrAt R H f) : FrAt R H' f := by
  obtain ⟨ps, h1, h2⟩ := h.ps
  exact ⟨T _ _ h.row, h.tm.mono T, ⟨ps, hp _ h1, h2.mono T⟩, hg _ h.gs, Rts.mono mn T h.rt⟩
theorem FrAt.same {H H' : Hp} {f : Fr} (s : Same H H') (h : FrAt R H f) : FrAt R H' f := FrAt.mono mn (Tups.of_same s) (fun _ e => s _ _ e) (fun _ e => s _ _ e) h
theorem Stk.same {H H' : Hp} {b : Addr} {fs : List Fr} (s : Same H H') (h : Stk R H b fs) : Stk R H' b fs := ⟨s _ _ h.lst, fun f hf => FrAt.same mn s (h.at_ f hf)⟩
end
theorem sizes_drop {ts : List Tm} {k : Nat} {t : Tm} (h : ts[k]? = some t) : Tm.sizes (ts.drop k) = t.size + Tm.sizes (ts.drop (k + 1)) := by
  obtain ⟨l, e⟩ := List.getElem?_eq_some_iff.mp h
  rw [List.drop_eq_getElem_cons l, e, Tm.sizes]
theorem Apt.tail {H0 : Hp} {b : Addr} {f : Fr} {fs : List Fr} (h : Apt H0 b (f :: fs)) : Apt H0 b fs :=
  ⟨h.b0, fun x hx => h.g0 x (.tail _ hx), fun x hx => h.bg x (.tail _ hx), fun x hx y hy => h.gp x (.tail _ hx) y (.tail _ hy), (List.nodup_cons.mp h.nd).2⟩
/-- the walk through a term, with a function made within another def: R what it is to be right; the function is asked at each term begun, when its parts have given -/
def spWalk (mk : Addr → NF) (sp : List (Option V) → Sp) (ws : List (Option V)) (R : Hp → Tm → V → Prop) : Sp := fun vs H Q E =>
  ∃ (v : V) (f c' : Addr) (t : Tm), vs = [v, .ref f] ∧ TmAt H v t ∧ t.size ≤ 50000 ∧ H f = some (FnO f (mk c')) ∧ H (mk c').c = some (CodeO (mk c').c (mk c').qual) ∧
    (∀ (u : V) (t' : Tm) (g b : Addr) (gs : List V) (fs : List Fr) (H' : Hp) (Q' : VK), Same H H' → TmAt H' u t' → H' g = some (.lst gs) → gs.length = t'.parts.length → Rts R H' t'.parts gs → Stk R H' b fs → Lnk t fs t' → t'.size ≤ 50000 → fs.length ≤ 100000 →
      (∀ r H'', R H'' t' r → Same H' H'' → Q' r H'') → sp ws [u, .ref g, .ref b] H' Q' E) ∧
    ∀ r H', R H' t r → Same H H' → Q r H'
/-- before each turn -/
def Wwalk (R : Hp → Tm → V → Prop) (v : V) (f b : Addr) (t : Tm) (H0 : Hp) (m : Nat) (σ : St) (H : Hp) : Prop :=
  ∃ (fs : List Fr) (u3 u4 u5 u6 u7 : Option V), σ = [some v, some (.ref f), some (.ref b), u3, u4, u5, u6, u7] ∧ Same H0 H ∧ Stk R H b fs ∧ Apt H0 b fs ∧ m = leftT fs ∧ m ≤ 2 * t.size ∧
    match fs with
    | [] => ∃ r, u3 = some r ∧ R H t r
    | x :: r => Lnk t r x.t ∧ ∀ y ∈ x :: r, y.t.size ≤ 50000
end My
namespace My
open PySem PySem.Spec PyProof.Rows L2 NdefX LamX
section
variable {P : Program} {w : World} {K : PySem.W.Frag} {mg : Str → Option Value} {base : Heap} {f0 : Addr}
/-- the body of walked, in its frame: hC tells what the function's cells hold -/
theorem walk_body (B : Bn mg) (c_parts_of : Cal P w K mg base "parts_of" 1 ["term"] spParts) {cdv : Value} {A : Around} {outer : List Env} {s : Shared} {H : Hp} {vs : List V} {Q : VK} {E : XK} {k : Nat} {mk : Addr → NF} {fr : List Str} {sp : List (Option V) → Sp} {ws : List (Option V)} {R : Hp → Tm → V → Prop}
    (mn : ∀ H H' t v, Tups H H' → R H t v → R H' t v) (hk : 1 ≤ k) (Fn : ∀ f c', NOk P w K mg base (L2.CX P w) k f (mk c') ["at", "given", "begun"] fr sp)
    (hC : ∀ c' pins σ H' s', Inv (cxOf (L2.CX P w) P w K mg base ["term", "step", "begun", "result", "at", "parts", "given", "part"] "walked" (defScope s_walked) f0 cdv A outer s H E) pins σ H' s' → CellsAt (mk c').cl fr ws s'.heap H')
    (hr : Room k (A.deeper (envOfC "walked" (defScope s_walked) s.heap.objs.size f0 cdv))) (h : spWalk mk sp ws R vs H Q E) :
    ∃ t, PSs (cxOf (L2.CX P w) P w K mg base ["term", "step", "begun", "result", "at", "parts", "given", "part"] "walked" (defScope s_walked) f0 cdv A outer s H E) (defBody s_walked) t ∧ t { nx := fun _ H' => Q .non H', rt := Q } (start ["term", "step", "begun", "result", "at", "parts", "given", "part"] vs) H := by
  obtain ⟨v, f, c', t, rfl, ht, hz, hf, hc, stp, q⟩ := h
  have Fn' := Fn f c'
  have hC' := hC c'
  generalize mk c' = F at hf hc Fn' hC'
  refine ⟨_, (pss_cons (ps_set (i := 2) sc_walked.nd rfl (Or.inl rfl) (pe_lst (pa_cons (pe_tup (pa_cons (pv 0) (pa_cons (pc c_parts_of (hr.mono (by first | decide | omega)) (pa_cons (pv 0) pa_nil)) (pa_cons (pe_lst pa_nil) pa_nil)))) pa_nil)))
    (pss_cons (ps_set (i := 3) sc_walked.nd rfl (Or.inl rfl) pe_non)
    (pss_cons (ps_while (passes_of rfl) (truth K rfl (pv 2)) (pss_cons (ps_asg (pe_ix (ixL K rfl) (pv 2) (pe_un un_neg pe_int) (fun _ _ => rfl)) (pg_tup rfl (pgs_cons (pg_name (i := 4) sc_walked.nd rfl (Or.inl rfl)) (pgs_cons (pg_name (i := 5) sc_walked.nd rfl (Or.inl rfl)) (pgs_cons (pg_name (i := 6) sc_walked.nd rfl (Or.inl rfl)) pgs_nil)))))
    (pss_cons (ps_if (pt_cmpR op_lt (pe_callB (lenSeq K rfl) (by rfl) B.b_len PySem.boot_len (pa_cons (pv 6) pa_nil)) (pe_callB (lenSeq K rfl) (by rfl) B.b_len PySem.boot_len (pa_cons (pv 5) pa_nil)) (nomark _)) (pss_cons (ps_set (i := 7) sc_walked.nd rfl (Or.inl rfl) (pe_ix (ixL K rfl) (pv 5) (pe_callB (lenSeq K rfl) (by rfl) B.b_len PySem.boot_len (pa_cons (pv 6) pa_nil)) (fun _ _ => rfl)))
    (pss_cons (ps_expr (pe_bm PySem.F.plainAttrs_list PySem.F.slot_list_append PySem.F.type_list_append mt_append (pv 2) (pa_cons (pe_tup (pa_cons (pv 7) (pa_cons (pc c_parts_of (hr.mono (by first | decide | omega)) (pa_cons (pv 7) pa_nil)) (pa_cons (pe_lst pa_nil) pa_nil)))) pa_nil)))
    (pss_one ps_continue))) pss_nil)
    (pss_cons (ps_expr (pe_bm0 PySem.F.plainAttrs_list PySem.F.slot_list_pop PySem.F.type_list_pop mt_pop (pv 2)))
    (pss_cons (ps_set (i := 3) sc_walked.nd rfl (Or.inl rfl) (pe_callV (i := 1) Fn' hC' hr rfl (by first | exact Or.inl rfl | exact Or.inr (Or.inl rfl) | exact Or.inr (Or.inr rfl)) (fun σ => passAt (takes_of rfl rfl rfl rfl) σ) (pa_cons (pv 4) (pa_cons (pv 6) (pa_cons (pv 2) pa_nil)))))
    (pss_one (ps_if (truth K rfl (pv 2)) (pss_one (ps_expr (pe_bm PySem.F.plainAttrs_list PySem.F.slot_list_append PySem.F.type_list_append mt_append (pe_ix (ixT K rfl) (pe_ix (ixL K rfl) (pv 2) (pe_un un_neg pe_int) (fun _ _ => rfl)) pe_int (fun _ _ => rfl)) (pa_cons (pv 3) pa_nil)))) pss_nil)))))))
    (pss_one (ps_ret (pv 3)))))), ?_⟩
  obtain ⟨ps, nd, hps⟩ := ht.node
  have zt := t.size_parts
  have lps := hps.len
  have l1 := Tm.len_sizes t.parts
  refine ⟨_, rfl, _, rfl, v, _, ps, rfl, nd, by omega, fun p H1 np hp s1 => ?_⟩
  refine ⟨Nat.zero_le _, fun g ng => ⟨(by show 3 ≤ sizeLine; decide), fun e ne => ⟨(by show 1 ≤ sizeLine; decide), fun b nb => ?_⟩⟩⟩
  have init : Wwalk R v f b t H (leftT [⟨e, p, g, v, t, []⟩]) [some v, some (.ref f), some (.ref b), some .non, none, none, none, none] (upd (upd (upd H1 g (.lst [])) e (.tup [v, .ref p, .ref g])) b (.lst [.ref e])) := by
    have s2 := same_new ng (.lst [])
    have s3 := same_new ne (.tup [v, .ref p, .ref g])
    have s4 := same_new nb (.lst [.ref e])
    have hgp : g ≠ p := fun z => by rw [z, hp] at ng; cases ng
    have hg2 : (upd H1 g (.lst [])) g = some (.lst []) := upd_same
    have g0 : H g = none := s1.free ng
    have b0 : H b = none := ((s1.trans s2).trans s3).free nb
    have hbg : g ≠ b := ne_of_none (s3 _ _ hg2) nb
    have hbp : p ≠ b := ne_of_none (s3 _ _ (s2 _ _ hp)) nb
    have all := ((s1.trans s2).trans s3).trans s4
    refine ⟨[⟨e, p, g, v, t, []⟩], some .non, none, none, none, none, rfl, all, ⟨upd_same, fun x hx => ?_⟩, ⟨b0, fun x hx => ?_, fun x hx => ?_, fun x hx y hy => ?_, by simp⟩, rfl, ?_, rfl, fun x hx => by rw [List.mem_singleton.mp hx]; exact hz⟩
    · rw [List.mem_singleton.mp hx]
      exact ⟨s4 _ _ upd_same, ht.mono (Tups.of_same all), ⟨ps, s4 _ _ (s3 _ _ (s2 _ _ hp)), hps.mono (Tups.of_same all)⟩, s4 _ _ (s3 _ _ hg2), ⟨Nat.zero_le _, fun i t v a => by simp at a⟩⟩
    · rw [List.mem_singleton.mp hx]
      exact g0
    · rw [List.mem_singleton.mp hx]
      exact ⟨hbg, hbp⟩
    · rw [List.mem_singleton.mp hx, List.mem_singleton.mp hy]
      exact hgp
    · simp only [leftT, leftB, List.length_nil, List.drop_zero]
      omega
  refine ⟨Wwalk R v f b t H, ⟨_, init⟩, fun m σ H2 w2 => ?_⟩
  clear init
  obtain ⟨fs, u3, u4, u5, u6, u7, rfl, S, Ks, Ap, rfl, hm, c⟩ := w2
  refine ⟨_, rfl, _, .inl ⟨_, SqL.of Ks.lst, rfl⟩, ?_⟩
  cases fs with
  | nil =>
    obtain ⟨r, rfl, hR⟩ := c
    exact iteF ⟨_, rfl, q r H2 hR S⟩
  | cons x r =>
    obtain ⟨lnk, xz⟩ := c
    have hl := Ks.lst
    rw [List.reverse_cons, List.map_append, List.map_cons, List.map_nil] at hl ⊢
    have hL : (r.reverse.map fun f => V.ref f.e).length = r.length := by rw [List.length_map, List.length_reverse]
    generalize hLL : (r.reverse.map fun f => V.ref f.e) = L at hl hL ⊢
    refine ifT (by cases L <;> rfl) ?_
    have lr := leftT_len (x :: r)
    rw [List.length_cons] at lr
    refine ⟨fun σ' H' => ∃ m', m' < leftT (x :: r) ∧ Wwalk R v f b t H m' σ' H', fun _ _ h => h, ?_⟩
    have hx := Ks.at_ x (.head _)
    obtain ⟨xs, hxp, hxs⟩ := hx.ps
    have lxs := hxs.len
    have lgs := hx.rt.1
    have zx := x.t.size_parts
    have l2 := Tm.len_sizes x.t.parts
    refine ⟨_, rfl, _, rfl, _, _, _, _, rfl, rfl, SqL.of hl, atI_last _ _, x.e, _, rfl, SqT.of hx.row, rfl, _, _, rfl, _, _, rfl, _, _, rfl, rfl, ?_⟩
    refine ⟨_, rfl, x.g, _, rfl, .inl (SqL.of hx.gs), _, rfl, x.p, xs, rfl, .inl (SqL.of hxp), _, _, rfl, rfl, _, rfl, ?_⟩
    by_cases hlt : x.gs.length < xs.length
    · -- the next part is begun
      refine ifT (decide_eq_true (by omega)) ?_
      obtain ⟨tp, htp⟩ : ∃ tp, x.t.parts[x.gs.length]? = some tp := ⟨_, List.getElem?_eq_getElem (by omega)⟩
      obtain ⟨pv, hpv, tmp⟩ := hxs.get _ _ htp
      obtain ⟨pps, pnd, hpps⟩ := tmp.node
      have zm := Tm.sizes_mem (List.mem_of_getElem? htp)
      have zp := tp.size_parts
      have lp := hpps.len
      have l3 := Tm.len_sizes tp.parts
      have xz := xz x (.head _)
      refine ⟨_, rfl, _, rfl, x.g, _, rfl, .inl (SqL.of hx.gs), _, _, _, _, rfl, rfl, SqL.of hxp, atI_nat hpv, ?_⟩
      refine ⟨_, rfl, tyL hl, _, rfl, _, rfl, pv, _, pps, rfl, pnd, by omega, fun p' H3 np' hp' s3 => ⟨Nat.zero_le _, fun g' ng' => ⟨(by show 3 ≤ sizeLine; decide), fun e' ne' => ?_⟩⟩⟩
      have s4 := same_new ng' (.lst [])
      have hg4 : (upd H3 g' (.lst [])) g' = some (.lst []) := upd_same
      generalize hG4 : upd H3 g' (.lst []) = H4 at ne' s4 hg4 ⊢
      have s5 := same_new ne' (.tup [pv, .ref p', .ref g'])
      have he5 : (upd H4 e' (.tup [pv, .ref p', .ref g'])) e' = some (.tup [pv, .ref p', .ref g']) := upd_same
      generalize hG5 : upd H4 e' (.tup [pv, .ref p', .ref g']) = H5 at s5 he5 ⊢
      have s25 := (s3.trans s4).trans s5
      have hl5 := s25 _ _ hl
      refine ⟨b, _, .ref e', rfl, rfl, hl5, ?_, ?_⟩
      · rw [List.length_append, List.length_singleton, hL]
        exact line5 (by omega)
      have T6 : Tups H5 (upd H5 b (.lst ((L ++ [.ref x.e]) ++ [.ref e']))) := Tups.upd hl5
      have S6 : Same H (upd H5 b (.lst ((L ++ [.ref x.e]) ++ [.ref e']))) := Same.atNew (S.trans s25) Ap.b0
      have hb6 : (upd H5 b (.lst ((L ++ [.ref x.e]) ++ [.ref e']))) b = some (.lst ((L ++ [.ref x.e]) ++ [.ref e'])) := upd_same
      have k6 : ∀ a o, a ≠ b → H5 a = some o → (upd H5 b (.lst ((L ++ [.ref x.e]) ++ [.ref e']))) a = some o := fun a o n e => by rw [upd_ne n]; exact e
      generalize upd H5 b (.lst ((L ++ [.ref x.e]) ++ [.ref e'])) = H6 at T6 S6 hb6 k6 ⊢
      have T : Tups H2 H6 := (Tups.of_same s25).trans T6
      have ng'b : g' ≠ b := (ne_of_none (s3 _ _ hl) ng').symm
      have np'b : p' ≠ b := (ne_of_none hl np').symm
      have np'g' : g' ≠ p' := (ne_of_none hp' ng').symm
      refine ⟨_, ?_, ⟨e', p', g', pv, tp, []⟩ :: x :: r, u3, some x.v, some (.ref x.p), some (.ref x.g), some pv, rfl, S6, ⟨?_, fun y hy => ?_⟩, ⟨Ap.b0, fun y hy => ?_, fun y hy => ?_, fun y hy z hz => ?_, ?_⟩, rfl, ?_, ⟨htp, lnk⟩, fun y hy => ?_⟩
      · simp only [leftT, leftB, List.length_nil, List.drop_zero]
        have := sizes_drop htp
        omega
      · rw [hb6, List.reverse_cons, List.map_append, List.reverse_cons, List.map_append, hLL]
        rfl
      · rcases List.mem_cons.mp hy with rfl | hy
        · exact ⟨T6 _ _ he5, tmp.mono T, ⟨pps, k6 _ _ np'b (s5 _ _ (s4 _ _ hp')), hpps.mono T⟩, k6 _ _ ng'b (s5 _ _ hg4), ⟨Nat.zero_le _, fun i t v a => by simp at a⟩⟩
        · exact FrAt.mono mn T (fun _ e => k6 _ _ (Ap.bg y hy).2 (s25 _ _ e)) (fun _ e => k6 _ _ (Ap.bg y hy).1 (s25 _ _ e)) (Ks.at_ y hy)
      · rcases List.mem_cons.mp hy with rfl | hy
        · exact (S.trans s3).free ng'
        · exact Ap.g0 y hy
      · rcases List.mem_cons.mp hy with rfl | hy
        · exact ⟨ng'b, np'b⟩
        · exact Ap.bg y hy
      · rcases List.mem_cons.mp hy with rfl | hy <;> rcases List.mem_cons.mp hz with rfl | hz
        · exact np'g'
        · obtain ⟨zs, h1, _⟩ := (Ks.at_ z hz).ps
          exact (ne_of_none (s3 _ _ h1) ng').symm
        · exact ne_of_none (Ks.at_ y hy).gs np'
        · exact Ap.gp y hy z hz
      · refine List.nodup_cons.mpr ⟨fun h => ?_, Ap.nd⟩
        obtain ⟨y, hy, ey⟩ := List.mem_map.mp h
        exact ne_of_none (s3 _ _ (Ks.at_ y hy).gs) ng' ey
      · simp only [leftT, leftB, List.length_nil, List.drop_zero] at hm ⊢
        have := sizes_drop htp
        omega
      · rcases List.mem_cons.mp hy with rfl | hy
        · show tp.size ≤ 50000
          omega
        · exact (by assumption : ∀ y ∈ x :: r, y.t.size ≤ 50000) y hy
    · -- all its parts have given
      refine ifF (decide_eq_false (by omega)) ?_
      refine ⟨_, rfl, tyL hl, b, _, .ref x.e, rfl, rfl, hl, by simp, ?_⟩
      rw [List.dropLast_concat]
      have T3 : Tups H2 (upd H2 b (.lst L)) := Tups.upd hl
      have S3 : Same H (upd H2 b (.lst L)) := Same.atNew S Ap.b0
      have hb3 : (upd H2 b (.lst L)) b = some (.lst L) := upd_same
      have k3 : ∀ a o, a ≠ b → H2 a = some o → (upd H2 b (.lst L)) a = some o := fun a o n e => by rw [upd_ne n]; exact e
      generalize upd H2 b (.lst L) = H3 at T3 S3 hb3 k3 ⊢
      have stk3 : Stk R H3 b r := ⟨by rw [hb3, hLL], fun y hy => FrAt.mono mn T3 (fun _ e => k3 _ _ (Ap.bg y (.tail _ hy)).2 e) (fun _ e => k3 _ _ (Ap.bg y (.tail _ hy)).1 e) (Ks.at_ y (.tail _ hy))⟩
      refine ⟨rfl, S3 _ _ hf, _, rfl, _, rfl, _, rfl, S3 _ _ hf, S3 _ _ hc, stp x.v x.t x.g b x.gs r H3 _ S3 (hx.tm.mono T3) (k3 _ _ (Ap.bg x (.head _)).1 hx.gs) (by omega) (Rts.mono mn T3 hx.rt) stk3 lnk (xz x (.head _)) (by omega) fun rv H4 hR s4 => ?_⟩
      have hb4 := s4 _ _ hb3
      have stk4 := Stk.same mn s4 stk3
      have S4 := S3.trans s4
      refine ⟨_, rfl, _, .inl ⟨L, SqL.of hb4, rfl⟩, ?_⟩
      cases r with
      | nil =>
        cases hLL
        refine iteF ⟨0, (by simp only [leftT]; omega), [], some rv, some x.v, some (.ref x.p), some (.ref x.g), u7, rfl, S4, ⟨hb4, fun y hy => (nomatch hy)⟩, ⟨Ap.b0, fun y hy => (nomatch hy), fun y hy => (nomatch hy), fun y hy => (nomatch hy), List.nodup_nil⟩, rfl, Nat.zero_le _, rv, rfl, ?_⟩
        have e : x.t = t := lnk
        rw [← e]
        exact hR
      | cons y r =>
        rw [List.reverse_cons, List.map_append] at hLL
        obtain ⟨M, rfl⟩ : ∃ M, L = M ++ [V.ref y.e] := ⟨_, hLL.symm⟩
        refine ifT (by cases M <;> rfl) ?_
        have hy := stk4.at_ y (.head _)
        have ay := Ap.tail
        refine ⟨_, rfl, _, rfl, _, _, _, _, rfl, rfl, SqL.of hb4, atI_last _ _, _, _, _, _, rfl, rfl, SqT.of hy.row, rfl, tyL hy.gs, _, rfl, y.g, y.gs, rv, rfl, rfl, hy.gs, ?_, ?_⟩
        · have := hy.rt.1
          have := Tm.len_sizes y.t.parts
          have := y.t.size_parts
          have := xz y (.tail _ (.head _))
          exact line5 (by omega)
        have T5 : Tups H4 (upd H4 y.g (.lst (y.gs ++ [rv]))) := Tups.upd hy.gs
        have S5 : Same H (upd H4 y.g (.lst (y.gs ++ [rv]))) := Same.atNew S4 (ay.g0 y (.head _))
        have hg5 : (upd H4 y.g (.lst (y.gs ++ [rv]))) y.g = some (.lst (y.gs ++ [rv])) := upd_same
        have k5 : ∀ a o, a ≠ y.g → H4 a = some o → (upd H4 y.g (.lst (y.gs ++ [rv]))) a = some o := fun a o n e => by rw [upd_ne n]; exact e
        generalize upd H4 y.g (.lst (y.gs ++ [rv])) = H5 at T5 S5 hg5 k5 ⊢
        obtain ⟨yps, hyp, hyps⟩ := hy.ps
        have nd := List.nodup_cons.mp ay.nd
        refine ⟨_, ?_, ⟨y.e, y.p, y.g, y.v, y.t, y.gs ++ [rv]⟩ :: r, some rv, some x.v, some (.ref x.p), some (.ref x.g), u7, rfl, S5, ⟨?_, fun z hz => ?_⟩, ⟨Ap.b0, fun z hz => ?_, fun z hz => ?_, fun z hz z' hz' => ?_, ay.nd⟩, rfl, ?_, lnk.2, fun z hz => ?_⟩
        · simp only [leftT, leftB, List.length_append, List.length_singleton]
          omega
        · rw [k5 _ _ (ay.bg y (.head _)).1.symm hb4, ← hLL, List.reverse_cons, List.map_append]
          rfl
        · rcases List.mem_cons.mp hz with rfl | hz
          · exact ⟨T5 _ _ hy.row, hy.tm.mono T5, ⟨yps, k5 _ _ (ay.gp y (.head _) y (.head _)).symm hyp, hyps.mono T5⟩, hg5, Rts.snoc (Rts.mono mn T5 hy.rt) lnk.1 (mn _ _ _ _ T5 hR)⟩
          · exact FrAt.mono mn T5 (fun _ e => k5 _ _ (ay.gp y (.head _) z (.tail _ hz)).symm e) (fun _ e => k5 _ _ (fun q => nd.1 (q ▸ List.mem_map_of_mem hz)) e) (stk4.at_ z (.tail _ hz))
        · rcases List.mem_cons.mp hz with rfl | hz
          · exact ay.g0 y (.head _)
          · exact ay.g0 z (.tail _ hz)
        · rcases List.mem_cons.mp hz with rfl | hz
          · exact ay.bg y (.head _)
          · exact ay.bg z (.tail _ hz)
        · rcases List.mem_cons.mp hz with rfl | hz <;> rcases List.mem_cons.mp hz' with rfl | hz'
          · exact ay.gp y (.head _) y (.head _)
          · exact ay.gp y (.head _) z' (.tail _ hz')
          · exact ay.gp z (.tail _ hz) y (.head _)
          · exact ay.gp z (.tail _ hz) z' (.tail _ hz')
        · simp only [leftT, leftB, List.length_append, List.length_singleton] at hm ⊢
          omega
        · rcases List.mem_cons.mp hz with rfl | hz
          · exact xz y (.tail _ (.head _))
          · exact xz z (.tail _ (.tail _ hz))
/-- walked with a function that captures nothing -/
theorem ok_walked0 {fd : FuncData} (B : Bn mg) (c_parts_of : Cal P w K mg base "parts_of" 1 ["term"] spParts) (F0 : Fun K "walked" "walked" s_walked f0 fd) {k : Nat} {mk : Addr → NF} {sp : List (Option V) → Sp} {R : Hp → Tm → V → Prop}
    (mn : ∀ H H' t v, Tups H H' → R H t v → R H' t v) (hk : 1 ≤ k) (cl0 : ∀ c', (mk c').cl = []) (Fn : ∀ f c', NOk P w K mg base (L2.CX P w) k f (mk c') ["at", "given", "begun"] [] sp) :
    FnOk P w K mg base (L2.CX P w) (k + 1) f0 fd ["term", "step"] (spWalk mk sp [] R) := by
  refine F0.okX sc_walked (fun vs H Q E h => ?_) (fun cdv A outer s H vs Q E hr h => ?_)
  · obtain ⟨v, f, c', t, rfl, _⟩ := h
    rfl
  exact walk_body B c_parts_of mn hk Fn (fun c' pins σ H' s' _ => by rw [cl0 c']; exact cells_none) hr h
end
end My
namespace My
open PySem PySem.Spec PyProof.Rows L2 NdefX LamX
/-! a def that is handed a function with captured cells: its promise speaks of what the cells hold (cl: the cells by name, ws: what they hold) -/
structure FnOkC (P : Program) (w : World) (K : PySem.W.Frag) (mg : Str → Option Value) (base : Heap) (CX : CXT) (k : Nat) (f : Addr) (fd : FuncData) (ps fr : List Str) (sp : List (Str × Addr) → List (Option V) → Sp) : Prop where
  len : ∀ cl ws vs H Q E, sp cl ws vs H Q E → vs.length = ps.length
  run : ∀ (A : Around) (outer : List Env) (s : Shared) (H : Hp) (args : Args) (us : List Value) (vs : List V) (Q : VK) (E : XK) (cl : List (Str × Addr)) (ws : List (Option V)), Room k A → Env0 P w K mg base A outer s H → BindsTo s fd args (ps.zip us) → Vals vs us →
    CellsAt cl fr ws s.heap H → (∀ y c, cl.lookup y = some c → c ∉ frs outer) → sp cl ws vs H Q E → codeAny (model P w) A (.call (.ref f) args) (CR CX outer P w H s Q E) s
section
variable {P : Program} {w : World} {K : PySem.W.Frag} {mg : Str → Option Value} {base : Heap}
/-- such a def by its body; in the body the cells hold what they held -/
theorem fun_okC {x qual : Str} {st : Stmt} {f : Addr} {fd : FuncData} {N ps fr : List Str} {k : Nat} {sp : List (Str × Addr) → List (Option V) → Sp} (F : Fun K x qual st f fd) (S : FnScope N ps (defScope st)) (len : ∀ cl ws vs H Q E, sp cl ws vs H Q E → vs.length = ps.length)
    (hbody : ∀ (cdv : Value) (A : Around) (outer : List Env) (s : Shared) (H : Hp) (vs : List V) (Q : VK) (E : XK) (cl : List (Str × Addr)) (ws : List (Option V)), Room k (A.deeper (envOfC qual (defScope st) s.heap.objs.size f cdv)) →
      (∀ pins σ H' s', Inv (cxOf (L2.CX P w) P w K mg base N qual (defScope st) f cdv A outer s H E) pins σ H' s' → CellsAt cl fr ws s'.heap H') → sp cl ws vs H Q E →
      ∃ t, PSs (cxOf (L2.CX P w) P w K mg base N qual (defScope st) f cdv A outer s H E) (defBody st) t ∧ t { nx := fun _ H' => Q .non H', rt := Q } (start N vs) H) : FnOkC P w K mg base (L2.CX P w) (k + 1) f fd ps fr sp := by
  obtain ⟨oc, od, kV, doc, pm, an, cdv, ct, osl, rfl, lk, hcd⟩ := F.ex
  refine ⟨len, fun A outer s H args us vs Q E cl ws hr e0 hb r C nf h => ?_⟩
  have kin : K.In s.heap := e0.mod.kin.keeps fun b o e => (e0.bs b o e).1
  have later : ∀ pins σ H' s', Inv (cxOf (L2.CX P w) P w K mg base N qual (defScope st) f cdv A outer s H E) pins σ H' s' → CellsAt cl fr ws s'.heap H' := fun pins σ H' s' I =>
    CellsAt.later (X := cxOf (L2.CX P w) P w K mg base N qual (defScope st) f cdv A outer s H E) C nf (fun y c _ m => (nomatch m)) I
  refine codeAny_call_function hr.depth (kin _ _ lk) rfl S.co S.gen rfl (PySem.W.codeRec_of kin hcd) (hb _ _ _ _ (wpAny_newFunctionEnv_cells S.kind (fun y hy => ?_) fun env he s1 x => ?_))
  · rcases S.par y.1 (List.of_mem_zip hy).1 with q | q
    · exact .inl q
    · exact .inr ⟨q, PySem.W.cellsFrom_some _ _ _ (.inl q)⟩
  subst he
  obtain ⟨t, ht, hq⟩ := hbody cdv A outer s H vs Q E cl ws (hr.deeper _) later h
  refine ⟨(e0.mod.nolimit.keeps fun b o e => (e0.bs b o e).1).keeps x.toInCall.keep, codeAny_func (wpAny_mono (ht.run [] s1 (start N vs) H _ (inv_start S hr.hd e0 (len _ _ _ _ _ _ h) r x) hq) (fun fl s' z => ?_) fun e s' z => z)⟩
  cases fl with
  | ret u =>
    obtain ⟨v, σ', H', J, rv, q⟩ := z
    exact ⟨v, H', J.os, J.bare, J.base, J.hok, rv, q⟩
  | next =>
    obtain ⟨σ', H', J, q⟩ := z
    exact ⟨V.non, H', J.os, J.bare, J.base, J.hok, (rfl : RelV V.non Value.none), q⟩
  | brk =>
    obtain ⟨_, _, _, z⟩ := z
    exact z.elim
  | cont =>
    obtain ⟨_, _, _, z⟩ := z
    exact z.elim
end
/-- a call of such a def, by the def that made the function: cp tells how its names lie to the cells -/
def tCallC (js : List Nat) (cl : List (Str × Addr)) (sp : List (Str × Addr) → List (Option V) → Sp) (E : L2.St → XK) (t : TA) : TE := fun σ H Q => t σ H fun vs H1 => sp cl (js.map (slotAt σ)) vs H1 Q (E σ)
section
variable {X : Cx} {CX : CXT} {k : Nat} {f : Addr} {fd : FuncData} {ps fr : List Str} {js : List Nat} {cl : List (Str × Addr)} {sp : List (Str × Addr) → List (Option V) → Sp} {ES : L2.St → XK} {x : Str} {p pos : Pos} {e : Expr} {es : List Expr} {t : TA}
theorem pe_callC (F : FnOkC X.prog X.w X.K X.mg X.base CX k f fd ps fr sp) (hr : Room k X.A) (hg : Gl X x) (hm : X.mg x = some (.ref f)) (hk : PySem.W.keepIn X.K (.ref f) = true) (hb : Binds X.K fd ps []) (cp : X.Ok → Caps X cl fr js) (hfn : ∀ y, X.fn y = true) (hx : ∀ σ, PassesAt CX X σ (ES σ))
    (ha : PA X (e :: es) t) (hdb : (x == ("__debug__" : Str)) = false := by decide) (he : starEach (e :: es) X.env = (false, eval e X.env) :: starEach es X.env := by rfl) (hpl : (backTo pos (starEach es X.env)).any (·.1) = false := by rfl) :
    PE X (.Call (.Name x p) (e :: es) [] pos) (tCallC js cl sp ES t) := by
  refine ⟨fun pins s σ H Q I h => wpAny_Call_Name_kw (ld_glob I hg hm (PySem.W.callWith_K (h₀ := X.base) I.ok.mod.kin hk (thn (ha.run pos pins s σ H _ I h) fun us s1 ⟨vs, H1, J, r, q⟩ => ⟨J.kIn, ?_⟩) he hpl) hdb)⟩
  have c := cp J.ok
  have hl : us.length = ps.length := by rw [← r.length]; exact F.len _ _ _ _ _ _ q
  have nf : ∀ y a, cl.lookup y = some a → a ∉ frs X.stack := fun y a e m => by
    have ea := c.sub y a e
    have lo := J.ok.cab y a (hfn y) ea
    have out : a ∉ X.fs := fun z => by
      obtain ⟨_, o, ho, _⟩ := J.ok.funs.mem z
      exact Nat.lt_irrefl _ (Nat.lt_of_lt_of_le (Heap.lt_size ho) lo)
    rcases J.ok.stk with q | ⟨q, hf⟩
    · rw [q] at m
      exact out m
    · rw [q] at m
      unfold frs at m
      rw [List.filterMap_cons, hf] at m
      rcases List.mem_cons.mp m with z | z
      · obtain ⟨m', ⟨o, es', ep, ho, hd, _⟩, _⟩ := J.loc
        obtain ⟨v, o', ho', hd'⟩ := J.cell y a ea
        rw [z, ho] at ho'
        cases ho'
        rw [hd] at hd'
        cases hd'
      · exact out z
  have b2 := hb s1 us J.kIn (by rw [List.append_nil]; exact hl)
  rw [List.append_nil] at b2
  refine wpAny_call (codeAny_mono (F.run X.A X.stack s1 H1 ⟨us, []⟩ us vs Q (ES σ) cl _ hr J.env0 b2 r (cells_of J c) nf q) fun r s' z => ?_)
  cases r with
  | error e => exact hx σ pins H1 s1 e s' J z
  | ok fl =>
    cases fl with
    | ret u => exact J.after z
    | _ => exact z.elim
end
/-! walked, with a function that captures cells -/
section
variable {P : Program} {w : World} {K : PySem.W.Frag} {mg : Str → Option Value} {base : Heap} {f0 : Addr} {fd : FuncData}
theorem ok_walkedC (B : Bn mg) (c_parts_of : Cal P w K mg base "parts_of" 1 ["term"] spParts) (F0 : Fun K "walked" "walked" s_walked f0 fd) {k : Nat} {mk : List (Str × Addr) → Addr → NF} {fr : List Str} {sp : List (Option V) → Sp} {R : List (Option V) → Hp → Tm → V → Prop}
    (mn : ∀ ws H H' t v, Tups H H' → R ws H t v → R ws H' t v) (hk : 1 ≤ k) (clE : ∀ cl c', (mk cl c').cl = cl) (Fn : ∀ cl f c', NOk P w K mg base (L2.CX P w) k f (mk cl c') ["at", "given", "begun"] fr sp) :
    FnOkC P w K mg base (L2.CX P w) (k + 1) f0 fd ["term", "step"] fr (fun cl ws => spWalk (mk cl) sp ws (R ws)) := by
  refine fun_okC F0 sc_walked (fun cl ws vs H Q E h => ?_) (fun cdv A outer s H vs Q E cl ws hr hC h => ?_)
  · obtain ⟨v, f, c', t, rfl, _⟩ := h
    rfl
  exact walk_body B c_parts_of (mn ws) hk (Fn cl) (fun c' pins σ H' s' I => by rw [clE cl c']; exact hC pins σ H' s' I) hr h
end
end My
namespace My
open PySem PySem.Spec PyProof.Rows L2 NdefX LamX
/-! a call of a local name that holds one of several defs -/
def tCallG (i : Nat) (G : Addr → Sp → Prop) (E : L2.St → XK) (t : TA) : TE := fun σ H Q => ∃ f sp, σ[i]? = some (some (.ref f)) ∧ G f sp ∧ t σ H fun vs H1 => sp vs H1 Q (E σ)
structure HeldG (CX : CXT) (P : Program) (w : World) (K : PySem.W.Frag) (mg : Str → Option Value) (base : Heap) (k : Nat) (f : Addr) (sp : Sp) : Prop where
  ex : ∃ (fd : FuncData) (ps : List Str), FnOk P w K mg base CX k f fd ps sp ∧ PySem.W.keepIn K (.ref f) = true ∧ Binds K fd ps []
section
variable {X : Cx} {CX : CXT} {k i : Nat} {ES : L2.St → XK} {x : Str} {p pos : Pos} {e : Expr} {es : List Expr} {t : TA}
theorem pe_callG {G : Addr → Sp → Prop} (A : ∀ f sp, G f sp → HeldG CX X.prog X.w X.K X.mg X.base k f sp) (hr : Room k X.A) (hN : X.N[i]? = some x) (hv : Vis X.env.scope x) (hx : ∀ σ, PassesAt CX X σ (ES σ)) (ha : PA X (e :: es) t)
    (hdb : (x == ("__debug__" : Str)) = false := by decide) (hcd : (x == ("__classdict__" : Str)) = false := by decide)
    (he : starEach (e :: es) X.env = (false, eval e X.env) :: starEach es X.env := by rfl) (hpl : (backTo pos (starEach es X.env)).any (·.1) = false := by rfl) : PE X (.Call (.Name x p) (e :: es) [] pos) (tCallG i G ES t) := by
  refine ⟨fun pins s σ H Q I h => ?_⟩
  obtain ⟨f, sp, hs, hG, ht⟩ := h
  obtain ⟨fd, ps, F, hk, hb⟩ := (A f sp hG).ex
  refine wpAny_Call_Name_kw (thn ((pe_var (pos := p) hN hv hdb hcd).run pins s σ H (fun v H1 => v = .ref f ∧ H1 = H) I ⟨.ref f, hs, rfl, rfl⟩) fun u s1 ⟨v, H1, I1, r1, q1⟩ => ?_)
  obtain ⟨rfl, rfl⟩ := q1
  cases r1
  refine PySem.W.callWith_K (h₀ := X.base) I.ok.mod.kin hk (thn (ha.run pos pins s1 σ _ _ I1 ht) fun us s2 ⟨vs, H2, I2, r, q⟩ => ⟨I2.kIn, ?_⟩) he hpl
  exact run_fnS F hr hb (hx σ) I2 r q
end
/-- a def that may raise, called where it doesn't, as one that doesn't -/
theorem FnOk.hush {P : Program} {w : World} {K : PySem.W.Frag} {mg : Str → Option Value} {base : Heap} {k : Nat} {f : Addr} {fd : FuncData} {ps : List Str} {sp : Sp} (F : FnOk P w K mg base (L2.CX P w) k f fd ps sp) :
    FnOk P w K mg base CX0 k f fd ps (fun vs H Q _ => sp vs H Q E0) :=
  ⟨fun vs H Q E q => F.len vs H Q E0 q, fun A outer s H args us vs Q E hr he hb hv hs => codeAny_mono (F.run A outer s H args us vs Q E0 hr he hb hv hs) fun r s' hq => by
    cases r with
    | error e =>
      obtain ⟨_, _, _, _, _, _, _, _, _, _, _, _, z⟩ := hq
      exact z.elim
    | ok fl => cases fl <;> exact hq⟩
theorem FnOk.loud {CX : CXT} {P : Program} {w : World} {K : PySem.W.Frag} {mg : Str → Option Value} {base : Heap} {k : Nat} {f : Addr} {fd : FuncData} {ps : List Str} {sp : Sp} (F : FnOk P w K mg base CX0 k f fd ps sp) : FnOk P w K mg base CX k f fd ps sp :=
  ⟨F.len, fun A outer s H args us vs Q E hr he hb hv hs => codeAny_mono (F.run A outer s H args us vs Q E hr he hb hv hs) fun r s' hq => by
    cases r with
    | error e => exact False.elim hq
    | ok fl => cases fl <;> exact hq⟩
/-! a def whose code object is told -/
structure FunC (K : PySem.W.Frag) (x qual : Str) (st : Stmt) (f : Addr) (fd : FuncData) (c : Addr) : Prop where
  ex : ∃ (oc : Value) (od : Option Addr) (kV doc pm : Value) (an : Option Addr) (ct : Value) (osl : Array (Option Value)),
    fd = PySem.W.fnOf x qual (defArgs st) (defBody st) (defScope st) .none kV doc pm an (.ref c) ct ∧ K.lookup f = some ⟨oc, od, .func fd, osl⟩ ∧ PySem.W.codeIn K (.ref c) qual = true
section
variable {P : Program} {w : World} {K : PySem.W.Frag} {mg : Str → Option Value} {base : Heap}
theorem FunC.ok {x qual : Str} {st : Stmt} {f : Addr} {fd : FuncData} {c : Addr} {N ps : List Str} {k : Nat} {sp : Sp} (F : FunC K x qual st f fd c) (S : FnScope N ps (defScope st)) (len : ∀ vs H Q E, sp vs H Q E → vs.length = ps.length)
    (hbody : ∀ (A : Around) (outer : List Env) (s : Shared) (H : Hp) (vs : List V) (Q : VK) (E : XK), Room k (A.deeper (envOfC qual (defScope st) s.heap.objs.size f (.ref c))) → sp vs H Q E →
      ∃ t, PSs (cxOf CX0 P w K mg base N qual (defScope st) f (.ref c) A outer s H E).nox (defBody st) t ∧ t { nx := fun _ H' => Q .non H', rt := Q } (start N vs) H) : FnOk P w K mg base CX0 (k + 1) f fd ps sp := by
  obtain ⟨oc, od, kV, doc, pm, an, ct, osl, rfl, lk, hcd⟩ := F.ex
  refine fn_of lk hcd S len fun A outer s H vs Q E hr hsp => ?_
  obtain ⟨t, h, q⟩ := hbody A outer s H vs Q E hr hsp
  exact ⟨t, h.nox, q⟩
end
theorem FunC.toFun {K : PySem.W.Frag} {x qual : Str} {st : Stmt} {f : Addr} {fd : FuncData} {c : Addr} (F : FunC K x qual st f fd c) (k : PySem.W.keepIn K (.ref f) = true) : Fun K x qual st f fd := by
  obtain ⟨oc, od, kV, doc, pm, an, ct, osl, e, lk, hcd⟩ := F.ex
  exact ⟨⟨oc, od, kV, doc, pm, an, .ref c, ct, osl, e, lk, hcd⟩, k⟩
end My
namespace My
open PySem PySem.Spec PyProof.Rows L2 NdefX LamX
/-! functions made within defs, whose captured cells hold such functions: cells of several functions are told along -/
/-- a function's captured cells: their names and addresses, which of the names are told, what they hold -/
structure Grp where
  cl : List (Str × Addr)
  fr : List Str
  ws : List (Option V)
def GrpsAt (gs : List Grp) (stack : List Env) (h : Heap) (H : Hp) : Prop := ∀ g ∈ gs, CellsAt g.cl g.fr g.ws h H ∧ ∀ y c, g.cl.lookup y = some c → c ∉ frs stack
theorem GrpsAt.none {stack : List Env} {h : Heap} {H : Hp} : GrpsAt [] stack h H := fun g hg => nomatch hg
theorem GrpsAt.later {X : Cx} {gs : List Grp} {pins : List (Addr × Obj)} {σ : L2.St} {H : Hp} {s : Shared} (hst : X.stack = X.env :: X.outer) (hfr : X.env.frame = some X.s_0.heap.objs.size) (hex : X.ex = []) (G : GrpsAt gs X.outer X.s_0.heap X.H_0) (I : Inv X pins σ H s) : GrpsAt gs X.stack s.heap H := fun g hg => by
  obtain ⟨C, nf⟩ := G g hg
  refine ⟨CellsAt.later C nf (fun y c _ => by rw [hex]; exact List.not_mem_nil) I, fun y c e => ?_⟩
  rw [hst]
  unfold frs
  rw [List.filterMap_cons, hfr]
  intro m
  rcases List.mem_cons.mp m with z | z
  · obtain ⟨_, v, o, ho, _⟩ := C.all y c e
    have lt := Heap.lt_size ho
    rw [z] at lt
    exact Nat.lt_irrefl _ lt
  · exact nf y c e z
/-- the promise of a function made within another def, where other functions' cells are known, too -/
structure NOkG (P : Program) (w : World) (K : PySem.W.Frag) (mg : Str → Option Value) (base : Heap) (CX : CXT) (k : Nat) (f : Addr) (F : NF) (ps fr : List Str) (sp : List Grp → List (Option V) → Sp) : Prop where
  len : ∀ gs ws vs H Q E, sp gs ws vs H Q E → vs.length = ps.length
  run : ∀ (A : Around) (stk : List Env) (s : Shared) (H : Hp) (us : List Value) (vs : List V) (ws : List (Option V)) (gs : List Grp) (Q : VK) (E : XK), Room k A → Env0 P w K mg base A stk s H → H f = some (FnO f F) → H F.c = some (CodeO F.c F.qual) →
    CellsAt F.cl fr ws s.heap H → GrpsAt gs stk s.heap H → Vals vs us → sp gs ws vs H Q E → codeAny (model P w) A (.call (.ref f) ⟨us, []⟩) (CR CX stk P w H s Q E) s
section
variable {CX : CXT} {P : Program} {w : World} {K : PySem.W.Frag} {mg : Str → Option Value} {base : Heap} {N ps fr : List Str} {F : NF} {f : Addr} {k : Nat}
theorem NOk.toG {sp : List (Option V) → Sp} (o : NOk P w K mg base CX k f F ps fr sp) : NOkG P w K mg base CX k f F ps fr (fun _ => sp) := ⟨fun _ => o.len, fun A stk s H us vs ws _ Q E hr e0 hf hc C _ r q => o.run A stk s H us vs ws Q E hr e0 hf hc C r q⟩
theorem NOkG.loud {sp : List Grp → List (Option V) → Sp} (o : NOkG P w K mg base CX0 k f F ps fr sp) : NOkG P w K mg base CX k f F ps fr sp :=
  ⟨o.len, fun A stk s H us vs ws gs Q E hr e0 hf hc C G r q => codeAny_mono (o.run A stk s H us vs ws gs Q E hr e0 hf hc C G r q) fun r s' h => by
    cases r with
    | error e => exact False.elim h
    | ok fl => cases fl <;> exact h⟩
/-- by its body -/
theorem nokG_of {sp : List Grp → List (Option V) → Sp} (S : NScope N ps fr F.scope) (hb : ∀ (doc pm ctv : Value) (us : List Value), us.length = ps.length → bindArgs (F.fd doc pm ctv) ⟨us, []⟩ = pure (ps.zip us)) (len : ∀ gs ws vs H Q E, sp gs ws vs H Q E → vs.length = ps.length)
    (hbody : ∀ (A : Around) (stk : List Env) (s : Shared) (H : Hp) (vs : List V) (ws : List (Option V)) (gs : List Grp) (Q : VK) (E : XK), Room k (A.deeper (envF F f s.heap.objs.size)) → H f = some (FnO f F) → H F.c = some (CodeO F.c F.qual) → ws.length = fr.length →
      (∀ pins σ H' s', Inv (ncx CX P w K mg base N F f A stk s H E) pins σ H' s' → GrpsAt gs (ncx CX P w K mg base N F f A stk s H E).stack s'.heap H') → sp gs ws vs H Q E →
      ∃ t, PSs (ncx CX P w K mg base N F f A stk s H E) F.body t ∧ t { nx := fun _ H' => Q .non H', rt := Q } (startF N vs ws) H) : NOkG P w K mg base CX (k + 1) f F ps fr sp := by
  refine ⟨len, fun A stk s H us vs ws gs Q E hr e0 hf hc C G rel hsp => ?_⟩
  have noLim : s.heap.NoLimit := e0.mod.nolimit.keeps fun b o z => (e0.bs b o z).1
  obtain ⟨od, sl, doc, pm, ctv, obj⟩ := fnO_at e0.hok hf
  refine codeAny_call_function hr.depth obj rfl S.co S.gen rfl (codeO_at e0.hok hc) ?_
  rw [hb doc pm ctv us (by rw [← rel.length]; exact len _ _ _ _ _ _ hsp)]
  refine wpAny_pure (wpAny_newFunctionEnv S.nocell (fun ⟨n, _⟩ hy => S.par n (List.of_mem_zip hy).1) (fun hh hns hsb => ⟨noLim.fresh _ hsb, ?_⟩) S.kind)
  show codeAny _ _ (.func F.body (envF F f s.heap.objs.size)) _ _
  refine codeAny_func ?_
  have keep : ∀ b o, s.heap.get? b = some o → hh.get? b = some o := fun b o z => hsb.extBut b o (Nat.ne_of_lt (Heap.lt_size z)) (Heap.get?_push_of_some _ z)
  have I0 := inv_startN (CX := CX) (E := E) (f := f) (tk := s.toks + (ps.zip us).length) S hr.hd e0 (len _ _ _ _ _ _ hsp) rel C hns keep
  obtain ⟨t, ht, hq⟩ := hbody A stk s H vs ws gs Q E (hr.deeper _) hf hc C.len (fun pins σ H' s' I => GrpsAt.later (X := ncx CX P w K mg base N F f A stk s H E) rfl rfl rfl G I) hsp
  refine wpAny_mono (ht.run [] _ (startF N vs ws) H _ I0 hq) (fun fl s' z => ?_) fun _ _ z => z
  cases fl with
  | next =>
    obtain ⟨σ', H', J, q⟩ := z
    exact ⟨V.non, H', J.os, J.bare, J.base, J.hok, (rfl : RelV V.non Value.none), q⟩
  | ret u =>
    obtain ⟨v, σ', H', J, rv, q⟩ := z
    exact ⟨v, H', J.os, J.bare, J.base, J.hok, rv, q⟩
  | cont =>
    obtain ⟨_, _, _, z⟩ := z
    exact z.elim
  | brk =>
    obtain ⟨_, _, _, z⟩ := z
    exact z.elim
end
/-! a call of a name that holds such a function -/
section
variable {X : Cx} {CX : CXT} {ps fr : List Str} {i k : Nat} {x : Str} {f : Addr} {F : NF} {ws : List (Option V)} {gs : List Grp} {sp : List Grp → List (Option V) → Sp} {ES : L2.St → XK} {t : TA} {e : Expr} {es : List Expr} {p pos : Pos}
theorem pe_callVG (Fn : NOkG X.prog X.w X.K X.mg X.base CX k f F ps fr sp) (hC : ∀ pins σ H s, Inv X pins σ H s → CellsAt F.cl fr ws s.heap H ∧ GrpsAt gs X.stack s.heap H) (hr : Room k X.A) (hN : X.N[i]? = some x) (hv : Vis X.env.scope x) (hx : ∀ σ, PassesAt CX X σ (ES σ)) (ha : PA X (e :: es) t)
    (hd : (x == ("__debug__" : Str)) = false := by decide) (hcd : (x == ("__classdict__" : Str)) = false := by decide)
    (he : starEach (e :: es) X.env = (false, eval e X.env) :: starEach es X.env := by rfl) (hpl : (backTo pos (starEach es X.env)).any (·.1) = false := by rfl) :
    PE X (.Call (.Name x p) (e :: es) [] pos) (tCallV i f F (sp gs ws) ES t) := by
  refine ⟨fun pins s σ H Q I ⟨hs, hf, ht⟩ => wpAny_Call_Name_kw (thn ((pe_var (pos := p) hN hv hd hcd).run pins s σ H (fun v H1 => v = .ref f ∧ H1 = H) I ⟨.ref f, hs, rfl, rfl⟩) fun u s1 ⟨v, H1, J, r, ev, eH⟩ => ?_)⟩
  subst ev eH
  cases r
  refine PySem.W.callWith_F (first := []) (fnAt_of J hf) (thn (ha.run pos pins s1 σ _ _ J ht) fun us s2 ⟨vs, H2, J2, rv, f2, c2, q⟩ => ⟨fnAt_of J2 f2, ?_⟩) he hpl
  obtain ⟨C2, G2⟩ := hC pins σ H2 s2 J2
  refine wpAny_call (codeAny_mono (Fn.run X.A X.stack s2 H2 us vs ws gs Q (ES σ) hr J2.env0 f2 c2 C2 G2 rv q) fun r s' h => ?_)
  cases r with
  | error e => exact hx σ pins H2 s2 e s' J2 h
  | ok fl =>
    cases fl with
    | ret u => exact J2.after h
    | _ => exact h.elim
end
/-! a def that is handed such a function: its promise speaks of the cells -/
structure FnOkL (P : Program) (w : World) (K : PySem.W.Frag) (mg : Str → Option Value) (base : Heap) (CX : CXT) (k : Nat) (f : Addr) (fd : FuncData) (ps : List Str) (sp : List Grp → Sp) : Prop where
  len : ∀ gs vs H Q E, sp gs vs H Q E → vs.length = ps.length
  run : ∀ (A : Around) (stk : List Env) (s : Shared) (H : Hp) (args : Args) (us : List Value) (vs : List V) (Q : VK) (E : XK) (gs : List Grp), Room k A → Env0 P w K mg base A stk s H → BindsTo s fd args (ps.zip us) → Vals vs us → GrpsAt gs stk s.heap H → sp gs vs H Q E →
    codeAny (model P w) A (.call (.ref f) args) (CR CX stk P w H s Q E) s
section
variable {P : Program} {w : World} {K : PySem.W.Frag} {mg : Str → Option Value} {base : Heap} {CX : CXT}
theorem fun_okL {x qual : Str} {st : Stmt} {f : Addr} {cdv : Value} {N ps : List Str} {k : Nat} {sp : List Grp → Sp} {oc : Value} {od : Option Addr} {kV doc pm : Value} {an : Option Addr} {ct : Value} {osl : Array (Option Value)} (S : FnScope N ps (defScope st))
    (lk : K.lookup f = some ⟨oc, od, .func (PySem.W.fnOf x qual (defArgs st) (defBody st) (defScope st) .none kV doc pm an cdv ct), osl⟩) (hcd : PySem.W.codeIn K cdv qual = true) (len : ∀ gs vs H Q E, sp gs vs H Q E → vs.length = ps.length)
    (hbody : ∀ (A : Around) (stk : List Env) (s : Shared) (H : Hp) (vs : List V) (Q : VK) (E : XK) (gs : List Grp), Room k (A.deeper (envOfC qual (defScope st) s.heap.objs.size f cdv)) →
      (∀ pins σ H' s', Inv (cxOf CX P w K mg base N qual (defScope st) f cdv A stk s H E) pins σ H' s' → GrpsAt gs (cxOf CX P w K mg base N qual (defScope st) f cdv A stk s H E).stack s'.heap H') → sp gs vs H Q E →
      ∃ t, PSs (cxOf CX P w K mg base N qual (defScope st) f cdv A stk s H E) (defBody st) t ∧ t { nx := fun _ H' => Q .non H', rt := Q } (start N vs) H) : FnOkL P w K mg base CX (k + 1) f (PySem.W.fnOf x qual (defArgs st) (defBody st) (defScope st) .none kV doc pm an cdv ct) ps sp := by
  refine ⟨len, fun A stk s H args us vs Q E gs hr e0 hb r G h => ?_⟩
  have kin : K.In s.heap := e0.mod.kin.keeps fun b o e => (e0.bs b o e).1
  have later : ∀ pins σ H' s', Inv (cxOf CX P w K mg base N qual (defScope st) f cdv A stk s H E) pins σ H' s' → GrpsAt gs (cxOf CX P w K mg base N qual (defScope st) f cdv A stk s H E).stack s'.heap H' := fun pins σ H' s' I =>
    GrpsAt.later (X := cxOf CX P w K mg base N qual (defScope st) f cdv A stk s H E) rfl rfl rfl G I
  refine codeAny_call_function hr.depth (kin _ _ lk) rfl S.co S.gen rfl (PySem.W.codeRec_of kin hcd) (hb _ _ _ _ (wpAny_newFunctionEnv_cells S.kind (fun y hy => ?_) fun env he s1 x => ?_))
  · rcases S.par y.1 (List.of_mem_zip hy).1 with q | q
    · exact .inl q
    · exact .inr ⟨q, PySem.W.cellsFrom_some _ _ _ (.inl q)⟩
  subst he
  obtain ⟨t, ht, hq⟩ := hbody A stk s H vs Q E gs (hr.deeper _) later h
  refine ⟨(e0.mod.nolimit.keeps fun b o e => (e0.bs b o e).1).keeps x.toInCall.keep, codeAny_func (wpAny_mono (ht.run [] s1 (start N vs) H _ (inv_start S hr.hd e0 (len _ _ _ _ _ h) r x) hq) (fun fl s' z => ?_) fun e s' z => z)⟩
  cases fl with
  | ret u =>
    obtain ⟨v, σ', H', J, rv, q⟩ := z
    exact ⟨v, H', J.os, J.bare, J.base, J.hok, rv, q⟩
  | next =>
    obtain ⟨σ', H', J, q⟩ := z
    exact ⟨V.non, H', J.os, J.bare, J.base, J.hok, (rfl : RelV V.non Value.none), q⟩
  | brk =>
    obtain ⟨_, _, _, z⟩ := z
    exact z.elim
  | cont =>
    obtain ⟨_, _, _, z⟩ := z
    exact z.elim
/-- a def whose code object need not be told -/
theorem Fun.okL {x qual : Str} {st : Stmt} {f : Addr} {fd : FuncData} {N ps : List Str} {k : Nat} {sp : List Grp → Sp} (F : Fun K x qual st f fd) (S : FnScope N ps (defScope st)) (len : ∀ gs vs H Q E, sp gs vs H Q E → vs.length = ps.length)
    (hbody : ∀ (cdv : Value) (A : Around) (stk : List Env) (s : Shared) (H : Hp) (vs : List V) (Q : VK) (E : XK) (gs : List Grp), Room k (A.deeper (envOfC qual (defScope st) s.heap.objs.size f cdv)) →
      (∀ pins σ H' s', Inv (cxOf CX P w K mg base N qual (defScope st) f cdv A stk s H E) pins σ H' s' → GrpsAt gs (cxOf CX P w K mg base N qual (defScope st) f cdv A stk s H E).stack s'.heap H') → sp gs vs H Q E →
      ∃ t, PSs (cxOf CX P w K mg base N qual (defScope st) f cdv A stk s H E) (defBody st) t ∧ t { nx := fun _ H' => Q .non H', rt := Q } (start N vs) H) : FnOkL P w K mg base CX (k + 1) f fd ps sp := by
  obtain ⟨oc, od, kV, doc, pm, an, cdv, ct, osl, rfl, lk, hcd⟩ := F.ex
  exact fun_okL S lk hcd len (hbody cdv)
theorem FunC.okL {x qual : Str} {st : Stmt} {f : Addr} {fd : FuncData} {c : Addr} {N ps : List Str} {k : Nat} {sp : List Grp → Sp} (F : FunC K x qual st f fd c) (S : FnScope N ps (defScope st)) (len : ∀ gs vs H Q E, sp gs vs H Q E → vs.length = ps.length)
    (hbody : ∀ (A : Around) (stk : List Env) (s : Shared) (H : Hp) (vs : List V) (Q : VK) (E : XK) (gs : List Grp), Room k (A.deeper (envOfC qual (defScope st) s.heap.objs.size f (.ref c))) →
      (∀ pins σ H' s', Inv (cxOf CX P w K mg base N qual (defScope st) f (.ref c) A stk s H E) pins σ H' s' → GrpsAt gs (cxOf CX P w K mg base N qual (defScope st) f (.ref c) A stk s H E).stack s'.heap H') → sp gs vs H Q E →
      ∃ t, PSs (cxOf CX P w K mg base N qual (defScope st) f (.ref c) A stk s H E) (defBody st) t ∧ t { nx := fun _ H' => Q .non H', rt := Q } (start N vs) H) : FnOkL P w K mg base CX (k + 1) f fd ps sp := by
  obtain ⟨oc, od, kV, doc, pm, an, ct, osl, rfl, lk, hcd⟩ := F.ex
  exact fun_okL S lk hcd len hbody
end
/-- a call of such a def, by the def that made the function, or that knows it -/
def tCallL (js : List Nat) (cl : List (Str × Addr)) (fr : List Str) (gs : List Grp) (sp : List Grp → Sp) (E : L2.St → XK) (t : TA) : TE := fun σ H Q => t σ H fun vs H1 => sp (⟨cl, fr, js.map (slotAt σ)⟩ :: gs) vs H1 Q (E σ)
section
variable {X : Cx} {CX : CXT} {k : Nat} {f : Addr} {fd : FuncData} {ps fr : List Str} {js : List Nat} {cl : List (Str × Addr)} {gs : List Grp} {sp : List Grp → Sp} {ES : L2.St → XK} {x : Str} {p pos : Pos} {e : Expr} {es : List Expr} {t : TA}
theorem own_out {pins : List (Addr × Obj)} {σ : L2.St} {H : Hp} {s : Shared} (J : Inv X pins σ H s) (c : Caps X cl fr js) (hfn : ∀ y, X.fn y = true) : ∀ y a, cl.lookup y = some a → a ∉ frs X.stack := fun y a e m => by
  have ea := c.sub y a e
  have lo := J.ok.cab y a (hfn y) ea
  have out : a ∉ X.fs := fun z => by
    obtain ⟨_, o, ho, _⟩ := J.ok.funs.mem z
    exact Nat.lt_irrefl _ (Nat.lt_of_lt_of_le (Heap.lt_size ho) lo)
  rcases J.ok.stk with q | ⟨q, hf⟩
  · rw [q] at m
    exact out m
  · rw [q] at m
    unfold frs at m
    rw [List.filterMap_cons, hf] at m
    rcases List.mem_cons.mp m with z | z
    · obtain ⟨m', ⟨o, es', ep, ho, hd, _⟩, _⟩ := J.loc
      obtain ⟨v, o', ho', hd'⟩ := J.cell y a ea
      rw [z, ho] at ho'
      cases ho'
      rw [hd] at hd'
      cases hd'
    · exact out z
theorem pe_callL (F : FnOkL X.prog X.w X.K X.mg X.base CX k f fd ps sp) (hr : Room k X.A) (hg : Gl X x) (hm : X.mg x = some (.ref f)) (hk : PySem.W.keepIn X.K (.ref f) = true) (hb : Binds X.K fd ps []) (cp : X.Ok → Caps X cl fr js) (hfn : ∀ y, X.fn y = true) (hG : ∀ pins σ H s, Inv X pins σ H s → GrpsAt gs X.stack s.heap H) (hx : ∀ σ, PassesAt CX X σ (ES σ))
    (ha : PA X (e :: es) t) (hdb : (x == ("__debug__" : Str)) = false := by decide) (he : starEach (e :: es) X.env = (false, eval e X.env) :: starEach es X.env := by rfl) (hpl : (backTo pos (starEach es X.env)).any (·.1) = false := by rfl) :
    PE X (.Call (.Name x p) (e :: es) [] pos) (tCallL js cl fr gs sp ES t) := by
  refine ⟨fun pins s σ H Q I h => wpAny_Call_Name_kw (ld_glob I hg hm (PySem.W.callWith_K (h₀ := X.base) I.ok.mod.kin hk (thn (ha.run pos pins s σ H _ I h) fun us s1 ⟨vs, H1, J, r, q⟩ => ⟨J.kIn, ?_⟩) he hpl) hdb)⟩
  have c := cp J.ok
  have b2 := hb s1 us J.kIn (by rw [List.append_nil, ← r.length]; exact F.len _ _ _ _ _ q)
  rw [List.append_nil] at b2
  have G : GrpsAt (⟨cl, fr, js.map (slotAt σ)⟩ :: gs) X.stack s1.heap H1 := fun g hg => by
    rcases List.mem_cons.mp hg with rfl | hg
    · exact ⟨cells_of J c, own_out J c hfn⟩
    · exact hG pins σ H1 s1 J g hg
  refine wpAny_call (codeAny_mono (F.run X.A X.stack s1 H1 ⟨us, []⟩ us vs Q (ES σ) _ hr J.env0 b2 r G q) fun r s' z => ?_)
  cases r with
  | error e => exact hx σ pins H1 s1 e s' J z
  | ok fl =>
    cases fl with
    | ret u => exact J.after z
    | _ => exact z.elim
end
end My
namespace My
open PySem PySem.Spec PyProof.Rows L2 NdefX LamX
/-! walked, with functions that run defs in which defs stand: the tables of their code change, all else stays -/
theorem tups_ext {H H' : Hp} (x : ExtN H H') : Tups H H' := ⟨fun a xs h => x a _ h (fun _ => nofun), fun a _ xs h => x a _ h (fun _ => nofun)⟩
theorem codeO_lst {c : Addr} {q : Str} {xs : List V} : CodeO c q ≠ .lst xs := fun z => by
  unfold CodeO at z
  cases z
theorem TabsN.put {T : List NTab} {H : Hp} {p : Addr} {xs : List V} {u : HO} (t : TabsN T H) (hp : H p = some (.lst xs)) : TabsN T (upd H p u) := fun q hq => by
  obtain ⟨ps, h1, h2, h3⟩ := t q hq
  refine ⟨ps, by rw [upd_ne (ne_of h1 hp nofun)]; exact h1, h2, fun pos cv hc => ?_⟩
  obtain ⟨c, e1, e2⟩ := h3 pos cv hc
  refine ⟨c, e1, ?_⟩
  rw [upd_ne (fun e => by rw [e, hp] at e2; exact codeO_lst (Option.some.inj e2).symm)]
  exact e2
/-- nothing but a table stood there -/
def Nw (H : Hp) (a : Addr) : Prop := ∀ o, H a = some o → ∃ ps, o = .tbl ps
theorem nw0 {H : Hp} {a : Addr} (h : H a = none) : Nw H a := fun o e => by rw [h] at e; cases e
theorem nwF {H H' : Hp} {a : Addr} (z : ExtN H H') (h : H' a = none) : Nw H a := fun o e => by
  refine Classical.byContradiction fun n => ?_
  have := z a o e fun ps q => n ⟨ps, q⟩
  rw [h] at this
  cases this
theorem ExtN.atNw {H H' : Hp} {p : Addr} {o : HO} (z : ExtN H H') (n : Nw H p) : ExtN H (upd H' p o) := fun x u hx no => by
  have ne : x ≠ p := fun e => by
    obtain ⟨ps, q⟩ := n u (by rw [← e]; exact hx)
    exact no ps q
  rw [upd_ne ne]
  exact z x u hx no
theorem codeO_ne {c : Addr} {q : Str} (ps : Array Value) : CodeO c q ≠ .tbl ps := fun z => by
  unfold CodeO at z
  cases z
structure AptG (H0 : Hp) (b : Addr) (fs : List Fr) : Prop where
  b0 : Nw H0 b
  g0 : ∀ f ∈ fs, Nw H0 f.g
  bg : ∀ f ∈ fs, f.g ≠ b ∧ f.p ≠ b
  gp : ∀ f ∈ fs, ∀ f' ∈ fs, f.g ≠ f'.p
  nd : (fs.map Fr.g).Nodup
theorem AptG.tail {H0 : Hp} {b : Addr} {f : Fr} {fs : List Fr} (h : AptG H0 b (f :: fs)) : AptG H0 b fs :=
  ⟨h.b0, fun x hx => h.g0 x (.tail _ hx), fun x hx => h.bg x (.tail _ hx), fun x hx y hy => h.gp x (.tail _ hx) y (.tail _ hy), (List.nodup_cons.mp h.nd).2⟩
theorem Stk.ext {R : Hp → Tm → V → Prop} (mn : ∀ H H' t v, Tups H H' → R H t v → R H' t v) {H H' : Hp} {b : Addr} {fs : List Fr} (s : ExtN H H') (h : Stk R H b fs) : Stk R H' b fs :=
  ⟨s _ _ h.lst (fun _ => nofun), fun f hf => FrAt.mono mn (tups_ext s) (fun _ e => s _ _ e (fun _ => nofun)) (fun _ e => s _ _ e (fun _ => nofun)) (h.at_ f hf)⟩
def spWalkG (T : List NTab) (mk : Addr → NF) (sp : Sp) (R : Hp → Tm → V → Prop) : Sp := fun vs H Q E =>
  ∃ (v : V) (f c' : Addr) (t : Tm), vs = [v, .ref f] ∧ TmAt H v t ∧ t.size ≤ 50000 ∧ H f = some (FnO f (mk c')) ∧ H (mk c').c = some (CodeO (mk c').c (mk c').qual) ∧ TabsN T H ∧
    (∀ (u : V) (t' : Tm) (g b : Addr) (gs : List V) (fs : List Fr) (H' : Hp) (Q' : VK), ExtN H H' → TabsN T H' → TmAt H' u t' → H' g = some (.lst gs) → gs.length = t'.parts.length → Rts R H' t'.parts gs → Stk R H' b fs → Lnk t fs t' → t'.size ≤ 50000 → fs.length ≤ 100000 →
      (∀ r H'', R H'' t' r → ExtN H' H'' → TabsN T H'' → Q' r H'') → sp [u, .ref g, .ref b] H' Q' E) ∧
    ∀ r H', R H' t r → ExtN H H' → TabsN T H' → Q r H'
def WwalkG (T : List NTab) (R : Hp → Tm → V → Prop) (v : V) (f b : Addr) (t : Tm) (H0 : Hp) (m : Nat) (σ : L2.St) (H : Hp) : Prop :=
  ∃ (fs : List Fr) (u3 u4 u5 u6 u7 : Option V), σ = [some v, some (.ref f), some (.ref b), u3, u4, u5, u6, u7] ∧ ExtN H0 H ∧ TabsN T H ∧ Stk R H b fs ∧ AptG H0 b fs ∧ m = leftT fs ∧ m ≤ 2 * t.size ∧
    match fs with
    | [] => ∃ r, u3 = some r ∧ R H t r
    | x :: r => Lnk t r x.t ∧ ∀ y ∈ x :: r, y.t.size ≤ 50000
section
variable {P : Program} {w : World} {K : PySem.W.Frag} {mg : Str → Option Value} {base : Heap} {f0 : Addr}
/-- the body of walked, in its frame: hC tells what the function's cells hold -/
theorem walk_bodyG (B : Bn mg) (c_parts_of : Cal P w K mg base "parts_of" 1 ["term"] spParts) {cdv : Value} {A : Around} {outer : List Env} {s : Shared} {H : Hp} {vs : List V} {Q : VK} {E : XK} {k : Nat} {mk : Addr → NF} {fr : List Str} {sp : List Grp → List (Option V) → Sp} {ws : List (Option V)} {R : Hp → Tm → V → Prop} {T : List NTab} {gs : List Grp}
    (mn : ∀ H H' t v, Tups H H' → R H t v → R H' t v) (hk : 1 ≤ k) (Fn : ∀ f c', NOkG P w K mg base (L2.CX P w) k f (mk c') ["at", "given", "begun"] fr sp)
    (hC : ∀ c' pins σ H' s', Inv (cxOf (L2.CX P w) P w K mg base ["term", "step", "begun", "result", "at", "parts", "given", "part"] "walked" (defScope s_walked) f0 cdv A outer s H E) pins σ H' s' → CellsAt (mk c').cl fr ws s'.heap H' ∧ GrpsAt gs (cxOf (L2.CX P w) P w K mg base ["term", "step", "begun", "result", "at", "parts", "given", "part"] "walked" (defScope s_walked) f0 cdv A outer s H E).stack s'.heap H')
    (hr : Room k (A.deeper (envOfC "walked" (defScope s_walked) s.heap.objs.size f0 cdv))) (h : spWalkG T mk (sp gs ws) R vs H Q E) :
    ∃ t, PSs (cxOf (L2.CX P w) P w K mg base ["term", "step", "begun", "result", "at", "parts", "given", "part"] "walked" (defScope s_walked) f0 cdv A outer s H E) (defBody s_walked) t ∧ t { nx := fun _ H' => Q .non H', rt := Q } (start ["term", "step", "begun", "result", "at", "parts", "given", "part"] vs) H := by
  obtain ⟨v, f, c', t, rfl, ht, hz, hf, hc, hT, stp, q⟩ := h
  have Fn' := Fn f c'
  have hC' := hC c'
  generalize mk c' = F at hf hc Fn' hC'
  refine ⟨_, (pss_cons (ps_set (i := 2) sc_walked.nd rfl (Or.inl rfl) (pe_lst (pa_cons (pe_tup (pa_cons (pv 0) (pa_cons (pc c_parts_of (hr.mono (by first | decide | omega)) (pa_cons (pv 0) pa_nil)) (pa_cons (pe_lst pa_nil) pa_nil)))) pa_nil)))
    (pss_cons (ps_set (i := 3) sc_walked.nd rfl (Or.inl rfl) pe_non)
    (pss_cons (ps_while (passes_of rfl) (truth K rfl (pv 2)) (pss_cons (ps_asg (pe_ix (ixL K rfl) (pv 2) (pe_un un_neg pe_int) (fun _ _ => rfl)) (pg_tup rfl (pgs_cons (pg_name (i := 4) sc_walked.nd rfl (Or.inl rfl)) (pgs_cons (pg_name (i := 5) sc_walked.nd rfl (Or.inl rfl)) (pgs_cons (pg_name (i := 6) sc_walked.nd rfl (Or.inl rfl)) pgs_nil)))))
    (pss_cons (ps_if (pt_cmpR op_lt (pe_callB (lenSeq K rfl) (by rfl) B.b_len PySem.boot_len (pa_cons (pv 6) pa_nil)) (pe_callB (lenSeq K rfl) (by rfl) B.b_len PySem.boot_len (pa_cons (pv 5) pa_nil)) (nomark _)) (pss_cons (ps_set (i := 7) sc_walked.nd rfl (Or.inl rfl) (pe_ix (ixL K rfl) (pv 5) (pe_callB (lenSeq K rfl) (by rfl) B.b_len PySem.boot_len (pa_cons (pv 6) pa_nil)) (fun _ _ => rfl)))
    (pss_cons (ps_expr (pe_bm PySem.F.plainAttrs_list PySem.F.slot_list_append PySem.F.type_list_append mt_append (pv 2) (pa_cons (pe_tup (pa_cons (pv 7) (pa_cons (pc c_parts_of (hr.mono (by first | decide | omega)) (pa_cons (pv 7) pa_nil)) (pa_cons (pe_lst pa_nil) pa_nil)))) pa_nil)))
    (pss_one ps_continue))) pss_nil)
    (pss_cons (ps_expr (pe_bm0 PySem.F.plainAttrs_list PySem.F.slot_list_pop PySem.F.type_list_pop mt_pop (pv 2)))
    (pss_cons (ps_set (i := 3) sc_walked.nd rfl (Or.inl rfl) (pe_callVG (i := 1) Fn' hC' hr rfl (by first | exact Or.inl rfl | exact Or.inr (Or.inl rfl) | exact Or.inr (Or.inr rfl)) (fun σ => passAt (takes_of rfl rfl rfl rfl) σ) (pa_cons (pv 4) (pa_cons (pv 6) (pa_cons (pv 2) pa_nil)))))
    (pss_one (ps_if (truth K rfl (pv 2)) (pss_one (ps_expr (pe_bm PySem.F.plainAttrs_list PySem.F.slot_list_append PySem.F.type_list_append mt_append (pe_ix (ixT K rfl) (pe_ix (ixL K rfl) (pv 2) (pe_un un_neg pe_int) (fun _ _ => rfl)) pe_int (fun _ _ => rfl)) (pa_cons (pv 3) pa_nil)))) pss_nil)))))))
    (pss_one (ps_ret (pv 3)))))), ?_⟩
  obtain ⟨ps, nd, hps⟩ := ht.node
  have zt := t.size_parts
  have lps := hps.len
  have l1 := Tm.len_sizes t.parts
  refine ⟨_, rfl, _, rfl, v, _, ps, rfl, nd, by omega, fun p H1 np hp s1 => ?_⟩
  refine ⟨Nat.zero_le _, fun g ng => ⟨(by show 3 ≤ sizeLine; decide), fun e ne => ⟨(by show 1 ≤ sizeLine; decide), fun b nb => ?_⟩⟩⟩
  have init : WwalkG T R v f b t H (leftT [⟨e, p, g, v, t, []⟩]) [some v, some (.ref f), some (.ref b), some .non, none, none, none, none] (upd (upd (upd H1 g (.lst [])) e (.tup [v, .ref p, .ref g])) b (.lst [.ref e])) := by
    have s2 := same_new ng (.lst [])
    have s3 := same_new ne (.tup [v, .ref p, .ref g])
    have s4 := same_new nb (.lst [.ref e])
    have hgp : g ≠ p := fun z => by rw [z, hp] at ng; cases ng
    have hg2 : (upd H1 g (.lst [])) g = some (.lst []) := upd_same
    have g0 : H g = none := s1.free ng
    have b0 : H b = none := ((s1.trans s2).trans s3).free nb
    have hbg : g ≠ b := ne_of_none (s3 _ _ hg2) nb
    have hbp : p ≠ b := ne_of_none (s3 _ _ (s2 _ _ hp)) nb
    have all := ((s1.trans s2).trans s3).trans s4
    refine ⟨[⟨e, p, g, v, t, []⟩], some .non, none, none, none, none, rfl, ExtN.of all, TabsN.ext hT all, ⟨upd_same, fun x hx => ?_⟩, ⟨nw0 b0, fun x hx => ?_, fun x hx => ?_, fun x hx y hy => ?_, by simp⟩, rfl, ?_, rfl, fun x hx => by rw [List.mem_singleton.mp hx]; exact hz⟩
    · rw [List.mem_singleton.mp hx]
      exact ⟨s4 _ _ upd_same, ht.mono (Tups.of_same all), ⟨ps, s4 _ _ (s3 _ _ (s2 _ _ hp)), hps.mono (Tups.of_same all)⟩, s4 _ _ (s3 _ _ hg2), ⟨Nat.zero_le _, fun i t v a => by simp at a⟩⟩
    · rw [List.mem_singleton.mp hx]
      exact nw0 g0
    · rw [List.mem_singleton.mp hx]
      exact ⟨hbg, hbp⟩
    · rw [List.mem_singleton.mp hx, List.mem_singleton.mp hy]
      exact hgp
    · simp only [leftT, leftB, List.length_nil, List.drop_zero]
      omega
  refine ⟨WwalkG T R v f b t H, ⟨_, init⟩, fun m σ H2 w2 => ?_⟩
  clear init
  obtain ⟨fs, u3, u4, u5, u6, u7, rfl, S, TT, Ks, Ap, rfl, hm, c⟩ := w2
  refine ⟨_, rfl, _, .inl ⟨_, SqL.of Ks.lst, rfl⟩, ?_⟩
  cases fs with
  | nil =>
    obtain ⟨r, rfl, hR⟩ := c
    exact iteF ⟨_, rfl, q r H2 hR S TT⟩
  | cons x r =>
    obtain ⟨lnk, xz⟩ := c
    have hl := Ks.lst
    rw [List.reverse_cons, List.map_append, List.map_cons, List.map_nil] at hl ⊢
    have hL : (r.reverse.map fun f => V.ref f.e).length = r.length := by rw [List.length_map, List.length_reverse]
    generalize hLL : (r.reverse.map fun f => V.ref f.e) = L at hl hL ⊢
    refine ifT (by cases L <;> rfl) ?_
    have lr := leftT_len (x :: r)
    rw [List.length_cons] at lr
    refine ⟨fun σ' H' => ∃ m', m' < leftT (x :: r) ∧ WwalkG T R v f b t H m' σ' H', fun _ _ h => h, ?_⟩
    have hx := Ks.at_ x (.head _)
    obtain ⟨xs, hxp, hxs⟩ := hx.ps
    have lxs := hxs.len
    have lgs := hx.rt.1
    have zx := x.t.size_parts
    have l2 := Tm.len_sizes x.t.parts
    refine ⟨_, rfl, _, rfl, _, _, _, _, rfl, rfl, SqL.of hl, atI_last _ _, x.e, _, rfl, SqT.of hx.row, rfl, _, _, rfl, _, _, rfl, _, _, rfl, rfl, ?_⟩
    refine ⟨_, rfl, x.g, _, rfl, .inl (SqL.of hx.gs), _, rfl, x.p, xs, rfl, .inl (SqL.of hxp), _, _, rfl, rfl, _, rfl, ?_⟩
    by_cases hlt : x.gs.length < xs.length
    · -- the next part is begun
      refine ifT (decide_eq_true (by omega)) ?_
      obtain ⟨tp, htp⟩ : ∃ tp, x.t.parts[x.gs.length]? = some tp := ⟨_, List.getElem?_eq_getElem (by omega)⟩
      obtain ⟨pv, hpv, tmp⟩ := hxs.get _ _ htp
      obtain ⟨pps, pnd, hpps⟩ := tmp.node
      have zm := Tm.sizes_mem (List.mem_of_getElem? htp)
      have zp := tp.size_parts
      have lp := hpps.len
      have l3 := Tm.len_sizes tp.parts
      have xz := xz x (.head _)
      refine ⟨_, rfl, _, rfl, x.g, _, rfl, .inl (SqL.of hx.gs), _, _, _, _, rfl, rfl, SqL.of hxp, atI_nat hpv, ?_⟩
      refine ⟨_, rfl, tyL hl, _, rfl, _, rfl, pv, _, pps, rfl, pnd, by omega, fun p' H3 np' hp' s3 => ⟨Nat.zero_le _, fun g' ng' => ⟨(by show 3 ≤ sizeLine; decide), fun e' ne' => ?_⟩⟩⟩
      have s4 := same_new ng' (.lst [])
      have hg4 : (upd H3 g' (.lst [])) g' = some (.lst []) := upd_same
      generalize hG4 : upd H3 g' (.lst []) = H4 at ne' s4 hg4 ⊢
      have s5 := same_new ne' (.tup [pv, .ref p', .ref g'])
      have he5 : (upd H4 e' (.tup [pv, .ref p', .ref g'])) e' = some (.tup [pv, .ref p', .ref g']) := upd_same
      generalize hG5 : upd H4 e' (.tup [pv, .ref p', .ref g']) = H5 at s5 he5 ⊢
      have s25 := (s3.trans s4).trans s5
      have hl5 := s25 _ _ hl
      refine ⟨b, _, .ref e', rfl, rfl, hl5, ?_, ?_⟩
      · rw [List.length_append, List.length_singleton, hL]
        exact line5 (by omega)
      have T6 : Tups H5 (upd H5 b (.lst ((L ++ [.ref x.e]) ++ [.ref e']))) := Tups.upd hl5
      have S6 : ExtN H (upd H5 b (.lst ((L ++ [.ref x.e]) ++ [.ref e']))) := ExtN.atNw (S.trans (ExtN.of s25)) Ap.b0
      have TT6 : TabsN T (upd H5 b (.lst ((L ++ [.ref x.e]) ++ [.ref e']))) := TabsN.put (TabsN.ext TT s25) hl5
      have hb6 : (upd H5 b (.lst ((L ++ [.ref x.e]) ++ [.ref e']))) b = some (.lst ((L ++ [.ref x.e]) ++ [.ref e'])) := upd_same
      have k6 : ∀ a o, a ≠ b → H5 a = some o → (upd H5 b (.lst ((L ++ [.ref x.e]) ++ [.ref e']))) a = some o := fun a o n e => by rw [upd_ne n]; exact e
      generalize upd H5 b (.lst ((L ++ [.ref x.e]) ++ [.ref e'])) = H6 at T6 S6 TT6 hb6 k6 ⊢
      have TU : Tups H2 H6 := (Tups.of_same s25).trans T6
      have ng'b : g' ≠ b := (ne_of_none (s3 _ _ hl) ng').symm
      have np'b : p' ≠ b := (ne_of_none hl np').symm
      have np'g' : g' ≠ p' := (ne_of_none hp' ng').symm
      refine ⟨_, ?_, ⟨e', p', g', pv, tp, []⟩ :: x :: r, u3, some x.v, some (.ref x.p), some (.ref x.g), some pv, rfl, S6, TT6, ⟨?_, fun y hy => ?_⟩, ⟨Ap.b0, fun y hy => ?_, fun y hy => ?_, fun y hy z hz => ?_, ?_⟩, rfl, ?_, ⟨htp, lnk⟩, fun y hy => ?_⟩
      · simp only [leftT, leftB, List.length_nil, List.drop_zero]
        have := sizes_drop htp
        omega
      · rw [hb6, List.reverse_cons, List.map_append, List.reverse_cons, List.map_append, hLL]
        rfl
      · rcases List.mem_cons.mp hy with rfl | hy
        · exact ⟨T6 _ _ he5, tmp.mono TU, ⟨pps, k6 _ _ np'b (s5 _ _ (s4 _ _ hp')), hpps.mono TU⟩, k6 _ _ ng'b (s5 _ _ hg4), ⟨Nat.zero_le _, fun i t v a => by simp at a⟩⟩
        · exact FrAt.mono mn TU (fun _ e => k6 _ _ (Ap.bg y hy).2 (s25 _ _ e)) (fun _ e => k6 _ _ (Ap.bg y hy).1 (s25 _ _ e)) (Ks.at_ y hy)
      · rcases List.mem_cons.mp hy with rfl | hy
        · exact nwF (S.trans (ExtN.of s3)) ng'
        · exact Ap.g0 y hy
      · rcases List.mem_cons.mp hy with rfl | hy
        · exact ⟨ng'b, np'b⟩
        · exact Ap.bg y hy
      · rcases List.mem_cons.mp hy with rfl | hy <;> rcases List.mem_cons.mp hz with rfl | hz
        · exact np'g'
        · obtain ⟨zs, h1, _⟩ := (Ks.at_ z hz).ps
          exact (ne_of_none (s3 _ _ h1) ng').symm
        · exact ne_of_none (Ks.at_ y hy).gs np'
        · exact Ap.gp y hy z hz
      · refine List.nodup_cons.mpr ⟨fun h => ?_, Ap.nd⟩
        obtain ⟨y, hy, ey⟩ := List.mem_map.mp h
        exact ne_of_none (s3 _ _ (Ks.at_ y hy).gs) ng' ey
      · simp only [leftT, leftB, List.length_nil, List.drop_zero] at hm ⊢
        have := sizes_drop htp
        omega
      · rcases List.mem_cons.mp hy with rfl | hy
        · show tp.size ≤ 50000
          omega
        · exact (by assumption : ∀ y ∈ x :: r, y.t.size ≤ 50000) y hy
    · -- all its parts have given
      refine ifF (decide_eq_false (by omega)) ?_
      refine ⟨_, rfl, tyL hl, b, _, .ref x.e, rfl, rfl, hl, by simp, ?_⟩
      rw [List.dropLast_concat]
      have T3 : Tups H2 (upd H2 b (.lst L)) := Tups.upd hl
      have S3 : ExtN H (upd H2 b (.lst L)) := ExtN.atNw S Ap.b0
      have TT3 : TabsN T (upd H2 b (.lst L)) := TabsN.put TT hl
      have hb3 : (upd H2 b (.lst L)) b = some (.lst L) := upd_same
      have k3 : ∀ a o, a ≠ b → H2 a = some o → (upd H2 b (.lst L)) a = some o := fun a o n e => by rw [upd_ne n]; exact e
      generalize upd H2 b (.lst L) = H3 at T3 S3 TT3 hb3 k3 ⊢
      have stk3 : Stk R H3 b r := ⟨by rw [hb3, hLL], fun y hy => FrAt.mono mn T3 (fun _ e => k3 _ _ (Ap.bg y (.tail _ hy)).2 e) (fun _ e => k3 _ _ (Ap.bg y (.tail _ hy)).1 e) (Ks.at_ y (.tail _ hy))⟩
      refine ⟨rfl, S3 _ _ hf fnO_ne, _, rfl, _, rfl, _, rfl, S3 _ _ hf fnO_ne, S3 _ _ hc codeO_ne, stp x.v x.t x.g b x.gs r H3 _ S3 TT3 (hx.tm.mono T3) (k3 _ _ (Ap.bg x (.head _)).1 hx.gs) (by omega) (Rts.mono mn T3 hx.rt) stk3 lnk (xz x (.head _)) (by omega) fun rv H4 hR s4 TT4 => ?_⟩
      have hb4 := s4 _ _ hb3 (fun _ => nofun)
      have stk4 := Stk.ext mn s4 stk3
      have S4 := S3.trans s4
      refine ⟨_, rfl, _, .inl ⟨L, SqL.of hb4, rfl⟩, ?_⟩
      cases r with
      | nil =>
        cases hLL
        refine iteF ⟨0, (by simp only [leftT]; omega), [], some rv, some x.v, some (.ref x.p), some (.ref x.g), u7, rfl, S4, TT4, ⟨hb4, fun y hy => (nomatch hy)⟩, ⟨Ap.b0, fun y hy => (nomatch hy), fun y hy => (nomatch hy), fun y hy => (nomatch hy), List.nodup_nil⟩, rfl, Nat.zero_le _, rv, rfl, ?_⟩
        have e : x.t = t := lnk
        rw [← e]
        exact hR
      | cons y r =>
        rw [List.reverse_cons, List.map_append] at hLL
        obtain ⟨M, rfl⟩ : ∃ M, L = M ++ [V.ref y.e] := ⟨_, hLL.symm⟩
        refine ifT (by cases M <;> rfl) ?_
        have hy := stk4.at_ y (.head _)
        have ay := Ap.tail
        refine ⟨_, rfl, _, rfl, _, _, _, _, rfl, rfl, SqL.of hb4, atI_last _ _, _, _, _, _, rfl, rfl, SqT.of hy.row, rfl, tyL hy.gs, _, rfl, y.g, y.gs, rv, rfl, rfl, hy.gs, ?_, ?_⟩
        · have := hy.rt.1
          have := Tm.len_sizes y.t.parts
          have := y.t.size_parts
          have := xz y (.tail _ (.head _))
          exact line5 (by omega)
        have T5 : Tups H4 (upd H4 y.g (.lst (y.gs ++ [rv]))) := Tups.upd hy.gs
        have S5 : ExtN H (upd H4 y.g (.lst (y.gs ++ [rv]))) := ExtN.atNw S4 (ay.g0 y (.head _))
        have TT5 : TabsN T (upd H4 y.g (.lst (y.gs ++ [rv]))) := TabsN.put TT4 hy.gs
        have hg5 : (upd H4 y.g (.lst (y.gs ++ [rv]))) y.g = some (.lst (y.gs ++ [rv])) := upd_same
        have k5 : ∀ a o, a ≠ y.g → H4 a = some o → (upd H4 y.g (.lst (y.gs ++ [rv]))) a = some o := fun a o n e => by rw [upd_ne n]; exact e
        generalize upd H4 y.g (.lst (y.gs ++ [rv])) = H5 at T5 S5 TT5 hg5 k5 ⊢
        obtain ⟨yps, hyp, hyps⟩ := hy.ps
        have nd := List.nodup_cons.mp ay.nd
        refine ⟨_, ?_, ⟨y.e, y.p, y.g, y.v, y.t, y.gs ++ [rv]⟩ :: r, some rv, some x.v, some (.ref x.p), some (.ref x.g), u7, rfl, S5, TT5, ⟨?_, fun z hz => ?_⟩, ⟨Ap.b0, fun z hz => ?_, fun z hz => ?_, fun z hz z' hz' => ?_, ay.nd⟩, rfl, ?_, lnk.2, fun z hz => ?_⟩
        · simp only [leftT, leftB, List.length_append, List.length_singleton]
          omega
        · rw [k5 _ _ (ay.bg y (.head _)).1.symm hb4, ← hLL, List.reverse_cons, List.map_append]
          rfl
        · rcases List.mem_cons.mp hz with rfl | hz
          · exact ⟨T5 _ _ hy.row, hy.tm.mono T5, ⟨yps, k5 _ _ (ay.gp y (.head _) y (.head _)).symm hyp, hyps.mono T5⟩, hg5, Rts.snoc (Rts.mono mn T5 hy.rt) lnk.1 (mn _ _ _ _ T5 hR)⟩
          · exact FrAt.mono mn T5 (fun _ e => k5 _ _ (ay.gp y (.head _) z (.tail _ hz)).symm e) (fun _ e => k5 _ _ (fun q => nd.1 (q ▸ List.mem_map_of_mem hz)) e) (stk4.at_ z (.tail _ hz))
        · rcases List.mem_cons.mp hz with rfl | hz
          · exact ay.g0 y (.head _)
          · exact ay.g0 z (.tail _ hz)
        · rcases List.mem_cons.mp hz with rfl | hz
          · exact ay.bg y (.head _)
          · exact ay.bg z (.tail _ hz)
        · rcases List.mem_cons.mp hz with rfl | hz <;> rcases List.mem_cons.mp hz' with rfl | hz'
          · exact ay.gp y (.head _) y (.head _)
          · exact ay.gp y (.head _) z' (.tail _ hz')
          · exact ay.gp z (.tail _ hz) y (.head _)
          · exact ay.gp z (.tail _ hz) z' (.tail _ hz')
        · simp only [leftT, leftB, List.length_append, List.length_singleton] at hm ⊢
          omega
        · rcases List.mem_cons.mp hz with rfl | hz
          · exact xz y (.tail _ (.head _))
          · exact xz z (.tail _ (.tail _ hz))
/-- walked: the first cells are those of its function, the others of what these hold -/
theorem ok_walkedL {fd : FuncData} (B : Bn mg) (c_parts_of : Cal P w K mg base "parts_of" 1 ["term"] spParts) (F0 : Fun K "walked" "walked" s_walked f0 fd) {k : Nat} {mk : List (Str × Addr) → Addr → NF} {fr : List Str} {sp : List Grp → List (Option V) → Sp} {R : Hp → Tm → V → Prop} {T : List NTab}
    (mn : ∀ H H' t v, Tups H H' → R H t v → R H' t v) (hk : 1 ≤ k) (clE : ∀ cl c', (mk cl c').cl = cl) (Fn : ∀ cl f c', NOkG P w K mg base (L2.CX P w) k f (mk cl c') ["at", "given", "begun"] fr sp) :
    FnOkL P w K mg base (L2.CX P w) (k + 1) f0 fd ["term", "step"] (fun gs vs H Q E => ∃ g r, gs = g :: r ∧ g.fr = fr ∧ spWalkG T (mk g.cl) (sp r g.ws) R vs H Q E) := by
  refine My.Fun.okL F0 sc_walked (fun gs vs H Q E h => ?_) (fun cdv A outer s H vs Q E gs hr hG h => ?_)
  · obtain ⟨g, r, _, _, v, f, c', t, rfl, _⟩ := h
    rfl
  obtain ⟨g, r, rfl, rfl, h⟩ := h
  exact walk_bodyG B c_parts_of mn hk (Fn g.cl) (fun c' pins σ H' s' I => by
    have G := hG pins σ H' s' I
    rw [clE g.cl c']
    exact ⟨(G g (.head _)).1, fun x hx => G x (.tail _ hx)⟩) hr h
end
end My
namespace My
open PySem PySem.Spec PyProof.Rows L2 RZ
/-! list(zip(a, b)) of two tuples -/
section
variable {prog : Program} {w : World} {A : Around} {E : Value → Shared → Prop} {s : Shared}
theorem heldT_item {z TI TO T i1 i2 l1 l2 : Addr} {f : Bool} {oT : Obj} {j : Nat} {xs ys : Array Value} {x y : Value} {Q : Option Value → Shared → Prop} (D : ZipApart z TI TO i1 i2 l1 l2)
    (hz : IsZipHeld s.heap z TI TO T f) (hT : s.heap.get? T = some oT) (hTI : IsPair s.heap TI (.ref i1) (.ref i2)) (t1 : s.heap.IsTupleIter i1 l1 j) (t2 : s.heap.IsTupleIter i2 l2 j)
    (m1 : s.heap.IsTuple l1 xs) (m2 : s.heap.IsTuple l2 ys) (hx : xs[j]? = some x) (hy : ys[j]? = some y)
    (go : ∀ g, IsZipHeld g z TI TO T true → g.IsTupleIter i1 l1 (j + 1) → g.IsTupleIter i2 l2 (j + 1) → IsPair g s.heap.objs.size x y → (∀ c o, c ≠ z → c ≠ i1 → c ≠ i2 → s.heap.get? c = some o → g.get? c = some o) → Q (some (.ref s.heap.objs.size)) { s with heap := g }) :
    wpAny (model prog w) A (pyNext (.ref z)) Q E s := by
  have ty : s.TypeIs (.ref z) "zip" := ⟨_, hz, rfl⟩
  unfold pyNext
  refine wpAny_bind (wpAny_attempt (wpAny_callSpecial?_slot (name := Str.ofString "__next__") ty PySem.F.slot_zip_next (wpAny_call_entry PySem.F.slot_zip_next ty PySem.F.entry_zip_next ?_ (PySem.F.args_zip_next_1 _))))
  show wpAny _ _ (field (.ref z) 2 >>= _) _ _ _; refine wpAny_bind (wpAny_field hz rfl (x := .bool false) rfl ?_)
  show wpAny _ _ (field (.ref z) 3 >>= _) _ _ _; refine wpAny_bind (wpAny_field hz rfl (x := .ref TI) rfl ?_)
  refine wpAny_bind (wpAny_seqItems hTI rfl ?_); show wpAny _ _ (Builtin.SmallTypes.ownedTupleIsFree (.ref z) >>= _) _ _ _
  refine wpAny_bind (wpAny_tupleHeld_zip hz hT fun g1 z1 b1 => ?_)
  simp only [Bool.false_eq_true, if_false]; refine wpAny_bind ?_; rw [← Array.forIn_toList]; simp only [List.forIn_cons, List.forIn_nil]
  refine wpAny_bind (wpAny_bind (wpAny_holding ?_)); show wpAny _ _ (Builtin.SmallTypes.nextOf (.ref i1) >>= _) _ _ _
  refine wpAny_bind (nextOf_tuple_item (s := { s with heap := g1 }) (t1.at fun o e => b1.extBut _ _ D.i1z e) (let ⟨o, e, r⟩ := m1; ⟨o, b1.extBut _ _ D.l1z e, r⟩) hx fun g2 u1 b2 => wpAny_pure (wpAny_pure ?_))
  refine wpAny_bind (wpAny_bind (wpAny_holding ?_)); show wpAny _ _ (Builtin.SmallTypes.nextOf (.ref i2) >>= _) _ _ _
  have c2 : ∀ c o, c ≠ z → c ≠ i1 → s.heap.get? c = some o → g2.get? c = some o := fun c o p q e => b2.extBut _ _ q (b1.extBut _ _ p e)
  refine wpAny_bind (nextOf_tuple_item (s := { s with heap := g2 }) (t2.at fun o e => c2 _ o D.i2z D.i12.symm e) (let ⟨o, e, r⟩ := m2; ⟨o, c2 _ o D.l2z D.l2i1 e, r⟩) hy fun g3 u2 b3 => wpAny_pure (wpAny_pure (wpAny_pure ?_)))
  show wpAny _ _ (newTuple [x, y] >>= _) _ _ _; refine wpAny_bind (wpAny_newTuple (wpAny_pure ⟨_, rfl, ?_⟩))
  have sz : g3.objs.size = s.heap.objs.size := b3.1.trans (b2.1.trans b1.1)
  have p3 : IsPair (g3.push { cls := .type "tuple", data := .seq #[x, y] }) g3.objs.size x y := Heap.get?_push_size _ rfl
  refine wpAny_pure ?_
  rw [sz] at p3 ⊢
  exact go _ (Heap.get?_push_of_some _ (b3.extBut _ _ D.i2z.symm (b2.extBut _ _ D.i1z.symm z1))) (u1.at fun o e => Heap.get?_push_of_some _ (b3.extBut _ _ D.i12 e)) (u2.at fun o e => Heap.get?_push_of_some _ e) p3
    fun c o n1 n2 n3 e => Heap.get?_push_of_some _ (b3.extBut _ _ n3 (c2 c o n1 n2 e))
theorem heldT_end {z TI TO T i1 i2 l1 l2 : Addr} {f : Bool} {oT : Obj} {j : Nat} {xs : Array Value} {Q : Option Value → Shared → Prop} (calm : A.handled = none) (D : ZipApart z TI TO i1 i2 l1 l2)
    (hz : IsZipHeld s.heap z TI TO T f) (hT : s.heap.get? T = some oT) (hTI : IsPair s.heap TI (.ref i1) (.ref i2)) (t1 : s.heap.IsTupleIter i1 l1 j)
    (m1 : s.heap.IsTuple l1 xs) (hx : xs[j]? = none)
    (go : ∀ g, (∀ c o, c ≠ z → c ≠ i1 → s.heap.get? c = some o → g.get? c = some o) → Q none { s with heap := g }) :
    wpAny (model prog w) A (pyNext (.ref z)) Q E s := by
  have ty : s.TypeIs (.ref z) "zip" := ⟨_, hz, rfl⟩
  unfold pyNext
  refine wpAny_bind (wpAny_attempt (wpAny_callSpecial?_slot (name := Str.ofString "__next__") ty PySem.F.slot_zip_next (wpAny_call_entry PySem.F.slot_zip_next ty PySem.F.entry_zip_next ?_ (PySem.F.args_zip_next_1 _))))
  show wpAny _ _ (field (.ref z) 2 >>= _) _ _ _; refine wpAny_bind (wpAny_field hz rfl (x := .bool false) rfl ?_)
  show wpAny _ _ (field (.ref z) 3 >>= _) _ _ _; refine wpAny_bind (wpAny_field hz rfl (x := .ref TI) rfl ?_)
  refine wpAny_bind (wpAny_seqItems hTI rfl ?_); show wpAny _ _ (Builtin.SmallTypes.ownedTupleIsFree (.ref z) >>= _) _ _ _
  refine wpAny_bind (wpAny_tupleHeld_zip hz hT fun g1 z1 b1 => ?_)
  simp only [Bool.false_eq_true, if_false]; refine wpAny_bind ?_; rw [← Array.forIn_toList]; simp only [List.forIn_cons, List.forIn_nil]
  refine wpAny_bind (wpAny_bind (wpAny_holding ?_)); show wpAny _ _ (Builtin.SmallTypes.nextOf (.ref i1) >>= _) _ _ _
  refine wpAny_bind (nextOf_tuple_end (s := { s with heap := g1 }) calm (t1.at fun o e => b1.extBut _ _ D.i1z e) (let ⟨o, e, r⟩ := m1; ⟨o, b1.extBut _ _ D.l1z e, r⟩) hx fun g2 e b2 st => ?_)
  obtain ⟨o, ho, hc⟩ := st
  refine wpAny_bind (wpAny_isInstance (T := "StopIteration") (b := true) ⟨o, ho, hc⟩ isSubtype_stop (wpAny_pure (go _ fun c o n1 n2 q => b2 _ _ n2 (b1.extBut _ _ n1 q))))
end
theorem Same.tup {K : PySem.W.Frag} {H H' : Hp} {a : Addr} {xs : List V} (e : Same H H') (h : SqT K H a xs) : SqT K H' a xs := by
  rcases h with (h | ⟨o, h⟩) | h
  · exact .inl (.inl (e _ _ h))
  · exact .inl (.inr ⟨o, e _ _ h⟩)
  · exact .inr h
/-- pairs of what stands at the same places, in new tuples -/
def PairsAt (H : Hp) (xs ys : List V) (as : List Addr) : Prop := ∀ (j : Nat) (c : Addr), as[j]? = some c → ∃ x y, xs[j]? = some x ∧ ys[j]? = some y ∧ H c = some (.tup [x, y])
def ZSt (H : Hp) (z TI TO i1 i2 a b : Addr) (i : Nat) (h : Heap) : Prop :=
  ((i = 0 ∧ IsZip h z TI TO .none) ∨ ∃ T f xs, IsZipHeld h z TI TO T f ∧ H T = some (.tup xs)) ∧ IsPair h TI (.ref i1) (.ref i2) ∧ (∃ x y, IsPair h TO x y) ∧ h.IsTupleIter i1 a i ∧ h.IsTupleIter i2 b i
section
variable {X : Cx} {pins : List (Addr × Obj)} {σ : L2.St}
theorem zip_loop {A1 : Around} {Rs : Result → Shared → Prop} {z TI TO i1 i2 a b S : Addr} {xs ys : List V} (calm : A1.in1.handled = none) (D : ZipApart z TI TO i1 i2 a b) (hl : xs.length = ys.length) (hz : xs.length < sizeLine) (H0 : Hp) (hS0 : H0 S = none)
    (fin : ∀ (H' : Hp) (as : List Addr) (s' : Shared), Inv X pins σ H' s' → Same H0 H' → H' S = some (.lst (as.map V.ref)) → as.length = xs.length → PairsAt H' xs ys as → Rs (.ok (.ret .none)) s') :
    ∀ (k i : Nat) (as : List Addr) (H : Hp) (s : Shared), k + i = xs.length → Inv X pins σ H s → Same H0 H → SqT X.K H a xs → SqT X.K H b ys → H S = some (.lst (as.map V.ref)) → as.length = i → PairsAt H xs ys as → S ∉ as →
      (∀ c ∈ [z, TI, TO, i1, i2], FpOk X pins H c) → ZSt H z TI TO i1 i2 a b i s.heap → codeAny (model X.prog X.w) A1 (.builtin "list.extend.loop" ⟨[.ref S, .ref z, .none], []⟩) Rs s := by
  intro k
  induction k with
  | zero =>
    intro i as H s hi I sm ha hb hS hal hp _ hf st
    obtain ⟨hzz, hTI, ⟨x0, y0, hTO⟩, t1, t2⟩ := st
    obtain ⟨its, rv, p1, _⟩ := I.tuple ha
    obtain ⟨its2, rv2, p2, _⟩ := I.tuple hb
    have e1 : its.toArray[i]? = none := by
      have := rv.length
      simp
      omega
    refine codeAny_builtin PySem.F.entry_extend_loop ?_
    rw [Around.under_plainId PySem.F.plain_extend_loop _]
    show wpAny _ A1.in1 (pyNext (.ref z) >>= _) _ _ s
    have out : ∀ (g : Heap), (∀ c o, c ∉ [z, TI, TO, i1, i2] → s.heap.get? c = some o → g.get? c = some o) → Inv X pins σ H { s with heap := g } := fun g kp => I.turnedL (t' := s.toks) (ch := [z, TI, TO, i1, i2]) kp hf
    have last : ∀ (g : Heap), (∀ c o, c ∉ [z, TI, TO, i1, i2] → s.heap.get? c = some o → g.get? c = some o) → Rs (.ok (.ret .none)) { s with heap := g } := fun g kp => fin H as _ (out g kp) sm hS (by omega) hp
    rcases hzz with ⟨_, hz0⟩ | ⟨T, f, ts, hz0, hT⟩
    · refine wpAny_bind (pyNext_zipT_end (s := s) calm D hz0 hTI hTO t1 t2 p1 p2 (.inl e1) fun g kp => wpAny_pure (last g fun c o n e => kp c o ?_ ?_ ?_ ?_ e))
      all_goals (intro q; exact n (by simp [q]))
    · obtain ⟨_, tits, _, ⟨oT, eT, _⟩⟩ := I.hok T _ hT
      refine wpAny_bind (heldT_end (s := s) calm D hz0 eT hTI t1 p1 e1 fun g kp => wpAny_pure (last g fun c o n e => kp c o ?_ ?_ e))
      all_goals (intro q; exact n (by simp [q]))
  | succ k ih =>
    intro i as H s hi I sm ha hb hS hal hp nS hf st
    obtain ⟨hzz, hTI, ⟨x0, y0, hTO⟩, t1, t2⟩ := st
    obtain ⟨its, rv, p1, _⟩ := I.tuple ha
    obtain ⟨its2, rv2, p2, _⟩ := I.tuple hb
    have lx : i < xs.length := by omega
    obtain ⟨x, hx⟩ : ∃ x, xs[i]? = some x := ⟨xs[i], List.getElem?_eq_getElem lx⟩
    obtain ⟨y, hy⟩ : ∃ y, ys[i]? = some y := ⟨ys[i]'(by omega), List.getElem?_eq_getElem (by omega)⟩
    obtain ⟨u, hu, ru⟩ := rv.get hx
    obtain ⟨u2, hu2, ru2⟩ := rv2.get hy
    have zl : z < s.heap.objs.size := by
      rcases hzz with ⟨_, h⟩ | ⟨_, _, _, h, _⟩ <;> exact Heap.lt_size h
    have lt : ∀ c ∈ [z, TI, TO, i1, i2], c < s.heap.objs.size := fun c hc => by
      have e' : c = z ∨ c = TI ∨ c = TO ∨ c = i1 ∨ c = i2 := by simpa using hc
      rcases e' with q | q | q | q | q
      · rw [q]; exact zl
      · rw [q]; exact Heap.lt_size hTI
      · rw [q]; exact Heap.lt_size hTO
      · rw [q]; obtain ⟨_, e1, _⟩ := t1; exact Heap.lt_size e1
      · rw [q]; obtain ⟨_, e1, _⟩ := t2; exact Heap.lt_size e1
    have nT : H s.heap.objs.size = none := I.hok.fresh (Nat.le_refl _)
    have nST : S ≠ s.heap.objs.size := fun e => by rw [e, nT] at hS; cases hS
    refine codeAny_builtin PySem.F.entry_extend_loop ?_
    rw [Around.under_plainId PySem.F.plain_extend_loop _]
    show wpAny _ A1.in1 (pyNext (.ref z) >>= _) _ _ s
    have step : ∀ (g : Heap) (f : Bool), IsZipHeld g z TI TO (if f then s.heap.objs.size else s.heap.objs.size) false ∨ (∃ T ts, IsZipHeld g z TI TO T true ∧ H T = some (.tup ts)) → g.IsTupleIter i1 a (i + 1) → g.IsTupleIter i2 b (i + 1) → IsPair g s.heap.objs.size u u2 → (∃ x y, IsPair g TO x y) → IsPair g TI (.ref i1) (.ref i2) →
        (∀ c o, c ∉ [z, TI, TO, i1, i2] → s.heap.get? c = some o → g.get? c = some o) →
        wpAny (model X.prog X.w) A1.in1 (updateSeq S (·.push (.ref s.heap.objs.size)) >>= fun _ => again (.builtin "list.extend.loop" ⟨[.ref S, .ref z, .none], []⟩)) (fun fin s' => match fin with | .done f => Rs (.ok f) s' | .again c' => c'.quiet = true ∧ codeAny (model X.prog X.w) A1 c' Rs s') (fun e s' => Rs (.error e) s') { s with heap := g } := by
      intro g f hzg v1 v2 hT hTO' hTI' kp
      have new : ObjOk X.prog X.w (upd H s.heap.objs.size (.tup [x, y])) g s.heap.objs.size (.tup [x, y]) := ⟨by show 2 ≤ sizeLine; decide, [u, u2], .cons ru (.cons ru2 .nil), ⟨_, hT, rfl, _, rfl⟩⟩
      have I1 : Inv X pins σ (upd H s.heap.objs.size (.tup [x, y])) { s with heap := g } := I.turnedNew (t' := s.toks) (ch := [z, TI, TO, i1, i2]) kp hf (Nat.le_refl _) new
      have hS1 : upd H s.heap.objs.size (.tup [x, y]) S = some (.lst (as.map V.ref)) := by rw [upd_ne nST]; exact hS
      obtain ⟨_, its3, n3, r3, l3, e3⟩ := I1.lstM hS1
      have l4 : its3.length = i := by rw [← l3, List.length_map, hal]
      have s1 : Same H (upd H s.heap.objs.size (.tup [x, y])) := same_new nT _
      refine wpAny_bind (wpAny_updateSeq e3 rfl (wpAny_pure ⟨plainId_quiet PySem.F.plain_extend_loop _, ?_⟩) (by rw [List.size_toArray]; omega) (by show (its3.toArray.push _).size ≤ sizeLine + 1; rw [Array.size_push, List.size_toArray]; omega))
      have I2 := I1.lset (its' := its3 ++ [.ref s.heap.objs.size]) (ys := (as ++ [s.heap.objs.size]).map V.ref) (f := (·.push (.ref s.heap.objs.size))) (t' := s.toks) hS1 e3 (by simp) (by rw [List.map_append]; exact r3.append (.cons rfl .nil)) (by rw [List.length_map, List.length_append, List.length_singleton]; omega)
      have s2 : Same H0 (upd (upd H s.heap.objs.size (.tup [x, y])) S (.lst ((as ++ [s.heap.objs.size]).map V.ref))) := Same.atNew (sm.trans s1) hS0
      have off : ∀ c o, c ≠ S → H c = some o → upd (upd H s.heap.objs.size (.tup [x, y])) S (.lst ((as ++ [s.heap.objs.size]).map V.ref)) c = some o := fun c o n e => by rw [upd_ne n]; exact s1 _ _ e
      have sc : ∀ c ∈ [z, TI, TO, i1, i2], c ≠ S := fun c hc q => by
        have := (hf c hc).1
        rw [q, hS] at this
        cases this
      have keepT : ∀ {c : Addr} {ts : List V}, SqT X.K H c ts → SqT X.K (upd (upd H s.heap.objs.size (.tup [x, y])) S (.lst ((as ++ [s.heap.objs.size]).map V.ref))) c ts := fun h => by
        rcases h with (h | ⟨o, h⟩) | h
        · exact .inl (.inl (off _ _ (fun q => by rw [q, hS] at h; cases h) h))
        · exact .inl (.inr ⟨o, off _ _ (fun q => by rw [q, hS] at h; cases h) h⟩)
        · exact .inr h
      have up : ∀ c o, c ≠ S → g.get? c = some o → (g.update S (Obj.mapSeq (·.push (Value.ref s.heap.objs.size)))).get? c = some o := fun c o n e => (Heap.get?_update_other _ _ (Ne.symm n)).trans e
      have fp2 : ∀ c ∈ [z, TI, TO, i1, i2], upd (upd H s.heap.objs.size (.tup [x, y])) S (.lst ((as ++ [s.heap.objs.size]).map V.ref)) c = none := fun c hc => by
        rw [upd_ne (sc c hc), upd_ne (Nat.ne_of_lt (lt c hc))]
        exact (hf c hc).1
      refine ih (i + 1) (as ++ [s.heap.objs.size]) _ _ (by omega) I2 s2 (keepT ha) (keepT hb) upd_same (by rw [List.length_append, hal]; rfl) (fun j c hj => ?_) (fun hm => ?_) (fun c hc => ⟨fp2 c hc, (hf c hc).2⟩) ⟨.inr ?_, ?_, ?_, ?_, ?_⟩
      · by_cases hji : j < as.length
        · rw [List.getElem?_append_left hji] at hj
          obtain ⟨x', y', e1, e2, e3⟩ := hp j c hj
          exact ⟨x', y', e1, e2, off _ _ (fun q => nS (by rw [← q]; exact List.mem_of_getElem? hj)) e3⟩
        · have ej : j = as.length := by
            have := (List.getElem?_eq_some_iff.mp hj).1
            rw [List.length_append, List.length_singleton] at this
            omega
          subst ej
          have ec : s.heap.objs.size = c := by simpa using hj
          subst ec
          exact ⟨x, y, by rw [hal]; exact hx, by rw [hal]; exact hy, by rw [upd_ne nST.symm]; exact upd_same⟩
      · rcases List.mem_append.mp hm with h | h
        · exact nS h
        · exact nST (by simpa using h)
      · rcases hzg with h | ⟨T, ts, h, hT⟩
        · refine ⟨s.heap.objs.size, false, [x, y], up _ _ (sc z (by simp)) (by simpa using h), by rw [upd_ne nST.symm]; exact upd_same⟩
        · exact ⟨T, true, ts, up _ _ (sc z (by simp)) h, off _ _ (fun q => by rw [q, hS] at hT; cases hT) hT⟩
      · exact up _ _ (sc TI (by simp)) hTI'
      · obtain ⟨x', y', h⟩ := hTO'
        exact ⟨x', y', up _ _ (sc TO (by simp)) h⟩
      · exact v1.at fun o q => up _ o (sc i1 (by simp)) q
      · exact v2.at fun o q => up _ o (sc i2 (by simp)) q
    have au : its.toArray[i]? = some u := by simpa using hu
    have au2 : its2.toArray[i]? = some u2 := by simpa using hu2
    rcases hzz with ⟨_, hz0⟩ | ⟨T, f, ts, hz0, hT⟩
    · refine wpAny_bind (pyNext_zipT_item (s := s) D hz0 hTI hTO t1 t2 p1 p2 au au2 fun g zg tg v1 v2 hT _ kp => ?_)
      refine step g true (.inl (by simpa using zg)) v1 v2 hT ⟨_, _, tg⟩ (kp _ _ D.TIz D.TITO D.TIi1 D.TIi2 hTI) fun c o n e => kp c o ?_ ?_ ?_ ?_ e
      all_goals (intro q; exact n (by simp [q]))
    · obtain ⟨_, tits, _, ⟨oT, eT, _⟩⟩ := I.hok T _ hT
      refine wpAny_bind (heldT_item (s := s) D hz0 eT hTI t1 t2 p1 p2 au au2 fun g zg v1 v2 hT' kp => ?_)
      refine step g true (.inr ⟨T, ts, zg, hT⟩) v1 v2 hT' ⟨_, _, kp _ _ D.TOz D.TOi1 D.TOi2 hTO⟩ (kp _ _ D.TIz D.TIi1 D.TIi2 hTI) fun c o n e => kp c o ?_ ?_ ?_ e
      all_goals (intro q; exact n (by simp [q]))
theorem zip_len : typeLookup (.type "zip") "__len__" = pure none := am_miss_of_fast (by decide +kernel)
theorem zip_hint : typeLookup (.type "zip") "__length_hint__" = pure none := am_miss_of_fast (by decide +kernel)
/-- list(zip(a, b)), tuples of one length -/
def tListZip (K : PySem.W.Frag) (ta : TA) : TE := fun σ H Q => ta σ H fun vs H1 => ∃ (a b : Addr) (xs ys : List V), vs = [.ref a, .ref b] ∧ SqT K H1 a xs ∧ SqT K H1 b ys ∧ xs.length = ys.length ∧ xs.length < sizeLine ∧
  ∀ (l : Addr) (as : List Addr) (H2 : Hp), H1 l = none → Same H1 H2 → H2 l = some (.lst (as.map V.ref)) → as.length = xs.length → PairsAt H2 xs ys as → Q (.ref l) H2
theorem pe_listZip (K : PySem.W.Frag) (hK : X.K = K) (hc : X.calm = true) (hm : X.mg "list" = none) (hm2 : X.mg "zip" = none) {e e2 : Expr} {ta : TA} {p p2 q pos : Pos} (ha : PA X [e, e2] ta) (hg : Gl X "list" := by rfl) (hg2 : Gl X "zip" := by rfl)
    (hs : starEach [e, e2] X.env = (false, eval e X.env) :: starEach [e2] X.env := by rfl) (hpl : (backTo q (starEach [e2] X.env)).any (·.1) = false := by rfl)
    (na : starEach [.Call (.Name "zip" p2) [e, e2] [] q] X.env = (false, eval (.Call (.Name "zip" p2) [e, e2] [] q) X.env) :: starEach [] X.env := by rfl) :
    PE X (.Call (.Name "list" p) [.Call (.Name "zip" p2) [e, e2] [] q] [] pos) (tListZip K ta) := by
  subst hK
  refine ⟨fun pins s σ H Q I h => ?_⟩
  refine Call_ (ld_blt I hg hm PyProof.Rows.boot_list ?_)
  refine PyProof.Rows.callWith_type1 (PyProof.Rows.args_cons ?_ na) na rfl
  refine Call_ (ld_blt I hg2 hm2 PyProof.Rows.boot_zip (PyProof.Rows.callWith_type1 (thn (ha.run q pins s σ H _ I h) fun us s1 ⟨vs, H1, I1, r1, q1⟩ => ?_) hs hpl))
  obtain ⟨a, b, xs, ys, rfl, hqa, hqb, hl, hz, q1⟩ := q1
  cases r1 with
  | cons r rr =>
  cases rr with
  | cons r' rr =>
  cases rr
  cases r
  cases r'
  obtain ⟨its, rv, p1, _⟩ := I1.tuple hqa
  obtain ⟨its2, rv2, p2, _⟩ := I1.tuple hqb
  obtain ⟨o1, ho1, _⟩ := id p1
  obtain ⟨o2, ho2, _⟩ := id p2
  have D := PySem.W.ktu_apart s1.heap.objs.size a b (Heap.lt_size ho1) (Heap.lt_size ho2)
  refine call_zipT (show s1.heap.IsTuple a its.toArray from p1) (show s1.heap.IsTuple b its2.toArray from p2) fun g hz0 hTI hTO t1 t2 hsz hk => PyProof.Rows.args_nil ?_
  have I2 : Inv X pins σ H1 { s1 with heap := g } := I1.kept (t' := s1.toks) hk
  have calm : X.A.in1.in1.handled = none := by simp [I1.ok.hd hc]
  have nS : H1 g.objs.size = none := I2.hok.fresh (Nat.le_refl _)
  have zlt : s1.heap.objs.size + 4 < g.objs.size := by rw [hsz]; exact Nat.lt_succ_self _
  refine callType_codes (Q₁ := fun ob s3 => ob = .ref g.objs.size ∧ s3 = { s1 with heap := g.push { cls := .type "list", data := .seq #[] } }) PySem.F.called_list (PySem.F.typeCall_list_1 _) PySem.F.entry_list_init
    (code_list_new _ ⟨rfl, rfl⟩) fun ob s3 h3 => ?_
  obtain ⟨rfl, rfl⟩ := h3
  have hS : (g.push { cls := .type "list", data := .seq #[] }).get? g.objs.size = some { cls := .type "list", data := .seq #[] } := Heap.get?_push_size _ rfl
  refine ⟨⟨_, hS, rfl⟩, PySem.F.args_list_init_2 _ _, ?_⟩
  have I3 : Inv X pins σ (upd H1 g.objs.size (.lst [])) { s1 with heap := g.push { cls := .type "list", data := .seq #[] } } := I2.lnew (its := []) (t' := s1.toks) .nil (Nat.zero_le _)
  show wpAny _ X.A.in1.in1 (do let was ← Builtin.List.listItems (.ref g.objs.size); Builtin.List.listUpdate (.ref g.objs.size) (fun _ => #[]); letGo was.toList.reverse; Builtin.List.listExtendWith (.ref g.objs.size) (.ref (s1.heap.objs.size + 4)) .none) _ _ _
  refine wpAny_bind ?_; unfold Builtin.List.listItems; refine wpAny_bind (wpAny_seqItems hS rfl (wpAny_pure ?_))
  show wpAny _ _ (updateSeq g.objs.size (fun _ => #[]) >>= fun _ => letGo (#[] : Array Value).toList.reverse >>= fun _ => Builtin.List.listExtendWith (.ref g.objs.size) (.ref (s1.heap.objs.size + 4)) .none) _ _ _
  refine wpAny_bind (wpAny_updateSeq hS rfl ?_)
  have I4 := I3.lset (f := fun _ => #[]) (its := []) (its' := []) (ys := []) (t' := s1.toks) upd_same hS rfl .nil (Nat.zero_le _)
  rw [upd_upd] at I4
  have hS4 := Heap.get?_update_self (Obj.mapSeq (fun _ => (#[] : Array Value))) hS rfl
  have off4 : ∀ c o, c ≠ g.objs.size → g.get? c = some o → ((g.push { cls := .type "list", data := .seq #[] }).update g.objs.size (Obj.mapSeq (fun _ => (#[] : Array Value)))).get? c = some o := fun c o n e => (Heap.get?_update_other _ _ (Ne.symm n)).trans (Heap.get?_push_of_some _ e)
  generalize (g.push { cls := .type "list", data := .seq #[] }).update g.objs.size (Obj.mapSeq (fun _ => (#[] : Array Value))) = g4 at I4 hS4 off4
  refine wpAny_bind (wpAny_letGo ?_)
  have ne4 : ∀ k, k ≤ 4 → s1.heap.objs.size + k ≠ g.objs.size := fun k hk => by rw [hsz]; omega
  have z4 : IsZip g4 (s1.heap.objs.size + 4) (s1.heap.objs.size + 2) (s1.heap.objs.size + 3) .none := off4 _ _ (ne4 4 (by omega)) hz0
  unfold Builtin.List.listExtendWith
  have ty4 : ∀ {g5 : Heap}, IsZip g5 (s1.heap.objs.size + 4) (s1.heap.objs.size + 2) (s1.heap.objs.size + 3) .none → Shared.TypeIs { s1 with heap := g5 } (.ref (s1.heap.objs.size + 4)) "zip" := fun h => ⟨_, h, rfl⟩
  refine wpAny_bind (wpAny_typeOf (ty4 z4) ?_)
  have f1 : Builtin.List.listSameRef (.ref g.objs.size) (.ref (s1.heap.objs.size + 4)) = false := by simp [Builtin.List.listSameRef, (ne4 4 (by omega)).symm]
  have f2 : (Value.type "zip" == Value.type "list") = false := by decide
  have f3 : (Value.type "zip" == Value.type "tuple") = false := by decide
  simp only [f1, f2, f3, Bool.or_false, Bool.false_eq_true, if_false]
  refine wpAny_bind (wpAny_pyIter_zip (s := { s1 with heap := g4 }) z4 ?_)
  refine wpAny_bind (wpAny_holding ?_)
  unfold Builtin.List.listLengthHint
  refine wpAny_bind (wpAny_specialOf (ty4 z4) zip_len ?_)
  show wpAny _ _ (specialOf (Value.ref (s1.heap.objs.size + 4)) (Str.ofString "__length_hint__") >>= _) _ _ _
  refine wpAny_bind (wpAny_specialOf (ty4 z4) zip_hint ?_)
  refine wpAny_pure ?_
  show wpAny _ _ (rule "list.extend.makes-room" >>= fun _ => Builtin.List.listTouch (.ref g.objs.size) >>= fun _ => again (.builtin "list.extend.loop" ⟨[.ref g.objs.size, .ref (s1.heap.objs.size + 4), .none], []⟩)) _ _ _
  refine wpAny_bind (wpAny_rule ?_); refine wpAny_bind ?_
  show wpAny _ _ (updateSeq g.objs.size (·.push .none) >>= fun _ => updateSeq g.objs.size (·.pop)) _ _ _
  refine wpAny_bind (wpAny_updateSeq hS4 rfl ?_)
  have I5 := I4.lset (f := (·.push Value.none)) (its := []) (its' := [Value.none]) (ys := [.non]) (t' := s1.toks) upd_same hS4 (by simp) (.cons rfl .nil) (by rw [List.length_singleton, sizeLine_eq]; decide)
  have hS5 := Heap.get?_update_self (Obj.mapSeq (·.push Value.none)) hS4 rfl
  refine wpAny_updateSeq hS5 rfl ?_ (by show 1 ≤ sizeLine; rw [sizeLine_eq]; decide) (by show 0 ≤ sizeLine + 1; exact Nat.zero_le _)
  have I6 := I5.lset (f := (·.pop)) (its := [Value.none]) (its' := []) (ys := []) (t' := s1.toks) upd_same hS5 (by rfl) .nil (Nat.zero_le _)
  rw [upd_upd, upd_upd] at I6
  have off6 : ∀ c o, c ≠ g.objs.size → g.get? c = some o → ((g4.update g.objs.size (Obj.mapSeq (·.push Value.none))).update g.objs.size (Obj.mapSeq (·.pop))).get? c = some o := fun c o n e =>
    (Heap.get?_update_other _ _ (Ne.symm n)).trans ((Heap.get?_update_other _ _ (Ne.symm n)).trans (off4 c o n e))
  generalize (g4.update g.objs.size (Obj.mapSeq (·.push Value.none))).update g.objs.size (Obj.mapSeq (·.pop)) = g6 at I6 off6
  refine wpAny_pure ⟨plainId_quiet PySem.F.plain_extend_loop _, ?_⟩
  have ctup : ∀ {c : Addr} {ts : List V}, SqT X.K H1 c ts → SqT X.K (upd H1 g.objs.size (.lst [])) c ts := fun h => Same.tup (same_new nS _) h
  refine zip_loop (A1 := X.A.in1) (Rs := wants (fun r s₂ => r = .none ∧ _) X.xe) calm D hl hz H1 nS (fun H' as s' I' sm hS' hal hp => ⟨rfl, ?_⟩) xs.length 0 [] (upd H1 g.objs.size (.lst [])) { s1 with heap := g6 } rfl I6 (same_new nS _) (ctup hqa) (ctup hqb) upd_same rfl (fun j c hj => by simp at hj) (by simp) (fun c hc => ?_) ⟨.inl ⟨rfl, off6 _ _ (ne4 4 (by omega)) hz0⟩, off6 _ _ (ne4 2 (by omega)) hTI, ⟨_, _, off6 _ _ (ne4 3 (by omega)) hTO⟩, t1.at fun o e => off6 _ _ (ne4 0 (by omega)) e, t2.at fun o e => off6 _ _ (ne4 1 (by omega)) e⟩
  · exact ⟨.ref g.objs.size, H', I', rfl, q1 _ as H' nS sm hS' hal hp⟩
  · have e' : c = s1.heap.objs.size + 4 ∨ c = s1.heap.objs.size + 2 ∨ c = s1.heap.objs.size + 3 ∨ c = s1.heap.objs.size ∨ c = s1.heap.objs.size + 1 := by simpa using hc
    obtain ⟨k, hk4, rfl⟩ : ∃ k : Nat, k ≤ 4 ∧ c = s1.heap.objs.size + k := by
      rcases e' with h | h | h | h | h
      · exact ⟨4, by omega, h⟩
      · exact ⟨2, by omega, h⟩
      · exact ⟨3, by omega, h⟩
      · exact ⟨0, by omega, h⟩
      · exact ⟨1, by omega, h⟩
    have hle : s1.heap.objs.size ≤ s1.heap.objs.size + k := Nat.le_add_right _ _
    have hne := ne4 k hk4
    exact I1.fpOk hle (by rw [upd_ne hne]; exact I1.hok.fresh hle)
end
end My
namespace My
open PySem PySem.Spec PyProof.Rows L2 RZ
/-! zip of two sequences, each a tuple (true) or a list (false), in a comprehension or a for -/
def SIs (b : Bool) (h : Heap) (l : Addr) (xs : Array Value) : Prop := if b then h.IsTuple l xs else h.IsList l xs
def SIt (b : Bool) (h : Heap) (i l : Addr) (j : Nat) : Prop := if b then h.IsTupleIter i l j else h.IsListIter i l j
theorem SIs.ext {b : Bool} {h h' : Heap} {l : Addr} {xs : Array Value} (x : SIs b h l xs) (e : ∀ o, h.get? l = some o → h'.get? l = some o) : SIs b h' l xs := by
  cases b <;> exact let ⟨o, q, r⟩ := x; ⟨o, e o q, r⟩
theorem SIt.ext {b : Bool} {h h' : Heap} {i l : Addr} {j : Nat} (x : SIt b h i l j) (e : ∀ o, h.get? i = some o → h'.get? i = some o) : SIt b h' i l j := by
  cases b <;> exact let ⟨o, q, r⟩ := x; ⟨o, e o q, r⟩
theorem SIt.obj {b : Bool} {h : Heap} {i l : Addr} {j : Nat} (x : SIt b h i l j) : ∃ o, h.get? i = some o ∧ ∀ v, o.data ≠ .cell v := by
  cases b <;> exact let ⟨o, q, _, d⟩ := x; ⟨o, q, fun v z => by rw [d] at z; cases z⟩
theorem SIt.lt {b : Bool} {h : Heap} {i l : Addr} {j : Nat} (x : SIt b h i l j) : i < h.objs.size := by
  obtain ⟨o, q, _⟩ := x.obj
  exact Heap.lt_size q
section
variable {prog : Program} {w : World} {A : Around} {E : Value → Shared → Prop} {s : Shared}
theorem SIt.one {b : Bool} {i l : Addr} {j : Nat} {xs : Array Value} {x : Value} {Q : Value → Shared → Prop} (it : SIt b s.heap i l j) (sq : SIs b s.heap l xs) (hx : xs[j]? = some x)
    (h : ∀ g, SIt b g i l (j + 1) → Heap.SameBut i s.heap g → Q x { s with heap := g }) : wpAny (model prog w) A (Builtin.SmallTypes.nextOf (.ref i)) Q E s := by
  cases b with
  | true => exact nextOf_tuple_item it sq hx h
  | false => exact wpAny_nextOf_list_item it sq hx h
theorem SIt.none {b : Bool} {i l : Addr} {j : Nat} {xs : Array Value} {Q : Value → Shared → Prop} (calm : A.handled = .none) (it : SIt b s.heap i l j) (sq : SIs b s.heap l xs) (hx : xs[j]? = .none)
    (h : ∀ g e, Heap.ExtBut i s.heap g → (∃ o, g.get? e = some o ∧ o.cls = .type "StopIteration") → E (.ref e) { s with heap := g }) : wpAny (model prog w) A (Builtin.SmallTypes.nextOf (.ref i)) Q E s := by
  cases b with
  | true => exact nextOf_tuple_end calm it sq hx h
  | false => exact wpAny_nextOf_list_end calm it sq hx h
/-- what stays when a zip is asked for the next pair -/
abbrev Zst (z t i j : Addr) (h g : Heap) : Prop := ∀ c o, c ≠ z → c ≠ t → c ≠ i → c ≠ j → h.get? c = some o → g.get? c = some o
theorem zm_item {b1 b2 : Bool} {z t t' i j l m : Addr} {k n : Nat} {xs ys : Array Value} {x y u v : Value} {Q : Option Value → Shared → Prop} (D : ZipApart z t t' i j l m)
    (hz : IsZip s.heap z t t' .none) (ht : IsPair s.heap t (.ref i) (.ref j)) (ht' : IsPair s.heap t' u v) (hi : SIt b1 s.heap i l k) (hj : SIt b2 s.heap j m n) (hl : SIs b1 s.heap l xs) (hm : SIs b2 s.heap m ys)
    (hx : xs[k]? = some x) (hy : ys[n]? = some y)
    (q : ∀ g, IsZip g z t t' (rawInt s.heap.objs.size) → IsPair g t' x y → SIt b1 g i l (k + 1) → SIt b2 g j m (n + 1) → IsPair g s.heap.objs.size x y → g.objs.size = s.heap.objs.size + 1 → Zst z t' i j s.heap g → Q (some (.ref s.heap.objs.size)) { s with heap := g }) :
    wpAny (model prog w) A (pyNext (.ref z)) Q E s := by
  have ty : s.TypeIs (.ref z) "zip" := ⟨_, hz, rfl⟩
  unfold pyNext
  refine wpAny_bind (wpAny_attempt (wpAny_callSpecial?_slot (name := Str.ofString "__next__") ty PySem.F.slot_zip_next (wpAny_call_entry PySem.F.slot_zip_next ty PySem.F.entry_zip_next ?_ (PySem.F.args_zip_next_1 _))))
  show wpAny _ _ (field (.ref z) 2 >>= _) _ _ _; refine wpAny_bind (wpAny_field hz rfl (x := .bool false) rfl ?_)
  show wpAny _ _ (field (.ref z) 3 >>= _) _ _ _; refine wpAny_bind (wpAny_field hz rfl (x := .ref t) rfl ?_)
  refine wpAny_bind (wpAny_seqItems ht rfl ?_); show wpAny _ _ (Builtin.SmallTypes.ownedTupleIsFree (.ref z) >>= _) _ _ _
  refine wpAny_bind ?_; unfold Builtin.SmallTypes.ownedTupleIsFree
  refine wpAny_bind (wpAny_field hz rfl (x := .none) rfl (wpAny_pure ?_)); simp only [if_true]
  refine wpAny_bind (wpAny_rule ?_); refine wpAny_bind (wpAny_field hz rfl (x := .ref t') rfl ?_)
  refine wpAny_bind (wpAny_setField_rec hz (by simp) fun g1 z1 s1 => ?_)
  have up1 : ∀ c o, c ≠ z → s.heap.get? c = some o → g1.get? c = some o := fun c o n e => s1.extBut _ _ n e
  refine wpAny_bind ?_; simp only [List.zipIdx_cons, List.zipIdx_nil, List.forIn_cons, List.forIn_nil]
  refine wpAny_bind (wpAny_bind (wpAny_onRaise ?_)); show wpAny _ _ (Builtin.SmallTypes.nextOf (.ref i) >>= _) _ _ _
  refine wpAny_bind (SIt.one (s := { s with heap := g1 }) (hi.ext fun o e => up1 _ o D.i1z e) (hl.ext fun o e => up1 _ o D.l1z e) hx fun g2 i2 s2 => wpAny_pure ?_)
  have up2 : ∀ c o, c ≠ z → c ≠ i → s.heap.get? c = some o → g2.get? c = some o := fun c o n n' e => s2.extBut _ _ n' (up1 c o n e)
  have t2 : IsPair g2 t' u v := up2 _ _ D.TOz D.TOi1 ht'
  refine wpAny_bind (wpAny_seqItems t2 rfl ?_); refine wpAny_bind (wpAny_updateSeq_pair t2 fun g3 t3 s3 => ?_)
  replace t3 : IsPair g3 t' x v := t3
  have up3 : ∀ c o, c ≠ z → c ≠ i → c ≠ t' → s.heap.get? c = some o → g3.get? c = some o := fun c o n n' n'' e => s3.extBut _ _ n'' (up2 c o n n' e)
  refine wpAny_bind (wpAny_letGo (wpAny_pure ?_))
  refine wpAny_bind (wpAny_bind (wpAny_onRaise ?_)); show wpAny _ _ (Builtin.SmallTypes.nextOf (.ref j) >>= _) _ _ _
  refine wpAny_bind (SIt.one (s := { s with heap := g3 }) (hj.ext fun o e => up3 _ o D.i2z D.i12.symm D.TOi2.symm e) (hm.ext fun o e => up3 _ o D.l2z D.l2i1 D.l2TO e) hy fun g4 j4 s4 => wpAny_pure ?_)
  have t4 : IsPair g4 t' x v := s4.extBut _ _ D.TOi2 t3
  refine wpAny_bind (wpAny_seqItems t4 rfl ?_); refine wpAny_bind (wpAny_updateSeq_pair t4 fun g5 t5 s5 => ?_)
  replace t5 : IsPair g5 t' x y := t5
  have up5 : Zst z t' i j s.heap g5 := fun c o n1 n2 n3 n4 e => s5.extBut _ _ n2 (s4.extBut _ _ n4 (up3 c o n1 n3 n2 e))
  refine wpAny_bind (wpAny_letGo (wpAny_pure (wpAny_pure ?_)))
  refine wpAny_bind (wpAny_seqItems t5 rfl ?_); refine wpAny_bind (wpAny_newTuple ?_)
  have sz : g5.objs.size = s.heap.objs.size := by rw [s5.1, s4.1, s3.1, s2.1, s1.1]
  have z5 : IsZip g5 z t t' .ellipsis := s5.extBut _ _ D.TOz.symm (s4.extBut _ _ D.i2z.symm (s3.extBut _ _ D.TOz.symm (s2.extBut _ _ D.i1z.symm z1)))
  have i5 : SIt b1 g5 i l (k + 1) := i2.ext fun o e => s5.extBut _ _ D.TOi1.symm (s4.extBut _ _ D.i12 (s3.extBut _ _ D.TOi1.symm e))
  have j5 : SIt b2 g5 j m (n + 1) := j4.ext fun o e => s5.extBut _ _ D.TOi2.symm e
  show wpAny _ _ (Builtin.SmallTypes.ownedTupleHandOut (.ref z) (.ref g5.objs.size) >>= _) _ _ _
  refine wpAny_bind ?_; unfold Builtin.SmallTypes.ownedTupleHandOut
  have z6 : IsZip (g5.push { cls := .type "tuple", data := .seq #[x, y] }) z t t' .ellipsis := Heap.get?_push_of_some _ z5
  have zlt : z < g5.objs.size := Heap.lt_size z5
  refine wpAny_bind (wpAny_setField_rec z6 (by simp) fun g7 z7 s7 => ?_)
  replace z7 : IsZip g7 z t t' (rawInt g5.objs.size) := z7
  refine wpAny_setField_rec z7 (by simp) fun g8 z8 s8 => ?_
  replace z8 : IsZip g8 z t t' (rawInt g5.objs.size) := z8
  have up8 : ∀ c o, c ≠ z → g5.get? c = some o → g8.get? c = some o := fun c o n e => s8.extBut _ _ n (s7.extBut _ _ n (Heap.get?_push_of_some _ e))
  have p8 : IsPair g8 g5.objs.size x y := s8.extBut _ _ (Nat.ne_of_gt zlt) (s7.extBut _ _ (Nat.ne_of_gt zlt) (Heap.get?_push_size _ rfl))
  have l8 : g8.objs.size = g5.objs.size + 1 := by rw [s8.1, s7.1, Heap.size_push]
  refine wpAny_pure ⟨_, rfl, wpAny_pure ?_⟩
  rw [sz] at z8 p8 l8
  show Q (some (.ref g5.objs.size)) _
  rw [sz]
  exact q g8 z8 (up8 _ _ D.TOz t5) (i5.ext fun o e => up8 _ o D.i1z e) (j5.ext fun o e => up8 _ o D.i2z e) p8 l8 fun c o n1 n2 n3 n4 e => up8 c o n1 (up5 c o n1 n2 n3 n4 e)
theorem zm_end {b1 b2 : Bool} {z t t' i j l m : Addr} {k n : Nat} {xs ys : Array Value} {u v : Value} {Q : Option Value → Shared → Prop} (calm : A.handled = none) (D : ZipApart z t t' i j l m)
    (hz : IsZip s.heap z t t' .none) (ht : IsPair s.heap t (.ref i) (.ref j)) (ht' : IsPair s.heap t' u v) (hi : SIt b1 s.heap i l k) (hj : SIt b2 s.heap j m n) (hl : SIs b1 s.heap l xs) (hm : SIs b2 s.heap m ys)
    (no : xs[k]? = none ∨ ys[n]? = none) (q : ∀ g, Zst z t' i j s.heap g → Q none { s with heap := g }) : wpAny (model prog w) A (pyNext (.ref z)) Q E s := by
  have ty : s.TypeIs (.ref z) "zip" := ⟨_, hz, rfl⟩
  have fin : ∀ (g : Heap) (e : Addr), IsZip g z t t' .ellipsis → Zst z t' i j s.heap g → (∃ o, g.get? e = some o ∧ o.cls = .type "StopIteration") → ∀ g', Heap.SameBut z g g' → Zst z t' i j s.heap g' ∧ ∃ o, g'.get? e = some o ∧ o.cls = .type "StopIteration" := fun g e hz' k ⟨o, ho, hc⟩ g' sb => by
    have ne : e ≠ z := fun x => by
      rw [x, hz'] at ho
      rw [← Option.some.inj ho] at hc
      exact absurd (Value.type.inj hc) (by decide)
    exact ⟨fun c o n1 n2 n3 n4 x => sb.extBut _ _ n1 (k c o n1 n2 n3 n4 x), o, sb.extBut _ _ ne ho, hc⟩
  unfold pyNext
  refine wpAny_bind (wpAny_attempt (wpAny_callSpecial?_slot (name := Str.ofString "__next__") ty PySem.F.slot_zip_next (wpAny_call_entry PySem.F.slot_zip_next ty PySem.F.entry_zip_next ?_ (PySem.F.args_zip_next_1 _))))
  have out : ∀ (g : Heap) (e : Addr), Zst z t' i j s.heap g → (∃ o, g.get? e = some o ∧ o.cls = .type "StopIteration") → wpAny (model prog w) A (do if (← isInstance (.ref e) (.type "StopIteration")) then pure none else throw (.ref e)) Q E { s with heap := g } := fun g e k ⟨o, ho, hc⟩ =>
    wpAny_bind (wpAny_isInstance (T := "StopIteration") (b := true) ⟨o, ho, hc⟩ isSubtype_stop (wpAny_pure (q g k)))
  show wpAny _ _ (field (.ref z) 2 >>= _) _ _ _; refine wpAny_bind (wpAny_field hz rfl (x := .bool false) rfl ?_)
  show wpAny _ _ (field (.ref z) 3 >>= _) _ _ _; refine wpAny_bind (wpAny_field hz rfl (x := .ref t) rfl ?_)
  refine wpAny_bind (wpAny_seqItems ht rfl ?_); show wpAny _ _ (Builtin.SmallTypes.ownedTupleIsFree (.ref z) >>= _) _ _ _
  refine wpAny_bind ?_; unfold Builtin.SmallTypes.ownedTupleIsFree
  refine wpAny_bind (wpAny_field hz rfl (x := .none) rfl (wpAny_pure ?_)); simp only [if_true]
  refine wpAny_bind (wpAny_rule ?_); refine wpAny_bind (wpAny_field hz rfl (x := .ref t') rfl ?_)
  refine wpAny_bind (wpAny_setField_rec hz (by simp) fun g1 z1 s1 => ?_)
  have up1 : ∀ c o, c ≠ z → s.heap.get? c = some o → g1.get? c = some o := fun c o n e => s1.extBut _ _ n e
  refine wpAny_bind ?_; simp only [List.zipIdx_cons, List.zipIdx_nil, List.forIn_cons, List.forIn_nil]
  refine wpAny_bind (wpAny_bind (wpAny_onRaise ?_)); show wpAny _ _ (Builtin.SmallTypes.nextOf (.ref i) >>= _) _ _ _
  cases hx : xs[k]? with
  | none =>
    refine wpAny_bind (SIt.none (s := { s with heap := g1 }) calm (hi.ext fun o e => up1 _ o D.i1z e) (hl.ext fun o e => up1 _ o D.l1z e) hx fun g2 e s2 he => ?_)
    have z2 : IsZip g2 z t t' .ellipsis := s2 _ _ D.i1z.symm z1
    refine wpAny_setField_rec z2 (by simp) fun g3 _ s3 => ?_
    obtain ⟨k3, e3⟩ := fin g2 e z2 (fun c o n1 _ n3 _ x => s2 _ _ n3 (up1 c o n1 x)) he g3 s3
    exact out g3 e k3 e3
  | some x =>
    have hy : ys[n]? = none := no.elim (fun h => by rw [hx] at h; cases h) id
    refine wpAny_bind (SIt.one (s := { s with heap := g1 }) (hi.ext fun o e => up1 _ o D.i1z e) (hl.ext fun o e => up1 _ o D.l1z e) hx fun g2 i2 s2 => wpAny_pure ?_)
    have up2 : ∀ c o, c ≠ z → c ≠ i → s.heap.get? c = some o → g2.get? c = some o := fun c o n n' e => s2.extBut _ _ n' (up1 c o n e)
    have t2 : IsPair g2 t' u v := up2 _ _ D.TOz D.TOi1 ht'
    refine wpAny_bind (wpAny_seqItems t2 rfl ?_); refine wpAny_bind (wpAny_updateSeq_pair t2 fun g3 t3 s3 => ?_)
    have up3 : ∀ c o, c ≠ z → c ≠ i → c ≠ t' → s.heap.get? c = some o → g3.get? c = some o := fun c o n n' n'' e => s3.extBut _ _ n'' (up2 c o n n' e)
    have z3 : IsZip g3 z t t' .ellipsis := s3.extBut _ _ D.TOz.symm (s2.extBut _ _ D.i1z.symm z1)
    refine wpAny_bind (wpAny_letGo (wpAny_pure ?_))
    refine wpAny_bind (wpAny_bind (wpAny_onRaise ?_)); show wpAny _ _ (Builtin.SmallTypes.nextOf (.ref j) >>= _) _ _ _
    refine wpAny_bind (SIt.none (s := { s with heap := g3 }) calm (hj.ext fun o e => up3 _ o D.i2z D.i12.symm D.TOi2.symm e) (hm.ext fun o e => up3 _ o D.l2z D.l2i1 D.l2TO e) hy fun g4 e s4 he => ?_)
    have z4 : IsZip g4 z t t' .ellipsis := s4 _ _ D.i2z.symm z3
    refine wpAny_setField_rec z4 (by simp) fun g5 _ s5 => ?_
    obtain ⟨k5, e5⟩ := fin g4 e z4 (fun c o n1 n2 n3 n4 x => s4 _ _ n4 (up3 c o n1 n3 n2 x)) he g5 s5
    exact out g5 e k5 e5
end
end My
namespace My
open PySem PySem.Spec PyProof.Rows L2 RZ
/-! zip(a, b) made, and walked -/
abbrev itO (b : Bool) (l : Addr) : Obj := { cls := .type (if b then "tuple_iterator" else "list_iterator"), data := .fields #[.ref l, .int 0 0] }
theorem SIt.new {b : Bool} {h : Heap} {i l : Addr} (e : h.get? i = some (itO b l)) : SIt b h i l 0 := by
  cases b <;> exact ⟨_, e, rfl, rfl⟩
theorem SIs.push {b : Bool} {h : Heap} {l : Addr} {xs : Array Value} (x : SIs b h l xs) (o : Obj) : SIs b (h.push o) l xs := x.ext fun _ e => Heap.get?_push_of_some _ e
theorem SIs.iter {b : Bool} {prog : Program} {w : World} {A : Around} {E : Value → Shared → Prop} {s : Shared} {l : Addr} {xs : Array Value} {Q : Value → Shared → Prop} (x : SIs b s.heap l xs)
    (q : Q (.ref s.heap.objs.size) { s with heap := s.heap.push (itO b l) }) : wpAny (model prog w) A (pyIter (.ref l)) Q E s := by
  cases b with
  | true => exact wpAny_pyIter_tuple x q
  | false => exact wpAny_pyIter_list x q
abbrev zm1 (b : Bool) (h : Heap) (l : Addr) : Heap := h.push (itO b l)
abbrev zm2 (b c : Bool) (h : Heap) (l m : Addr) : Heap := (zm1 b h l).push (itO c m)
abbrev zm3 (b c : Bool) (h : Heap) (l m : Addr) : Heap := (zm2 b c h l m).push { cls := .type "tuple", data := .seq #[.ref h.objs.size, .ref (zm1 b h l).objs.size] }
abbrev zm4 (b c : Bool) (h : Heap) (l m : Addr) : Heap := (zm3 b c h l m).push { cls := .type "tuple", data := .seq #[.none, .none] }
abbrev zm5 (b c : Bool) (h : Heap) (l m : Addr) : Heap := (zm4 b c h l m).push { cls := .type "zip", data := .fields #[.none, .bool false, .bool false, .ref (zm2 b c h l m).objs.size, .ref (zm3 b c h l m).objs.size] }
theorem zm_new (b c : Bool) (l m : Addr) (xs ys : Array Value) :
    Meets (Builtin.«zip.__new__» ⟨[.type "zip", .ref l, .ref m], []⟩) (fun _ R s => SIs b s.heap l xs ∧ SIs c s.heap m ys ∧ R (.ok (.ret (.ref (zm4 b c s.heap l m).objs.size))) { s with heap := zm5 b c s.heap l m }) :=
  .of_wp fun prog w A R s h => by
    obtain ⟨hp, g, d, tk, os⟩ := s
    obtain ⟨hl, hm, h⟩ := h
    have sub := sub_zip
    have L1 : SIs b (Shared.heap ⟨hp, g, d, tk, os⟩) l xs := hl
    have L2 : SIs c (Shared.heap ⟨hp.push (itO b l), g, d, tk, os⟩) m ys := hm.push _
    wp_walk using SIs.iter L1, SIs.iter L2
    exact ⟨_, rfl, h⟩
section
variable {prog : Program} {w : World} {A : Around} {E : Value → Shared → Prop} {s : Shared}
theorem zm_call {b c : Bool} {l m : Addr} {xs ys : Array Value} {Q : Value → Shared → Prop} (hl : SIs b s.heap l xs) (hm : SIs c s.heap m ys)
    (q : ∀ g, IsZip g (s.heap.objs.size + 4) (s.heap.objs.size + 2) (s.heap.objs.size + 3) .none → IsPair g (s.heap.objs.size + 2) (.ref s.heap.objs.size) (.ref (s.heap.objs.size + 1)) → IsPair g (s.heap.objs.size + 3) .none .none →
      SIt b g s.heap.objs.size l 0 → SIt c g (s.heap.objs.size + 1) m 0 → (∀ a o, s.heap.get? a = some o → g.get? a = some o) → Q (.ref (s.heap.objs.size + 4)) { s with heap := g }) :
    wpAny (model prog w) A (call (.type "zip") [.ref l, .ref m]) Q E s := by
  refine callType_new PySem.F.called_zip (by decide) (PySem.F.typeCall_zip_2 _ _) (PySem.F.newCall_zip_2 _ _) (fun o => PySem.F.args_object_init_3 o _ _) PySem.F.entry_zip_new (zm_new b c l m xs ys) ⟨hl, hm, ?_⟩
  have n1 : (zm1 b s.heap l).objs.size = s.heap.objs.size + 1 := Heap.size_push ..
  have n2 : (zm2 b c s.heap l m).objs.size = s.heap.objs.size + 2 := by rw [Heap.size_push, n1]
  have n3 : (zm3 b c s.heap l m).objs.size = s.heap.objs.size + 3 := by rw [Heap.size_push, n2]
  have n4 : (zm4 b c s.heap l m).objs.size = s.heap.objs.size + 4 := by rw [Heap.size_push, n3]
  have up : ∀ {h : Heap} {a : Addr} {o o' : Obj}, h.get? a = some o → (h.push o').get? a = some o := fun e => Heap.get?_push_of_some _ e
  have e1 : (zm5 b c s.heap l m).get? s.heap.objs.size = some (itO b l) := up (up (up (up (Heap.get?_push_size _ (by cases b <;> rfl)))))
  have e2 : (zm5 b c s.heap l m).get? (zm1 b s.heap l).objs.size = some (itO c m) := up (up (up (Heap.get?_push_size _ (by cases c <;> rfl))))
  have e3 : (zm5 b c s.heap l m).get? (zm2 b c s.heap l m).objs.size = some _ := up (up (Heap.get?_push_size _ rfl))
  have e4 : (zm5 b c s.heap l m).get? (zm3 b c s.heap l m).objs.size = some _ := up (Heap.get?_push_size _ rfl)
  have e5 : (zm5 b c s.heap l m).get? (zm4 b c s.heap l m).objs.size = some _ := Heap.get?_push_size _ rfl
  show _ ∧ _
  rw [n1] at e2 e3
  rw [n2] at e3
  rw [n3] at e4
  rw [n2, n3, n4] at e5
  rw [n4]
  exact ⟨⟨_, e5, rfl⟩, q _ e5 e3 e4 (.new e1) (.new e2) fun a o e => up (up (up (up (up e))))⟩
end
/-- a list or a tuple, by the bit -/
def SqB (b : Bool) (K : PySem.W.Frag) (H : Hp) (a : Addr) (xs : List V) : Prop := if b then SqT K H a xs else SqL K H a xs
theorem SqB.same {b : Bool} {K : PySem.W.Frag} {H H' : Hp} {a : Addr} {xs : List V} (s : Same H H') (h : SqB b K H a xs) : SqB b K H' a xs := by
  cases b with
  | true => exact Same.tup s h
  | false => exact s.seq h
theorem SqB.get {X : Cx} {pins : List (Addr × Obj)} {σ : L2.St} {H : Hp} {s : Shared} {b : Bool} {a : Addr} {xs : List V} (I : Inv X pins σ H s) (h : SqB b X.K H a xs) : ∃ its, Vals xs its ∧ SIs b s.heap a its.toArray := by
  cases b with
  | true =>
    obtain ⟨its, rv, p, _⟩ := I.tuple h
    exact ⟨its, rv, p⟩
  | false =>
    obtain ⟨its, rv, p, _⟩ := I.list h
    exact ⟨its, rv, p.isList⟩
theorem SqB.inj {X : Cx} {pins : List (Addr × Obj)} {σ : L2.St} {H : Hp} {s : Shared} {b : Bool} {a : Addr} {xs ys : List V} (I : Inv X pins σ H s) (h : SqB b X.K H a xs) (h' : SqB b X.K H a ys) : xs = ys := by
  cases b with
  | true => exact I.tuple_inj h h'
  | false => exact I.list_inj h h'
theorem SIs.lt {b : Bool} {h : Heap} {l : Addr} {xs : Array Value} (x : SIs b h l xs) : l < h.objs.size := by
  cases b <;> exact let ⟨o, q, _⟩ := x; Heap.lt_size q
/-- the sequences at a and b as they stand at each turn, the items in new pairs -/
def ItM (p q : Bool) (K : PySem.W.Frag) (a b : Addr) : It :=
  ⟨fun i H => ∃ (xs ys : List V) (x y : V), SqB p K H a xs ∧ SqB q K H b ys ∧ xs[i]? = some x ∧ ys[i]? = some y,
    fun i H v H' => ∃ T x y, v = .ref T ∧ H T = none ∧ H' = upd H T (.tup [x, y]) ∧ (∀ xs, SqB p K H a xs → xs[i]? = some x) ∧ ∀ ys, SqB q K H b ys → ys[i]? = some y,
    fun i H => ∃ xs ys : List V, SqB p K H a xs ∧ SqB q K H b ys ∧ (xs.length ≤ i ∨ ys.length ≤ i)⟩
theorem five {α : Type} {a b c d e x : α} (h : x ∈ [a, b, c, d, e]) {C : α → Prop} (ha : C a) (hb : C b) (hc : C c) (hd : C d) (he : C e) : C x := by
  simp only [List.mem_cons, List.not_mem_nil, or_false] at h
  rcases h with h | h | h | h | h <;> rw [h] <;> assumption
theorem turnM {P : Program} {w : World} {K : PySem.W.Frag} {elts : List Expr} {kk : Nat} {tpos : Pos} {p q : Bool} {a b z t t' i j : Addr} (D : ZipApart z t t' i j a b) :
    Turn P w K (.Tuple elts kk tpos) (ItM p q K a b) [z, t, t', i, j] z (fun n h => IsZip h z t t' .none ∧ IsPair h t (.ref i) (.ref j) ∧ (∃ x y, IsPair h t' x y) ∧ SIt p h i a n ∧ SIt q h j b n) where
  mem := List.mem_cons_self
  obj := fun n h st c hc => by
    obtain ⟨hz, ht, ⟨x, y, ht'⟩, hi, hj⟩ := st
    exact five (C := fun c => ∃ o, h.get? c = some o ∧ ∀ v, o.data ≠ .cell v) hc ⟨_, hz, fun v e => nomatch e⟩ ⟨_, ht, fun v e => nomatch e⟩ ⟨_, ht', fun v e => nomatch e⟩ hi.obj hj.obj
  keep := fun n h h' st k => by
    obtain ⟨hz, ht, ⟨x, y, ht'⟩, hi, hj⟩ := st
    exact ⟨k z (by simp) _ hz, k t (by simp) _ ht, ⟨x, y, k t' (by simp) _ ht'⟩, hi.ext fun o e => k i (by simp) o e, hj.ext fun o e => k j (by simp) o e⟩
  item := by
    intro X hP hw hK hc n pins s σ H E I hf st hg
    subst hP hw hK
    obtain ⟨hz, ht, ⟨x0, y0, ht'⟩, hi, hj⟩ := st
    obtain ⟨xs, ys, x, y, qx, qy, hx, hy⟩ := hg
    obtain ⟨us, rv, p1⟩ := qx.get I
    obtain ⟨ws, rw2, p2⟩ := qy.get I
    obtain ⟨u, hu, ru⟩ := rv.get hx
    obtain ⟨v, hv, rv2⟩ := rw2.get hy
    have zl : z < s.heap.objs.size := Heap.lt_size hz
    refine zm_item D hz ht ht' hi hj p1 p2 (x := u) (y := v) (by simpa using hu) (by simpa using hv) fun g z1 t1 i1 j1 T1 l1 k1 => ⟨_, rfl, wpAny_letOwnedTupleGo_zip (s := { s with heap := g }) z1 fun g2 z2 sb => ?_⟩
    have T2 : g2.get? s.heap.objs.size = some { cls := .type "tuple", data := .seq #[u, v] } := (sb.2 _ (Nat.ne_of_gt zl)).trans T1
    have ok : ObjOk X.prog X.w (upd H s.heap.objs.size (.tup [x, y])) g2 s.heap.objs.size (.tup [x, y]) := ⟨by show 2 ≤ sizeLine; decide, [u, v], .cons ru (.cons rv2 .nil), ⟨_, T2, rfl, _, rfl⟩⟩
    have J : Inv X pins σ (upd H s.heap.objs.size (.tup [x, y])) { s with heap := g2 } := I.turnedNew (t' := s.toks) (ch := [z, t, t', i, j]) (fun c o n e => by
      simp only [List.mem_cons, List.not_mem_nil, or_false, not_or] at n
      exact (sb.2 c n.1).trans (k1 c o n.1 n.2.2.1 n.2.2.2.1 n.2.2.2.2 e)) hf (Nat.le_refl _) ok
    refine ⟨.ref s.heap.objs.size, _, J, rfl, ⟨_, x, y, rfl, I.hok.fresh (Nat.le_refl _), rfl, fun l hl => by rw [hl.inj I qx]; exact hx, fun l hl => by rw [hl.inj I qy]; exact hy⟩, ⟨z2, ?_, ⟨u, v, ?_⟩, ?_, ?_⟩, fun c hcm => ?_⟩
    · exact (sb.2 _ D.TIz).trans (k1 _ _ D.TIz D.TITO D.TIi1 D.TIi2 ht)
    · exact (sb.2 _ D.TOz).trans t1
    · exact i1.ext fun o e => (sb.2 _ D.i1z).trans e
    · exact j1.ext fun o e => (sb.2 _ D.i2z).trans e
    · have lt : c < s.heap.objs.size := five (C := fun c => c < s.heap.objs.size) hcm zl (Heap.lt_size ht) (Heap.lt_size ht') hi.lt hj.lt
      rw [upd_ne (Nat.ne_of_lt lt)]
      exact (hf c hcm).1
  done := by
    intro X hP hw hK hc n pins s σ H E I hf st hg
    subst hP hw hK
    obtain ⟨hz, ht, ⟨x0, y0, ht'⟩, hi, hj⟩ := st
    obtain ⟨xs, ys, qx, qy, no⟩ := hg
    obtain ⟨us, rv, p1⟩ := qx.get I
    obtain ⟨ws, rw2, p2⟩ := qy.get I
    have l1 := rv.length
    have l2 := rw2.length
    refine zm_end (I.ok.hd hc) D hz ht ht' hi hj p1 p2 (no.elim (fun e => .inl (by simp; omega)) fun e => .inr (by simp; omega)) fun g k => ⟨rfl, I.turnedL (t' := s.toks) (ch := [z, t, t', i, j]) (fun c o n e => ?_) hf⟩
    simp only [List.mem_cons, List.not_mem_nil, or_false, not_or] at n
    exact k c o n.1 n.2.2.1 n.2.2.2.1 n.2.2.2.2 e
  self := fun A n s Q E st h => wpAny_pyIter_zip st.1 h
def iZipM (p q : Bool) (K : PySem.W.Frag) (ta : TA) : TI := fun σ H R => ta σ H fun vs H1 => ∃ a b xs ys, vs = [.ref a, .ref b] ∧ SqB p K H1 a xs ∧ SqB q K H1 b ys ∧ R (ItM p q K a b) H1
theorem pi_zipM {X : Cx} (p q : Bool) {e e2 : Expr} {ta : TA} {np pos tpos : Pos} {elts : List Expr} {kk : Nat} (hg : Gl X "zip") (hm : X.mg "zip" = none) (ha : PA X [e, e2] ta)
    (hs : starEach [e, e2] X.env = (false, eval e X.env) :: starEach [e2] X.env := by rfl) (hpl : (backTo pos (starEach [e2] X.env)).any (·.1) = false := by rfl) :
    PI X (.Tuple elts kk tpos) (.Call (.Name "zip" np) [e, e2] [] pos) (iZipM p q X.K ta) := by
  refine ⟨fun pins s σ H R I h => Call_ (ld_blt I hg hm PyProof.Rows.boot_zip (PyProof.Rows.callWith_type1 (thn (ha.run pos pins s σ H _ I h) fun us s1 ⟨vs, H1, J, r, k⟩ => ?_) hs hpl))⟩
  obtain ⟨a, b, xs, ys, rfl, qx, qy, k⟩ := k
  obtain ⟨us, rv, p1⟩ := qx.get J
  obtain ⟨ws, rw2, p2⟩ := qy.get J
  cases r with
  | cons r rr =>
    cases rr with
    | cons r' rr =>
      cases rr
      cases r
      cases r'
      refine zm_call p1 p2 fun g z1 t1 t2 i1 j1 kp => wpAny_pyIter_zip z1 ?_
      have nw : ∀ c, s1.heap.objs.size ≤ c → FpOk X pins H1 c := fun c le => J.fpOk le (J.hok.fresh le)
      exact ⟨s1.heap.objs.size + 4, [s1.heap.objs.size + 4, s1.heap.objs.size + 2, s1.heap.objs.size + 3, s1.heap.objs.size, s1.heap.objs.size + 1], _, _, H1, rfl, J.kept (t' := s1.toks) kp, turnM (PySem.W.ktu_apart s1.heap.objs.size a b p1.lt p2.lt), ⟨z1, t1, ⟨_, _, t2⟩, i1, j1⟩,
        fun c hc => five hc (nw _ (Nat.le_add_right _ _)) (nw _ (Nat.le_add_right _ _)) (nw _ (Nat.le_add_right _ _)) (nw _ (Nat.le_refl _)) (nw _ (Nat.le_add_right _ _)), k⟩
theorem zipM {X : Cx} (p q : Bool) (K : PySem.W.Frag) (h : X.K = K) {e e2 : Expr} {ta : TA} {np pos tpos : Pos} {elts : List Expr} {kk : Nat} (hg : Gl X "zip") (hm : X.mg "zip" = none) (ha : PA X [e, e2] ta)
    (hs : starEach [e, e2] X.env = (false, eval e X.env) :: starEach [e2] X.env := by rfl) (hpl : (backTo pos (starEach [e2] X.env)).any (·.1) = false := by rfl) :
    PI X (.Tuple elts kk tpos) (.Call (.Name "zip" np) [e, e2] [] pos) (iZipM p q K ta) := by
  subst h
  exact pi_zipM p q hg hm ha hs hpl
theorem walk_zipM {p q : Bool} {K : PySem.W.Frag} {a b : Addr} {xs ys : List V} {n : Nat} (hn : n = min xs.length ys.length) : Walk (ItM p q K a b) n (fun H => SqB p K H a xs ∧ SqB q K H b ys) (YPair (fun i => xs[i]?) (fun i => ys[i]?)) := by
  subst hn
  refine ⟨fun i _ hi h => ?_, fun _ h => ⟨xs, ys, h.1, h.2, by omega⟩, fun i H v H' _ h ⟨T, x, y, e1, e2, e3, e4, e5⟩ => ⟨T, x, y, e1, e2, e3, e4 xs h.1, e5 ys h.2⟩⟩
  have h1 : i < xs.length := by omega
  have h2 : i < ys.length := by omega
  exact ⟨xs, ys, xs[i], ys[i], h.1, h.2, by simp [h1], by simp [h2]⟩
end My
namespace My
open PySem L2 NdefX LamX
theorem cut_init {L : List V} {v : V} (h : L ≠ []) : ¬ (HT.sIx (L ++ [v]).length 0 none = 0 ∧ HT.sIx (L ++ [v]).length (L ++ [v]).length (some (-1)) = (L ++ [v]).length) ∧ cutV (L ++ [v]) none (some (-1)) = L := by
  have e : HT.sIx (L ++ [v]).length (L ++ [v]).length (some (-1)) = L.length := by
    show (if (-1 : Int) < 0 then ((-1 : Int) + ((L ++ [v]).length : Int)).toNat else min (-1 : Int).toNat (L ++ [v]).length) = L.length
    rw [if_pos (by decide), List.length_append, List.length_singleton]
    omega
  have e2 : HT.sIx (L ++ [v]).length 0 none = 0 := rfl
  refine ⟨?_, ?_⟩
  · rw [e, List.length_append, List.length_singleton]
    omega
  · unfold cutV
    rw [e, e2]
    simp
inductive Wr3 (H : Hp) (h : Hd) : List V → List V → Prop
  | args (w : Str) (L : List V) (g : Addr) (qs ps : List V) (ns : List Str) (lL : L.length ≤ 3) (h2 : inV (.str w) [.str "call", .str "make", .str "handed"] = true) (hg : FzT H g qs) (ha : ArgsAt H qs ns ps)
      (mk : ∀ H' a g' qs' ps', Tups H H' → H' a = some (.tup ((.str w :: L) ++ [.ref g'])) → FzT H' g' qs' → ArgsAt H' qs' ns ps' → NdAt H' (.ref a) h ps') : Wr3 H h ((.str w :: L) ++ [.ref g]) ps
  | ask (v : V) (g : Addr) (vs : List V) (e : h = .ask) (hg : H g = some (.tup vs)) : Wr3 H h [.str "ask", v, .ref g] (v :: vs)
  | last (w : Str) (L : List V) (b : Addr) (lL : L.length ≤ 3) (h2 : inV (.str w) [.str "call", .str "make", .str "handed"] = false) (h3 : decide (V.str w = .str "ask") = false)
      (mk : ∀ H' a b', Tups H H' → H' a = some (.tup ((.str w :: L) ++ [.ref b'])) → NdAt H' (.ref a) h [.ref b']) : Wr3 H h ((.str w :: L) ++ [.ref b]) [.ref b]
theorem NdAt.wr3 {H : Hp} {v : V} {h : Hd} {ps : List V} (n : NdAt H v h ps) (ne : ps ≠ []) : ∃ a xs, v = .ref a ∧ H a = some (.tup xs) ∧ Wr3 H h xs ps := by
  cases n with
  | num h => exact absurd rfl ne
  | text h => exact absurd rfl ne
  | hole h => exact absurd rfl ne
  | bare h => exact absurd rfl ne
  | call h hg hq => exact ⟨_, _, rfl, h, .args "call" [_] _ _ _ _ (by simp) rfl hg hq fun H' a g' qs' ps' t h1 h2 h3 => .call h1 h2 h3⟩
  | make h hg hq => exact ⟨_, _, rfl, h, .args "make" [_] _ _ _ _ (by simp) rfl hg hq fun H' a g' qs' ps' t h1 h2 h3 => .make h1 h2 h3⟩
  | handed h hg hq => exact ⟨_, _, rfl, h, .args "handed" [_, _, _] _ _ _ _ (by simp) rfl hg hq fun H' a g' qs' ps' t h1 h2 h3 => .handed h1 h2 h3⟩
  | get h => exact ⟨_, _, rfl, h, .last "get" [_] _ (by simp) rfl (by decide) fun H' a b' t h1 => .get h1⟩
  | case h => exact ⟨_, _, rfl, h, .last "case" [_, _] _ (by simp) rfl (by decide) fun H' a b' t h1 => .case h1⟩
  | as_ h => exact ⟨_, _, rfl, h, .last "as" [_] _ (by simp) rfl (by decide) fun H' a b' t h1 => .as_ h1⟩
  | look h hg => exact ⟨_, _, rfl, h, .last "look" [_] _ (by simp) rfl (by decide) fun H' a b' t h1 => .look h1 (t _ _ hg)⟩
  | one h => exact ⟨_, _, rfl, h, .last "one" [] _ (by simp) rfl (by decide) fun H' a b' t h1 => .one h1⟩
  | answer h => exact ⟨_, _, rfl, h, .last "answer" [_] _ (by simp) rfl (by decide) fun H' a b' t h1 => .answer h1⟩
  | ask h hg => exact ⟨_, _, rfl, h, .ask _ _ _ rfl hg⟩
theorem cut_lo3 {x : V} {r : List V} : cutV (x :: r) (some 1) none = r := by
  unfold cutV HT.sIx
  simp
def Pxc (H0 : Hp) (D : Addr) (ns : List Str) (ps : List V) (i : Nat) (H : Hp) : Prop := Same H0 H ∧ ∃ qs, H D = some (.lst qs) ∧ ArgsAt H qs (ns.take i) (ps.take i)
/-! with_parts: a term with other parts, as many -/
def spWp : Sp := fun vs H Q _ => ∃ (v : V) (l : Addr) (h : Hd) (ps us : List V), vs = [v, .ref l] ∧ NdAt H v h ps ∧ H l = some (.lst us) ∧ us.length = ps.length ∧ ps.length ≤ 1000 ∧ (∀ u ∈ us, ∃ b, u = V.ref b) ∧
  ∀ (r : V) (H' : Hp), NdAt H' r h us → Same H H' → Q r H'
section
variable {P : Program} {w : World} {K : PySem.W.Frag} {mg : Str → Option Value} {base : Heap} {f : Addr} {fd : FuncData}
theorem ok_wp (B : Bn mg) (F : Fun K "with_parts" "with_parts" s_with_parts f fd) : FnOk P w K mg base CX0 1 f fd ["term", "parts"] spWp := by
  refine F.ok sc_with_parts (fun vs H Q E h => ?_) (fun cdv A outer s H vs Q E hr h => ?_)
  · obtain ⟨v, l, h, ps, us, rfl, _⟩ := h
    rfl
  obtain ⟨v, l, h, ps, us, rfl, nd, hl, lset, l1000, rfs, q⟩ := h
  refine ⟨_, (pss_cons (ps_if (pt_not (truth K rfl (pv 1))) (pss_one (ps_ret (pv 0))) pss_nil)
    (pss_cons (ps_if (pt_cmpR (inSeq K rfl) (pe_ix (ixT K rfl) (pv 0) pe_int (fun _ _ => rfl)) (pe_tup (pa_cons pe_str (pa_cons pe_str (pa_cons pe_str pa_nil)))) (by rfl)) (pss_one (ps_ret (pe_tup (star K rfl (pe_slice (slT K rfl) (pv 0) po_none (po_some (pe_un un_neg pe_int))) (pa_cons (pe_callTy (tupleOfF K rfl) (by rfl) B.b_tuple (by decide +kernel) (pa_cons (pe_lc (own := [("row", 2), ("part", 3)]) (g := (gTup K 2 (gCons (gName 2) (gCons (gName 3) gNil)))) rfl sc_with_parts.nd (zipM true false K rfl (by rfl) B.b_zip (pa_cons (pe_ix (ixT K rfl) (pv 0) (pe_un un_neg pe_int) (fun _ _ => rfl)) (pa_cons (pv 1) pa_nil))) (blkOk_by (N := ["term", "parts", "row", "part"]) (sc := defScope s_with_parts) (by decide +kernel)) (fun _ _ _ _ _ => (pg_tup rfl (pgs_cons (pg_name (i := 2) sc_with_parts.nd rfl (Or.inl rfl) (hf := Or.inr rfl)) (pgs_cons (pg_name (i := 3) sc_with_parts.nd rfl (Or.inl rfl) (hf := Or.inr rfl)) pgs_nil)))) (fun _ _ _ _ _ => pts_nil) (fun _ _ _ _ _ => (pe_tup (pa_cons (pe_ix (ixT K rfl) (pv 2) pe_int (fun _ _ => rfl)) (pa_cons (pv 3) pa_nil))))) pa_nil)) pa_nil))))) pss_nil)
    (pss_cons (ps_if (pt_cmpR op_eq (pe_ix (ixT K rfl) (pv 0) pe_int (fun _ _ => rfl)) pe_str (nomark _)) (pss_one (ps_ret (pe_tup (pa_cons pe_str (pa_cons (pe_ix (ixL K rfl) (pv 1) pe_int (fun _ _ => rfl)) (pa_cons (pe_callTy (tupleOf K rfl) (by rfl) B.b_tuple (by decide +kernel) (pa_cons (pe_slice (slL K rfl) (pv 1) (po_some pe_int) po_none) pa_nil)) pa_nil)))))) pss_nil)
    (pss_one (ps_ret (pe_tup (star K rfl (pe_slice (slT K rfl) (pv 0) po_none (po_some (pe_un un_neg pe_int))) (pa_cons (pe_ix (ixL K rfl) (pv 1) pe_int (fun _ _ => rfl)) pa_nil)))))))), ?_⟩
  refine ⟨_, rfl, _, .inl ⟨_, SqL.of hl, rfl⟩, ?_⟩
  by_cases nps : ps = []
  · subst nps
    obtain rfl : us = [] := List.length_eq_zero_iff.mp lset
    exact ifT rfl ⟨_, rfl, q v H nd (Same.refl _)⟩
  refine ifF (by cases us with | nil => exact absurd (List.length_eq_zero_iff.mp lset.symm) nps | cons a b => rfl) ?_
  obtain ⟨a, xs, rfl, ha, wr⟩ := nd.wr3 nps
  have at_head : ∀ {w : Str} {L : List V} {v : V}, atI ((V.str w :: L) ++ [v]) 0 = some (.str w) := at_of rfl rfl
  cases wr with
  | args w L g qs _ ns lL h2 hg hq mk =>
    refine ⟨_, rfl, _, _, _, _, rfl, rfl, SqX ha, at_head, (by show 3 ≤ sizeLine; decide), fun t2 n2 => ⟨t2, _, rfl, .inr (SqT.of upd_same), rfl, rfl, _, rfl, ifT h2 ?_⟩⟩
    have s7 := same_new n2 (.tup [V.str "call", V.str "make", V.str "handed"])
    generalize upd H t2 (.tup [V.str "call", V.str "make", V.str "handed"]) = H7 at s7 ⊢
    have hg7 := hg.mono (Tups.of_same s7)
    have hl7 := s7 _ _ hl
    have ha7 := s7 _ _ ha
    have lq := hq.len
    obtain ⟨c1, c2⟩ := cut_init (L := V.str w :: L) (v := V.ref g) (by simp)
    refine ⟨_, rfl, _, rfl, _, rfl, _, _, rfl, SqT.of ha7, fun z => absurd z c1, fun _ p9 np9 => ?_⟩
    rw [c2]
    have s9 := same_new np9 (.tup (V.str w :: L))
    have hp9 : (upd H7 p9 (.tup (V.str w :: L))) p9 = some (.tup (V.str w :: L)) := upd_same
    generalize upd H7 p9 (.tup (V.str w :: L)) = H9 at s9 hp9 ⊢
    have hl9 := s9 _ _ hl7
    have ha9 := s9 _ _ ha7
    have hg9 := hg7.mono (Tups.of_same s9)
    refine ⟨p9, _, rfl, .inl (SqT.of hp9), ?_⟩
    refine ⟨_, rfl, _, rfl, _, _, _, _, rfl, rfl, SqT.of ha9, atI_last _ _, _, rfl, g, l, qs, us, rfl, FzT.sq hg9, SqL.of hl9, fun D nD => ?_⟩
    have wz : Walk (ItM true false K g l) (min qs.length us.length) (fun H => SqB true K H g qs ∧ SqB false K H l us) _ := walk_zipM rfl
    refine lc_it wz (Pxc H9 D ns us) ?_ ?_ ?_ ?_
    · exact ⟨same_new nD _, [], upd_same, .nil⟩
    · exact fun i H8 _ p => ⟨FzT.sq (hg9.mono (Tups.of_same p.1)), SqL.of (p.1 _ _ hl9)⟩
    · rintro j x H8 H10 hj ⟨s8, rs, hD8, ars⟩ ⟨T, y, z, rfl, nT, rfl, hy, hz'⟩
      have hy : qs[j]? = some y := hy
      have hz' : us[j]? = some z := hz'
      obtain ⟨b, nm, y0, rfl, hnm, _, hb⟩ := hq.get j y hy
      have s10 := same_new nT (.tup [.ref b, z])
      have hT10 : (upd H8 T (.tup [.ref b, z])) T = some (.tup [.ref b, z]) := upd_same
      generalize upd H8 T (.tup [.ref b, z]) = H10 at s10 hT10 ⊢
      have s910 := s8.trans s10
      refine ⟨T, _, rfl, SqT.of hT10, rfl, _, _, rfl, _, _, rfl, rfl, rfl, ?_⟩
      refine ⟨_, rfl, _, _, _, _, rfl, rfl, SqT.of (s910 _ _ (s9 _ _ (s7 _ _ hb))), at_of (j := 0) rfl rfl, _, rfl, (by show 2 ≤ sizeLine; decide), fun c nc => ?_⟩
      have s11 := same_new nc (.tup [V.str nm, z])
      have hc11 : (upd H10 c (.tup [V.str nm, z])) c = some (.tup [V.str nm, z]) := upd_same
      have hD11 := s11 _ _ (s10 _ _ hD8)
      have ars11 := ars.mono ((Tups.of_same s10).trans (Tups.of_same s11))
      generalize upd H10 c (.tup [V.str nm, z]) = H11 at s11 hc11 hD11 ars11 ⊢
      have T12 : Tups H11 (upd H11 D (.lst (rs ++ [.ref c]))) := Tups.upd hD11
      have la := ars.len
      have lj : j < us.length := (List.getElem?_eq_some_iff.mp hz').1
      refine ⟨_, hD11, line5 (by rw [la.1, List.length_take]; omega), Same.atNew (s910.trans s11) nD, _, upd_same, ?_⟩
      rw [← take_next hnm, ← take_next hz']
      exact (ars11.mono T12).app (T12 _ _ hc11)
    rintro H8 ⟨s8, rs, hD8, ars⟩
    have lmin : min qs.length us.length = us.length := by omega
    rw [lmin, List.take_length, List.take_of_length_le (by omega)] at ars
    refine ⟨D, _, rfl, SqL.of hD8, fun g2 ou ng2 eu => ⟨Nat.le_of_lt (line5 (by rw [List.length_append, List.length_cons, List.length_singleton]; omega)), fun c nc => ?_⟩⟩
    have s10 := same_new ng2 (.frz ou (.tup rs))
    have hg10 : FzT (upd H8 g2 (.frz ou (.tup rs))) g2 rs := ⟨ou, upd_same, eu⟩
    generalize upd H8 g2 (.frz ou (.tup rs)) = H10 at s10 hg10 nc ⊢
    have s11 := same_new nc (.tup ((V.str w :: L) ++ [V.ref g2]))
    have sAll := ((s7.trans s9).trans s8).trans (s10.trans s11)
    exact q (.ref c) _ (mk _ c g2 rs us (Tups.of_same sAll) upd_same (hg10.mono (Tups.of_same s11)) (ars.mono (Tups.of_same (s10.trans s11)))) sAll
  | ask v0 g vs e hg =>
    subst e
    refine ⟨_, rfl, _, _, _, _, rfl, rfl, SqX ha, at_of rfl rfl, (by show 3 ≤ sizeLine; decide), fun t2 n2 => ⟨t2, _, rfl, .inr (SqT.of upd_same), rfl, rfl, _, rfl, ifF rfl ?_⟩⟩
    have s7 := same_new n2 (.tup [V.str "call", V.str "make", V.str "handed"])
    generalize upd H t2 (.tup [V.str "call", V.str "make", V.str "handed"]) = H7 at s7 ⊢
    have hl7 := s7 _ _ hl
    refine ⟨_, rfl, _, _, _, _, rfl, rfl, SqX (mvS s7 ha), at_of rfl rfl, rfl, _, rfl, ifT (by decide) ?_⟩
    obtain ⟨u1, ur, rfl⟩ : ∃ u1 ur, us = u1 :: ur := by
      cases us with
      | nil => cases lset
      | cons a b => exact ⟨a, b, rfl⟩
    refine ⟨_, rfl, _, _, _, _, rfl, rfl, SqL.of hl7, at_of (j := 0) rfl rfl, _, rfl, _, rfl, l, _, rfl, SqL.of hl7, fun p8 np8 => ?_⟩
    rw [cut_lo3]
    have s8 := same_new np8 (.lst ur)
    have hp8 : (upd H7 p8 (.lst ur)) p8 = some (.lst ur) := upd_same
    generalize upd H7 p8 (.lst ur) = H8 at s8 hp8 ⊢
    refine ⟨p8, _, rfl, .inl ⟨SqL.of hp8, fun g2 ng2 => ⟨(by show 3 ≤ sizeLine; decide), fun c nc => ?_⟩⟩⟩
    have s9 := same_new ng2 (.tup ur)
    have s10 := same_new nc (.tup [V.str "ask", u1, V.ref g2])
    exact q (.ref c) _ (.ask upd_same (s10 _ _ upd_same)) ((s7.trans s8).trans (s9.trans s10))
  | last w L b lL h2 h3 mk =>
    refine ⟨_, rfl, _, _, _, _, rfl, rfl, SqX ha, at_head, (by show 3 ≤ sizeLine; decide), fun t2 n2 => ⟨t2, _, rfl, .inr (SqT.of upd_same), rfl, rfl, _, rfl, ifF h2 ?_⟩⟩
    have s7 := same_new n2 (.tup [V.str "call", V.str "make", V.str "handed"])
    generalize upd H t2 (.tup [V.str "call", V.str "make", V.str "handed"]) = H7 at s7 ⊢
    have hl7 := s7 _ _ hl
    have ha7 := s7 _ _ ha
    refine ⟨_, rfl, _, _, _, _, rfl, rfl, SqT.of ha7, at_head, rfl, _, rfl, ifF h3 ?_⟩
    obtain ⟨u1, rfl⟩ : ∃ u1, us = [u1] := by
      match us, lset with
      | [x], _ => exact ⟨x, rfl⟩
    obtain ⟨ub, rfl⟩ := rfs u1 (.head _)
    obtain ⟨c1, c2⟩ := cut_init (L := V.str w :: L) (v := V.ref b) (by simp)
    refine ⟨_, rfl, _, rfl, _, rfl, _, _, rfl, SqT.of ha7, fun z => absurd z c1, fun _ p9 np9 => ?_⟩
    rw [c2]
    have s9 := same_new np9 (.tup (V.str w :: L))
    have hp9 : (upd H7 p9 (.tup (V.str w :: L))) p9 = some (.tup (V.str w :: L)) := upd_same
    have hl9 := s9 _ _ hl7
    generalize upd H7 p9 (.tup (V.str w :: L)) = H9 at s9 hp9 hl9 ⊢
    refine ⟨p9, _, rfl, .inl (SqT.of hp9), _, rfl, _, _, _, _, rfl, rfl, SqL.of hl9, at_of (j := 0) rfl rfl, Nat.le_of_lt (line5 (by rw [List.length_append, List.length_cons, List.length_singleton]; omega)), fun c nc => ?_⟩
    have s12 := same_new nc (.tup ((V.str w :: L) ++ [V.ref ub]))
    have sAll := (s7.trans s9).trans s12
    exact q (.ref c) _ (mk _ c ub (Tups.of_same sAll) upd_same) sAll
end
end My
namespace My
open PySem PySem.Spec PyProof.Rows L2 NdefX LamX
/-! a law's def whose promise is kept where no writing (repr) is under way: what str of tuples wants -/
structure FnOkG (P : Program) (w : World) (K : PySem.W.Frag) (mg : Str → Option Value) (base : Heap) (CX : CXT) (k : Nat) (f : Addr) (fd : FuncData) (ps : List Str) (sp : Sp) : Prop where
  len : ∀ vs H Q E, sp vs H Q E → vs.length = ps.length
  run : ∀ (A : Around) (outer : List Env) (s : Shared) (H : Hp) (args : Args) (us : List Value) (vs : List V) (Q : VK) (E : XK), A.guards = some [] → Room k A → Env0 P w K mg base A outer s H → BindsTo s fd args (ps.zip us) → Vals vs us → sp vs H Q E →
    codeAny (model P w) A (.call (.ref f) args) (CR CX outer P w H s Q E) s
section
variable {P : Program} {w : World} {K : PySem.W.Frag} {mg : Str → Option Value} {base : Heap}
theorem fun_okG {x qual : Str} {st : Stmt} {f : Addr} {fd : FuncData} {N ps : List Str} {k : Nat} {sp : Sp} (F : Fun K x qual st f fd) (S : FnScope N ps (defScope st)) (len : ∀ vs H Q E, sp vs H Q E → vs.length = ps.length)
    (hbody : ∀ (cdv : Value) (A : Around) (outer : List Env) (s : Shared) (H : Hp) (vs : List V) (Q : VK) (E : XK), A.guards = some [] → Room k (A.deeper (envOfC qual (defScope st) s.heap.objs.size f cdv)) → sp vs H Q E →
      ∃ t, PSs (cxOf CX0 P w K mg base N qual (defScope st) f cdv A outer s H E).nox (defBody st) t ∧ t { nx := fun _ H' => Q .non H', rt := Q } (start N vs) H) : FnOkG P w K mg base CX0 (k + 1) f fd ps sp := by
  obtain ⟨oc, od, kV, doc, pm, an, cdv, ct, osl, rfl, lk, hcd⟩ := F.ex
  refine ⟨len, fun A outer s H args us vs Q E hG hr e0 hb r h => ?_⟩
  have kin : K.In s.heap := e0.mod.kin.keeps fun b o e => (e0.bs b o e).1
  refine codeAny_call_function hr.depth (kin _ _ lk) rfl S.co S.gen rfl (PySem.W.codeRec_of kin hcd) (hb _ _ _ _ (wpAny_newFunctionEnv_cells S.kind (fun y hy => ?_) fun env he s1 x => ?_))
  · rcases S.par y.1 (List.of_mem_zip hy).1 with q | q
    · exact .inl q
    · exact .inr ⟨q, PySem.W.cellsFrom_some _ _ _ (.inl q)⟩
  subst he
  obtain ⟨t, ht, hq⟩ := hbody cdv A outer s H vs Q E hG (hr.deeper _) h
  refine ⟨(e0.mod.nolimit.keeps fun b o e => (e0.bs b o e).1).keeps x.toInCall.keep, codeAny_func (wpAny_mono (ht.nox.run [] s1 (start N vs) H _ (inv_start S hr.hd e0 (len _ _ _ _ h) r x) hq) (fun fl s' z => ?_) fun e s' z => z)⟩
  cases fl with
  | ret u =>
    obtain ⟨v, σ', H', J, rv, q⟩ := z
    exact ⟨v, H', J.os, J.bare, J.base, J.hok, rv, q⟩
  | next =>
    obtain ⟨σ', H', J, q⟩ := z
    exact ⟨V.non, H', J.os, J.bare, J.base, J.hok, (rfl : RelV V.non Value.none), q⟩
  | brk =>
    obtain ⟨_, _, _, z⟩ := z
    exact z.elim
  | cont =>
    obtain ⟨_, _, _, z⟩ := z
    exact z.elim
end
/-- the law at a world's heap -/
def LawAtG (l : PySem.W.OpenLaw) (w : World) (K : PySem.W.Frag) (k n : Nat) (x : Str) (mg : Str → Option Value) (fa : Addr) (h : Heap) : Prop :=
  ∃ (fd : FuncData) (T : List (Addr × Addr)) (sp : Sp), (∀ p ∈ T, h.get? p.2 = some { cls := .none, data := .fields #[] } ∧ K.lookup p.2 = none ∧ PySem.W.CodeHd h p.1 p.2) ∧ (∀ (s : Shared) (u : Value), BindsTo s fd ⟨[u], []⟩ [(x, u)]) ∧
    (∀ (H : Hp) (a : Addr) (ns : List Int), ns.length ≤ n → (∀ z ∈ ns, Builtin.Int.intBits z ≤ 1048576) → (∀ p ∈ T, H p.2 = some (.tbl #[])) → SqL K H a (ns.map V.int) → sp [.ref a] H (fun v _ => v = .bl true) fun _ _ _ => False) ∧
    ∀ base : Heap, K.In base → base.Ns mainGlobals mg → (∀ p ∈ T, TabB base mg p.1 p.2) → FnOkG l.prog w K mg base CX0 k fa fd [x] sp
section
variable {h : Heap} {T : List (Addr × Addr)} {K : PySem.W.Frag} {a : Addr} {ob : Obj} {xs : List V}
open Classical in
/-- what is tracked when the law begins: the tables of code objects, and the script where the written part doesn't tell it -/
noncomputable def H0G (T : List (Addr × Addr)) (K : PySem.W.Frag) (a : Addr) (ob : Obj) (xs : List V) : Hp := fun b => if b ∈ T.map (·.2) then some (.tbl #[]) else if b = a ∧ K.lookup a = none then some (.frz ob (.lst xs)) else none
theorem h0G_cases {b : Addr} {u : HO} (e : H0G T K a ob xs b = some u) : (b ∈ T.map (·.2) ∧ u = .tbl #[]) ∨ (b = a ∧ K.lookup a = none ∧ u = .frz ob (.lst xs)) := by
  unfold H0G at e
  split at e
  · exact .inl ⟨‹_›, (Option.some.inj e).symm⟩
  · split at e
    · rename_i c
      exact .inr ⟨c.1, c.2, (Option.some.inj e).symm⟩
    · cases e
/-- what is neither a sequence nor an empty table is not tracked -/
theorem h0G_free (hT : ∀ b ∈ T.map (·.2), h.get? b = some { cls := .none, data := .fields #[] }) (ha : h.get? a = some ob) {vs : Array Value} {n : Nat} (hd : ob.data = .seq vs n) {b : Addr} {o : Obj} (e : h.get? b = some o) (n1 : ∀ vs n, o.data ≠ .seq vs n) (n2 : o.data ≠ .fields #[]) : H0G T K a ob xs b = none := by
  cases q : H0G T K a ob xs b with
  | none => rfl
  | some u =>
    rcases h0G_cases q with ⟨m, _⟩ | ⟨rfl, _, _⟩
    · rw [hT b m] at e
      exact absurd (congrArg Obj.data (Option.some.inj e)).symm n2
    · rw [ha] at e
      cases e
      exact absurd hd (n1 _ _)
end
section
variable {l : PySem.W.OpenLaw} {n k : Nat} {q : Program} {loose : List Str} {XP : (Str → Option Value) → Heap → Prop} {YP : World → Heap → Prop} {d : DefRec} {K : Params → PySem.W.Frag} {x : Str}
theorem walkG (hn : l.most = some n) (hn2 : n ≤ sizeLine) (hdf : d.params.defaults = []) (hr : Room k callerA) (hY : ∀ (w : World) (h : Heap), YP w h → (K w.params).In h)
    (F : ∀ (w : World) (mg : Str → Option Value) (fa : Addr) (h : Heap), YP w h → (K w.params).In h → h.Ns mainGlobals mg → mg d.name = some (.ref fa) → LawAtG l w (K w.params) k n x mg fa h) : PySem.W.WalkO q loose XP YP l.row.toRowW d [] (fun f vs => PySem.call f vs) := by
  refine Att.attach_callB hn hdf fun w s₀ s mg mb fa o pm cd doc a vs ns G Y ho hd hcd hmg hobj hints hlen hbits hg => ?_
  have kin := hY w _ Y
  obtain ⟨fd, T, sp, hT3, hb, hsp, hF⟩ := F w mg fa _ Y kin G.T.g hmg
  generalize K w.params = K at *
  generalize hob : ({ cls := .type "list", data := .seq vs.toArray } : Obj) = ob at hobj
  have hdob : ob.data = .seq vs.toArray 0 := by rw [← hob]
  have rv := vals_ints hints
  have lvs : vs.length = ns.length := hints.length
  have hT : ∀ b ∈ T.map (·.2), s.heap.get? b = some { cls := .none, data := .fields #[] } := fun b m => by
    obtain ⟨p, hp, rfl⟩ := List.mem_map.mp m
    exact (hT3 p hp).1
  have Km : ∀ b ∈ T.map (·.2), K.lookup b = none := fun b m => by
    obtain ⟨p, hp, rfl⟩ := List.mem_map.mp m
    exact (hT3 p hp).2.1
  have aT : a ∉ T.map (·.2) := fun z => by
    have q := hT a z
    rw [hobj] at q
    have e := congrArg Obj.data (Option.some.inj q)
    rw [hdob] at e
    cases e
  have hok : HOk l.prog w (H0G T K a ob (ns.map V.int)) s.heap := fun b u e => by
    rcases h0G_cases e with ⟨m, rfl⟩ | ⟨rfl, _, rfl⟩
    · exact hT b m
    · exact ⟨hobj, by rw [List.length_map]; omega, vs, _, rv, by rw [hobj, ← hob]⟩
  have sq : SqL K (H0G T K a ob (ns.map V.int)) a (ns.map V.int) := by
    cases hk : K.lookup a with
    | none => exact .inl (.inr ⟨ob, (if_neg aT).trans (if_pos ⟨rfl, hk⟩)⟩)
    | some o =>
      have e := kin a o hk
      rw [hobj] at e
      cases e
      subst hob
      exact .inr ⟨_, vs.toArray, 0, hk, rfl, rfl, rfl, by rw [List.size_toArray]; omega, by simpa using rv⟩
  have fre : ∀ {b : Addr} {o : Obj}, s.heap.get? b = some o → (∀ vs n, o.data ≠ .seq vs n) → o.data ≠ .fields #[] → H0G T K a ob (ns.map V.int) b = none := fun e => h0G_free hT hobj hdob e
  have tabs : ∀ p ∈ T, H0G T K a ob (ns.map V.int) p.2 = some (.tbl #[]) := fun p hp => if_pos (List.mem_map.mpr ⟨p, hp, rfl⟩)
  have old : ∀ {b : Addr} {u : HO}, H0G T K a ob (ns.map V.int) b = some u → K.lookup b = none := fun q => by
    rcases h0G_cases q with ⟨m, _⟩ | ⟨rfl, hk, _⟩
    · exact Km _ m
    · exact hk
  have split : ∀ {b : Addr} {u : HO}, H0G T K a ob (ns.map V.int) b = some u → _ := fun {b u} q => h0G_cases (T := T) (K := K) (a := a) (ob := ob) (xs := ns.map V.int) (b := b) (u := u) q
  generalize H0G T K a ob (ns.map V.int) = H at *
  have kinB : K.In (hidT s.heap H) := fun b o e => hidT_get (kin b o e) (by
    cases q : H b with
    | none => rfl
    | some u =>
      rw [old q] at e
      cases e)
  have nsB : ∀ {b : Addr} {m : Str → Option Value}, s.heap.Ns b m → (hidT s.heap H).Ns b m := fun ⟨o, es, ep, e, dd, r⟩ => ⟨o, es, ep, hidT_get e (fre e (fun _ _ => by rw [dd]; exact nofun) (by rw [dd]; exact nofun)), dd, r⟩
  have mod : L2.Mod K mg (hidT s.heap H) := ⟨kinB, nsB G.T.g, ⟨mb, nsB G.T.b, G.T.builtins⟩, let ⟨mc, h1, h2⟩ := G.T.nolimit; ⟨mc, nsB h1, h2⟩⟩
  have tb : ∀ p ∈ T, TabB (hidT s.heap H) mg p.1 p.2 := fun p hp => by
    have hp0 := (hT3 p hp).1
    refine ⟨?_, ?_, fun z => ?_⟩
    · obtain ⟨o, us, file, tf, flags, tg, inF, text, tt, e1, r1, r2, r3, rest⟩ := (hT3 p hp).2.2
      refine ⟨o, us, file, tf, flags, tg, inF, text, tt, hidT_get e1 (fre e1 (fun _ _ => by rw [r2]; exact nofun) fun z => ?_), r1, r2, r3, rest⟩
      rw [r2] at z
      cases z
      cases r3
    · obtain ⟨bm, om, b1, b2, b3, b4, b5, b6⟩ := G.T.bmain
      refine ⟨bm, om, b1, b2, fun z => ?_, fun z => ?_, hidT_get b3 (fre b3 (fun _ _ => by rw [b6]; exact nofun) (by rw [b6]; exact nofun)), b4, b5, b6⟩
      · obtain ⟨o, es, ep, e, dd, _⟩ := G.T.g
        rw [← z, b3] at e
        cases e
        rw [b6] at dd
        cases dd
      · rw [← z, b3] at hp0
        cases hp0
        cases b6
    · obtain ⟨o, es, ep, e, dd, _⟩ := G.T.g
      rw [z, hp0] at e
      cases e
      cases dd
  have e0 : Env0 l.prog w K mg (hidT s.heap H) callerA [] s H := ⟨rfl, mod, fun b o e => of_hidT e, Nat.le_of_eq (hidT_size _ _), trivial, fun b hb => (nomatch hb), hok, .of_eq hg⟩
  refine codeAny_mono ((hF _ kinB (nsB G.T.g) tb).run callerA [] s H ⟨[.ref a], []⟩ [.ref a] [.ref a] _ _ rfl hr e0 (hb s (.ref a)) (.cons rfl .nil) (hsp H a ns hlen hbits tabs sq)) fun r s' z => ?_
  cases r with
  | error e => exact False.elim z
  | ok fl =>
    cases fl with
    | ret u =>
      obtain ⟨v, H', os, bare, un, hok', ru, rfl⟩ := z
      obtain rfl : u = Value.bool true := ru
      refine ⟨rfl, ⟨fun b o e => ?_, fun b o e => un.there b o e (fun m => (nomatch m))⟩, os, bare⟩
      cases q : H b with
      | none => exact .inl (un.keep b o e q (fun m => (nomatch m)) fun m => (nomatch m))
      | some u =>
        rcases split q with ⟨m, rfl⟩ | ⟨rfl, _, rfl⟩
        · obtain ⟨more, e2⟩ := un.tbls b #[] q
          have e3 : s'.heap.get? b = some { cls := .none, data := .fields (#[] ++ more) } := hok' b _ e2
          obtain ⟨p, hp, rfl⟩ := List.mem_map.mp m
          rw [hT _ m] at e
          cases e
          exact .inr (.inl ⟨((hT3 p hp).2.2.tab (hT3 p hp).1).isCodeTable, rfl, #[], more, rfl, e3⟩)
        · have e2 := (hok' b _ (un.frzs b _ _ q)).1
          rw [hobj] at e
          cases e
          exact .inl e2
    | _ => exact False.elim z
end
end My
namespace My
open PySem PySem.Spec PyProof.Rows L2
/-! str(x) of tuples, nested, of numbers, texts and None: where no writing is under way -/
mutual
inductive DatAt (K : PySem.W.Frag) (H : Hp) : V → PyData → Prop
  | int (i : Int) : DatAt K H (.int i) (.int i)
  | str (x : Str) : DatAt K H (.str x) (.str x)
  | non : DatAt K H .non .none
  | tup {a : Addr} {xs : List V} {ds : List PyData} (h : SqT K H a xs) (r : DatsAt K H xs ds) : DatAt K H (.ref a) (.tuple ds)
inductive DatsAt (K : PySem.W.Frag) (H : Hp) : List V → List PyData → Prop
  | nil : DatsAt K H [] []
  | cons {v : V} {vs : List V} {d : PyData} {ds : List PyData} (h : DatAt K H v d) (r : DatsAt K H vs ds) : DatsAt K H (v :: vs) (d :: ds)
end
mutual
theorem DatAt.noDict {K : PySem.W.Frag} {H : Hp} : ∀ {v : V} {d : PyData}, DatAt K H v d → d.hasDict = false
  | _, _, .int _ => by simp only [PyData.hasDict]
  | _, _, .str _ => by simp only [PyData.hasDict]
  | _, _, .non => by simp only [PyData.hasDict]
  | _, _, .tup _ r => by
    simp only [PyData.hasDict]
    exact DatsAt.noDict r
theorem DatsAt.noDict {K : PySem.W.Frag} {H : Hp} : ∀ {vs : List V} {ds : List PyData}, DatsAt K H vs ds → PyData.hasDictAll ds = false
  | _, _, .nil => by simp only [PyData.hasDictAll]
  | _, _, .cons h r => by simp only [PyData.hasDictAll, DatAt.noDict h, DatsAt.noDict r, Bool.or_self]
end
section
variable {X : Cx} {pins : List (Addr × Obj)} {σ : L2.St} {H : Hp} {s : Shared}
mutual
theorem DatAt.reads (I : Inv X pins σ H s) : ∀ {v : V} {d : PyData} {u : Value}, DatAt X.K H v d → RelV v u → Reads s.heap u d []
  | _, _, _, .int i, r => by
    obtain ⟨t, rfl⟩ := r
    exact .int i t
  | _, _, _, .str x, r => by
    obtain ⟨t, rfl⟩ := r
    exact .str x t
  | _, _, _, .non, r => by
    cases r
    exact .none
  | _, _, _, .tup h q, r => by
    cases r
    obtain ⟨its, rv, ⟨o, ho, hc, n, hd⟩, _⟩ := I.tuple h
    exact .tuple ho hc hd (by
      show ReadsAll s.heap its _ []
      exact DatsAt.reads I q rv)
theorem DatsAt.reads (I : Inv X pins σ H s) : ∀ {vs : List V} {ds : List PyData} {us : List Value}, DatsAt X.K H vs ds → Vals vs us → ReadsAll s.heap us ds []
  | _, _, _, .nil, .nil => .nil
  | _, _, _, .cons h q, .cons r rr => ReadsAll.cons (as := []) (bs := []) (DatAt.reads I h r) (DatsAt.reads I q rr)
end
def rStrT (K : PySem.W.Frag) : List V → Hp → VK → Prop := fun xs H Q => ∃ (a : Addr) (d : PyData), xs = [.ref a] ∧ DatAt K H (.ref a) d ∧ d.showable = true ∧ d.depth ≤ 190 ∧ d.shown.length ≤ sizeLine ∧ Q (.str d.shown) H
theorem call_strT {k : Nat} (hG : X.A.guards = some []) (hr : Room k X.A) : CallR X (.type "str") (rStrT X.K) := by
  intro pins s σ H xs us Q I r h
  obtain ⟨a, d, rfl, hd, hs, hz, hl, q⟩ := h
  cases r with
  | cons r rr =>
    cases rr
    cases r
    have hu := hr.un
    refine str_of_reads (DatAt.reads I hd rfl) hs (PyData.noDict_hsm hd.noDict) hG (by omega) (fun _ _ e => e) (fun h' u tk kp => ?_) hl
    exact ⟨.str d.shown, H, I.kept kp, ⟨_, rfl⟩, q⟩
end
end My
namespace My
open PySem L2
def LtA (z : Str) : Prop := ∀ c ∈ z.cps.toList, 97 ≤ c ∧ c ≤ 122
def LtS (z : Str) : Prop := z.length ≤ 8 ∧ LtA z
theorem strOk_lt {x : Str} (h : LtA x) : PyData.strOk x = true := by
  unfold PyData.strOk
  rw [← Array.all_toList, List.all_eq_true]
  intro c hc
  have := h c hc
  exact decide_eq_true (by omega)
def argD : List Str → List PyData → List PyData
  | n :: ns, d :: ds => .tuple [.str n, d] :: argD ns ds
  | _, _ => []
def Hd.dat : Hd → List PyData → PyData
  | .num i, _ => .tuple [.str "num", .int i]
  | .text z, _ => .tuple [.str "text", .str z]
  | .hole x, _ => .tuple [.str "hole", .str x]
  | .call x ns, ds => .tuple [.str "call", .str x, .tuple (argD ns ds)]
  | .make x ns, ds => .tuple [.str "make", .str x, .tuple (argD ns ds)]
  | .get x, ds => .tuple [.str "get", .str x, ds.headD .none]
  | .bare x c, _ => .tuple [.str "case", .str x, .str c, .none]
  | .case x c, ds => .tuple [.str "case", .str x, .str c, ds.headD .none]
  | .as_ x, ds => .tuple [.str "as", .str x, ds.headD .none]
  | .look xs, ds => .tuple [.str "look", .tuple (xs.map .str), ds.headD .none]
  | .one, ds => .tuple [.str "one", ds.headD .none]
  | .answer n, ds => .tuple [.str "answer", .int n, ds.headD .none]
  | .ask, ds => .tuple [.str "ask", ds.headD .none, .tuple ds.tail]
  | .handed x p i ns, ds => .tuple [.str "handed", .str x, .str p, .int i, .tuple (argD ns ds)]
mutual
def Tm.dat : Tm → PyData
  | .nd h ts => h.dat (Tm.dats ts)
def Tm.dats : List Tm → List PyData
  | [] => []
  | t :: r => Tm.dat t :: Tm.dats r
end
theorem strs_dat {K : PySem.W.Frag} {H : Hp} : ∀ xs : List Str, DatsAt K H (xs.map V.str) (xs.map PyData.str)
  | [] => .nil
  | _ :: r => .cons (.str _) (strs_dat r)
theorem args_dat {K : PySem.W.Frag} {H : Hp} {qs ps : List V} {ns : List Str} (h : ArgsAt H qs ns ps) : ∀ {ds : List PyData}, DatsAt K H ps ds → DatsAt K H qs (argD ns ds) := by
  induction h with
  | nil => intro ds hd; cases hd; exact .nil
  | cons h t ih =>
    intro ds hd
    cases hd with
    | cons hd r => exact .cons (.tup (SqT.of h) (.cons (.str _) (.cons hd .nil))) (ih r)
mutual
theorem TmAt.dat {K : PySem.W.Frag} {H : Hp} : ∀ {t : Tm} {v : V}, TmAt H v t → DatAt K H v t.dat
  | .nd _ _, _, .nd n hs => by
    have hd := TmsAt.dat (K := K) hs
    cases n with
    | num h => exact .tup (SqT.of h) (.cons (.str _) (.cons (.int _) .nil))
    | text h => exact .tup (SqT.of h) (.cons (.str _) (.cons (.str _) .nil))
    | hole h => exact .tup (SqT.of h) (.cons (.str _) (.cons (.str _) .nil))
    | call h hg hq => exact .tup (SqT.of h) (.cons (.str _) (.cons (.str _) (.cons (.tup (SqX hg) (args_dat hq hd)) .nil)))
    | make h hg hq => exact .tup (SqT.of h) (.cons (.str _) (.cons (.str _) (.cons (.tup (SqX hg) (args_dat hq hd)) .nil)))
    | handed h hg hq => exact .tup (SqT.of h) (.cons (.str _) (.cons (.str _) (.cons (.str _) (.cons (.int _) (.cons (.tup (SqX hg) (args_dat hq hd)) .nil)))))
    | bare h => exact .tup (SqT.of h) (.cons (.str _) (.cons (.str _) (.cons (.str _) (.cons .non .nil))))
    | get h => cases hs with | cons h1 h2 => cases h2; exact .tup (SqT.of h) (.cons (.str _) (.cons (.str _) (.cons (TmAt.dat h1) .nil)))
    | case h => cases hs with | cons h1 h2 => cases h2; exact .tup (SqT.of h) (.cons (.str _) (.cons (.str _) (.cons (.str _) (.cons (TmAt.dat h1) .nil))))
    | as_ h => cases hs with | cons h1 h2 => cases h2; exact .tup (SqT.of h) (.cons (.str _) (.cons (.str _) (.cons (TmAt.dat h1) .nil)))
    | look h hg => cases hs with | cons h1 h2 => cases h2; exact .tup (SqT.of h) (.cons (.str _) (.cons (.tup (SqX hg) (strs_dat _)) (.cons (TmAt.dat h1) .nil)))
    | one h => cases hs with | cons h1 h2 => cases h2; exact .tup (SqT.of h) (.cons (.str _) (.cons (TmAt.dat h1) .nil))
    | answer h => cases hs with | cons h1 h2 => cases h2; exact .tup (SqT.of h) (.cons (.str _) (.cons (.int _) (.cons (TmAt.dat h1) .nil)))
    | ask h hg => cases hs with | cons h1 h2 => exact .tup (SqT.of h) (.cons (.str _) (.cons (TmAt.dat h1) (.cons (.tup (SqX hg) (TmsAt.dat h2)) .nil)))
theorem TmsAt.dat {K : PySem.W.Frag} {H : Hp} : ∀ {ts : List Tm} {vs : List V}, TmsAt H vs ts → DatsAt K H vs (Tm.dats ts)
  | [], _, .nil => .nil
  | _ :: _, _, .cons h r => .cons (TmAt.dat h) (TmsAt.dat r)
end
mutual
/-- how many tuples -/
def tupN : PyData → Nat
  | .tuple xs => tupsN xs + 1
  | _ => 0
def tupsN : List PyData → Nat
  | [] => 0
  | x :: r => tupN x + tupsN r
end
theorem dats_len : ∀ ts : List Tm, (Tm.dats ts).length = ts.length
  | [] => rfl
  | _ :: r => congrArg (· + 1) (dats_len r)
/-- the names of a head are signs -/
def Hd.signs : Hd → Prop
  | .call x ns => LtS x ∧ ∀ z ∈ ns, LtS z
  | .make x ns => LtS x ∧ ∀ z ∈ ns, LtS z
  | .handed x p i ns => (LtS x ∧ LtS p) ∧ (∀ z ∈ ns, LtS z) ∧ i.natAbs < 10 ^ 62
  | .num i => i.natAbs < 10 ^ 62
  | .answer n => n.natAbs < 10 ^ 62
  | .get x => LtS x
  | .bare x c => LtS x ∧ LtS c
  | .case x c => LtS x ∧ LtS c
  | .as_ x => LtS x
  | .look xs => xs.length ≤ 6 ∧ ∀ z ∈ xs, LtS z
  | .text z => LtS z
  | .hole x => LtS x
  | _ => True
theorem int_shL {i : Int} (h : i.natAbs < 10 ^ 62) : (PyData.shown (.int i)).length ≤ 64 := by
  have := int_text_length_le10 (k := 62) (by decide) h
  show (Str.ofString (toString i)).length ≤ 64
  rw [ofString_length]
  omega
theorem int_logL {i : Int} (h : i.natAbs < 10 ^ 62) : i.natAbs.log2 < 1920 := by
  by_cases c : i.natAbs = 0
  · rw [c]
    decide
  · refine (Nat.log2_lt c).mpr (Nat.lt_of_lt_of_le h ?_)
    exact Nat.le_trans (Nat.pow_le_pow_left (show 10 ≤ 2 ^ 4 by decide) 62) (by rw [← Nat.pow_mul]; exact Nat.pow_le_pow_right (by decide) (by decide))
structure ShwD (d : PyData) : Prop where
  shw : d.showable = true
  ish : d.intsShort 64 = true
  blk : d.bulk ≤ 60 * tupN d
structure ShwDs (ds : List PyData) : Prop where
  shw : PyData.showableAll ds = true
  ish : PyData.intsShortAll 64 ds = true
  blk : PyData.bulkAll ds ≤ 60 * tupsN ds + ds.length
theorem ShwDs.nil : ShwDs [] := ⟨by simp [PyData.showableAll], by simp [PyData.intsShortAll], by simp [PyData.bulkAll]⟩
theorem ShwDs.of : ∀ {ds : List PyData}, (∀ d ∈ ds, ShwD d) → ShwDs ds
  | [], _ => .nil
  | d :: r, h => by
    have a := h d (.head _)
    have b := ShwDs.of (ds := r) fun x hx => h x (.tail _ hx)
    have b1 := a.blk
    have b2 := b.blk
    exact ⟨by simp [PyData.showableAll, a.shw, b.shw], by simp [PyData.intsShortAll, a.ish, b.ish], by simp only [PyData.bulkAll, tupsN, List.length_cons]; omega⟩
theorem argD_shw : ∀ {ns : List Str} {ds : List PyData}, (∀ z ∈ ns, LtS z) → (∀ d ∈ ds, ShwD d) → PyData.showableAll (argD ns ds) = true ∧ PyData.intsShortAll 64 (argD ns ds) = true ∧ PyData.bulkAll (argD ns ds) ≤ 60 * tupsN (argD ns ds)
  | [], _, _, _ => by simp [argD, PyData.showableAll, PyData.intsShortAll, PyData.bulkAll]
  | _ :: _, [], _, _ => by simp [argD, PyData.showableAll, PyData.intsShortAll, PyData.bulkAll]
  | n :: ns, d :: ds, h1, h2 => by
    obtain ⟨i1, i2, i3⟩ := argD_shw (ns := ns) (ds := ds) (fun z m => h1 z (.tail _ m)) fun x m => h2 x (.tail _ m)
    have a := h2 d (.head _)
    have b := a.blk
    have e : n.cps.size ≤ 8 := (h1 n (.head _)).1
    refine ⟨?_, ?_, ?_⟩
    · simp [argD, PyData.showableAll, PyData.showable, a.shw, i1]
    · simp [argD, PyData.intsShortAll, PyData.intsShort, a.ish, i2]
    · simp only [argD, PyData.bulkAll, PyData.bulk, tupsN, tupN] at i3 ⊢
      omega
theorem strs_shw : ∀ {xs : List Str}, (∀ z ∈ xs, LtS z) → PyData.showableAll (xs.map PyData.str) = true ∧ PyData.intsShortAll 64 (xs.map PyData.str) = true ∧ PyData.bulkAll (xs.map PyData.str) ≤ 9 * xs.length
  | [], _ => by simp [PyData.showableAll, PyData.intsShortAll, PyData.bulkAll]
  | n :: ns, h1 => by
    obtain ⟨i1, i2, i3⟩ := strs_shw (xs := ns) fun z m => h1 z (.tail _ m)
    have e : n.cps.size ≤ 8 := (h1 n (.head _)).1
    refine ⟨?_, ?_, ?_⟩
    · simp [PyData.showableAll, PyData.showable, i1]
    · simp [PyData.intsShortAll, PyData.intsShort, i2]
    · simp only [List.map_cons, PyData.bulkAll, PyData.bulk, List.length_cons] at i3 ⊢
      omega
theorem Hd.shwD {h : Hd} (s : h.signs) {ds : List PyData} (few : ds.length ≤ 12) (hd : ∀ d ∈ ds, ShwD d) : ShwD (h.dat ds) := by
  have hl : ShwD (ds.headD .none) := by
    cases ds with
    | nil => exact ⟨by simp [PyData.showable], by simp [PyData.intsShort], by simp [PyData.bulk]⟩
    | cons d r => exact hd d (.head _)
  obtain ⟨l1, l2, l3⟩ := hl
  have wd : ∀ w ∈ (["num", "text", "hole", "call", "make", "get", "case", "as", "look", "one", "answer", "ask", "handed"] : List Str), w.cps.size ≤ 6 := by decide +kernel
  cases h with
  | num i =>
    have s : i.natAbs < 10 ^ 62 := s
    have w := wd "num" (by decide)
    refine ⟨?_, ?_, ?_⟩
    · simp [Hd.dat, PyData.showable, PyData.showableAll, int_logL s]
    · have := int_shL s
      simp [Hd.dat, PyData.intsShort, PyData.intsShortAll, this]
    · simp only [Hd.dat, PyData.bulk, PyData.bulkAll, tupN, tupsN]; omega
  | text z =>
    have s : z.cps.size ≤ 8 := s.1
    have w := wd "text" (by decide)
    exact ⟨by simp [Hd.dat, PyData.showable, PyData.showableAll], by simp [Hd.dat, PyData.intsShort, PyData.intsShortAll], by simp only [Hd.dat, PyData.bulk, PyData.bulkAll, tupN, tupsN]; omega⟩
  | hole z =>
    have s : z.cps.size ≤ 8 := s.1
    have w := wd "hole" (by decide)
    exact ⟨by simp [Hd.dat, PyData.showable, PyData.showableAll], by simp [Hd.dat, PyData.intsShort, PyData.intsShortAll], by simp only [Hd.dat, PyData.bulk, PyData.bulkAll, tupN, tupsN]; omega⟩
  | call x ns =>
    have s1 : x.cps.size ≤ 8 := s.1.1
    obtain ⟨a1, a2, a3⟩ := argD_shw s.2 hd
    have w := wd "call" (by decide)
    exact ⟨by simp [Hd.dat, PyData.showable, PyData.showableAll, a1], by simp [Hd.dat, PyData.intsShort, PyData.intsShortAll, a2], by simp only [Hd.dat, PyData.bulk, PyData.bulkAll, tupN, tupsN]; omega⟩
  | make x ns =>
    have s1 : x.cps.size ≤ 8 := s.1.1
    obtain ⟨a1, a2, a3⟩ := argD_shw s.2 hd
    have w := wd "make" (by decide)
    exact ⟨by simp [Hd.dat, PyData.showable, PyData.showableAll, a1], by simp [Hd.dat, PyData.intsShort, PyData.intsShortAll, a2], by simp only [Hd.dat, PyData.bulk, PyData.bulkAll, tupN, tupsN]; omega⟩
  | handed x p i ns =>
    have s1 : x.cps.size ≤ 8 := s.1.1.1
    have s2 : p.cps.size ≤ 8 := s.1.2.1
    have s3 : i.natAbs < 10 ^ 62 := s.2.2
    obtain ⟨a1, a2, a3⟩ := argD_shw s.2.1 hd
    have w := wd "handed" (by decide)
    have i1 := int_logL s3
    have i2 := int_shL s3
    exact ⟨by simp [Hd.dat, PyData.showable, PyData.showableAll, a1, i1], by simp [Hd.dat, PyData.intsShort, PyData.intsShortAll, a2, i2], by simp only [Hd.dat, PyData.bulk, PyData.bulkAll, tupN, tupsN]; omega⟩
  | get x =>
    have s : x.cps.size ≤ 8 := s.1
    have w := wd "get" (by decide)
    exact ⟨by simp only [Hd.dat, PyData.showable, PyData.showableAll, l1, Bool.and_self], by simp only [Hd.dat, PyData.intsShort, PyData.intsShortAll, l2, Bool.and_self], by simp only [Hd.dat, PyData.bulk, PyData.bulkAll, tupN, tupsN]; omega⟩
  | bare x c =>
    have s1 : x.cps.size ≤ 8 := s.1.1
    have s2 : c.cps.size ≤ 8 := s.2.1
    have w := wd "case" (by decide)
    exact ⟨by simp only [Hd.dat, PyData.showable, PyData.showableAll, l1, Bool.and_self], by simp only [Hd.dat, PyData.intsShort, PyData.intsShortAll, l2, Bool.and_self], by simp only [Hd.dat, PyData.bulk, PyData.bulkAll, tupN, tupsN]; omega⟩
  | case x c =>
    have s1 : x.cps.size ≤ 8 := s.1.1
    have s2 : c.cps.size ≤ 8 := s.2.1
    have w := wd "case" (by decide)
    exact ⟨by simp only [Hd.dat, PyData.showable, PyData.showableAll, l1, Bool.and_self], by simp only [Hd.dat, PyData.intsShort, PyData.intsShortAll, l2, Bool.and_self], by simp only [Hd.dat, PyData.bulk, PyData.bulkAll, tupN, tupsN]; omega⟩
  | as_ x =>
    have s : x.cps.size ≤ 8 := s.1
    have w := wd "as" (by decide)
    exact ⟨by simp only [Hd.dat, PyData.showable, PyData.showableAll, l1, Bool.and_self], by simp only [Hd.dat, PyData.intsShort, PyData.intsShortAll, l2, Bool.and_self], by simp only [Hd.dat, PyData.bulk, PyData.bulkAll, tupN, tupsN]; omega⟩
  | look xs =>
    have s0 : xs.length ≤ 6 := s.1
    obtain ⟨a1, a2, a3⟩ := strs_shw s.2
    have w := wd "look" (by decide)
    exact ⟨by simp only [Hd.dat, PyData.showable, PyData.showableAll, l1, a1, Bool.and_self], by simp only [Hd.dat, PyData.intsShort, PyData.intsShortAll, l2, a2, Bool.and_self], by simp only [Hd.dat, PyData.bulk, PyData.bulkAll, tupN, tupsN]; omega⟩
  | one =>
    have w := wd "one" (by decide)
    exact ⟨by simp only [Hd.dat, PyData.showable, PyData.showableAll, l1, Bool.and_self], by simp only [Hd.dat, PyData.intsShort, PyData.intsShortAll, l2, Bool.and_self], by simp only [Hd.dat, PyData.bulk, PyData.bulkAll, tupN, tupsN]; omega⟩
  | answer n =>
    have s : n.natAbs < 10 ^ 62 := s
    have w := wd "answer" (by decide)
    have i1 := int_logL s
    have i2 := int_shL s
    exact ⟨by simp [Hd.dat, PyData.showable, PyData.showableAll, i1] at l1 ⊢; exact l1, by simp [Hd.dat, PyData.intsShort, PyData.intsShortAll, i2] at l2 ⊢; exact l2, by simp only [Hd.dat, PyData.bulk, PyData.bulkAll, tupN, tupsN]; omega⟩
  | ask =>
    have w := wd "ask" (by decide)
    have t := ShwDs.of (ds := ds.tail) fun d m => hd d (List.mem_of_mem_tail m)
    have tl : ds.tail.length ≤ 12 := by rw [List.length_tail]; omega
    have tb := t.blk
    exact ⟨by simp only [Hd.dat, PyData.showable, PyData.showableAll, l1, t.shw, Bool.and_self], by simp only [Hd.dat, PyData.intsShort, PyData.intsShortAll, l2, t.ish, Bool.and_self], by simp only [Hd.dat, PyData.bulk, PyData.bulkAll, tupN, tupsN]; omega⟩
theorem ShwD.len {d : PyData} (h : ShwD d) (l : d.canLay0 = true) {n : Nat} (t : tupN d ≤ n) (hn : n ≤ 4000) : d.shown.length ≤ sizeLine := by
  have a := PyData.shown_le_bulk 64 (by decide) d (PyData.leavesShort_of_canLay0 64 d l h.ish)
  have b := h.blk
  have c : sizeLine = 16777216 := by decide
  omega
/-- how much greater a term is than its parts -/
theorem argD_tupsN : ∀ {ns : List Str} {ds : List PyData}, tupsN (argD ns ds) ≤ tupsN ds + ds.length
  | [], _ => by simp [argD, tupsN]
  | _ :: _, [] => by simp [argD, tupsN]
  | n :: ns, d :: ds => by
    have ih := argD_tupsN (ns := ns) (ds := ds)
    simp only [argD, tupsN, tupN, List.length_cons] at ih ⊢
    omega
theorem argD_depth : ∀ {ns : List Str} {ds : List PyData}, PyData.depthAll (argD ns ds) ≤ PyData.depthAll ds + 1
  | [], _ => by simp [argD, PyData.depthAll]
  | _ :: _, [] => by simp [argD, PyData.depthAll]
  | n :: ns, d :: ds => by
    have ih := argD_depth (ns := ns) (ds := ds)
    simp only [argD, PyData.depthAll, PyData.depth] at ih ⊢
    omega
theorem tupsN_head : ∀ ds : List PyData, tupN (ds.headD .none) ≤ tupsN ds ∧ tupN (ds.headD .none) + tupsN ds.tail ≤ tupsN ds ∧ (ds.headD .none).depth ≤ PyData.depthAll ds ∧ PyData.depthAll ds.tail ≤ PyData.depthAll ds
  | [] => by simp [tupN, tupsN, PyData.depth, PyData.depthAll]
  | d :: r => by
    simp only [List.headD_cons, List.tail_cons, tupsN, PyData.depthAll]
    omega
theorem strs_tups : ∀ xs : List Str, tupsN (xs.map PyData.str) = 0 ∧ PyData.depthAll (xs.map PyData.str) = 0
  | [] => by simp [tupsN, PyData.depthAll]
  | _ :: r => by
    obtain ⟨a, b⟩ := strs_tups r
    simp only [List.map_cons, tupsN, tupN, PyData.depthAll, PyData.depth]
    omega
theorem Hd.datN (h : Hd) (ds : List PyData) : tupN (h.dat ds) ≤ tupsN ds + ds.length + 2 ∧ (h.dat ds).depth ≤ PyData.depthAll ds + 3 := by
  obtain ⟨a, b, c, e⟩ := tupsN_head ds
  have f := fun ns => argD_tupsN (ns := ns) (ds := ds)
  have g := fun ns => argD_depth (ns := ns) (ds := ds)
  cases h with
  | call x ns => have := f ns; have := g ns; simp only [Hd.dat, tupN, tupsN, PyData.depth, PyData.depthAll]; omega
  | make x ns => have := f ns; have := g ns; simp only [Hd.dat, tupN, tupsN, PyData.depth, PyData.depthAll]; omega
  | handed x p i ns => have := f ns; have := g ns; simp only [Hd.dat, tupN, tupsN, PyData.depth, PyData.depthAll]; omega
  | look xs =>
    obtain ⟨q, r⟩ := strs_tups xs
    simp only [Hd.dat, tupN, tupsN, PyData.depth, PyData.depthAll]
    omega
  | _ => simp only [Hd.dat, tupN, tupsN, PyData.depth, PyData.depthAll]; omega
theorem datsN {m n : Nat} : ∀ {ts : List Tm}, (∀ t ∈ ts, tupN t.dat ≤ m ∧ t.dat.depth ≤ n) → tupsN (Tm.dats ts) ≤ m * ts.length ∧ PyData.depthAll (Tm.dats ts) ≤ n
  | [], _ => by simp [Tm.dats, tupsN, PyData.depthAll]
  | t :: r, h => by
    have a := h t (.head _)
    have b := datsN (ts := r) fun x hx => h x (.tail _ hx)
    simp only [Tm.dats, tupsN, PyData.depthAll, List.length_cons, Nat.mul_add]
    omega
theorem argD_lay : ∀ {ns : List Str} {ds : List PyData}, (∀ z ∈ ns, LtA z) → (∀ d ∈ ds, d.canLay0 = true) → PyData.canLayAll0 (argD ns ds) = true
  | [], _, _, _ => by simp [argD, PyData.canLayAll0]
  | _ :: _, [], _, _ => by simp [argD, PyData.canLayAll0]
  | n :: ns, d :: ds, h1, h2 => by
    have ih := argD_lay (ns := ns) (ds := ds) (fun z m => h1 z (.tail _ m)) fun x m => h2 x (.tail _ m)
    have e := strOk_lt (h1 n (.head _))
    have d0 := h2 d (.head _)
    simp [argD, PyData.canLay0, PyData.canLayAll0, ih, e, d0]
theorem strs_lay : ∀ {xs : List Str}, (∀ z ∈ xs, LtA z) → PyData.canLayAll0 (xs.map PyData.str) = true
  | [], _ => by simp [PyData.canLayAll0]
  | n :: ns, h => by
    have ih := strs_lay (xs := ns) fun z m => h z (.tail _ m)
    have e := strOk_lt (h n (.head _))
    simp [PyData.canLayAll0, PyData.canLay0, e] at ih ⊢
    exact ih
theorem all_lay : ∀ {ds : List PyData}, (∀ d ∈ ds, d.canLay0 = true) → PyData.canLayAll0 ds = true
  | [], _ => by simp [PyData.canLayAll0]
  | d :: r, h => by
    have ih := all_lay (ds := r) fun x m => h x (.tail _ m)
    have e := h d (.head _)
    simp [PyData.canLayAll0, e, ih]
theorem layH {h : Hd} {ds : List PyData} (sg : h.signs) (ld : ∀ d ∈ ds, d.canLay0 = true) : (h.dat ds).canLay0 = true := by
  have hl : (ds.headD .none).canLay0 = true := by
    cases e : ds with
    | nil => simp [PyData.canLay0]
    | cons d r => exact ld d (by rw [e]; exact .head _)
  have sw : ∀ x ∈ (["hole", "num", "text", "call", "make", "get", "case", "as", "look", "one", "answer", "ask", "handed"] : List Str), PyData.canLay0 (.str x) = true := by decide +kernel
  cases h with
  | num i =>
    have e := sw "num" (by decide)
    simp [Hd.dat, PyData.canLay0, PyData.canLayAll0] at e ⊢
    exact e
  | text z =>
    have e := sw "text" (by decide)
    have e2 := strOk_lt (show LtA z from sg.2)
    simp [Hd.dat, PyData.canLay0, PyData.canLayAll0] at e e2 ⊢
    exact ⟨e, e2⟩
  | answer n =>
    have e := sw "answer" (by decide)
    simp [Hd.dat, PyData.canLay0, PyData.canLayAll0] at e hl ⊢
    exact ⟨e, hl⟩
  | call x ns =>
    have e := sw "call" (by decide)
    have e2 := strOk_lt (show LtA x from sg.1.2)
    have la := argD_lay (ds := ds) (fun z hz => (sg.2 z hz).2) ld
    simp [Hd.dat, PyData.canLay0, PyData.canLayAll0] at e e2 la ⊢
    exact ⟨e, e2, la⟩
  | make x ns =>
    have e := sw "make" (by decide)
    have e2 := strOk_lt (show LtA x from sg.1.2)
    have la := argD_lay (ds := ds) (fun z hz => (sg.2 z hz).2) ld
    simp [Hd.dat, PyData.canLay0, PyData.canLayAll0] at e e2 la ⊢
    exact ⟨e, e2, la⟩
  | handed x p i ns =>
    have e := sw "handed" (by decide)
    have e2 := strOk_lt (show LtA x from sg.1.1.2)
    have e3 := strOk_lt (show LtA p from sg.1.2.2)
    have la := argD_lay (ds := ds) (fun z hz => (sg.2.1 z hz).2) ld
    simp [Hd.dat, PyData.canLay0, PyData.canLayAll0] at e e2 e3 la ⊢
    exact ⟨e, e2, e3, la⟩
  | hole x =>
    have e := sw "hole" (by decide)
    have e2 := strOk_lt (show LtA x from sg.2)
    simp [Hd.dat, PyData.canLay0, PyData.canLayAll0] at e e2 ⊢
    exact ⟨e, e2⟩
  | get x =>
    have e := sw "get" (by decide)
    have e2 := strOk_lt (show LtA x from sg.2)
    simp [Hd.dat, PyData.canLay0, PyData.canLayAll0] at e e2 hl ⊢
    exact ⟨e, e2, hl⟩
  | bare x c =>
    have e := sw "case" (by decide)
    have e2 := strOk_lt (show LtA x from sg.1.2)
    have e3 := strOk_lt (show LtA c from sg.2.2)
    simp [Hd.dat, PyData.canLay0, PyData.canLayAll0] at e e2 e3 ⊢
    exact ⟨e, e2, e3⟩
  | case x c =>
    have e := sw "case" (by decide)
    have e2 := strOk_lt (show LtA x from sg.1.2)
    have e3 := strOk_lt (show LtA c from sg.2.2)
    simp [Hd.dat, PyData.canLay0, PyData.canLayAll0] at e e2 e3 hl ⊢
    exact ⟨e, e2, e3, hl⟩
  | as_ x =>
    have e := sw "as" (by decide)
    have e2 := strOk_lt (show LtA x from sg.2)
    simp [Hd.dat, PyData.canLay0, PyData.canLayAll0] at e e2 hl ⊢
    exact ⟨e, e2, hl⟩
  | look xs =>
    have e := sw "look" (by decide)
    have la := strs_lay (xs := xs) fun z hz => (sg.2 z hz).2
    simp [Hd.dat, PyData.canLay0, PyData.canLayAll0] at e la hl ⊢
    exact ⟨e, la, hl⟩
  | one =>
    have e := sw "one" (by decide)
    simp [Hd.dat, PyData.canLay0, PyData.canLayAll0] at e hl ⊢
    exact ⟨e, hl⟩
  | ask =>
    have e := sw "ask" (by decide)
    have la := all_lay (ds := ds.tail) fun d hd => ld d (List.mem_of_mem_tail hd)
    simp [Hd.dat, PyData.canLay0, PyData.canLayAll0] at e la hl ⊢
    exact ⟨e, hl, la⟩
mutual
/-- its heads' signs are short, and its parts few -/
def Tm.sgs : Tm → Prop
  | .nd h ts => (h.signs ∧ ts.length ≤ 12) ∧ Tm.sgss ts
def Tm.sgss : List Tm → Prop
  | [] => True
  | t :: r => Tm.sgs t ∧ Tm.sgss r
end
theorem Tm.sgss_mem {t : Tm} : ∀ {ts : List Tm}, Tm.sgss ts → t ∈ ts → Tm.sgs t
  | x :: r, h, m => by
    rw [Tm.sgss] at h
    rcases List.mem_cons.mp m with rfl | m
    · exact h.1
    · exact Tm.sgss_mem h.2 m
theorem Tm.sgss_of : ∀ {ts : List Tm}, (∀ t ∈ ts, Tm.sgs t) → Tm.sgss ts
  | [], _ => by rw [Tm.sgss]; trivial
  | x :: r, h => by
    rw [Tm.sgss]
    exact ⟨h x (.head _), Tm.sgss_of fun t m => h t (.tail _ m)⟩
theorem dats_inB : ∀ {ts : List Tm} {d : PyData}, d ∈ Tm.dats ts → ∃ t ∈ ts, d = t.dat
  | x :: r, d, m => by
    rw [Tm.dats] at m
    rcases List.mem_cons.mp m with rfl | m
    · exact ⟨x, .head _, rfl⟩
    · obtain ⟨t, ht, e⟩ := dats_inB m
      exact ⟨t, .tail _ ht, e⟩
theorem Tm.sgs_shw : ∀ (n : Nat) (t : Tm), t.depth ≤ n → Tm.sgs t → ShwD t.dat ∧ t.dat.canLay0 = true
  | 0, .nd h ts, hd, _ => absurd hd (Nat.not_succ_le_zero _)
  | n + 1, .nd h ts, hd, sg => by
    rw [Tm.sgs] at sg
    have hd : Tm.depths ts + 1 ≤ n + 1 := hd
    have ih : ∀ d ∈ Tm.dats ts, ShwD d ∧ d.canLay0 = true := fun d m => by
      obtain ⟨t, mt, rfl⟩ := dats_inB m
      have := depths_mem mt
      exact Tm.sgs_shw n t (by omega) (Tm.sgss_mem sg.2 mt)
    exact ⟨Hd.shwD sg.1.1 (by rw [dats_len]; exact sg.1.2) fun d m => (ih d m).1, layH sg.1.1 fun d m => (ih d m).2⟩
mutual
theorem Tm.tupN_size : ∀ t : Tm, tupN t.dat + 2 ≤ 4 * t.size
  | .nd h ts => by
    have ih := Tm.tupsN_sizes ts
    have a := (Hd.datN h (Tm.dats ts)).1
    rw [dats_len] at a
    show tupN (h.dat (Tm.dats ts)) + 2 ≤ 4 * (Tm.sizes ts + 1)
    omega
theorem Tm.tupsN_sizes : ∀ ts : List Tm, tupsN (Tm.dats ts) + 2 * ts.length ≤ 4 * Tm.sizes ts
  | [] => by show tupsN [] + 0 ≤ 4 * 0; simp [tupsN]
  | t :: r => by
    have a := Tm.tupN_size t
    have b := Tm.tupsN_sizes r
    show tupN t.dat + tupsN (Tm.dats r) + 2 * (r.length + 1) ≤ 4 * (t.size + Tm.sizes r)
    omega
end
mutual
theorem Tm.dat_depth : ∀ t : Tm, t.dat.depth ≤ 3 * t.depth
  | .nd h ts => by
    have ih := Tm.dats_depth ts
    have a := (Hd.datN h (Tm.dats ts)).2
    show (h.dat (Tm.dats ts)).depth ≤ 3 * (Tm.depths ts + 1)
    omega
theorem Tm.dats_depth : ∀ ts : List Tm, PyData.depthAll (Tm.dats ts) ≤ 3 * Tm.depths ts
  | [] => by show PyData.depthAll [] ≤ _; simp [PyData.depthAll]
  | t :: r => by
    have a := Tm.dat_depth t
    have b := Tm.dats_depth r
    show max t.dat.depth (PyData.depthAll (Tm.dats r)) ≤ 3 * max t.depth (Tm.depths r)
    omega
end
theorem Tm.sgs_str {t : Tm} (sg : Tm.sgs t) (hd : t.depth ≤ 50) (hz : tupN t.dat ≤ 4000) : t.dat.showable = true ∧ t.dat.depth ≤ 190 ∧ t.dat.shown.length ≤ sizeLine := by
  obtain ⟨a, b⟩ := Tm.sgs_shw 50 t hd sg
  have d := Tm.dat_depth t
  exact ⟨a.shw, by omega, a.len b hz (by omega)⟩
open PySem.Spec PyProof.Rows
/-! two writings of one term are equal, however deep (within the room) -/
def rEqTm (n : Nat) : R2 := fun x y H Q => ∃ t : Tm, TmAt H x t ∧ TmAt H y t ∧ Tm.sgs t ∧ 3 * t.depth ≤ n ∧ Q (.bl true) H
theorem op_eqTm {n : Nat} {X : Cx} (hu : X.A.units + n < cLine) : OpR X (compareOp .Eq) (rEqTm n) := by
  intro pins s σ H x y v u Q I rx ry h
  obtain ⟨t, hx, hy, sg, hd, q⟩ := h
  have lay := (Tm.sgs_shw t.depth t (Nat.le_refl _) sg).2
  have dd := Tm.dat_depth t
  have r1 := DatAt.reads I (hx.dat (K := X.K)) rx
  have r2 := DatAt.reads I (hy.dat (K := X.K)) ry
  refine SeqAt.compareEq_reads r1 r2 lay lay ?_ ⟨.bl (PyData.eqv t.dat t.dat), H, I, rfl, ?_⟩
  · have : min t.dat.depth t.dat.depth = t.dat.depth := Nat.min_self _
    omega
  · rw [SeqAt.eqv_refl _ lay]
    exact q
theorem eqTm {n k : Nat} {X : Cx} (hr : Room k X.A) (hn : n ≤ 16 * k + 200) : OpR X (compareOp .Eq) (rEqTm n) := op_eqTm (by have := hr.un; omega)
end My
namespace My
open PySem L2
/-! _law_listed -/
def BareV (v : V) : Prop := (∃ i, v = .int i) ∨ (∃ z, v = .str z) ∨ v = .non
inductive Wr2 (H : Hp) (xs ps : List V) : Prop
  | leaf (w : Str) (K : List V) (v : V) (e : xs = (.str w :: K) ++ [v]) (h2 : inV (.str w) [.str "call", .str "make", .str "handed"] = false) (h3 : decide (V.str w = .str "ask") = false) (hv : BareV v) (hp : ps = [])
  | args (w : Str) (K : List V) (g : Addr) (qs : List V) (ns : List Str) (e : xs = (.str w :: K) ++ [.ref g]) (h2 : inV (.str w) [.str "call", .str "make", .str "handed"] = true) (hg : FzT H g qs) (h : ArgsAt H qs ns ps)
  | ask (v : V) (g : Addr) (vs : List V) (e : xs = [.str "ask", v, .ref g]) (hg : H g = some (.tup vs)) (hp : ps = v :: vs)
  | last (w : Str) (K : List V) (b : Addr) (ys : List V) (e : xs = (.str w :: K) ++ [.ref b]) (h2 : inV (.str w) [.str "call", .str "make", .str "handed"] = false) (h3 : decide (V.str w = .str "ask") = false) (hb : H b = some (.tup ys)) (hp : ps = [.ref b])
theorem one_tup {H : Hp} {b : Addr} {ts : List Tm} (h : TmsAt H [.ref b] ts) : ∃ ys, H b = some (.tup ys) := by
  cases h with
  | cons h _ =>
    cases h with
    | nd n _ =>
      obtain ⟨a, xs, e, hx⟩ := n.ref
      cases e
      exact ⟨xs, hx⟩
theorem NdAt.wr2 {H : Hp} {v : V} {h : Hd} {ps : List V} {ts : List Tm} (n : NdAt H v h ps) (hs : TmsAt H ps ts) : ∃ a xs, v = .ref a ∧ H a = some (.tup xs) ∧ Wr2 H xs ps := by
  cases n with
  | num h => exact ⟨_, _, rfl, h, .leaf "num" [] _ rfl rfl (by decide) (.inl ⟨_, rfl⟩) rfl⟩
  | text h => exact ⟨_, _, rfl, h, .leaf "text" [] _ rfl rfl (by decide) (.inr (.inl ⟨_, rfl⟩)) rfl⟩
  | hole h => exact ⟨_, _, rfl, h, .leaf "hole" [] _ rfl rfl (by decide) (.inr (.inl ⟨_, rfl⟩)) rfl⟩
  | call h hg hq => exact ⟨_, _, rfl, h, .args "call" [_] _ _ _ rfl rfl hg hq⟩
  | make h hg hq => exact ⟨_, _, rfl, h, .args "make" [_] _ _ _ rfl rfl hg hq⟩
  | get h => obtain ⟨ys, hb⟩ := one_tup hs; exact ⟨_, _, rfl, h, .last "get" [_] _ _ rfl rfl (by decide) hb rfl⟩
  | bare h => exact ⟨_, _, rfl, h, .leaf "case" [_, _] .non rfl rfl (by decide) (.inr (.inr rfl)) rfl⟩
  | case h => obtain ⟨ys, hb⟩ := one_tup hs; exact ⟨_, _, rfl, h, .last "case" [_, _] _ _ rfl rfl (by decide) hb rfl⟩
  | as_ h => obtain ⟨ys, hb⟩ := one_tup hs; exact ⟨_, _, rfl, h, .last "as" [_] _ _ rfl rfl (by decide) hb rfl⟩
  | look h hg => obtain ⟨ys, hb⟩ := one_tup hs; exact ⟨_, _, rfl, h, .last "look" [_] _ _ rfl rfl (by decide) hb rfl⟩
  | one h => obtain ⟨ys, hb⟩ := one_tup hs; exact ⟨_, _, rfl, h, .last "one" [] _ _ rfl rfl (by decide) hb rfl⟩
  | answer h => obtain ⟨ys, hb⟩ := one_tup hs; exact ⟨_, _, rfl, h, .last "answer" [_] _ _ rfl rfl (by decide) hb rfl⟩
  | ask h hg => exact ⟨_, _, rfl, h, .ask _ _ _ rfl hg rfl⟩
  | handed h hg hq => exact ⟨_, _, rfl, h, .args "handed" [_, _, _] _ _ _ rfl rfl hg hq⟩
def spPartsB : Sp := fun vs H Q _ => ∃ (v : V) (h : Hd) (ps : List V) (ts : List Tm), vs = [v] ∧ NdAt H v h ps ∧ TmsAt H ps ts ∧ ps.length ≤ 1000 ∧ ∀ l H', H l = none → H' l = some (.lst ps) → Same H H' → Q (.ref l) H'
def PpaB (H0 : Hp) (D : Addr) (ps : List V) (i : Nat) (H : Hp) : Prop := Same H0 H ∧ H D = some (.lst (ps.take i))
def PoneB (H0 : Hp) (D : Addr) (xs : List V) (i : Nat) (H : Hp) : Prop := Same H0 H ∧ H D = some (.lst (if i = 0 then [] else xs))
theorem bare_tyB {K : PySem.W.Frag} {H : Hp} {v : V} (h : BareV v) : ∃ t, TyX K H v t ∧ PySem.W.kitOne K t (.type "tuple") = some false := by
  rcases h with ⟨i, rfl⟩ | ⟨z, rfl⟩ | rfl
  · exact ⟨_, .base (.int i), kit_ty (by decide +kernel)⟩
  · exact ⟨_, .base (.str z), kit_ty (by decide +kernel)⟩
  · exact ⟨_, .base .non, kit_ty (by decide +kernel)⟩
section
variable {P : Program} {w : World} {K : PySem.W.Frag} {mg : Str → Option Value} {base : Heap} {f : Addr} {fd : FuncData}
theorem ok_partsB (B : Bn mg) (F : Fun K "_law_listed" "_law_listed" s__law_listed f fd) : FnOk P w K mg base CX0 1 f fd ["prog"] spPartsB := by
  refine F.ok sc__law_listed (fun vs H Q E h => ?_) (fun cdv A outer s H vs Q E hr h => ?_)
  · obtain ⟨v, h, ps, ts, rfl, _⟩ := h
    rfl
  obtain ⟨v, h, ps, ts, rfl, nd, hs, hl, q⟩ := h
  refine ⟨_, (pss_cons (ps_if (pt_cmpR (inSeq K rfl) (pe_ix (ixT K rfl) (pv 0) pe_int (fun _ _ => rfl)) (pe_lst (pa_cons pe_str (pa_cons pe_str (pa_cons pe_str pa_nil)))) (by rfl)) (pss_one (ps_ret (pe_lc (own := [("name", 2), ("part", 1)]) (g := (gTup K 2 (gCons (gName 2) (gCons (gName 1) gNil)))) rfl sc__law_listed.nd (piT K rfl (pe_ix (ixT K rfl) (pv 0) (pe_un un_neg pe_int) (fun _ _ => rfl))) (blkOk_by (N := ["prog", "part", "name"]) (sc := defScope s__law_listed) (by decide +kernel)) (fun _ _ _ _ _ => (pg_tup rfl (pgs_cons (pg_name (i := 2) sc__law_listed.nd rfl (Or.inl rfl) (hf := Or.inr rfl)) (pgs_cons (pg_name (i := 1) sc__law_listed.nd rfl (Or.inl rfl) (hf := Or.inr rfl)) pgs_nil)))) (fun _ _ _ _ _ => pts_nil) (fun _ _ _ _ _ => (pv 1))))) pss_nil)
    (pss_cons (ps_if (pt_cmpR op_eq (pe_ix (ixT K rfl) (pv 0) pe_int (fun _ _ => rfl)) pe_str (nomark _)) (pss_one (ps_ret (pe_op op_cat (pe_lst (pa_cons (pe_ix (ixT K rfl) (pv 0) pe_int (fun _ _ => rfl)) pa_nil)) (pe_callTy (listOf K rfl) (by rfl) B.b_list (by decide +kernel) (pa_cons (pe_ix (ixT K rfl) (pv 0) pe_int (fun _ _ => rfl)) pa_nil))))) pss_nil)
    (pss_one (ps_ret (pe_lc (own := [("part", 1)]) (g := (gName 1)) rfl sc__law_listed.nd (piT K rfl (pe_slice (slT K rfl) (pv 0) (po_some (pe_un un_neg pe_int)) po_none)) (blkOk_by (N := ["prog", "part", "name"]) (sc := defScope s__law_listed) (by decide +kernel)) (fun _ _ _ _ _ => (pg_name (i := 1) sc__law_listed.nd rfl (Or.inl rfl) (hf := Or.inr rfl))) (fun _ _ _ _ _ => (pts_one (pt_val (pe_callB (isInst K rfl) (by rfl) B.b_isinstance (by decide +kernel) (pa_cons (pv 1) (pa_cons (pe_bltn (v := .ty "tuple") (by rfl) B.b_tuple (by decide +kernel) rfl) pa_nil)))))) (fun _ _ _ _ _ => (pv 1))))))), ?_⟩
  obtain ⟨a, xs, rfl, ha, wr⟩ := nd.wr2 hs
  cases wr with
  | leaf w L v e h2 h3 hv hp =>
    subst e hp
    refine ⟨_, rfl, _, _, _, _, rfl, rfl, SqT.of ha, at_head, (by show 3 ≤ sizeLine; decide), fun t2 n2 => ⟨t2, _, rfl, .inl (SqL.of upd_same), rfl, rfl, _, rfl, ifF h2 ?_⟩⟩
    have S2 := same_new n2 (.lst [V.str "call", V.str "make", V.str "handed"])
    generalize upd H t2 (.lst [V.str "call", V.str "make", V.str "handed"]) = H2 at S2
    refine ⟨_, rfl, _, _, _, _, rfl, rfl, SqX (mvS S2 ha), at_head, rfl, _, rfl, ifF h3 ?_⟩
    obtain ⟨c1, c2⟩ := cut_last (K := V.str w :: L) (v := v) (by simp)
    refine ⟨_, rfl, _, rfl, _, rfl, _, _, rfl, SqX (mvS S2 ha), fun z => absurd z c1, fun _ p np => ?_⟩
    rw [c2]
    have S3 := S2.trans (same_new np (.tup [v]))
    have hp3 : (upd H2 p (.tup [v])) p = some (.tup [v]) := upd_same
    generalize upd H2 p (.tup [v]) = H3 at S3 hp3
    refine ⟨p, rfl, ⟨_, SqT.of hp3⟩, fun D nD => lc_tup (xs := [v]) (PoneB H3 D []) ?_ ?_ ?_ ?_⟩
    · exact ⟨same_new nD _, upd_same⟩
    · exact fun i H4 _ p4 => SqT.of (p4.1 _ _ hp3)
    · intro i x H4 hx p4
      have hi : i < 1 := (List.getElem?_eq_some_iff.mp hx).1
      have ei : i = 0 := by omega
      subst ei
      have ex : v = x := Option.some.inj hx
      subst ex
      obtain ⟨t, ty, kk⟩ := bare_tyB (K := K) (H := H4) hv
      refine ⟨rfl, _, rfl, _, _, t, _, _, rfl, .ty "tuple", ty, kk, _, rfl, ?_⟩
      exact iteF ⟨p4.1, p4.2⟩
    · intro H4 p4
      exact q D _ (S3.free nD) p4.2 (S3.trans p4.1)
  | args w L g qs ns e h2 hg h =>
    subst e
    refine ⟨_, rfl, _, _, _, _, rfl, rfl, SqT.of ha, at_head, (by show 3 ≤ sizeLine; decide), fun t2 n2 => ⟨t2, _, rfl, .inl (SqL.of upd_same), rfl, rfl, _, rfl, ifT h2 ?_⟩⟩
    have S2 := same_new n2 (.lst [V.str "call", V.str "make", V.str "handed"])
    generalize upd H t2 (.lst [V.str "call", V.str "make", V.str "handed"]) = H2 at S2
    have hg2 := mvS S2 hg
    refine ⟨_, rfl, _, rfl, _, _, _, _, rfl, rfl, SqX (mvS S2 ha), atI_last _ _, g, rfl, ⟨_, SqX hg2⟩, fun D nD => lc_tup (xs := qs) (PpaB H2 D ps) ?_ ?_ ?_ ?_⟩
    · exact ⟨same_new nD _, upd_same⟩
    · exact fun i H3 _ p => SqX (mvS p.1 hg2)
    · intro i x H3 hx p
      obtain ⟨b, nm, y, rfl, _, hy, hb⟩ := h.get i x hx
      refine ⟨b, _, rfl, SqT.of (p.1 _ _ (S2 _ _ hb)), rfl, _, _, rfl, _, _, rfl, rfl, rfl, ?_⟩
      refine ⟨_, rfl, _, p.2, ?_, ?_, ?_⟩
      · exact line5 (Nat.le_trans (List.length_take_le' _ _) (by omega))
      · exact Same.atNew p.1 nD
      · rw [upd_same, take_next hy]
    · intro H3 p
      refine q D _ (S2.free nD) ?_ (S2.trans p.1)
      rw [p.2, h.len.1, List.take_length]
  | ask v g vs e hg hp =>
    subst e hp
    refine ⟨_, rfl, _, _, _, _, rfl, rfl, SqT.of ha, at_of rfl rfl, (by show 3 ≤ sizeLine; decide), fun t2 n2 => ⟨t2, _, rfl, .inl (SqL.of upd_same), rfl, rfl, _, rfl, ifF rfl ?_⟩⟩
    have S2 := same_new n2 (.lst [V.str "call", V.str "make", V.str "handed"])
    generalize upd H t2 (.lst [V.str "call", V.str "make", V.str "handed"]) = H2 at S2
    refine ⟨_, rfl, _, _, _, _, rfl, rfl, SqX (mvS S2 ha), at_of rfl rfl, rfl, _, rfl, ifT (by decide) ?_⟩
    refine ⟨_, rfl, _, _, _, _, rfl, rfl, SqX (mvS S2 ha), at_of rfl rfl, (by show 1 ≤ sizeLine; decide), fun p1 np1 => ?_⟩
    have S3 := S2.trans (same_new np1 (.lst [v]))
    have e3 : (upd H2 p1 (.lst [v])) p1 = some (.lst [v]) := upd_same
    generalize upd H2 p1 (.lst [v]) = H3 at S3 e3
    refine ⟨_, rfl, _, _, _, _, rfl, rfl, SqX (mvS S3 ha), at_of rfl rfl, g, _, rfl, .inr (SqX (mvS S3 hg)), fun p2 np2 => ?_⟩
    refine ⟨p1, p2, _, _, rfl, rfl, (same_new np2 _) _ _ e3, upd_same, ?_, fun r nr => ?_⟩
    · show 1 + vs.length ≤ sizeLine
      rw [List.length_cons] at hl
      exact Nat.le_of_lt (line5 (by omega))
    · have S4 := S3.trans (same_new np2 (.lst vs))
      exact q r _ (S4.free nr) upd_same (S4.trans (same_new nr _))
  | last w L b ys e h2 h3 hb hp =>
    subst e hp
    refine ⟨_, rfl, _, _, _, _, rfl, rfl, SqT.of ha, at_head, (by show 3 ≤ sizeLine; decide), fun t2 n2 => ⟨t2, _, rfl, .inl (SqL.of upd_same), rfl, rfl, _, rfl, ifF h2 ?_⟩⟩
    have S2 := same_new n2 (.lst [V.str "call", V.str "make", V.str "handed"])
    generalize upd H t2 (.lst [V.str "call", V.str "make", V.str "handed"]) = H2 at S2
    refine ⟨_, rfl, _, _, _, _, rfl, rfl, SqX (mvS S2 ha), at_head, rfl, _, rfl, ifF h3 ?_⟩
    obtain ⟨c1, c2⟩ := cut_last (K := V.str w :: L) (v := V.ref b) (by simp)
    refine ⟨_, rfl, _, rfl, _, rfl, _, _, rfl, SqX (mvS S2 ha), fun z => absurd z c1, fun _ p np => ?_⟩
    rw [c2]
    have S3 := S2.trans (same_new np (.tup [V.ref b]))
    have hp3 : (upd H2 p (.tup [V.ref b])) p = some (.tup [V.ref b]) := upd_same
    generalize upd H2 p (.tup [V.ref b]) = H3 at S3 hp3
    refine ⟨p, rfl, ⟨_, SqT.of hp3⟩, fun D nD => lc_tup (xs := [V.ref b]) (PoneB H3 D [V.ref b]) ?_ ?_ ?_ ?_⟩
    · exact ⟨same_new nD _, upd_same⟩
    · exact fun i H4 _ p4 => SqT.of (p4.1 _ _ hp3)
    · intro i x H4 hx p4
      have hi : i < 1 := (List.getElem?_eq_some_iff.mp hx).1
      have ei : i = 0 := by omega
      subst ei
      have ex : V.ref b = x := Option.some.inj hx
      subst ex
      refine ⟨rfl, _, rfl, _, _, _, _, _, rfl, .ty "tuple", .base (.tup (p4.1 _ _ (S3 _ _ hb))), kit_ty (r := true) (by decide +kernel), _, rfl, ?_⟩
      refine iteT ⟨_, rfl, _, p4.2, (by show 0 < sizeLine; decide), Same.atNew p4.1 nD, ?_⟩
      rw [upd_same]
      rfl
    · intro H4 p4
      exact q D _ (S3.free nD) p4.2 (S3.trans p4.1)
end
end My
namespace My
open PySem PySem.Spec PyProof.Rows L2
/-! name = {k: v for ..}, the name a local -/
theorem sw_dict {kx vx : Expr} {gs : List Comprehension} {scope : Scope} {pos py : Pos} {y : Str} {l : Nat} {env : Env} (hk : env.scope.kind = .function) (hy : env.scope.names.lookup y = some .local) (hl : (py.line == pos.line) = true)
    (ha : (scope.names.any fun (n, k) => n == y && (k == .local || k == .cell)) = false) : swapsWith (.DictComp kx vx gs scope pos) (some (.Name y py)) l env = pure true := by
  have e1 : env.kindOf y = some .local := hy
  have e2 : env.blockKind = .function := by
    unfold Env.blockKind
    rw [hk]
    rfl
  unfold swapsWith; simp only [e2, e1, ha, Expr.pos, hl]; rfl
section
variable {X : Cx}
theorem ps_setDc {i : Nat} {y : Str} {py : Pos} {kx vx tg iter : Expr} {ifs : List Expr} {scope : Scope} {own : List (Str × Nat)} {pos spos : Pos} {wi : TI} {g : TG} {tt : TT} {tk tv : TE} (hc : X.calm = true) (hN : X.N.Nodup) (hy : X.N[i]? = some y) (hyl : X.env.scope.names.lookup y = some .local)
    (hsw : swapsWith (.DictComp kx vx [⟨tg, iter, ifs, 0⟩] scope pos) (some (.Name y py)) spos.line X.env = pure true) (hi : PI X tg iter wi) (ok : BlkOk X.N X.env.scope scope own)
    (hg : ∀ (s : Shared) (H : Hp) (C : Addr) (cl : List (Str × Addr)) (fp : List Addr), PG (X.blk s H scope (compEnvC scope cl C X.env) fp) tg g) (ht : ∀ (s : Shared) (H : Hp) (C : Addr) (cl : List (Str × Addr)) (fp : List Addr), PTs (X.blk s H scope (compEnvC scope cl C X.env) fp) ifs tt)
    (hk : ∀ (s : Shared) (H : Hp) (C : Addr) (cl : List (Str × Addr)) (fp : List Addr), PE (X.blk s H scope (compEnvC scope cl C X.env) fp) kx tk)
    (he : ∀ (s : Shared) (H : Hp) (C : Addr) (cl : List (Str × Addr)) (fp : List Addr), PE (X.blk s H scope (compEnvC scope cl C X.env) fp) vx tv) (hs : ∀ x, foldedSetIterable iter X.env x = pure x := by intro _; rfl) :
    PS X (.Assign [.Name y py] (.DictComp kx vx [⟨tg, iter, ifs, 0⟩] scope pos) spos) (tAsg (tDc wi g tt tk tv (own.map (·.2))) (gName i)) := by
  refine ⟨fun pins s σ H D I h => ?_⟩; rw [exec_Assign_Name_used _ _ _ _ hsw]
  refine wpAny_bind (wpAny_standAt (wpAny_bind ?_)); show wpAny _ X.A (do let _ ← comprehension (.DictComp kx vx [⟨tg, iter, ifs, 0⟩] scope pos) scope X.env (firstIterPos [⟨tg, iter, ifs, 0⟩] pos) newDict false (eval iter X.env) (some (assign (.Name y py) X.env))) _ _ s
  have h : tDc wi g tt tk tv (own.map (·.2)) σ H (fun x H1 => gName i x σ H1 D.nx) := h
  refine wpAny_bind (thn (dc_core (Qf := fun _ s' => SP X pins D .next s') hc hN I hi ok hg ht hk he hs h fun L C s1 m H1 I1 q1 n1 fp1 => ?_) fun _ s' hq => wpAny_pure (wpAny_pure hq))
  show wpAny _ _ (assign (.Name y py) X.env (.ref L)) _ _ _
  obtain ⟨f0, f1, f2, f3, f4, f5⟩ := fp1
  refine wpAny_assign_Name (store_ok2 (v := V.ref L) I1 hN hy (.inl hyl) rfl (fun s2 I2 ⟨a, sb, ha⟩ => ?_) (.inr hyl))
  have far : C ≠ a := ha.elim (fun z => by rw [z]; exact f1) fun z e => f4 y a z e.symm
  exact ⟨m, n1.sameBut sb far, fun h3 sb3 => ⟨_, H1, I2.turned (t' := s2.toks) (fun b o hb e => (sb3.2 b hb).trans e) f0 f1 f3 f4 f5, q1⟩⟩
end
end My
namespace My
open PySem PySem.Spec PyProof.Rows L2 NdefX LamX
def Hd.wrd : Hd → Str
  | .num _ => "num" | .text _ => "text" | .hole _ => "hole" | .call _ _ => "call" | .make _ _ => "make" | .get _ => "get" | .bare _ _ => "case" | .case _ _ => "case"
  | .as_ _ => "as" | .look _ => "look" | .one => "one" | .answer _ => "answer" | .ask => "ask" | .handed _ _ _ _ => "handed"
theorem NdAt.wrd_at {H : Hp} {u : V} {h : Hd} {ps : List V} (n : NdAt H u h ps) : ∃ a r, u = .ref a ∧ H a = some (.tup (.str h.wrd :: r)) := by
  cases n <;> exact ⟨_, _, rfl, ‹_›⟩
section
variable {P : Program} {w : World} {K : PySem.W.Frag} {mg : Str → Option Value} {base : Heap}
/-- a def whose code object is told, that may raise -/
theorem FunC.okX {x qual : Str} {st : Stmt} {f : Addr} {fd : FuncData} {c : Addr} {N ps : List Str} {k : Nat} {sp : Sp} (F : FunC K x qual st f fd c) (S : FnScope N ps (defScope st)) (len : ∀ vs H Q E, sp vs H Q E → vs.length = ps.length)
    (hbody : ∀ (A : Around) (outer : List Env) (s : Shared) (H : Hp) (vs : List V) (Q : VK) (E : XK), Room k (A.deeper (envOfC qual (defScope st) s.heap.objs.size f (.ref c))) → sp vs H Q E →
      ∃ t, PSs (cxOf (L2.CX P w) P w K mg base N qual (defScope st) f (.ref c) A outer s H E) (defBody st) t ∧ t { nx := fun _ H' => Q .non H', rt := Q } (start N vs) H) : FnOk P w K mg base (L2.CX P w) (k + 1) f fd ps sp := by
  obtain ⟨oc, od, kV, doc, pm, an, ct, osl, rfl, lk, hcd⟩ := F.ex
  exact fn_of lk hcd S len fun A outer s H vs Q E hr hsp => hbody A outer s H vs Q E hr hsp
noncomputable def argm (ns : List Str) (ts : List Tm) (x : Str) : Option Tm := ((ns.zip ts).find? fun p => decide (p.1 = x)).map (·.2)
/-- arguments as a dict -/
theorem args_kvs {H : Hp} {qs ps : List V} {ns : List Str} (h : ArgsAt H qs ns ps) : ∃ (as : List Addr), qs = as.map V.ref ∧ Paired (fun p (kv : Key × V) => SqT K H p [kV kv.1, kv.2]) as ((ns.zip ps).map fun q => ((Sum.inr q.1 : Key), q.2)) := by
  induction h with
  | nil => exact ⟨[], rfl, .nil⟩
  | @cons b x p qs ps ns h _ ih =>
    obtain ⟨as, e, z⟩ := ih
    exact ⟨b :: as, by rw [e]; rfl, .cons (SqT.of h) z⟩
theorem args_val {H : Hp} {y : Str} : ∀ {ns : List Str} {ps : List V} {ts : List Tm}, ns.length = ps.length → TmsAt H ps ts → y ∈ ns → ∃ u s, valV ((ns.zip ps).map fun q => ((Sum.inr q.1 : Key), q.2)) (Sum.inr y : Key) = some u ∧ argm ns ts y = some s ∧ TmAt H u s
  | [], _, _, _, _, m => nomatch m
  | x :: ns, [], _, l, _, _ => nomatch l
  | x :: ns, p :: ps, _, l, .cons (t := t) (ts := ts) a r, m => by
    by_cases c : x = y
    · subst c
      refine ⟨p, t, ?_, ?_, a⟩
      · simp [valV]
      · simp [argm]
    · have m2 : y ∈ ns := (List.mem_cons.mp m).resolve_left fun z => c z.symm
      obtain ⟨u, s, e1, e2, h⟩ := args_val (Nat.succ.inj l) r m2
      refine ⟨u, s, ?_, ?_, h⟩
      · rw [← e1]
        have c2 : ¬ ((Sum.inr x : Key) = Sum.inr y) := fun z => c (Sum.inr.inj z)
        simp [valV, c2]
      · rw [← e2]
        simp [argm, c]
end
/-- a def that may raise -/
structure CalX (P : Program) (w : World) (K : PySem.W.Frag) (mg : Str → Option Value) (base : Heap) (x : Str) (n : Nat) (ps : List Str) (sp : Sp) : Prop where
  ex : ∃ (f : Addr) (fd : FuncData), FnOk P w K mg base (L2.CX P w) n f fd ps sp ∧ mg x = some (.ref f) ∧ PySem.W.keepIn K (.ref f) = true ∧ Binds K fd ps []
theorem pcx {X : Cx} {x : Str} {n : Nat} {ps : List Str} {sp : Sp} {es : List Expr} {e : Expr} {t : TA} {p pos : Pos} {W : WX} (C : CalX X.prog X.w X.K X.mg X.base x n ps sp) (hr : Room n X.A) (tk : Takes X W) (ha : PA X (e :: es) t) (hg : Gl X x := by rfl)
    (hdb : (x == ("__debug__" : Str)) = false := by decide) (he : starEach (e :: es) X.env = (false, eval e X.env) :: starEach es X.env := by rfl) (hpl : (backTo pos (starEach es X.env)).any (·.1) = false := by rfl) :
    PE X (.Call (.Name x p) (e :: es) [] pos) (tCallS sp (WE W) t) := by
  obtain ⟨f, fd, F, hm, hk, hb⟩ := C.ex
  exact pe_callS F hr hg hm hk hb (fun σ => passAt tk σ) ha hdb he hpl
theorem merge_self : ∀ {more kvs : List (Key × V)}, ((kvs ++ more).map (·.1)).Nodup → mergeK kvs more = kvs ++ more
  | [], kvs, _ => by simp [mergeK]
  | x :: more, kvs, nd => by
    have hn : ¬ (kvs.any fun kv => decide (kv.1 = x.1)) = true := fun h => by
      obtain ⟨kv, hm, e⟩ := List.any_eq_true.mp h
      rw [List.map_append, List.nodup_append] at nd
      exact nd.2.2 _ (List.mem_map_of_mem hm) _ (List.mem_map_of_mem List.mem_cons_self) (of_decide_eq_true e)
    show mergeK (putK kvs x.1 x.2) more = _
    have e1 : putK kvs x.1 x.2 = kvs ++ [x] := by unfold putK; rw [if_neg hn]
    rw [e1, merge_self (by rw [List.append_assoc]; exact nd), List.append_assoc]
    rfl
theorem putK_new {kvs : List (Key × V)} {x : Str} {v : V} (h : valV kvs (Sum.inr x : Key) = none) : putK kvs (Sum.inr x : Key) v = kvs ++ [(Sum.inr x, v)] := by
  unfold putK
  have e : (kvs.any fun kv => decide (kv.1 = (Sum.inr x : Key))) = false := by
    unfold valV at h
    rw [Option.map_eq_none_iff, List.find?_eq_none] at h
    rw [List.any_eq_false]
    intro p hp
    exact fun z => h p hp z
  rw [e]
  rfl
theorem nodup_take_not {α : Type} {l : List α} (nd : l.Nodup) {i : Nat} {x : α} (h : l[i]? = some x) : x ∉ l.take i := fun hm => by
  obtain ⟨j, hj⟩ := List.getElem?_of_mem hm
  have hji : j < i := by
    have := (List.getElem?_eq_some_iff.mp hj).1
    rw [List.length_take] at this
    omega
  rw [List.getElem?_take_of_lt hji] at hj
  have := nd_ix nd hj h
  omega
/-- over a list: Pv by the turn and the heap (the new dict at D within) -/
theorem dc_lst {K : PySem.W.Frag} {a : Addr} {xs : List V} {g : TG} {tt : TT} {tk tv : TE} {vs : List Nat} {σ : L2.St} {H1 : Hp} {D : Addr} {Qd : Hp → Prop} (Pv : Nat → Hp → Prop) (h0 : Pv 0 (upd H1 D (.dK []))) (hl : ∀ i H, i ≤ xs.length → Pv i H → SqL K H a xs)
    (hs : ∀ i x H, xs[i]? = some x → Pv i H → g x (wipe σ vs) H fun σ2 H2 => wipe σ2 vs = wipe σ vs ∧ tt σ2 H2 fun b H3 =>
      if b = true then tk σ2 H3 fun y H4 => tv σ2 H4 fun z H5 => ∃ kvs k, y = kV k ∧ H5 D = some (.dK kvs) ∧ kvs.length < sizeLine ∧ Pv (i + 1) (upd H5 D (.dK (putK kvs k z))) else Pv (i + 1) H3) (hd : ∀ H, Pv xs.length H → Qd H) :
    ∃ W : Nat → Nat → Hp → Prop, (∃ m, W 0 m (upd H1 D (.dK []))) ∧ ∀ i m H, W i m H →
      ((Itl K a).stop i H ∧ Qd H) ∨ ((Itl K a).go i H ∧ ∃ Nx : Hp → Prop, (∀ H', Nx H' → ∃ m', m' < m ∧ W (i + 1) m' H') ∧ ∀ x H', (Itl K a).yld i H x H' → g x (wipe σ vs) H' fun σ2 H2 => wipe σ2 vs = wipe σ vs ∧ tt σ2 H2 fun b H3 =>
        if b = true then tk σ2 H3 fun y H4 => tv σ2 H4 fun z H5 => ∃ kvs k, y = kV k ∧ H5 D = some (.dK kvs) ∧ kvs.length < sizeLine ∧ Nx (upd H5 D (.dK (putK kvs k z))) else Nx H3) := by
  refine ⟨fun i m H => m = xs.length - i ∧ i ≤ xs.length ∧ Pv i H, ⟨xs.length, by simp, Nat.zero_le _, h0⟩, fun i m H w => ?_⟩
  obtain ⟨rfl, hi, p⟩ := w
  have q := hl i H hi p
  by_cases c : i < xs.length
  · refine .inr ⟨⟨xs, xs[i], q, List.getElem?_eq_getElem c⟩, Pv (i + 1), fun H' p' => ⟨xs.length - (i + 1), by omega, rfl, c, p'⟩, fun x H' y => ?_⟩
    obtain ⟨e, y⟩ := y
    subst e
    exact hs i x H' (y xs q) p
  · have e : i = xs.length := by omega
    subst e
    exact .inl ⟨⟨xs, q, Nat.le_refl _⟩, hd H p⟩
theorem tups_updD {H : Hp} {p : Addr} {kvs : List (Key × V)} {o : HO} (h : H p = some (.dK kvs)) : Tups H (upd H p o) := ⟨fun a ys e => by
  rw [upd_ne (fun z => by rw [z, h] at e; cases e)]
  exact e, fun a u ys e => by
  rw [upd_ne (fun z => by rw [z, h] at e; cases e)]
  exact e⟩
structure CalEN (P : Program) (w : World) (K : PySem.W.Frag) (mg : Str → Option Value) (base : Heap) (x : Str) (n : Nat) (ps ks : List Str) (gV : List V → List V → List V) (sp : Sp) : Prop where
  ex : ∃ (f : Addr) (fd : FuncData) (g : List Value → List Value → List Value), FnOk P w K mg base (L2.CX P w) n f fd ps sp ∧ mg x = some (.ref f) ∧ PySem.W.keepIn K (.ref f) = true ∧ KBinds K fd ps ks g gV
theorem run_kwAt {X : Cx} {f : Addr} {fd : FuncData} {CX : CXT} {k : Nat} {ps ks : List Str} {sp : Sp} {g : List Value → List Value → List Value} {gV : List V → List V → List V} {E : XK} {pins : List (Addr × Obj)} {σ : L2.St} {H : Hp} {s : Shared} {Q : VK} {ws : List Value} {zs : List V}
    (F : FnOk X.prog X.w X.K X.mg X.base CX k f fd ps sp) (room : Room k X.A) (kb : KBinds X.K fd ps ks g gV) (px : PassesAt CX X σ E) (I : Inv X pins σ H s) (rz : Vals zs ws) (h : sp (gV [] zs) H Q E) : wpAny (model X.prog X.w) X.A (call (.ref f) [] (ks.zip ws)) (EP X pins σ Q) X.xe s := by
  have rv : Vals (gV [] zs) (g [] ws) := kb.rel .nil rz
  have size : (g [] ws).length = ps.length := rv.length.symm.trans (F.len _ _ _ _ h)
  have run := F.run X.A X.stack s H ⟨[], ks.zip ws⟩ (g [] ws) (gV [] zs) Q E room I.env0 (kb.to s [] ws I.kIn size) rv h
  refine wpAny_call (codeAny_mono run fun out s' post => ?_)
  match out, post with
  | .error er, post => exact px pins H s er s' I post
  | .ok (.ret u), post => exact I.after post
  | .ok .next, post => exact post.elim
  | .ok .brk, post => exact post.elim
  | .ok .cont, post => exact post.elim
theorem pckE {X : Cx} {x : Str} {n : Nat} {ps ks : List Str} {sp : Sp} {gV : List V → List V → List V} {kws : List Keyword} {tk : TA} {p pos : Pos} {W : WX} (C : CalEN X.prog X.w X.K X.mg X.base x n ps ks gV sp) (hr : Room n X.A) (tw : Takes X W) (hkw : PK X kws tk) (hg : Gl X x := by rfl)
    (hdb : (x == ("__debug__" : Str)) = false := by decide)
    (hall : (backToKw pos (keywordEach kws X.env)).all (·.1.isSome) = true := by rfl)
    (hks : (backToKw pos (keywordEach kws X.env)).filterMap (·.1) = ks := by rfl)
    (hpl : ((backTo pos (starEach [] X.env)).any (·.1) || (backToKw pos (keywordEach kws X.env)).any (·.1.isNone)) = false := by rfl) :
    PE X (.Call (.Name x p) [] kws pos) (fun σ H Q => tk σ H fun zs H2 => sp (gV [] zs) H2 Q (WE W σ)) := by
  obtain ⟨f, fd, g, F, hm, hk, hb⟩ := C.ex
  refine ⟨fun pins s σ H Q I h => ?_⟩
  refine wpAny_Call_Name_kw (ld_glob I hg hm ?_ hdb)
  refine PySem.W.callWith_KW0 (h₀ := X.base) I.ok.mod.kin hk hall ?_ hpl
  refine thn (hkw.run pos pins s σ H _ I h) fun ws s2 ⟨zs, H2, I2, rz, q2⟩ => ⟨I2.kIn, ?_⟩
  rw [hks]
  exact run_kwAt F hr hb (passAt tw σ) I2 rz q2
end My
namespace My
open PySem L2 NdefX LamX
/-! _law_parts_and: a term with other parts, some of them nothing at all -/
def PrsAt (H : Hp) (rvs us : List V) : Prop := rvs.length = us.length ∧ ∀ (i : Nat) (u : V), us[i]? = some u → ∃ (c : Addr) (b : V), rvs[i]? = some (.ref c) ∧ H c = some (.tup [u, b])
theorem PrsAt.mono {H H' : Hp} (t : Tups H H') {rvs us : List V} (h : PrsAt H rvs us) : PrsAt H' rvs us := ⟨h.1, fun i u e => by
  obtain ⟨c, b, e1, e2⟩ := h.2 i u e
  exact ⟨c, b, e1, t _ _ e2⟩⟩
/-- with parts that may be nothing: a term where all are terms; a call's, whatever they are -/
def NdW (H : Hp) (r : V) (h : Hd) (us : List V) : Prop := (∃ a k, r = .ref a ∧ H a = some (.tup (.str h.wrd :: k))) ∧ ((∀ u ∈ us, ∃ b, u = V.ref b) → NdAt H r h us) ∧ ∀ x ns, h = .call x ns → NdAt H r h us
theorem NdW.of {H : Hp} {r : V} {h : Hd} {us : List V} (n : NdAt H r h us) : NdW H r h us := ⟨n.wrd_at, fun _ => n, fun _ _ _ => n⟩
theorem NdW.mono {H H' : Hp} (t : Tups H H') {r : V} {h : Hd} {us : List V} (n : NdW H r h us) : NdW H' r h us := by
  obtain ⟨⟨a, k, e, ha⟩, n1, n2⟩ := n
  exact ⟨⟨a, k, e, t _ _ ha⟩, fun z => (n1 z).mono t, fun x ns e => (n2 x ns e).mono t⟩
/-- the heads with parts that are drawn -/
def Hd.few : Hd → Prop
  | .call .. => True | .make .. => True | .handed .. => True | .ask => True | .get _ => True | .one => True | .answer _ => True
  | _ => False
inductive WrF (H : Hp) (h : Hd) (ps us : List V) : V → Prop
  | cm (w x : Str) (g a : Addr) (qs : List V) (ns : List Str) (ha : H a = some (.tup [.str w, .str x, .ref g])) (hw : inV (.str w) [.str "call", .str "make"] = true) (hg : FzT H g qs) (hq : ArgsAt H qs ns ps)
      (mk : ∀ H' a' g' qs', H' a' = some (.tup [.str w, .str x, .ref g']) → FzT H' g' qs' → ArgsAt H' qs' ns us → NdAt H' (.ref a') h us) : WrF H h ps us (.ref a)
  | hd_ (x p : Str) (i : Int) (g a : Addr) (qs : List V) (ns : List Str) (ha : H a = some (.tup [.str "handed", .str x, .str p, .int i, .ref g])) (hg : FzT H g qs) (hq : ArgsAt H qs ns ps)
      (mk : ∀ H' a' g' qs', H' a' = some (.tup [.str "handed", .str x, .str p, .int i, .ref g']) → FzT H' g' qs' → ArgsAt H' qs' ns us → NdAt H' (.ref a') h us) : WrF H h ps us (.ref a)
  | ask (a : Addr) (v : V) (g : Addr) (e : h = .ask) (ha : H a = some (.tup [.str "ask", v, .ref g])) : WrF H h ps us (.ref a)
  | last (w : Str) (L : List V) (b a : Addr) (ha : H a = some (.tup ((.str w :: L) ++ [.ref b]))) (lL : L.length ≤ 3) (ew : h.wrd = w) (lp : ps.length = 1) (h2 : inV (.str w) [.str "call", .str "make"] = false) (h3 : decide (V.str w = .str "handed") = false) (h4 : decide (V.str w = .str "ask") = false)
      (nc : ∀ x ns, h ≠ .call x ns) (mk : ∀ H' a' b', H' a' = some (.tup ((.str w :: L) ++ [.ref b'])) → NdAt H' (.ref a') h [.ref b']) : WrF H h ps us (.ref a)
theorem NdAt.wrF {H : Hp} {v : V} {h : Hd} {ps us : List V} (n : NdAt H v h ps) (ne : ps ≠ []) (few : h.few) : WrF H h ps us v := by
  cases n with
  | num _ => exact few.elim
  | text _ => exact few.elim
  | hole _ => exact few.elim
  | bare _ => exact few.elim
  | case _ => exact few.elim
  | as_ _ => exact few.elim
  | look _ _ => exact few.elim
  | call h hg hq => exact .cm "call" _ _ _ _ _ h rfl hg hq fun H' a' g' qs' h1 h2 h3 => .call h1 h2 h3
  | make h hg hq => exact .cm "make" _ _ _ _ _ h rfl hg hq fun H' a' g' qs' h1 h2 h3 => .make h1 h2 h3
  | handed h hg hq => exact .hd_ _ _ _ _ _ _ _ h hg hq fun H' a' g' qs' h1 h2 h3 => .handed h1 h2 h3
  | ask h hg => exact .ask _ _ _ rfl h
  | get h => exact .last "get" [_] _ _ h (by simp) rfl rfl rfl (by decide) (by decide) (fun _ _ => nofun) fun H' a' b' h1 => .get h1
  | one h => exact .last "one" [] _ _ h (by simp) rfl rfl rfl (by decide) (by decide) (fun _ _ => nofun) fun H' a' b' h1 => .one h1
  | answer h => exact .last "answer" [_] _ _ h (by simp) rfl rfl rfl (by decide) (by decide) (fun _ _ => nofun) fun H' a' b' h1 => .answer h1
def spPa : Sp := fun vs H Q _ => ∃ (v : V) (l : Addr) (h : Hd) (ps us rvs : List V), vs = [v, .ref l] ∧ NdAt H v h ps ∧ H l = some (.lst rvs) ∧ PrsAt H rvs us ∧ us.length = ps.length ∧ ps ≠ [] ∧ ps.length ≤ 900 ∧ h.few ∧
  ∀ r H', NdW H' r h us → Same H H' → Q r H'
def Psm (H0 : Hp) (D : Addr) (us : List V) (i : Nat) (H : Hp) : Prop := Same H0 H ∧ H D = some (.lst (us.take i))
section
variable {P : Program} {w : World} {K : PySem.W.Frag} {mg : Str → Option Value} {base : Heap} {f : Addr} {fd : FuncData}
set_option maxHeartbeats 1600000 in
theorem ok_pa (B : Bn mg) (F : Fun K "_law_parts_and" "_law_parts_and" s__law_parts_and f fd) : FnOk P w K mg base CX0 1 f fd ["prog", "change"] spPa := by
  refine F.ok sc__law_parts_and (fun vs H Q E h => ?_) (fun cdv A outer s H vs Q E hr h => ?_)
  · obtain ⟨v, l, h, ps, us, rvs, rfl, _⟩ := h
    rfl
  obtain ⟨v, l, h, ps, us, rvs, rfl, nd, hl, pr, lu, nps, l900, few, q⟩ := h
  have lr := pr.1
  refine ⟨_, (pss_cons (ps_if (pt_cmpR (inSeq K rfl) (pe_ix (ixT K rfl) (pv 0) pe_int (fun _ _ => rfl)) (pe_lst (pa_cons pe_str (pa_cons pe_str pa_nil))) (by rfl)) (pss_cons (ps_set (i := 2) sc__law_parts_and.nd rfl (Or.inr rfl) (pe_lc (own := [("k", 3)]) (g := (gName 3)) rfl sc__law_parts_and.nd (pi_range1 rfl B.b_range (pa_cons (pe_callB (lenSeq K rfl) (by rfl) B.b_len PySem.boot_len (pa_cons (pv 1) pa_nil)) pa_nil)) (blkOk_by (N := ["prog", "change", "some", "k", "one"]) (sc := defScope s__law_parts_and) (by decide +kernel)) (fun _ _ _ _ _ => (pg_name (i := 3) sc__law_parts_and.nd rfl (Or.inl rfl) (hf := Or.inr rfl))) (fun _ _ _ _ _ => pts_nil) (fun _ _ _ _ _ => (pe_ix (ixT K rfl) (pe_ix (ixL K rfl) (pv 1) (pv 3) (fun _ _ => rfl)) pe_int (fun _ _ => rfl)))))
    (pss_one (ps_ret (pe_op (catT K rfl) (pe_slice (slT K rfl) (pv 0) po_none (po_some pe_int)) (pe_tup (pa_cons (pe_callTy (tupleOfF K rfl) (by rfl) B.b_tuple (by decide +kernel) (pa_cons (pe_lc (own := [("k", 3)]) (g := (gName 3)) rfl sc__law_parts_and.nd (pi_range1 rfl B.b_range (pa_cons (pe_callB (lenSeq K rfl) (by rfl) B.b_len PySem.boot_len (pa_cons (pv 2) pa_nil)) pa_nil)) (blkOk_by (N := ["prog", "change", "some", "k", "one"]) (sc := defScope s__law_parts_and) (by decide +kernel)) (fun _ _ _ _ _ => (pg_name (i := 3) sc__law_parts_and.nd rfl (Or.inl rfl) (hf := Or.inr rfl))) (fun _ _ _ _ _ => pts_nil) (fun _ _ _ _ _ => (pe_tup (pa_cons (pe_ix (ixT K rfl) (pe_ix (ixT K rfl) (pe_ix (ixT K rfl) (pv 0) pe_int (fun _ _ => rfl)) (pv 3) (fun _ _ => rfl)) pe_int (fun _ _ => rfl)) (pa_cons (pe_ix (ixL K rfl) (pv 2) (pv 3) (fun _ _ => rfl)) pa_nil))))) pa_nil)) pa_nil)))))) pss_nil)
    (pss_cons (ps_if (pt_cmpR op_eq (pe_ix (ixT K rfl) (pv 0) pe_int (fun _ _ => rfl)) pe_str (nomark _)) (pss_one (ps_ret (pe_op (catT K rfl) (pe_slice (slT K rfl) (pv 0) po_none (po_some pe_int)) (pe_tup (pa_cons (pe_callTy (tupleOfF K rfl) (by rfl) B.b_tuple (by decide +kernel) (pa_cons (pe_lc (own := [("k", 3)]) (g := (gName 3)) rfl sc__law_parts_and.nd (pi_range1 rfl B.b_range (pa_cons (pe_callB (lenSeq K rfl) (by rfl) B.b_len PySem.boot_len (pa_cons (pv 1) pa_nil)) pa_nil)) (blkOk_by (N := ["prog", "change", "some", "k", "one"]) (sc := defScope s__law_parts_and) (by decide +kernel)) (fun _ _ _ _ _ => (pg_name (i := 3) sc__law_parts_and.nd rfl (Or.inl rfl) (hf := Or.inr rfl))) (fun _ _ _ _ _ => pts_nil) (fun _ _ _ _ _ => (pe_tup (pa_cons (pe_ix (ixT K rfl) (pe_ix (ixT K rfl) (pe_ix (ixT K rfl) (pv 0) pe_int (fun _ _ => rfl)) (pv 3) (fun _ _ => rfl)) pe_int (fun _ _ => rfl)) (pa_cons (pe_ix (ixT K rfl) (pe_ix (ixL K rfl) (pv 1) (pv 3) (fun _ _ => rfl)) pe_int (fun _ _ => rfl)) pa_nil))))) pa_nil)) pa_nil))))) pss_nil)
    (pss_cons (ps_if (pt_cmpR op_eq (pe_ix (ixT K rfl) (pv 0) pe_int (fun _ _ => rfl)) pe_str (nomark _)) (pss_one (ps_ret (pe_tup (pa_cons pe_str (pa_cons (pe_ix (ixT K rfl) (pe_ix (ixL K rfl) (pv 1) pe_int (fun _ _ => rfl)) pe_int (fun _ _ => rfl)) (pa_cons (pe_callTy (tupleOf K rfl) (by rfl) B.b_tuple (by decide +kernel) (pa_cons (pe_lc (own := [("one", 4)]) (g := (gName 4)) rfl sc__law_parts_and.nd (piL K rfl (pe_slice (slL K rfl) (pv 1) (po_some pe_int) po_none)) (blkOk_by (N := ["prog", "change", "some", "k", "one"]) (sc := defScope s__law_parts_and) (by decide +kernel)) (fun _ _ _ _ _ => (pg_name (i := 4) sc__law_parts_and.nd rfl (Or.inl rfl) (hf := Or.inr rfl))) (fun _ _ _ _ _ => pts_nil) (fun _ _ _ _ _ => (pe_ix (ixT K rfl) (pv 4) pe_int (fun _ _ => rfl)))) pa_nil)) pa_nil)))))) pss_nil)
    (pss_one (ps_ret (pe_op (catT K rfl) (pe_slice (slT K rfl) (pv 0) po_none (po_some (pe_un un_neg pe_int))) (pe_tup (pa_cons (pe_ix (ixT K rfl) (pe_ix (ixL K rfl) (pv 1) pe_int (fun _ _ => rfl)) pe_int (fun _ _ => rfl)) pa_nil)))))))), ?_⟩
  have at_head : ∀ {w : Str} {L : List V} {v : V}, atI ((V.str w :: L) ++ [v]) 0 = some (.str w) := at_of rfl rfl
  have two : ∀ {x y z : V}, cutV [x, y, z] none (some 2) = [x, y] := fun {x y z} => by
    unfold cutV HT.sIx
    simp
  have four : ∀ {x y z u t : V}, cutV [x, y, z, u, t] none (some 4) = [x, y, z, u] := fun {x y z u t} => by
    unfold cutV HT.sIx
    simp
  cases nd.wrF (us := us) nps few with
  | cm w x g a qs ns ha hw hg hq mk =>
    refine ⟨_, rfl, _, _, _, _, rfl, rfl, SqT.of ha, at_of (j := 0) rfl rfl, (by show 2 ≤ sizeLine; decide), fun t2 n2 => ⟨t2, _, rfl, .inl (SqL.of upd_same), rfl, rfl, _, rfl, ifT hw ?_⟩⟩
    have s1 := same_new n2 (.lst [V.str "call", V.str "make"])
    generalize upd H t2 (.lst [V.str "call", V.str "make"]) = H1 at s1 ⊢
    have hl1 := s1 _ _ hl
    have pr1 := pr.mono (Tups.of_same s1)
    refine ⟨_, rfl, l, _, rfl, .inl (SqL.of hl1), _, rfl, by omega, by omega, fun D nD => lc_range (lo := 0) (n := ((rvs.length : Nat) : Int).toNat) (Psm H1 D us) ?_ ?_ ?_⟩
    · exact ⟨same_new nD _, upd_same⟩
    · rintro i H2 hi ⟨s2, hD⟩
      obtain ⟨u, hu⟩ : ∃ u, us[i]? = some u := ⟨_, List.getElem?_eq_getElem (by omega)⟩
      obtain ⟨c, b, e1, e2⟩ := pr1.2 i u hu
      have at0 : atI rvs ((0 : Int) + (i : Int)) = some (.ref c) := by rw [Int.zero_add]; exact atI_nat e1
      refine ⟨rfl, _, rfl, _, rfl, _, _, _, _, rfl, rfl, SqL.of (s2 _ _ hl1), at0, _, _, _, _, rfl, rfl, SqT.of (s2 _ _ e2), at_of (j := 0) rfl rfl, _, hD, line5 (by rw [List.length_take]; omega), Same.atNew s2 nD, ?_⟩
      rw [upd_same, ← take_next hu]
    rintro H2 ⟨s2, hD⟩
    have en : us.take ((rvs.length : Nat) : Int).toNat = us := List.take_of_length_le (by omega)
    rw [en] at hD
    dsimp only [gName]
    have ha2 := (s1.trans s2) _ _ ha
    have hg2 := hg.mono (Tups.of_same (s1.trans s2))
    have hq2 := hq.mono (Tups.of_same (s1.trans s2))
    refine ⟨_, rfl, _, rfl, _, _, rfl, SqT.of ha2, fun z => absurd z (by unfold HT.sIx; simp), fun _ p9 np9 => ?_⟩
    rw [two]
    have s3 := same_new np9 (.tup [V.str w, V.str x])
    have hp9 : (upd H2 p9 (.tup [V.str w, V.str x])) p9 = some (.tup [V.str w, V.str x]) := upd_same
    have hD3 := s3 _ _ hD
    generalize upd H2 p9 (.tup [V.str w, V.str x]) = H3 at s3 hp9 hD3 ⊢
    refine ⟨_, rfl, D, _, rfl, .inl (SqL.of hD3), _, rfl, by omega, by omega, fun D2 nD2 => lc_range (lo := 0) (n := ((us.length : Nat) : Int).toNat) (Pxc H3 D2 ns us) ?_ ?_ ?_⟩
    · exact ⟨same_new nD2 _, [], upd_same, .nil⟩
    · rintro i H4 hi ⟨s4, rs, hD4, ars⟩
      obtain ⟨u, hu⟩ : ∃ u, us[i]? = some u := ⟨_, List.getElem?_eq_getElem (by omega)⟩
      have lq := hq.len
      obtain ⟨qv, hqv⟩ : ∃ v, qs[i]? = some v := ⟨_, List.getElem?_eq_getElem (by omega)⟩
      obtain ⟨b, nm, y0, rfl, hnm, _, hb⟩ := hq2.get i qv hqv
      have T24 := Tups.of_same ((s3.trans s4))
      have at0 : atI qs ((0 : Int) + (i : Int)) = some (.ref b) := by rw [Int.zero_add]; exact atI_nat hqv
      have atu : atI us ((0 : Int) + (i : Int)) = some u := by rw [Int.zero_add]; exact atI_nat hu
      refine ⟨rfl, _, rfl, _, _, _, _, rfl, rfl, SqT.of (T24 _ _ ha2), at_of (j := 2) rfl rfl, _, rfl, _, _, _, _, rfl, rfl, FzT.sq (hg2.mono T24), at0, _, _, _, _, rfl, rfl, SqT.of (T24 _ _ hb), at_of (j := 0) rfl rfl, _, rfl, _, rfl, _, _, _, _, rfl, rfl, SqL.of (s4 _ _ hD3), atu, (by show 2 ≤ sizeLine; decide), fun c nc => ?_⟩
      have s5 := same_new nc (.tup [V.str nm, u])
      have hc5 : (upd H4 c (.tup [V.str nm, u])) c = some (.tup [V.str nm, u]) := upd_same
      have hD5 := s5 _ _ hD4
      have ars5 := ars.mono (Tups.of_same s5)
      generalize upd H4 c (.tup [V.str nm, u]) = H5 at s5 hc5 hD5 ars5 ⊢
      have T6 : Tups H5 (upd H5 D2 (.lst (rs ++ [.ref c]))) := Tups.upd hD5
      have la := ars.len
      refine ⟨_, hD5, line5 (by rw [la.1, List.length_take]; omega), Same.atNew (s4.trans s5) nD2, _, upd_same, ?_⟩
      rw [← take_next hnm, ← take_next hu]
      exact (ars5.mono T6).app (T6 _ _ hc5)
    rintro H4 ⟨s4, rs, hD4, ars⟩
    have lq := hq.len
    rw [show ((us.length : Nat) : Int).toNat = us.length by omega, List.take_length, List.take_of_length_le (by omega)] at ars
    refine ⟨D2, _, rfl, SqL.of hD4, fun g2 ou ng2 eu => ⟨(by show 1 ≤ sizeLine; decide), fun p7 np7 => ?_⟩⟩
    have s5 := same_new ng2 (.frz ou (.tup rs))
    have hg5 : FzT (upd H4 g2 (.frz ou (.tup rs))) g2 rs := ⟨ou, upd_same, eu⟩
    generalize upd H4 g2 (.frz ou (.tup rs)) = H5 at s5 hg5 np7 ⊢
    have s6 := same_new np7 (.tup [V.ref g2])
    have hp7 : (upd H5 p7 (.tup [V.ref g2])) p7 = some (.tup [V.ref g2]) := upd_same
    generalize upd H5 p7 (.tup [V.ref g2]) = H6 at s6 hp7 ⊢
    refine ⟨p9, p7, _, _, rfl, rfl, SqT.of ((s4.trans (s5.trans s6)) _ _ hp9), SqT.of hp7, (by show 3 ≤ sizeLine; decide), (fun z => nomatch z), (fun _ z => nomatch z), fun _ _ r nr => ?_⟩
    have s7 := same_new nr (.tup ([V.str w, V.str x] ++ [V.ref g2]))
    have sAll := ((s1.trans s2).trans s3).trans ((s4.trans s5).trans (s6.trans s7))
    refine q (.ref r) _ (NdW.of (mk _ r g2 rs upd_same (hg5.mono (Tups.of_same (s6.trans s7))) (ars.mono (Tups.of_same (s5.trans (s6.trans s7)))))) sAll
  | hd_ x p i g a qs ns ha hg hq mk =>
    refine ⟨_, rfl, _, _, _, _, rfl, rfl, SqT.of ha, at_of (j := 0) rfl rfl, (by show 2 ≤ sizeLine; decide), fun t2 n2 => ⟨t2, _, rfl, .inl (SqL.of upd_same), rfl, rfl, _, rfl, ifF rfl ?_⟩⟩
    have s1 := same_new n2 (.lst [V.str "call", V.str "make"])
    generalize upd H t2 (.lst [V.str "call", V.str "make"]) = H1 at s1 ⊢
    refine ⟨_, rfl, _, _, _, _, rfl, rfl, SqT.of (s1 _ _ ha), at_of (j := 0) rfl rfl, rfl, _, rfl, ifT (by decide) ?_⟩
    have ha2 := s1 _ _ ha
    have hg2 := hg.mono (Tups.of_same s1)
    have hq2 := hq.mono (Tups.of_same s1)
    have hl1 := s1 _ _ hl
    have pr1 := pr.mono (Tups.of_same s1)
    refine ⟨_, rfl, _, rfl, _, _, rfl, SqT.of ha2, fun z => absurd z (by unfold HT.sIx; simp), fun _ p9 np9 => ?_⟩
    rw [four]
    have s3 := same_new np9 (.tup [V.str "handed", V.str x, V.str p, V.int i])
    have hp9 : (upd H1 p9 (.tup [V.str "handed", V.str x, V.str p, V.int i])) p9 = some (.tup [V.str "handed", V.str x, V.str p, V.int i]) := upd_same
    generalize upd H1 p9 (.tup [V.str "handed", V.str x, V.str p, V.int i]) = H3 at s3 hp9 ⊢
    have hl3 := s3 _ _ hl1
    refine ⟨_, rfl, l, _, rfl, .inl (SqL.of hl3), _, rfl, by omega, by omega, fun D2 nD2 => lc_range (lo := 0) (n := ((rvs.length : Nat) : Int).toNat) (Pxc H3 D2 ns us) ?_ ?_ ?_⟩
    · exact ⟨same_new nD2 _, [], upd_same, .nil⟩
    · rintro i H4 hi ⟨s4, rs, hD4, ars⟩
      obtain ⟨u, hu⟩ : ∃ u, us[i]? = some u := ⟨_, List.getElem?_eq_getElem (by omega)⟩
      have lq := hq.len
      obtain ⟨qv, hqv⟩ : ∃ v, qs[i]? = some v := ⟨_, List.getElem?_eq_getElem (by omega)⟩
      obtain ⟨b, nm, y0, rfl, hnm, _, hb⟩ := hq2.get i qv hqv
      have T24 := Tups.of_same ((s3.trans s4))
      have at0 : atI qs ((0 : Int) + (i : Int)) = some (.ref b) := by rw [Int.zero_add]; exact atI_nat hqv
      obtain ⟨c1, b1, e1, e2⟩ := pr1.2 i u hu
      have atu : atI rvs ((0 : Int) + (i : Int)) = some (.ref c1) := by rw [Int.zero_add]; exact atI_nat e1
      refine ⟨rfl, _, rfl, _, _, _, _, rfl, rfl, SqT.of (T24 _ _ ha2), at_of (j := 4) rfl rfl, _, rfl, _, _, _, _, rfl, rfl, FzT.sq (hg2.mono T24), at0, _, _, _, _, rfl, rfl, SqT.of (T24 _ _ hb), at_of (j := 0) rfl rfl, _, rfl, _, rfl, _, _, _, _, rfl, rfl, SqL.of (s4 _ _ hl3), atu, _, _, _, _, rfl, rfl, SqT.of (T24 _ _ e2), at_of (j := 0) rfl rfl, (by show 2 ≤ sizeLine; decide), fun c nc => ?_⟩
      have s5 := same_new nc (.tup [V.str nm, u])
      have hc5 : (upd H4 c (.tup [V.str nm, u])) c = some (.tup [V.str nm, u]) := upd_same
      have hD5 := s5 _ _ hD4
      have ars5 := ars.mono (Tups.of_same s5)
      generalize upd H4 c (.tup [V.str nm, u]) = H5 at s5 hc5 hD5 ars5 ⊢
      have T6 : Tups H5 (upd H5 D2 (.lst (rs ++ [.ref c]))) := Tups.upd hD5
      have la := ars.len
      refine ⟨_, hD5, line5 (by rw [la.1, List.length_take]; omega), Same.atNew (s4.trans s5) nD2, _, upd_same, ?_⟩
      rw [← take_next hnm, ← take_next hu]
      exact (ars5.mono T6).app (T6 _ _ hc5)
    rintro H4 ⟨s4, rs, hD4, ars⟩
    have lq := hq.len
    rw [show ((rvs.length : Nat) : Int).toNat = us.length by omega, List.take_length, List.take_of_length_le (by omega)] at ars
    refine ⟨D2, _, rfl, SqL.of hD4, fun g2 ou ng2 eu => ⟨(by show 1 ≤ sizeLine; decide), fun p7 np7 => ?_⟩⟩
    have s5 := same_new ng2 (.frz ou (.tup rs))
    have hg5 : FzT (upd H4 g2 (.frz ou (.tup rs))) g2 rs := ⟨ou, upd_same, eu⟩
    generalize upd H4 g2 (.frz ou (.tup rs)) = H5 at s5 hg5 np7 ⊢
    have s6 := same_new np7 (.tup [V.ref g2])
    have hp7 : (upd H5 p7 (.tup [V.ref g2])) p7 = some (.tup [V.ref g2]) := upd_same
    generalize upd H5 p7 (.tup [V.ref g2]) = H6 at s6 hp7 ⊢
    refine ⟨p9, p7, _, _, rfl, rfl, SqT.of ((s4.trans (s5.trans s6)) _ _ hp9), SqT.of hp7, (by show 5 ≤ sizeLine; decide), (fun z => nomatch z), (fun _ z => nomatch z), fun _ _ r nr => ?_⟩
    have s7 := same_new nr (.tup ([V.str "handed", V.str x, V.str p, V.int i] ++ [V.ref g2]))
    have sAll := (s1.trans s3).trans ((s4.trans s5).trans (s6.trans s7))
    refine q (.ref r) _ (NdW.of (mk _ r g2 rs upd_same (hg5.mono (Tups.of_same (s6.trans s7))) (ars.mono (Tups.of_same (s5.trans (s6.trans s7)))))) sAll
  | ask a v0 g e ha =>
    subst e
    refine ⟨_, rfl, _, _, _, _, rfl, rfl, SqT.of ha, at_of (j := 0) rfl rfl, (by show 2 ≤ sizeLine; decide), fun t2 n2 => ⟨t2, _, rfl, .inl (SqL.of upd_same), rfl, rfl, _, rfl, ifF rfl ?_⟩⟩
    have s1 := same_new n2 (.lst [V.str "call", V.str "make"])
    generalize upd H t2 (.lst [V.str "call", V.str "make"]) = H1 at s1 ⊢
    have ha1 := s1 _ _ ha
    have hl1 := s1 _ _ hl
    have pr1 := pr.mono (Tups.of_same s1)
    refine ⟨_, rfl, _, _, _, _, rfl, rfl, SqT.of ha1, at_of (j := 0) rfl rfl, rfl, _, rfl, ifF (by decide) ?_⟩
    refine ⟨_, rfl, _, _, _, _, rfl, rfl, SqT.of ha1, at_of (j := 0) rfl rfl, rfl, _, rfl, ifT (by decide) ?_⟩
    obtain ⟨u1, ur, rfl⟩ : ∃ u1 ur, us = u1 :: ur := by
      cases us with
      | nil => exact absurd (List.length_eq_zero_iff.mp lu.symm) nps
      | cons a b => exact ⟨a, b, rfl⟩
    obtain ⟨r1, rr, rfl⟩ : ∃ r1 rr, rvs = r1 :: rr := by
      cases rvs with
      | nil => cases lr
      | cons a b => exact ⟨a, b, rfl⟩
    obtain ⟨c1, b1, e1, e2⟩ := pr1.2 0 u1 rfl
    obtain rfl := Option.some.inj e1
    have lr2 : rr.length = ur.length := Nat.succ.inj lr
    refine ⟨_, rfl, _, _, _, _, rfl, rfl, SqL.of hl1, at_of (j := 0) rfl rfl, _, _, _, _, rfl, rfl, SqT.of e2, at_of (j := 0) rfl rfl, ?_⟩
    refine ⟨_, rfl, _, rfl, l, _, rfl, SqL.of hl1, fun p8 np8 => ?_⟩
    rw [cut_lo3]
    have s2 := same_new np8 (.lst rr)
    have hp8 : (upd H1 p8 (.lst rr)) p8 = some (.lst rr) := upd_same
    generalize upd H1 p8 (.lst rr) = H2 at s2 hp8 ⊢
    refine ⟨p8, rfl, ⟨_, SqL.of hp8⟩, fun D nD => lc_list (xs := rr) (Psm H2 D ur) ?_ ?_ ?_ ?_⟩
    · exact ⟨same_new nD _, upd_same⟩
    · exact fun i H3 _ p => SqL.of (p.1 _ _ hp8)
    · rintro i y H3 hy ⟨s3, hD⟩
      have li := (List.getElem?_eq_some_iff.mp hy).1
      obtain ⟨u, hu⟩ : ∃ u, ur[i]? = some u := ⟨_, List.getElem?_eq_getElem (by omega)⟩
      obtain ⟨c, b, e3, e4⟩ := pr1.2 (i + 1) u hu
      obtain rfl : y = .ref c := Option.some.inj (hy.symm.trans e3)
      refine ⟨rfl, _, rfl, _, _, _, _, rfl, rfl, SqT.of ((s2.trans s3) _ _ e4), at_of (j := 0) rfl rfl, _, hD, line5 (by rw [List.length_take]; have := lu; rw [List.length_cons] at this; omega), Same.atNew s3 nD, ?_⟩
      rw [upd_same, ← take_next hu]
    rintro H3 ⟨s3, hD⟩
    rw [List.take_of_length_le (by omega)] at hD
    refine ⟨D, _, rfl, .inl ⟨SqL.of hD, fun g2 ng2 => ⟨(by show 3 ≤ sizeLine; decide), fun r nr => ?_⟩⟩⟩
    have s4 := same_new ng2 (.tup ur)
    have s5 := same_new nr (.tup [V.str "ask", u1, V.ref g2])
    exact q (.ref r) _ (NdW.of (.ask upd_same (s5 _ _ upd_same))) (((s1.trans s2).trans s3).trans (s4.trans s5))
  | last w L b a ha lL ew lp h2 h3 h4 nc mk =>
    refine ⟨_, rfl, _, _, _, _, rfl, rfl, SqT.of ha, at_head, (by show 2 ≤ sizeLine; decide), fun t2 n2 => ⟨t2, _, rfl, .inl (SqL.of upd_same), rfl, rfl, _, rfl, ifF h2 ?_⟩⟩
    have s1 := same_new n2 (.lst [V.str "call", V.str "make"])
    generalize upd H t2 (.lst [V.str "call", V.str "make"]) = H1 at s1 ⊢
    have ha1 := s1 _ _ ha
    have hl1 := s1 _ _ hl
    have pr1 := pr.mono (Tups.of_same s1)
    refine ⟨_, rfl, _, _, _, _, rfl, rfl, SqT.of ha1, at_head, rfl, _, rfl, ifF h3 ?_⟩
    refine ⟨_, rfl, _, _, _, _, rfl, rfl, SqT.of ha1, at_head, rfl, _, rfl, ifF h4 ?_⟩
    obtain ⟨u1, rfl⟩ : ∃ u1, us = [u1] := by
      match us, lu.trans lp with
      | [x], _ => exact ⟨x, rfl⟩
    obtain ⟨c1, b1, e1, e2⟩ := pr1.2 0 u1 rfl
    obtain ⟨c1, c2⟩ := cut_init (L := V.str w :: L) (v := V.ref b) (by simp)
    refine ⟨_, rfl, _, rfl, _, rfl, _, _, rfl, SqT.of ha1, fun z => absurd z c1, fun _ p9 np9 => ?_⟩
    rw [c2]
    have s9 := same_new np9 (.tup (V.str w :: L))
    have hp9 : (upd H1 p9 (.tup (V.str w :: L))) p9 = some (.tup (V.str w :: L)) := upd_same
    have hl9 := s9 _ _ hl1
    have e9 := s9 _ _ e2
    generalize upd H1 p9 (.tup (V.str w :: L)) = H9 at s9 hp9 hl9 e9 ⊢
    refine ⟨_, rfl, _, _, _, _, rfl, rfl, SqL.of hl9, at_of (j := 0) rfl e1, _, _, _, _, rfl, rfl, SqT.of e9, at_of (j := 0) rfl rfl, (by show 1 ≤ sizeLine; decide), fun p7 np7 => ?_⟩
    have s6 := same_new np7 (.tup [u1])
    have hp7 : (upd H9 p7 (.tup [u1])) p7 = some (.tup [u1]) := upd_same
    generalize upd H9 p7 (.tup [u1]) = H6 at s6 hp7 ⊢
    refine ⟨p9, p7, _, _, rfl, rfl, SqT.of (s6 _ _ hp9), SqT.of hp7, (by show (V.str w :: L).length + 1 ≤ sizeLine; rw [List.length_cons, sizeLine_eq]; omega), (fun z => nomatch z), (fun _ z => nomatch z), fun _ _ r nr => ?_⟩
    have s7 := same_new nr (.tup ((V.str w :: L) ++ [u1]))
    have sAll := (s1.trans s9).trans (s6.trans s7)
    refine q (.ref r) _ ⟨⟨r, L ++ [u1], rfl, by rw [upd_same, ew]; rfl⟩, fun rf => ?_, fun x ns e => absurd e (nc x ns)⟩ sAll
    obtain ⟨ub, rfl⟩ := rf u1 (.head _)
    exact mk _ r ub upd_same
end
end My
namespace My
open PySem PySem.Spec PyProof.Rows L2 NdefX LamX
/-! rebuilt: a term with each of its parts, and at last itself, changed; a change may be refused -/
def subAt : Tm → List Nat → Option Tm
  | t, [] => some t
  | .nd _ ts, i :: r => (ts[i]?).bind fun s => subAt s r
theorem subAt_snoc : ∀ {p : List Nat} {t s u : Tm} {i : Nat}, subAt t p = some s → s.parts[i]? = some u → subAt t (p ++ [i]) = some u
  | [], .nd _ ts, s, u, i, h, hi => by
    have e : s = .nd _ ts := (Option.some.inj h).symm
    subst e
    show (ts[i]?).bind _ = some u
    rw [show ts[i]? = some u from hi]
    rfl
  | j :: r, .nd _ ts, s, u, i, h, hi => by
    have h : (ts[j]?).bind (fun s => subAt s r) = some s := h
    show (ts[j]?).bind (fun s => subAt s (r ++ [i])) = some u
    cases e : ts[j]? with
    | none => rw [e] at h; cases h
    | some x =>
      rw [e] at h
      exact subAt_snoc (p := r) h hi
mutual
def Tm.reb (chg : Tm → Tm) : Tm → Tm
  | .nd h ts => chg (.nd h (Tm.rebs chg ts))
def Tm.rebs (chg : Tm → Tm) : List Tm → List Tm
  | [] => []
  | t :: r => Tm.reb chg t :: Tm.rebs chg r
end
theorem Tm.rebs_map {chg : Tm → Tm} : ∀ ts : List Tm, Tm.rebs chg ts = ts.map (Tm.reb chg)
  | [] => by rw [Tm.rebs]; rfl
  | t :: r => by rw [Tm.rebs, Tm.rebs_map r]; rfl
theorem subAt_size : ∀ {p : List Nat} {t s : Tm}, subAt t p = some s → s.size ≤ t.size
  | [], .nd h ts, s, e => by
    obtain rfl : Tm.nd h ts = s := Option.some.inj e
    exact Nat.le_refl _
  | i :: r, .nd h ts, s, e => by
    have e : (ts[i]?).bind (fun s => subAt s r) = some s := e
    cases e2 : ts[i]? with
    | none => rw [e2] at e; cases e
    | some x =>
      rw [e2] at e
      have a := subAt_size (p := r) e
      have b := Tm.sizes_mem (List.mem_of_getElem? e2)
      have c : (Tm.nd h ts).size = Tm.sizes ts + 1 := by rw [Tm.size]
      omega
/-- small in width -/
def Tm.wide (t : Tm) : Prop := ∀ p h ts, subAt t p = some (.nd h ts) → ts.length ≤ 900
theorem Tm.wide_size {t : Tm} (z : t.size ≤ 900) : Tm.wide t := fun p h ts e => by
  have a := subAt_size e
  have b : (Tm.nd h ts).size = Tm.sizes ts + 1 := by rw [Tm.size]
  have c := Tm.len_sizes ts
  omega
theorem subAt_cons {h : Hd} {ts : List Tm} {i : Nat} {t s : Tm} {p : List Nat} (e : ts[i]? = some t) (hp : subAt t p = some s) : subAt (.nd h ts) (i :: p) = some s := by
  show (ts[i]?).bind (fun s => subAt s p) = some s
  rw [e]
  exact hp
theorem Tm.wide_part {h : Hd} {ts : List Tm} {i : Nat} {t : Tm} (w : Tm.wide (.nd h ts)) (e : ts[i]? = some t) : Tm.wide t := fun p h2 ts2 hp => w (i :: p) h2 ts2 (subAt_cons e hp)
theorem Tm.wide_self {h : Hd} {ts : List Tm} (w : Tm.wide (.nd h ts)) : ts.length ≤ 900 := w [] h ts rfl
theorem lnk_sub {root : Tm} : ∀ {fs : List Fr} {t : Tm}, Lnk root fs t → ∃ p, subAt root p = some t
  | [], t, e => ⟨[], by obtain rfl : t = root := e; cases t; rfl⟩
  | f :: r, t, e => by
    obtain ⟨p, hp⟩ := lnk_sub (fs := r) e.2
    exact ⟨p ++ [f.gs.length], subAt_snoc hp e.1⟩
/-- what the parts gave are the changed parts -/
theorem rebs_of {chg : Tm → Tm} {H : Hp} : ∀ {ts : List Tm} {gs : List V}, gs.length = ts.length → (∀ (i : Nat) (t : Tm) (v : V), gs[i]? = some v → ts[i]? = some t → TmAt H v (Tm.reb chg t)) → TmsAt H gs (Tm.rebs chg ts)
  | [], [], _, _ => by rw [Tm.rebs]; exact .nil
  | t :: r, g :: gs, l, h => by
    rw [Tm.rebs]
    exact .cons (h 0 t g rfl rfl) (rebs_of (Nat.succ.inj l) fun i t v a b => h (i + 1) t v a b)
theorem TmsAt.refs {H : Hp} : ∀ {us : List V} {ts : List Tm}, TmsAt H us ts → ∀ u ∈ us, ∃ b, u = V.ref b
  | _, _, .nil, u, h => nomatch h
  | _, _, .cons a r, u, h => by
    rcases List.mem_cons.mp h with rfl | h
    · cases a with
      | nd n _ =>
        obtain ⟨b, xs, e, _⟩ := n.ref
        exact ⟨b, e⟩
    · exact TmsAt.refs r u h
/-! which door lacks an argument: parts first, the first part first -/
mutual
def Tm.lk (own : Hd → Option Str) : Tm → Option Str
  | .nd h ts => match Tm.lks own ts with
    | some z => some z
    | none => own h
def Tm.lks (own : Hd → Option Str) : List Tm → Option Str
  | [] => none
  | t :: r => match Tm.lk own t with
    | some z => some z
    | none => Tm.lks own r
end
section
variable {own : Hd → Option Str}
theorem Tm.lk_none {h : Hd} {ts : List Tm} (a : Tm.lks own ts = none) : Tm.lk own (.nd h ts) = own h := by
  rw [Tm.lk, a]
theorem Tm.lk_some {h : Hd} {ts : List Tm} {z : Str} (a : Tm.lks own ts = some z) : Tm.lk own (.nd h ts) = some z := by
  rw [Tm.lk, a]
theorem Tm.lks_none : ∀ {ts : List Tm}, (∀ t ∈ ts, Tm.lk own t = none) → Tm.lks own ts = none
  | [], _ => by rw [Tm.lks]
  | t :: r, h => by
    rw [Tm.lks, h t (.head _)]
    exact Tm.lks_none fun x hx => h x (.tail _ hx)
theorem Tm.lks_at : ∀ {ts : List Tm} {n : Nat} {t : Tm} {z : Str}, ts[n]? = some t → (∀ (i : Nat) (t' : Tm), i < n → ts[i]? = some t' → Tm.lk own t' = none) → Tm.lk own t = some z → Tm.lks own ts = some z
  | t :: r, 0, u, z, e, _, hz => by
    obtain rfl : t = u := Option.some.inj e
    rw [Tm.lks, hz]
  | t :: r, n + 1, u, z, e, h, hz => by
    rw [Tm.lks, h 0 t (by omega) rfl]
    exact Tm.lks_at (n := n) e (fun i t' l a => h (i + 1) t' (by omega) a) hz
  | [], n, u, z, e, _, _ => by simp at e
theorem Tm.lks_mem : ∀ {ts : List Tm} {t : Tm}, Tm.lks own ts = none → t ∈ ts → Tm.lk own t = none
  | x :: r, t, h, m => by
    rw [Tm.lks] at h
    cases e : Tm.lk own x with
    | some z => rw [e] at h; cases h
    | none =>
      rw [e] at h
      rcases List.mem_cons.mp m with rfl | m
      · exact e
      · exact Tm.lks_mem h m
theorem Tm.lk_up {root : Tm} : ∀ {fs : List Fr} {t : Tm} {z : Str}, Lnk root fs t → (∀ f ∈ fs, ∀ (i : Nat) (t' : Tm), i < f.gs.length → f.t.parts[i]? = some t' → Tm.lk own t' = none) → Tm.lk own t = some z → Tm.lk own root = some z
  | [], t, z, l, _, hz => by
    rw [← show t = root from l]
    exact hz
  | f :: r, t, z, l, h, hz => by
    refine Tm.lk_up l.2 (fun g hg => h g (.tail _ hg)) ?_
    have a := Tm.lks_at l.1 (h f (.head _)) hz
    rw [f.t.eta]
    exact Tm.lk_some a
end
abbrev s_rstep : Stmt := (defBody s_rebuilt).getD 0 (.Pass ⟨0, 0, 0, 0⟩)
abbrev q_rstep : Str := "rebuilt.<locals>.step"
def mkRst (cl : List (Str × Addr)) (c : Addr) : NF := NF.of s_rstep "step" q_rstep cl c
theorem nsc_rst : NScope ["at", "given", "begun", "change"] ["at", "given", "begun"] ["change"] (C8.fnScope s_rstep) := nscope_by (by decide +kernel)
/-- the step: it knows the function that changes, and what that function's cells hold -/
def spRst (mkC : List (Str × Addr) → Addr → NF) (frC : List Str) (spC : List (Option V) → Sp) (gs : List Grp) (ws : List (Option V)) : Sp := fun vs H Q E => ∃ (gC : Grp) (fch cc : Addr) (u : V) (g b : Addr) (h : Hd) (ps us : List V),
  gs = [gC] ∧ gC.fr = frC ∧ ws = [some (.ref fch)] ∧ vs = [u, .ref g, .ref b] ∧ H fch = some (FnO fch (mkC gC.cl cc)) ∧ H (mkC gC.cl cc).c = some (CodeO (mkC gC.cl cc).c (mkC gC.cl cc).qual) ∧ NdAt H u h ps ∧ H g = some (.lst us) ∧ us.length = ps.length ∧ ps.length ≤ 1000 ∧ (∀ u ∈ us, ∃ b, u = V.ref b) ∧
  ∀ v H', NdAt H' v h us → Same H H' → spC gC.ws [v] H' Q E
section
variable {P : Program} {w : World} {K : PySem.W.Frag} {mg : Str → Option Value} {base : Heap}
theorem ok_rst {kC : Nat} {xC : Str} {mkC : List (Str × Addr) → Addr → NF} {frC : List Str} {spC : List (Option V) → Sp} (c_with_parts : Cal P w K mg base "with_parts" 1 ["term", "parts"] spWp) (hk : 1 ≤ kC)
    (clC : ∀ cl c', (mkC cl c').cl = cl) (FnC : ∀ cl f c', NOk P w K mg base (L2.CX P w) kC f (mkC cl c') [xC] frC spC) (cl : List (Str × Addr)) (f c' : Addr) :
    NOkG P w K mg base (L2.CX P w) (kC + 1) f (mkRst cl c') ["at", "given", "begun"] ["change"] (spRst mkC frC spC) := by
  refine nokG_of nsc_rst (fun doc pm ctv us hl => match us, hl with | [_, _, _], _ => rfl) (fun gs ws vs H Q E h => ?_) (fun A stk s H vs ws gs Q E hr hf hc hw hG h => ?_)
  · obtain ⟨gC, fch, cc, u, g, b, h, ps, us, _, _, _, rfl, _⟩ := h
    rfl
  obtain ⟨gC, fch, cc, u, g, b, h, ps, us, rfl, rfl, rfl, rfl, hfc, hcc, nd, hg, lu, l1, rf, q⟩ := h
  refine ⟨_, pss_one (ps_ret (pe_callVG (i := 3) (gs := []) (ws := gC.ws) (NOk.toG (FnC gC.cl fch cc)) (fun pins σ H' s' I => ⟨by rw [clC]; exact (hG pins σ H' s' I gC (.head _)).1, GrpsAt.none⟩) (hr.mono (by first | decide | omega)) rfl (Or.inr (Or.inr rfl)) (fun σ => passAt (takes_of rfl rfl rfl rfl) σ)
    (pa_cons (pc c_with_parts (hr.mono (by first | decide | omega)) (pa_cons (pv 0) (pa_cons (pv 1) pa_nil))) pa_nil))), ?_⟩
  refine ⟨rfl, hfc, ?_⟩
  refine ⟨_, rfl, _, rfl, u, g, h, ps, us, rfl, nd, hg, lu, l1, rf, fun r H' hn s1 => ⟨s1 _ _ hfc, s1 _ _ hcc, ?_⟩⟩
  exact q r H' hn s1
/-- rebuilt -/
def spReb (T : List NTab) (mkC : List (Str × Addr) → Addr → NF) (frC : List Str) (spC : List (Option V) → Sp) (chg : Tm → Tm) (own : Hd → Option Str) (gs : List Grp) : Sp := fun vs H Q E => ∃ (gC : Grp) (v : V) (fch cc : Addr) (t : Tm),
  gs = [gC] ∧ gC.fr = frC ∧ vs = [v, .ref fch] ∧ TmAt H v t ∧ t.size ≤ 50000 ∧ Tm.wide t ∧ H fch = some (FnO fch (mkC gC.cl cc)) ∧ H (mkC gC.cl cc).c = some (CodeO (mkC gC.cl cc).c (mkC gC.cl cc).qual) ∧ TabsN T H ∧
  (∀ (u : V) (s : Tm) (p : List Nat) (H' : Hp) (Q' : VK), subAt t p = some s → Tm.lks own s.parts = none → (∀ z, own s.hd = some z → Tm.lk own t = some z) → ExtN H H' → TabsN T H' → TmAt H' u (.nd s.hd (Tm.rebs chg s.parts)) →
    (own s.hd = none → ∀ r H'', TmAt H'' r (Tm.reb chg s) → ExtN H' H'' → TabsN T H'' → Q' r H'') → spC gC.ws [u] H' Q' E) ∧
  (Tm.lk own t = none → ∀ r H', TmAt H' r (Tm.reb chg t) → ExtN H H' → TabsN T H' → Q r H')
theorem cap_rst : ndefB (defScope s_rebuilt) (C8.fnScope s_rstep) ["change"] = true := by decide +kernel
/-- walked, for the step of rebuilt -/
structure WlkL (P : Program) (w : World) (K : PySem.W.Frag) (mg : Str → Option Value) (base : Heap) (T : List NTab) (k : Nat) (mkC : List (Str × Addr) → Addr → NF) (frC : List Str) (spC : List (Option V) → Sp) (chg : Tm → Tm) (own : Hd → Option Str) : Prop where
  ex : ∃ (fw : Addr) (gw : FuncData), FnOkL P w K mg base (L2.CX P w) k fw gw ["term", "step"] (fun gs vs H Q E => ∃ g r, gs = g :: r ∧ g.fr = (["change"] : List Str) ∧ spWalkG T (mkRst g.cl) (spRst mkC frC spC r g.ws) (fun H t v => Tm.lk own t = none ∧ TmAt H v (Tm.reb chg t)) vs H Q E) ∧ mg "walked" = some (.ref fw) ∧ PySem.W.keepIn K (.ref fw) = true ∧ Binds K gw ["term", "step"] []
theorem ok_reb {f0 c0 P0 : Addr} {fd : FuncData} {k : Nat} {T : List NTab} {mkC : List (Str × Addr) → Addr → NF} {frC : List Str} {spC : List (Option V) → Sp} {chg : Tm → Tm} {own : Hd → Option Str} (F : FunC K "rebuilt" "rebuilt" s_rebuilt f0 fd c0) (TB : TabB base mg c0 P0) (hm : (P0, fun _ _ => q_rstep) ∈ T) (hu : ∀ p ∈ T, p.1 = P0 → p.2 = fun _ _ => q_rstep)
    (c_walked : WlkL P w K mg base T k mkC frC spC chg own) : FnOkL P w K mg base (L2.CX P w) (k + 1) f0 fd ["term", "change"] (spReb T mkC frC spC chg own) := by
  obtain ⟨fw, gw, Fw, mw, kw, bw⟩ := c_walked.ex
  refine F.okL sc_rebuilt (fun gs vs H Q E h => ?_) (fun A stk s H vs Q E gs hr hG h => ?_)
  · obtain ⟨gC, v, fch, cc, t, _, _, rfl, _⟩ := h
    rfl
  obtain ⟨gC, v, fch, cc, t, rfl, efr, rfl, ht, hz, hwd, hfc, hcc, hT, stp, q⟩ := h
  refine ⟨_, (pss_cons (ps_ndefMS (T := T) (nm := fun _ _ => q_rstep) (i := 2) (name := "step") rfl TB rfl hm rfl hu (ndef_free cap_rst) rfl rfl rfl sc_rebuilt.nd rfl (Or.inl rfl) (Or.inl rfl))
    (pss_one (ps_ret (pe_callL (js := [1]) (gs := [gC]) Fw (hr.mono (by first | decide | omega)) rfl mw kw bw (fun ok => Caps.made ok (ndef_free cap_rst) (ndef_fr cap_rst) rfl) (fun _ => rfl) hG (fun σ => passAt (takes_of rfl rfl rfl rfl) σ) (pa_cons (pv 0) (pa_cons (pv 2) pa_nil)))))), ?_⟩
  refine ⟨hT, fun f c' H1 eN nn T1 fn f1 c1 => ?_⟩
  have hfc1 := eN _ _ hfc fnO_ne
  have hcc1 := eN _ _ hcc codeO_ne
  refine ⟨_, rfl, _, rfl, _, _, rfl, rfl, v, f, c', t, rfl, ht.mono (tups_ext eN), by omega, f1, c1, T1, fun u t' g b gs fs' H' Q' x2 T2 tm' hg hl rts stk lnk _ lf k => ?_, fun r H' hR x2 T2 => q hR.1 r H' hR.2 (eN.trans x2) T2⟩
  obtain ⟨ps, nd, hps⟩ := tm'.node
  obtain ⟨p, hp⟩ := lnk_sub lnk
  have lps := hps.len
  have tms := rebs_of (chg := chg) hl fun i t v a b => (rts.2 i t v a b).2
  have wd := hwd p t'.hd t'.parts (by rw [← t'.eta]; exact hp)
  have pl : Tm.lks own t'.parts = none := Tm.lks_none fun t1 ht1 => by
    obtain ⟨i, hi⟩ := List.mem_iff_getElem?.mp ht1
    obtain ⟨v1, hv1⟩ : ∃ v, gs[i]? = some v := ⟨_, List.getElem?_eq_getElem (by have := (List.getElem?_eq_some_iff.mp hi).1; omega)⟩
    exact (rts.2 i t1 v1 hv1 hi).1
  have ownE : Tm.lk own t' = own t'.hd := by
    rw [t'.eta]
    exact Tm.lk_none pl
  refine ⟨gC, fch, cc, u, g, b, t'.hd, ps, gs, rfl, efr, rfl, rfl, x2 _ _ hfc1 fnO_ne, x2 _ _ hcc1 codeO_ne, nd, hg, by omega, by omega, tms.refs, fun v0 H'' hn s3 => ?_⟩
  refine stp v0 t' p H'' Q' hp pl (fun z ez => Tm.lk_up lnk (fun f hf i t1 hi ht1 => ?_) (ownE.trans ez)) ((eN.trans x2).trans (ExtN.of s3)) (TabsN.ext T2 s3) (.nd hn (tms.mono (Tups.of_same s3))) fun on r H3 hr3 x3 T3 => ?_
  · have fa := stk.at_ f hf
    obtain ⟨v1, hv1⟩ : ∃ v, f.gs[i]? = some v := ⟨_, List.getElem?_eq_getElem hi⟩
    exact (fa.rt.2 i t1 v1 hv1 ht1).1
  · exact k r H3 ⟨ownE.trans on, hr3⟩ ((ExtN.of s3).trans x3) T3
end
end My
namespace My
open PySem PySem.W PySem.Spec PySem.Calls PyProof.Rows Builtin Builtin.ObjectAttr Builtin.Getset_descriptor
/-! what the class of an error is called -/
section
variable {prog : Program} {w : World} {A : Around} {E : Value → Shared → Prop} {s : Shared} {K : Frag} {x D : Addr} {ox : Obj}
/-- e.__class__ of an error without a dict -/
theorem exc_class {expr : Bool} {Q : Value → Shared → Prop} (hga : findIn K (.ref D) "__getattribute__" = some (some (.builtin "BaseException.__getattribute__"))) (hgt : findIn K (.ref D) "__getattr__" = some none) (hsub : subIn K (.ref D) (.type "BaseException") = some true)
    (hdct : hasDictIn K D = true) (ha : findIn K (.ref D) "__class__" = some (some (.builtin "object.__class__")))
    (hn : specialIn K (.builtin "object.__class__") "__get__" = some (some (.builtin "getset_descriptor.__get__"))) (htk : takesIn K (.builtin "object.__class__") = some true) (hm : mroIn K D (.type "object") = some true)
    (X : K.In s.heap) (I : InstAt s.heap x ox D none) (h : Q (.ref D) { s with toks := s.toks + 1 }) : wpAny (model prog w) A (getAttr (.ref x) "__class__" expr) Q E s := by
  have hf : findObj K D none "__class__" = some (.bind (.builtin "getset_descriptor.__get__") (.builtin "object.__class__")) := findObj_dataN (by obtain ⟨cd, hc, _⟩ := any_some hdct; rw [hc]; rfl) ha hn htk
  obtain ⟨hp, g, d, t, os⟩ := s
  have L0 := I.type (M := model prog w)
  have L1 := looks_findIn (M := model prog w) X hga
  have L2 := looks_findIn (M := model prog w) X hgt
  have L3 := looks_find (M := model prog w) X I hf
  have sub : Looks (model prog w) hp (isInstance (.ref x) (.type "BaseException")) true := L0.andThen (looks_subIn X hsub)
  have hx0 : (expr && onTheHeap (Value.builtin "BaseException.__getattribute__")) = false := Bool.and_false _
  have hx2 : (Value.builtin "BaseException.__getattribute__" == Value.builtin "object.__getattribute__") = false := by decide +kernel
  have hx1 : (onTheHeap (Value.ref D) && Value.builtin "BaseException.__getattribute__" == Value.builtin "object.__getattribute__") = false := by rw [hx2]; rfl
  unfold getAttr getAttrBy
  refine wpAny_bind (wpAny_mkText (wpAny_holding (wpAny_bind (L0.at (wpAny_bind (L1.at ?_))))))
  show wpAny _ _ (if (onTheHeap (Value.ref D) && Value.builtin "BaseException.__getattribute__" == Value.builtin "object.__getattribute__") = true then _ else _) _ _ _
  rw [hx1, if_neg Bool.false_ne_true]
  unfold getAttrByItsOwn hookBefore
  refine wpAny_bind ?_
  rw [if_pos (show onTheHeap (Value.ref D) = true from rfl)]
  refine L2.at ?_
  refine wpAny_bind (wpAny_attempt (wpAny_holding ?_))
  unfold callGetattribute
  rw [hx0, if_neg Bool.false_ne_true]
  unfold boundAndCalled
  rw [PySem.F.excAttr_ValueError.ga.bind (.ref x)]
  refine wpAny_bind (wpAny_pure ?_)
  show wpAny _ _ (call (.builtin "BaseException.__getattribute__") [.ref x, .str "__class__" t]) _ _ _
  refine wpAny_call (codeAny_call_builtin PySem.F.excAttr_ValueError.ga.plain PySem.F.entry_bexc_ga ?_)
  refine @check_slot (model prog w) _ _ ⟨hp, g, d, t + 1, os⟩ "BaseException.__getattribute__" "BaseException" "__getattribute__" (.ref x) [.str "__class__" t] [] _ (by decide +kernel) (by decide +kernel) sub (PySem.F.args_bexc_ga (.ref x) (.str "__class__" t)) ?_
  unfold Builtin.«object.__getattribute__»
  refine wpAny_bind (wpAny_of_eq (a := ((Value.ref x : Value), [Value.str "__class__" t])) (by first | rfl | (simp only [slotArgs]; rfl)) ?_)
  refine wpAny_bind (wpAny_pure (wpAny_bind (L0.at (wpAny_bind (L3.at ?_)))))
  show wpAny _ _ (holding [Value.builtin "object.__class__"] (call (.builtin "getset_descriptor.__get__") [.builtin "object.__class__", .ref x, .ref D]) >>= ret) _ _ _
  refine wpAny_bind (wpAny_holding (wpAny_call (class_get (s := ⟨hp, g, d, t + 1, os⟩) (ox := ox) (od := none) X I hm ?_)))
  refine wpAny_pure ?_
  show wpAny _ _ (handedOut (.ref D)) _ _ _
  rw [handedOut_of (v := .ref D) rfl]
  first
    | exact wpAny_pure (wpAny_pure h)
    | exact wpAny_pure h
    | exact wpAny_pure (wpAny_bind (wpAny_pure (wpAny_pure h)))
theorem own_dga (d tp : Value) (C : Addr) : descrGetArgs ⟨[d, .ref C, tp], []⟩ = pure (d, some (.ref C), given tp) := by rfl
/-- the getter of C.__name__, an own class -/
theorem own_name_get {R : Result → Shared → Prop} {tp : Value} {C : Addr} {o : Obj} {v : Value} (X : K.In s.heap) (hC : K.lookup C = some o) (ht : typeIn K (.ref C) = some (.type "type")) (hs : o.slots[2]? = some (some v)) (hv : handedOut v = pure v)
    (h : R (.ok (.ret v)) s) : codeAny (model prog w) A (.call (.builtin "getset_descriptor.__get__") ⟨[.builtin "type.__name__", .ref C, tp], []⟩) R s := by
  obtain ⟨hh, g, dr, t, os⟩ := s
  have L0 : Looks (model prog w) hh (typeOf (.ref C)) (.type "type") := looks_typeIn X ht
  have L1 : Looks (model prog w) hh (isSubtype (.type "type") (.type "type")) true := Looks.of_pure (by rw [isSubtype_type]; kernel_rfl)
  refine codeAny_call_builtin KF.slot_gs.plain KF.entry_gs (KF.slot_gs.check _ _ _ _ _ _ _ _ ktyn_type (KF.args_gs _ _ _) ?_)
  unfold Builtin.«getset_descriptor.__get__» descrGet
  rw [own_dga]
  refine wpAny_bind (wpAny_pure ?_)
  unfold descrGetter descrCheckInstance descrNameAndClass isInstance
  simp only [ktyn_owner]
  repeat lk
  refine ⟨Code.quiet_builtin _ (by decide +kernel), codeAny_builtin ktyn_entry ?_⟩
  unfold Builtin.«type.__name__»
  dsimp only
  unfold keptObject slotAt
  dsimp only
  refine wpAny_bind (wpAny_bind (wpAny_loadPart (X _ _ hC) (wpAny_pure ?_)))
  rw [hs]
  exact wpAny_pure h
/-- C.__name__, an own class -/
theorem own_name {expr : Bool} {Q : Value → Shared → Prop} {C : Addr} {o : Obj} {nm : Str} {tk : Tok} (X : K.In s.heap) (hC : K.lookup C = some o) (ht : typeIn K (.ref C) = some (.type "type")) (hs : o.slots[2]? = some (some (.str nm tk)))
    (ho : nsIn K cStatics "thirdparty.any" = some none)
    (e : findCls K (.ref C) (.type "type") "__name__" = some (.get (.builtin "getset_descriptor.__get__") (.builtin "type.__name__") (.ref C) (.type "type")))
    (h : ∀ u, Q (.str nm tk) { s with toks := u }) : wpAny (model prog w) A (getAttr (.ref C) "__name__" expr) Q E s := by
  have hg : findIn K (.type "type") "__getattribute__" = some (some (.builtin "type.__getattribute__")) := type_tga
  refine cls_open X (looks_opaque X ho) (looks_typeIn X ht) hg (looks_hook X (r := none) (by rfl)) (by show subIn K _ _ = _; rfl) e ?_
  show wpAny _ _ (do ret (← holding [Value.builtin "type.__name__"] (call (.builtin "getset_descriptor.__get__") [.builtin "type.__name__", .ref C, .type "type"]))) _ _ _
  refine wpAny_bind (wpAny_holding (wpAny_call (own_name_get (s := { s with toks := s.toks + 1 }) X hC ht hs rfl ?_)))
  exact wpAny_pure (handed_on rfl (h _))
end
end My
namespace My
open PySem PySem.W PySem.Spec PyProof.Rows L2 NdefX ClX
/-! e.__class__.__name__ of an error; super().__init__(..) as the first row of an own error's __init__: to ValueError's, to an own one -/
/-- what the class C of an error says of itself, its name nm among that -/
structure ErrN (K : PySem.W.Frag) (C : Addr) (nm : Str) : Prop where
  ga : findIn K (.ref C) "__getattribute__" = some (some (.builtin "BaseException.__getattribute__"))
  gt : findIn K (.ref C) "__getattr__" = some none
  be : subIn K (.ref C) (.type "BaseException") = some true
  hd : hasDictIn K C = true
  ca : findIn K (.ref C) "__class__" = some (some (.builtin "object.__class__"))
  cn : specialIn K (.builtin "object.__class__") "__get__" = some (some (.builtin "getset_descriptor.__get__"))
  ct : takesIn K (.builtin "object.__class__") = some true
  mo : mroIn K C (.type "object") = some true
  ob : ∃ o tk, K.lookup C = some o ∧ o.slots[2]? = some (some (.str nm tk))
  ty : typeIn K (.ref C) = some (.type "type")
  op : nsIn K cStatics "thirdparty.any" = some none
  fc : findCls K (.ref C) (.type "type") "__name__" = some (.get (.builtin "getset_descriptor.__get__") (.builtin "type.__name__") (.ref C) (.type "type"))
def tClsName (K : PySem.W.Frag) (to : TE) : TE := fun σ H Q => to σ H fun x H1 => ∃ a C nm, x = .ref a ∧ H1 a = some (exo a C none) ∧ ErrN K C nm ∧ Q (.str nm) H1
theorem pe_clsname {X : Cx} {o : Expr} {to : TE} {p1 p2 : Pos} (ho : PE X o to) (hb1 : attributeBase o "__class__" X.env (eval o X.env) = eval o X.env := by rfl)
    (hb2 : attributeBase (.Attribute o "__class__" p1) "__name__" X.env (eval (.Attribute o "__class__" p1) X.env) = eval (.Attribute o "__class__" p1) X.env := by rfl) :
    PE X (.Attribute (.Attribute o "__class__" p1) "__name__" p2) (tClsName X.K to) := by
  refine ⟨fun pins s σ H Q I h => ?_⟩
  refine attr_of hb2 (attr_of hb1 (thn (ho.run pins s σ H _ I h) fun u s1 ⟨x, H1, I1, rx, a, C, nm, ex, ea, N, q⟩ => ?_))
  subst ex
  obtain rfl : u = Value.ref a := rx
  obtain ⟨t1, hx⟩ := exo_at I1.hok ea
  obtain ⟨ob, tk, hC, hs⟩ := N.ob
  refine exc_class N.ga N.gt N.be N.hd N.ca N.cn N.ct N.mo I1.kIn ⟨hx, rfl, rfl, trivial⟩ ?_
  exact own_name (s := { s1 with toks := s1.toks + 1 }) I1.kIn hC N.ty hs N.op N.fc fun u => ⟨.str nm, H1, I1.tok u, ⟨_, rfl⟩, q⟩
theorem lk1 {x y : Str} {c cc : Addr} (h : [(x, cc)].lookup y = some c) : y = x ∧ c = cc := by
  rw [List.lookup_cons] at h
  cases hb : y == x with
  | true =>
    rw [hb] at h
    exact ⟨beq_iff_eq.mp hb, (Option.some.inj h).symm⟩
  | false =>
    rw [hb] at h
    cases h
theorem ps_nodup {N ps fr : List Str} {sc : Scope} (S : NScope N ps fr sc) : ps.Nodup := by
  have h := S.nd.sublist (List.take_sublist (ps.length + fr.length) N)
  rw [S.pre] at h
  exact (List.nodup_append.mp h).1
section
variable {X : Cx} {σ : L2.St} {H : Hp} {s : Shared} {A : Around} {E : Value → Shared → Prop} {a C u : Addr} {pins : List (Addr × Obj)}
/-- the bound ValueError.__init__ called -/
theorem bound_init {us : List Value} {Q : Value → Shared → Prop} (T : OexC X.K C) (I : Inv X pins σ H s) (e : H a = some (exo a C none)) (hu : s.heap.get? u = some (kxs_mw "ValueError.__init__" a)) (hl : us.length ≤ sizeLine) (h : ∀ s', Inv X pins σ H s' → Q .none s') :
    wpAny (model X.prog X.w) A (call (.ref u) us) Q E s := by
  obtain ⟨nm, q, N, bs, bm, sn, sub, ab, col, dd, k0, k1, k2, k3, k5, hC, hbm⟩ := T.cls
  obtain ⟨t1, ho⟩ := exo_at I.hok e
  obtain ⟨hp, g, d, t, os⟩ := s
  refine wpAny_call (codeAny_of_tree ?_)
  show wpAny _ A.in1 (callAny (.ref u) ⟨us, []⟩) _ _ _
  simp only [callAny]
  refine wpAny_bind (wpAny_load hu ?_)
  simp only [kxs_mw, show (Value.type "method-wrapper" == Value.type "method" || Value.type "method-wrapper" == Value.type "builtin_function_or_method" || Value.type "method-wrapper" == Value.type "method-wrapper") = true by decide, if_true]
  refine KFB.if_so (by decide) ?_
  refine wpAny_bind (check_bound_init F.excBase_ValueError.toExcCallFacts (I.kIn _ _ hC) ho rfl ?_)
  refine wpAny_bind (wpAny_pure (wpAny_pure ?_))
  refine ⟨plainId_quiet F.excBase_ValueError.init.plain _, codeAny_builtin F.excBase_ValueError.initEntry ?_⟩
  refine exc_init_tree (cls := .ref C) (t0 := t1) (dv := none) (c2 := .none) (c3 := .none) (b4 := .bool false) ho hl fun h' k hx _ => ?_
  have J := I.write (t' := t) (x := a) (e := a) (o := exo a C none) (by rw [e]; exact True.intro) (.inl rfl) k ⟨_, hx⟩ (exo_ok hx)
  have eu : upd H a (exo a C none) = H := by
    funext b
    by_cases hb : b = a
    · rw [hb, upd_same, e]
    · rw [upd_ne hb]
  rw [eu] at J
  exact h _ J
/-- an own def bound to an object, called -/
theorem run_bound {CX : CXT} {k : Nat} {g q : Addr} {fd : FuncData} {ps : List Str} {sp : Sp} {E : XK} {Q : VK} {us : List Value} {vs : List V} (F : FnOk X.prog X.w X.K X.mg X.base CX k g fd ps sp) (hr : Room k X.A) (hb : Binds X.K fd ps []) (hx : Passes CX X E)
    (I : Inv X ((q, PySem.W.methodObj (.ref g) (.ref a)) :: pins) σ H s) (r : Vals vs us) (h : sp (.ref a :: vs) H Q E) : wpAny (model X.prog X.w) X.A (call (.ref q) us) (EP X pins σ Q) X.xe s := by
  have r2 : Vals (V.ref a :: vs) (Value.ref a :: us) := .cons rfl r
  have hl : (Value.ref a :: us).length = ps.length := by rw [← r2.length]; exact F.len _ _ _ _ h
  have hbd := hb s (Value.ref a :: us) I.kIn (by rw [List.append_nil]; exact hl)
  rw [List.append_nil] at hbd
  have z : wpAny (model X.prog X.w) X.A (call (.ref q) us) (EP X ((q, PySem.W.methodObj (.ref g) (.ref a)) :: pins) σ Q) X.xe s :=
    wpAny_call (PySem.W.method_call (pin_at I) (codeAny_mono (F.run X.A X.stack s H ⟨Value.ref a :: us, []⟩ (Value.ref a :: us) (V.ref a :: vs) Q E hr I.env0 hbd r2 h) fun r s' hq => by
      cases r with
      | error e => exact hx _ σ H s e s' I hq
      | ok fl =>
        cases fl with
        | ret u => exact I.after hq
        | next => exact False.elim hq
        | brk => exact False.elim hq
        | cont => exact False.elim hq))
  exact thn z fun _ _ y => unpinE y
end
/-- what the written part must say of a def and its class D for super() -/
structure SupD (P : Program) (K : PySem.W.Frag) (mg : Str → Option Value) (D cc c : Addr) : Prop where
  code : ∃ ccl cdd vs ccs file tf, K.lookup c = some (⟨ccl, cdd, .fields vs, ccs⟩ : Obj) ∧ vs[2]? = some (.str file tf) ∧ ((P.main.file : Str) == file) = true
  cell : ∃ cl cld csl, K.lookup cc = some (⟨cl, cld, .cell (some (.ref D)), csl⟩ : Obj)
  cls : ∃ cd, clsIn K D = some cd
  sup : mg "super" = none
  opq : nsIn K cStatics "thirdparty.any" = some none
  top : (P.main.scope.names.lookup ("super" : Str)).isSome = false
/-- of the class C of an instance: what stands behind D is v -/
structure SupC (K : PySem.W.Frag) (C D : Addr) (v : Value) : Prop where
  cls : ∃ cd, clsIn K C = some cd
  sub : mroIn K C (.ref D) = some true
  ini : ks_superIn K C D "__init__" = some (some v)
  ve : subIn K (.ref C) (.type "ValueError") = some true
/-- to ValueError's -/
theorem fn_superB {CX : CXT} {P : Program} {w : World} {K : PySem.W.Frag} {mg : Str → Option Value} {base : Heap} {N ps : List Str} {F : NF} {f cc D : Addr} {k : Nat} {sp : Sp} {oc dV kV doc pm ct : Value} {od an : Option Addr} {osl : Array (Option Value)} {ar : Arg} {rest : List Stmt} {e : Expr} {es : List Expr} {p0 p1 p2 p3 p4 : Pos} {pl : Env → Sem Bool}
    (lk : K.lookup f = some ⟨oc, od, .func (fnX F.name F.qual F.params F.body F.scope F.cl dV kV doc pm an (.ref F.c) ct), osl⟩) (hcl : F.cl = [(("__class__" : Str), cc)]) (hcd : codeIn K (.ref F.c) F.qual = true)
    (hbody : F.body = .Expr (.Call (.Attribute (.Call (.Name "super" p0) [] [] p1) "__init__" p2) (e :: es) [] p3) p4 :: rest)
    (S : NScope N ps ["__class__"] F.scope) (hS : F.scope.names.lookup ("super" : Str) = some .globalImplicit) (hp : (F.params.posonlyargs ++ F.params.args).head? = some ar) (h0 : ps[0]? = some ar.arg)
    (U : SupD P K mg D cc F.c) (len : ∀ vs H Q E, sp vs H Q E → vs.length = ps.length)
    (hb : ∀ (A : Around) (outer : List Env) (s : Shared) (H : Hp) (vs : List V) (Q : VK) (E : XK), Room k (A.deeper (envF F f s.heap.objs.size)) → sp vs H Q E →
      ∃ (ta : TA) (t : TS) (a C : Addr), PA (ncx CX P w K mg base N F f A outer s H E) (e :: es) ta ∧ PSs (ncx CX P w K mg base N F f A outer s H E) rest t ∧ vs[0]? = some (.ref a) ∧ H a = some (exo a C none) ∧ OexC K C ∧ SupC K C D (.builtin "ValueError.__init__") ∧
        ta (startF N vs [none]) H fun ws H1 => ws.length ≤ 1000 ∧ H1 a = some (exo a C none) ∧ t { nx := fun _ H' => Q .non H', rt := Q } (startF N vs [none]) H1)
    (he : ∀ env : Env, starEach (e :: es) env = (false, eval e env) :: starEach es env := by intro env; rfl) (hpl : ∀ env : Env, (backTo p3 (starEach es env)).any (·.1) = false := by intro env; rfl)
    (hsw : ∀ env : Env, swapsWith (.Call (.Attribute (.Call (.Name "super" p0) [] [] p1) "__init__" p2) (e :: es) [] p3) none p4.line env = pure false := by intro env; rfl)
    (hmc : ∀ env : Env, eval (.Call (.Attribute (.Call (.Name "super" p0) [] [] p1) "__init__" p2) (e :: es) [] p3) env = (do
      let ov ← attributeBase (.Call (.Name "super" p0) [] [] p1) "__init__" env (eval (.Call (.Name "super" p0) [] [] p1) env)
      standAt p2.atName
      let (f, first) ← holding [ov] (getMethod ov "__init__" (pl env))
      callWith p3 f first (backTo p3 (starEach (e :: es) env)) []) := by intro env; rfl) :
    FnOk P w K mg base CX (k + 1) f (fnX F.name F.qual F.params F.body F.scope F.cl dV kV doc pm an (.ref F.c) ct) ps sp := by
  refine ⟨len, fun A outer s H args us vs Q E hr e0 hbd r hsp => ?_⟩
  obtain ⟨hh, gg, gd, gt, gos⟩ := s
  have KX : K.In hh := e0.mod.kin.keeps fun b o e => (e0.bs b o e).1
  have hl := len _ _ _ _ hsp
  have lim : hh.NoLimit := e0.mod.nolimit.keeps fun b o e => (e0.bs b o e).1
  obtain ⟨cl, cld, csl, hcell⟩ := U.cell
  obtain ⟨cdD, hcD⟩ := U.cls
  obtain ⟨ccl, cdd, cvs, ccs, file, tf, hcode, hvs, hfile⟩ := U.code
  have hccn : H cc = none := (e0.bs _ _ (e0.mod.kin _ _ hcell)).2
  have C0 : CellsAt F.cl ["__class__"] [none] hh H := by
    rw [hcl]
    refine ⟨rfl, fun y c hy => ?_, fun x y c hx hy => (lk1 hx).1.trans (lk1 hy).1.symm, fun i y hy => ?_⟩
    · rw [(lk1 hy).2]
      exact ⟨hccn, _, _, KX _ _ hcell, rfl⟩
    · have hi : i = 0 := by
        rcases i with _ | i
        · rfl
        · simp at hy
      subst hi
      obtain rfl : ("__class__" : Str) = y := Option.some.inj hy
      exact ⟨cc, by simp, fun v hv => by simp at hv⟩
  refine ks_codeAny_call_defAt (binds := ps.zip us) hr.depth (KX _ _ lk) rfl lim (codeRec_of KX hcd) rfl hbd S.nocell (fun ⟨n, _⟩ hy => S.par n (List.of_mem_zip hy).1) (fun h₁ hns kp => ?_) S.co S.gen S.kind
  obtain ⟨ta, t, a, C, ha, ht, hv0, hHa, T, UC, hq⟩ := hb A outer ⟨hh, gg, gd, gt, gos⟩ H vs Q E (hr.deeper _) hsp
  obtain ⟨cdC, hcC⟩ := UC.cls
  have I : Inv (ncx CX P w K mg base N F f A outer ⟨hh, gg, gd, gt, gos⟩ H E) [] (startF N vs [none]) H ⟨h₁, gg, gd, gt + (ps.zip us).length, gos⟩ := inv_startN S hr.hd e0 hl r C0 hns kp
  have hkc : F.scope.names.lookup ("__class__" : Str) = some .free := S.frk _ (by simp)
  have X1 : K.In h₁ := KX.keeps kp
  have hself : (ps.zip us).reverse.lookup ar.arg = some (.ref a) := by
    cases r with
    | nil => cases hv0
    | @cons v0 u0 vr ur ra rr =>
      obtain rfl : v0 = V.ref a := Option.some.inj hv0
      obtain rfl : u0 = Value.ref a := ra
      exact zip_look (i := 0) (ps_nodup S) h0 rfl
  have goal1 : _root_.PySem.wpAt (model P w) (A.deeper (envF F f hh.objs.size)) (.func F.body (envF F f hh.objs.size)) (execs F.body (envF F f hh.objs.size)) (fun fl s' => CR CX outer P w H ⟨hh, gg, gd, gt, gos⟩ Q E (.ok (.ret (match fl with | .ret v => v | _ => .none))) s')
      (ncx CX P w K mg base N F f A outer ⟨hh, gg, gd, gt, gos⟩ H E).xe ⟨h₁, gg, gd, gt + (ps.zip us).length, gos⟩ := by
    rw [show execs F.body (envF F f hh.objs.size) = execs (.Expr (.Call (.Attribute (.Call (.Name "super" p0) [] [] p1) "__init__" p2) (e :: es) [] p3) p4 :: rest) (envF F f hh.objs.size) from by rw [hbody]]
    refine ks_wpAt_execs_cons (ks_wpAt_Expr_any (ks_wpAt_MethodCall ?_ (hmc _)) I.quiet (hsw _))
    refine ks_wpAt_super_base hS hkc rfl rfl (kp _ _ (KX _ _ lk)) rfl hp rfl (kp _ _ (KX _ _ hcode)) rfl hvs hfile U.top ?_
    obtain ⟨mb, hb1, hb2⟩ := I.mod.blt
    refine ks_loadName_global S.kind hS (Calls.loadGlobal_builtin (show h₁.Ns mainGlobals mg from I.mod.glob.keeps I.bk) U.sup (show h₁.Ns builtinsNs mb from hb1.keeps I.bk) ((hb2 _ (by decide)).trans (show bootBuiltins "super" = some (.type "super") by decide +kernel)) ⟨rfl, ?_⟩)
    refine wpAny_loadName_free S.kind hkc (by show F.cl.lookup _ = _; rw [hcl]; rfl) ⟨_, kp _ _ (KX _ _ hcell), rfl⟩ ?_
    refine wpAny_loadName_local S.kind (S.par _ (List.mem_of_getElem? h0)) hns hself ?_
    obtain ⟨oD, hD1, hD2⟩ : ∃ oD, h₁.get? D = some oD ∧ oD.data = .cls cdD := by
      have hcD' := hcD
      unfold clsIn at hcD'
      split at hcD'
      · rename_i c d cd' sl ho
        cases hcD'
        exact ⟨_, X1 _ _ ho, rfl⟩
      · cases hcD'
    obtain ⟨t1, hx⟩ := exo_at I.hok hHa
    refine ks_wpAny_isType_cls hD1 hD2 ⟨rfl, ?_⟩
    refine ks_wpAny_call_super hD1 hD2 hx rfl (fun c z => by cases z) (looks_mroIn X1 UC.sub) (fun h2 e2 k2 => ?_)
    have I2 : Inv (ncx CX P w K mg base N F f A outer ⟨hh, gg, gd, gt, gos⟩ H E) [] (startF N vs [none]) H ⟨h2, gg, gd, gt + (ps.zip us).length, gos⟩ := I.kept k2
    have hm := UC.ini
    unfold ks_superIn at hm
    rw [hcC] at hm
    have inst : InstAt h2 a { cls := .ref C, dict := none, data := .fields #[.ref t1, .none, .none, .none, .bool false, .none] } C none := ⟨k2 _ _ hx, rfl, rfl, trivial⟩
    refine kxs_getMethod kxs_ValueError e2 (looks_opaque I2.kIn U.opq) (l₀ := cdC.mro) (fun A Q E s k q => wpAny_bind ((looks_clsIn I2.kIn hcC) A _ E s k (wpAny_pure q))) rfl I2.kIn hm (inst.type.andThen (looks_subIn I2.kIn UC.ve)) (ks_ne I2.kIn inst hcC) rfl ?_
    have I3 : Inv (ncx CX P w K mg base N F f A outer ⟨hh, gg, gd, gt, gos⟩ H E) [] (startF N vs [none]) H ⟨h2.push (kxs_mw "ValueError.__init__" a), gg, gd, gt + (ps.zip us).length + 1, gos⟩ := I2.kept (t' := gt + (ps.zip us).length + 1) fun b o e => Heap.get?_push_of_some _ e
    have I4 : Inv (ncx CX P w K mg base N F f A outer ⟨hh, gg, gd, gt, gos⟩ H E) [(h2.objs.size, kxs_mw "ValueError.__init__" a)] (startF N vs [none]) H ⟨h2.push (kxs_mw "ValueError.__init__" a), gg, gd, gt + (ps.zip us).length + 1, gos⟩ :=
      I3.pins_of fun p hp => by
        obtain rfl : p = (h2.objs.size, kxs_mw "ValueError.__init__" a) := by simpa [ncx] using hp
        exact ⟨Heap.get?_push_at rfl rfl, I2.hok.fresh (Nat.le_refl _), fun z => absurd I2.lt (by rw [← z]; exact Nat.lt_irrefl _), I2.nofs (Nat.le_refl _), fun v z => by cases z⟩
    show wpAny _ _ (callWith p3 (Value.ref h2.objs.size) [] (backTo p3 (starEach (e :: es) (envF F f hh.objs.size))) []) _ _ _
    rw [he]
    refine kxs_callWith (i := "ValueError.__init__") (x := a) (by show (false || (backTo p3 (starEach es (envF F f hh.objs.size))).any (·.1)) = false; rw [hpl]; rfl) (Calls.evalArgs_plain ?_)
    have hrun := ha.run p3 _ _ _ H _ I4 hq
    rw [show (ncx CX P w K mg base N F f A outer ⟨hh, gg, gd, gt, gos⟩ H E).env = envF F f hh.objs.size from rfl, he] at hrun
    refine thn hrun fun us5 s5 ⟨ws, H5, I5, r5, hl5, ha5, q5⟩ => ?_
    have hw : s5.heap.get? h2.objs.size = some (kxs_mw "ValueError.__init__" a) := (I5.pin (h2.objs.size, kxs_mw "ValueError.__init__" a) (List.mem_append_right _ (List.mem_singleton.mpr rfl))).1
    refine ⟨hw, ?_⟩
    refine bound_init (X := ncx CX P w K mg base N F f A outer ⟨hh, gg, gd, gt, gos⟩ H E) T I5 ha5 hw ?_ fun s6 I6 => ?_
    · show us5.length ≤ sizeLine
      rw [← Paired.length r5, sizeLine_eq]
      omega
    have I7 : Inv (ncx CX P w K mg base N F f A outer ⟨hh, gg, gd, gt, gos⟩ H E) [] (startF N vs [none]) H5 s6 := I6.pins_of fun p hp => absurd hp (by simp [ncx])
    refine wpAt_of_wpAny (wpAny_mono (ht.run [] s6 (startF N vs [none]) H5 _ I7 q5) (fun fl s' hs => ?_) fun e s' hs => hs)
    have fin : ∀ {σ' : L2.St} {H' : Hp} {v : V} {u : Value}, Inv (ncx CX P w K mg base N F f A outer ⟨hh, gg, gd, gt, gos⟩ H E) [] σ' H' s' → L2.RelV v u → Q v H' → CE outer P w H ⟨hh, gg, gd, gt, gos⟩ Q u s' :=
      fun {σ' H' v u} J rv q => ⟨v, H', J.os, J.bare, J.base, J.hok, rv, q⟩
    cases fl with
    | ret u =>
      obtain ⟨v, σ', H', J, rv, q⟩ := hs
      exact fin J rv q
    | next =>
      obtain ⟨σ', H', J, q⟩ := hs
      exact fin (v := V.non) (u := Value.none) J rfl q
    | brk =>
      obtain ⟨_, _, _, q⟩ := hs
      exact False.elim q
    | cont =>
      obtain ⟨_, _, _, q⟩ := hs
      exact False.elim q
  exact goal1
/-- to an own def at g -/
theorem fn_superF {CX : CXT} {P : Program} {w : World} {K : PySem.W.Frag} {mg : Str → Option Value} {base : Heap} {N ps : List Str} {F : NF} {f cc D g : Addr} {k j : Nat} {sp spg : Sp} {fdg : FuncData} {psg : List Str} {oc dV kV doc pm ct : Value} {od an : Option Addr} {osl : Array (Option Value)} {ar : Arg} {rest : List Stmt} {e : Expr} {es : List Expr} {p0 p1 p2 p3 p4 : Pos} {pl : Env → Sem Bool}
    (lk : K.lookup f = some ⟨oc, od, .func (fnX F.name F.qual F.params F.body F.scope F.cl dV kV doc pm an (.ref F.c) ct), osl⟩) (hcl : F.cl = [(("__class__" : Str), cc)]) (hcd : codeIn K (.ref F.c) F.qual = true)
    (hbody : F.body = .Expr (.Call (.Attribute (.Call (.Name "super" p0) [] [] p1) "__init__" p2) (e :: es) [] p3) p4 :: rest)
    (S : NScope N ps ["__class__"] F.scope) (hS : F.scope.names.lookup ("super" : Str) = some .globalImplicit) (hp : (F.params.posonlyargs ++ F.params.args).head? = some ar) (h0 : ps[0]? = some ar.arg)
    (U : SupD P K mg D cc F.c) (len : ∀ vs H Q E, sp vs H Q E → vs.length = ps.length)
    (G : FnOk P w K mg base CX0 j g fdg psg spg) (bg : Binds K fdg psg []) (tyg : typeIn K (.ref g) = some (.type "function")) (fng : fnIn K g = true) (jk : j ≤ k)
    (hb : ∀ (A : Around) (outer : List Env) (s : Shared) (H : Hp) (vs : List V) (Q : VK) (E : XK), Room k (A.deeper (envF F f s.heap.objs.size)) → sp vs H Q E →
      ∃ (ta : TA) (t : TS) (a C : Addr), PA (ncx CX P w K mg base N F f A outer s H E) (e :: es) ta ∧ PSs (ncx CX P w K mg base N F f A outer s H E) rest t ∧ vs[0]? = some (.ref a) ∧ H a = some (exo a C none) ∧ SupC K C D (.ref g) ∧
        ta (startF N vs [none]) H fun ws H1 => spg (.ref a :: ws) H1 (fun v H2 => t { nx := fun _ H' => Q .non H', rt := Q } (startF N vs [none]) H2) E0)
    (he : ∀ env : Env, starEach (e :: es) env = (false, eval e env) :: starEach es env := by intro env; rfl) (hpl : ∀ env : Env, (backTo p3 (starEach es env)).any (·.1) = false := by intro env; rfl)
    (hsw : ∀ env : Env, swapsWith (.Call (.Attribute (.Call (.Name "super" p0) [] [] p1) "__init__" p2) (e :: es) [] p3) none p4.line env = pure false := by intro env; rfl)
    (hmc : ∀ env : Env, eval (.Call (.Attribute (.Call (.Name "super" p0) [] [] p1) "__init__" p2) (e :: es) [] p3) env = (do
      let ov ← attributeBase (.Call (.Name "super" p0) [] [] p1) "__init__" env (eval (.Call (.Name "super" p0) [] [] p1) env)
      standAt p2.atName
      let (f, first) ← holding [ov] (getMethod ov "__init__" (pl env))
      callWith p3 f first (backTo p3 (starEach (e :: es) env)) []) := by intro env; rfl) :
    FnOk P w K mg base CX (k + 1) f (fnX F.name F.qual F.params F.body F.scope F.cl dV kV doc pm an (.ref F.c) ct) ps sp := by
  refine ⟨len, fun A outer s H args us vs Q E hr e0 hbd r hsp => ?_⟩
  obtain ⟨hh, gg, gd, gt, gos⟩ := s
  have KX : K.In hh := e0.mod.kin.keeps fun b o e => (e0.bs b o e).1
  have hl := len _ _ _ _ hsp
  have lim : hh.NoLimit := e0.mod.nolimit.keeps fun b o e => (e0.bs b o e).1
  obtain ⟨cl, cld, csl, hcell⟩ := U.cell
  obtain ⟨cdD, hcD⟩ := U.cls
  obtain ⟨ccl, cdd, cvs, ccs, file, tf, hcode, hvs, hfile⟩ := U.code
  have hccn : H cc = none := (e0.bs _ _ (e0.mod.kin _ _ hcell)).2
  have C0 : CellsAt F.cl ["__class__"] [none] hh H := by
    rw [hcl]
    refine ⟨rfl, fun y c hy => ?_, fun x y c hx hy => (lk1 hx).1.trans (lk1 hy).1.symm, fun i y hy => ?_⟩
    · rw [(lk1 hy).2]
      exact ⟨hccn, _, _, KX _ _ hcell, rfl⟩
    · have hi : i = 0 := by
        rcases i with _ | i
        · rfl
        · simp at hy
      subst hi
      obtain rfl : ("__class__" : Str) = y := Option.some.inj hy
      exact ⟨cc, by simp, fun v hv => by simp at hv⟩
  refine ks_codeAny_call_defAt (binds := ps.zip us) hr.depth (KX _ _ lk) rfl lim (codeRec_of KX hcd) rfl hbd S.nocell (fun ⟨n, _⟩ hy => S.par n (List.of_mem_zip hy).1) (fun h₁ hns kp => ?_) S.co S.gen S.kind
  obtain ⟨ta, t, a, C, ha, ht, hv0, hHa, UC, hq⟩ := hb A outer ⟨hh, gg, gd, gt, gos⟩ H vs Q E (hr.deeper _) hsp
  obtain ⟨cdC, hcC⟩ := UC.cls
  have I : Inv (ncx CX P w K mg base N F f A outer ⟨hh, gg, gd, gt, gos⟩ H E) [] (startF N vs [none]) H ⟨h₁, gg, gd, gt + (ps.zip us).length, gos⟩ := inv_startN S hr.hd e0 hl r C0 hns kp
  have hkc : F.scope.names.lookup ("__class__" : Str) = some .free := S.frk _ (by simp)
  have X1 : K.In h₁ := KX.keeps kp
  have hself : (ps.zip us).reverse.lookup ar.arg = some (.ref a) := by
    cases r with
    | nil => cases hv0
    | @cons v0 u0 vr ur ra rr =>
      obtain rfl : v0 = V.ref a := Option.some.inj hv0
      obtain rfl : u0 = Value.ref a := ra
      exact zip_look (i := 0) (ps_nodup S) h0 rfl
  have goal1 : _root_.PySem.wpAt (model P w) (A.deeper (envF F f hh.objs.size)) (.func F.body (envF F f hh.objs.size)) (execs F.body (envF F f hh.objs.size)) (fun fl s' => CR CX outer P w H ⟨hh, gg, gd, gt, gos⟩ Q E (.ok (.ret (match fl with | .ret v => v | _ => .none))) s')
      (ncx CX P w K mg base N F f A outer ⟨hh, gg, gd, gt, gos⟩ H E).xe ⟨h₁, gg, gd, gt + (ps.zip us).length, gos⟩ := by
    rw [show execs F.body (envF F f hh.objs.size) = execs (.Expr (.Call (.Attribute (.Call (.Name "super" p0) [] [] p1) "__init__" p2) (e :: es) [] p3) p4 :: rest) (envF F f hh.objs.size) from by rw [hbody]]
    refine ks_wpAt_execs_cons (ks_wpAt_Expr_any (ks_wpAt_MethodCall ?_ (hmc _)) I.quiet (hsw _))
    refine ks_wpAt_super_base hS hkc rfl rfl (kp _ _ (KX _ _ lk)) rfl hp rfl (kp _ _ (KX _ _ hcode)) rfl hvs hfile U.top ?_
    obtain ⟨mb, hb1, hb2⟩ := I.mod.blt
    refine ks_loadName_global S.kind hS (Calls.loadGlobal_builtin (show h₁.Ns mainGlobals mg from I.mod.glob.keeps I.bk) U.sup (show h₁.Ns builtinsNs mb from hb1.keeps I.bk) ((hb2 _ (by decide)).trans (show bootBuiltins "super" = some (.type "super") by decide +kernel)) ⟨rfl, ?_⟩)
    refine wpAny_loadName_free S.kind hkc (by show F.cl.lookup _ = _; rw [hcl]; rfl) ⟨_, kp _ _ (KX _ _ hcell), rfl⟩ ?_
    refine wpAny_loadName_local S.kind (S.par _ (List.mem_of_getElem? h0)) hns hself ?_
    obtain ⟨oD, hD1, hD2⟩ : ∃ oD, h₁.get? D = some oD ∧ oD.data = .cls cdD := by
      have hcD' := hcD
      unfold clsIn at hcD'
      split at hcD'
      · rename_i c d cd' sl ho
        cases hcD'
        exact ⟨_, X1 _ _ ho, rfl⟩
      · cases hcD'
    obtain ⟨t1, hx⟩ := exo_at I.hok hHa
    refine ks_wpAny_isType_cls hD1 hD2 ⟨rfl, ?_⟩
    refine ks_wpAny_call_super hD1 hD2 hx rfl (fun c z => by cases z) (looks_mroIn X1 UC.sub) (fun h2 e2 k2 => ?_)
    have I2 : Inv (ncx CX P w K mg base N F f A outer ⟨hh, gg, gd, gt, gos⟩ H E) [] (startF N vs [none]) H ⟨h2, gg, gd, gt + (ps.zip us).length, gos⟩ := I.kept k2
    have hm := UC.ini
    unfold ks_superIn at hm
    rw [hcC] at hm
    have inst : InstAt h2 a { cls := .ref C, dict := none, data := .fields #[.ref t1, .none, .none, .none, .bool false, .none] } C none := ⟨k2 _ _ hx, rfl, rfl, trivial⟩
    obtain ⟨og, hog, hogc⟩ : ∃ og, h2.get? g = some og ∧ og.cls = .type "function" := by
      have ht' : (K.lookup g).map (·.cls) = some (.type "function") := tyg
      cases z : K.lookup g with
      | none => rw [z] at ht'; cases ht'
      | some og => rw [z] at ht'; exact ⟨og, I2.kIn _ _ z, Option.some.inj ht'⟩
    refine ks_wpAny_getMethod_super e2 (looks_opaque I2.kIn U.opq) (l₀ := cdC.mro) (fun A Q E s k q => wpAny_bind ((looks_clsIn I2.kIn hcC) A _ E s k (wpAny_pure q))) rfl I2.kIn hm hog hogc (ks_ne I2.kIn inst hcC) rfl ?_
    have I4 := met_new (g := g) (C := a) I2
    show wpAny _ _ (callWith p3 (Value.ref h2.objs.size) [] (backTo p3 (starEach (e :: es) (envF F f hh.objs.size))) []) _ _ _
    have hbase := base_none I2 (Nat.le_refl _)
    refine callwith_cm I4 hbase fng ?_ (he _) (hpl _)
    have hrun := ha.run p3 _ _ _ H _ I4 hq
    refine thn hrun fun us5 s5 ⟨ws, H5, I5, r5, q5⟩ => ?_
    refine ⟨⟨pin_at I5, I5.kIn⟩, ?_⟩
    refine wpAny_mono (run_bound (X := ncx CX P w K mg base N F f A outer ⟨hh, gg, gd, gt, gos⟩ H E) G ((hr.deeper _).mono jk) bg pass0 I5 r5 q5) (fun v6 s6 hs6 => ?_) fun e s' hs => hs
    obtain ⟨v, H6, I6, _, q6⟩ := hs6
    refine wpAt_of_wpAny (wpAny_mono (ht.run [] s6 (startF N vs [none]) H6 _ I6 q6) (fun fl s' hs => ?_) fun e s' hs => hs)
    have fin : ∀ {σ' : L2.St} {H' : Hp} {v : V} {u : Value}, Inv (ncx CX P w K mg base N F f A outer ⟨hh, gg, gd, gt, gos⟩ H E) [] σ' H' s' → L2.RelV v u → Q v H' → CE outer P w H ⟨hh, gg, gd, gt, gos⟩ Q u s' :=
      fun {σ' H' v u} J rv q => ⟨v, H', J.os, J.bare, J.base, J.hok, rv, q⟩
    cases fl with
    | ret u =>
      obtain ⟨v, σ', H', J, rv, q⟩ := hs
      exact fin J rv q
    | next =>
      obtain ⟨σ', H', J, q⟩ := hs
      exact fin (v := V.non) (u := Value.none) J rfl q
    | brk =>
      obtain ⟨_, _, _, q⟩ := hs
      exact False.elim q
    | cont =>
      obtain ⟨_, _, _, q⟩ := hs
      exact False.elim q
  exact goal1
end My
namespace My
open PySem L2 NdefX
/-! StillError: its __init__ -/
abbrev s_StillError___init__ : Stmt := (inClass (top 1)).getD 0 (.Pass ⟨0, 0, 0, 0⟩)
theorem nsc_StillError : NScope ["self", "message", "__class__"] ["self", "message"] ["__class__"] (defScope s_StillError___init__) := nscope_by (by decide +kernel)
def nfStill (cc c : Addr) : NF := ⟨"__init__", "StillError.__init__", defArgs s_StillError___init__, defBody s_StillError___init__, defScope s_StillError___init__, [("__class__", cc)], c⟩
/-- what the written part says of StillError at D, of its __init__ at f -/
structure StillC (P : Program) (K : PySem.W.Frag) (mg : Str → Option Value) (D f cc c : Addr) (fd : FuncData) : Prop where
  fn : ∃ (oc kV doc pm ct : Value) (od an : Option Addr) (osl : Array (Option Value)) (T : Addr), fd = PySem.W.fnX "__init__" "StillError.__init__" (defArgs s_StillError___init__) (defBody s_StillError___init__) (defScope s_StillError___init__) [("__class__", cc)] (.ref T) kV doc pm an (.ref c) ct ∧
    K.lookup f = some ⟨oc, od, .func fd, osl⟩ ∧ ∃ (o : Obj) (u : Value) (n : Nat), K.lookup T = some o ∧ o.data = .seq #[u] n
  cd : PySem.W.codeIn K (.ref c) "StillError.__init__" = true
  sup : SupD P K mg D cc c
  ty : PySem.W.typeIn K (.ref f) = some (.type "function")
  fnf : PySem.W.fnIn K f = true
/-- of an error's class C, called nm -/
structure ErrC (K : PySem.W.Frag) (C D0 : Addr) (nm : Str) : Prop where
  ox : OexC K C
  en : ErrN K C nm
  sB : SupC K C D0 (.builtin "ValueError.__init__")
  ncn : PySem.W.findIn K (.ref C) "class_name" = some none
def spStill (K : PySem.W.Frag) (D0 : Addr) : Sp := fun vs H Q _ => ∃ (a C : Addr) (nm m : Str), vs = [.ref a, .str m] ∧ m.length ≤ 200000 ∧ H a = some (exo a C none) ∧ ErrC K C D0 nm ∧
  ∀ dx, H dx = none → dx ≠ a → Q .non (upd (upd H dx (exd dx [("class_name", .str nm)])) a (exo a C (some dx)))
section
variable {P : Program} {w : World} {K : PySem.W.Frag} {mg : Str → Option Value} {base : Heap} {D f cc c : Addr} {fd : FuncData}
theorem ok_still (N : StillC P K mg D f cc c fd) : FnOk P w K mg base CX0 2 f fd ["self", "message"] (spStill K D) := by
  obtain ⟨oc, kV, doc, pm, ct, od, an, osl, T, rfl, lk, _⟩ := N.fn
  refine fn_superB (F := nfStill cc c) (cc := cc) (D := D) (k := 1) lk rfl N.cd rfl nsc_StillError (by rfl) rfl rfl N.sup (fun vs H Q E h => ?_) (fun A outer s H vs Q E hr h => ?_)
  · obtain ⟨a, C, nm, m, rfl, _⟩ := h
    rfl
  obtain ⟨a, C, nm, m, rfl, lm, ha, e, q⟩ := h
  refine ⟨_, _, a, C, pa_cons (pe_joined1 (pe_fmt (pv 1))) pa_nil, pss_one (ps_ost (pv 0) (pe_clsname (pv 0))), rfl, ha, e.ox, e.sB, ?_⟩
  refine ⟨_, rfl, .inl ⟨m, rfl, by rw [sizeLine_eq]; omega, ?_⟩⟩
  refine ⟨?_, ha, ?_⟩
  · show 1 ≤ 1000
    decide
  refine ⟨_, rfl, a, C, nm, rfl, ha, e.en, _, rfl, a, C, rfl, e.ox, e.ncn, .inl ⟨ha, fun dx n ne => q dx n ne⟩⟩
theorem binds_still (N : StillC P K mg D f cc c fd) : Binds K fd ["self", "message"] [] := by
  obtain ⟨oc, kV, doc, pm, ct, od, an, osl, T, rfl, lk, o, u, n, lT, oT⟩ := N.fn
  intro s us X hl
  match us, hl with
  | [a, b], _ =>
    refine BindsTo.of_looks fun M => ?_
    have e : ∃ k, bindArgs (PySem.W.fnX "__init__" "StillError.__init__" (defArgs s_StillError___init__) (defBody s_StillError___init__) (defScope s_StillError___init__) [("__class__", cc)] (.ref T) kV doc pm an (.ref c) ct) ⟨[a, b], []⟩ = seqItems? (.ref T) >>= k ∧ k (some #[u]) = (pure [(("self" : Str), a), (("message" : Str), b)] : Sem (List (Str × Value))) := by
      refine ⟨_, rfl, ?_⟩
      first
        | rfl
        | (simp only [Option.getD]; rfl)
        | kernel_rfl
        | (with_unfolding_all rfl)
    obtain ⟨k, e1, e2⟩ := e
    show PySem.W.Looks M _ (bindArgs _ ⟨[a, b], []⟩) _
    rw [e1]
    exact looks_items X lT oT (.of_pure e2)
end
end My
namespace My
open PySem L2 NdefX
/-! NoBridge: its __init__, and raising it -/
abbrev s_NoBridge___init__ : Stmt := (inClass (top 6)).getD 0 (.Pass ⟨0, 0, 0, 0⟩)
theorem nsc_NoBridge : NScope ["self", "what", "__class__"] ["self", "what"] ["__class__"] (defScope s_NoBridge___init__) := nscope_by (by decide +kernel)
def nfNoBridge (cc c : Addr) : NF := ⟨"__init__", "NoBridge.__init__", defArgs s_NoBridge___init__, defBody s_NoBridge___init__, defScope s_NoBridge___init__, [("__class__", cc)], c⟩
/-- what the written part says of the class NoBridge at D, of its __init__ at fI; of StillError's at f0 -/
structure NoBridgeC (P : Program) (K : PySem.W.Frag) (mg : Str → Option Value) (D fI cc c : Addr) (fd : FuncData) (D0 f0 c0 e0 : Addr) (fd0 : FuncData) : Prop where
  fn : ∃ (oc kV doc pm ct : Value) (od an : Option Addr) (osl : Array (Option Value)), fd = PySem.W.fnX "__init__" "NoBridge.__init__" (defArgs s_NoBridge___init__) (defBody s_NoBridge___init__) (defScope s_NoBridge___init__) [("__class__", cc)] .none kV doc pm an (.ref c) ct ∧
    K.lookup fI = some ⟨oc, od, .func fd, osl⟩
  cd : PySem.W.codeIn K (.ref c) "NoBridge.__init__" = true
  sup : SupD P K mg D cc c
  still : StillC P K mg D0 f0 c0 e0 fd0
  sF : SupC K D D (.ref f0)
  err : ErrC K D D0 "NoBridge"
  ini : PySem.W.findIn K (.ref D) "__init__" = some (some (.ref fI))
  ty : PySem.W.typeIn K (.ref fI) = some (.type "function")
  nwhat : PySem.W.findIn K (.ref D) "what" = some none
  m : mg "NoBridge" = some (.ref D)
/-- such an error's dict -/
abbrev xdNoBridge (x : Str) : HO := .xd [("what", .str x), ("class_name", .str "NoBridge")]
def spNoBridge (D : Addr) : Sp := fun vs H Q _ => ∃ (a : Addr) (x : Str), vs = [.ref a, .str x] ∧ x.length ≤ 100000 ∧ H a = some (exo a D none) ∧ ∀ dx H2, H dx = none → dx ≠ a → H2 a = some (exo a D (some dx)) → H2 dx = some (exd dx [("what", .str x), ("class_name", .str "NoBridge")]) → (∀ b o, b ≠ a → H b = some o → H2 b = some o) → Q .non H2
section
variable {P : Program} {w : World} {K : PySem.W.Frag} {mg : Str → Option Value} {base : Heap} {D fI cc c D0 f0 c0 e0 : Addr} {fd fd0 : FuncData}
theorem ok_NoBridge (N : NoBridgeC P K mg D fI cc c fd D0 f0 c0 e0 fd0) : FnOk P w K mg base CX0 3 fI fd ["self", "what"] (spNoBridge D) := by
  obtain ⟨oc, kV, doc, pm, ct, od, an, osl, rfl, lk⟩ := N.fn
  refine fn_superF (F := nfNoBridge cc c) (cc := cc) (D := D) (k := 2) lk rfl N.cd rfl nsc_NoBridge (by rfl) rfl rfl N.sup (fun vs H Q E h => ?_) (ok_still (w := w) (base := base) N.still) (binds_still N.still) N.still.ty N.still.fnf (by decide) (fun A outer s H vs Q E hr h => ?_)
  · obtain ⟨a, x, rfl, _⟩ := h
    rfl
  obtain ⟨a, x, rfl, lx, ha, q⟩ := h
  refine ⟨_, _, a, D, pa_cons (pe_joined (.cons pe_str (.cons (pe_fmt (pv 1)) .nil))) pa_nil, pss_one (ps_ost (pv 0) (pv 1)), rfl, ha, N.sF, ?_⟩
  have lp : (Str.empty ++ ("no bridge: " : Str)).length ≤ 100 := by decide +kernel
  have l2 : (Str.empty ++ ("no bridge: " : Str) ++ x).length ≤ 200000 := by rw [PySem.Str.length_append]; omega
  refine ⟨_, rfl, ?_, _, rfl, .inl ⟨x, rfl, ?_, _, rfl, ?_, ?_⟩⟩
  · rw [sizeLine_eq]
    omega
  · rw [sizeLine_eq]
    omega
  · rw [sizeLine_eq]
    omega
  refine ⟨a, D, "NoBridge", _, rfl, l2, ha, N.err, fun dx ndx ne => ?_⟩
  have e1 : (upd (upd H dx (exd dx [("class_name", .str "NoBridge")])) a (exo a D (some dx))) a = some (exo a D (some dx)) := upd_same
  have e2 : (upd (upd H dx (exd dx [("class_name", .str "NoBridge")])) a (exo a D (some dx))) dx = some (exd dx [("class_name", .str "NoBridge")]) := by rw [upd_ne ne, upd_same]
  refine ⟨_, rfl, _, rfl, a, D, rfl, N.err.ox, N.nwhat, .inr ⟨dx, _, e1, e2, (by show 1 ≤ 900; decide), ?_⟩⟩
  refine q dx _ ndx ne (by rw [upd_ne ne.symm]; exact e1) upd_same fun b o nb hb => ?_
  have n1 : b ≠ dx := ne_of_none hb ndx
  rw [upd_ne n1, upd_ne nb, upd_ne n1]
  exact hb
theorem binds_NoBridge (N : NoBridgeC P K mg D fI cc c fd D0 f0 c0 e0 fd0) : Binds K fd ["self", "what"] [] := by
  obtain ⟨oc, kV, doc, pm, ct, od, an, osl, rfl, lk⟩ := N.fn
  exact .all fun us hl => match us, hl with | [a, b], _ => rfl
/-- what NoBridge(x) must keep -/
theorem mk_NoBridge {H : Hp} {x : Str} {Q : XK} (lx : x.length ≤ 100000) (q : ∀ d H', Same H H' → H d = none → H' d = some (xdNoBridge x) → Q (.ref D) (some d) H') : ([V.str x] : List V).length ≤ 1000 ∧ ∀ a, H a = none → spNoBridge D (.ref a :: ([V.str x] ++ [])) (upd H a (exo a D none))
    (fun v H2 => v = .non ∧ ∃ (d : Addr) (fs : List (Str × V)), H2 a = some (exo a D (some d)) ∧ H2 d = some (exd d fs) ∧ H d = none ∧ Q (.ref D) (some d) (upd (del H2 a) d (.xd fs))) (fun _ _ _ => False) := by
  refine ⟨by show 1 ≤ 1000; decide, fun a na => ⟨a, x, rfl, lx, upd_same, fun dx H2 ndx ne h1 h2 hk => ?_⟩⟩
  rw [upd_ne ne] at ndx
  refine ⟨rfl, dx, _, h1, h2, ndx, q dx _ (fun b o hb => ?_) ndx upd_same⟩
  have n1 : b ≠ dx := ne_of_none hb ndx
  have n2 : b ≠ a := ne_of_none hb na
  rw [upd_ne n1, del_ne n2]
  exact hk b o n2 (by rw [upd_ne n2]; exact hb)
end
section
variable {X : Cx} {D fI cc c D0 f0 c0 e0 : Addr} {fd fd0 : FuncData} {e : Expr} {es : List Expr} {ta : TA} {W : WX} {p pos pos' : Pos}
theorem ps_NoBridge (N : NoBridgeC X.prog X.K X.mg D fI cc c fd D0 f0 c0 e0 fd0) (hc : X.calm = true) (tk : Takes X W) (hr : Room 4 X.A) (ha : PA X (e :: es) ta) (hg : Gl X "NoBridge" := by rfl)
    (he : starEach (e :: es) X.env = (false, eval e X.env) :: starEach es X.env := by rfl) (hpl : (backTo pos (starEach es X.env)).any (·.1) = false := by rfl) :
    PS X (.Raise (some (.Call (.Name "NoBridge" p) (e :: es) [] pos)) none pos') (fun _ σ H => tMkO D (spNoBridge D) [] ta σ H fun cls d H' => W cls d σ H') :=
  ps_raise hc tk (pmk_oex N.err.ox N.ini N.ty (ok_NoBridge (w := X.w) (base := X.base) N) hr (binds_NoBridge N) .nil pass0 hg N.m ha (by decide) he hpl)
end
end My
namespace My
open PySem PySem.Spec PyProof.Rows L2 NdefX LamX
/-! filled, unfolded, where an argument may be lacking: then NoBridge of the first such door -/
/-- a row of a bridge: its door, the names of its parameters, its template -/
abbrev Rw := Str × List Str × Tm
def EntA (H : Hp) (v : V) (x : Str) : Prop := ∃ (a : Addr) (kv bv : V), v = .ref a ∧ H a = some (.tup [.str x, kv, bv])
theorem EntA.mono {H H' : Hp} (t : Tups H H') {v : V} {x : Str} (h : EntA H v x) : EntA H' v x := by
  obtain ⟨a, kv, bv, e, h⟩ := h
  exact ⟨a, kv, bv, e, t _ _ h⟩
def RowAt (H : Hp) (v : V) (r : Rw) : Prop := ∃ (a b : Addr) (fvs : List V) (av tv : V), v = .ref a ∧ H a = some (.tup [.str r.1, .ref b, av, tv]) ∧ H b = some (.tup fvs) ∧ Paired (EntA H) fvs r.2.1 ∧ TmAt H tv r.2.2
theorem RowAt.mono {H H' : Hp} (t : Tups H H') {v : V} {r : Rw} (h : RowAt H v r) : RowAt H' v r := by
  obtain ⟨a, b, fvs, av, tv, e, h1, h2, h3, h4⟩ := h
  exact ⟨a, b, fvs, av, tv, e, t _ _ h1, t _ _ h2, Paired.mono (fun _ _ z => z.mono t) h3, h4.mono t⟩
noncomputable def fchg (σ : Str → Option Tm) : Tm → Tm
  | .nd (.hole x) ts => (σ x).getD (.nd (.hole x) ts)
  | t => t
noncomputable def fill (σ : Str → Option Tm) (t : Tm) : Tm := Tm.reb (fchg σ) t
noncomputable def tplOf (rows : List Rw) (x : Str) : Option Tm := (rows.find? fun r => decide (r.1 = x)).map (·.2.2)
noncomputable def uchg (rows : List Rw) : Tm → Tm
  | .nd (.call x ns) ts => match tplOf rows x with
    | some t => fill (argm ns ts) t
    | none => .nd (.call x ns) ts
  | t => t
noncomputable def unf (rows : List Rw) (t : Tm) : Tm := Tm.reb (uchg rows) t
/-- a hole that nothing is told for -/
def ownN (ns : List Str) (z : Str) : Hd → Option Str
  | .hole x => if x ∈ ns then none else some z
  | _ => none
/-- a call that lacks what its template asks -/
noncomputable def ownU (rows : List Rw) : Hd → Option Str
  | .call x ns => match tplOf rows x with
    | some tp => Tm.lk (ownN ns x) tp
    | none => none
  | _ => none
theorem unf_call {rows : List Rw} {h : Hd} {ts : List Tm} : unf rows (.nd h ts) = uchg rows (.nd h (ts.map (unf rows))) := by
  unfold unf
  rw [Tm.reb, Tm.rebs_map]
theorem fill_nd {σ : Str → Option Tm} {h : Hd} {ts : List Tm} : fill σ (.nd h ts) = fchg σ (.nd h (ts.map (fill σ))) := by
  unfold fill
  rw [Tm.reb, Tm.rebs_map]
theorem fchg_other {σ : Str → Option Tm} {h : Hd} {ts : List Tm} (n : ∀ x, h ≠ .hole x) : fchg σ (.nd h ts) = .nd h ts := by
  cases h <;> first | rfl | exact absurd rfl (n _)
theorem uchg_other {rows : List Rw} {h : Hd} {ts : List Tm} (n : ∀ x ns, h ≠ .call x ns) : uchg rows (.nd h ts) = .nd h ts := by
  cases h <;> first | rfl | exact absurd rfl (n _ _)
theorem ownN_other {ns : List Str} {z : Str} {h : Hd} (n : ∀ x, h ≠ .hole x) : ownN ns z h = none := by
  cases h <;> first | rfl | exact absurd rfl (n _)
theorem ownN_hole {ns : List Str} {z x : Str} : ownN ns z (.hole x) = if x ∈ ns then none else some z := rfl
theorem ownU_other {rows : List Rw} {h : Hd} (n : ∀ x ns, h ≠ .call x ns) : ownU rows h = none := by
  cases h <;> first | rfl | exact absurd rfl (n _ _)
theorem ownU_call {rows : List Rw} {x : Str} {ns : List Str} : ownU rows (.call x ns) = match tplOf rows x with
    | some tp => Tm.lk (ownN ns x) tp
    | none => none := rfl
theorem uchg_call {rows : List Rw} {x : Str} {ns : List Str} {ts : List Tm} : uchg rows (.nd (.call x ns) ts) = match tplOf rows x with
    | some t => fill (argm ns ts) t
    | none => .nd (.call x ns) ts := rfl
theorem fchg_hole {σ : Str → Option Tm} {x : Str} {ts : List Tm} {t : Tm} (e : σ x = some t) : fchg σ (.nd (.hole x) ts) = t := by
  show (σ x).getD (.nd (.hole x) ts) = t
  rw [e]
  rfl
theorem Hd.wrd_holeN {h : Hd} : h.wrd = "hole" ↔ ∃ x, h = .hole x := by
  constructor
  · intro e
    cases h <;> first | exact ⟨_, rfl⟩ | exact absurd e (by simp only [Hd.wrd]; decide)
  · rintro ⟨x, rfl⟩
    rfl
theorem Hd.wrd_callN {h : Hd} : h.wrd = "call" ↔ ∃ x ns, h = .call x ns := by
  constructor
  · intro e
    cases h <;> first | exact ⟨_, _, rfl⟩ | exact absurd e (by simp only [Hd.wrd]; decide)
  · rintro ⟨x, ns, rfl⟩
    rfl
/-! filled -/
abbrev s_fchg : Stmt := (defBody s_filled).getD 0 (.Pass ⟨0, 0, 0, 0⟩)
abbrev q_fchg : Str := "filled.<locals>.change"
def mkFch (cl : List (Str × Addr)) (c : Addr) : NF := NF.of s_fchg "change" q_fchg cl c
theorem nsc_fch : NScope ["term", "door", "arguments"] ["term"] ["door", "arguments"] (C8.fnScope s_fchg) := nscope_by (by decide +kernel)
theorem cap_fch : ndefB (defScope s_filled) (C8.fnScope s_fchg) ["door", "arguments"] = true := by decide +kernel
def spFch (D : Addr) (ws : List (Option V)) : Sp := fun vs H Q E => ∃ (z : Str) (da : Addr) (v : V) (h : Hd) (ps : List V) (kvs : List (Key × V)), ws = [some (.str z), some (.ref da)] ∧ z.length ≤ 1000 ∧ vs = [v] ∧ NdAt H v h ps ∧ H da = some (.dK kvs) ∧
  (∀ x, h = .hole x → ∀ u, valV kvs (Sum.inr x : Key) = some u → Q u H) ∧ (∀ x, h = .hole x → valV kvs (Sum.inr x : Key) = none → ∀ d' H', Same H H' → H d' = none → H' d' = some (xdNoBridge z) → E (.ref D) (some d') H') ∧ ((∀ x, h ≠ .hole x) → Q v H)
section
variable {P : Program} {w : World} {K : PySem.W.Frag} {mg : Str → Option Value} {base : Heap} {D fI cc c D0 fS cS eS : Addr} {fdI fdS : FuncData}
theorem ok_fch (N : NoBridgeC P K mg D fI cc c fdI D0 fS cS eS fdS) (cl : List (Str × Addr)) (f c' : Addr) : NOk P w K mg base (L2.CX P w) 5 f (mkFch cl c') ["term"] ["door", "arguments"] (spFch D) := by
  refine nok_of nsc_fch (fun doc pm ctv us hl => match us, hl with | [_], _ => rfl) (fun ws vs H Q E h => ?_) (fun A outer s H vs ws Q E hr hf hc hw h => ?_)
  · obtain ⟨z, da, v, h, ps, kvs, _, _, rfl, _⟩ := h
    rfl
  obtain ⟨z, da, v, h, ps, kvs, rfl, lz, rfl, nd, hd, qh, qe, qn⟩ := h
  refine ⟨_, (pss_cons (ps_if (pt_cmpR op_ne (pe_ix (ixT K rfl) (pv 0) pe_int (fun _ _ => rfl)) pe_str (nomark _)) (pss_one (ps_ret (pv 0))) pss_nil)
    (pss_cons (ps_if (pt_cmp (pc_dnotin (hu_of hr) (pe_ix (ixT K rfl) (pv 0) pe_int (fun _ _ => rfl)) (pv 2)) rfl) (pss_one (ps_NoBridge N rfl (takes_of rfl rfl rfl rfl) (hr.mono (by first | decide | omega)) (pa_cons (pv 1) pa_nil))) pss_nil)
    (pss_one (ps_ret (pe_dget (hu_of hr) (pv 2) (pe_ix (ixT K rfl) (pv 0) pe_int (fun _ _ => rfl)) (fun _ _ => rfl)))))), ?_⟩
  obtain ⟨a, r, rfl, ha⟩ := nd.wrd_at
  refine ⟨_, rfl, _, _, _, _, rfl, rfl, SqT.of ha, at_of (j := 0) rfl rfl, rfl, _, rfl, ?_⟩
  by_cases hh : ∃ x, h = .hole x
  · obtain ⟨x, rfl⟩ := hh
    have qh := qh x rfl
    have qe := qe x rfl
    cases nd with
    | hole ha2 =>
    refine ifF rfl ?_
    refine ⟨_, rfl, _, _, _, _, rfl, rfl, SqT.of ha2, at_of (j := 1) rfl rfl, _, rfl, da, _, rfl, DGet.k (k := Sum.inr x) hd, ?_⟩
    cases hv : valV kvs (Sum.inr x : Key) with
    | none =>
      refine ⟨_, rfl, ifT rfl ?_⟩
      exact ⟨_, rfl, mk_NoBridge (by omega) fun d' H' s' nd' h1 => qe hv d' H' s' nd' h1⟩
    | some u =>
      refine ⟨_, rfl, ifF rfl ?_⟩
      exact ⟨_, rfl, _, rfl, _, _, _, _, rfl, rfl, SqT.of ha2, at_of (j := 1) rfl rfl, da, u, rfl, by rw [← hv]; exact DGet.k (k := Sum.inr x) hd, qh u hv⟩
  · have hn : ∀ x, h ≠ .hole x := fun x e => hh ⟨x, e⟩
    have hw : h.wrd ≠ "hole" := fun e => hh (Hd.wrd_holeN.mp e)
    refine ifT ?_ ⟨_, rfl, qn hn⟩
    have : decide (V.str h.wrd = V.str "hole") = false := decide_eq_false fun e => hw (V.str.inj e)
    show (!decide (V.str h.wrd = V.str "hole")) = true
    rw [this]
    rfl
/-- rebuilt, for the function of filled -/
structure RebF (P : Program) (w : World) (K : PySem.W.Frag) (mg : Str → Option Value) (base : Heap) (T : List NTab) (D : Addr) : Prop where
  ex : ∃ (f0 : Addr) (fd : FuncData), (∀ σ ns z, FnOkL P w K mg base (L2.CX P w) 8 f0 fd ["term", "change"] (spReb T mkFch ["door", "arguments"] (spFch D) (fchg σ) (ownN ns z))) ∧ mg "rebuilt" = some (.ref f0) ∧ PySem.W.keepIn K (.ref f0) = true ∧ Binds K fd ["term", "change"] []
def spFil (D : Addr) (T : List NTab) : Sp := fun vs H Q E => ∃ (z : Str) (v : V) (da : Addr) (t : Tm) (kvs : List (Key × V)) (σ : Str → Option Tm) (ns : List Str), vs = [.str z, v, .ref da] ∧ z.length ≤ 1000 ∧ TmAt H v t ∧ t.size ≤ 900 ∧ H da = some (.dK kvs) ∧
  (∀ y, y ∈ ns → ∃ u s, valV kvs (Sum.inr y : Key) = some u ∧ σ y = some s ∧ TmAt H u s) ∧ (∀ y, y ∉ ns → valV kvs (Sum.inr y : Key) = none) ∧ TabsN T H ∧ (Tm.lk (ownN ns z) t = none → ∀ r H', TmAt H' r (fill σ t) → ExtN H H' → TabsN T H' → Q r H') ∧
  ∀ z', Tm.lk (ownN ns z) t = some z' → ∀ d' H', ExtN H H' → TabsN T H' → H' d' = some (xdNoBridge z') → E (.ref D) (some d') H'
theorem ok_fil {f0 c0 P0 : Addr} {fd : FuncData} {T : List NTab} (F : FunC K "filled" "filled" s_filled f0 fd c0) (TB : TabB base mg c0 P0) (hm : (P0, fun _ _ => q_fchg) ∈ T) (hu : ∀ p ∈ T, p.1 = P0 → p.2 = fun _ _ => q_fchg) (c_rebuilt : RebF P w K mg base T D) :
    FnOk P w K mg base (L2.CX P w) 9 f0 fd ["door", "template", "arguments"] (spFil D T) := by
  obtain ⟨fr, gr, Fr, mr, kr, br⟩ := c_rebuilt.ex
  refine F.okX sc_filled (fun vs H Q E h => ?_) (fun A outer s H vs Q E hr h => ?_)
  · obtain ⟨z, v, da, t, kvs, σ, ns, rfl, _⟩ := h
    rfl
  obtain ⟨z, v, da, t, kvs, σ, ns, rfl, lz, ht, hz, hd, hin, hout, hT, q, qe⟩ := h
  refine ⟨_, (pss_cons (ps_ndefMS (T := T) (nm := fun _ _ => q_fchg) (i := 3) (name := "change") rfl TB rfl hm rfl hu (ndef_free cap_fch) rfl rfl rfl sc_filled.nd rfl (Or.inl rfl) (Or.inl rfl))
    (pss_one (ps_ret (pe_callL (js := [0, 2]) (gs := []) (Fr σ ns z) (hr.mono (by first | decide | omega)) rfl mr kr br (fun ok => Caps.made ok (ndef_free cap_fch) (ndef_fr cap_fch) rfl) (fun _ => rfl) (fun _ _ _ _ _ => GrpsAt.none) (fun σ => passAt (takes_of rfl rfl rfl rfl) σ) (pa_cons (pv 1) (pa_cons (pv 3) pa_nil)))))), ?_⟩
  refine ⟨hT, fun f c' H1 eN nn T1 fn f1 c1 => ?_⟩
  have T01 := tups_ext eN
  refine ⟨_, rfl, _, rfl, _, v, f, c', t, rfl, rfl, rfl, ht.mono T01, by omega, Tm.wide_size hz, f1, c1, T1, fun u s p H' Q' hp pl up x2 T2 hu k => ?_, fun ok r H' hr x2 T2 => q ok r H' hr (eN.trans x2) T2⟩
  have x02 := eN.trans x2
  cases hu with
  | nd nd hps =>
  refine ⟨z, da, u, s.hd, _, kvs, rfl, lz, rfl, nd, x02 _ _ hd (fun _ => nofun), fun x hx u0 hv => ?_, fun x hx hv d' H'' s3 nd' h1 => ?_, fun hn => ?_⟩
  · obtain ⟨h, ts⟩ := s
    obtain rfl : h = .hole x := hx
    have m : x ∈ ns := Classical.byContradiction fun n => by rw [hout x n] at hv; cases hv
    obtain ⟨u1, s0, e1, e2, h3⟩ := hin x m
    rw [hv] at e1
    obtain rfl := Option.some.inj e1
    refine k (show ownN ns z (.hole x) = none from if_pos m) u0 H' ?_ (ExtN.refl _) T2
    rw [Tm.reb, fchg_hole e2]
    exact h3.mono (tups_ext x02)
  · obtain ⟨h, ts⟩ := s
    obtain rfl : h = .hole x := hx
    have m : x ∉ ns := fun n => by
      obtain ⟨u1, s0, e1, _⟩ := hin x n
      rw [hv] at e1
      cases e1
    exact qe z (up z (show ownN ns z (.hole x) = some z from if_neg m)) d' H'' (x02.trans (ExtN.of s3)) (TabsN.ext T2 s3) h1
  · obtain ⟨h, ts⟩ := s
    have hn : ∀ x, h ≠ .hole x := hn
    refine k (ownN_other hn) u H' ?_ (ExtN.refl _) T2
    rw [Tm.reb, fchg_other hn]
    exact .nd nd hps
end
end My
namespace My
open PySem PySem.Spec PyProof.Rows L2 NdefX LamX
/-! unfolded, where an argument may be lacking -/
abbrev s_uchg : Stmt := (defBody s_unfolded).getD 1 (.Pass ⟨0, 0, 0, 0⟩)
abbrev q_uchg : Str := "unfolded.<locals>.change"
def mkUch (cl : List (Str × Addr)) (c : Addr) : NF := NF.of s_uchg "change" q_uchg cl c
theorem nsc_uch : NScope ["each", "templates"] ["each"] ["templates"] (C8.fnScope s_uchg) := nscope_by (by decide +kernel)
theorem cap_uch : ndefB (defScope s_unfolded) (C8.fnScope s_uchg) ["templates"] = true := by decide +kernel
def TplP (H : Hp) (p : Key × V) (r : Rw) : Prop := p.1 = Sum.inr r.1 ∧ TmAt H p.2 r.2.2
theorem tpl_val {H : Hp} {x : Str} : ∀ {kvs : List (Key × V)} {rows : List Rw}, Paired (TplP H) kvs rows → match tplOf rows x with
    | some t => ∃ u, valV kvs (Sum.inr x : Key) = some u ∧ TmAt H u t
    | none => valV kvs (Sum.inr x : Key) = none := by
  intro kvs rows h
  induction h with
  | nil => rfl
  | @cons p r ps rs h _ ih =>
    obtain ⟨k, v⟩ := p
    obtain ⟨e, ht⟩ := h
    have e : k = Sum.inr r.1 := e
    subst e
    unfold tplOf valV
    by_cases c : r.1 = x
    · subst c
      simp only [List.find?_cons, decide_true, Option.map_some]
      exact ⟨v, rfl, ht⟩
    · have c2 : ¬ ((Sum.inr r.1 : Key) = Sum.inr x) := fun z => c (Sum.inr.inj z)
      simp only [List.find?_cons, decide_eq_false c, decide_eq_false c2]
      exact ih
/-- a name that no argument has -/
theorem args_none {y : Str} : ∀ {ns : List Str} {ps : List V}, y ∉ ns → valV ((ns.zip ps).map fun q => ((Sum.inr q.1 : Key), q.2)) (Sum.inr y : Key) = none
  | [], _, _ => rfl
  | x :: ns, [], _ => rfl
  | x :: ns, p :: ps, m => by
    have c2 : ¬ ((Sum.inr x : Key) = Sum.inr y) := fun z => m (List.mem_cons.mpr (.inl (Sum.inr.inj z).symm))
    have ih := args_none (ps := ps) fun z => m (.tail _ z)
    unfold valV at ih ⊢
    simp only [List.zip_cons_cons, List.map_cons, List.find?_cons, decide_eq_false c2]
    exact ih
theorem merge_nodup {ns : List Str} {us : List V} (l : ns.length ≤ us.length) (nns : ns.Nodup) : mergeK [] ((ns.zip us).map fun q => ((Sum.inr q.1 : Key), q.2)) = (ns.zip us).map fun q => ((Sum.inr q.1 : Key), q.2) := by
  rw [merge_self, List.nil_append]
  rw [List.nil_append, List.map_map]
  have e1 : (ns.zip us).map ((fun p : Key × V => p.1) ∘ fun q => ((Sum.inr q.1 : Key), q.2)) = ns.map fun x => (Sum.inr x : Key) := by
    rw [← List.map_fst_zip (l₁ := ns) (l₂ := us) l, List.map_map]
    simp only [List.map_fst_zip (l₁ := ns) (l₂ := us) l]
    rfl
  rw [e1]
  exact List.Pairwise.map _ (fun a b h e => h (Sum.inr.inj e)) nns
def spUch (D : Addr) (T : List NTab) (rows : List Rw) (ws : List (Option V)) : Sp := fun vs H Q E => ∃ (td : Addr) (v : V) (h : Hd) (ts : List Tm) (kvs : List (Key × V)), ws = [some (.ref td)] ∧ vs = [v] ∧ TmAt H v (.nd h ts) ∧ H td = some (.dK kvs) ∧ Paired (TplP H) kvs rows ∧
  (∀ x ns, h = .call x ns → ns.Nodup ∧ x.length ≤ 1000) ∧ (∀ r ∈ rows, r.2.2.size ≤ 900) ∧ TabsN T H ∧ (ownU rows h = none → ∀ r H', TmAt H' r (uchg rows (.nd h ts)) → ExtN H H' → TabsN T H' → Q r H') ∧
  ∀ z, ownU rows h = some z → ∀ d' H', ExtN H H' → TabsN T H' → H' d' = some (xdNoBridge z) → E (.ref D) (some d') H'
theorem tplOf_mem {rows : List Rw} {x : Str} {t : Tm} (h : tplOf rows x = some t) : ∃ r ∈ rows, r.1 = x ∧ r.2.2 = t := by
  obtain ⟨r, hr, e⟩ := Option.map_eq_some_iff.mp h
  exact ⟨r, List.mem_of_find?_eq_some hr, by simpa using List.find?_some hr, e⟩
section
variable {P : Program} {w : World} {K : PySem.W.Frag} {mg : Str → Option Value} {base : Heap} {D : Addr}
theorem ok_uch {T : List NTab} {rows : List Rw} (c_filled : CalX P w K mg base "filled" 9 ["door", "template", "arguments"] (spFil D T)) (B : Bn mg) (cl : List (Str × Addr)) (f c' : Addr) : NOk P w K mg base (L2.CX P w) 10 f (mkUch cl c') ["each"] ["templates"] (spUch D T rows) := by
  refine nok_of nsc_uch (fun doc pm ctv us hl => match us, hl with | [_], _ => rfl) (fun ws vs H Q E h => ?_) (fun A outer s H vs ws Q E hr hf hc hw h => ?_)
  · obtain ⟨td, v, h, ts, kvs, _, rfl, _⟩ := h
    rfl
  obtain ⟨td, v, h, ts, kvs, rfl, rfl, ht, hd, pt, rdy, zs, hT, q, qe⟩ := h
  refine ⟨_, (pss_cons (ps_if (PW.pt (pw_or (pt_cmpR op_ne (pe_ix (ixT K rfl) (pv 0) pe_int (fun _ _ => rfl)) pe_str (nomark _)) (pw_or1 (pt_cmp (pc_dnotin (hu_of hr) (pe_ix (ixT K rfl) (pv 0) pe_int (fun _ _ => rfl)) (pv 1)) rfl)))) (pss_one (ps_ret (pv 0))) pss_nil)
    (pss_one (ps_ret (pcx c_filled (hr.mono (by first | decide | omega)) (takes_of rfl rfl rfl rfl) (pa_cons (pe_ix (ixT K rfl) (pv 0) pe_int (fun _ _ => rfl)) (pa_cons (pe_dget (hu_of hr) (pv 1) (pe_ix (ixT K rfl) (pv 0) pe_int (fun _ _ => rfl)) (fun _ _ => rfl)) (pa_cons (pe_callTy (call_dictF K rfl rfl) (by rfl) B.b_dict (by decide +kernel) (pa_cons (pe_ix (ixT K rfl) (pv 0) pe_int (fun _ _ => rfl)) pa_nil)) pa_nil))))))), ?_⟩
  cases ht with
  | @nd _ _ ps _ nd hps =>
  obtain ⟨a, r, rfl, ha⟩ := nd.wrd_at
  refine ⟨_, rfl, _, _, _, _, rfl, rfl, SqT.of ha, at_of (j := 0) rfl rfl, rfl, _, rfl, ?_⟩
  by_cases hh : ∃ x ns, h = .call x ns
  · obtain ⟨x, ns, rfl⟩ := hh
    obtain ⟨nns, lx⟩ := rdy x ns rfl
    have val := tpl_val (x := x) pt
    have ec := uchg_call (rows := rows) (x := x) (ns := ns) (ts := ts)
    have eo := ownU_call (rows := rows) (x := x) (ns := ns)
    cases nd with
    | @call _ g _ _ qs _ ha2 hg hq =>
    refine iteF ?_
    refine ⟨_, rfl, _, _, _, _, rfl, rfl, SqT.of ha2, at_of (j := 1) rfl rfl, _, rfl, td, _, rfl, DGet.k (k := Sum.inr x) hd, ?_⟩
    cases et : tplOf rows x with
    | none =>
      rw [et] at val ec eo
      rw [show valV kvs (Sum.inr x : Key) = none from val]
      refine ⟨_, rfl, ifT rfl ⟨_, rfl, q eo _ H ?_ (ExtN.refl _) hT⟩⟩
      rw [ec]
      exact .nd (.call ha2 hg hq) hps
    | some tp =>
      rw [et] at val ec eo
      obtain ⟨u, hu, htp⟩ := val
      obtain ⟨r0, mr0, _, er0⟩ := tplOf_mem et
      have ztp : tp.size ≤ 900 := by rw [← er0]; exact zs r0 mr0
      rw [hu]
      refine ⟨_, rfl, ifF rfl ?_⟩
      obtain ⟨as, eqs, pk⟩ := args_kvs (K := K) hq
      have lq := hq.len
      subst eqs
      refine ⟨_, rfl, _, _, _, _, rfl, rfl, SqT.of ha2, at_of (j := 1) rfl rfl, _, rfl, _, rfl, _, _, _, _, rfl, rfl, SqT.of ha2, at_of (j := 1) rfl rfl, td, u, rfl, by rw [← hu]; exact DGet.k (k := Sum.inr x) hd, _, rfl, _, _, _, _, rfl, rfl, SqT.of ha2, at_of (j := 2) rfl rfl, g, as, _, rfl, hg, pk, fun da nda => ?_⟩
      rw [merge_nodup (by omega) nns]
      have s1 := same_new nda (.dK ((ns.zip ps).map fun q => ((Sum.inr q.1 : Key), q.2)))
      have hda : (upd H da (.dK ((ns.zip ps).map fun q => ((Sum.inr q.1 : Key), q.2)))) da = some (.dK ((ns.zip ps).map fun q => ((Sum.inr q.1 : Key), q.2))) := upd_same
      generalize upd H da (.dK ((ns.zip ps).map fun q => ((Sum.inr q.1 : Key), q.2))) = H1 at s1 hda ⊢
      have T1 := Tups.of_same s1
      refine ⟨x, u, da, tp, _, argm ns ts, ns, rfl, lx, htp.mono T1, ztp, hda, fun y hy => ?_, fun y hy => args_none hy, TabsN.ext hT s1, fun ok r1 H' hr1 x2 T2 => q (eo.trans ok) r1 H' ?_ ((ExtN.of s1).trans x2) T2, fun z ez d' H' x2 T2 h1 => qe z (eo.trans ez) d' H' ((ExtN.of s1).trans x2) T2 h1⟩
      · obtain ⟨u1, s1', e1, e2, h3⟩ := args_val (y := y) (by omega) hps hy
        exact ⟨u1, s1', e1, e2, h3.mono T1⟩
      · rw [ec]
        exact hr1
  · have hn : ∀ x ns, h ≠ .call x ns := fun x ns e => hh ⟨x, ns, e⟩
    have hw : h.wrd ≠ "call" := fun e => hh (Hd.wrd_callN.mp e)
    have dw : (!decide (V.str h.wrd = V.str "call")) = true := by
      rw [decide_eq_false fun e => hw (V.str.inj e)]
      rfl
    rw [dw]
    refine iteT (ifT rfl ⟨_, rfl, q (ownU_other hn) _ H ?_ (ExtN.refl _) hT⟩)
    rw [uchg_other hn]
    exact .nd nd hps
structure RebU (P : Program) (w : World) (K : PySem.W.Frag) (mg : Str → Option Value) (base : Heap) (T : List NTab) (D : Addr) : Prop where
  ex : ∃ (f0 : Addr) (fd : FuncData), (∀ rows, FnOkL P w K mg base (L2.CX P w) 13 f0 fd ["term", "change"] (spReb T mkUch ["templates"] (spUch D T rows) (uchg rows) (ownU rows))) ∧ mg "rebuilt" = some (.ref f0) ∧ PySem.W.keepIn K (.ref f0) = true ∧ Binds K fd ["term", "change"] []
/-- the calls in a term name each argument once -/
def Once (t : Tm) : Prop := ∀ p x ns ts, subAt t p = some (.nd (.call x ns) ts) → ns.Nodup ∧ x.length ≤ 1000
def spUnf (D : Addr) (T : List NTab) : Sp := fun vs H Q E => ∃ (l : Addr) (v : V) (rvs : List V) (rows : List Rw) (t : Tm), vs = [.ref l, v] ∧ H l = some (.lst rvs) ∧ Paired (RowAt H) rvs rows ∧ rows.length ≤ 100 ∧ (rows.map (·.1)).Nodup ∧ (∀ r ∈ rows, r.2.2.size ≤ 900) ∧ TmAt H v t ∧ t.size ≤ 50000 ∧ Tm.wide t ∧ Once t ∧ TabsN T H ∧
  (Tm.lk (ownU rows) t = none → ∀ r H', TmAt H' r (unf rows t) → ExtN H H' → TabsN T H' → Q r H') ∧ ∀ z, Tm.lk (ownU rows) t = some z → ∀ d' H', ExtN H H' → TabsN T H' → H' d' = some (xdNoBridge z) → E (.ref D) (some d') H'
def Ptpl (H0 : Hp) (D : Addr) (rows : List Rw) (i : Nat) (H : Hp) : Prop := Same H0 H ∧ ∃ kvs, H D = some (.dK kvs) ∧ Paired (TplP H) kvs (rows.take i)
theorem tpl_keys {H : Hp} {kvs : List (Key × V)} {rows : List Rw} (h : Paired (TplP H) kvs rows) : kvs.map (·.1) = rows.map fun r => (Sum.inr r.1 : Key) := by
  induction h with
  | nil => rfl
  | cons h _ ih => rw [List.map_cons, List.map_cons, h.1, ih]
theorem ok_unf {f0 c0 P0 : Addr} {fd : FuncData} {T : List NTab} (F : FunC K "unfolded" "unfolded" s_unfolded f0 fd c0) (TB : TabB base mg c0 P0) (hm : (P0, fun _ _ => q_uchg) ∈ T) (hu : ∀ p ∈ T, p.1 = P0 → p.2 = fun _ _ => q_uchg) (c_rebuilt : RebU P w K mg base T D) :
    FnOk P w K mg base (L2.CX P w) 14 f0 fd ["bridge", "term"] (spUnf D T) := by
  obtain ⟨fr, gr, Fr, mr, kr, br⟩ := c_rebuilt.ex
  refine F.okX sc_unfolded (fun vs H Q E h => ?_) (fun A outer s H vs Q E hr h => ?_)
  · obtain ⟨l, v, rvs, rows, t, rfl, _⟩ := h
    rfl
  obtain ⟨l, v, rvs, rows, t, rfl, hl, pr, l100, once, zs, ht, hz, hw, on, hT, q, qe⟩ := h
  refine ⟨_, (pss_cons (ps_set (i := 2) sc_unfolded.nd rfl (Or.inr rfl) (pe_dc (own := [("door", 4), ("_", 5), ("template", 6)]) (g := (gTup K 4 (gCons (gName 4) (gCons (gName 5) (gCons (gName 5) (gCons (gName 6) gNil)))))) rfl sc_unfolded.nd (piL K rfl (pv 0)) (blkOk_by (N := ["bridge", "term", "templates", "change", "door", "_", "template"]) (sc := defScope s_unfolded) (by decide +kernel)) (fun _ _ _ _ _ => (pg_tup rfl (pgs_cons (pg_name (i := 4) sc_unfolded.nd rfl (Or.inl rfl) (hf := Or.inr rfl)) (pgs_cons (pg_name (i := 5) sc_unfolded.nd rfl (Or.inl rfl) (hf := Or.inr rfl)) (pgs_cons (pg_name (i := 5) sc_unfolded.nd rfl (Or.inl rfl) (hf := Or.inr rfl)) (pgs_cons (pg_name (i := 6) sc_unfolded.nd rfl (Or.inl rfl) (hf := Or.inr rfl)) pgs_nil)))))) (fun _ _ _ _ _ => pts_nil) (fun _ _ _ _ _ => (pv 4)) (fun _ _ _ _ _ => (pv 6))))
    (pss_cons (ps_ndefMS (T := T) (nm := fun _ _ => q_uchg) (i := 3) (name := "change") rfl TB rfl hm rfl hu (ndef_free cap_uch) rfl rfl rfl sc_unfolded.nd rfl (Or.inl rfl) (Or.inl rfl))
    (pss_one (ps_ret (pe_callL (js := [2]) (gs := []) (Fr rows) (hr.mono (by first | decide | omega)) rfl mr kr br (fun ok => Caps.made ok (ndef_free cap_uch) (ndef_fr cap_uch) rfl) (fun _ => rfl) (fun _ _ _ _ _ => GrpsAt.none) (fun σ => passAt (takes_of rfl rfl rfl rfl) σ) (pa_cons (pv 1) (pa_cons (pv 3) pa_nil))))))), ?_⟩
  refine ⟨_, rfl, l, rfl, ⟨_, SqL.of hl⟩, fun hd nhd => dc_lst (xs := rvs) (Ptpl H hd rows) ?_ ?_ ?_ ?_⟩
  · exact ⟨same_new nhd _, [], upd_same, .nil⟩
  · exact fun i H2 _ p => SqL.of (p.1 _ _ hl)
  · rintro i x H2 hx ⟨s2, kvs, hd2, pk⟩
    obtain ⟨r, hr, c, b, fvs, av, tv, rfl, hc, hb, pf, htv⟩ := Paired.at pr i x hx
    have lt := List.length_take_le' i rows
    have lk := Paired.length pk
    refine ⟨c, _, rfl, SqT.of (s2 _ _ hc), rfl, _, _, rfl, _, _, rfl, _, _, rfl, _, _, rfl, rfl, rfl, ?_⟩
    refine ⟨_, rfl, _, rfl, kvs, Sum.inr r.1, rfl, hd2, line5 (by omega), Same.atNew s2 nhd, _, upd_same, ?_⟩
    have hnone : valV kvs (Sum.inr r.1 : Key) = none := by
      have nin : r.1 ∉ (rows.take i).map (·.1) := by
        rw [List.map_take]
        exact nodup_take_not once (by rw [List.getElem?_map, hr]; rfl)
      unfold valV
      rw [Option.map_eq_none_iff, List.find?_eq_none]
      intro kv hkv z
      have ek : kv.1 = Sum.inr r.1 := of_decide_eq_true z
      have m : kv.1 ∈ kvs.map (·.1) := List.mem_map.mpr ⟨kv, hkv, rfl⟩
      rw [tpl_keys pk, ek] at m
      obtain ⟨q0, hq0, e0⟩ := List.mem_map.mp m
      exact nin (List.mem_map.mpr ⟨q0, hq0, Sum.inr.inj e0⟩)
    have T2 : Tups H2 (upd H2 hd (.dK (kvs ++ [(Sum.inr r.1, tv)]))) := tups_updD (o := .dK (kvs ++ [(Sum.inr r.1, tv)])) hd2
    rw [putK_new hnone, ← take_next hr]
    exact pair_app (Paired.mono (fun _ _ z => ⟨z.1, z.2.mono T2⟩) pk) (.cons ⟨rfl, (htv.mono (Tups.of_same s2)).mono T2⟩ .nil)
  rintro H2 ⟨s2, kvs, hd2, pk⟩
  rw [Paired.length pr, List.take_length] at pk
  dsimp only [gName]
  refine ⟨TabsN.ext hT s2, fun f c' H1 eN nn T1 fn f1 c1 => ?_⟩
  have T02 := Tups.of_same s2
  have T01 := T02.trans (tups_ext eN)
  refine ⟨_, rfl, _, rfl, _, v, f, c', t, rfl, rfl, rfl, ht.mono T01, hz, hw, f1, c1, T1, fun u s0 p H' Q' hp pl up x2 T2 hu0 k => ?_, fun ok r H' hr0 x2 T2 => q ok r H' hr0 (((ExtN.of s2).trans eN).trans x2) T2⟩
  have x12 := eN.trans x2
  refine ⟨hd, u, s0.hd, Tm.rebs (uchg rows) s0.parts, kvs, rfl, rfl, hu0, x12 _ _ hd2 (fun _ => nofun), Paired.mono (fun _ _ z => ⟨z.1, z.2.mono (tups_ext x12)⟩) pk, fun x ns hx => ?_, zs, T2, fun ok r0 H3 hr0 x3 T3 => k ok r0 H3 ?_ x3 T3, fun z ez d' H3 x3 T3 h1 => qe z (up z ez) d' H3 (((ExtN.of s2).trans x12).trans x3) T3 h1⟩
  · obtain ⟨h, ts⟩ := s0
    obtain rfl : h = .call x ns := hx
    exact on p x ns ts hp
  · obtain ⟨h, ts⟩ := s0
    rw [Tm.reb]
    exact hr0
end
end My
namespace My
open PySem PySem.Spec PyProof.Rows L2
/-! xs == [] of a list of whatever -/
def rEqNil (K : PySem.W.Frag) : R2 := fun x y H Q => ∃ (a b : Addr) (xs : List V), x = .ref a ∧ y = .ref b ∧ SqL K H a xs ∧ SqL K H b [] ∧ Q (.bl xs.isEmpty) H
section
variable {X : Cx}
theorem op_eqNil (hu : X.A.units < cLine) : OpR X (compareOp .Eq) (rEqNil X.K) := by
  intro pins s σ H x y v u Q I rx ry h
  obtain ⟨a, b, xs, rfl, rfl, ha, hb, q⟩ := h
  cases rx; cases ry
  obtain ⟨its, rv, pl, _⟩ := I.list ha
  obtain ⟨its2, rv2, pl2, _⟩ := I.list hb
  cases rv2
  have l1 := rv.length
  cases xs with
  | nil =>
    cases rv
    exact SeqAt.RcAt.lists (e := fun _ => true) pl.isList pl2.isList rfl hu (fun j h1 _ => absurd h1 (Nat.not_lt_zero _)) _ _ _ _ ⟨.bl true, H, I, rfl, q⟩
  | cons z zs => exact SeqAt.RcAt.lists_lengths pl.isList pl2.isList (by rw [List.size_toArray, ← l1]; rfl) hu _ _ _ _ ⟨.bl false, H, I, rfl, q⟩
theorem eqNil (K : PySem.W.Frag) (hK : X.K = K) (hu : X.A.units + 64 < cLine) : OpR X (compareOp .Eq) (rEqNil K) := by
  subst hK
  exact op_eqNil (by omega)
end
end My
namespace My
open PySem PySem.Spec PyProof.Rows L2
/-! xs != [] of a list of whatever -/
def rNeNil (K : PySem.W.Frag) : R2 := fun x y H Q => ∃ (a b : Addr) (xs : List V), x = .ref a ∧ y = .ref b ∧ SqL K H a xs ∧ SqL K H b [] ∧ Q (.bl (!xs.isEmpty)) H
section
variable {X : Cx}
theorem op_neNil (hu : X.A.units < cLine) : OpR X (compareOp .NotEq) (rNeNil X.K) := by
  intro pins s σ H x y v u Q I rx ry h
  obtain ⟨a, b, xs, rfl, rfl, ha, hb, q⟩ := h
  cases rx; cases ry
  obtain ⟨its, rv, pl, _⟩ := I.list ha
  obtain ⟨its2, rv2, pl2, _⟩ := I.list hb
  cases rv2
  have l1 := rv.length
  cases xs with
  | nil =>
    cases rv
    exact SeqAt.RcNeAt.lists (e := fun _ => true) pl.isList pl2.isList rfl hu (fun j h1 _ => absurd h1 (Nat.not_lt_zero _)) _ _ _ _ ⟨.bl false, H, I, rfl, q⟩
  | cons z zs => exact SeqAt.RcNeAt.lists_lengths pl.isList pl2.isList (by rw [List.size_toArray, ← l1]; rfl) hu _ _ _ _ ⟨.bl true, H, I, rfl, q⟩
theorem neNil (K : PySem.W.Frag) (hK : X.K = K) (hu : X.A.units + 64 < cLine) : OpR X (compareOp .NotEq) (rNeNil K) := by
  subst hK
  exact op_neNil (by omega)
end
end My
namespace My
open PySem L2 NdefX LamX
/-! the law's own filling and unfolding: a term, and whether it lacks something -/
inductive FlsAt (H : Hp) (B : Tm → V) (G : Hp → V → Tm → Prop) : List Tm → List V → List V → Prop
  | nil : FlsAt H B G [] [] []
  | cons {t : Tm} {c : Addr} {u : V} {ts : List Tm} {rvs us : List V} (h : H c = some (.tup [u, B t])) (g : G H u t) (r : FlsAt H B G ts rvs us) : FlsAt H B G (t :: ts) (.ref c :: rvs) (u :: us)
section
variable {H H' : Hp} {B : Tm → V} {G : Hp → V → Tm → Prop}
theorem FlsAt.mono (mn : ∀ u t, G H u t → G H' u t) (T : Tups H H') : ∀ {ts : List Tm} {rvs us : List V}, FlsAt H B G ts rvs us → FlsAt H' B G ts rvs us
  | _, _, _, .nil => .nil
  | _, _, _, .cons h g r => .cons (T _ _ h) (mn _ _ g) (FlsAt.mono mn T r)
theorem FlsAt.len : ∀ {ts : List Tm} {rvs us : List V}, FlsAt H B G ts rvs us → rvs.length = ts.length ∧ us.length = ts.length
  | _, _, _, .nil => ⟨rfl, rfl⟩
  | _, _, _, .cons h g r => by
    obtain ⟨a, b⟩ := r.len
    exact ⟨congrArg (· + 1) a, congrArg (· + 1) b⟩
theorem FlsAt.app : ∀ {ts : List Tm} {rvs us : List V}, FlsAt H B G ts rvs us → ∀ {t : Tm} {c : Addr} {u : V}, H c = some (.tup [u, B t]) → G H u t → FlsAt H B G (ts ++ [t]) (rvs ++ [.ref c]) (us ++ [u])
  | _, _, _, .nil, _, _, _, h, g => .cons h g .nil
  | _, _, _, .cons h' g' r, _, _, _, h, g => .cons h' g' (r.app h g)
theorem FlsAt.get : ∀ {ts : List Tm} {rvs us : List V}, FlsAt H B G ts rvs us → ∀ (i : Nat) (t : Tm), ts[i]? = some t → ∃ c u, rvs[i]? = some (.ref c) ∧ us[i]? = some u ∧ H c = some (.tup [u, B t]) ∧ G H u t
  | _, _, _, .nil, i, t, e => by simp at e
  | _, _, _, .cons h g r, 0, t, e => by
    obtain rfl := Option.some.inj e
    exact ⟨_, _, rfl, rfl, h, g⟩
  | _, _, _, .cons h g r, i + 1, t, e => r.get i t e
theorem FlsAt.prs (h : FlsAt H B G ts rvs us) : PrsAt H rvs us := by
  obtain ⟨l1, l2⟩ := h.len
  refine ⟨by omega, fun i u e => ?_⟩
  obtain ⟨t, ht⟩ : ∃ t, ts[i]? = some t := ⟨_, List.getElem?_eq_getElem (by have := (List.getElem?_eq_some_iff.mp e).1; omega)⟩
  obtain ⟨c, u', e1, e2, e3, _⟩ := h.get i t ht
  obtain rfl : u' = u := Option.some.inj (e2.symm.trans e)
  exact ⟨c, _, e1, e3⟩
/-- where each part is right, the parts are -/
theorem FlsAt.tms {F : Tm → Tm} : ∀ {ts : List Tm} {rvs us : List V}, FlsAt H B G ts rvs us → (∀ t ∈ ts, ∀ u, G H u t → TmAt H u (F t)) → TmsAt H us (ts.map F)
  | _, _, _, .nil, _ => .nil
  | _, _, _, .cons h g r, k => .cons (k _ (.head _) _ g) (r.tms fun t m => k t (.tail _ m))
end
/-- heads with parts are of the few -/
def Tm.fewT (t : Tm) : Prop := ∀ p h ts, subAt t p = some (.nd h ts) → ts ≠ [] → h.few
theorem Tm.fewT_part {h : Hd} {ts : List Tm} {i : Nat} {t : Tm} (w : Tm.fewT (.nd h ts)) (e : ts[i]? = some t) : Tm.fewT t := fun p h2 ts2 hp => w (i :: p) h2 ts2 (subAt_cons e hp)
theorem Tm.fewT_self {h : Hd} {ts : List Tm} (w : Tm.fewT (.nd h ts)) : ts ≠ [] → h.few := w [] h ts rfl
theorem depths_mem {t : Tm} : ∀ {ts : List Tm}, t ∈ ts → t.depth ≤ Tm.depths ts := Tm.depths_mem
theorem TmsAt.getV {H : Hp} : ∀ {vs : List V} {ts : List Tm} {i : Nat} {v : V}, TmsAt H vs ts → vs[i]? = some v → ∃ t, ts[i]? = some t ∧ TmAt H v t
  | _, _, i, v, .nil, e => by simp at e
  | _, _, 0, v, .cons a _, e => by
    obtain rfl := Option.some.inj e
    exact ⟨_, rfl, a⟩
  | _, _, i + 1, v, .cons _ r, e => TmsAt.getV (i := i) r e
def isB (o : Option Str) : V := .bl o.isSome
def GdF (σ : Str → Option Tm) (ns : List Str) (z : Str) (gd : Prop) (H : Hp) (u : V) (t : Tm) : Prop := Tm.lk (ownN ns z) t = none → gd → TmAt H u (fill σ t)
theorem GdF.mono {σ : Str → Option Tm} {ns : List Str} {z : Str} {gd : Prop} {H H' : Hp} (T : Tups H H') (u : V) (t : Tm) (h : GdF σ ns z gd H u t) : GdF σ ns z gd H' u t := fun a b => (h a b).mono T
theorem any_lks {own : Hd → Option Str} : ∀ ts : List Tm, ((ts.map fun t => (Tm.lk own t).isSome).any id) = (Tm.lks own ts).isSome
  | [] => by rw [Tm.lks]; rfl
  | t :: r => by
    rw [Tm.lks, List.map_cons, List.any_cons, any_lks r]
    cases Tm.lk own t <;> simp
def spFl (e : Nat) : Sp := fun vs H Q _ => ∃ (v : V) (da : Addr) (t : Tm) (kvs : List (Key × V)) (σ : Str → Option Tm) (ns : List Str) (z : Str) (gd : Prop), vs = [v, .ref da] ∧ TmAt H v t ∧ t.depth ≤ e ∧ Tm.wide t ∧ Tm.fewT t ∧ H da = some (.dK kvs) ∧
  (∀ y, y ∈ ns → ∃ u, valV kvs (Sum.inr y : Key) = some u ∧ (gd → ∃ s, σ y = some s ∧ TmAt H u s)) ∧ (∀ y, y ∉ ns → valV kvs (Sum.inr y : Key) = none) ∧
  ∀ c rv H', Same H H' → H' c = some (.tup [rv, isB (Tm.lk (ownN ns z) t)]) → GdF σ ns z gd H' rv t → Q (.ref c) H'
def Pfl (D : Addr) (B : Tm → V) (G : Hp → V → Tm → Prop) (H0 : Hp) (ts : List Tm) (i : Nat) (H : Hp) : Prop := Same H0 H ∧ ∃ rvs us, H D = some (.lst rvs) ∧ FlsAt H B G (ts.take i) rvs us
def Pbl (H0 : Hp) (D : Addr) (own : Hd → Option Str) (ts : List Tm) (i : Nat) (H : Hp) : Prop := Same H0 H ∧ H D = some (.lst (((ts.take i).map fun t => (Tm.lk own t).isSome).map V.bl))
section
variable {P : Program} {w : World} {K : PySem.W.Frag} {mg : Str → Option Value} {base : Heap} {f : Addr} {fd : FuncData}
theorem ok_fl (B : Bn mg) (F : Fun K "_law_filled" "_law_filled" s__law_filled f fd) (hm : mg "_law_filled" = some (.ref f)) (hb : Binds K fd ["template", "given"] []) (c__law_listed : Cal P w K mg base "_law_listed" 1 ["prog"] spPartsB)
    (c__law_parts_and : Cal P w K mg base "_law_parts_and" 1 ["prog", "change"] spPa) : ∀ e, FnOk P w K mg base CX0 (e + 2) f fd ["template", "given"] (spFl e)
  | 0 => by
    have no : ∀ vs H Q E, ¬ spFl 0 vs H Q E := fun vs H Q E h => by
      obtain ⟨v, da, t, kvs, σ, ns, z, gd, _, _, z, _⟩ := h
      obtain ⟨h, ts⟩ := t
      have z : Tm.depths ts + 1 ≤ 0 := z
      omega
    exact ⟨fun vs H Q E h => absurd h (no vs H Q E), fun A outer s H args us vs Q E _ _ _ _ h => absurd h (no vs H Q E)⟩
  | e + 1 => by
    have c__law_filled : Cal P w K mg base "_law_filled" (e + 2) ["template", "given"] (spFl e) := ⟨f, fd, ok_fl B F hm hb c__law_listed c__law_parts_and e, hm, F.kp, hb⟩
    refine F.ok sc__law_filled (fun vs H Q E h => ?_) (fun cdv A outer s H vs Q E hr h => ?_)
    · obtain ⟨v, da, t, kvs, σ, ns, z, gd, rfl, _⟩ := h
      rfl
    obtain ⟨v, da, t, kvs, σ, ns, z, gd, rfl, ht, hz, hw, hfw, hd, hin, hout, q⟩ := h
    refine ⟨_, (pss_cons (ps_if (pt_cmpR op_eq (pe_ix (ixT K rfl) (pv 0) pe_int (fun _ _ => rfl)) pe_str (nomark _)) (pss_one (ps_ret (pe_tup (pa_cons (pe_dget1 (hu_of hr) (pv 1) (pe_ix (ixT K rfl) (pv 0) pe_int (fun _ _ => rfl)) ⟨by rfl, by rfl, by rfl, by rfl⟩) (pa_cons (pe_cmp (pc_dnotin (hu_of hr) (pe_ix (ixT K rfl) (pv 0) pe_int (fun _ _ => rfl)) (pv 1)) rfl) pa_nil))))) pss_nil)
    (pss_cons (ps_setLc (i := 2) (own := [("part", 3)]) (g := (gName 3)) rfl sc__law_filled.nd rfl rfl (sw_true rfl rfl rfl (by decide +kernel)) (piL K rfl (pc c__law_listed (hr.mono (by first | decide | omega)) (pa_cons (pv 0) pa_nil))) (blkOk_by (N := ["template", "given", "parts", "part", "one"]) (sc := defScope s__law_filled) (by decide +kernel)) (fun _ _ _ _ _ => (pg_name (i := 3) sc__law_filled.nd rfl (Or.inl rfl) (hf := Or.inr rfl))) (fun _ _ _ _ _ => pts_nil) (fun _ _ _ _ _ => (pc c__law_filled (hr.mono (by first | decide | omega)) (pa_cons (pv 3) (pa_cons (pv 1) pa_nil)))))
    (pss_cons (ps_if (pt_cmpR (eqNil K rfl hr.units) (pv 2) (pe_lst pa_nil) (nomark _)) (pss_one (ps_ret (pe_tup (pa_cons (pv 0) (pa_cons pe_bl pa_nil))))) pss_nil)
    (pss_one (ps_ret (pe_tup (pa_cons (pc c__law_parts_and (hr.mono (by first | decide | omega)) (pa_cons (pv 0) (pa_cons (pv 2) pa_nil))) (pa_cons (pe_callB (anyOf K rfl rfl) (by rfl) B.b_any (by decide +kernel) (pa_cons (pe_lc (own := [("one", 4)]) (g := (gName 4)) rfl sc__law_filled.nd (piL K rfl (pv 2)) (blkOk_by (N := ["template", "given", "parts", "part", "one"]) (sc := defScope s__law_filled) (by decide +kernel)) (fun _ _ _ _ _ => (pg_name (i := 4) sc__law_filled.nd rfl (Or.inl rfl) (hf := Or.inr rfl))) (fun _ _ _ _ _ => pts_nil) (fun _ _ _ _ _ => (pe_ix (ixT K rfl) (pv 4) pe_int (fun _ _ => rfl)))) pa_nil)) pa_nil)))))))), ?_⟩
    cases ht with
    | @nd _ h ps ts nd hps =>
    obtain ⟨a, r, rfl, ha⟩ := nd.wrd_at
    refine ⟨_, rfl, _, _, _, _, rfl, rfl, SqT.of ha, at_of (j := 0) rfl rfl, rfl, _, rfl, ?_⟩
    by_cases hh : ∃ x, h = .hole x
    · obtain ⟨x, rfl⟩ := hh
      cases nd with
      | hole ha2 =>
      cases hps
      refine ifT rfl ?_
      refine ⟨_, rfl, da, rfl, .inl ⟨_, .inl hd⟩, _, rfl, _, _, _, _, rfl, rfl, SqT.of ha2, at_of (j := 1) rfl rfl, _, DGet.k (k := Sum.inr x) hd, ?_⟩
      refine ⟨_, rfl, _, _, _, _, rfl, rfl, SqT.of ha2, at_of (j := 1) rfl rfl, _, rfl, da, _, rfl, DGet.k (k := Sum.inr x) hd, ?_⟩
      refine ⟨(by show 2 ≤ sizeLine; decide), fun c nc => ?_⟩
      have s1 := same_new nc (.tup [(valV kvs (Sum.inr x : Key)).getD .non, V.bl (!(valV kvs (Sum.inr x : Key)).isSome)])
      have elk : Tm.lk (ownN ns z) (.nd (.hole x) []) = ownN ns z (.hole x) := Tm.lk_none (by rw [Tm.lks])
      by_cases m : x ∈ ns
      · obtain ⟨u, e1, k⟩ := hin x m
        have e2 : ownN ns z (.hole x) = none := if_pos m
        refine q c u _ s1 ?_ fun _ g => ?_
        · rw [upd_same, elk, e2, e1]
          rfl
        · obtain ⟨s0, e3, h3⟩ := k g
          rw [fill_nd, fchg_hole e3]
          exact h3.mono (Tups.of_same s1)
      · have e2 : ownN ns z (.hole x) = some z := if_neg m
        refine q c .non _ s1 ?_ fun e0 _ => ?_
        · rw [upd_same, elk, e2, hout x m]
          rfl
        · rw [elk, e2] at e0
          cases e0
    · have hn : ∀ x, h ≠ .hole x := fun x e => hh ⟨x, e⟩
      have dw : decide (V.str h.wrd = V.str "hole") = false := decide_eq_false fun e => hh (Hd.wrd_holeN.mp (V.str.inj e))
      refine ifF dw ?_
      have lps := hps.len
      have lw := Tm.wide_self hw
      have hz : Tm.depths ts + 1 ≤ e + 1 := hz
      have own0 := ownN_other (ns := ns) (z := z) hn
      have hfill : fill σ (.nd h ts) = .nd h (ts.map (fill σ)) := by rw [fill_nd, fchg_other hn]
      dsimp only [tNext]
      refine ⟨_, rfl, _, h, ps, ts, rfl, nd, hps, by omega, fun l H1 nl hl s1 => ?_⟩
      have T1 := Tups.of_same s1
      refine ⟨l, rfl, ⟨_, SqL.of hl⟩, fun D nD => lc_list (xs := ps) (Pfl D (fun t => isB (Tm.lk (ownN ns z) t)) (GdF σ ns z gd) H1 ts) ?_ ?_ ?_ ?_⟩
      · exact ⟨same_new nD _, [], [], upd_same, .nil⟩
      · exact fun i H2 _ p => SqL.of (p.1 _ _ hl)
      · rintro i x H2 hx ⟨s2, rvs, us, hD, fls⟩
        obtain ⟨t0, ht0, hat⟩ := hps.getV hx
        have s12 := s1.trans s2
        have T12 := Tups.of_same s12
        have dm := depths_mem (List.mem_of_getElem? ht0)
        refine ⟨rfl, _, rfl, _, rfl, x, da, t0, kvs, σ, ns, z, gd, rfl, hat.mono T12, by omega, Tm.wide_part hw ht0, Tm.fewT_part hfw ht0, s12 _ _ hd, fun y hy => ?_, hout, fun c rv H3 s3 hc g => ?_⟩
        · obtain ⟨u, e1, k⟩ := hin y hy
          exact ⟨u, e1, fun g => by obtain ⟨s0, e2, h2⟩ := k g; exact ⟨s0, e2, h2.mono T12⟩⟩
        have T3 := Tups.of_same s3
        have hD3 := s3 _ _ hD
        have T4 : Tups H3 (upd H3 D (.lst (rvs ++ [.ref c]))) := Tups.upd hD3
        have ll := fls.len
        refine ⟨rvs, hD3, line5 (by rw [ll.1, List.length_take]; omega), Same.atNew (s2.trans s3) nD, _, us ++ [rv], upd_same, ?_⟩
        rw [← take_next ht0]
        exact ((fls.mono (GdF.mono T3) T3).mono (GdF.mono T4) T4).app (T4 _ _ hc) (GdF.mono T4 _ _ g)
      rintro H2 ⟨s2, rvs, us, hD, fls⟩
      rw [lps, List.take_length] at fls
      have s12 := s1.trans s2
      have nd2 := nd.mono (Tups.of_same s12)
      have ll := fls.len
      dsimp only [gName]
      refine ⟨_, rfl, Nat.zero_le _, fun el nel => ?_⟩
      have s3 := same_new nel (.lst [])
      have hel : (upd H2 el (.lst [])) el = some (.lst []) := upd_same
      have hD3 := s3 _ _ hD
      generalize upd H2 el (.lst []) = H3 at s3 hel hD3 ⊢
      have T3 := Tups.of_same s3
      have nd3 := nd2.mono T3
      have s13 := s12.trans s3
      have fls3 := fls.mono (GdF.mono T3) T3
      refine ⟨D, el, rvs, rfl, rfl, SqL.of hD3, SqL.of hel, _, rfl, ?_⟩
      by_cases ets : ts = []
      · subst ets
        obtain rfl : rvs = [] := List.length_eq_zero_iff.mp ll.1
        obtain rfl : ps = [] := List.length_eq_zero_iff.mp lps
        refine ifT rfl ⟨_, rfl, (by show 2 ≤ sizeLine; decide), fun c nc => ?_⟩
        have s4 := same_new nc (.tup [V.ref a, V.bl false])
        have elk : Tm.lk (ownN ns z) (.nd h []) = none := (Tm.lk_none (by rw [Tm.lks])).trans own0
        refine q c (.ref a) _ (s13.trans s4) (by rw [upd_same, elk]; rfl) fun _ _ => ?_
        rw [hfill]
        exact .nd (nd3.mono (Tups.of_same s4)) .nil
      · have nrv : rvs ≠ [] := fun z => ets (by rw [z] at ll; exact List.length_eq_zero_iff.mp ll.1.symm)
        refine ifF (by cases rvs with | nil => exact absurd rfl nrv | cons _ _ => rfl) ?_
        refine ⟨_, rfl, _, rfl, .ref a, D, h, ps, us, rvs, rfl, nd3, hD3, fls3.prs, by omega, (fun z => ets (by rw [z] at lps; exact List.length_eq_zero_iff.mp lps.symm)), by omega, Tm.fewT_self hfw ets, fun r0 H4 nw s4 => ?_⟩
        have hD4 := s4 _ _ hD3
        have fls4 := fls3.mono (GdF.mono (Tups.of_same s4)) (Tups.of_same s4)
        refine ⟨_, rfl, D, rfl, ⟨_, SqL.of hD4⟩, fun D5 nD5 => lc_list (xs := rvs) (Pbl H4 D5 (ownN ns z) ts) ?_ ?_ ?_ ?_⟩
        · exact ⟨same_new nD5 _, upd_same⟩
        · exact fun i H5 _ p => SqL.of (p.1 _ _ hD4)
        · rintro i x H5 hx ⟨s5, hD5⟩
          have li := (List.getElem?_eq_some_iff.mp hx).1
          obtain ⟨t0, ht0⟩ : ∃ t, ts[i]? = some t := ⟨_, List.getElem?_eq_getElem (by omega)⟩
          obtain ⟨c, u, e1, e2, e3, _⟩ := fls4.get i t0 ht0
          obtain rfl : x = .ref c := Option.some.inj (hx.symm.trans e1)
          refine ⟨rfl, _, rfl, _, _, _, _, rfl, rfl, SqT.of (s5 _ _ e3), at_of (j := 1) rfl rfl, _, hD5, line5 (by rw [List.length_map, List.length_map, List.length_take]; omega), Same.atNew s5 nD5, ?_⟩
          rw [upd_same, ← take_next ht0, List.map_append, List.map_append]
          rfl
        rintro H5 ⟨s5, hD5⟩
        rw [ll.1, List.take_length] at hD5
        refine ⟨D5, _, rfl, SqL.of hD5, ?_⟩
        rw [any_lks]
        refine ⟨(by show 2 ≤ sizeLine; decide), fun c nc => ?_⟩
        have elk : Tm.lk (ownN ns z) (.nd h ts) = Tm.lks (ownN ns z) ts := by
          cases e0 : Tm.lks (ownN ns z) ts with
          | none => exact (Tm.lk_none e0).trans own0
          | some y => exact Tm.lk_some e0
        have s6 := same_new nc (.tup [r0, V.bl (Tm.lks (ownN ns z) ts).isSome])
        refine q c r0 _ ((s13.trans s4).trans (s5.trans s6)) (by rw [upd_same, elk]; rfl) fun e0 g => ?_
        rw [elk] at e0
        have tms := fls4.tms (F := fill σ) fun t m u gu => gu (Tm.lks_mem e0 m) g
        rw [hfill]
        exact .nd ((nw.2.1 tms.refs).mono (Tups.of_same (s5.trans s6))) (tms.mono (Tups.of_same (s5.trans s6)))
end
end My
namespace My
open PySem L2 NdefX LamX
/-! _law_unfolded -/
def optV : Option Str → V
  | none => .non
  | some z => .str z
def GdU (rows : List Rw) (H : Hp) (u : V) (t : Tm) : Prop := Tm.lk (ownU rows) t = none → TmAt H u (unf rows t)
theorem GdU.mono {rows : List Rw} {H H' : Hp} (T : Tups H H') (u : V) (t : Tm) (h : GdU rows H u t) : GdU rows H' u t := fun a => (h a).mono T
theorem lks_head {own : Hd → Option Str} : ∀ ts : List Tm, (ts.filterMap (Tm.lk own)).head? = Tm.lks own ts
  | [] => by rw [Tm.lks]; rfl
  | t :: r => by
    rw [Tm.lks, List.filterMap_cons]
    cases Tm.lk own t with
    | none => exact lks_head r
    | some z => rfl
mutual
theorem lkN_same {ns : List Str} {z : Str} : ∀ (t : Tm) {z' : Str}, Tm.lk (ownN ns z) t = some z' → z' = z
  | .nd h ts, z', e => by
    cases e0 : Tm.lks (ownN ns z) ts with
    | some y =>
      rw [Tm.lk_some e0] at e
      obtain rfl := Option.some.inj e
      exact lksN_same ts e0
    | none =>
      rw [Tm.lk_none e0] at e
      by_cases hh : ∃ x, h = .hole x
      · obtain ⟨x, rfl⟩ := hh
        rw [ownN_hole] at e
        split at e
        · cases e
        · exact (Option.some.inj e).symm
      · rw [ownN_other fun x ex => hh ⟨x, ex⟩] at e
        cases e
theorem lksN_same {ns : List Str} {z : Str} : ∀ (ts : List Tm) {z' : Str}, Tm.lks (ownN ns z) ts = some z' → z' = z
  | [], z', e => by rw [Tm.lks] at e; cases e
  | t :: r, z', e => by
    rw [Tm.lks] at e
    cases e0 : Tm.lk (ownN ns z) t with
    | some y =>
      rw [e0] at e
      obtain rfl := Option.some.inj e
      exact lkN_same t e0
    | none =>
      rw [e0] at e
      exact lksN_same r e
end
theorem args_some {y : Str} : ∀ {ns : List Str} {ps : List V}, ns.length = ps.length → y ∈ ns → ∃ u, valV ((ns.zip ps).map fun q => ((Sum.inr q.1 : Key), q.2)) (Sum.inr y : Key) = some u
  | [], _, _, m => nomatch m
  | x :: ns, [], l, _ => nomatch l
  | x :: ns, p :: ps, l, m => by
    by_cases c : x = y
    · subst c
      exact ⟨p, by simp [valV]⟩
    · have m2 : y ∈ ns := (List.mem_cons.mp m).resolve_left fun z => c z.symm
      obtain ⟨u, e1⟩ := args_some (Nat.succ.inj l) m2
      refine ⟨u, ?_⟩
      rw [← e1]
      have c2 : ¬ ((Sum.inr x : Key) = Sum.inr y) := fun z => c (Sum.inr.inj z)
      simp [valV, c2]
theorem tplOf_first {rows : List Rw} {i : Nat} {r : Rw} (h : rows[i]? = some r) (b : ∀ (j : Nat) (q : Rw), j < i → rows[j]? = some q → q.1 ≠ r.1) : tplOf rows r.1 = some r.2.2 := by
  unfold tplOf
  have e : rows.find? (fun q => decide (q.1 = r.1)) = some r := by
    rw [List.find?_eq_some_iff_getElem]
    obtain ⟨l, e⟩ := List.getElem?_eq_some_iff.mp h
    refine ⟨decide_eq_true rfl, i, l, e, fun j hj => ?_⟩
    have := b j rows[j] hj (List.getElem?_eq_getElem (by omega))
    simpa using this
  rw [e]
  rfl
theorem tplOf_no {rows : List Rw} {x : Str} (b : ∀ r ∈ rows, r.1 ≠ x) : tplOf rows x = none := by
  unfold tplOf
  rw [List.find?_eq_none.mpr fun r hr => by simpa using b r hr]
  rfl
theorem Once.part {h : Hd} {ts : List Tm} {i : Nat} {t : Tm} (w : Once (.nd h ts)) (e : ts[i]? = some t) : Once t := fun p x ns ts2 hp => w (i :: p) x ns ts2 (subAt_cons e hp)
/-- the first of these, else x -/
def hdV (zs : List Str) (x : V) : V := match zs with
  | [] => x
  | z :: _ => .str z
theorem hd_at (zs : List Str) (x : V) : atI (zs.map V.str ++ [x]) 0 = some (hdV zs x) := by
  cases zs with
  | nil => exact at_of (j := 0) rfl rfl
  | cons z r => exact at_of (j := 0) rfl rfl
theorem hd_lk {u : V} {own : Hd → Option Str} {h : Hd} {ts : List Tm} : some (HO.tup [u, optV (Tm.lk own (.nd h ts))]) = some (HO.tup [u, hdV (ts.filterMap (Tm.lk own)) (optV (own h))]) := by
  have e := lks_head (own := own) ts
  cases e0 : Tm.lks own ts with
  | none =>
    rw [e0] at e
    rw [Tm.lk_none e0, List.head?_eq_none_iff.mp e]
    rfl
  | some y =>
    rw [e0] at e
    rw [Tm.lk_some e0]
    cases e1 : ts.filterMap (Tm.lk own) with
    | nil => rw [e1] at e; cases e
    | cons a b =>
      rw [e1] at e
      obtain rfl := Option.some.inj e
      rfl
def RwOk (r : Rw) : Prop := r.2.2.size ≤ 900 ∧ r.2.2.depth ≤ 40 ∧ Tm.fewT r.2.2
def spLu (e : Nat) : Sp := fun vs H Q _ => ∃ (l : Addr) (v : V) (rvs : List V) (rows : List Rw) (t : Tm), vs = [.ref l, v] ∧ H l = some (.lst rvs) ∧ Paired (RowAt H) rvs rows ∧ (∀ r ∈ rows, RwOk r) ∧ TmAt H v t ∧ t.depth ≤ e ∧ Tm.wide t ∧ Tm.fewT t ∧ Once t ∧
  ∀ c rv H', Same H H' → H' c = some (.tup [rv, optV (Tm.lk (ownU rows) t)]) → GdU rows H' rv t → Q (.ref c) H'
def Plk (H0 : Hp) (D : Addr) (own : Hd → Option Str) (ts : List Tm) (i : Nat) (H : Hp) : Prop := Same H0 H ∧ H D = some (.lst (((ts.take i).filterMap (Tm.lk own)).map V.str))
def Plr (l D D3 : Addr) (pv : V) (h : Hd) (us : List V) (rows : List Rw) (H0 : Hp) (i : Nat) (σ : St) (H : Hp) : Prop :=
  ∃ (u4 u5 u6 : Option V), σ = [some (.ref l), some pv, some (.ref D), some (.ref D3), u4, u5, u6, none, none] ∧ Same H0 H ∧ ∀ (j : Nat) (r : Rw), j < i → rows[j]? = some r → ∀ ns, h ≠ .call r.1 ns
section
variable {P : Program} {w : World} {K : PySem.W.Frag} {mg : Str → Option Value} {base : Heap} {f : Addr} {fd : FuncData}
set_option maxHeartbeats 1600000 in
theorem ok_lu (B : Bn mg) (F : Fun K "_law_unfolded" "_law_unfolded" s__law_unfolded f fd) (hm : mg "_law_unfolded" = some (.ref f)) (hb : Binds K fd ["rows", "prog"] []) (c__law_listed : Cal P w K mg base "_law_listed" 1 ["prog"] spPartsB)
    (c__law_parts_and : Cal P w K mg base "_law_parts_and" 1 ["prog", "change"] spPa) (c__law_filled : Cal P w K mg base "_law_filled" 42 ["template", "given"] (spFl 40)) : ∀ e, FnOk P w K mg base CX0 (e + 43) f fd ["rows", "prog"] (spLu e)
  | 0 => by
    have no : ∀ vs H Q E, ¬ spLu 0 vs H Q E := fun vs H Q E h => by
      obtain ⟨l, v, rvs, rows, t, _, _, _, _, _, z, _⟩ := h
      obtain ⟨h, ts⟩ := t
      have z : Tm.depths ts + 1 ≤ 0 := z
      omega
    exact ⟨fun vs H Q E h => absurd h (no vs H Q E), fun A outer s H args us vs Q E _ _ _ _ h => absurd h (no vs H Q E)⟩
  | e + 1 => by
    have c__law_unfolded : Cal P w K mg base "_law_unfolded" (e + 43) ["rows", "prog"] (spLu e) := ⟨f, fd, ok_lu B F hm hb c__law_listed c__law_parts_and c__law_filled e, hm, F.kp, hb⟩
    refine F.ok sc__law_unfolded (fun vs H Q E h => ?_) (fun cdv A outer s H vs Q E hr h => ?_)
    · obtain ⟨l, v, rvs, rows, t, rfl, _⟩ := h
      rfl
    obtain ⟨l, v, rvs, rows, t, rfl, hl, pr, ro, ht, hz, hw, hfw, on, q⟩ := h
    refine ⟨_, (pss_cons (ps_setLc (i := 2) (own := [("part", 7)]) (g := (gName 7)) rfl sc__law_unfolded.nd rfl rfl (sw_true rfl rfl rfl (by decide +kernel)) (piL K rfl (pc c__law_listed (hr.mono (by first | decide | omega)) (pa_cons (pv 1) pa_nil))) (blkOk_by (N := ["rows", "prog", "parts", "lacks", "row", "found", "bare", "part", "one"]) (sc := defScope s__law_unfolded) (by decide +kernel)) (fun _ _ _ _ _ => (pg_name (i := 7) sc__law_unfolded.nd rfl (Or.inl rfl) (hf := Or.inr rfl))) (fun _ _ _ _ _ => pts_nil) (fun _ _ _ _ _ => (pc c__law_unfolded (hr.mono (by first | decide | omega)) (pa_cons (pv 0) (pa_cons (pv 7) pa_nil)))))
    (pss_cons (ps_setLc (i := 3) (own := [("one", 8)]) (g := (gName 8)) rfl sc__law_unfolded.nd rfl rfl (sw_true rfl rfl rfl (by decide +kernel)) (piL K rfl (pv 2)) (blkOk_by (N := ["rows", "prog", "parts", "lacks", "row", "found", "bare", "part", "one"]) (sc := defScope s__law_unfolded) (by decide +kernel)) (fun _ _ _ _ _ => (pg_name (i := 8) sc__law_unfolded.nd rfl (Or.inl rfl) (hf := Or.inr rfl))) (fun _ _ _ _ _ => (pts_one (pt_cmpR op_notN (pe_ix (ixT K rfl) (pv 8) pe_int (fun _ _ => rfl)) pe_non (nomark _)))) (fun _ _ _ _ _ => (pe_ix (ixT K rfl) (pv 8) pe_int (fun _ _ => rfl))))
    (pss_cons (ps_if (pt_cmpR (neNil K rfl hr.units) (pv 2) (pe_lst pa_nil) (nomark _)) (pss_one (ps_set (i := 1) sc__law_unfolded.nd rfl (Or.inl rfl) (pc c__law_parts_and (hr.mono (by first | decide | omega)) (pa_cons (pv 1) (pa_cons (pv 2) pa_nil))))) pss_nil)
    (pss_cons (ps_for PassesOwn.never rfl (piL K rfl (pv 0)) (pg_name (i := 4) sc__law_unfolded.nd rfl (Or.inl rfl)) (pss_one (ps_if (PW.pt (pw_and (pt_cmpR op_eq (pe_ix (ixT K rfl) (pv 1) pe_int (fun _ _ => rfl)) pe_str (nomark _)) (pw_and1 (pt_cmpR op_eq (pe_ix (ixT K rfl) (pv 1) pe_int (fun _ _ => rfl)) (pe_ix (ixT K rfl) (pv 4) pe_int (fun _ _ => rfl)) (nomark _))))) (pss_cons (ps_asg (pc c__law_filled (hr.mono (by first | decide | omega)) (pa_cons (pe_ix (ixT K rfl) (pv 4) pe_int (fun _ _ => rfl)) (pa_cons (pe_callTy (call_dictF K rfl rfl) (by rfl) B.b_dict (by decide +kernel) (pa_cons (pe_ix (ixT K rfl) (pv 1) pe_int (fun _ _ => rfl)) pa_nil)) pa_nil))) (pg_tup rfl (pgs_cons (pg_name (i := 5) sc__law_unfolded.nd rfl (Or.inl rfl)) (pgs_cons (pg_name (i := 6) sc__law_unfolded.nd rfl (Or.inl rfl)) pgs_nil))))
    (pss_one (ps_ret (pe_tup (pa_cons (pv 5) (pa_cons (pe_ix (ixL K rfl) (pe_op op_cat (pv 3) (pe_lst (pa_cons (pe_ix (ixL K rfl) (pe_lst (pa_cons pe_non (pa_cons (pe_ix (ixT K rfl) (pv 4) pe_int (fun _ _ => rfl)) pa_nil))) (pe_callTy call_int1 (by rfl) B.b_int (by decide +kernel) (pa_cons (pv 6) pa_nil)) (fun _ _ => rfl)) pa_nil))) pe_int (fun _ _ => rfl)) pa_nil)))))) pss_nil)))
    (pss_one (ps_ret (pe_tup (pa_cons (pv 1) (pa_cons (pe_ix (ixL K rfl) (pe_op op_cat (pv 3) (pe_lst (pa_cons pe_non pa_nil))) pe_int (fun _ _ => rfl)) pa_nil))))))))), ?_⟩
    cases ht with
    | @nd _ h ps ts nd hps =>
    have lps := hps.len
    have lw := Tm.wide_self hw
    have hz : Tm.depths ts + 1 ≤ e + 1 := hz
    refine ⟨_, rfl, _, h, ps, ts, rfl, nd, hps, by omega, fun ll H1 nll hll s1 => ?_⟩
    have T1 := Tups.of_same s1
    refine ⟨ll, rfl, ⟨_, SqL.of hll⟩, fun D nD => lc_list (xs := ps) (Pfl D (fun t => optV (Tm.lk (ownU rows) t)) (GdU rows) H1 ts) ?_ ?_ ?_ ?_⟩
    · exact ⟨same_new nD _, [], [], upd_same, .nil⟩
    · exact fun i H2 _ p => SqL.of (p.1 _ _ hll)
    · rintro i x H2 hx ⟨s2, rws, us, hD, fls⟩
      obtain ⟨t0, ht0, hat⟩ := hps.getV hx
      have s12 := s1.trans s2
      have T12 := Tups.of_same s12
      have dm := depths_mem (List.mem_of_getElem? ht0)
      refine ⟨rfl, _, rfl, _, rfl, l, x, rvs, rows, t0, rfl, s12 _ _ hl, Paired.mono (fun _ _ z => RowAt.mono T12 z) pr, ro, hat.mono T12, by omega, Tm.wide_part hw ht0, Tm.fewT_part hfw ht0, on.part ht0, fun c rv H3 s3 hc g => ?_⟩
      have T3 := Tups.of_same s3
      have hD3 := s3 _ _ hD
      have T4 : Tups H3 (upd H3 D (.lst (rws ++ [.ref c]))) := Tups.upd hD3
      have ll := fls.len
      refine ⟨rws, hD3, line5 (by rw [ll.1, List.length_take]; omega), Same.atNew (s2.trans s3) nD, _, us ++ [rv], upd_same, ?_⟩
      rw [← take_next ht0]
      exact ((fls.mono (GdU.mono T3) T3).mono (GdU.mono T4) T4).app (T4 _ _ hc) (GdU.mono T4 _ _ g)
    rintro H2 ⟨s2, rws, us, hD, fls⟩
    rw [lps, List.take_length] at fls
    have ln := fls.len
    have s12 := s1.trans s2
    dsimp only [gName]
    refine ⟨_, rfl, D, rfl, ⟨_, SqL.of hD⟩, fun D3 nD3 => lc_list (xs := rws) (Plk H2 D3 (ownU rows) ts) ?_ ?_ ?_ ?_⟩
    · exact ⟨same_new nD3 _, upd_same⟩
    · exact fun i H3 _ p => SqL.of (p.1 _ _ hD)
    · rintro i x H3 hx ⟨s3, hD3⟩
      have li := (List.getElem?_eq_some_iff.mp hx).1
      obtain ⟨t0, ht0⟩ : ∃ t, ts[i]? = some t := ⟨_, List.getElem?_eq_getElem (by omega)⟩
      obtain ⟨c, u, e1, e2, e3, _⟩ := fls.get i t0 ht0
      obtain rfl : x = .ref c := Option.some.inj (hx.symm.trans e1)
      refine ⟨rfl, _, rfl, _, _, _, _, rfl, rfl, SqT.of (s3 _ _ e3), at_of (j := 1) rfl rfl, rfl, _, rfl, ?_⟩
      cases ek : Tm.lk (ownU rows) t0 with
      | none =>
        refine iteF ⟨s3, ?_⟩
        rw [hD3, ← take_next ht0, List.filterMap_append]
        simp only [List.filterMap_cons, ek, List.filterMap_nil, List.append_nil]
      | some z =>
        rw [ek] at e3
        refine iteT ⟨_, rfl, _, _, _, _, rfl, rfl, SqT.of (s3 _ _ e3), at_of (j := 1) rfl rfl, _, hD3, line5 (by have := List.length_filterMap_le (Tm.lk (ownU rows)) (ts.take i); rw [List.length_map]; rw [List.length_take] at this; omega), Same.atNew s3 nD3, ?_⟩
        rw [upd_same, ← take_next ht0, List.filterMap_append, List.map_append]
        simp only [List.filterMap_cons, ek, List.filterMap_nil, List.map_cons, List.map_nil]
        rfl
    rintro H3 ⟨s3, hD3⟩
    rw [ln.1, List.take_length] at hD3
    dsimp only [gName]
    have s13 := s12.trans s3
    have fls3 := fls.mono (GdU.mono (Tups.of_same s3)) (Tups.of_same s3)
    have hDD := s3 _ _ hD
    refine seq_abs (fun σ' H' => ∃ r0 us, σ' = [some (.ref l), some r0, some (.ref D), some (.ref D3), none, none, none, none, none] ∧ Same H H' ∧ NdW H' r0 h us ∧ us.length = ts.length ∧ (Tm.lks (ownU rows) ts = none → TmsAt H' us (ts.map (unf rows))) ∧
      H' D3 = some (.lst ((ts.filterMap (Tm.lk (ownU rows))).map V.str))) (fun σ2 H4 p => ?_) (fun nx hnx => ?_)
    rotate_left
    · refine ⟨_, rfl, Nat.zero_le _, fun el nel => ?_⟩
      have s4 := same_new nel (.lst [])
      have hel : (upd H3 el (.lst [])) el = some (.lst []) := upd_same
      have hD4 := s4 _ _ hDD
      have hL4 := s4 _ _ hD3
      generalize upd H3 el (.lst []) = H4 at s4 hel hD4 hL4 ⊢
      have T4 := Tups.of_same s4
      have s14 := s13.trans s4
      have nd4 := nd.mono (Tups.of_same s14)
      have fls4 := fls3.mono (GdU.mono T4) T4
      refine ⟨D, el, rws, rfl, rfl, SqL.of hD4, SqL.of hel, _, rfl, ?_⟩
      by_cases ets : ts = []
      · subst ets
        obtain rfl : rws = [] := List.length_eq_zero_iff.mp ln.1
        obtain rfl : ps = [] := List.length_eq_zero_iff.mp lps
        exact ifF rfl (hnx _ _ ⟨v, [], rfl, s14, NdW.of nd4, rfl, fun _ => .nil, hL4⟩)
      · have nrv : rws ≠ [] := fun z => ets (by rw [z] at ln; exact List.length_eq_zero_iff.mp ln.1.symm)
        refine ifT (by cases rws with | nil => exact absurd rfl nrv | cons _ _ => rfl) ?_
        refine ⟨_, rfl, _, rfl, v, D, h, ps, us, rws, rfl, nd4, hD4, fls4.prs, by omega, (fun z => ets (by rw [z] at lps; exact List.length_eq_zero_iff.mp lps.symm)), by omega, Tm.fewT_self hfw ets, fun r0 H5 nw s5 => ?_⟩
        have fls5 := fls4.mono (GdU.mono (Tups.of_same s5)) (Tups.of_same s5)
        exact hnx _ _ ⟨r0, us, rfl, s14.trans s5, nw, ln.2, fun g => fls5.tms fun t m u gu => gu (Tm.lks_mem g m), s5 _ _ hL4⟩
    obtain ⟨r0, us2, rfl, s4, nw, lus, good, hL⟩ := p
    clear hDD fls3 hD3 fls hD hll
    have hl4 := s4 _ _ hl
    have pr4 := Paired.mono (fun _ _ z => RowAt.mono (Tups.of_same s4) z) pr
    have eu := unf_call (rows := rows) (h := h) (ts := ts)
    have lrw := Paired.length pr4
    refine ⟨_, rfl, l, rfl, ⟨_, SqL.of hl4⟩, for_list (xs := rvs) (Plr l D D3 r0 h us2 rows H4) ?_ ?_ ?_ ?_⟩
    · exact ⟨_, _, _, rfl, Same.refl _, fun j r hj => absurd hj (Nat.not_lt_zero _)⟩
    · rintro i σ' H5 _ ⟨u4, u5, u6, rfl, s5, _⟩
      exact SqL.of (s5 _ _ hl4)
    · rintro i x σ' H5 hx ⟨u4, u5, u6, rfl, s5, no⟩
      obtain ⟨r, hr', rc, rb, fvs, av, tpv, rfl, hrc, hrb, pf, htp⟩ := Paired.at pr4 i x hx
      have T5 := Tups.of_same s5
      have nw5 := nw.mono T5
      obtain ⟨a, kk, rfl, ha⟩ := nw5.1
      dsimp only [gName]
      refine ⟨_, rfl, _, _, _, _, rfl, rfl, SqT.of ha, at_of (j := 0) rfl rfl, rfl, _, rfl, ?_⟩
      by_cases hh : ∃ x ns, h = .call x ns
      · obtain ⟨x, ns, rfl⟩ := hh
        have nd5 := nw5.2.2 x ns rfl
        cases nd5 with
        | @call _ g _ _ qs _ ha2 hg hq =>
        refine iteT ?_
        refine ⟨_, rfl, _, _, _, _, rfl, rfl, SqT.of ha2, at_of (j := 1) rfl rfl, _, rfl, _, _, _, _, rfl, rfl, SqT.of (T5 _ _ hrc), at_of (j := 0) rfl rfl, rfl, _, rfl, ?_⟩
        by_cases ex : x = r.1
        · refine ifT (decide_eq_true (congrArg V.str ex)) ?_
          have tp := tplOf_first hr' fun j q' hj hq' e => no j q' hj hq' ns (by rw [e, ex])
          rw [← ex] at tp
          obtain ⟨nns, _⟩ := on [] x ns ts rfl
          obtain ⟨as, eqs, pk⟩ := args_kvs (K := K) hq
          have lq := hq.len
          subst eqs
          refine ⟨_, rfl, _, _, _, _, rfl, rfl, SqT.of (T5 _ _ hrc), at_of (j := 3) rfl rfl, _, rfl, _, _, _, _, rfl, rfl, SqT.of ha2, at_of (j := 2) rfl rfl, g, as, _, rfl, hg, pk, fun da nda => ?_⟩
          rw [merge_nodup (ns := ns) (us := us2) (by omega) nns]
          have s6 := same_new nda (.dK ((ns.zip us2).map fun q => ((Sum.inr q.1 : Key), q.2)))
          have hda : (upd H5 da (.dK ((ns.zip us2).map fun q => ((Sum.inr q.1 : Key), q.2)))) da = some (.dK ((ns.zip us2).map fun q => ((Sum.inr q.1 : Key), q.2))) := upd_same
          generalize upd H5 da (.dK ((ns.zip us2).map fun q => ((Sum.inr q.1 : Key), q.2))) = H6 at s6 hda ⊢
          have T6 := Tups.of_same s6
          obtain ⟨z1, z2, z3⟩ := ro r (List.mem_of_getElem? hr')
          refine ⟨tpv, da, r.2.2, _, argm ns (ts.map (unf rows)), ns, x, Tm.lks (ownU rows) ts = none, rfl, (htp.mono T5).mono T6, z2, Tm.wide_size z1, z3, hda, fun y hy => ?_, fun y hy => args_none hy, fun c rv H7 s7 hc g7 => ?_⟩
          · obtain ⟨u1, e1⟩ := args_some (ps := us2) (by omega) hy
            refine ⟨u1, e1, fun gd => ?_⟩
            obtain ⟨u2, s0, e2, e3, h3⟩ := args_val (y := y) (by omega) (good gd) hy
            rw [e1] at e2
            obtain rfl := Option.some.inj e2
            exact ⟨s0, e3, ((h3.mono T5).mono T6)⟩
          have T7 := Tups.of_same s7
          have eo := ownU_call (rows := rows) (x := x) (ns := ns)
          rw [tp] at eo
          refine ⟨c, _, rfl, SqT.of hc, rfl, _, _, rfl, _, _, rfl, rfl, ?_⟩
          refine ⟨_, rfl, _, rfl, _, rfl, _, _, _, _, rfl, rfl, SqT.of (s7 _ _ (s6 _ _ (T5 _ _ hrc))), at_of (j := 0) rfl rfl, (by show 2 ≤ sizeLine; decide), fun p1 np1 => ?_⟩
          have s8 := same_new np1 (.lst [V.non, V.str r.1])
          have hp8 : (upd H7 p1 (.lst [V.non, V.str r.1])) p1 = some (.lst [V.non, V.str r.1]) := upd_same
          generalize upd H7 p1 (.lst [V.non, V.str r.1]) = H8 at s8 hp8 ⊢
          refine ⟨_, rfl, .inr ⟨_, rfl, ?_⟩⟩
          have hb : atI [V.non, V.str r.1] (if (Tm.lk (ownN ns x) r.2.2).isSome = true then 1 else 0) = some (optV (Tm.lk (ownN ns x) r.2.2)) := by
            cases ek : Tm.lk (ownN ns x) r.2.2 with
            | none => exact at_of (j := 0) rfl rfl
            | some z0 =>
              rw [lkN_same _ ek, ex]
              exact at_of (j := 1) rfl rfl
          refine ⟨_, _, _, _, rfl, rfl, SqL.of hp8, hb, (by show 1 ≤ sizeLine; decide), fun p2 np2 => ?_⟩
          have s9 := same_new np2 (.lst [optV (Tm.lk (ownN ns x) r.2.2)])
          have hp9 : (upd H8 p2 (.lst [optV (Tm.lk (ownN ns x) r.2.2)])) p2 = some (.lst [optV (Tm.lk (ownN ns x) r.2.2)]) := upd_same
          generalize upd H8 p2 (.lst [optV (Tm.lk (ownN ns x) r.2.2)]) = H9 at s9 hp9 ⊢
          have s59 := (((s5.trans s6).trans s7).trans s8).trans s9
          refine ⟨_, _, _, _, rfl, rfl, s59 _ _ hL, hp9, ?_, fun p3 np3 => ?_⟩
          · have := List.length_filterMap_le (Tm.lk (ownU rows)) ts
            rw [List.length_map]
            exact Nat.le_of_lt (line5 (by rw [List.length_singleton]; omega))
          have s10 := same_new np3 (.lst ((ts.filterMap (Tm.lk (ownU rows))).map V.str ++ [optV (Tm.lk (ownN ns x) r.2.2)]))
          have hp10 : (upd H9 p3 (.lst ((ts.filterMap (Tm.lk (ownU rows))).map V.str ++ [optV (Tm.lk (ownN ns x) r.2.2)]))) p3 = some (.lst ((ts.filterMap (Tm.lk (ownU rows))).map V.str ++ [optV (Tm.lk (ownN ns x) r.2.2)])) := upd_same
          generalize upd H9 p3 (.lst ((ts.filterMap (Tm.lk (ownU rows))).map V.str ++ [optV (Tm.lk (ownN ns x) r.2.2)])) = H10 at s10 hp10 ⊢
          refine ⟨_, _, _, _, rfl, rfl, SqL.of hp10, hd_at _ _, (by show 2 ≤ sizeLine; decide), fun c9 nc9 => ?_⟩
          have s11 := same_new nc9 (.tup [rv, hdV (ts.filterMap (Tm.lk (ownU rows))) (optV (Tm.lk (ownN ns x) r.2.2))])
          refine q c9 rv _ ((s4.trans s59).trans (s10.trans s11)) ?_ fun e0 => ?_
          · rw [upd_same, hd_lk, eo]
          · have e1 : Tm.lks (ownU rows) ts = none := by
              cases e1 : Tm.lks (ownU rows) ts with
              | none => rfl
              | some y => rw [Tm.lk_some e1] at e0; cases e0
            rw [Tm.lk_none e1, eo] at e0
            rw [eu, uchg_call, tp]
            exact (g7 e0 e1).mono (Tups.of_same (((s8.trans s9).trans s10).trans s11))
        · refine ifF (decide_eq_false fun e => ex (V.str.inj e)) ?_
          refine ⟨_, _, _, rfl, s5, fun j r' hj hr2 ns' e => ?_⟩
          rcases Nat.lt_or_eq_of_le (Nat.le_of_lt_succ hj) with c | c
          · exact no j r' c hr2 ns' e
          · subst c
            rw [hr'] at hr2
            obtain rfl := Option.some.inj hr2
            exact ex (Hd.call.inj e).1
      · have dw : decide (V.str h.wrd = V.str "call") = false := decide_eq_false fun e => hh (Hd.wrd_callN.mp (V.str.inj e))
        rw [dw]
        refine iteF (ifF rfl ?_)
        exact ⟨_, _, _, rfl, s5, fun j r' _ _ ns' e => hh ⟨_, _, e⟩⟩
    · rintro σ' H5 ⟨u4, u5, u6, rfl, s5, no⟩
      have hL5 := s5 _ _ hL
      have eo : ownU rows h = none ∧ uchg rows (.nd h (ts.map (unf rows))) = .nd h (ts.map (unf rows)) := by
        by_cases hh : ∃ x ns, h = .call x ns
        · obtain ⟨x, ns, rfl⟩ := hh
          have tn : tplOf rows x = none := tplOf_no fun r hr2 e => by
            obtain ⟨j, hj⟩ := List.mem_iff_getElem?.mp hr2
            exact no j r (by have := (List.getElem?_eq_some_iff.mp hj).1; omega) hj ns (by rw [e])
          rw [ownU_call, uchg_call, tn]
          exact ⟨rfl, rfl⟩
        · exact ⟨ownU_other fun x ns e => hh ⟨x, ns, e⟩, uchg_other fun x ns e => hh ⟨x, ns, e⟩⟩
      refine ⟨_, rfl, _, rfl, (by show 1 ≤ sizeLine; decide), fun p1 np1 => ?_⟩
      have s6 := same_new np1 (.lst [V.non])
      have hp6 : (upd H5 p1 (.lst [V.non])) p1 = some (.lst [V.non]) := upd_same
      generalize upd H5 p1 (.lst [V.non]) = H6 at s6 hp6 ⊢
      refine ⟨_, _, _, _, rfl, rfl, s6 _ _ hL5, hp6, ?_, fun p3 np3 => ?_⟩
      · have := List.length_filterMap_le (Tm.lk (ownU rows)) ts
        rw [List.length_map]
        exact Nat.le_of_lt (line5 (by rw [List.length_singleton]; omega))
      have s10 := same_new np3 (.lst ((ts.filterMap (Tm.lk (ownU rows))).map V.str ++ [V.non]))
      have hp10 : (upd H6 p3 (.lst ((ts.filterMap (Tm.lk (ownU rows))).map V.str ++ [V.non]))) p3 = some (.lst ((ts.filterMap (Tm.lk (ownU rows))).map V.str ++ [V.non])) := upd_same
      generalize upd H6 p3 (.lst ((ts.filterMap (Tm.lk (ownU rows))).map V.str ++ [V.non])) = H10 at s10 hp10 ⊢
      refine ⟨_, _, _, _, rfl, rfl, SqL.of hp10, hd_at _ _, (by show 2 ≤ sizeLine; decide), fun c9 nc9 => ?_⟩
      have s11 := same_new nc9 (.tup [r0, hdV (ts.filterMap (Tm.lk (ownU rows))) V.non])
      have s5b := (s5.trans s6).trans (s10.trans s11)
      refine q c9 r0 _ (s4.trans s5b) ?_ fun e0 => ?_
      · rw [upd_same, hd_lk, eo.1]
        rfl
      · have e1 : Tm.lks (ownU rows) ts = none := by
          cases e1 : Tm.lks (ownU rows) ts with
          | none => rfl
          | some y => rw [Tm.lk_some e1] at e0; cases e0
        have gd := good e1
        rw [eu, eo.2]
        exact .nd ((nw.2.1 gd.refs).mono (Tups.of_same s5b)) (gd.mono (Tups.of_same s5b))
end
end My
namespace My
open PySem L2
/-! heaps -/
structure DeckP (H : Hp) (d g : Addr) (ns : List Int) (fold k n : Int) : Prop where
  d : H d = some (.lst [.ref g, .int fold, .int k])
  g : H g = some (.lst (ns.map V.int))
  pos : ∀ x ∈ ns, 0 ≤ x
  f0 : 0 ≤ fold
  f1 : fold < 2305843009213693951
  k0 : 0 ≤ k
  k1 : k ≤ n
def Deck (H : Hp) (d g : Addr) (n : Int) : Prop := ∃ ns fold k, DeckP H d g ns fold k n
theorem DeckP.ne {H : Hp} {d g : Addr} {ns : List Int} {fold k n : Int} (D : DeckP H d g ns fold k n) : d ≠ g := by
  refine ne_of D.d D.g fun e => ?_
  injection e with e
  cases ns with
  | nil => cases e
  | cons x r => rw [List.map_cons] at e; cases e
theorem DeckP.new {H : Hp} {d g p : Addr} {ns : List Int} {fold k n : Int} {o : HO} (D : DeckP H d g ns fold k n) (hp : H p = none) : DeckP (upd H p o) d g ns fold k n :=
  ⟨by rw [upd_ne (ne_of_none D.d hp)]; exact D.d, by rw [upd_ne (ne_of_none D.g hp)]; exact D.g, D.pos, D.f0, D.f1, D.k0, D.k1⟩
theorem DeckP.same {H H' : Hp} {d g : Addr} {ns : List Int} {fold k n : Int} (D : DeckP H d g ns fold k n) (s : Same H H') : DeckP H' d g ns fold k n :=
  ⟨s _ _ D.d, s _ _ D.g, D.pos, D.f0, D.f1, D.k0, D.k1⟩
theorem Deck.same {H H' : Hp} {d g : Addr} {n : Int} (D : Deck H d g n) (s : Same H H') : Deck H' d g n := by
  obtain ⟨ns, fold, k, D⟩ := D
  exact ⟨ns, fold, k, D.same s⟩
theorem Deck.new {H : Hp} {d g p : Addr} {n : Int} {o : HO} (D : Deck H d g n) (hp : H p = none) : Deck (upd H p o) d g n := D.same (same_new hp o)
theorem Deck.le {H : Hp} {d g : Addr} {n m : Int} (D : Deck H d g n) (h : n ≤ m) : Deck H d g m := by
  obtain ⟨ns, fold, k, D⟩ := D
  exact ⟨ns, fold, k, D.d, D.g, D.pos, D.f0, D.f1, D.k0, Int.le_trans D.k1 h⟩
theorem Deck.ne {H : Hp} {d g p : Addr} {n : Int} (D : Deck H d g n) (h : H p = none) : p ≠ d ∧ p ≠ g := by
  obtain ⟨ns, fold, k, D⟩ := D
  exact ⟨(ne_of_none D.d h).symm, (ne_of_none D.g h).symm⟩
theorem Deck.at {H : Hp} {d g p : Addr} {n : Int} {o : HO} (D : Deck H d g n) (h1 : p ≠ d) (h2 : p ≠ g) : Deck (upd H p o) d g n := by
  obtain ⟨ns, fold, k, D⟩ := D
  exact ⟨ns, fold, k, by rw [upd_ne h1.symm]; exact D.d, by rw [upd_ne h2.symm]; exact D.g, D.pos, D.f0, D.f1, D.k0, D.k1⟩
theorem Deck.tups {H H' : Hp} {d g : Addr} {n : Int} (D : Deck H d g n) (b : But d g H H') : Tups H H' := by
  obtain ⟨ns, fold, k, D⟩ := D
  exact ⟨fun a xs e => b a _ (ne_of e D.d (by intro z; cases z)) (ne_of e D.g (by intro z; cases z)) e, fun a _ xs e => b a _ (ne_of e D.d (by intro z; cases z)) (ne_of e D.g (by intro z; cases z)) e⟩
/-- _law_take: a number below many, the deck goes on by one -/
def spTake : Sp := fun vs H Q _ => ∃ (d g : Addr) (many n : Int), vs = [.ref d, .int many] ∧ Deck H d g n ∧ 0 < many ∧ many ≤ 1000000000 ∧ n ≤ 1000000 ∧
  ∀ (r : Int) (H' : Hp), 0 ≤ r → r < many → Deck H' d g (n + 1) → But d g H H' → Q (.int r) H'
def Wtake (d g : Addr) (many n : Int) (H0 : Hp) (m : Nat) (σ : St) (H : Hp) : Prop :=
  σ = [some (.ref d), some (.int many), none, none, none] ∧ ∃ ns fold k, DeckP H d g ns fold k n ∧ But d g H0 H ∧ m = ns.length
section
variable {P : Program} {w : World} {K : PySem.W.Frag} {mg : Str → Option Value} {base : Heap} {f : Addr} {fd : FuncData}
theorem ok_take (F : Fun K "_law_take" "_law_take" s__law_take f fd) : FnOk P w K mg base CX0 1 f fd ["deck", "many"] spTake := by
  refine F.ok sc__law_take (fun vs H Q E h => ?_) (fun cdv A outer s H vs Q E hr h => ?_)
  · obtain ⟨d, g, many, n, rfl, _⟩ := h
    rfl
  obtain ⟨d, g, many, n, rfl, D, h0, h1, h2, q⟩ := h
  refine ⟨_, (pss_cons (ps_while PassesOwn.never (PW.pt (pw_and (pt_cmpR (neD K rfl hr.units) (pe_ix (ixL K rfl) (pv 0) pe_int (fun _ _ => rfl)) (pe_lst pa_nil) (nomark _)) (pw_and1 (pt_cmpR op_lt (pe_ix (ixL K rfl) (pe_ix (ixL K rfl) (pv 0) pe_int (fun _ _ => rfl)) (pe_un un_neg pe_int) (fun _ _ => rfl)) pe_int (nomark _))))) (pss_one (ps_expr (pe_bm0 PySem.F.plainAttrs_list PySem.F.slot_list_pop PySem.F.type_list_pop mt_pop (pe_ix (ixL K rfl) (pv 0) pe_int (fun _ _ => rfl))))))
    (pss_cons (ps_if (pt_cmpR (neD K rfl hr.units) (pe_ix (ixL K rfl) (pv 0) pe_int (fun _ _ => rfl)) (pe_lst pa_nil) (nomark _)) (pss_cons (ps_set (i := 4) sc__law_take.nd rfl (Or.inl rfl) (pe_op op_mod (pe_ix (ixL K rfl) (pe_ix (ixL K rfl) (pv 0) pe_int (fun _ _ => rfl)) (pe_un un_neg pe_int) (fun _ _ => rfl)) (pv 1)))
    (pss_cons (ps_asg (pe_op op_fdiv (pe_ix (ixL K rfl) (pe_ix (ixL K rfl) (pv 0) pe_int (fun _ _ => rfl)) (pe_un un_neg pe_int) (fun _ _ => rfl)) (pv 1)) (pg_sub (pe_ix (ixL K rfl) (pv 0) pe_int (fun _ _ => rfl)) (pe_un un_neg pe_int) set_list))
    (pss_one (ps_ret (pv 4))))) pss_nil)
    (pss_cons (ps_asg (pe_op op_add (pe_ix (ixL K rfl) (pv 0) pe_int (fun _ _ => rfl)) pe_int) (pg_sub (pv 0) pe_int set_list))
    (pss_cons (ps_set (i := 2) sc__law_take.nd rfl (Or.inl rfl) (pe_ix (ixL K rfl) (pv 0) pe_int (fun _ _ => rfl)))
    (pss_cons (ps_set (i := 3) sc__law_take.nd rfl (Or.inl rfl) (pe_op op_add (pe_op op_mul (pe_op op_add (pe_ix (ixL K rfl) (pv 0) pe_int (fun _ _ => rfl)) pe_int) (pe_op op_pow (pe_op op_add (pv 2) pe_int) pe_int)) (pe_op op_mul pe_int (pv 2))))
    (pss_one (ps_ret (pe_op op_mod (pe_op op_fdiv (pe_op op_mod (pe_op op_pow (pe_op op_mod (pv 3) pe_int) pe_int) pe_int) pe_int) (pv 1))))))))), ?_⟩
  obtain ⟨ns0, fold0, k0, D0⟩ := D
  refine seq_abs (fun σ' H' => ∃ m, Wtake d g many n H m σ' H') (fun σ1 H1 w1 => ?_) (fun nx hnx => ?_)
  · obtain ⟨_, rfl, ns, fold, k, D1, B1, _⟩ := w1
    refine ⟨_, rfl, _, _, _, _, rfl, rfl, SqL.of D1.d, by rfl, Nat.zero_le _, fun p hp => ?_⟩
    have D2 := D1.new (o := .lst []) hp
    have B2 := B1.new (o := .lst []) hp
    refine ⟨.list (ns.map PyData.int), .list [], .lst (SqL.of D2.g) (dp_ints ns), .lst (SqL.of upd_same) .nil, shaped_ints ns, rfl, _, rfl, ?_⟩
    rw [eqv_nil]
    generalize upd H1 p (.lst []) = H2 at D2 B2
    clear D1 B1 hp
    by_cases hn : ns = []
    · subst hn
      refine iteF ?_
      refine ⟨_, rfl, _, _, _, _, rfl, rfl, SqL.of D2.d, by rfl, _, _, rfl, rfl, _, rfl, _, _, _, 2, rfl, rfl, D2.d, rfl, ?_⟩
      refine ⟨_, rfl, _, _, _, _, rfl, rfl, SqL.of upd_same, by rfl, ?_⟩
      have e0 := D2.k0
      have e1 := D2.k1
      have e2 := D2.f0
      have e3 := D2.f1
      refine ⟨_, rfl, _, _, _, _, rfl, rfl, SqL.of upd_same, by rfl, _, _, rfl, rfl, _, rfl, _, _, rfl, rfl, _, _, rfl, rfl,
        ⟨by decide, by decide, by show (k + 1 + 5 : Int).natAbs < 2 ^ 64; omega⟩, _, _, rfl, rfl, .inl ⟨?_, ?_⟩, _, rfl, _, _, rfl, rfl, .inl ⟨by decide, by decide⟩, _, _, rfl, rfl, ?_⟩
      · show -(2 ^ 64) < fold + 40503
        omega
      · show fold + 40503 < 2 ^ 64
        omega
      refine ⟨_, rfl, _, _, rfl, rfl, (show (0 : Int) < 2305843009213693951 by decide), _, _, rfl, rfl, ⟨by decide, by decide, ?_⟩, _, _, rfl, rfl, (show (0 : Int) < 1000000007 by decide), _, _, rfl, rfl, ⟨by decide, by decide⟩, _, rfl, _, _, rfl, rfl, h0, ?_⟩
      · show Int.natAbs (_ % 2305843009213693951) < 2 ^ 64
        omega
      refine q _ _ (Int.emod_nonneg _ (by omega)) (Int.emod_lt_of_pos _ h0) ⟨[], fold, k + 1, upd_same, by rw [upd_ne D2.ne.symm]; exact D2.g, D2.pos, e2, e3, by omega, by omega⟩ B2.atD
    · obtain ⟨l, x, rfl⟩ := last_of hn
      refine ite2 (fun _ => ?_) (fun c => absurd (by cases l <;> rfl) c)
      have hg : H2 g = some (.lst (l.map V.int ++ [.int x])) := by rw [D2.g, List.map_append]; rfl
      have hx := D2.pos x (by simp)
      refine ⟨_, rfl, _, _, _, _, rfl, rfl, SqL.of D2.d, by rfl, _, rfl, _, _, _, _, rfl, rfl, SqL.of hg, atI_last _ _, ?_⟩
      refine ⟨_, rfl, _, _, rfl, rfl, h0, ?_⟩
      refine ⟨_, rfl, _, _, _, _, rfl, rfl, SqL.of D2.d, by rfl, _, rfl, _, _, _, _, rfl, rfl, SqL.of hg, atI_last _ _, _, rfl, _, _, rfl, rfl, ⟨h0, by show many < 1073741824; omega⟩, ?_⟩
      refine ⟨_, rfl, _, _, _, _, rfl, rfl, SqL.of D2.d, by rfl, _, rfl, _, _, _, l.length, rfl, rfl, hg, ?_, _, rfl, ?_⟩
      · show ixN _ (-1) = _
        unfold ixN
        rw [List.length_append, List.length_map, List.length_singleton, if_neg (by decide), if_pos (by omega)]
        congr 1
        omega
      refine q _ _ (Int.emod_nonneg _ (by omega)) (Int.emod_lt_of_pos _ h0) ⟨l ++ [x / many], fold, k, by rw [upd_ne D2.ne]; exact D2.d, ?_, ?_, D2.f0, D2.f1, D2.k0, by have := D2.k1; omega⟩ B2.atG
      · rw [upd_same]
        congr 2
        rw [List.map_append, List.set_append_right _ _ (by simp)]
        simp
      · intro y hy
        rcases List.mem_append.mp hy with hy | hy
        · exact D2.pos y (by simp [hy])
        · have : y = x / many := by simpa using hy
          rw [this]
          exact Int.ediv_nonneg hx (by omega)
  refine ⟨Wtake d g many n H, ⟨ns0.length, rfl, ns0, fold0, k0, D0, But.refl _ _ _, rfl⟩, fun m σ H1 w1 => ?_⟩
  obtain ⟨rfl, ns, fold, k, D1, B1, rfl⟩ := w1
  refine ⟨_, rfl, _, _, _, _, rfl, rfl, SqL.of D1.d, by rfl, Nat.zero_le _, fun p hp => ?_⟩
  have D2 := D1.new (o := .lst []) hp
  have B2 := B1.new (o := .lst []) hp
  refine ⟨.list (ns.map PyData.int), .list [], .lst (SqL.of D2.g) (dp_ints ns), .lst (SqL.of upd_same) .nil, shaped_ints ns, rfl, _, rfl, ?_⟩
  rw [eqv_nil]
  generalize upd H1 p (.lst []) = H2 at D2 B2
  clear D1 B1 hp
  by_cases hn : ns = []
  · subst hn
    refine iteF ?_
    exact hnx _ _ ⟨0, rfl, [], fold, k, D2, B2, rfl⟩
  · obtain ⟨l, x, rfl⟩ := last_of hn
    have hg : H2 g = some (.lst (l.map V.int ++ [.int x])) := by rw [D2.g, List.map_append]; rfl
    refine ite2 (fun _ => ?_) (fun c => absurd (by cases l <;> rfl) c)
    refine ⟨_, rfl, _, _, _, _, rfl, rfl, SqL.of D2.d, by rfl, _, rfl, _, _, _, _, rfl, rfl, SqL.of hg, atI_last _ _, _, _, rfl, rfl, _, rfl, ?_⟩
    refine ite2 (fun _ => ?_) (fun _ => ?_)
    · refine ⟨fun σ' H' => ∃ m', m' < (l ++ [x]).length ∧ Wtake d g many n H m' σ' H', fun _ _ h => h, ?_⟩
      refine ⟨_, rfl, _, _, _, _, rfl, rfl, SqL.of D2.d, by rfl, tyL hg, g, _, .int x, rfl, rfl, hg, ?_, ?_⟩
      · simp
      · refine ⟨l.length, by simp, rfl, l, fold, k, ?_, B2.atG, rfl⟩
        refine ⟨by rw [upd_ne D2.ne]; exact D2.d, by rw [upd_same]; simp, fun y hy => D2.pos y (by simp [hy]), D2.f0, D2.f1, D2.k0, D2.k1⟩
    · exact hnx _ _ ⟨_, rfl, _, fold, k, D2, B2, rfl⟩
end
/-- _law_deck: a new deck -/
def spDeck (K : PySem.W.Frag) : Sp := fun vs H Q _ => ∃ (a : Addr) (ns : List Int), vs = [.ref a] ∧ SqL K H a (ns.map V.int) ∧ ns.length ≤ 63 ∧
  ∀ (d g : Addr) (H' : Hp), H d = none → H g = none → Deck H' d g 0 → Same H H' → Q (.ref d) H'
def Pdeck (a g : Addr) (H0 : Hp) (i : Nat) (σ : St) (H : Hp) : Prop :=
  ∃ (gs : List Int) (fold : Int) (u : Option V), σ = [some (.ref a), some (.ref g), some (.int fold), u] ∧ H0 g = none ∧ H g = some (.lst (gs.map V.int)) ∧ gs.length ≤ i ∧
    (∀ x ∈ gs, 0 ≤ x) ∧ 0 ≤ fold ∧ fold < 2305843009213693951 ∧ Same H0 H
section
variable {P : Program} {w : World} {K : PySem.W.Frag} {mg : Str → Option Value} {base : Heap} {f : Addr} {fd : FuncData}
theorem ok_deck (B : Bn mg) (F : Fun K "_law_deck" "_law_deck" s__law_deck f fd) : FnOk P w K mg base CX0 1 f fd ["script"] (spDeck K) := by
  refine F.ok sc__law_deck (fun vs H Q E h => ?_) (fun cdv A outer s H vs Q E hr h => ?_)
  · obtain ⟨a, ns, rfl, _⟩ := h
    rfl
  obtain ⟨a, ns, rfl, hS, h63, q⟩ := h
  refine ⟨_, (pss_cons (ps_set (i := 1) sc__law_deck.nd rfl (Or.inl rfl) (pe_lst pa_nil))
    (pss_cons (ps_set (i := 2) sc__law_deck.nd rfl (Or.inl rfl) pe_int)
    (pss_cons (ps_for PassesOwn.never rfl (piL K rfl (pv 0)) (pg_name (i := 3) sc__law_deck.nd rfl (Or.inl rfl)) (pss_cons (ps_set (i := 2) sc__law_deck.nd rfl (Or.inl rfl) (pe_op op_mod (pe_op op_add (pe_op op_mul (pv 2) pe_int) (pv 3)) pe_int))
    (pss_one (ps_if (pt_cmpR op_ge (pe_callB call_abs (by rfl) B.b_abs (by decide +kernel) (pa_cons (pv 3) pa_nil)) (pe_op op_pow pe_int pe_int) (nomark _)) (pss_one (ps_expr (pe_bm PySem.F.plainAttrs_list PySem.F.slot_list_insert PySem.F.type_list_insert mt_insert (pv 1) (pa_cons pe_int (pa_cons (pe_op op_sub (pe_callB call_abs (by rfl) B.b_abs (by decide +kernel) (pa_cons (pv 3) pa_nil)) (pe_op op_pow pe_int pe_int)) pa_nil))))) pss_nil))))
    (pss_one (ps_ret (pe_lst (pa_cons (pv 1) (pa_cons (pv 2) (pa_cons pe_int pa_nil))))))))), ?_⟩
  refine ⟨Nat.zero_le _, fun g hg => ?_⟩
  refine ⟨_, rfl, a, rfl, ⟨_, (same_new hg _).seq hS⟩, for_list (xs := ns.map V.int) (Pdeck a g H) ?_ ?_ ?_ ?_⟩
  · exact ⟨[], 11, none, rfl, hg, upd_same, Nat.le_refl _, fun x hx => by simp at hx, by decide, by decide, same_new hg _⟩
  · rintro i σ H1 _ ⟨gs, fold, u, rfl, h0, h1, h2, h3, h4, h5, h6⟩
    exact h6.seq hS
  · rintro i x σ H1 hx ⟨gs, fold, u, rfl, h0, h1, h2, h3, h4, h5, h6⟩
    rw [List.getElem?_map] at hx
    obtain ⟨c, hc, rfl⟩ := Option.map_eq_some_iff.mp hx
    have hi : i < ns.length := (List.getElem?_eq_some_iff.mp hc).1
    have f0 : 0 ≤ (fold * 1000003 + c) % 2305843009213693951 := Int.emod_nonneg _ (by decide)
    have f1 : (fold * 1000003 + c) % 2305843009213693951 < 2305843009213693951 := Int.emod_lt_of_pos _ (by decide)
    refine ⟨_, rfl, _, _, rfl, rfl, .inl ⟨by omega, by omega⟩, _, rfl, _, _, rfl, rfl, _, _, rfl, rfl, (show (0 : Int) < 2305843009213693951 by decide), ?_⟩
    refine ⟨_, rfl, c, rfl, _, _, rfl, rfl, ⟨by decide, by decide, by decide⟩, _, _, rfl, rfl, _, rfl, ?_⟩
    rw [abs_if]
    refine ite2 (fun hc1 => ?_) (fun hc1 => ?_)
    · refine ⟨_, rfl, tyL h1, _, rfl, c, rfl, _, _, rfl, rfl, ⟨by decide, by decide, by decide⟩, _, _, rfl, rfl, g, _, 0, _, rfl, rfl, h1, ?_, Int.le_refl _, by decide, ?_⟩
      · rw [List.length_map]
        exact small1000 (by omega)
      · rw [abs_if]
        have e1 : (10 : Int) ^ (18 : Int).toNat = 1000000000000000000 := by decide
        refine ⟨((c.natAbs : Int) - (10 : Int) ^ (18 : Int).toNat) :: gs, _, _, rfl, h0, ?_, ?_, ?_, f0, f1, Same.atNew h6 h0⟩
        · rw [upd_same]
          rfl
        · rw [List.length_cons]
          omega
        · intro y hy
          rcases List.mem_cons.mp hy with rfl | hy
          · have hc2 := of_decide_eq_true hc1
            rw [e1] at hc2 ⊢
            omega
          · exact h3 y hy
    · exact ⟨gs, _, _, rfl, h0, h1, by omega, h3, f0, f1, h6⟩
  · intro σ H1 p
    rw [List.length_map] at p
    obtain ⟨gs, fold, u, rfl, h0, h1, h2, h3, h4, h5, h6⟩ := p
    refine ⟨_, rfl, _, rfl, by show 3 ≤ sizeLine; decide, fun d hd => ?_⟩
    exact q d g _ (h6.free hd) h0 ⟨gs, fold, 0, upd_same, by rw [upd_ne (ne_of_none h1 hd)]; exact h1, h3, h4, h5, Int.le_refl _, Int.le_refl _⟩ (h6.trans (same_new hd _))
end
end My
namespace My
open PySem L2 NdefX LamX
theorem Tm.sgs_sub : ∀ {p : List Nat} {t s : Tm}, subAt t p = some s → Tm.sgs t → Tm.sgs s
  | [], .nd h ts, s, hs, ht => by
    have e : s = .nd h ts := (Option.some.inj hs).symm
    subst e
    exact ht
  | i :: r, .nd h ts, s, hs, ht => by
    have hs : (ts[i]?).bind (fun s => subAt s r) = some s := hs
    cases e : ts[i]? with
    | none => rw [e] at hs; cases hs
    | some u =>
      rw [e] at hs
      rw [Tm.sgs] at ht
      exact Tm.sgs_sub hs (Tm.sgss_mem ht.2 (List.mem_of_getElem? e))
theorem rebs_len {chg : Tm → Tm} {ts : List Tm} : (Tm.rebs chg ts).length = ts.length := by rw [Tm.rebs_map, List.length_map]
mutual
theorem Tm.fill_depth {σ : Str → Option Tm} {M : Nat} (hM : ∀ x s, σ x = some s → s.depth ≤ M) : ∀ t : Tm, (fill σ t).depth ≤ t.depth + M
  | .nd h ts => by
    have a := Tm.fills_depth hM ts
    unfold fill
    rw [Tm.reb]
    by_cases hh : ∃ x, h = .hole x
    · obtain ⟨x, rfl⟩ := hh
      cases e : σ x with
      | some s =>
        rw [fchg_hole e]
        have := hM x s e
        omega
      | none =>
        have e2 : fchg σ (.nd (.hole x) (Tm.rebs (fchg σ) ts)) = .nd (.hole x) (Tm.rebs (fchg σ) ts) := by
          show (σ x).getD (.nd (.hole x) (Tm.rebs (fchg σ) ts)) = _
          rw [e]
          rfl
        rw [e2]
        show Tm.depths (Tm.rebs (fchg σ) ts) + 1 ≤ Tm.depths ts + 1 + M
        omega
    · rw [fchg_other fun x e => hh ⟨x, e⟩]
      show Tm.depths (Tm.rebs (fchg σ) ts) + 1 ≤ Tm.depths ts + 1 + M
      omega
theorem Tm.fills_depth {σ : Str → Option Tm} {M : Nat} (hM : ∀ x s, σ x = some s → s.depth ≤ M) : ∀ ts : List Tm, Tm.depths (Tm.rebs (fchg σ) ts) ≤ Tm.depths ts + M
  | [] => by rw [Tm.rebs]; exact Nat.zero_le _
  | t :: r => by
    have a := Tm.fill_depth hM t
    have b := Tm.fills_depth hM r
    unfold fill at a
    rw [Tm.rebs]
    show max (Tm.reb (fchg σ) t).depth (Tm.depths (Tm.rebs (fchg σ) r)) ≤ max t.depth (Tm.depths r) + M
    omega
end
mutual
theorem Tm.fill_sgs {σ : Str → Option Tm} (hM : ∀ x s, σ x = some s → Tm.sgs s) : ∀ t : Tm, Tm.sgs t → Tm.sgs (fill σ t)
  | .nd h ts, sg => by
    rw [Tm.sgs] at sg
    have a := Tm.fills_sgs hM ts sg.2
    unfold fill
    rw [Tm.reb]
    by_cases hh : ∃ x, h = .hole x
    · obtain ⟨x, rfl⟩ := hh
      cases e : σ x with
      | some s =>
        rw [fchg_hole e]
        exact hM x s e
      | none =>
        have e2 : fchg σ (.nd (.hole x) (Tm.rebs (fchg σ) ts)) = .nd (.hole x) (Tm.rebs (fchg σ) ts) := by
          show (σ x).getD (.nd (.hole x) (Tm.rebs (fchg σ) ts)) = _
          rw [e]
          rfl
        rw [e2, Tm.sgs]
        exact ⟨⟨sg.1.1, by rw [rebs_len]; exact sg.1.2⟩, a⟩
    · rw [fchg_other fun x e => hh ⟨x, e⟩, Tm.sgs]
      exact ⟨⟨sg.1.1, by rw [rebs_len]; exact sg.1.2⟩, a⟩
theorem Tm.fills_sgs {σ : Str → Option Tm} (hM : ∀ x s, σ x = some s → Tm.sgs s) : ∀ ts : List Tm, Tm.sgss ts → Tm.sgss (Tm.rebs (fchg σ) ts)
  | [], _ => by rw [Tm.rebs, Tm.sgss]; trivial
  | t :: r, sg => by
    rw [Tm.sgss] at sg
    have a := Tm.fill_sgs hM t sg.1
    unfold fill at a
    rw [Tm.rebs, Tm.sgss]
    exact ⟨a, Tm.fills_sgs hM r sg.2⟩
end
theorem argm_mem {ns : List Str} {ts : List Tm} {x : Str} {s : Tm} (h : argm ns ts x = some s) : s ∈ ts := by
  unfold argm at h
  obtain ⟨p, hp, rfl⟩ := Option.map_eq_some_iff.mp h
  exact (List.of_mem_zip (List.mem_of_find?_eq_some hp)).2
mutual
theorem Tm.unf_depth {rows : List Rw} (hr : ∀ r ∈ rows, r.2.2.depth ≤ 40) : ∀ t : Tm, (unf rows t).depth ≤ 41 * t.depth
  | .nd h ts => by
    have a := Tm.unfs_depth hr ts
    rw [unf_call]
    have e : ts.map (unf rows) = Tm.rebs (uchg rows) ts := (Tm.rebs_map ts).symm
    rw [e]
    show _ ≤ 41 * (Tm.depths ts + 1)
    have same : (Tm.nd h (Tm.rebs (uchg rows) ts)).depth ≤ 41 * (Tm.depths ts + 1) := by
      show Tm.depths (Tm.rebs (uchg rows) ts) + 1 ≤ _
      omega
    by_cases hh : ∃ x ns, h = .call x ns
    · obtain ⟨x, ns, rfl⟩ := hh
      rw [uchg_call]
      cases e2 : tplOf rows x with
      | none => exact same
      | some tp =>
        obtain ⟨r, mr, _, rfl⟩ := tplOf_mem e2
        have b := Tm.fill_depth (σ := argm ns (Tm.rebs (uchg rows) ts)) (M := Tm.depths (Tm.rebs (uchg rows) ts)) (fun x s hs => depths_mem (argm_mem hs)) r.2.2
        have c := hr r mr
        show (fill (argm ns (Tm.rebs (uchg rows) ts)) r.2.2).depth ≤ _
        omega
    · rw [uchg_other fun x ns e => hh ⟨x, ns, e⟩]
      exact same
theorem Tm.unfs_depth {rows : List Rw} (hr : ∀ r ∈ rows, r.2.2.depth ≤ 40) : ∀ ts : List Tm, Tm.depths (Tm.rebs (uchg rows) ts) ≤ 41 * Tm.depths ts
  | [] => by rw [Tm.rebs]; exact Nat.zero_le _
  | t :: r => by
    have a := Tm.unf_depth hr t
    have b := Tm.unfs_depth hr r
    unfold unf at a
    rw [Tm.rebs]
    show max (Tm.reb (uchg rows) t).depth (Tm.depths (Tm.rebs (uchg rows) r)) ≤ 41 * max t.depth (Tm.depths r)
    have := Nat.le_max_left t.depth (Tm.depths r)
    have := Nat.le_max_right t.depth (Tm.depths r)
    omega
end
mutual
theorem Tm.unf_sgs {rows : List Rw} (hr : ∀ r ∈ rows, Tm.sgs r.2.2) : ∀ t : Tm, Tm.sgs t → Tm.sgs (unf rows t)
  | .nd h ts, sg => by
    rw [Tm.sgs] at sg
    have a := Tm.unfs_sgs hr ts sg.2
    rw [unf_call]
    have e : ts.map (unf rows) = Tm.rebs (uchg rows) ts := (Tm.rebs_map ts).symm
    rw [e]
    have same : Tm.sgs (.nd h (Tm.rebs (uchg rows) ts)) := by
      rw [Tm.sgs]
      exact ⟨⟨sg.1.1, by rw [rebs_len]; exact sg.1.2⟩, a⟩
    by_cases hh : ∃ x ns, h = .call x ns
    · obtain ⟨x, ns, rfl⟩ := hh
      rw [uchg_call]
      cases e2 : tplOf rows x with
      | none => exact same
      | some tp =>
        obtain ⟨r, mr, _, rfl⟩ := tplOf_mem e2
        exact Tm.fill_sgs (fun x s hs => Tm.sgss_mem a (argm_mem hs)) r.2.2 (hr r mr)
    · rw [uchg_other fun x ns e => hh ⟨x, ns, e⟩]
      exact same
theorem Tm.unfs_sgs {rows : List Rw} (hr : ∀ r ∈ rows, Tm.sgs r.2.2) : ∀ ts : List Tm, Tm.sgss ts → Tm.sgss (Tm.rebs (uchg rows) ts)
  | [], _ => by rw [Tm.rebs, Tm.sgss]; trivial
  | t :: r, sg => by
    rw [Tm.sgss] at sg
    have a := Tm.unf_sgs hr t sg.1
    unfold unf at a
    rw [Tm.rebs, Tm.sgss]
    exact ⟨a, Tm.unfs_sgs hr r sg.2⟩
end
theorem Tm.sgs_wide {t : Tm} (sg : Tm.sgs t) : Tm.wide t := fun p h ts e => by
  have z := Tm.sgs_sub e sg
  rw [Tm.sgs] at z
  have := z.1.2
  omega
end My
namespace My
open PySem L2 NdefX LamX
/-! _law_row -/
theorem EntA.butP {H H' : Hp} (T : Tups H H') {vs : List V} {xs : List Str} (h : Paired (EntA H) vs xs) : Paired (EntA H') vs xs := Paired.mono (fun _ _ z => z.mono T) h
abbrev abc3 : List Str := ["a", "b", "c"]
theorem ltS_of {z : Str} (h : (decide (z.length ≤ 8) && z.cps.toList.all fun c => decide (97 ≤ c ∧ c ≤ 122)) = true) : LtS z := by
  rw [Bool.and_eq_true] at h
  exact ⟨of_decide_eq_true h.1, fun c hc => of_decide_eq_true (List.all_eq_true.mp h.2 c hc)⟩
theorem Tm.fewT_nd {h : Hd} {ts : List Tm} (a : ts ≠ [] → h.few) (b : ∀ t ∈ ts, Tm.fewT t) : Tm.fewT (.nd h ts)
  | [], h2, ts2, hp, ne => by
    have e : Tm.nd h ts = .nd h2 ts2 := Option.some.inj hp
    cases e
    exact a ne
  | i :: r, h2, ts2, hp, ne => by
    have hp : (ts[i]?).bind (fun s => subAt s r) = some (.nd h2 ts2) := hp
    cases e : ts[i]? with
    | none => rw [e] at hp; cases hp
    | some x =>
      rw [e] at hp
      exact b x (List.mem_of_getElem? e) r h2 ts2 hp ne
def HolAt (H : Hp) (v : V) (x : Str) : Prop := ∃ a, v = .ref a ∧ H a = some (.tup [.str "hole", .str x])
theorem HolAt.mono {H H' : Hp} (t : Tups H H') {v : V} {x : Str} (h : HolAt H v x) : HolAt H' v x := by
  obtain ⟨a, e, h⟩ := h
  exact ⟨a, e, t _ _ h⟩
/-- a template on its way -/
structure TpOk (t : Tm) (i : Nat) : Prop where
  size : t.size ≤ 1 + 8 * i
  depth : t.depth ≤ 1 + 3 * i
  few : Tm.fewT t
  sgs : Tm.sgs t
theorem fewT_leaf {h : Hd} : Tm.fewT (.nd h []) := Tm.fewT_nd (fun z => absurd rfl z) fun t ht => nomatch ht
abbrev holeX (x : Str) : Tm := .nd (.hole x) []
section
variable {t : Tm} {i : Nat} {x : Str}
theorem lt_base : LtS "base" ∧ LtS "k" ∧ LtS "m" ∧ LtS "rec" ∧ LtS "p" ∧ LtS "t" := ⟨ltS_of (by decide +kernel), ltS_of (by decide +kernel), ltS_of (by decide +kernel), ltS_of (by decide +kernel), ltS_of (by decide +kernel), ltS_of (by decide +kernel)⟩
theorem TpOk.num : TpOk (.nd (.num 4) []) 0 := ⟨by simp [Tm.size, Tm.sizes], by simp [Tm.depth, Tm.depths], fewT_leaf, by simp [Tm.sgs, Tm.sgss, Hd.signs]⟩
theorem TpOk.text : TpOk (.nd (.text "t") []) 0 := ⟨by simp [Tm.size, Tm.sizes], by simp [Tm.depth, Tm.depths], fewT_leaf, by simp [Tm.sgs, Tm.sgss, Hd.signs, lt_base]⟩
theorem TpOk.call : TpOk (.nd (.call "base" []) []) 0 := ⟨by simp [Tm.size, Tm.sizes], by simp [Tm.depth, Tm.depths], fewT_leaf, by simp [Tm.sgs, Tm.sgss, Hd.signs, lt_base]⟩
theorem TpOk.w0 (h : TpOk t i) (lx : LtS x) : TpOk (.nd .ask [holeX x, t, holeX x]) (i + 1) :=
  ⟨by have := h.size; simp only [Tm.size, Tm.sizes]; omega, by have := h.depth; simp only [Tm.depth, Tm.depths]; omega, Tm.fewT_nd (fun _ => trivial) (by simp [fewT_leaf, h.few]), by simp [Tm.sgs, Tm.sgss, Hd.signs, h.sgs, lx]⟩
theorem TpOk.w1 (h : TpOk t i) (lx : LtS x) : TpOk (.nd (.call "base" ["k", "m"]) [t, holeX x]) (i + 1) :=
  ⟨by have := h.size; simp only [Tm.size, Tm.sizes]; omega, by have := h.depth; simp only [Tm.depth, Tm.depths]; omega, Tm.fewT_nd (fun _ => trivial) (by simp [fewT_leaf, h.few]), by simp [Tm.sgs, Tm.sgss, Hd.signs, h.sgs, lx, lt_base]⟩
theorem TpOk.w2 (h : TpOk t i) (lx : LtS x) : TpOk (.nd (.make "rec" ["k", "m"]) [.nd (.answer 2) [holeX x], t]) (i + 1) :=
  ⟨by have := h.size; simp only [Tm.size, Tm.sizes]; omega, by have := h.depth; simp only [Tm.depth, Tm.depths]; omega, Tm.fewT_nd (fun _ => trivial) (by simp [h.few, Tm.fewT_nd (h := .answer 2) (ts := [holeX x]) (fun _ => trivial) (by simp [fewT_leaf])]), by simp [Tm.sgs, Tm.sgss, Hd.signs, h.sgs, lx, lt_base]⟩
theorem TpOk.w3 (h : TpOk t i) (lx : LtS x) : TpOk (.nd .ask [t, .nd (.handed "base" "p" 0 ["k"]) [holeX x]]) (i + 1) :=
  ⟨by have := h.size; simp only [Tm.size, Tm.sizes]; omega, by have := h.depth; simp only [Tm.depth, Tm.depths]; omega, Tm.fewT_nd (fun _ => trivial) (by simp [h.few, Tm.fewT_nd (h := .handed "base" "p" 0 ["k"]) (ts := [holeX x]) (fun _ => trivial) (by simp [fewT_leaf])]), by simp [Tm.sgs, Tm.sgss, Hd.signs, h.sgs, lx, lt_base]⟩
theorem TpOk.le {j : Nat} (h : TpOk t i) (l : i ≤ j) : TpOk t j := ⟨by have := h.size; omega, by have := h.depth; omega, h.few, h.sgs⟩
theorem hole_tm {H : Hp} {v : V} (h : HolAt H v x) : TmAt H v (holeX x) := by
  obtain ⟨a, rfl, h⟩ := h
  exact .nd (.hole h) .nil
end
def RwFull (r : Rw) : Prop := TpOk r.2.2 3 ∧ r.2.1.Nodup ∧ r.2.1.length ≤ 4 ∧ ∀ x ∈ r.2.1, LtS x
def spRow : Sp := fun vs H Q _ => ∃ (d g : Addr) (n : Int) (nm : Str), vs = [.ref d, .str nm] ∧ Deck H d g n ∧ n ≤ 790000 ∧
  ∀ (v : V) (r : Rw) (H' : Hp), RowAt H' v r → r.1 = nm → RwFull r → Deck H' d g (n + 10) → But d g H H' → Q v H'
def Pent (H0 : Hp) (D : Addr) (i : Nat) (H : Hp) : Prop := Same H0 H ∧ ∃ es, H D = some (.lst es) ∧ Paired (EntA H) es (abc3.take i)
theorem ents_ok {mm : Nat} (h : mm ≤ 3) : (abc3.take mm ++ [("d" : Str)]).Nodup ∧ (abc3.take mm ++ [("d" : Str)]).length ≤ 4 := by
  have : mm = 0 ∨ mm = 1 ∨ mm = 2 ∨ mm = 3 := by omega
  rcases this with rfl | rfl | rfl | rfl <;> exact ⟨by decide +kernel, by decide⟩
/-- the template grows -/
def Ptp (d g L DH : Addr) (nm : Str) (H0 : Hp) (n : Int) (i : Nat) (σ : St) (H : Hp) : Prop := ∃ (tv : V) (t : Tm) (u5 u6 : Option V), σ = [some (.ref d), some (.str nm), some (.ref L), some (.ref DH), some tv, u5, u6, none, none] ∧ But d g H0 H ∧ Deck H d g (n + (i : Int)) ∧ TmAt H tv t ∧ TpOk t i
structure Phol (d g p L DH : Addr) (H0 : Hp) (n : Int) (es ls : List V) (i : Nat) (H : Hp) : Prop where
  b : But d g H0 H
  D : Deck H d g (n + (i : Int))
  p : H p = some (.lst es)
  L : H L = some (.lst ls)
  hs : ∃ hs xs, H DH = some (.lst hs) ∧ Paired (HolAt H) hs xs ∧ (∀ x ∈ xs, x ∈ abc3) ∧ xs.length ≤ i
section
variable {P : Program} {w : World} {K : PySem.W.Frag} {mg : Str → Option Value} {base : Heap} {f : Addr} {fd : FuncData}
set_option maxHeartbeats 1600000 in
theorem ok_row (B : Bn mg) (F : Fun K "_law_row" "_law_row" s__law_row f fd) (c__law_take : Cal P w K mg base "_law_take" 1 ["deck", "many"] spTake) : FnOk P w K mg base CX0 2 f fd ["deck", "name"] spRow := by
  refine F.ok sc__law_row (fun vs H Q E h => ?_) (fun cdv A outer s H vs Q E hr h => ?_)
  · obtain ⟨d, g, n, nm, rfl, _⟩ := h
    rfl
  obtain ⟨d, g, n, nm, rfl, D0, hn, q⟩ := h
  refine ⟨_, (pss_cons (ps_set (i := 2) sc__law_row.nd rfl (Or.inl rfl) (pe_op op_cat (pe_lc (own := [("k", 8)]) (g := (gName 8)) rfl sc__law_row.nd (pi_range1 rfl B.b_range (pa_cons (pc c__law_take (hr.mono (by first | decide | omega)) (pa_cons (pv 0) (pa_cons pe_int pa_nil))) pa_nil)) (blkOk_by (N := ["deck", "name", "entries", "holes", "template", "hole", "way", "one", "k"]) (sc := defScope s__law_row) (by decide +kernel)) (fun _ _ _ _ _ => (pg_name (i := 8) sc__law_row.nd rfl (Or.inl rfl) (hf := Or.inr rfl))) (fun _ _ _ _ _ => pts_nil) (fun _ _ _ _ _ => (pe_tup (pa_cons (pe_ix ix_str pe_str (pv 8) (fun _ _ => rfl)) (pa_cons (pe_tup (pa_cons pe_str pa_nil)) (pa_cons pe_bl pa_nil)))))) (pe_lst (pa_cons (pe_tup (pa_cons pe_str (pa_cons (pe_tup (pa_cons pe_str pa_nil)) (pa_cons pe_bl pa_nil)))) pa_nil))))
    (pss_cons (ps_setLc (i := 3) (own := [("one", 7)]) (g := (gName 7)) rfl sc__law_row.nd rfl rfl (sw_true rfl rfl rfl (by decide +kernel)) (piL K rfl (pe_slice (slL K rfl) (pv 2) po_none (po_some (pe_un un_neg pe_int)))) (blkOk_by (N := ["deck", "name", "entries", "holes", "template", "hole", "way", "one", "k"]) (sc := defScope s__law_row) (by decide +kernel)) (fun _ _ _ _ _ => (pg_name (i := 7) sc__law_row.nd rfl (Or.inl rfl) (hf := Or.inr rfl))) (fun _ _ _ _ _ => (pts_one (pt_cmpR op_gt (pc c__law_take (hr.mono (by first | decide | omega)) (pa_cons (pv 0) (pa_cons pe_int pa_nil))) pe_int (nomark _)))) (fun _ _ _ _ _ => (pe_tup (pa_cons pe_str (pa_cons (pe_ix (ixT K rfl) (pv 7) pe_int (fun _ _ => rfl)) pa_nil)))))
    (pss_cons (ps_set (i := 4) sc__law_row.nd rfl (Or.inl rfl) (pe_ix (ixL K rfl) (pe_lst (pa_cons (pe_tup (pa_cons pe_str (pa_cons pe_int pa_nil))) (pa_cons (pe_tup (pa_cons pe_str (pa_cons pe_str (pa_cons (pe_tupF pa_nil) pa_nil)))) (pa_cons (pe_tup (pa_cons pe_str (pa_cons pe_str pa_nil))) pa_nil)))) (pc c__law_take (hr.mono (by first | decide | omega)) (pa_cons (pv 0) (pa_cons pe_int pa_nil))) (fun _ _ => rfl)))
    (pss_cons (ps_for PassesOwn.never rfl (piL K rfl (pv 3)) (pg_name (i := 5) sc__law_row.nd rfl (Or.inl rfl)) (pss_cons (ps_set (i := 6) sc__law_row.nd rfl (Or.inl rfl) (pc c__law_take (hr.mono (by first | decide | omega)) (pa_cons (pv 0) (pa_cons pe_int pa_nil))))
    (pss_cons (ps_if (pt_cmpR op_eq (pv 6) pe_int (nomark _)) (pss_one (ps_set (i := 4) sc__law_row.nd rfl (Or.inl rfl) (pe_tup (pa_cons pe_str (pa_cons (pv 5) (pa_cons (pe_tup (pa_cons (pv 4) (pa_cons (pv 5) pa_nil))) pa_nil)))))) pss_nil)
    (pss_cons (ps_if (pt_cmpR op_eq (pv 6) pe_int (nomark _)) (pss_one (ps_set (i := 4) sc__law_row.nd rfl (Or.inl rfl) (pe_tup (pa_cons pe_str (pa_cons pe_str (pa_cons (pe_tupF (pa_cons (pe_tup (pa_cons pe_str (pa_cons (pv 4) pa_nil))) (pa_cons (pe_tup (pa_cons pe_str (pa_cons (pv 5) pa_nil))) pa_nil))) pa_nil)))))) pss_nil)
    (pss_cons (ps_if (pt_cmpR op_eq (pv 6) pe_int (nomark _)) (pss_one (ps_set (i := 4) sc__law_row.nd rfl (Or.inl rfl) (pe_tup (pa_cons pe_str (pa_cons pe_str (pa_cons (pe_tupF (pa_cons (pe_tup (pa_cons pe_str (pa_cons (pe_tup (pa_cons pe_str (pa_cons pe_int (pa_cons (pv 5) pa_nil)))) pa_nil))) (pa_cons (pe_tup (pa_cons pe_str (pa_cons (pv 4) pa_nil))) pa_nil))) pa_nil)))))) pss_nil)
    (pss_one (ps_if (pt_cmpR op_eq (pv 6) pe_int (nomark _)) (pss_one (ps_set (i := 4) sc__law_row.nd rfl (Or.inl rfl) (pe_tup (pa_cons pe_str (pa_cons (pv 4) (pa_cons (pe_tup (pa_cons (pe_tup (pa_cons pe_str (pa_cons pe_str (pa_cons pe_str (pa_cons pe_int (pa_cons (pe_tupF (pa_cons (pe_tup (pa_cons pe_str (pa_cons (pv 5) pa_nil))) pa_nil)) pa_nil)))))) pa_nil)) pa_nil)))))) pss_nil)))))))
    (pss_one (ps_ret (pe_tup (pa_cons (pv 1) (pa_cons (pe_callTy (tupleOf K rfl) (by rfl) B.b_tuple (by decide +kernel) (pa_cons (pv 2) pa_nil)) (pa_cons (pe_tup (pa_cons pe_str pa_nil)) (pa_cons (pv 4) pa_nil))))))))))), ?_⟩
  refine ⟨_, rfl, d, g, 4, n, rfl, D0, by omega, by omega, by omega, fun m H1 m0 m1 D1 b1 => ?_⟩
  refine ⟨_, rfl, by omega, by omega, fun DE nDE => lc_range (lo := 0) (n := m.toNat) (Pent H1 DE) ?_ ?_ ?_⟩
  · exact ⟨same_new nDE _, [], upd_same, .nil⟩
  · rintro i H2 hi ⟨s2, es, hE, pE⟩
    obtain ⟨x, hx, c, hc, ec⟩ : ∃ x, abc3[i]? = some x ∧ ∃ c, atI ("abc" : Str).cps.toList ((0 : Int) + (i : Int)) = some c ∧ (⟨#[c]⟩ : Str) = x := by
      have : i = 0 ∨ i = 1 ∨ i = 2 := by omega
      rcases this with rfl | rfl | rfl
      · exact ⟨"a", rfl, 97, by decide +kernel, by decide +kernel⟩
      · exact ⟨"b", rfl, 98, by decide +kernel, by decide +kernel⟩
      · exact ⟨"c", rfl, 99, by decide +kernel, by decide +kernel⟩
    refine ⟨rfl, _, rfl, _, _, c, rfl, rfl, (by rw [sizeLine_eq]; decide), hc, (by show 1 ≤ sizeLine; decide), fun k1 nk1 => ⟨(by show 3 ≤ sizeLine; decide), fun e1 ne1 => ?_⟩⟩
    rw [ec]
    have s3 := same_new nk1 (.tup [V.str "num"])
    generalize upd H2 k1 (.tup [V.str "num"]) = H3 at s3 ne1 ⊢
    have s4 := same_new ne1 (.tup [V.str x, V.ref k1, V.bl true])
    have he4 : (upd H3 e1 (.tup [V.str x, V.ref k1, V.bl true])) e1 = some (.tup [V.str x, V.ref k1, V.bl true]) := upd_same
    generalize upd H3 e1 (.tup [V.str x, V.ref k1, V.bl true]) = H4 at s4 he4 ⊢
    have hE4 := (s3.trans s4) _ _ hE
    have T5 : Tups H4 (upd H4 DE (.lst (es ++ [.ref e1]))) := Tups.upd hE4
    have lE := Paired.length pE
    refine ⟨es, hE4, line5 (by rw [lE, List.length_take]; omega), Same.atNew (s2.trans (s3.trans s4)) nDE, _, upd_same, ?_⟩
    rw [← take_next hx]
    exact pair_app (EntA.butP T5 (EntA.butP (Tups.of_same (s3.trans s4)) pE)) (.cons ⟨e1, _, _, rfl, T5 _ _ he4⟩ .nil)
  rintro H2 ⟨s2, es, hE, pE⟩
  generalize hmn : m.toNat = mm at pE
  have mm4 : mm ≤ 3 := by omega
  refine ⟨(by show 1 ≤ sizeLine; decide), fun k1 nk1 => ⟨(by show 3 ≤ sizeLine; decide), fun e1 ne1 => ⟨(by show 1 ≤ sizeLine; decide), fun l1 nl1 => ?_⟩⟩⟩
  have s3 := same_new nk1 (.tup [V.str "text"])
  generalize upd H2 k1 (.tup [V.str "text"]) = H3 at s3 ne1 nl1 ⊢
  have s4 := same_new ne1 (.tup [V.str "d", V.ref k1, V.bl false])
  have he4 : (upd H3 e1 (.tup [V.str "d", V.ref k1, V.bl false])) e1 = some (.tup [V.str "d", V.ref k1, V.bl false]) := upd_same
  generalize upd H3 e1 (.tup [V.str "d", V.ref k1, V.bl false]) = H4 at s4 he4 nl1 ⊢
  have s5 := same_new nl1 (.lst [V.ref e1])
  have hl5 : (upd H4 l1 (.lst [V.ref e1])) l1 = some (.lst [V.ref e1]) := upd_same
  generalize upd H4 l1 (.lst [V.ref e1]) = H5 at s5 hl5 ⊢
  have s25 := (s3.trans s4).trans s5
  have lE := Paired.length pE
  refine ⟨_, _, _, _, rfl, rfl, s25 _ _ hE, hl5, (by rw [lE, List.length_take, sizeLine_eq, List.length_singleton]; omega), fun L nL => ?_⟩
  have s6 := same_new nL (.lst (es ++ [V.ref e1]))
  have hL6 : (upd H5 L (.lst (es ++ [V.ref e1]))) L = some (.lst (es ++ [V.ref e1])) := upd_same
  generalize upd H5 L (.lst (es ++ [V.ref e1])) = H6 at s6 hL6 ⊢
  have s26 := s25.trans s6
  have T26 := Tups.of_same s26
  have pL : Paired (EntA H6) (es ++ [V.ref e1]) (abc3.take mm ++ [("d" : Str)]) := pair_app (EntA.butP T26 pE) (.cons ⟨e1, _, _, rfl, s6 _ _ (s5 _ _ he4)⟩ .nil)
  have b6 : But d g H H6 := (b1.trans (But.of_same s2)).trans (But.of_same s26)
  have D6 : Deck H6 d g (n + 1) := (D1.same s2).same s26
  have nLd := ((D1.same s2).same s25).ne nL
  clear s25 s5 s4 s3 s6 hl5 he4 nk1 ne1 nl1 nL
  dsimp only [gName]
  refine ⟨_, rfl, _, rfl, _, rfl, _, _, rfl, SqL.of hL6, fun p8 np8 => ?_⟩
  have ec : cutV (es ++ [V.ref e1]) none (some (-1)) = es := by
    cases es with
    | nil =>
      unfold cutV HT.sIx
      simp
    | cons a b => exact (cut_init (L := a :: b) (v := V.ref e1) (by simp)).2
  rw [ec]
  have s7 := same_new np8 (.lst es)
  have hp8 : (upd H6 p8 (.lst es)) p8 = some (.lst es) := upd_same
  have np8d := D6.ne np8
  have D7 := D6.same s7
  have b7 := b6.trans (But.of_same s7)
  have pL7 := EntA.butP (Tups.of_same s7) pL
  have pE7 := EntA.butP (Tups.of_same s7) (EntA.butP T26 pE)
  have hL7 := s7 _ _ hL6
  generalize upd H6 p8 (.lst es) = H7 at s7 hp8 D7 b7 pL7 pE7 hL7 ⊢
  refine ⟨p8, rfl, ⟨_, SqL.of hp8⟩, fun DH nDH => ?_⟩
  have nHd := D7.ne nDH
  have nHp : DH ≠ p8 := (ne_of_none hp8 nDH).symm
  have nHL : DH ≠ L := (ne_of_none hL7 nDH).symm
  refine lc_list (xs := es) (Phol d g p8 L DH H7 (n + 1) es (es ++ [V.ref e1])) ?_ ?_ ?_ ?_
  · exact ⟨But.of_same (same_new nDH _), by rw [show n + 1 + ((0 : Nat) : Int) = n + 1 by omega]; exact D7.new nDH, same_new nDH _ _ _ hp8, same_new nDH _ _ _ hL7, [], [], upd_same, .nil, fun x hx => (by cases hx), Nat.le_refl _⟩
  · exact fun i H8 _ PP => SqL.of PP.p
  · rintro i y H8 hy PP
    have li := (List.getElem?_eq_some_iff.mp hy).1
    have les : es.length ≤ 3 := by rw [lE, List.length_take]; show min mm 3 ≤ 3; omega
    refine ⟨rfl, _, rfl, d, g, 3, n + 1 + (i : Int), rfl, PP.D, by omega, by omega, by omega, fun r H9 r0 r1 D9 b9 => ⟨_, _, rfl, rfl, _, rfl, ?_⟩⟩
    have p9 := b9 _ _ np8d.1 np8d.2 PP.p
    have L9 := b9 _ _ nLd.1 nLd.2 PP.L
    have T9 := PP.D.tups b9
    obtain ⟨hs, xs, hH, pH, hx, lx⟩ := PP.hs
    have hH9 := b9 _ _ nHd.1 nHd.2 hH
    have D9' : Deck H9 d g (n + 1 + ((i + 1 : Nat) : Int)) := by rw [show n + 1 + ((i + 1 : Nat) : Int) = n + 1 + (i : Int) + 1 by omega]; exact D9
    have b79 := PP.b.trans b9
    by_cases c : 0 < r
    · rw [decide_eq_true c]
      obtain ⟨x, hx3, ex, kv, bv, rfl, hex⟩ := Paired.at pE7 i y hy
      have hex9 := (D7.tups b79) _ _ hex
      refine iteT ⟨_, rfl, _, _, _, _, rfl, rfl, SqT.of hex9, at_of (j := 0) rfl rfl, (by show 2 ≤ sizeLine; decide), fun t nt => ?_⟩
      have s10 := same_new nt (.tup [V.str "hole", V.str x])
      have ht10 : (upd H9 t (.tup [V.str "hole", V.str x])) t = some (.tup [V.str "hole", V.str x]) := upd_same
      generalize upd H9 t (.tup [V.str "hole", V.str x]) = H10 at s10 ht10 ⊢
      have hH10 := s10 _ _ hH9
      have T11 : Tups H10 (upd H10 DH (.lst (hs ++ [.ref t]))) := Tups.upd hH10
      have lh := Paired.length pH
      refine ⟨hs, hH10, line5 (by omega), ?_⟩
      refine ⟨But.atNew (b79.trans (But.of_same s10)) nDH, (D9'.same s10).at nHd.1 nHd.2, by rw [upd_ne nHp.symm]; exact s10 _ _ p9, by rw [upd_ne nHL.symm]; exact s10 _ _ L9, hs ++ [.ref t], xs ++ [x], upd_same, ?_, fun z hz => ?_, by rw [List.length_append, List.length_singleton]; omega⟩
      · exact pair_app (Paired.mono (fun _ _ z => ((z.mono T9).mono (Tups.of_same s10)).mono T11) pH) (.cons ⟨t, rfl, T11 _ _ ht10⟩ .nil)
      · rcases List.mem_append.mp hz with hz | hz
        · exact hx z hz
        · rw [List.mem_singleton.mp hz]
          exact List.mem_of_mem_take (List.mem_of_getElem? hx3)
    · rw [decide_eq_false c]
      refine iteF ?_
      exact ⟨b79, D9', p9, L9, hs, xs, hH9, Paired.mono (fun _ _ z => z.mono T9) pH, hx, by omega⟩
  rintro H8 PP
  have les : es.length ≤ 3 := by rw [lE, List.length_take]; show min mm 3 ≤ 3; omega
  obtain ⟨b8, D8, _, hL8, hs, xs, hH8, pH, hx, lx⟩ := PP
  have T8 := D7.tups b8
  have pL8 := EntA.butP T8 pL7
  have b08 := b7.trans b8
  clear pE7 pL7 hL7 hp8 b7 D7 s7 T8 b8
  dsimp only [gName]
  refine ⟨(by show 2 ≤ sizeLine; decide), fun a1 na1 => ⟨Nat.zero_le _, fun g1 u1 ng1 eu1 => ⟨(by show 3 ≤ sizeLine; decide), fun a2 na2 => ⟨(by show 2 ≤ sizeLine; decide), fun a3 na3 => ⟨(by show 3 ≤ sizeLine; decide), fun l1 nl1 => ?_⟩⟩⟩⟩⟩
  have s1 := same_new na1 (.tup [V.str "num", V.int 4])
  have h1 : (upd H8 a1 (.tup [V.str "num", V.int 4])) a1 = some (.tup [V.str "num", V.int 4]) := upd_same
  generalize upd H8 a1 (.tup [V.str "num", V.int 4]) = K1 at s1 h1 ng1 na2 na3 nl1 ⊢
  have s2 := same_new ng1 (.frz u1 (.tup []))
  have h2 : FzT (upd K1 g1 (.frz u1 (.tup []))) g1 [] := ⟨u1, upd_same, eu1⟩
  generalize upd K1 g1 (.frz u1 (.tup [])) = K2 at s2 h2 na2 na3 nl1 ⊢
  have s3 := same_new na2 (.tup [V.str "call", V.str "base", V.ref g1])
  have h3 : (upd K2 a2 (.tup [V.str "call", V.str "base", V.ref g1])) a2 = some (.tup [V.str "call", V.str "base", V.ref g1]) := upd_same
  generalize upd K2 a2 (.tup [V.str "call", V.str "base", V.ref g1]) = K3 at s3 h3 na3 nl1 ⊢
  have s4 := same_new na3 (.tup [V.str "text", V.str "t"])
  have h4 : (upd K3 a3 (.tup [V.str "text", V.str "t"])) a3 = some (.tup [V.str "text", V.str "t"]) := upd_same
  generalize upd K3 a3 (.tup [V.str "text", V.str "t"]) = K4 at s4 h4 nl1 ⊢
  have s5 := same_new nl1 (.lst [V.ref a1, V.ref a2, V.ref a3])
  have h5 : (upd K4 l1 (.lst [V.ref a1, V.ref a2, V.ref a3])) l1 = some (.lst [V.ref a1, V.ref a2, V.ref a3]) := upd_same
  generalize upd K4 l1 (.lst [V.ref a1, V.ref a2, V.ref a3]) = K5 at s5 h5 nl1 ⊢
  have sA := ((s1.trans s2).trans s3).trans (s4.trans s5)
  have DK := D8.same sA
  have nl1d : l1 ≠ d ∧ l1 ≠ g := (D8.same ((s1.trans s2).trans (s3.trans s4))).ne nl1
  refine ⟨_, rfl, d, g, 3, _, rfl, DK, by omega, by omega, by omega, fun r H9 r0 r1 D9 b9 => ?_⟩
  have T9 := DK.tups b9
  obtain ⟨tv, t, hat, htm, tok⟩ : ∃ tv t, atI [V.ref a1, V.ref a2, V.ref a3] r = some tv ∧ TmAt K5 tv t ∧ TpOk t 0 := by
    have : r = 0 ∨ r = 1 ∨ r = 2 := by omega
    rcases this with rfl | rfl | rfl
    · exact ⟨_, _, at_of (j := 0) rfl rfl, .nd (.num (((s2.trans s3).trans (s4.trans s5)) _ _ h1)) .nil, .num⟩
    · exact ⟨_, _, at_of (j := 1) rfl rfl, .nd (.call ((s4.trans s5) _ _ h3) (h2.mono (Tups.of_same (s3.trans (s4.trans s5)))) .nil) .nil, .call⟩
    · exact ⟨_, _, at_of (j := 2) rfl rfl, .nd (.text (s5 _ _ h4)) .nil, .text⟩
  refine ⟨_, _, _, _, rfl, rfl, SqL.of (b9 _ _ nl1d.1 nl1d.2 h5), hat, ?_⟩
  have b89 : But d g H8 H9 := (But.of_same sA).trans b9
  have T89 := D8.tups b89
  have hH9 := b89 _ _ nHd.1 nHd.2 hH8
  have hL9 := b89 _ _ nLd.1 nLd.2 hL8
  have pH9 := Paired.mono (fun _ _ z => HolAt.mono T89 z) pH
  have pL9 := EntA.butP T89 pL8
  have b09 := b08.trans b89
  have htm9 := htm.mono T9
  clear htm hat h1 h2 h3 h4 h5 s1 s2 s3 s4 s5 DK sA b9 D8
  have lh := Paired.length pH9
  refine ⟨_, rfl, DH, rfl, ⟨_, SqL.of hH9⟩, for_list (xs := hs) (Ptp d g L DH nm H9 (n + 1 + (es.length : Int) + 1)) ?_ ?_ ?_ ?_⟩
  · exact ⟨tv, t, _, _, rfl, But.refl _ _ _, by rw [show n + 1 + (es.length : Int) + 1 + ((0 : Nat) : Int) = n + 1 + (es.length : Int) + 1 by omega]; exact D9, htm9, tok⟩
  · rintro i σ' H10 _ ⟨tv, t, u5, u6, rfl, b10, _⟩
    exact SqL.of (b10 _ _ nHd.1 nHd.2 hH9)
  · rintro i y σ' H10 hy ⟨tv, t, u5, u6, rfl, b10, D10, htv, tk⟩
    have li := (List.getElem?_eq_some_iff.mp hy).1
    have T10 := D9.tups b10
    obtain ⟨x, hx3, hy3⟩ := Paired.at pH9 i y hy
    have lx : LtS x := by
      have := hx x (List.mem_of_getElem? hx3)
      simp only [abc3, List.mem_cons, List.not_mem_nil, or_false] at this
      rcases this with rfl | rfl | rfl <;> exact ltS_of (by decide +kernel)
    have hyT := (hole_tm hy3).mono T10
    dsimp only [gName]
    refine ⟨_, rfl, d, g, 4, _, rfl, D10, by omega, by omega, by omega, fun r2 H11 r20 r21 D11 b11 => ?_⟩
    have T11 := D10.tups b11
    have htv := htv.mono T11
    have hyT := hyT.mono T11
    have D11 : Deck H11 d g (n + 1 + (es.length : Int) + 1 + ((i + 1 : Nat) : Int)) := by rw [show n + 1 + (es.length : Int) + 1 + ((i + 1 : Nat) : Int) = n + 1 + (es.length : Int) + 1 + (i : Int) + 1 by omega]; exact D11
    have b11 := b10.trans b11
    dsimp only [gName]
    have : r2 = 0 ∨ r2 = 1 ∨ r2 = 2 ∨ r2 = 3 := by omega
    rcases this with rfl | rfl | rfl | rfl
    · refine ⟨_, rfl, rfl, _, rfl, ifT (by decide) ?_⟩
      refine ⟨_, rfl, _, rfl, _, rfl, (by show 2 ≤ sizeLine; decide), fun g2 ng2 => ⟨(by show 3 ≤ sizeLine; decide), fun a2 na2 => ?_⟩⟩
      have s1 := same_new ng2 (.tup [tv, y])
      have h1 : (upd H11 g2 (.tup [tv, y])) g2 = some (.tup [tv, y]) := upd_same
      generalize upd H11 g2 (.tup [tv, y]) = K1 at s1 h1 na2 ⊢
      have s2 := same_new na2 (.tup [V.str "ask", y, V.ref g2])
      have h2 : (upd K1 a2 (.tup [V.str "ask", y, V.ref g2])) a2 = some (.tup [V.str "ask", y, V.ref g2]) := upd_same
      generalize upd K1 a2 (.tup [V.str "ask", y, V.ref g2]) = K2 at s2 h2 ⊢
      have s12 := s1.trans s2
      have T12 := Tups.of_same s12
      dsimp only [gName]
      refine ⟨_, rfl, rfl, _, rfl, ifF (by decide) ⟨_, rfl, rfl, _, rfl, ifF (by decide) ⟨_, rfl, rfl, _, rfl, ifF (by decide) ?_⟩⟩⟩
      exact ⟨_, _, _, _, rfl, b11.trans (But.of_same s12), D11.same s12, .nd (.ask h2 (s2 _ _ h1)) (.cons (hyT.mono T12) (.cons (htv.mono T12) (.cons (hyT.mono T12) .nil))), tk.w0 lx⟩
    · refine ⟨_, rfl, rfl, _, rfl, ifF (by decide) ⟨_, rfl, rfl, _, rfl, ifT (by decide) ?_⟩⟩
      refine ⟨_, rfl, (by show 2 ≤ sizeLine; decide), fun e1 ne1 => ⟨_, rfl, (by show 2 ≤ sizeLine; decide), fun e2 ne2 => ⟨(by show 2 ≤ sizeLine; decide), fun g2 ou ng2 eu => ⟨(by show 3 ≤ sizeLine; decide), fun a2 na2 => ?_⟩⟩⟩⟩
      have s1 := same_new ne1 (.tup [V.str "k", tv])
      have h1 : (upd H11 e1 (.tup [V.str "k", tv])) e1 = some (.tup [V.str "k", tv]) := upd_same
      generalize upd H11 e1 (.tup [V.str "k", tv]) = K1 at s1 h1 ne2 ng2 na2 ⊢
      have s2 := same_new ne2 (.tup [V.str "m", y])
      have h2 : (upd K1 e2 (.tup [V.str "m", y])) e2 = some (.tup [V.str "m", y]) := upd_same
      generalize upd K1 e2 (.tup [V.str "m", y]) = K2 at s2 h2 ng2 na2 ⊢
      have s3 := same_new ng2 (.frz ou (.tup [V.ref e1, V.ref e2]))
      have h3 : FzT (upd K2 g2 (.frz ou (.tup [V.ref e1, V.ref e2]))) g2 [V.ref e1, V.ref e2] := ⟨ou, upd_same, eu⟩
      generalize upd K2 g2 (.frz ou (.tup [V.ref e1, V.ref e2])) = K3 at s3 h3 na2 ⊢
      have s4 := same_new na2 (.tup [V.str "call", V.str "base", V.ref g2])
      have h4 : (upd K3 a2 (.tup [V.str "call", V.str "base", V.ref g2])) a2 = some (.tup [V.str "call", V.str "base", V.ref g2]) := upd_same
      generalize upd K3 a2 (.tup [V.str "call", V.str "base", V.ref g2]) = K4 at s4 h4 ⊢
      have s14 := (s1.trans s2).trans (s3.trans s4)
      have T14 := Tups.of_same s14
      dsimp only [gName]
      refine ⟨_, rfl, rfl, _, rfl, ifF (by decide) ⟨_, rfl, rfl, _, rfl, ifF (by decide) ?_⟩⟩
      exact ⟨_, _, _, _, rfl, b11.trans (But.of_same s14), D11.same s14, .nd (.call h4 (h3.mono (Tups.of_same s4)) (.cons (((s2.trans s3).trans s4) _ _ h1) (.cons ((s3.trans s4) _ _ h2) .nil))) (.cons (htv.mono T14) (.cons (hyT.mono T14) .nil)), tk.w1 lx⟩
    · refine ⟨_, rfl, rfl, _, rfl, ifF (by decide) ⟨_, rfl, rfl, _, rfl, ifF (by decide) ⟨_, rfl, rfl, _, rfl, ifT (by decide) ?_⟩⟩⟩
      refine ⟨_, rfl, (by show 3 ≤ sizeLine; decide), fun e0 ne0 => ⟨(by show 2 ≤ sizeLine; decide), fun e1 ne1 => ⟨_, rfl, (by show 2 ≤ sizeLine; decide), fun e2 ne2 => ⟨(by show 2 ≤ sizeLine; decide), fun g2 ou ng2 eu => ⟨(by show 3 ≤ sizeLine; decide), fun a2 na2 => ?_⟩⟩⟩⟩⟩
      obtain ⟨ya, rfl, hya⟩ := hy3
      have s0 := same_new ne0 (.tup [V.str "answer", V.int 2, V.ref ya])
      have h0 : (upd H11 e0 (.tup [V.str "answer", V.int 2, V.ref ya])) e0 = some (.tup [V.str "answer", V.int 2, V.ref ya]) := upd_same
      generalize upd H11 e0 (.tup [V.str "answer", V.int 2, V.ref ya]) = K0 at s0 h0 ne1 ne2 ng2 na2 ⊢
      have s1 := same_new ne1 (.tup [V.str "k", V.ref e0])
      have h1 : (upd K0 e1 (.tup [V.str "k", V.ref e0])) e1 = some (.tup [V.str "k", V.ref e0]) := upd_same
      generalize upd K0 e1 (.tup [V.str "k", V.ref e0]) = K1 at s1 h1 ne2 ng2 na2 ⊢
      have s2 := same_new ne2 (.tup [V.str "m", tv])
      have h2 : (upd K1 e2 (.tup [V.str "m", tv])) e2 = some (.tup [V.str "m", tv]) := upd_same
      generalize upd K1 e2 (.tup [V.str "m", tv]) = K2 at s2 h2 ng2 na2 ⊢
      have s3 := same_new ng2 (.frz ou (.tup [V.ref e1, V.ref e2]))
      have h3 : FzT (upd K2 g2 (.frz ou (.tup [V.ref e1, V.ref e2]))) g2 [V.ref e1, V.ref e2] := ⟨ou, upd_same, eu⟩
      generalize upd K2 g2 (.frz ou (.tup [V.ref e1, V.ref e2])) = K3 at s3 h3 na2 ⊢
      have s4 := same_new na2 (.tup [V.str "make", V.str "rec", V.ref g2])
      have h4 : (upd K3 a2 (.tup [V.str "make", V.str "rec", V.ref g2])) a2 = some (.tup [V.str "make", V.str "rec", V.ref g2]) := upd_same
      generalize upd K3 a2 (.tup [V.str "make", V.str "rec", V.ref g2]) = K4 at s4 h4 ⊢
      have s24 := (s2.trans s3).trans s4
      have s04 := (s0.trans s1).trans s24
      have T04 := Tups.of_same s04
      dsimp only [gName]
      refine ⟨_, rfl, rfl, _, rfl, ifF (by decide) ?_⟩
      exact ⟨_, _, _, _, rfl, b11.trans (But.of_same s04), D11.same s04, .nd (.make h4 (h3.mono (Tups.of_same s4)) (.cons (s24 _ _ h1) (.cons ((s3.trans s4) _ _ h2) .nil))) (.cons (.nd (.answer ((s1.trans s24) _ _ h0)) (.cons (hyT.mono T04) .nil)) (.cons (htv.mono T04) .nil)), tk.w2 lx⟩
    · refine ⟨_, rfl, rfl, _, rfl, ifF (by decide) ⟨_, rfl, rfl, _, rfl, ifF (by decide) ⟨_, rfl, rfl, _, rfl, ifF (by decide) ⟨_, rfl, rfl, _, rfl, ifT (by decide) ?_⟩⟩⟩⟩
      refine ⟨_, rfl, _, rfl, (by show 2 ≤ sizeLine; decide), fun e1 ne1 => ⟨(by show 1 ≤ sizeLine; decide), fun g2 ou ng2 eu => ⟨(by show 5 ≤ sizeLine; decide), fun e2 ne2 => ⟨(by show 1 ≤ sizeLine; decide), fun g3 ng3 => ⟨(by show 3 ≤ sizeLine; decide), fun a2 na2 => ?_⟩⟩⟩⟩⟩
      have s1 := same_new ne1 (.tup [V.str "k", y])
      have h1 : (upd H11 e1 (.tup [V.str "k", y])) e1 = some (.tup [V.str "k", y]) := upd_same
      generalize upd H11 e1 (.tup [V.str "k", y]) = K1 at s1 h1 ne2 ng2 ng3 na2 ⊢
      have s2 := same_new ng2 (.frz ou (.tup [V.ref e1]))
      have h2 : FzT (upd K1 g2 (.frz ou (.tup [V.ref e1]))) g2 [V.ref e1] := ⟨ou, upd_same, eu⟩
      generalize upd K1 g2 (.frz ou (.tup [V.ref e1])) = K2 at s2 h2 ne2 ng3 na2 ⊢
      have s3 := same_new ne2 (.tup [V.str "handed", V.str "base", V.str "p", V.int 0, V.ref g2])
      have h3 : (upd K2 e2 (.tup [V.str "handed", V.str "base", V.str "p", V.int 0, V.ref g2])) e2 = some (.tup [V.str "handed", V.str "base", V.str "p", V.int 0, V.ref g2]) := upd_same
      generalize upd K2 e2 (.tup [V.str "handed", V.str "base", V.str "p", V.int 0, V.ref g2]) = K3 at s3 h3 ng3 na2 ⊢
      have s4 := same_new ng3 (.tup [V.ref e2])
      have h4 : (upd K3 g3 (.tup [V.ref e2])) g3 = some (.tup [V.ref e2]) := upd_same
      generalize upd K3 g3 (.tup [V.ref e2]) = K4 at s4 h4 na2 ⊢
      have s5 := same_new na2 (.tup [V.str "ask", tv, V.ref g3])
      have h5 : (upd K4 a2 (.tup [V.str "ask", tv, V.ref g3])) a2 = some (.tup [V.str "ask", tv, V.ref g3]) := upd_same
      generalize upd K4 a2 (.tup [V.str "ask", tv, V.ref g3]) = K5 at s5 h5 ⊢
      have s25 := ((s2.trans s3).trans s4).trans s5
      have s15 := s1.trans s25
      have T15 := Tups.of_same s15
      exact ⟨_, _, _, _, rfl, b11.trans (But.of_same s15), D11.same s15, .nd (.ask h5 (s5 _ _ h4)) (.cons (htv.mono T15) (.cons (.nd (.handed ((s4.trans s5) _ _ h3) (h2.mono (Tups.of_same ((s3.trans s4).trans s5))) (.cons (s25 _ _ h1) .nil)) (.cons (hyT.mono T15) .nil)) .nil)), tk.w3 lx⟩
  · rintro σ' H10 ⟨tv, t, u5, u6, rfl, b10, D10, htv, tk⟩
    have T10 := D9.tups b10
    have hL10 := b10 _ _ nLd.1 nLd.2 hL9
    have pL10 := EntA.butP T10 pL9
    refine ⟨_, rfl, _, rfl, L, _, rfl, .inl ⟨SqL.of hL10, fun t1 nt1 => ⟨(by show 1 ≤ sizeLine; decide), fun k1 nk1 => ⟨_, rfl, (by show 4 ≤ sizeLine; decide), fun a2 na2 => ?_⟩⟩⟩⟩
    have s1 := same_new nt1 (.tup (es ++ [V.ref e1]))
    have h1 : (upd H10 t1 (.tup (es ++ [V.ref e1]))) t1 = some (.tup (es ++ [V.ref e1])) := upd_same
    generalize upd H10 t1 (.tup (es ++ [V.ref e1])) = K1 at s1 h1 nk1 na2 ⊢
    have s2 := same_new nk1 (.tup [V.str "num"])
    generalize upd K1 k1 (.tup [V.str "num"]) = K2 at s2 na2 ⊢
    have s3 := same_new na2 (.tup [V.str nm, V.ref t1, V.ref k1, tv])
    have h3 : (upd K2 a2 (.tup [V.str nm, V.ref t1, V.ref k1, tv])) a2 = some (.tup [V.str nm, V.ref t1, V.ref k1, tv]) := upd_same
    generalize upd K2 a2 (.tup [V.str nm, V.ref t1, V.ref k1, tv]) = K3 at s3 h3 ⊢
    have s13 := (s1.trans s2).trans s3
    have T13 := Tups.of_same s13
    refine q (.ref a2) (nm, abc3.take mm ++ [("d" : Str)], t) K3 ⟨a2, t1, _, _, _, rfl, h3, (s2.trans s3) _ _ h1, EntA.butP T13 pL10, htv.mono T13⟩ rfl ⟨tk.le (by omega), ?_, ?_, ?_⟩ ((D10.same s13).le (by omega)) ((b09.trans b10).trans (But.of_same s13))
    · exact (ents_ok mm4).1
    · exact (ents_ok mm4).2
    · intro x hx
      have : x ∈ ([("a" : Str), "b", "c", "d"] : List Str) := by
        rcases List.mem_append.mp hx with h | h
        · exact List.mem_append_left [("d" : Str)] (List.mem_of_mem_take h : x ∈ abc3)
        · exact List.mem_append_right abc3 h
      simp only [List.mem_cons, List.not_mem_nil, or_false] at this
      rcases this with rfl | rfl | rfl | rfl <;> exact ltS_of (by decide +kernel)
end
end My
namespace My
open PySem L2 NdefX LamX
/-! _law_drawn -/
def bud : Nat → Nat
  | 0 => 2
  | e + 1 => 6 + 4 * bud e
def tnb : Nat → Nat
  | 0 => 1
  | e + 1 => 6 + 4 * tnb e
def szb : Nat → Nat
  | 0 => 1
  | e + 1 => 2 + 4 * szb e
theorem tnb_pos : ∀ e, 1 ≤ tnb e
  | 0 => Nat.le_refl _
  | e + 1 => by show 1 ≤ 6 + 4 * tnb e; omega
theorem szb_pos : ∀ e, 1 ≤ szb e
  | 0 => Nat.le_refl _
  | e + 1 => by show 1 ≤ 2 + 4 * szb e; omega
theorem bud_pos : ∀ e, 2 ≤ bud e
  | 0 => Nat.le_refl _
  | e + 1 => by show 2 ≤ 6 + 4 * bud e; omega
structure DrOk (t : Tm) (e : Nat) : Prop where
  tn : tupN t.dat ≤ tnb e
  size : t.size ≤ szb e
  depth : t.depth ≤ e + 1
  few : Tm.fewT t
  sgs : Tm.sgs t
  once : Once t
theorem Once.nd {h : Hd} {ts : List Tm} (a : ∀ x ns, h = .call x ns → ns.Nodup ∧ x.length ≤ 1000) (b : ∀ t ∈ ts, Once t) : Once (.nd h ts)
  | [], x, ns, ts2, hp => by
    have e : Tm.nd h ts = .nd (.call x ns) ts2 := Option.some.inj hp
    cases e
    exact a x ns rfl
  | i :: r, x, ns, ts2, hp => by
    have hp : (ts[i]?).bind (fun s => subAt s r) = some (.nd (.call x ns) ts2) := hp
    cases e : ts[i]? with
    | none => rw [e] at hp; cases hp
    | some t =>
      rw [e] at hp
      exact b t (List.mem_of_getElem? e) r x ns ts2 hp
section
variable {t u : Tm} {e : Nat}
theorem DrOk.num1 : DrOk (.nd (.num 1) []) e := ⟨by have := tnb_pos e; simp [Tm.dat, Tm.dats, Hd.dat, tupN, tupsN]; omega, by have := szb_pos e; simp [Tm.size, Tm.sizes]; omega, by simp [Tm.depth, Tm.depths], fewT_leaf, by simp [Tm.sgs, Tm.sgss, Hd.signs], Once.nd (fun _ _ => nofun) fun t ht => nomatch ht⟩
theorem DrOk.num2 : DrOk (.nd (.num 2) []) e := ⟨by have := tnb_pos e; simp [Tm.dat, Tm.dats, Hd.dat, tupN, tupsN]; omega, by have := szb_pos e; simp [Tm.size, Tm.sizes]; omega, by simp [Tm.depth, Tm.depths], fewT_leaf, by simp [Tm.sgs, Tm.sgss, Hd.signs], Once.nd (fun _ _ => nofun) fun t ht => nomatch ht⟩
theorem DrOk.num3 : DrOk (.nd (.num 3) []) e := ⟨by have := tnb_pos e; simp [Tm.dat, Tm.dats, Hd.dat, tupN, tupsN]; omega, by have := szb_pos e; simp [Tm.size, Tm.sizes]; omega, by simp [Tm.depth, Tm.depths], fewT_leaf, by simp [Tm.sgs, Tm.sgss, Hd.signs], Once.nd (fun _ _ => nofun) fun t ht => nomatch ht⟩
theorem lt_x : LtS "x" ∧ LtS "f" ∧ LtS "c" := ⟨ltS_of (by decide +kernel), ltS_of (by decide +kernel), ltS_of (by decide +kernel)⟩
theorem DrOk.text : DrOk (.nd (.text "x") []) e := ⟨by have := tnb_pos e; simp [Tm.dat, Tm.dats, Hd.dat, tupN, tupsN]; omega, by have := szb_pos e; simp [Tm.size, Tm.sizes]; omega, by simp [Tm.depth, Tm.depths], fewT_leaf, by simp [Tm.sgs, Tm.sgss, Hd.signs, lt_x], Once.nd (fun _ _ => nofun) fun t ht => nomatch ht⟩
theorem DrOk.bare : DrOk (.nd (.bare "k" "c") []) e := ⟨by have := tnb_pos e; simp [Tm.dat, Tm.dats, Hd.dat, tupN, tupsN]; omega, by have := szb_pos e; simp [Tm.size, Tm.sizes]; omega, by simp [Tm.depth, Tm.depths], fewT_leaf, by simp [Tm.sgs, Tm.sgss, Hd.signs, lt_x, lt_base], Once.nd (fun _ _ => nofun) fun t ht => nomatch ht⟩
theorem DrOk.ask (h : DrOk t e) (k : DrOk u e) : DrOk (.nd .ask [t, u, .nd (.num 2) []]) (e + 1) :=
  ⟨by have := h.tn; have := k.tn; have := tnb_pos e; simp [Tm.dat, Tm.dats, Hd.dat, tupN, tupsN]; show _ ≤ 6 + 4 * tnb e; omega, by have := h.size; have := k.size; have := szb_pos e; simp only [Tm.size, Tm.sizes]; show _ ≤ 2 + 4 * szb e; omega, by have := h.depth; have := k.depth; simp only [Tm.depth, Tm.depths]; omega,
   Tm.fewT_nd (fun _ => trivial) (by simp [fewT_leaf, h.few, k.few]), by simp [Tm.sgs, Tm.sgss, Hd.signs, h.sgs, k.sgs], Once.nd (fun _ _ => nofun) (by simp [h.once, k.once, (DrOk.num2 (e := 0)).once])⟩
theorem DrOk.one (h : DrOk t e) : DrOk (.nd .one [t]) (e + 1) :=
  ⟨by have := h.tn; simp [Tm.dat, Tm.dats, Hd.dat, tupN, tupsN]; show _ ≤ 6 + 4 * tnb e; omega, by have := h.size; simp only [Tm.size, Tm.sizes]; show _ ≤ 2 + 4 * szb e; omega, by have := h.depth; simp only [Tm.depth, Tm.depths]; omega,
   Tm.fewT_nd (fun _ => trivial) (by simp [h.few]), by simp [Tm.sgs, Tm.sgss, Hd.signs, h.sgs], Once.nd (fun _ _ => nofun) (by simp [h.once])⟩
theorem DrOk.get : DrOk (.nd (.get "f") [.nd (.num 3) []]) (e + 1) :=
  ⟨by simp [Tm.dat, Tm.dats, Hd.dat, tupN, tupsN]; show _ ≤ 6 + 4 * tnb e; omega, by simp only [Tm.size, Tm.sizes]; show _ ≤ 2 + 4 * szb e; omega, by simp only [Tm.depth, Tm.depths]; omega,
   Tm.fewT_nd (fun _ => trivial) (by simp [fewT_leaf]), by simp [Tm.sgs, Tm.sgss, Hd.signs, lt_x], Once.nd (fun _ _ => nofun) (by simp [(DrOk.num3 (e := 0)).once])⟩
theorem argD_tn : ∀ {ns : List Str} {ts : List Tm} {m : Nat}, (∀ t ∈ ts, tupN t.dat ≤ m) → tupsN (argD ns (Tm.dats ts)) ≤ (m + 1) * ts.length
  | [], ts, m, _ => by simp [argD, tupsN]
  | x :: ns, [], m, _ => by simp [argD, Tm.dats, tupsN]
  | x :: ns, t :: ts, m, h => by
    have a := h t (.head _)
    have b := argD_tn (ns := ns) fun u hu => h u (.tail _ hu)
    simp only [Tm.dats, argD, tupsN, tupN, List.length_cons]
    rw [Nat.mul_add]
    omega
theorem sizes_le : ∀ {ts : List Tm} {m : Nat}, (∀ t ∈ ts, t.size ≤ m) → Tm.sizes ts ≤ m * ts.length
  | [], m, _ => by simp [Tm.sizes]
  | t :: ts, m, h => by
    have a := h t (.head _)
    have b := sizes_le fun u hu => h u (.tail _ hu)
    rw [Tm.sizes, List.length_cons, Nat.mul_add]
    omega
theorem depths_le : ∀ {ts : List Tm} {m : Nat}, (∀ t ∈ ts, t.depth ≤ m) → Tm.depths ts ≤ m
  | [], m, _ => by simp [Tm.depths]
  | t :: ts, m, h => by
    have a := h t (.head _)
    have b := depths_le fun u hu => h u (.tail _ hu)
    rw [Tm.depths]
    omega
theorem DrOk.call {x : Str} {ns : List Str} {ts : List Tm} (lx : LtS x) (ln : ∀ z ∈ ns, LtS z) (nd : ns.Nodup) (l : ts.length ≤ 4) (h : ∀ t ∈ ts, DrOk t e) : DrOk (.nd (.call x ns) ts) (e + 1) := by
  refine ⟨?_, ?_, ?_, Tm.fewT_nd (fun _ => trivial) fun t ht => (h t ht).few, ?_, Once.nd (fun y ms ey => ?_) fun t ht => (h t ht).once⟩
  · have a := argD_tn (ns := ns) fun t ht => (h t ht).tn
    have b : (tnb e + 1) * ts.length ≤ (tnb e + 1) * 4 := Nat.mul_le_mul_left _ l
    simp only [Tm.dat, Hd.dat, tupN, tupsN]
    show _ ≤ 6 + 4 * tnb e
    omega
  · have a := sizes_le fun t ht => (h t ht).size
    have b : szb e * ts.length ≤ szb e * 4 := Nat.mul_le_mul_left _ l
    rw [Tm.size]
    show _ ≤ 2 + 4 * szb e
    omega
  · have a := depths_le fun t ht => (h t ht).depth
    rw [Tm.depth]
    omega
  · rw [Tm.sgs]
    exact ⟨⟨⟨lx, ln⟩, by omega⟩, Tm.sgss_of fun t ht => (h t ht).sgs⟩
  · cases ey
    exact ⟨nd, by have := lx.1; omega⟩
end
structure RwsAt (H : Hp) (d g l : Addr) (rvs : List V) (rows : List Rw) : Prop where
  at_ : H l = some (.lst rvs)
  nd : l ≠ d
  ng : l ≠ g
  pr : Paired (RowAt H) rvs rows
theorem RwsAt.but {H H' : Hp} {d g l : Addr} {rvs : List V} {rows : List Rw} {n : Int} (h : RwsAt H d g l rvs rows) (D : Deck H d g n) (b : But d g H H') : RwsAt H' d g l rvs rows :=
  ⟨b _ _ h.nd h.ng h.at_, h.nd, h.ng, Paired.mono (fun _ _ z => RowAt.mono (D.tups b) z) h.pr⟩
theorem RwsAt.same {H H' : Hp} {d g l : Addr} {rvs : List V} {rows : List Rw} (h : RwsAt H d g l rvs rows) (s : Same H H') : RwsAt H' d g l rvs rows :=
  ⟨s _ _ h.at_, h.nd, h.ng, Paired.mono (fun _ _ z => RowAt.mono (Tups.of_same s) z) h.pr⟩
def spDr (e : Nat) : Sp := fun vs H Q _ => ∃ (d g l : Addr) (n : Int) (rvs : List V) (rows : List Rw), vs = [.ref d, .ref l, .int (e : Int)] ∧ Deck H d g n ∧ 0 ≤ n ∧ n + (bud e : Int) ≤ 900000 ∧ RwsAt H d g l rvs rows ∧ rows ≠ [] ∧ rows.length ≤ 4 ∧ (∀ r ∈ rows, RwFull r ∧ LtS r.1) ∧
  ∀ v t H', TmAt H' v t → DrOk t e → Deck H' d g (n + (bud e : Int)) → But d g H H' → Q v H'
def Nx (H : Hp) (v : V) (r : Rw) : Prop := ∃ (a b : Addr) (fvs : List V), v = .ref a ∧ H a = some (.tup [.str r.1, .ref b]) ∧ H b = some (.tup fvs) ∧ Paired (EntA H) fvs r.2.1
theorem Nx.mono {H H' : Hp} (t : Tups H H') {v : V} {r : Rw} (h : Nx H v r) : Nx H' v r := by
  obtain ⟨a, b, fvs, e, h1, h2, h3⟩ := h
  exact ⟨a, b, fvs, e, t _ _ h1, t _ _ h2, Paired.mono (fun _ _ z => z.mono t) h3⟩
def Prw (H0 : Hp) (D : Addr) (rows : List Rw) (i : Nat) (H : Hp) : Prop := Same H0 H ∧ ∃ cs, H D = some (.lst cs) ∧ Paired (Nx H) cs (rows.take i)
structure Pgv (d g l DG : Addr) (rvs : List V) (rows : List Rw) (H0 : Hp) (n : Int) (bd : Nat) (names : List Str) (e : Nat) (i : Nat) (H : Hp) : Prop where
  b : But d g H0 H
  D : Deck H d g (n + (i : Int) * (1 + (bd : Int)))
  ra : RwsAt H d g l rvs rows
  gs : ∃ gs ns vs ts, H DG = some (.lst gs) ∧ ArgsAt H gs ns vs ∧ TmsAt H vs ts ∧ (∀ t ∈ ts, DrOk t e) ∧ List.Sublist ns (names.take i)
section
variable {P : Program} {w : World} {K : PySem.W.Frag} {mg : Str → Option Value} {base : Heap} {f : Addr} {fd : FuncData}
set_option maxHeartbeats 1600000 in
theorem ok_dr (B : Bn mg) (F : Fun K "_law_drawn" "_law_drawn" s__law_drawn f fd) (hm : mg "_law_drawn" = some (.ref f)) (hb : Binds K fd ["deck", "rows", "deep"] []) (c__law_take : Cal P w K mg base "_law_take" 1 ["deck", "many"] spTake) (e : Nat) : FnOk P w K mg base CX0 (e + 2) f fd ["deck", "rows", "deep"] (spDr e) := by
  have c__law_drawn : Cal P w K mg base "_law_drawn" (e + 1) ["deck", "rows", "deep"] (fun vs H Q E => ∃ e', e = e' + 1 ∧ spDr e' vs H Q E) := by
    cases e with
    | zero => exact ⟨f, fd, ⟨fun vs H Q E h => (by obtain ⟨_, z, _⟩ := h; cases z), fun A outer s H args us vs Q E _ _ _ _ h => (by obtain ⟨_, z, _⟩ := h; cases z)⟩, hm, F.kp, hb⟩
    | succ e' =>
      have ih := ok_dr B F hm hb c__law_take e'
      exact ⟨f, fd, ⟨fun vs H Q E h => (by obtain ⟨_, z, h⟩ := h; cases z; exact ih.len _ _ _ _ h), fun A outer s H args us vs Q E hr e0 hb rv h => (by obtain ⟨_, z, h⟩ := h; cases z; exact ih.run A outer s H args us vs Q E hr e0 hb rv h)⟩, hm, F.kp, hb⟩
  refine F.ok sc__law_drawn (fun vs H Q E h => ?_) (fun cdv A outer s H vs Q E hr h => ?_)
  · obtain ⟨d, g, l, n, rvs, rows, rfl, _⟩ := h
    rfl
  obtain ⟨d, g, l, n, rvs, rows, rfl, D0, n0, hn, RA, nr, lr, rf, q⟩ := h
  refine ⟨_, (pss_cons (ps_set (i := 3) sc__law_drawn.nd rfl (Or.inl rfl) (pc c__law_take (hr.mono (by first | decide | omega)) (pa_cons (pv 0) (pa_cons pe_int pa_nil))))
    (pss_cons (ps_if (PW.pt (pw_or (pt_cmpR op_eq (pv 2) pe_int (nomark _)) (pw_or1 (pt_cmpR op_eq (pv 3) pe_int (nomark _))))) (pss_one (ps_ret (pe_ix (ixL K rfl) (pe_lst (pa_cons (pe_tup (pa_cons pe_str (pa_cons pe_int pa_nil))) (pa_cons (pe_tup (pa_cons pe_str (pa_cons pe_str pa_nil))) (pa_cons (pe_tup (pa_cons pe_str (pa_cons pe_str (pa_cons pe_str (pa_cons pe_non pa_nil))))) pa_nil)))) (pc c__law_take (hr.mono (by first | decide | omega)) (pa_cons (pv 0) (pa_cons pe_int pa_nil))) (fun _ _ => rfl)))) pss_nil)
    (pss_cons (ps_if (pt_cmpR op_eq (pv 3) pe_int (nomark _)) (pss_one (ps_ret (pe_tup (pa_cons pe_str (pa_cons (pc c__law_drawn (hr.mono (by first | decide | omega)) (pa_cons (pv 0) (pa_cons (pv 1) (pa_cons (pe_op op_sub (pv 2) pe_int) pa_nil)))) (pa_cons (pe_tup (pa_cons (pc c__law_drawn (hr.mono (by first | decide | omega)) (pa_cons (pv 0) (pa_cons (pv 1) (pa_cons (pe_op op_sub (pv 2) pe_int) pa_nil)))) (pa_cons (pe_tup (pa_cons pe_str (pa_cons pe_int pa_nil))) pa_nil))) pa_nil)))))) pss_nil)
    (pss_cons (ps_if (pt_cmpR op_eq (pv 3) pe_int (nomark _)) (pss_one (ps_ret (pe_ix (ixL K rfl) (pe_lst (pa_cons (pe_tup (pa_cons pe_str (pa_cons (pc c__law_drawn (hr.mono (by first | decide | omega)) (pa_cons (pv 0) (pa_cons (pv 1) (pa_cons (pe_op op_sub (pv 2) pe_int) pa_nil)))) pa_nil))) (pa_cons (pe_tup (pa_cons pe_str (pa_cons pe_str (pa_cons (pe_tup (pa_cons pe_str (pa_cons pe_int pa_nil))) pa_nil)))) pa_nil))) (pc c__law_take (hr.mono (by first | decide | omega)) (pa_cons (pv 0) (pa_cons pe_int pa_nil))) (fun _ _ => rfl)))) pss_nil)
    (pss_cons (ps_asg (pe_ix (ixL K rfl) (pe_lc (own := [("row", 8)]) (g := (gName 8)) rfl sc__law_drawn.nd (piL K rfl (pv 1)) (blkOk_by (N := ["deck", "rows", "deep", "way", "given", "name", "entries", "one", "row"]) (sc := defScope s__law_drawn) (by decide +kernel)) (fun _ _ _ _ _ => (pg_name (i := 8) sc__law_drawn.nd rfl (Or.inl rfl) (hf := Or.inr rfl))) (fun _ _ _ _ _ => pts_nil) (fun _ _ _ _ _ => (pe_slice (slT K rfl) (pv 8) po_none (po_some pe_int)))) (pc c__law_take (hr.mono (by first | decide | omega)) (pa_cons (pv 0) (pa_cons (pe_callB (lenSeq K rfl) (by rfl) B.b_len PySem.boot_len (pa_cons (pv 1) pa_nil)) pa_nil))) (fun _ _ => rfl)) (pg_tup rfl (pgs_cons (pg_name (i := 5) sc__law_drawn.nd rfl (Or.inl rfl)) (pgs_cons (pg_name (i := 6) sc__law_drawn.nd rfl (Or.inl rfl)) pgs_nil))))
    (pss_cons (ps_if (pt_cmpR op_eq (pv 3) pe_int (nomark _)) (pss_one (ps_set (i := 5) sc__law_drawn.nd rfl (Or.inl rfl) pe_str)) pss_nil)
    (pss_cons (ps_setLc (i := 4) (own := [("one", 7)]) (g := (gName 7)) rfl sc__law_drawn.nd rfl rfl (sw_true rfl rfl rfl (by decide +kernel)) (piT K rfl (pv 6)) (blkOk_by (N := ["deck", "rows", "deep", "way", "given", "name", "entries", "one", "row"]) (sc := defScope s__law_drawn) (by decide +kernel)) (fun _ _ _ _ _ => (pg_name (i := 7) sc__law_drawn.nd rfl (Or.inl rfl) (hf := Or.inr rfl))) (fun _ _ _ _ _ => (pts_one (pt_cmpR op_gt (pc c__law_take (hr.mono (by first | decide | omega)) (pa_cons (pv 0) (pa_cons pe_int pa_nil))) pe_int (nomark _)))) (fun _ _ _ _ _ => (pe_tup (pa_cons (pe_ix (ixT K rfl) (pv 7) pe_int (fun _ _ => rfl)) (pa_cons (pc c__law_drawn (hr.mono (by first | decide | omega)) (pa_cons (pv 0) (pa_cons (pv 1) (pa_cons (pe_op op_sub (pv 2) pe_int) pa_nil)))) pa_nil)))))
    (pss_one (ps_ret (pe_tup (pa_cons pe_str (pa_cons (pv 5) (pa_cons (pe_callTy (tupleOfF K rfl) (by rfl) B.b_tuple (by decide +kernel) (pa_cons (pv 4) pa_nil)) pa_nil))))))))))))), ?_⟩
  have bp := bud_pos e
  refine ⟨_, rfl, d, g, 7, n, rfl, D0, by omega, by omega, by omega, fun r H1 r0 r1 D1 b1 => ?_⟩
  have RA1 := RA.but D0 b1
  dsimp only [gName]
  refine ⟨_, rfl, rfl, _, rfl, ?_⟩
  by_cases c0 : e = 0
  · rw [decide_eq_true (show V.int (e : Int) = V.int 0 by rw [c0]; rfl)]
    refine iteT (ifT rfl ?_)
    refine ⟨(by show 2 ≤ sizeLine; decide), fun a1 na1 => ⟨(by show 2 ≤ sizeLine; decide), fun a2 na2 => ⟨(by show 4 ≤ sizeLine; decide), fun a3 na3 => ⟨(by show 3 ≤ sizeLine; decide), fun l1 nl1 => ?_⟩⟩⟩⟩
    have s1 := same_new na1 (.tup [V.str "num", V.int 1])
    have h1 : (upd H1 a1 (.tup [V.str "num", V.int 1])) a1 = some (.tup [V.str "num", V.int 1]) := upd_same
    generalize upd H1 a1 (.tup [V.str "num", V.int 1]) = K1 at s1 h1 na2 na3 nl1 ⊢
    have s2 := same_new na2 (.tup [V.str "text", V.str "x"])
    have h2 : (upd K1 a2 (.tup [V.str "text", V.str "x"])) a2 = some (.tup [V.str "text", V.str "x"]) := upd_same
    generalize upd K1 a2 (.tup [V.str "text", V.str "x"]) = K2 at s2 h2 na3 nl1 ⊢
    have s3 := same_new na3 (.tup [V.str "case", V.str "k", V.str "c", V.non])
    have h3 : (upd K2 a3 (.tup [V.str "case", V.str "k", V.str "c", V.non])) a3 = some (.tup [V.str "case", V.str "k", V.str "c", V.non]) := upd_same
    generalize upd K2 a3 (.tup [V.str "case", V.str "k", V.str "c", V.non]) = K3 at s3 h3 nl1 ⊢
    have s4 := same_new nl1 (.lst [V.ref a1, V.ref a2, V.ref a3])
    have h4 : (upd K3 l1 (.lst [V.ref a1, V.ref a2, V.ref a3])) l1 = some (.lst [V.ref a1, V.ref a2, V.ref a3]) := upd_same
    have nld := (D1.same ((s1.trans s2).trans s3)).ne nl1
    generalize upd K3 l1 (.lst [V.ref a1, V.ref a2, V.ref a3]) = K4 at s4 h4 ⊢
    have s14 := ((s1.trans s2).trans s3).trans s4
    have D4 := D1.same s14
    refine ⟨_, rfl, d, g, 3, _, rfl, D4, by omega, by omega, by omega, fun r2 H5 r20 r21 D5 b5 => ?_⟩
    obtain ⟨tv, t, hat, htm, tok⟩ : ∃ tv t, atI [V.ref a1, V.ref a2, V.ref a3] r2 = some tv ∧ TmAt K4 tv t ∧ DrOk t e := by
      have : r2 = 0 ∨ r2 = 1 ∨ r2 = 2 := by omega
      rcases this with rfl | rfl | rfl
      · exact ⟨_, _, at_of (j := 0) rfl rfl, .nd (.num (((s2.trans s3).trans s4) _ _ h1)) .nil, .num1⟩
      · exact ⟨_, _, at_of (j := 1) rfl rfl, .nd (.text ((s3.trans s4) _ _ h2)) .nil, .text⟩
      · exact ⟨_, _, at_of (j := 2) rfl rfl, .nd (.bare (s4 _ _ h3)) .nil, .bare⟩
    exact ⟨_, _, _, _, rfl, rfl, SqL.of (b5 _ _ nld.1 nld.2 h4), hat, q tv t H5 (htm.mono (D4.tups b5)) tok (D5.le (by omega)) ((b1.trans (But.of_same s14)).trans b5)⟩
  · rw [decide_eq_false (show ¬ (V.int (e : Int) = V.int 0) from fun z => c0 (by have := V.int.inj z; omega))]
    refine iteF ⟨_, rfl, rfl, _, rfl, ?_⟩
    by_cases c6 : r = 6
    · rw [decide_eq_true (congrArg V.int c6)]
      refine ifT rfl ?_
      refine ⟨(by show 2 ≤ sizeLine; decide), fun a1 na1 => ⟨(by show 2 ≤ sizeLine; decide), fun a2 na2 => ⟨(by show 4 ≤ sizeLine; decide), fun a3 na3 => ⟨(by show 3 ≤ sizeLine; decide), fun l1 nl1 => ?_⟩⟩⟩⟩
      have s1 := same_new na1 (.tup [V.str "num", V.int 1])
      have h1 : (upd H1 a1 (.tup [V.str "num", V.int 1])) a1 = some (.tup [V.str "num", V.int 1]) := upd_same
      generalize upd H1 a1 (.tup [V.str "num", V.int 1]) = K1 at s1 h1 na2 na3 nl1 ⊢
      have s2 := same_new na2 (.tup [V.str "text", V.str "x"])
      have h2 : (upd K1 a2 (.tup [V.str "text", V.str "x"])) a2 = some (.tup [V.str "text", V.str "x"]) := upd_same
      generalize upd K1 a2 (.tup [V.str "text", V.str "x"]) = K2 at s2 h2 na3 nl1 ⊢
      have s3 := same_new na3 (.tup [V.str "case", V.str "k", V.str "c", V.non])
      have h3 : (upd K2 a3 (.tup [V.str "case", V.str "k", V.str "c", V.non])) a3 = some (.tup [V.str "case", V.str "k", V.str "c", V.non]) := upd_same
      generalize upd K2 a3 (.tup [V.str "case", V.str "k", V.str "c", V.non]) = K3 at s3 h3 nl1 ⊢
      have s4 := same_new nl1 (.lst [V.ref a1, V.ref a2, V.ref a3])
      have h4 : (upd K3 l1 (.lst [V.ref a1, V.ref a2, V.ref a3])) l1 = some (.lst [V.ref a1, V.ref a2, V.ref a3]) := upd_same
      have nld := (D1.same ((s1.trans s2).trans s3)).ne nl1
      generalize upd K3 l1 (.lst [V.ref a1, V.ref a2, V.ref a3]) = K4 at s4 h4 ⊢
      have s14 := ((s1.trans s2).trans s3).trans s4
      have D4 := D1.same s14
      refine ⟨_, rfl, d, g, 3, _, rfl, D4, by omega, by omega, by omega, fun r2 H5 r20 r21 D5 b5 => ?_⟩
      obtain ⟨tv, t, hat, htm, tok⟩ : ∃ tv t, atI [V.ref a1, V.ref a2, V.ref a3] r2 = some tv ∧ TmAt K4 tv t ∧ DrOk t e := by
        have : r2 = 0 ∨ r2 = 1 ∨ r2 = 2 := by omega
        rcases this with rfl | rfl | rfl
        · exact ⟨_, _, at_of (j := 0) rfl rfl, .nd (.num (((s2.trans s3).trans s4) _ _ h1)) .nil, .num1⟩
        · exact ⟨_, _, at_of (j := 1) rfl rfl, .nd (.text ((s3.trans s4) _ _ h2)) .nil, .text⟩
        · exact ⟨_, _, at_of (j := 2) rfl rfl, .nd (.bare (s4 _ _ h3)) .nil, .bare⟩
      exact ⟨_, _, _, _, rfl, rfl, SqL.of (b5 _ _ nld.1 nld.2 h4), hat, q tv t H5 (htm.mono (D4.tups b5)) tok (D5.le (by omega)) ((b1.trans (But.of_same s14)).trans b5)⟩
    · rw [decide_eq_false (fun z => c6 (V.int.inj z))]
      refine ifF rfl ?_
      obtain ⟨e', rfl⟩ : ∃ e', e = e' + 1 := ⟨e - 1, by omega⟩
      have bb : bud (e' + 1) = 6 + 4 * bud e' := rfl
      have dd : [V.ref d, V.ref l, V.int (((e' + 1 : Nat) : Int) - 1)] = [V.ref d, V.ref l, V.int (e' : Int)] := by rw [show ((e' + 1 : Nat) : Int) - 1 = (e' : Int) by omega]
      refine ⟨_, rfl, rfl, _, rfl, ?_⟩
      by_cases c5 : r = 5
      · rw [decide_eq_true (congrArg V.int c5)]
        refine ifT rfl ?_
        refine ⟨_, rfl, _, rfl, _, rfl, _, _, rfl, rfl, e', rfl, d, g, l, n + 1, rvs, rows, dd, D1, by omega, by omega, RA1, nr, lr, rf, fun v1 t1 H2 ht1 ok1 D2 b2 => ?_⟩
        have RA2 := RA1.but D1 b2
        refine ⟨_, rfl, _, rfl, _, rfl, _, _, rfl, rfl, e', rfl, d, g, l, _, rvs, rows, dd, D2, by omega, by omega, RA2, nr, lr, rf, fun v2 t2 H3 ht2 ok2 D3 b3 => ?_⟩
        refine ⟨(by show 2 ≤ sizeLine; decide), fun a1 na1 => ⟨(by show 2 ≤ sizeLine; decide), fun g1 ng1 => ⟨(by show 3 ≤ sizeLine; decide), fun a2 na2 => ?_⟩⟩⟩
        have s1 := same_new na1 (.tup [V.str "num", V.int 2])
        have h1 : (upd H3 a1 (.tup [V.str "num", V.int 2])) a1 = some (.tup [V.str "num", V.int 2]) := upd_same
        generalize upd H3 a1 (.tup [V.str "num", V.int 2]) = K1 at s1 h1 ng1 na2 ⊢
        have s2 := same_new ng1 (.tup [v2, V.ref a1])
        have h2 : (upd K1 g1 (.tup [v2, V.ref a1])) g1 = some (.tup [v2, V.ref a1]) := upd_same
        generalize upd K1 g1 (.tup [v2, V.ref a1]) = K2 at s2 h2 na2 ⊢
        have s3 := same_new na2 (.tup [V.str "ask", v1, V.ref g1])
        have h3 : (upd K2 a2 (.tup [V.str "ask", v1, V.ref g1])) a2 = some (.tup [V.str "ask", v1, V.ref g1]) := upd_same
        generalize upd K2 a2 (.tup [V.str "ask", v1, V.ref g1]) = K3 at s3 h3 ⊢
        have s13 := (s1.trans s2).trans s3
        have T13 := Tups.of_same s13
        exact q (.ref a2) _ K3 (.nd (.ask h3 (s3 _ _ h2)) (.cons ((ht1.mono (D2.tups b3)).mono T13) (.cons (ht2.mono T13) (.cons (.nd (.num ((s2.trans s3) _ _ h1)) .nil) .nil)))) (ok1.ask ok2) ((D3.same s13).le (by omega)) (((b1.trans b2).trans b3).trans (But.of_same s13))
      rw [decide_eq_false (fun z => c5 (V.int.inj z))]
      refine ifF rfl ⟨_, rfl, rfl, _, rfl, ?_⟩
      by_cases c4 : r = 4
      · rw [decide_eq_true (congrArg V.int c4)]
        refine ifT rfl ?_
        refine ⟨_, rfl, _, rfl, _, rfl, _, _, rfl, rfl, e', rfl, d, g, l, n + 1, rvs, rows, dd, D1, by omega, by omega, RA1, nr, lr, rf, fun v1 t1 H2 ht1 ok1 D2 b2 => ?_⟩
        refine ⟨(by show 2 ≤ sizeLine; decide), fun a1 na1 => ⟨(by show 2 ≤ sizeLine; decide), fun a2 na2 => ⟨(by show 3 ≤ sizeLine; decide), fun a3 na3 => ⟨(by show 2 ≤ sizeLine; decide), fun l1 nl1 => ?_⟩⟩⟩⟩
        obtain ⟨b1', ys, rfl, _⟩ := ht1.ref
        have s1 := same_new na1 (.tup [V.str "one", V.ref b1'])
        have h1 : (upd H2 a1 (.tup [V.str "one", V.ref b1'])) a1 = some (.tup [V.str "one", V.ref b1']) := upd_same
        generalize upd H2 a1 (.tup [V.str "one", V.ref b1']) = K1 at s1 h1 na2 na3 nl1 ⊢
        have s2 := same_new na2 (.tup [V.str "num", V.int 3])
        have h2 : (upd K1 a2 (.tup [V.str "num", V.int 3])) a2 = some (.tup [V.str "num", V.int 3]) := upd_same
        generalize upd K1 a2 (.tup [V.str "num", V.int 3]) = K2 at s2 h2 na3 nl1 ⊢
        have s3 := same_new na3 (.tup [V.str "get", V.str "f", V.ref a2])
        have h3 : (upd K2 a3 (.tup [V.str "get", V.str "f", V.ref a2])) a3 = some (.tup [V.str "get", V.str "f", V.ref a2]) := upd_same
        generalize upd K2 a3 (.tup [V.str "get", V.str "f", V.ref a2]) = K3 at s3 h3 nl1 ⊢
        have s4 := same_new nl1 (.lst [V.ref a1, V.ref a3])
        have h4 : (upd K3 l1 (.lst [V.ref a1, V.ref a3])) l1 = some (.lst [V.ref a1, V.ref a3]) := upd_same
        have nld := (D2.same ((s1.trans s2).trans s3)).ne nl1
        generalize upd K3 l1 (.lst [V.ref a1, V.ref a3]) = K4 at s4 h4 ⊢
        have s14 := ((s1.trans s2).trans s3).trans s4
        have T14 := Tups.of_same s14
        have D4 := D2.same s14
        refine ⟨_, rfl, d, g, 2, _, rfl, D4, by omega, by omega, by omega, fun r2 H5 r20 r21 D5 b5 => ?_⟩
        obtain ⟨tv, t, hat, htm, tok⟩ : ∃ tv t, atI [V.ref a1, V.ref a3] r2 = some tv ∧ TmAt K4 tv t ∧ DrOk t (e' + 1) := by
          have : r2 = 0 ∨ r2 = 1 := by omega
          rcases this with rfl | rfl
          · exact ⟨_, _, at_of (j := 0) rfl rfl, .nd (.one (((s2.trans s3).trans s4) _ _ h1)) (.cons (ht1.mono T14) .nil), ok1.one⟩
          · exact ⟨_, _, at_of (j := 1) rfl rfl, .nd (.get (s4 _ _ h3)) (.cons (.nd (.num ((s3.trans s4) _ _ h2)) .nil) .nil), .get⟩
        exact ⟨_, _, _, _, rfl, rfl, SqL.of (b5 _ _ nld.1 nld.2 h4), hat, q tv t H5 (htm.mono (D4.tups b5)) tok (D5.le (by omega)) (((b1.trans b2).trans (But.of_same s14)).trans b5)⟩
      rw [decide_eq_false (fun z => c4 (V.int.inj z))]
      refine ifF rfl ?_
      refine ⟨_, rfl, l, rfl, ⟨_, SqL.of RA1.at_⟩, fun DR nDR => lc_list (xs := rvs) (Prw H1 DR rows) ?_ ?_ ?_ ?_⟩
      · exact ⟨same_new nDR _, [], upd_same, .nil⟩
      · exact fun i H2 _ p => SqL.of (p.1 _ _ RA1.at_)
      · rintro i y H2 hy ⟨s2, cs, hD, pc⟩
        obtain ⟨rr, hr', a, b, fvs, av, tv, rfl, ha, hb', pf, htv⟩ := Paired.at RA1.pr i y hy
        refine ⟨rfl, _, rfl, _, rfl, _, _, rfl, SqT.of (s2 _ _ ha), fun z => absurd z (by unfold HT.sIx; simp), fun _ p9 np9 => ?_⟩
        rw [show cutV [V.str rr.1, V.ref b, av, tv] none (some 2) = [V.str rr.1, V.ref b] by unfold cutV HT.sIx; simp]
        have s3 := same_new np9 (.tup [V.str rr.1, V.ref b])
        have h3 : (upd H2 p9 (.tup [V.str rr.1, V.ref b])) p9 = some (.tup [V.str rr.1, V.ref b]) := upd_same
        generalize upd H2 p9 (.tup [V.str rr.1, V.ref b]) = H3 at s3 h3 ⊢
        have hD3 := s3 _ _ hD
        have T4 : Tups H3 (upd H3 DR (.lst (cs ++ [.ref p9]))) := Tups.upd hD3
        have lc := Paired.length pc
        refine ⟨cs, hD3, line5 (by rw [lc, List.length_take]; omega), Same.atNew (s2.trans s3) nDR, _, upd_same, ?_⟩
        rw [← take_next hr']
        refine pair_app (Paired.mono (fun _ _ z => z.mono ((Tups.of_same s3).trans T4)) pc) (.cons ⟨p9, b, fvs, rfl, T4 _ _ h3, T4 _ _ ((s2.trans s3) _ _ hb'), Paired.mono (fun _ _ z => z.mono ((Tups.of_same (s2.trans s3)).trans T4)) pf⟩ .nil)
      rintro H2 ⟨s2, cs, hD, pc⟩
      have lrv := Paired.length RA1.pr
      rw [lrv, List.take_length] at pc
      have lcs := Paired.length pc
      have D2 := D1.same s2
      have RA2 := RA1.same s2
      have nDRd := D1.ne nDR
      have nrp : 0 < rows.length := by cases rows with | nil => exact absurd rfl nr | cons _ _ => simp
      refine ⟨_, rfl, _, rfl, l, _, rfl, .inl (SqL.of RA2.at_), d, g, _, _, rfl, D2, by omega, by omega, by omega, fun r3 H3 r30 r31 D3 b3 => ?_⟩
      have T3 := D2.tups b3
      have RA3 := RA2.but D2 b3
      have hD3 := b3 _ _ nDRd.1 nDRd.2 hD
      have n3 : r3.toNat < cs.length := by omega
      obtain ⟨cv, hcv⟩ : ∃ v, cs[r3.toNat]? = some v := ⟨_, List.getElem?_eq_getElem n3⟩
      obtain ⟨rr, hrr, c, eb, fvs, rfl, hc, hfv, pf⟩ := Paired.at pc r3.toNat cv hcv
      have hat : atI cs r3 = some (.ref c) := by
        have := atI_nat (xs := cs) hcv
        rw [show ((r3.toNat : Nat) : Int) = r3 by omega] at this
        exact this
      refine ⟨_, _, _, _, rfl, rfl, SqL.of hD3, hat, ?_⟩
      refine ⟨c, _, rfl, SqT.of (T3 _ _ hc), rfl, _, _, rfl, _, _, rfl, rfl, ?_⟩
      obtain ⟨⟨_, enN, enL, enS⟩, lrr⟩ := rf rr (List.mem_of_getElem? hrr)
      have hfv3 := T3 _ _ hfv
      have pf3 := EntA.butP T3 pf
      have lfv := Paired.length pf3
      have b03 := (b1.trans (But.of_same s2)).trans b3
      dsimp only [gName]
      -- the name: base, at times
      refine seq_abs (fun σ' H' => ∃ nm, σ' = [some (.ref d), some (.ref l), some (.int ((e' + 1 : Nat) : Int)), some (.int r), none, some (.str nm), some (.ref eb), none, none] ∧ LtS nm ∧ H3 = H') (fun σ4 H4 p4 => ?_) (fun nx hnx => ?_)
      rotate_left
      · refine ⟨_, rfl, rfl, _, rfl, ?_⟩
        by_cases c3 : r = 3
        · rw [decide_eq_true (congrArg V.int c3)]
          exact ifT rfl (hnx _ _ ⟨"base", rfl, lt_base.1, rfl⟩)
        · rw [decide_eq_false (fun z => c3 (V.int.inj z))]
          exact ifF rfl (hnx _ _ ⟨rr.1, rfl, lrr, rfl⟩)
      obtain ⟨nm, rfl, lnm, rfl⟩ := p4
      refine ⟨_, rfl, eb, rfl, ⟨_, SqT.of hfv3⟩, fun DG nDG => ?_⟩
      have nDGd := D3.ne nDG
      refine lc_tup (xs := fvs) (Pgv d g l DG rvs rows H3 (n + 2) (bud e') rr.2.1 e') ?_ ?_ ?_ ?_
      · exact ⟨But.of_same (same_new nDG _), by rw [show n + 2 + (((0 : Nat) : Int) * (1 + (bud e' : Int))) = n + 1 + 1 by omega]; exact D3.new nDG, RA3.same (same_new nDG _), [], [], [], [], upd_same, .nil, .nil, (fun t ht => nomatch ht), List.Sublist.slnil⟩
      · exact fun i H5 _ p => SqT.of ((D3.tups p.b) _ _ hfv3)
      · rintro i y H5 hy PP
        have li := (List.getElem?_eq_some_iff.mp hy).1
        have bi : (i : Int) * (1 + (bud e' : Int)) ≤ 3 * (1 + (bud e' : Int)) := Int.mul_le_mul_of_nonneg_right (by omega) (by omega)
        refine ⟨rfl, _, rfl, d, g, 6, _, rfl, PP.D, by omega, by omega, by omega, fun r5 H6 r50 r51 D6 b6 => ⟨_, _, rfl, rfl, _, rfl, ?_⟩⟩
        have bi0 : (0 : Int) ≤ (i : Int) * (1 + (bud e' : Int)) := Int.mul_nonneg (by omega) (by omega)
        have RA6 := PP.ra.but PP.D b6
        have T6 := PP.D.tups b6
        obtain ⟨gs, ns, vs, ts, hG, ar, tm, ok, sb⟩ := PP.gs
        have hG6 := b6 _ _ nDGd.1 nDGd.2 hG
        have b36 := PP.b.trans b6
        have en : ((i + 1 : Nat) : Int) * (1 + (bud e' : Int)) = (i : Int) * (1 + (bud e' : Int)) + (1 + (bud e' : Int)) := by
          rw [Int.natCast_succ, Int.add_mul, Int.one_mul]
        by_cases cc : 0 < r5
        · rw [decide_eq_true cc]
          obtain ⟨x, hx, ea, kv, bv, rfl, hea⟩ := Paired.at pf3 i y hy
          refine iteT ⟨_, rfl, _, _, _, _, rfl, rfl, SqT.of ((D3.tups b36) _ _ hea), at_of (j := 0) rfl rfl, _, rfl, _, rfl, _, rfl, _, _, rfl, rfl, e', rfl, d, g, l, _, rvs, rows, dd, D6, by omega, by omega, RA6, nr, lr, rf, fun v1 t1 H7 ht1 ok1 D7 b7 => ⟨(by show 2 ≤ sizeLine; decide), fun c9 nc9 => ?_⟩⟩
          have T7 := D6.tups b7
          have hG7 := b7 _ _ nDGd.1 nDGd.2 hG6
          have s8 := same_new nc9 (.tup [V.str x, v1])
          have h8 : (upd H7 c9 (.tup [V.str x, v1])) c9 = some (.tup [V.str x, v1]) := upd_same
          have D8 := D7.same s8
          have RA8 := (RA6.but D6 b7).same s8
          have hG8 := s8 _ _ hG7
          generalize upd H7 c9 (.tup [V.str x, v1]) = H8 at s8 h8 D8 RA8 hG8 ⊢
          have T9 : Tups H8 (upd H8 DG (.lst (gs ++ [.ref c9]))) := Tups.upd hG8
          have T69 := (T6.trans T7).trans ((Tups.of_same s8).trans T9)
          have nl9 : l ≠ DG := fun z => by rw [z] at RA3; rw [RA3.at_] at nDG; cases nDG
          have la := ar.len
          have lsb := sb.length_le
          refine ⟨gs, hG8, line5 (by rw [la.1, ← la.2]; rw [List.length_take] at lsb; omega), But.atNew ((b36.trans b7).trans (But.of_same s8)) nDG, by rw [en, show n + 2 + ((i : Int) * (1 + (bud e' : Int)) + (1 + (bud e' : Int))) = n + 2 + (i : Int) * (1 + (bud e' : Int)) + 1 + (bud e' : Int) by omega]; exact D8.at nDGd.1 nDGd.2, ⟨by rw [upd_ne nl9]; exact RA8.at_, RA8.nd, RA8.ng, Paired.mono (fun _ _ z => RowAt.mono T9 z) RA8.pr⟩, gs ++ [.ref c9], ns ++ [x], vs ++ [v1], ts ++ [t1], upd_same, (ar.mono T69).app (T9 _ _ h8), (tm.mono T69).app (ht1.mono ((Tups.of_same s8).trans T9)), fun t ht => ?_, ?_⟩
          · rcases List.mem_append.mp ht with h | h
            · exact ok t h
            · rw [List.mem_singleton.mp h]
              exact ok1
          · rw [← take_next hx]
            exact sb.append (List.Sublist.refl _)
        · rw [decide_eq_false cc]
          refine iteF ⟨b36, D6.le (by rw [en]; omega), RA6, gs, ns, vs, ts, hG6, ar.mono T6, tm.mono T6, ok, ?_⟩
          have hx : ∃ x, rr.2.1[i]? = some x := ⟨_, List.getElem?_eq_getElem (by omega)⟩
          obtain ⟨x, hx⟩ := hx
          rw [← take_next hx]
          exact sb.trans (List.sublist_append_left _ _)
      rintro H5 PP
      obtain ⟨gs, ns, vs, ts, hG, ar, tm, ok, sb⟩ := PP.gs
      have la := ar.len
      have lt := tm.len
      have lsb := sb.length_le
      rw [List.length_take] at lsb
      have sb2 : List.Sublist ns rr.2.1 := sb.trans (List.take_sublist _ _)
      have bi : (fvs.length : Int) * (1 + (bud e' : Int)) ≤ 4 * (1 + (bud e' : Int)) := Int.mul_le_mul_of_nonneg_right (by omega) (by omega)
      dsimp only [gName]
      refine ⟨_, rfl, _, rfl, DG, _, rfl, SqL.of hG, fun g2 ou ng2 eu => ⟨(by show 3 ≤ sizeLine; decide), fun a2 na2 => ?_⟩⟩
      have s6 := same_new ng2 (.frz ou (.tup gs))
      have h6 : FzT (upd H5 g2 (.frz ou (.tup gs))) g2 gs := ⟨ou, upd_same, eu⟩
      generalize upd H5 g2 (.frz ou (.tup gs)) = H6 at s6 h6 na2 ⊢
      have s7 := same_new na2 (.tup [V.str "call", V.str nm, V.ref g2])
      have h7 : (upd H6 a2 (.tup [V.str "call", V.str nm, V.ref g2])) a2 = some (.tup [V.str "call", V.str nm, V.ref g2]) := upd_same
      generalize upd H6 a2 (.tup [V.str "call", V.str nm, V.ref g2]) = H7 at s7 h7 ⊢
      have s67 := s6.trans s7
      have T67 := Tups.of_same s67
      exact q (.ref a2) _ H7 (.nd (.call h7 (h6.mono (Tups.of_same s7)) (ar.mono T67)) (tm.mono T67)) (DrOk.call lnm (fun z hz => enS z (sb2.subset hz)) (enN.sublist sb2) (by omega) ok) ((PP.D.same s67).le (by omega)) ((b03.trans PP.b).trans (But.of_same s67))
theorem DrOk.five {t : Tm} {e : Nat} (h : DrOk t e) (l : e ≤ 5) : DrOk t 5 := by
  have a : tnb e ≤ tnb 5 ∧ szb e ≤ szb 5 := by
    have : e = 0 ∨ e = 1 ∨ e = 2 ∨ e = 3 ∨ e = 4 ∨ e = 5 := by omega
    rcases this with rfl | rfl | rfl | rfl | rfl | rfl <;> exact ⟨by decide +kernel, by decide +kernel⟩
  exact ⟨Nat.le_trans h.tn a.1, Nat.le_trans h.size a.2, by have := h.depth; omega, h.few, h.sgs, h.once⟩
theorem bud_five {e : Nat} (l : e ≤ 5) : bud e ≤ 5000 := by
  have : e = 0 ∨ e = 1 ∨ e = 2 ∨ e = 3 ∨ e = 4 ∨ e = 5 := by omega
  rcases this with rfl | rfl | rfl | rfl | rfl | rfl <;> decide +kernel
theorem ok_dr5 (B : Bn mg) (F : Fun K "_law_drawn" "_law_drawn" s__law_drawn f fd) (hm : mg "_law_drawn" = some (.ref f)) (hb : Binds K fd ["deck", "rows", "deep"] []) (c__law_take : Cal P w K mg base "_law_take" 1 ["deck", "many"] spTake) : FnOk P w K mg base CX0 7 f fd ["deck", "rows", "deep"] (fun vs H Q E => ∃ e, e ≤ 5 ∧ spDr e vs H Q E) :=
  ⟨fun vs H Q E ⟨e, _, h⟩ => (ok_dr B F hm hb c__law_take e).len _ _ _ _ h, fun A outer s H args us vs Q E hr e0 hbd rv ⟨e, le, h⟩ => (ok_dr B F hm hb c__law_take e).run A outer s H args us vs Q E (hr.mono (by omega)) e0 hbd rv h⟩
end
end My
namespace My
open PySem PySem.W PySem.Spec PySem.Calls PyProof.Rows
/-! isinstance of a caught error that has fields -/
section
variable {prog : Program} {w : World} {A : Around} {E : Value → Shared → Prop} {s : Shared} {K : Frag} {x D : Addr} {ox : Obj} {od : Option Obj}
/-- what the class of an error must say -/
structure ErrI (K : Frag) (D : Addr) : Prop where
  ga : findIn K (.ref D) "__getattribute__" = some (some (.builtin "BaseException.__getattribute__"))
  gt : findIn K (.ref D) "__getattr__" = some none
  ex : subIn K (.ref D) (.type "BaseException") = some true
  hd : hasDictIn K D = true
  ca : findIn K (.ref D) "__class__" = some (some (.builtin "object.__class__"))
  cn : specialIn K (.builtin "object.__class__") "__get__" = some (some (.builtin "getset_descriptor.__get__"))
  ct : takesIn K (.builtin "object.__class__") = some true
  mo : mroIn K D (.type "object") = some true
theorem ErrI.cls (T : ErrI K D) : ∃ cd, clsIn K D = some cd := by
  obtain ⟨cd, h, _⟩ := any_some T.hd
  exact ⟨cd, h⟩
theorem kitx_err (T : ErrI K D) : KitX K (.ref x) (.ref D) (fun h => InstAt h x ox D od) :=
  kitx_exc (by obtain ⟨cd, h⟩ := T.cls; rw [h]; rfl) T.ga T.gt T.ex T.ca T.cn T.ct T.mo
end
end My
namespace My
open PySem L2
theorem err_at {X : Cx} {a D dd : Addr} {oe : Obj} {cls : Value} {d : Option Addr} {pn pins : List (Addr × Obj)} {σ : St} {H : Hp} {s : Shared} {fs : List (Str × V)} (hz : Zc cls d oe) (hf : ∃ vs, oe.data = .fields vs) (I : Inv (X.suite a ((a, oe) :: pn)) pins σ H s) (ec : cls = .ref D) (ed : d = some dd) (h : H dd = some (.xd fs)) :
    ∃ od, PySem.W.InstAt s.heap a oe D (some od) := by
  subst ec ed
  obtain ⟨hget, _⟩ := I.pin (a, oe) (List.mem_append.mpr (.inl List.mem_cons_self))
  obtain ⟨vs, hv⟩ := hf
  obtain ⟨mA, hns, _⟩ := (show ObjOk X.prog X.w H s.heap dd (.xd fs) from I.hok dd _ h)
  obtain ⟨od, ho, _⟩ := lookIn_ns hns
  exact ⟨od, hget, hz.1, by unfold PySem.W.notCls; rw [hv], by rw [hz.2]; exact ho⟩
/-- isinstance(e, c), e a caught error with fields -/
def rIsF (K : PySem.W.Frag) (cls : Value) (d : Option Addr) (D a : Addr) : List V → Hp → VK → Prop := fun xs H Q => ∃ (c : V) (cv : Value) (b : Bool) (dd : Addr) (fs : List (Str × V)), xs = [.ref a, c] ∧ cls = .ref D ∧ d = some dd ∧ H dd = some (.xd fs) ∧ ClsV c cv ∧ PySem.W.kitOne K (.ref D) cv = some b ∧ Q (.bl b) H
theorem call_isF {X : Cx} {a D : Addr} {oe : Obj} {cls : Value} {d : Option Addr} {pn : List (Addr × Obj)} (T : ErrI X.K D) (hz : Zc cls d oe) (hf : ∃ vs, oe.data = .fields vs) : CallR (X.suite a ((a, oe) :: pn)) (.builtin "isinstance") (rIsF X.K cls d D a) := by
  intro pins s σ H xs us Q I r h
  obtain ⟨c, cv, b, dd, fs, rfl, ec, ed, h, k, e, q⟩ := h
  obtain ⟨u1, u2, rfl, r1, r2⟩ := vals2 r
  obtain rfl := k.eq r2
  obtain rfl : u1 = Value.ref a := r1
  obtain ⟨od, J⟩ := err_at hz hf I ec ed h
  exact PySem.W.kia_one (kitx_err T) I.kIn J e (fun z => nomatch z) fun tk => ⟨.bl b, H, I.tok tk, rfl, q⟩
/-- isinstance(e, (c1, c2, ..)) -/
def rIsFT (K : PySem.W.Frag) (cls : Value) (d : Option Addr) (D a : Addr) : List V → Hp → VK → Prop := fun xs H Q => ∃ (tp : Addr) (cs : List V) (us : List Value) (b : Bool) (dd : Addr) (fs : List (Str × V)), xs = [.ref a, .ref tp] ∧ H tp = some (.tup cs) ∧ cls = .ref D ∧ d = some dd ∧ H dd = some (.xd fs) ∧ Paired ClsV cs us ∧ PySem.W.kitAny K (.ref D) us = some b ∧ Q (.bl b) H
theorem call_isFT {X : Cx} {a D : Addr} {oe : Obj} {cls : Value} {d : Option Addr} {pn : List (Addr × Obj)} (T : ErrI X.K D) (hz : Zc cls d oe) (hf : ∃ vs, oe.data = .fields vs) : CallR (X.suite a ((a, oe) :: pn)) (.builtin "isinstance") (rIsFT X.K cls d D a) := by
  intro pins s σ H xs us Q I r h
  obtain ⟨tp, cs, ws, b, dd, fs, rfl, hT, ec, ed, h, k, e, q⟩ := h
  obtain ⟨u1, u2, rfl, r1, r2⟩ := vals2 r
  obtain rfl : u2 = Value.ref tp := r2
  obtain rfl : u1 = Value.ref a := r1
  obtain ⟨od, J⟩ := err_at hz hf I ec ed h
  obtain ⟨_, its, rv, o, h1, h2, n, h3⟩ := (show ObjOk X.prog X.w H s.heap tp (.tup cs) from I.hok tp _ hT)
  obtain rfl := ClsV.all k rv
  obtain ⟨oc, od2, dt, sl⟩ := o
  simp only at h2 h3
  subst h2 h3
  exact PySem.W.kia_tup (kitx_err T) I.kIn J h1 e (fun z => nomatch z) fun tk => ⟨.bl b, H, I.tok tk, rfl, q⟩
end My
namespace My
open PySem PySem.Spec PyProof.Rows L2
/-! an own error that is held in a variable: caught = e behind its suite; made without being raised -/
/-- at a: an error of the class cls, its dict d -/
def ErO (cls : Value) (d : Option Addr) (a : Addr) : HO := .ext fun h => ∃ (oe : Obj) (vs : Array Value), h.get? a = some oe ∧ Zc cls d oe ∧ oe.data = .fields vs
theorem erO_ok {P : Program} {w : World} {H : Hp} {h : Heap} {a : Addr} {cls : Value} {d : Option Addr} {oe : Obj} {vs : Array Value} (e : h.get? a = some oe) (z : Zc cls d oe) (dv : oe.data = .fields vs) : ObjOk P w H h a (ErO cls d a) :=
  ⟨⟨oe, vs, e, z, dv⟩, ⟨oe, e⟩, fun _ _ ⟨o, v, q, r⟩ k => ⟨o, v, k o q, r⟩⟩
theorem erO_at {P : Program} {w : World} {H : Hp} {h : Heap} {a : Addr} {cls : Value} {d : Option Addr} (hok : HOk P w H h) (he : H a = some (ErO cls d a)) : ∃ (oe : Obj) (vs : Array Value), h.get? a = some oe ∧ Zc cls d oe ∧ oe.data = .fields vs := by
  have x : ObjOk P w H h a (.ext fun h => ∃ (oe : Obj) (vs : Array Value), h.get? a = some oe ∧ Zc cls d oe ∧ oe.data = .fields vs) := hok a _ he
  exact x.1
section
variable {X : Cx} {pins : List (Addr × Obj)} {σ : L2.St} {H : Hp} {s : Shared}
/-- an object that stands there, newer than the call, may be told from now on -/
theorem inv_told {a : Addr} {cls : Value} {d : Option Addr} {oe : Obj} {vs : Array Value} (I : Inv X pins σ H s) (ha : s.heap.get? a = some oe) (dv : oe.data = .fields vs) (z : Zc cls d oe) (newer : X.s_0.heap.get? a = none) (na : H a = none) (nL : a ≠ X.env.locals)
    (np : ∀ p ∈ X.pn ++ pins, p.1 ≠ a) : Inv X pins σ (upd H a (ErO cls d a)) s := by
  have B := I.base
  have off : ∀ {b : Addr} {o : HO}, H b = some o → upd H a (ErO cls d a) b = some o := fun {b o} e => (upd_ne (ne_of_none e na)).trans e
  refine { ok := I.ok, os := I.os, bare := I.bare, loc := I.loc, cell := I.cell, len := I.len, free := ?_, freeC := ?_, pin := ?_, hok := I.hok.laidN (fun _ _ q => q) na (erO_ok ha z dv), base := ?_ }
  · refine { keep := B.keep, slot := B.slot, there := B.there, tups := fun b xs e => off (B.tups b xs e), frzs := fun b o u e => off (B.frzs b o u e), free := fun b o e n hx => ?_, tbls := fun b ps e => ?_ }
    · have nb : b ≠ a := fun q => by
        rw [q, newer] at e
        cases e
      exact (upd_ne nb).trans (B.free b o e n hx)
    · obtain ⟨more, q⟩ := B.tbls b ps e
      exact ⟨more, off q⟩
  · exact (upd_ne (Ne.symm nL)).trans I.free
  · intro x c e
    obtain ⟨v, o, q1, q2⟩ := I.cell x c e
    have nc : c ≠ a := fun q => by
      rw [q, ha] at q1
      cases q1
      rw [dv] at q2
      cases q2
    exact (upd_ne nc).trans (I.freeC x c e)
  · intro p hp
    obtain ⟨q1, q2, q3⟩ := I.pin p hp
    exact ⟨q1, (upd_ne (np p hp)).trans q2, q3⟩
theorem inv_like {s' : Shared} (I : Inv X pins σ H s) (eh : s'.heap = s.heap) (eo : s'.os = s.os) (bg : AllBare s'.gens) : Inv X pins σ H s' := by
  obtain ⟨hp, g, dr, tk, os⟩ := s'
  obtain ⟨hp0, g0, dr0, tk0, os0⟩ := s
  cases eh
  cases eo
  exact { ok := I.ok, os := I.os, bare := bg, base := I.base, loc := I.loc, cell := I.cell, free := I.free, freeC := I.freeC, pin := I.pin, hok := I.hok, len := I.len }
end
/-- what the clause 'except x as n' wishes, where the error may be held behind its suite -/
def wHold (K : PySem.W.Frag) (c : Value) (j : Nat) (ts : Addr → TS) (Wout : WX) (D : Ends) : WX := fun cls d σ H =>
  ∃ b, PySem.W.exmOne K cls c = some b ∧ (b = false → Wout cls d σ H) ∧
    (b = true → ∀ a, H a = none → ts a { nx := fun σ' H' => D.nx (σ'.set j none) (upd H' a (ErO cls d a)), rt := fun _ _ => False, bk := fun _ _ => False, ct := fun _ _ => False } (σ.set j (some (.ref a))) H)
section
variable {X : Cx} {x n : Str} {c : Value} {j : Nat} {body suite : List Stmt} {b₀ : Stmt} {np pos pos' : Pos} {tb : WX → TS} {ts : Addr → TS} {Wout : WX}
theorem ps_try_hold (hx : X.ex = []) (stk : X.stack = X.env :: X.outer) (frm : X.env.frame = some X.env.locals) (nd : X.N.Nodup) (slot : X.N[j]? = some n) (lcl : X.env.kindOf n = some .local) (nm : Names X x c) (tk : Takes X Wout)
    (hb : ∀ (W : WX) (pn : List (Addr × Obj)) (xe : Value → Shared → Prop), Takes (X.tr pn xe) W → PassesOwn (model X.prog X.w) X.A X.env xe → PSs (X.tr pn xe) body (tb W))
    (hsu : ∀ (a : Addr) (oe : Obj) (pn : List (Addr × Obj)), PSs (X.suite a ((a, oe) :: pn)) (b₀ :: suite) (ts a)) :
    PS X (.Try body [.ExceptHandler (some (.Name x np)) (some n) (b₀ :: suite) pos'] [] [] pos) (fun D σ H => tb (wHold X.K c j ts Wout D) D σ H) := by
  refine ⟨fun pins s0 σ0 H0 D I0 wish => ?_⟩
  have okX := I0.ok
  have frames : X.A.frames = some (X.env :: X.outer) := okX.frames.trans (congrArg some stk)
  refine wpAny_Try_except ?_
  let onErr : Value → Shared → Prop := fun er z1 => wpAny (model X.prog X.w) X.A (noteFrame er X.env) (fun _ z2 => wpAny (model X.prog X.w) X.A (setFlight er none)
    (fun _ z3 => wpAny (model X.prog X.w) X.A (handleBy er X.env [.ExceptHandler (some (.Name x np)) (some n) (b₀ :: suite) pos']) (SP X pins D) X.xe z3) X.xe z2) X.xe z1
  have runB := (hb (wHold X.K c j ts Wout D) (X.pn ++ pins) onErr (fun er z1 thrown => ?caught) PassesOwn.looking).run [] s0 σ0 H0 D (I0.toTry _) wish
  · refine wpAny_mono runB (fun fl z1 done => ?_) fun er z1 q => q
    cases fl with
    | next => obtain ⟨σ1, H1, I1, q⟩ := done; exact wpAny_execs_nil ⟨σ1, H1, I1.ofTry okX, q⟩
    | brk => obtain ⟨σ1, H1, I1, q⟩ := done; exact ⟨σ1, H1, I1.ofTry okX, q⟩
    | cont => obtain ⟨σ1, H1, I1, q⟩ := done; exact ⟨σ1, H1, I1.ofTry okX, q⟩
    | ret u => obtain ⟨v1, σ1, H1, I1, r1, q⟩ := done; exact ⟨v1, σ1, H1, I1.ofTry okX, r1, q⟩
  case caught =>
    obtain ⟨a, G, sB, pinsB, σ1, H1, cls, d, rfl, IB, ground, slots, flying, na, sameOs, bareG, b, isB, other, own⟩ := thrown
    have J0 : Inv X pins σ1 H1 sB := IB.ofTry okX
    have flying2 : Sky G (X.env :: X.outer) a (Zc cls d) X.env.locals z1.heap := stk ▸ flying
    show wpAny (model X.prog X.w) X.A (noteFrame (.ref a) X.env) _ _ _
    refine Sky.land Zc.steady frames frm flying2 fun g1 f1 up1 => ?_
    obtain ⟨o1, v1, at1, zc1, dv1⟩ := f1.there
    have Ja : Inv X pins σ1 H1 { z1 with heap := g1 } := J0.landed ground f1.1 (slots.trans up1) sameOs bareG
    have notF : a ∉ frs (X.env :: X.outer) := fun m => by
      obtain ⟨_, o', e', nofields⟩ := f1.2.2.1.mem m
      rw [at1] at e'
      cases e'
      exact nofields _ dv1
    have nL : a ≠ X.env.locals := fun q => notF (List.mem_filterMap.mpr ⟨X.env, List.mem_cons_self, by rw [frm, q]⟩)
    have nF : a ∉ X.fs := fun m => by
      obtain ⟨e', m', q⟩ := List.mem_filterMap.mp m
      exact notF (List.mem_filterMap.mpr ⟨e', List.mem_cons_of_mem _ m', q⟩)
    have newB : sB.heap.get? a = none := by
      cases e : sB.heap.get? a with
      | none => rfl
      | some o =>
        have q := ground a o e (by show a ∉ frs X.stack; rw [stk]; exact notF)
        rw [f1.2.1] at q
        cases q
    have new0 : X.s_0.heap.get? a = none := by
      cases e : X.s_0.heap.get? a with
      | none => rfl
      | some o =>
        obtain ⟨o', q⟩ := J0.base.there a o e (by rw [hx]; simp)
        rw [newB] at q
        cases q
    have pinA : ∀ p ∈ X.pn ++ pins, p.1 ≠ a := fun p hp q => by
      have z := (J0.pin p hp).1
      rw [q, newB] at z
      cases z
    have S1 := Ja.suite at1 dv1 na nL nF
    refine wpAny_handleBy_cons (codeAny_handlers_test ?_) (by intro q; cases q)
    have clsOf : PySem.W.Looks (model X.prog X.w) g1 (typeOf (.ref a)) cls := fun A' Q' E' s' keep go => wpAny_typeOf_ref (keep _ _ at1) (by rw [zc1.1]; exact go)
    have matchOf := PySem.W.exm_one (M := model X.prog X.w) (Ja.kIn) clsOf isB
    have named : ∀ {Q' : Value → Shared → Prop} {E' : Value → Shared → Prop}, Q' c { z1 with heap := g1 } → wpAny (model X.prog X.w) (X.A.mark (some (.ref a))) (eval (.Name x np) X.env) Q' E' { z1 with heap := g1 } := fun {Q' E'} go => by
      obtain ⟨hg, hdbg, hm | ⟨hm, hv, hnn⟩⟩ := nm
      · exact ld_glob (X := X.suite a ((a, o1) :: (X.pn ++ pins))) S1 hg hm go hdbg
      · exact ld_blt (X := X.suite a ((a, o1) :: (X.pn ++ pins))) S1 hg hm hv go hnn hdbg
    refine named (matchOf.here ?_)
    cases b with
    | false =>
      show wpAny _ X.A (handleBy (.ref a) X.env []) _ _ _
      refine wpAny_handleBy_nil ?_
      obtain ⟨_, _, _, oe, vs, T, oT, ts', he, hz, hd, h1, hr⟩ := id f1
      unfold PySem.passOn
      refine wpAny_bind (wpAny_field he hd h1 ?_)
      rw [if_neg (show ¬ ((Value.ref T == Value.none) = true) from by simp)]
      have off : wpAny (model X.prog X.w) X.A (setFlight (.ref a) X.env.frame) (fun _ z4 => wpAny (model X.prog X.w) X.A (throw (.ref a) : Sem Flow) (SP X pins D) X.xe z4) X.xe { z1 with heap := g1 } := by
        rw [frm]
        refine HandSPX.setFlight_upZ f1 fun g4 hold4 up4 => wpAny_throw (tk _ _ ?_)
        exact ⟨a, G, sB, pins, σ1, H1, cls, d, rfl, J0, ground, (slots.trans up1).trans up4, .inr (.inr (by rw [stk]; exact hold4)), na, sameOs, bareG, other rfl⟩
      first
        | exact wpAny_bind (wpAny_pure (wpAny_bind off))
        | exact wpAny_bind off
    | true =>
      refine codeAny_handlers_suite_as ?_
      refine HandSPX.lands_againZ f1 fun g2 f2 up2 => ?_
      obtain ⟨o2, v2, at2, zc2, dv2⟩ := f2.there
      have Jb : Inv X pins σ1 H1 { z1 with heap := g2 } := J0.landed ground f2.1 ((slots.trans up1).trans up2) sameOs bareG
      refine store_ok (X := X.suite a ((a, o2) :: (X.pn ++ pins))) (v := .ref a) (Jb.suite at2 dv2 na nL nF) nd slot (.inl lcl) rfl (fun z5 S5 => ?_) (.inr lcl)
      refine wpAny_mono ((hsu a o2 (X.pn ++ pins)).run [] z5 _ H1 _ S5 (own rfl a na)) (fun fl z6 done => ?_) (fun _ _ q => False.elim q)
      cases fl with
      | next =>
        obtain ⟨σ6, H6, S6, q6⟩ := done
        refine gone_ok (X := X.suite a ((a, o2) :: (X.pn ++ pins))) S6 nd slot lcl fun z7 S7 => ?_
        obtain ⟨at7, na7, _⟩ := S7.pin (a, o2) (List.mem_append_left _ List.mem_cons_self)
        have J7 : Inv X pins (σ6.set j none) H6 z7 := S7.unsuite okX
        exact ⟨_, _, inv_told J7 at7 dv2 zc2 new0 na7 nL pinA, q6⟩
      | brk => obtain ⟨_, _, _, q6⟩ := done; exact q6.elim
      | cont => obtain ⟨_, _, _, q6⟩ := done; exact q6.elim
      | ret u => obtain ⟨_, _, _, _, _, q6⟩ := done; exact q6.elim
end
section
variable {X : Cx} {pins : List (Addr × Obj)} {σ : L2.St} {H : Hp} {s : Shared} {a D dd : Addr} {fs : List (Str × V)}
theorem inst_er (I : Inv X pins σ H s) (ha : H a = some (ErO (.ref D) (some dd) a)) (hd : H dd = some (.xd fs)) :
    ∃ oe od, PySem.W.InstAt s.heap a oe D (some od) ∧ ∀ n, ∃ mo, PySem.W.lookIn n od = some mo ∧ RelO (fs.lookup n) mo := by
  obtain ⟨oe, vs, at_, zc, dv⟩ := erO_at I.hok ha
  obtain ⟨mA, hns, rel⟩ := (show ObjOk X.prog X.w H s.heap dd (.xd fs) from I.hok dd _ hd)
  obtain ⟨od, ho, hl⟩ := lookIn_ns hns
  exact ⟨oe, od, ⟨at_, zc.1, by unfold PySem.W.notCls; rw [dv] <;> rfl, by rw [zc.2]; exact ho⟩, fun n => ⟨mA n, hl n, rel n⟩⟩
end
/-- e.f, e a held error -/
def tEf (K : PySem.W.Frag) (f : Str) (te : TE) : TE := fun σ H Q => te σ H fun x H1 => ∃ (a D dd : Addr) (fs : List (Str × V)) (v : V), x = .ref a ∧ H1 a = some (ErO (.ref D) (some dd) a) ∧ H1 dd = some (.xd fs) ∧ XfC K D ∧ PySem.W.findIn K (.ref D) f = some none ∧ fs.lookup f = some v ∧ Q v H1
theorem pe_ef {X : Cx} {e : Expr} {te : TE} {pos : Pos} {f : Str} (he : PE X e te) (hb : attributeBase e f X.env (eval e X.env) = eval e X.env := by rfl) : PE X (.Attribute e f pos) (tEf X.K f te) := by
  refine ⟨fun pins s σ H Q I h => attr_of hb (thn (he.run pins s σ H _ I h) fun u s1 ⟨x, H1, I1, rx, a, D, dd, fs, v, ex, ha, hd, T, hno, l, q⟩ => ?_)⟩
  subst ex
  obtain rfl : u = Value.ref a := rx
  obtain ⟨oe, od, J, look⟩ := inst_er I1 ha hd
  obtain ⟨mo, hl, hr⟩ := look f
  obtain ⟨u, hu, ru⟩ := RelO.some_of (v := v) (o := mo) (by rw [← l]; exact hr)
  exact HandSPX.exc_get I1.kIn J T.ga T.gg T.exC (PySem.W.findObj_own T.hdC hno rfl (by rw [hl, hu])) (handed_of ru) ⟨v, H1, I1.tok _, ru, q⟩
theorem pe_efK (K : PySem.W.Frag) {X : Cx} (hK : X.K = K) {e : Expr} {te : TE} {pos : Pos} {f : Str} (he : PE X e te) (hb : attributeBase e f X.env (eval e X.env) = eval e X.env := by rfl) : PE X (.Attribute e f pos) (tEf K f te) := hK ▸ pe_ef he hb
/-- isinstance(e, c), e a held error -/
def rIsE (K : PySem.W.Frag) : List V → Hp → VK → Prop := fun xs H Q => ∃ (a D dd : Addr) (fs : List (Str × V)) (c : V) (cv : Value) (b : Bool), xs = [.ref a, c] ∧ H a = some (ErO (.ref D) (some dd) a) ∧ H dd = some (.xd fs) ∧ ErrI K D ∧ ClsV c cv ∧ PySem.W.kitOne K (.ref D) cv = some b ∧ Q (.bl b) H
theorem call_isE {X : Cx} : CallR X (.builtin "isinstance") (rIsE X.K) := by
  intro pins s σ H xs us Q I r h
  obtain ⟨a, D, dd, fs, c, cv, b, rfl, ha, hd, T, k, e, q⟩ := h
  obtain ⟨u1, u2, rfl, r1, r2⟩ := vals2 r
  obtain rfl := k.eq r2
  obtain rfl : u1 = Value.ref a := r1
  obtain ⟨oe, od, J, _⟩ := inst_er I ha hd
  exact PySem.W.kia_one (kitx_err T) I.kIn J e (fun z => nomatch z) fun tk => ⟨.bl b, H, I.tok tk, rfl, q⟩
/-- isinstance(e, (c1, c2, ..)) -/
def rIsET (K : PySem.W.Frag) : List V → Hp → VK → Prop := fun xs H Q => ∃ (a D dd tp : Addr) (fs : List (Str × V)) (cs : List V) (us : List Value) (b : Bool), xs = [.ref a, .ref tp] ∧ H tp = some (.tup cs) ∧ H a = some (ErO (.ref D) (some dd) a) ∧ H dd = some (.xd fs) ∧ ErrI K D ∧
  Paired ClsV cs us ∧ PySem.W.kitAny K (.ref D) us = some b ∧ Q (.bl b) H
theorem call_isET {X : Cx} : CallR X (.builtin "isinstance") (rIsET X.K) := by
  intro pins s σ H xs us Q I r h
  obtain ⟨a, D, dd, tp, fs, cs, ws, b, rfl, hT, ha, hd, T, k, e, q⟩ := h
  obtain ⟨u1, u2, rfl, r1, r2⟩ := vals2 r
  obtain rfl : u2 = Value.ref tp := r2
  obtain rfl : u1 = Value.ref a := r1
  obtain ⟨oe, od, J, _⟩ := inst_er I ha hd
  obtain ⟨_, its, rv, o, h1, h2, n, h3⟩ := (show ObjOk X.prog X.w H s.heap tp (.tup cs) from I.hok tp _ hT)
  obtain rfl := ClsV.all k rv
  obtain ⟨oc, od2, dt, sl⟩ := o
  simp only at h2 h3
  subst h2 h3
  exact PySem.W.kia_tup (kitx_err T) I.kIn J h1 e (fun z => nomatch z) fun tk => ⟨.bl b, H, I.tok tk, rfl, q⟩
/-- C(e, ..), kept as a value -/
def tMkV (t : L2.St → Hp → XK → Prop) : TE := fun σ H Q => t σ H fun cls d H1 => ∀ a, H1 a = none → Q (.ref a) (upd H1 a (ErO cls d a))
theorem pe_mkv {X : Cx} {e : Expr} {t : L2.St → Hp → XK → Prop} (he : PMk X e t) : PE X e (tMkV t) := by
  refine ⟨fun pins s σ H Q I h => wpAny_mono (he pins s σ H _ I h) (fun u s1 made => ?_) fun _ _ x => x⟩
  obtain ⟨a, oe, vs, sB, H1, cls, d, rfl, J, grows, fresh, at_, zc, dv, _, na, so, bg, _, q⟩ := made
  have J1 : Inv X pins σ (upd H1 a (ErO cls d a)) { sB with heap := s1.heap, toks := s1.toks } := J.laidN grows fresh na (erO_ok at_ zc dv)
  exact ⟨.ref a, _, inv_like J1 rfl so bg, rfl, q a na⟩
end My
namespace My
open PySem L2 NdefX LamX
/-! _law_right: unfolded, or refused -/
/-- what isinstance says of a NoBridge -/
structure KiB (K : PySem.W.Frag) (mg : Str → Option Value) (D D0 b1 b2 b3 b4 b5 b6 b7 b8 : Addr) : Prop where
  err : ErrI K D
  xf : XfC K D
  te : PySem.W.exmOne K (.ref D) (.ref D0) = some true
  self : PySem.W.kitOne K (.ref D) (.ref D) = some true
  ve : PySem.W.kitOne K (.ref D) (.type "ValueError") = some true
  any_ : PySem.W.kitAny K (.ref D) [.ref b1, .ref b2, .ref b3, .ref b4, .ref b5, .ref b6, .ref b7, .ref b8] = some false
  m1 : mg "Breaks" = some (.ref b1)
  m2 : mg "Holds" = some (.ref b2)
  m3 : mg "NoEdition" = some (.ref b3)
  m4 : mg "NoKind" = some (.ref b4)
  m5 : mg "NoName" = some (.ref b5)
  m6 : mg "NoRow" = some (.ref b6)
  m7 : mg "NoText" = some (.ref b7)
  m8 : mg "TooGreat" = some (.ref b8)
  mS : mg "StillError" = some (.ref D0)
abbrev gvR : List V → List V → List V := fun vs zs => vs ++ zs.reverse
structure RowsT (H : Hp) (l : Addr) (rvs : List V) (rows : List Rw) (v : V) (t : Tm) : Prop where
  l_ : H l = some (.lst rvs)
  pr : Paired (RowAt H) rvs rows
  few : rows.length ≤ 4
  nd : (rows.map (·.1)).Nodup
  full : ∀ r ∈ rows, RwFull r ∧ LtS r.1
  tm : TmAt H v t
  ok : DrOk t 5
theorem RowsT.ext {H H' : Hp} {l : Addr} {rvs : List V} {rows : List Rw} {v : V} {t : Tm} (h : RowsT H l rvs rows v t) (x : ExtN H H') : RowsT H' l rvs rows v t :=
  ⟨x _ _ h.l_ (fun _ => nofun), Paired.mono (fun _ _ z => RowAt.mono (tups_ext x) z) h.pr, h.few, h.nd, h.full, h.tm.mono (tups_ext x), h.ok⟩
def spRt (T : List NTab) : Sp := fun vs H Q _ => ∃ (l : Addr) (v : V) (b : Bool) (rvs : List V) (rows : List Rw) (t : Tm), vs = [.ref l, v, .bl b] ∧ RowsT H l rvs rows v t ∧ TabsN T H ∧ ∀ H', ExtN H H' → TabsN T H' → Q (.bl true) H'
section
variable {P : Program} {w : World} {K : PySem.W.Frag} {mg : Str → Option Value} {base : Heap} {f : Addr} {fd : FuncData} {D : Addr} {T : List NTab}
set_option maxHeartbeats 4000000 in
theorem ok_rt {fN cc c D0 f0 c0 e0 b1 b2 b3 b4 b5 b6 b7 b8 : Addr} {gN fd0 : FuncData} (B : Bn mg) (N : NoBridgeC P K mg D fN cc c gN D0 f0 c0 e0 fd0) (ki : KiB K mg D D0 b1 b2 b3 b4 b5 b6 b7 b8) (F : Fun K "_law_right" "_law_right" s__law_right f fd)
    (c__law_unfolded : Cal P w K mg base "_law_unfolded" 49 ["rows", "prog"] (spLu 6)) (c_unfolded : CalX P w K mg base "unfolded" 14 ["bridge", "term"] (spUnf D T)) (c_unfoldedK : CalEN P w K mg base "unfolded" 14 ["bridge", "term"] ["term", "bridge"] gvR (spUnf D T)) :
    FnOk P w K mg base CX0 50 f fd ["rows", "prog", "named"] (spRt T) := by
  obtain ⟨err, xf, te, self, ve, any_, m_Breaks, m_Holds, m_NoEdition, m_NoKind, m_NoName, m_NoRow, m_NoText, m_TooGreat, m_StillError⟩ := ki
  have m_NoBridge := N.m
  refine F.ok sc__law_right (fun vs H Q E h => ?_) (fun cdv A outer s H vs Q E hr h => ?_)
  · obtain ⟨l, v, b, rvs, rows, t, rfl, _⟩ := h
    rfl
  obtain ⟨l, v, b, rvs, rows, t, rfl, R, hT, q⟩ := h
  refine ⟨_, (pss_cons (ps_asg (pc c__law_unfolded (hr.mono (by first | decide | omega)) (pa_cons (pv 0) (pa_cons (pv 1) pa_nil))) (pg_tup rfl (pgs_cons (pg_name (i := 3) sc__law_right.nd rfl (Or.inl rfl)) (pgs_cons (pg_name (i := 4) sc__law_right.nd rfl (Or.inl rfl)) pgs_nil))))
    (pss_cons (ps_set (i := 5) sc__law_right.nd rfl (Or.inl rfl) pe_non)
    (pss_cons (ps_set (i := 6) sc__law_right.nd rfl (Or.inl rfl) pe_non)
    (pss_cons (ps_try_hold (x := "StillError") (n := "e") (j := 7) (c := .ref D0) (Wout := fun _ _ _ _ => False) rfl rfl rfl sc__law_right.nd rfl rfl ⟨rfl, by decide, .inl m_StillError⟩ L2.takes0
      (fun W pn xe tk _ => pss_one (ps_if (pt_val (pv 2)) (pss_one (ps_set (i := 6) sc__law_right.nd rfl (Or.inl rfl) (pckE c_unfoldedK (hr.mono (by first | decide | omega)) tk (pk_cons (pv 1) (pk_cons (pv 0) pk_nil))))) (pss_one (ps_set (i := 6) sc__law_right.nd rfl (Or.inl rfl) (pcx c_unfolded (hr.mono (by first | decide | omega)) tk (pa_cons (pv 0) (pa_cons (pv 1) pa_nil)))))))
      (fun a oe pn => pss_one (ps_set (i := 5) sc__law_right.nd rfl (Or.inl rfl) (pv 7))))
    (pss_cons (ps_if (pt_cmpR op_isN (pv 4) pe_non (nomark _)) (pss_one (ps_ret (pe_and (pe_cmpR op_isN (pv 5) pe_non (nomark _)) (pe_one (pe_cmpR (eqTm hr (n := 900) (by decide)) (pv 6) (pv 3) (nomark _)))))) pss_nil)
    (pss_cons (ps_if (pt_val (pe_callB call_isET (by rfl) B.b_isinstance (by decide +kernel) (pa_cons (pv 5) (pa_cons (pe_tup (pa_cons (pgT m_Breaks) (pa_cons (pgT m_Holds) (pa_cons (pgT m_NoEdition) (pa_cons (pgT m_NoKind) (pa_cons (pgT m_NoName) (pa_cons (pgT m_NoRow) (pa_cons (pgT m_NoText) (pa_cons (pgT m_TooGreat) pa_nil))))))))) pa_nil)))) (pss_one (ps_ret pe_bl)) pss_nil)
    (pss_one (ps_ret (pe_and (pe_callB call_isE (by rfl) B.b_isinstance (by decide +kernel) (pa_cons (pv 5) (pa_cons (pgT m_NoBridge) pa_nil))) (pe_and (pe_callB call_isE (by rfl) B.b_isinstance (by decide +kernel) (pa_cons (pv 5) (pa_cons (pe_bltn (v := .ty "ValueError") (by rfl) B.b_ValueError (by decide +kernel) rfl) pa_nil))) (pe_one (pe_cmpR op_eq (pe_ef (pv 5)) (pv 4) (nomark _))))))))))))), ?_⟩
  have ro : ∀ r ∈ rows, RwOk r := fun r hr => by
    obtain ⟨tp, _⟩ := (R.full r hr).1
    exact ⟨by have := tp.size; omega, by have := tp.depth; omega, tp.few⟩
  have wd := Tm.sgs_wide R.ok.sgs
  have udp := Tm.unf_depth (rows := rows) (fun r hr => (ro r hr).2.1) t
  have usg := Tm.unf_sgs (rows := rows) (fun r hr => (R.full r hr).1.1.sgs) t R.ok.sgs
  have tdp := R.ok.depth
  have tsz : t.size ≤ 50000 := Nat.le_trans R.ok.size (by decide)
  refine ⟨_, rfl, _, rfl, l, v, rvs, rows, t, rfl, R.l_, R.pr, ro, R.tm, by omega, wd, R.ok.few, R.ok.once, fun c1 rv H1 s1 hc1 gd => ?_⟩
  have x1 := ExtN.of s1
  have R1 := R.ext x1
  have T1 := TabsN.ext hT s1
  refine ⟨c1, _, rfl, SqT.of hc1, rfl, _, _, rfl, _, _, rfl, rfl, ?_⟩
  dsimp only [gName]
  refine seq_abs (fun σ' H' => σ' = [some (.ref l), some v, some (.bl b), some rv, some (optV (Tm.lk (ownU rows) t)), some .non, none, none] ∧ H1 = H') (fun σ2 H2 p2 => ?_) (fun nx hnx => ?_)
  rotate_left
  · exact hnx _ _ ⟨rfl, rfl⟩
  obtain ⟨rfl, rfl⟩ := p2
  refine seq_abs (fun σ' H' => σ' = [some (.ref l), some v, some (.bl b), some rv, some (optV (Tm.lk (ownU rows) t)), some .non, some .non, none] ∧ H1 = H') (fun σ2 H2 p2 => ?_) (fun nx hnx => ?_)
  rotate_left
  · exact hnx _ _ ⟨rfl, rfl⟩
  obtain ⟨rfl, rfl⟩ := p2
  have un : ∀ (Q' : VK) (E' : XK), (Tm.lk (ownU rows) t = none → ∀ r H', TmAt H' r (unf rows t) → ExtN H1 H' → TabsN T H' → Q' r H') → (∀ z, Tm.lk (ownU rows) t = some z → ∀ d' H', ExtN H1 H' → TabsN T H' → H' d' = some (xdNoBridge z) → E' (.ref D) (some d') H') → spUnf D T [.ref l, v] H1 Q' E' := fun Q' E' hq he =>
    ⟨l, v, rvs, rows, t, rfl, R1.l_, R1.pr, by have := R.few; omega, R.nd, fun r hr => (ro r hr).1, R1.tm, tsz, wd, R.ok.once, T1, hq, he⟩
  -- the try
  refine seq_abs (fun σ' H' => ExtN H1 H' ∧ TabsN T H' ∧ ((Tm.lk (ownU rows) t = none ∧ ∃ r, σ' = [some (.ref l), some v, some (.bl b), some rv, some .non, some .non, some r, none] ∧ TmAt H' r (unf rows t)) ∨
      ∃ z a dd, Tm.lk (ownU rows) t = some z ∧ σ' = [some (.ref l), some v, some (.bl b), some rv, some (.str z), some (.ref a), some .non, none] ∧ H' a = some (ErO (.ref D) (some dd) a) ∧ H' dd = some (xdNoBridge z))) (fun σ2 H2 p2 => ?_) (fun nx hnx => ?_)
  rotate_left
  · have good : Tm.lk (ownU rows) t = none → ∀ r H', TmAt H' r (unf rows t) → ExtN H1 H' → TabsN T H' → nx [some (.ref l), some v, some (.bl b), some rv, some (optV (Tm.lk (ownU rows) t)), some .non, some r, none] H' := fun ok r H' hr' x T' => hnx _ _ ⟨x, T', .inl ⟨ok, r, by rw [ok]; rfl, hr'⟩⟩
    have bad : ∀ z, Tm.lk (ownU rows) t = some z → ∀ d' H', ExtN H1 H' → TabsN T H' → H' d' = some (xdNoBridge z) → ∀ a, H' a = none → nx [some (.ref l), some v, some (.bl b), some rv, some (optV (Tm.lk (ownU rows) t)), some (.ref a), some .non, none] (upd H' a (ErO (.ref D) (some d') a)) := fun z ez d' H' x T' hd a na => by
      have s := same_new na (ErO (.ref D) (some d') a)
      exact hnx _ _ ⟨x.trans (ExtN.of s), TabsN.ext T' s, .inr ⟨z, a, d', ez, by rw [ez]; rfl, upd_same, s _ _ hd⟩⟩
    refine ⟨_, rfl, b, rfl, ?_⟩
    cases b with
    | true => exact ifT rfl ⟨_, rfl, _, rfl, un _ _ (fun ok r H' hr' x T' => good ok r H' hr' x T') fun z ez d' H' x T' hd => ⟨true, te, (fun z => nomatch z), fun _ a na => ⟨_, rfl, bad z ez d' H' x T' hd a na⟩⟩⟩
    | false => exact ifF rfl ⟨_, rfl, _, rfl, un _ _ (fun ok r H' hr' x T' => good ok r H' hr' x T') fun z ez d' H' x T' hd => ⟨true, te, (fun z => nomatch z), fun _ a na => ⟨_, rfl, bad z ez d' H' x T' hd a na⟩⟩⟩
  obtain ⟨x2, T2, p2⟩ := p2
  have x02 := x1.trans x2
  rcases p2 with ⟨ok, r, rfl, hr2⟩ | ⟨z, a, dd, ez, rfl, ha, hd⟩
  · refine ⟨_, rfl, rfl, _, rfl, ifT rfl ?_⟩
    have dd := (gd ok).mono (tups_ext x2)
    exact ⟨_, rfl, rfl, true, rfl, iteT ⟨_, rfl, _, rfl, unf rows t, hr2, dd, usg, by omega, q _ x02 T2⟩⟩
  · refine ⟨_, rfl, rfl, _, rfl, ifF rfl ?_⟩
    refine ⟨_, rfl, (by show 8 ≤ sizeLine; decide), fun tp ntp => ?_⟩
    have s3 := same_new ntp (.tup [V.ref b1, V.ref b2, V.ref b3, V.ref b4, V.ref b5, V.ref b6, V.ref b7, V.ref b8])
    have e3 : (upd H2 tp (.tup [V.ref b1, V.ref b2, V.ref b3, V.ref b4, V.ref b5, V.ref b6, V.ref b7, V.ref b8])) tp = some (.tup [V.ref b1, V.ref b2, V.ref b3, V.ref b4, V.ref b5, V.ref b6, V.ref b7, V.ref b8]) := upd_same
    generalize upd H2 tp (.tup [V.ref b1, V.ref b2, V.ref b3, V.ref b4, V.ref b5, V.ref b6, V.ref b7, V.ref b8]) = H3 at s3 e3 ⊢
    have ha := s3 _ _ ha
    have hd := s3 _ _ hd
    have x3 := x02.trans (ExtN.of s3)
    have T3 := TabsN.ext T2 s3
    refine ⟨a, D, dd, tp, _, _, _, false, rfl, e3, ha, hd, err, .cons (.own _) (.cons (.own _) (.cons (.own _) (.cons (.own _) (.cons (.own _) (.cons (.own _) (.cons (.own _) (.cons (.own _) .nil))))))), any_, _, rfl, ifF (by decide) ?_⟩
    refine ⟨_, rfl, a, D, dd, _, .ref D, _, true, rfl, ha, hd, err, .own D, self, true, rfl, iteT ?_⟩
    refine ⟨_, rfl, a, D, dd, _, .ty "ValueError", _, true, rfl, ha, hd, err, .ty "ValueError", ve, true, rfl, iteT ?_⟩
    refine ⟨_, rfl, a, D, dd, _, .str z, rfl, ha, hd, xf, N.nwhat, rfl, _, rfl, rfl, ?_⟩
    rw [decide_eq_true rfl]
    exact q _ x3 T3
end
end My
namespace My
open PySem PySem.Spec PyProof.Rows L2 NdefX LamX
theorem eqAt_ref {A : Around} {s : Shared} (a : Addr) : SeqAt.EqAt A s (.ref a) (.ref a) true := fun prog w E Q h => by
  unfold eqBool
  refine wpAny_holding ?_
  refine wpAny_ite_split (fun _ => ?_) (fun z => absurd (beq_self_eq_true _) z)
  exact wpAny_bind (wpAny_rule (wpAny_pure (by simpa using h)))
/-- all of them are objects -/
def Refs (xs : List V) : Prop := ∀ x ∈ xs, ∃ a, x = V.ref a
theorem refs_vals : ∀ {xs : List V} {us us2 : List Value}, Refs xs → Vals xs us → Vals xs us2 → us = us2 ∧ ∀ u ∈ us, ∃ a, u = Value.ref a
  | _, _, _, _, .nil, .nil => ⟨rfl, fun _ h => nomatch h⟩
  | x :: xs, u :: us, u2 :: us2, h, .cons r t, .cons r2 t2 => by
    obtain ⟨a, rfl⟩ := h x (.head _)
    cases (show u = Value.ref a from r)
    cases (show u2 = Value.ref a from r2)
    obtain ⟨e, i⟩ := refs_vals (fun y hy => h y (.tail _ hy)) t t2
    subst e
    refine ⟨rfl, fun z hz => ?_⟩
    rcases List.mem_cons.mp hz with rfl | hz
    · exact ⟨a, rfl⟩
    · exact i z hz
def rNeSame (K : PySem.W.Frag) : R2 := fun x y H Q => ∃ (a b : Addr) (xs : List V), x = .ref a ∧ y = .ref b ∧ SqL K H a xs ∧ SqL K H b xs ∧ Refs xs ∧ Q (.bl false) H
section
variable {X : Cx}
theorem op_neSame (hu : X.A.units < cLine) : OpR X (compareOp .NotEq) (rNeSame X.K) := by
  intro pins s σ H x y v u Q I rx ry h
  obtain ⟨a, b, xs, rfl, rfl, ha, hb, hr, q⟩ := h
  cases rx; cases ry
  obtain ⟨its, rv, pl, _⟩ := I.list ha
  obtain ⟨its2, rv2, pl2, _⟩ := I.list hb
  obtain ⟨e, rf⟩ := refs_vals hr rv rv2
  subst e
  have all : (!(List.range its.toArray.size).all fun _ => true) = false := by simp
  refine SeqAt.RcNeAt.lists (e := fun _ => true) pl.isList pl2.isList rfl hu (fun j h1 h2 => ?_) _ _ _ _ ?_
  · obtain ⟨c, ec⟩ := rf (its.toArray[j]) (by simp)
    rw [ec]
    exact eqAt_ref c
  · rw [all]
    exact ⟨.bl false, H, I, rfl, q⟩
theorem neSame (K : PySem.W.Frag) (hK : X.K = K) (hu : X.A.units + 64 < cLine) : OpR X (compareOp .NotEq) (rNeSame K) := by
  subst hK
  exact op_neSame (by omega)
end
theorem Deck.lists {H : Hp} {d g : Addr} {n : Int} (D : Deck H d g n) : (∃ xs, H d = some (.lst xs)) ∧ ∃ xs, H g = some (.lst xs) := by
  obtain ⟨ns, fold, k, D⟩ := D
  exact ⟨⟨_, D.d⟩, ⟨_, D.g⟩⟩
theorem tabs_butD {T : List NTab} {H H' : Hp} {d g : Addr} {n : Int} (D : Deck H d g n) (b : But d g H H') (t : TabsN T H) : TabsN T H' := fun p hp => by
  obtain ⟨ps, h1, h2, h3⟩ := t p hp
  obtain ⟨ns, fold, k, D⟩ := D
  have nd : ∀ {x : Addr} {o : HO}, H x = some o → (∀ xs, o ≠ .lst xs) → x ≠ d := fun e z q => by
    rw [q, D.d] at e
    exact z _ (Option.some.inj e).symm
  have ng : ∀ {x : Addr} {o : HO}, H x = some o → (∀ xs, o ≠ .lst xs) → x ≠ g := fun e z q => by
    rw [q, D.g] at e
    exact z _ (Option.some.inj e).symm
  refine ⟨ps, b _ _ (nd h1 fun xs z => by cases z) (ng h1 fun xs z => by cases z) h1, h2, fun pos cv hc => ?_⟩
  obtain ⟨c, e1, e2⟩ := h3 pos cv hc
  exact ⟨c, e1, b _ _ (nd e2 fun xs => codeO_lst) (ng e2 fun xs => codeO_lst) e2⟩
theorem sqL_ext {K : PySem.W.Frag} {H H' : Hp} {a : Addr} {xs : List V} (x : ExtN H H') (h : SqL K H a xs) : SqL K H' a xs := by
  rcases h with (h | ⟨o, h⟩) | h
  · exact .inl (.inl (x _ _ h fun _ => nofun))
  · exact .inl (.inr ⟨o, x _ _ h fun _ => nofun⟩)
  · exact .inr h
theorem cut_ints16 (ns : List Int) (lo hi : Option Int) : ∃ ms : List Int, cutV (ns.map V.int) lo hi = ms.map V.int ∧ ms.length ≤ ns.length := by
  refine ⟨(ns.drop (HT.sIx (ns.map V.int).length 0 lo)).take (HT.sIx (ns.map V.int).length (ns.map V.int).length hi - HT.sIx (ns.map V.int).length 0 lo), ?_, ?_⟩
  · unfold cutV
    rw [List.map_take, List.map_drop]
  · rw [List.length_take, List.length_drop]
    omega
end My
namespace My
open PySem PySem.Spec PyProof.Rows L2 NdefX LamX
/-! a law's def that asks that no writing is under way, called by one that knows it -/
structure CalG (P : Program) (w : World) (K : PySem.W.Frag) (mg : Str → Option Value) (base : Heap) (x : Str) (n : Nat) (ps : List Str) (sp : Sp) : Prop where
  ex : ∃ (f : Addr) (fd : FuncData), FnOkG P w K mg base CX0 n f fd ps sp ∧
    mg x = some (.ref f) ∧ PySem.W.keepIn K (.ref f) = true ∧ Binds K fd ps []
section
variable {X : Cx} {x : Str} {n : Nat} {ps : List Str} {sp : Sp} {es : List Expr} {e : Expr} {t : TA} {p pos : Pos}
theorem run_G {f : Addr} {fd : FuncData} {pins : List (Addr × Obj)} {st : L2.St} {Hh : Hp} {sh : Shared} {R : VK} {args : List Value} {xs : List V} (F : FnOkG X.prog X.w X.K X.mg X.base CX0 n f fd ps sp) (hG : X.A.guards = some []) (hr : Room n X.A) (hb : Binds X.K fd ps [])
    (J : Inv X pins st Hh sh) (rv : Vals xs args) (z : sp xs Hh R E0) : wpAny (model X.prog X.w) X.A (call (.ref f) args) (EP X pins st R) X.xe sh := by
  have lp : (args ++ []).length = ps.length := by
    rw [List.append_nil, ← rv.length]
    exact F.len _ _ _ _ z
  have bt := hb sh args J.kIn lp
  rw [List.append_nil] at bt
  refine wpAny_call (codeAny_mono (F.run X.A X.stack sh Hh ⟨args, []⟩ args xs R E0 hG hr J.env0 bt rv z) fun out sh2 y => ?_)
  match out, y with
  | .error b, y => exact pass0 pins st Hh sh b sh2 J y
  | .ok (.ret u), y => exact J.after y
  | .ok .next, y => exact y.elim
  | .ok .brk, y => exact y.elim
  | .ok .cont, y => exact y.elim
theorem pcG (C : CalG X.prog X.w X.K X.mg X.base x n ps sp) (hG : X.A.guards = some []) (hr : Room n X.A) (ha : PA X (e :: es) t) (hg : Gl X x := by rfl)
    (hdb : (x == ("__debug__" : Str)) = false := by decide)
    (hse : starEach (e :: es) X.env = (false, eval e X.env) :: starEach es X.env := by rfl)
    (hpl : (backTo pos (starEach es X.env)).any (·.1) = false := by rfl) :
    PE X (.Call (.Name x p) (e :: es) [] pos) (tCall sp [] E0 t) := by
  obtain ⟨f, fd, F, hm, hk, hb⟩ := C.ex
  refine ⟨fun pins sh st Hh R J z => ?_⟩
  refine wpAny_Call_Name_kw (ld_glob J hg hm ?_ hdb)
  refine PySem.W.callWith_K (h₀ := X.base) J.ok.mod.kin hk (thn (ha.run pos pins sh st Hh _ J z) fun args sh1 ⟨xs, Hh1, J1, rv, y⟩ => ⟨J1.kIn, ?_⟩) hse hpl
  exact run_G F hG hr hb J1 rv (by simpa using y)
end
end My
namespace My
open PySem L2 NdefX LamX
/-! law -/
/-- the tables of the defs in which defs stand -/
def tabs3 (P1 P2 P3 : Addr) : List NTab := [(P1, fun _ _ => q_rstep), (P2, fun _ _ => q_fchg), (P3, fun _ _ => q_uchg)]
def spLawT (K : PySem.W.Frag) (T : List NTab) : Sp := fun vs H Q _ => ∃ (a : Addr) (ns : List Int), vs = [.ref a] ∧ SqL K H a (ns.map V.int) ∧ ns.length ≤ 63 ∧ TabsN T H ∧ ∀ H', Q (.bl true) H'
def spLaw (K : PySem.W.Frag) (P1 P2 P3 : Addr) : Sp := spLawT K (tabs3 P1 P2 P3)
theorem law_sp {K : PySem.W.Frag} {P1 P2 P3 a : Addr} {H : Hp} {ns : List Int} (h1 : H P1 = some (.tbl #[])) (h2 : H P2 = some (.tbl #[])) (h3 : H P3 = some (.tbl #[])) (hS : SqL K H a (ns.map V.int)) (hl : ns.length ≤ 63) : spLaw K P1 P2 P3 [.ref a] H (fun v _ => v = .bl true) fun _ _ _ => False :=
  ⟨a, ns, rfl, hS, hl, fun p hp => by
    unfold tabs3 at hp
    simp only [List.mem_cons, List.not_mem_nil, or_false] at hp
    rcases hp with rfl | rfl | rfl
    · exact .nil h1
    · exact .nil h2
    · exact .nil h3, fun _ => rfl⟩
theorem extN_but {H0 H H' : Hp} {d g : Addr} (x : ExtN H0 H) (b : But d g H H') (nd : Nw H0 d) (ng : Nw H0 g) : ExtN H0 H' := fun p o h no => b p o (fun z => by rw [z] at h; obtain ⟨ps, e⟩ := nd o h; exact no ps e) (fun z => by rw [z] at h; obtain ⟨ps, e⟩ := ng o h; exact no ps e) (x p o h no)
theorem refs_rows {H : Hp} {rvs : List V} {rows : List Rw} (h : Paired (RowAt H) rvs rows) : Refs rvs := by
  intro v hv
  obtain ⟨i, hi⟩ := List.mem_iff_getElem?.mp hv
  obtain ⟨r, _, a, _, _, _, _, e, _⟩ := Paired.at h i v hi
  exact ⟨a, e⟩
def Plw (T : List NTab) (a : Addr) (H0 : Hp) (i : Nat) (σ : L2.St) (H : Hp) : Prop := ∃ (u1 u2 u3 u4 u5 : Option V), σ = [some (.ref a), u1, u2, u3, u4, u5, none] ∧ ExtN H0 H ∧ TabsN T H
abbrev pqrs : List Str := ["p", "q", "r", "s"]
structure Prs (d g DR : Addr) (H0 : Hp) (n : Int) (i : Nat) (H : Hp) : Prop where
  b : But d g H0 H
  D : Deck H d g (n + 10 * (i : Int))
  rs : ∃ rvs rows, H DR = some (.lst rvs) ∧ Paired (RowAt H) rvs rows ∧ rows.map (·.1) = pqrs.take i ∧ ∀ r ∈ rows, RwFull r
section
variable {P : Program} {w : World} {K : PySem.W.Frag} {mg : Str → Option Value} {base : Heap} {f : Addr} {fd : FuncData} {T : List NTab}
set_option maxHeartbeats 4000000 in
theorem ok_law (B : Bn mg) (F : Fun K "law" "law" s_law f fd) (c__law_deck : Cal P w K mg base "_law_deck" 1 ["script"] (spDeck K)) (c__law_take : Cal P w K mg base "_law_take" 1 ["deck", "many"] spTake)
    (c__law_row : Cal P w K mg base "_law_row" 2 ["deck", "name"] spRow) (c__law_drawn : Cal P w K mg base "_law_drawn" 7 ["deck", "rows", "deep"] (fun vs H Q E => ∃ e, e ≤ 5 ∧ spDr e vs H Q E)) (c__law_right : Cal P w K mg base "_law_right" 50 ["rows", "prog", "named"] (spRt T)) : FnOkG P w K mg base CX0 52 f fd ["script"] (spLawT K T) := by
  refine fun_okG F sc_law (fun vs H Q E h => ?_) (fun cdv A outer s H vs Q E hG hr h => ?_)
  · obtain ⟨a, ns, rfl, _⟩ := h
    rfl
  obtain ⟨a, ns, rfl, hS, h63, hT, q⟩ := h
  refine ⟨_, (pss_cons (ps_for PassesOwn.never rfl (pi_range1 rfl B.b_range (pa_cons (pe_callB (call_max2 rfl) (by rfl) B.b_max (by decide +kernel) (pa_cons pe_int (pa_cons (pe_callB (call_min2 rfl) (by rfl) B.b_min (by decide +kernel) (pa_cons pe_int (pa_cons (pe_callB (lenSeq K rfl) (by rfl) B.b_len PySem.boot_len (pa_cons (pv 0) pa_nil)) pa_nil))) pa_nil))) pa_nil)) (pg_name (i := 1) sc_law.nd rfl (Or.inl rfl)) (pss_cons (ps_set (i := 2) sc_law.nd rfl (Or.inr rfl) (pc c__law_deck (hr.mono (by first | decide | omega)) (pa_cons (pe_slice (slL K rfl) (pv 0) (po_some (pv 1)) po_none) pa_nil)))
    (pss_cons (ps_setLc (i := 3) (own := [("j", 6)]) (g := (gName 6)) rfl sc_law.nd rfl rfl (sw_true rfl rfl rfl (by decide +kernel)) (pi_range1 rfl B.b_range (pa_cons (pe_op op_add pe_int (pc c__law_take (hr.mono (by first | decide | omega)) (pa_cons (pv 2) (pa_cons pe_int pa_nil)))) pa_nil)) (blkOk_by (N := ["script", "k", "deck", "rows", "prog", "before", "j"]) (sc := defScope s_law) (by decide +kernel)) (fun _ _ _ _ _ => (pg_name (i := 6) sc_law.nd rfl (Or.inl rfl) (hf := Or.inr rfl))) (fun _ _ _ _ _ => pts_nil) (fun _ _ _ _ _ => (pc c__law_row (hr.mono (by first | decide | omega)) (pa_cons (pv 2) (pa_cons (pe_ix ix_str pe_str (pv 6) (fun _ _ => rfl)) pa_nil)))))
    (pss_cons (ps_set (i := 4) sc_law.nd rfl (Or.inl rfl) (pc c__law_drawn (hr.mono (by first | decide | omega)) (pa_cons (pv 2) (pa_cons (pv 3) (pa_cons (pc c__law_take (hr.mono (by first | decide | omega)) (pa_cons (pv 2) (pa_cons pe_int pa_nil))) pa_nil)))))
    (pss_cons (ps_set (i := 5) sc_law.nd rfl (Or.inl rfl) (pe_lst (pa_cons (pe_callTy (listOf K rfl) (by rfl) B.b_list (by decide +kernel) (pa_cons (pv 3) pa_nil)) (pa_cons (pe_callTy (call_strT hG hr) (by rfl) B.b_str (by decide +kernel) (pa_cons (pv 4) pa_nil)) pa_nil))))
    (pss_cons (ps_if (PW.pt (pw_or (pt_not (pt_val (pc c__law_right (hr.mono (by first | decide | omega)) (pa_cons (pv 3) (pa_cons (pv 4) (pa_cons pe_bl pa_nil)))))) (pw_or1 (pt_not (pt_val (pc c__law_right (hr.mono (by first | decide | omega)) (pa_cons (pv 3) (pa_cons (pv 4) (pa_cons pe_bl pa_nil))))))))) (pss_one (ps_ret pe_bl)) pss_nil)
    (pss_one (ps_if (PW.pt (pw_or (pt_cmpR (neSame K rfl hr.units) (pv 3) (pe_ix (ixL K rfl) (pv 5) pe_int (fun _ _ => rfl)) (nomark _)) (pw_or1 (pt_cmpR op_ne (pe_callTy (call_strT hG hr) (by rfl) B.b_str (by decide +kernel) (pa_cons (pv 4) pa_nil)) (pe_ix (ixL K rfl) (pv 5) pe_int (fun _ _ => rfl)) (nomark _))))) (pss_one (ps_ret pe_bl)) pss_nil))))))))
    (pss_one (ps_ret pe_bl))), ?_⟩
  refine ⟨_, rfl, a, _, rfl, .inl hS, _, _, rfl, _, _, rfl, _, rfl, ?_, ?_, for_range (lo := 0) (Plw T a H) ?_ ?_ ?_⟩
  · rw [List.length_map]
    split <;> split <;> omega
  · rw [List.length_map]
    split <;> split <;> omega
  · exact ⟨_, _, _, _, _, rfl, ExtN.refl _, hT⟩
  · rintro i σ H2 hi ⟨u1, u2, u3, u4, u5, rfl, x2, T2⟩
    dsimp only [gName]
    have hS2 := sqL_ext x2 hS
    refine ⟨_, rfl, _, rfl, _, rfl, _, _, rfl, hS2, fun p np => ?_⟩
    obtain ⟨ms, ecut, lms⟩ := cut_ints16 ns (some (0 + (i : Int))) none
    rw [ecut]
    have s3 := same_new np (.lst (ms.map V.int))
    have hp3 : (upd H2 p (.lst (ms.map V.int))) p = some (.lst (ms.map V.int)) := upd_same
    generalize upd H2 p (.lst (ms.map V.int)) = H3 at s3 hp3 ⊢
    refine ⟨p, ms, rfl, SqL.of hp3, by omega, fun d g H4 nd ng D4 s4 => ?_⟩
    have x4 := (x2.trans (ExtN.of s3)).trans (ExtN.of s4)
    have x3 := x2.trans (ExtN.of s3)
    have nd0 := nwF x3 nd
    have ng0 := nwF x3 ng
    have T4 := TabsN.ext T2 (s3.trans s4)
    dsimp only [gName]
    refine ⟨_, rfl, d, g, 4, _, rfl, D4, by omega, by omega, by omega, fun m H5 m0 m1 D5 b5 => ⟨_, _, rfl, rfl, _, rfl, by omega, by omega, fun DR nDR => ?_⟩⟩
    have x5 := extN_but x4 b5 nd0 ng0
    have T5 := tabs_butD D4 b5 T4
    have nDd := D5.ne nDR
    refine lc_range (lo := 0) (n := (1 + m).toNat) (Prs d g DR H5 1) ?_ ?_ ?_
    · exact ⟨But.of_same (same_new nDR _), by rw [show (1 : Int) + 10 * ((0 : Nat) : Int) = 0 + 1 by omega]; exact D5.new nDR, [], [], upd_same, .nil, rfl, fun r hr => nomatch hr⟩
    · rintro j H6 hj PP
      obtain ⟨rvs, rows, hDR, pr, nms, full⟩ := PP.rs
      have hj4 : j < 4 := by omega
      obtain ⟨x, hx, c, hc, ec⟩ : ∃ x, pqrs[j]? = some x ∧ ∃ c, atI ("pqrs" : Str).cps.toList ((0 : Int) + (j : Int)) = some c ∧ (⟨#[c]⟩ : Str) = x := by
        have : j = 0 ∨ j = 1 ∨ j = 2 ∨ j = 3 := by omega
        rcases this with rfl | rfl | rfl | rfl
        · exact ⟨"p", rfl, 112, by decide +kernel, by decide +kernel⟩
        · exact ⟨"q", rfl, 113, by decide +kernel, by decide +kernel⟩
        · exact ⟨"r", rfl, 114, by decide +kernel, by decide +kernel⟩
        · exact ⟨"s", rfl, 115, by decide +kernel, by decide +kernel⟩
      refine ⟨rfl, _, rfl, _, rfl, _, _, c, rfl, rfl, (by rw [sizeLine_eq]; decide), hc, d, g, _, _, rfl, PP.D, by omega, fun v r H7 hrow hnm hfull D7 b7 => ?_⟩
      have T7 := PP.D.tups b7
      have hDR7 := b7 _ _ nDd.1 nDd.2 hDR
      have T8 : Tups H7 (upd H7 DR (.lst (rvs ++ [v]))) := Tups.upd hDR7
      have lr := Paired.length pr
      have lrows : rows.length = j := by
        have := congrArg List.length nms
        rw [List.length_map, List.length_take] at this
        have e4 : pqrs.length = 4 := rfl
        omega
      refine ⟨rvs, hDR7, line5 (by omega), But.atNew (PP.b.trans b7) nDR, by rw [show (1 : Int) + 10 * ((j + 1 : Nat) : Int) = 1 + 10 * (j : Int) + 10 by omega]; exact D7.at nDd.1 nDd.2, rvs ++ [v], rows ++ [r], upd_same, ?_, ?_, fun r' hr' => ?_⟩
      · exact pair_app (Paired.mono (fun _ _ z => RowAt.mono (T7.trans T8) z) pr) (.cons (hrow.mono T8) .nil)
      · rw [List.map_append, nms, ← take_next hx, List.map_cons, hnm, ec]
        rfl
      · rcases List.mem_append.mp hr' with h | h
        · exact full r' h
        · rw [List.mem_singleton.mp h]
          exact hfull
    rintro H6 PP
    obtain ⟨rvs, rows, hDR, pr, nms, full⟩ := PP.rs
    have x6 := extN_but x5 PP.b nd0 ng0
    have T6 := tabs_butD D5 PP.b T5
    have D6 := PP.D
    have lr := Paired.length pr
    have lrows : rows.length = (1 + m).toNat := by
      have := congrArg List.length nms
      rw [List.length_map, List.length_take] at this
      have e4 : pqrs.length = 4 := rfl
      omega
    have pq : ∀ x ∈ pqrs, LtS x := by
      intro x hx
      simp only [pqrs, List.mem_cons, List.not_mem_nil, or_false] at hx
      rcases hx with rfl | rfl | rfl | rfl <;> exact ltS_of (by decide +kernel)
    have rf : ∀ r ∈ rows, RwFull r ∧ LtS r.1 := fun r hr => ⟨full r hr, pq _ (List.mem_of_mem_take (by rw [← nms]; exact List.mem_map.mpr ⟨r, hr, rfl⟩))⟩
    have once : (rows.map (·.1)).Nodup := by
      rw [nms]
      exact (show pqrs.Nodup by decide +kernel).sublist (List.take_sublist _ _)
    have nr : rows ≠ [] := fun z => by rw [z] at lrows; simp only [List.length_nil] at lrows; omega
    dsimp only [gName]
    refine ⟨_, rfl, _, rfl, _, rfl, d, g, 6, _, rfl, D6, by omega, by omega, by omega, fun r H7 r0 r1 D7 b7 => ?_⟩
    have x7 := extN_but x6 b7 nd0 ng0
    have T7 := tabs_butD D6 b7 T6
    have hDR7 := b7 _ _ nDd.1 nDd.2 hDR
    have pr7 := Paired.mono (fun _ _ z => RowAt.mono (D6.tups b7) z) pr
    have bf := bud_five (e := r.toNat) (by omega)
    refine ⟨r.toNat, by omega, d, g, DR, _, rvs, rows, by rw [show ((r.toNat : Nat) : Int) = r by omega]; rfl, D7, by omega, by omega, ⟨hDR7, nDd.1, nDd.2, pr7⟩, nr, by omega, rf, fun tv t H8 htv dok D8 b8 => ?_⟩
    have x8 := extN_but x7 b8 nd0 ng0
    have T8 := tabs_butD D7 b8 T7
    have R8 : RowsT H8 DR rvs rows tv t := ⟨b8 _ _ nDd.1 nDd.2 hDR7, Paired.mono (fun _ _ z => RowAt.mono (D7.tups b8) z) pr7, by omega, once, rf, htv, dok.five (by omega)⟩
    clear D4 D5 D6 D7 D8 b5 b7 b8 PP pr pr7 hDR hDR7 T4 T5 T6 T7 x4 x5 x6 x7
    dsimp only [gName]
    obtain ⟨ta, tys, rfl, _⟩ := R8.tm.ref
    refine ⟨_, rfl, DR, rvs, rfl, .inl (SqL.of R8.l_), fun l2 nl2 => ?_⟩
    have s9 := same_new nl2 (.lst rvs)
    have hl9 : (upd H8 l2 (.lst rvs)) l2 = some (.lst rvs) := upd_same
    generalize upd H8 l2 (.lst rvs) = H9 at s9 hl9 ⊢
    have R9 := R8.ext (ExtN.of s9)
    obtain ⟨w1, w2, w3⟩ := Tm.sgs_str R9.ok.sgs (by have := R9.ok.depth; omega) (Nat.le_trans R9.ok.tn (by decide +kernel))
    refine ⟨_, rfl, ta, _, rfl, R9.tm.dat, w1, w2, w3, (by show 2 ≤ sizeLine; decide), fun bl nbl => ?_⟩
    have s10 := same_new nbl (.lst [V.ref l2, V.str t.dat.shown])
    have hb10 : (upd H9 bl (.lst [V.ref l2, V.str t.dat.shown])) bl = some (.lst [V.ref l2, V.str t.dat.shown]) := upd_same
    generalize upd H9 bl (.lst [V.ref l2, V.str t.dat.shown]) = H10 at s10 hb10 ⊢
    have R10 := R9.ext (ExtN.of s10)
    have hl10 := s10 _ _ hl9
    have x10 := (x8.trans (ExtN.of s9)).trans (ExtN.of s10)
    have T10 := TabsN.ext T8 (s9.trans s10)
    dsimp only [gName]
    refine ⟨_, rfl, _, rfl, DR, .ref ta, false, rvs, rows, t, rfl, R10, T10, fun H11 y11 T11 => ?_⟩
    have R11 := R10.ext y11
    have hl11 := y11 _ _ hl10 (fun _ => nofun)
    have hb11 := y11 _ _ hb10 (fun _ => nofun)
    have x11 := x10.trans y11
    refine ⟨true, rfl, iteF ⟨_, rfl, _, rfl, DR, .ref ta, true, rvs, rows, t, rfl, R11, T11, fun H12 y12 T12 => ⟨true, rfl, ifF rfl ?_⟩⟩⟩
    have R12 := R11.ext y12
    have hl12 := y12 _ _ hl11 (fun _ => nofun)
    have hb12 := y12 _ _ hb11 (fun _ => nofun)
    have x12 := x11.trans y12
    dsimp only [tNext]
    refine ⟨_, rfl, _, rfl, _, _, _, _, rfl, rfl, SqL.of hb12, at_of (j := 0) rfl rfl, DR, l2, rvs, rfl, rfl, SqL.of R12.l_, SqL.of hl12, refs_rows R12.pr, _, rfl, iteF ?_⟩
    refine ⟨_, rfl, ta, _, rfl, R12.tm.dat, w1, w2, w3, _, rfl, _, _, _, _, rfl, rfl, SqL.of hb12, at_of (j := 1) rfl rfl, rfl, _, rfl, ?_⟩
    rw [decide_eq_true rfl]
    exact ifF rfl ⟨_, _, _, _, _, rfl, x12, T12⟩
  · rintro σ H2 ⟨u1, u2, u3, u4, u5, rfl, x2, T2⟩
    exact q H2
end
end My
namespace My
open PySem L2
theorem kb_unf {K : PySem.W.Frag} {f c : Addr} {fd : FuncData} (F : FunC K "unfolded" "unfolded" s_unfolded f fd c) : KBinds K fd ["bridge", "term"] ["term", "bridge"] (fun us ws => us ++ ws.reverse) gvR := by
  obtain ⟨oc, od, kV, doc, pm, an, ct, osl, rfl, lk, hcd⟩ := F.ex
  refine ⟨fun s us ws _ hl => ?_, fun r1 r2 => r1.append r2.reverse⟩
  have hl2 : us.length + ws.length = 2 := by simpa using hl
  rcases us with _ | ⟨u, _ | ⟨v, _ | ⟨x, r⟩⟩⟩ <;> rcases ws with _ | ⟨u2, _ | ⟨v2, _ | ⟨x2, r2⟩⟩⟩ <;> first | (exfalso; simp only [List.length_cons, List.length_nil] at hl2; omega) | exact .of_eq rfl
theorem tabs3_m1 {P1 P2 P3 : Addr} {T : List NdefX.NTab} (e : T = tabs3 P1 P2 P3) : (P1, fun _ _ => q_rstep) ∈ T := by
  rw [e]
  unfold tabs3
  simp
theorem tabs3_u1 {P1 P2 P3 : Addr} (h2 : P1 ≠ P2) (h3 : P1 ≠ P3) : ∀ p ∈ tabs3 P1 P2 P3, p.1 = P1 → p.2 = fun _ _ => q_rstep := by
  intro p hp e
  unfold tabs3 at hp
  simp only [List.mem_cons, List.not_mem_nil, or_false] at hp
  rcases hp with rfl | rfl | rfl
  · rfl
  · exact absurd e (Ne.symm h2)
  · exact absurd e (Ne.symm h3)
theorem tabs3_m2 {P1 P2 P3 : Addr} {T : List NdefX.NTab} (e : T = tabs3 P1 P2 P3) : (P2, fun _ _ => q_fchg) ∈ T := by
  rw [e]
  unfold tabs3
  simp
theorem tabs3_u2 {P1 P2 P3 : Addr} (h1 : P1 ≠ P2) (h3 : P2 ≠ P3) : ∀ p ∈ tabs3 P1 P2 P3, p.1 = P2 → p.2 = fun _ _ => q_fchg := by
  intro p hp e
  unfold tabs3 at hp
  simp only [List.mem_cons, List.not_mem_nil, or_false] at hp
  rcases hp with rfl | rfl | rfl
  · exact absurd e h1
  · rfl
  · exact absurd e (Ne.symm h3)
theorem tabs3_m3 {P1 P2 P3 : Addr} {T : List NdefX.NTab} (e : T = tabs3 P1 P2 P3) : (P3, fun _ _ => q_uchg) ∈ T := by
  rw [e]
  unfold tabs3
  simp
theorem tabs3_u3 {P1 P2 P3 : Addr} (h1 : P1 ≠ P3) (h2 : P2 ≠ P3) : ∀ p ∈ tabs3 P1 P2 P3, p.1 = P3 → p.2 = fun _ _ => q_uchg := by
  intro p hp e
  unfold tabs3 at hp
  simp only [List.mem_cons, List.not_mem_nil, or_false] at hp
  rcases hp with rfl | rfl | rfl
  · exact absurd e h1
  · exact absurd e h2
  · rfl
set_option maxHeartbeats 0 in
theorem all_mk {l : PySem.W.OpenLaw} {w : World} {K : PySem.W.Frag} {h : Heap} {mg : Str → Option Value} {fa : Addr} (X : K.In h) (G : h.Ns mainGlobals mg) (hfa : mg "law" = some (.ref fa))
    {f0 : Addr} {od0 an0 : Option Addr} {sl0 : Array (Option Value)} {oc0 kV0 dc0 pm0 cd0 ct0 : Value}
    (a0 : PySem.W.nsIn K mainGlobals "parts_of" = some (some (.ref f0)))
    (l0 : K.lookup f0 = some ⟨oc0, od0, .func (PySem.W.fnOf "parts_of" "parts_of" (defArgs s_parts_of) (defBody s_parts_of) (defScope s_parts_of) .none kV0 dc0 pm0 an0 cd0 ct0), sl0⟩)
    (c0 : PySem.W.codeIn K cd0 "parts_of" = true)
    (k0 : PySem.W.keepIn K (.ref f0) = true)
    {f1 : Addr} {od1 an1 : Option Addr} {sl1 : Array (Option Value)} {oc1 kV1 dc1 pm1 cd1 ct1 : Value}
    (a1 : PySem.W.nsIn K mainGlobals "with_parts" = some (some (.ref f1)))
    (l1 : K.lookup f1 = some ⟨oc1, od1, .func (PySem.W.fnOf "with_parts" "with_parts" (defArgs s_with_parts) (defBody s_with_parts) (defScope s_with_parts) .none kV1 dc1 pm1 an1 cd1 ct1), sl1⟩)
    (c1 : PySem.W.codeIn K cd1 "with_parts" = true)
    (k1 : PySem.W.keepIn K (.ref f1) = true)
    {f2 : Addr} {od2 an2 : Option Addr} {sl2 : Array (Option Value)} {oc2 kV2 dc2 pm2 cd2 ct2 : Value}
    (a2 : PySem.W.nsIn K mainGlobals "walked" = some (some (.ref f2)))
    (l2 : K.lookup f2 = some ⟨oc2, od2, .func (PySem.W.fnOf "walked" "walked" (defArgs s_walked) (defBody s_walked) (defScope s_walked) .none kV2 dc2 pm2 an2 cd2 ct2), sl2⟩)
    (c2 : PySem.W.codeIn K cd2 "walked" = true)
    (k2 : PySem.W.keepIn K (.ref f2) = true)
    {f3 : Addr} {od3 an3 : Option Addr} {sl3 : Array (Option Value)} {oc3 kV3 dc3 pm3 ct3 : Value} {cT3 pT3 : Addr} {vT3 : Array Value} {xT3 : Value} {yT3 : Option Addr} {zT3 : Array (Option Value)}
    (a3 : PySem.W.nsIn K mainGlobals "rebuilt" = some (some (.ref f3)))
    (l3 : K.lookup f3 = some ⟨oc3, od3, .func (PySem.W.fnOf "rebuilt" "rebuilt" (defArgs s_rebuilt) (defBody s_rebuilt) (defScope s_rebuilt) .none kV3 dc3 pm3 an3 (.ref cT3) ct3), sl3⟩)
    (c3 : PySem.W.codeIn K (.ref cT3) "rebuilt" = true)
    (k3 : PySem.W.keepIn K (.ref f3) = true)
    (lcT3 : K.lookup cT3 = some (⟨xT3, yT3, .fields vT3, zT3⟩ : Obj))
    (vP3 : vT3[11]? = some (.ref pT3))
    (hdT3 : PySem.W.codeHdIn K cT3 pT3 = true)
    (ouT3 : K.lookup pT3 = none)
    (emT3 : h.get? pT3 = some { cls := .none, data := .fields #[] })
    {f4 : Addr} {od4 an4 : Option Addr} {sl4 : Array (Option Value)} {oc4 kV4 dc4 pm4 ct4 : Value} {cT4 pT4 : Addr} {vT4 : Array Value} {xT4 : Value} {yT4 : Option Addr} {zT4 : Array (Option Value)}
    (a4 : PySem.W.nsIn K mainGlobals "filled" = some (some (.ref f4)))
    (l4 : K.lookup f4 = some ⟨oc4, od4, .func (PySem.W.fnOf "filled" "filled" (defArgs s_filled) (defBody s_filled) (defScope s_filled) .none kV4 dc4 pm4 an4 (.ref cT4) ct4), sl4⟩)
    (c4 : PySem.W.codeIn K (.ref cT4) "filled" = true)
    (k4 : PySem.W.keepIn K (.ref f4) = true)
    (lcT4 : K.lookup cT4 = some (⟨xT4, yT4, .fields vT4, zT4⟩ : Obj))
    (vP4 : vT4[11]? = some (.ref pT4))
    (hdT4 : PySem.W.codeHdIn K cT4 pT4 = true)
    (ouT4 : K.lookup pT4 = none)
    (emT4 : h.get? pT4 = some { cls := .none, data := .fields #[] })
    {f5 : Addr} {od5 an5 : Option Addr} {sl5 : Array (Option Value)} {oc5 kV5 dc5 pm5 ct5 : Value} {cT5 pT5 : Addr} {vT5 : Array Value} {xT5 : Value} {yT5 : Option Addr} {zT5 : Array (Option Value)}
    (a5 : PySem.W.nsIn K mainGlobals "unfolded" = some (some (.ref f5)))
    (l5 : K.lookup f5 = some ⟨oc5, od5, .func (PySem.W.fnOf "unfolded" "unfolded" (defArgs s_unfolded) (defBody s_unfolded) (defScope s_unfolded) .none kV5 dc5 pm5 an5 (.ref cT5) ct5), sl5⟩)
    (c5 : PySem.W.codeIn K (.ref cT5) "unfolded" = true)
    (k5 : PySem.W.keepIn K (.ref f5) = true)
    (lcT5 : K.lookup cT5 = some (⟨xT5, yT5, .fields vT5, zT5⟩ : Obj))
    (vP5 : vT5[11]? = some (.ref pT5))
    (hdT5 : PySem.W.codeHdIn K cT5 pT5 = true)
    (ouT5 : K.lookup pT5 = none)
    (emT5 : h.get? pT5 = some { cls := .none, data := .fields #[] })
    {f6 : Addr} {od6 an6 : Option Addr} {sl6 : Array (Option Value)} {oc6 kV6 dc6 pm6 cd6 ct6 : Value}
    (a6 : PySem.W.nsIn K mainGlobals "_law_deck" = some (some (.ref f6)))
    (l6 : K.lookup f6 = some ⟨oc6, od6, .func (PySem.W.fnOf "_law_deck" "_law_deck" (defArgs s__law_deck) (defBody s__law_deck) (defScope s__law_deck) .none kV6 dc6 pm6 an6 cd6 ct6), sl6⟩)
    (c6 : PySem.W.codeIn K cd6 "_law_deck" = true)
    (k6 : PySem.W.keepIn K (.ref f6) = true)
    {f7 : Addr} {od7 an7 : Option Addr} {sl7 : Array (Option Value)} {oc7 kV7 dc7 pm7 cd7 ct7 : Value}
    (a7 : PySem.W.nsIn K mainGlobals "_law_take" = some (some (.ref f7)))
    (l7 : K.lookup f7 = some ⟨oc7, od7, .func (PySem.W.fnOf "_law_take" "_law_take" (defArgs s__law_take) (defBody s__law_take) (defScope s__law_take) .none kV7 dc7 pm7 an7 cd7 ct7), sl7⟩)
    (c7 : PySem.W.codeIn K cd7 "_law_take" = true)
    (k7 : PySem.W.keepIn K (.ref f7) = true)
    {f8 : Addr} {od8 an8 : Option Addr} {sl8 : Array (Option Value)} {oc8 kV8 dc8 pm8 cd8 ct8 : Value}
    (a8 : PySem.W.nsIn K mainGlobals "_law_row" = some (some (.ref f8)))
    (l8 : K.lookup f8 = some ⟨oc8, od8, .func (PySem.W.fnOf "_law_row" "_law_row" (defArgs s__law_row) (defBody s__law_row) (defScope s__law_row) .none kV8 dc8 pm8 an8 cd8 ct8), sl8⟩)
    (c8 : PySem.W.codeIn K cd8 "_law_row" = true)
    (k8 : PySem.W.keepIn K (.ref f8) = true)
    {f9 : Addr} {od9 an9 : Option Addr} {sl9 : Array (Option Value)} {oc9 kV9 dc9 pm9 cd9 ct9 : Value}
    (a9 : PySem.W.nsIn K mainGlobals "_law_drawn" = some (some (.ref f9)))
    (l9 : K.lookup f9 = some ⟨oc9, od9, .func (PySem.W.fnOf "_law_drawn" "_law_drawn" (defArgs s__law_drawn) (defBody s__law_drawn) (defScope s__law_drawn) .none kV9 dc9 pm9 an9 cd9 ct9), sl9⟩)
    (c9 : PySem.W.codeIn K cd9 "_law_drawn" = true)
    (k9 : PySem.W.keepIn K (.ref f9) = true)
    {f10 : Addr} {od10 an10 : Option Addr} {sl10 : Array (Option Value)} {oc10 kV10 dc10 pm10 cd10 ct10 : Value}
    (a10 : PySem.W.nsIn K mainGlobals "_law_parts_and" = some (some (.ref f10)))
    (l10 : K.lookup f10 = some ⟨oc10, od10, .func (PySem.W.fnOf "_law_parts_and" "_law_parts_and" (defArgs s__law_parts_and) (defBody s__law_parts_and) (defScope s__law_parts_and) .none kV10 dc10 pm10 an10 cd10 ct10), sl10⟩)
    (c10 : PySem.W.codeIn K cd10 "_law_parts_and" = true)
    (k10 : PySem.W.keepIn K (.ref f10) = true)
    {f11 : Addr} {od11 an11 : Option Addr} {sl11 : Array (Option Value)} {oc11 kV11 dc11 pm11 cd11 ct11 : Value}
    (a11 : PySem.W.nsIn K mainGlobals "_law_listed" = some (some (.ref f11)))
    (l11 : K.lookup f11 = some ⟨oc11, od11, .func (PySem.W.fnOf "_law_listed" "_law_listed" (defArgs s__law_listed) (defBody s__law_listed) (defScope s__law_listed) .none kV11 dc11 pm11 an11 cd11 ct11), sl11⟩)
    (c11 : PySem.W.codeIn K cd11 "_law_listed" = true)
    (k11 : PySem.W.keepIn K (.ref f11) = true)
    {f12 : Addr} {od12 an12 : Option Addr} {sl12 : Array (Option Value)} {oc12 kV12 dc12 pm12 cd12 ct12 : Value}
    (a12 : PySem.W.nsIn K mainGlobals "_law_filled" = some (some (.ref f12)))
    (l12 : K.lookup f12 = some ⟨oc12, od12, .func (PySem.W.fnOf "_law_filled" "_law_filled" (defArgs s__law_filled) (defBody s__law_filled) (defScope s__law_filled) .none kV12 dc12 pm12 an12 cd12 ct12), sl12⟩)
    (c12 : PySem.W.codeIn K cd12 "_law_filled" = true)
    (k12 : PySem.W.keepIn K (.ref f12) = true)
    {f13 : Addr} {od13 an13 : Option Addr} {sl13 : Array (Option Value)} {oc13 kV13 dc13 pm13 cd13 ct13 : Value}
    (a13 : PySem.W.nsIn K mainGlobals "_law_unfolded" = some (some (.ref f13)))
    (l13 : K.lookup f13 = some ⟨oc13, od13, .func (PySem.W.fnOf "_law_unfolded" "_law_unfolded" (defArgs s__law_unfolded) (defBody s__law_unfolded) (defScope s__law_unfolded) .none kV13 dc13 pm13 an13 cd13 ct13), sl13⟩)
    (c13 : PySem.W.codeIn K cd13 "_law_unfolded" = true)
    (k13 : PySem.W.keepIn K (.ref f13) = true)
    {f14 : Addr} {od14 an14 : Option Addr} {sl14 : Array (Option Value)} {oc14 kV14 dc14 pm14 cd14 ct14 : Value}
    (a14 : PySem.W.nsIn K mainGlobals "_law_right" = some (some (.ref f14)))
    (l14 : K.lookup f14 = some ⟨oc14, od14, .func (PySem.W.fnOf "_law_right" "_law_right" (defArgs s__law_right) (defBody s__law_right) (defScope s__law_right) .none kV14 dc14 pm14 an14 cd14 ct14), sl14⟩)
    (c14 : PySem.W.codeIn K cd14 "_law_right" = true)
    (k14 : PySem.W.keepIn K (.ref f14) = true)
    {f15 : Addr} {od15 an15 : Option Addr} {sl15 : Array (Option Value)} {oc15 kV15 dc15 pm15 cd15 ct15 : Value}
    (a15 : PySem.W.nsIn K mainGlobals "law" = some (some (.ref f15)))
    (l15 : K.lookup f15 = some ⟨oc15, od15, .func (PySem.W.fnOf "law" "law" (defArgs s_law) (defBody s_law) (defScope s_law) .none kV15 dc15 pm15 an15 cd15 ct15), sl15⟩)
    (c15 : PySem.W.codeIn K cd15 "law" = true)
    (k15 : PySem.W.keepIn K (.ref f15) = true)
    {DSt fSt cSt kSt TSt : Addr} {ocSt kVSt dcSt pmSt ctSt uTSt cclSt clcSt : Value} {odSt anSt odTSt cddSt ldcSt : Option Addr} {slSt slTSt ccsSt slcSt : Array (Option Value)} {nTSt : Nat} {vsSt : Array Value} {fileSt : Str} {tfSt : Tok} {clsSt : ClassData}
    (gSt : PySem.W.nsIn K mainGlobals "StillError" = some (some (.ref DSt)))
    (iSt : PySem.W.findIn K (.ref DSt) "__init__" = some (some (.ref fSt)))
    (tSt : PySem.W.typeIn K (.ref fSt) = some (.type "function"))
    (fnSt : PySem.W.fnIn K fSt = true)
    (lSt : K.lookup fSt = some ⟨ocSt, odSt, .func (PySem.W.fnX "__init__" "StillError.__init__" (defArgs s_StillError___init__) (defBody s_StillError___init__) (defScope s_StillError___init__) [("__class__", cSt)] (.ref TSt) kVSt dcSt pmSt anSt (.ref kSt) ctSt), slSt⟩)
    (dTSt : K.lookup TSt = some ⟨.type "tuple", odTSt, .seq #[uTSt] nTSt, slTSt⟩)
    (cdSt : PySem.W.codeIn K (.ref kSt) "StillError.__init__" = true)
    (kcSt : K.lookup kSt = some (⟨cclSt, cddSt, .fields vsSt, ccsSt⟩ : Obj))
    (vNSt : vsSt[2]? = some (.str fileSt tfSt))
    (flNSt : ((l.prog.main.file : Str) == fileSt) = true)
    (ceSt : K.lookup cSt = some (⟨clcSt, ldcSt, .cell (some (.ref DSt)), slcSt⟩ : Obj))
    (ccSt : PySem.W.clsIn K DSt = some clsSt)
    (spN : PySem.W.nsIn K mainGlobals "super" = some none)
    (opN : PySem.W.nsIn K cStatics "thirdparty.any" = some none)
    (tpN : (l.prog.main.scope.names.lookup ("super" : Str)).isSome = false)
    (cnN : PySem.W.specialIn K (.builtin "object.__class__") "__get__" = some (some (.builtin "getset_descriptor.__get__")))
    (ctN : PySem.W.takesIn K (.builtin "object.__class__") = some true)
    {DNoBridge fNoBridge cNoBridge kNoBridge nNoBridge : Addr} {kVNoBridge dcNoBridge pmNoBridge ocNoBridge ctNoBridge cclNoBridge clNoBridge : Value} {odNoBridge anNoBridge cddNoBridge cldNoBridge ddNoBridge : Option Addr} {slNoBridge ccsNoBridge cslNoBridge : Array (Option Value)} {vsNoBridge : Array Value} {fileNoBridge : Str} {tfNoBridge tkNoBridge : Tok} {cdNoBridge : ClassData} {nmNoBridge qNoBridge : Str} {bsNoBridge subNoBridge : List Value} {snNoBridge : List Str} {abNoBridge : Bool} {colNoBridge : Option Bool} {x0NoBridge x1NoBridge x3NoBridge x5NoBridge : Option Value}
    (gNoBridge : PySem.W.nsIn K mainGlobals "NoBridge" = some (some (.ref DNoBridge)))
    (iNoBridge : PySem.W.findIn K (.ref DNoBridge) "__init__" = some (some (.ref fNoBridge)))
    (tNoBridge : PySem.W.typeIn K (.ref fNoBridge) = some (.type "function"))
    (lNoBridge : K.lookup fNoBridge = some ⟨ocNoBridge, odNoBridge, .func (PySem.W.fnX "__init__" "NoBridge.__init__" (defArgs s_NoBridge___init__) (defBody s_NoBridge___init__) (defScope s_NoBridge___init__) [("__class__", cNoBridge)] .none kVNoBridge dcNoBridge pmNoBridge anNoBridge (.ref kNoBridge) ctNoBridge), slNoBridge⟩)
    (cd_NoBridge : PySem.W.codeIn K (.ref kNoBridge) "NoBridge.__init__" = true)
    (kcNoBridge : K.lookup kNoBridge = some (⟨cclNoBridge, cddNoBridge, .fields vsNoBridge, ccsNoBridge⟩ : Obj))
    (vNNoBridge : vsNoBridge[2]? = some (.str fileNoBridge tfNoBridge))
    (flNNoBridge : ((l.prog.main.file : Str) == fileNoBridge) = true)
    (ceNoBridge : K.lookup cNoBridge = some (⟨clNoBridge, cldNoBridge, .cell (some (.ref DNoBridge)), cslNoBridge⟩ : Obj))
    (ccNoBridge : PySem.W.clsIn K DNoBridge = some cdNoBridge)
    (sbNoBridge : PySem.W.mroIn K DNoBridge (.ref DNoBridge) = some true)
    (inFNoBridge : PySem.W.ks_superIn K DNoBridge DNoBridge "__init__" = some (some (.ref fSt)))
    (veNoBridge : PySem.W.subIn K (.ref DNoBridge) (.type "ValueError") = some true)
    (sb0NoBridge : PySem.W.mroIn K DNoBridge (.ref DSt) = some true)
    (inBNoBridge : PySem.W.ks_superIn K DNoBridge DSt "__init__" = some (some (.builtin "ValueError.__init__")))
    (ncnNoBridge : PySem.W.findIn K (.ref DNoBridge) "class_name" = some none)
    (whNoBridge : PySem.W.findIn K (.ref DNoBridge) "what" = some none)
    (oxNoBridge : K.lookup DNoBridge = some (excClassObj nmNoBridge qNoBridge DNoBridge nNoBridge bsNoBridge [.ref DSt, .type "ValueError", .type "Exception", .type "BaseException", .type "object"] true snNoBridge subNoBridge abNoBridge colNoBridge ddNoBridge x0NoBridge x1NoBridge (some (.str "NoBridge" tkNoBridge)) x3NoBridge x5NoBridge "ValueError.__new__"))
    (saNoBridge : PySem.W.findIn K (.ref DNoBridge) "__setattr__" = some (some (.builtin "object.__setattr__")))
    (exNoBridge : PySem.W.subIn K (.ref DNoBridge) (.type "BaseException") = some true)
    (tyNoBridge : PySem.W.typeIn K (.ref DNoBridge) = some (.type "type"))
    (keNoBridge : PySem.W.keepIn K (.ref DNoBridge) = true)
    (hdNoBridge : PySem.W.hasDictIn K DNoBridge = true)
    (ssNoBridge : PySem.W.subIn K (.ref DNoBridge) (.ref DNoBridge) = some true)
    (gaNoBridge : PySem.W.findIn K (.ref DNoBridge) "__getattribute__" = some (some (.builtin "BaseException.__getattribute__")))
    (gtNoBridge : PySem.W.findIn K (.ref DNoBridge) "__getattr__" = some none)
    (caNoBridge : PySem.W.findIn K (.ref DNoBridge) "__class__" = some (some (.builtin "object.__class__")))
    (moNoBridge : PySem.W.mroIn K DNoBridge (.type "object") = some true)
    (fcNoBridge : PySem.W.findCls K (.ref DNoBridge) (.type "type") "__name__" = some (.get (.builtin "getset_descriptor.__get__") (.builtin "type.__name__") (.ref DNoBridge) (.type "type")))
    {DBreaks : Addr}
    (gBreaks : PySem.W.nsIn K mainGlobals "Breaks" = some (some (.ref DBreaks)))
    {DHolds : Addr}
    (gHolds : PySem.W.nsIn K mainGlobals "Holds" = some (some (.ref DHolds)))
    {DNoEdition : Addr}
    (gNoEdition : PySem.W.nsIn K mainGlobals "NoEdition" = some (some (.ref DNoEdition)))
    {DNoKind : Addr}
    (gNoKind : PySem.W.nsIn K mainGlobals "NoKind" = some (some (.ref DNoKind)))
    {DNoName : Addr}
    (gNoName : PySem.W.nsIn K mainGlobals "NoName" = some (some (.ref DNoName)))
    {DNoRow : Addr}
    (gNoRow : PySem.W.nsIn K mainGlobals "NoRow" = some (some (.ref DNoRow)))
    {DNoText : Addr}
    (gNoText : PySem.W.nsIn K mainGlobals "NoText" = some (some (.ref DNoText)))
    {DTooGreat : Addr}
    (gTooGreat : PySem.W.nsIn K mainGlobals "TooGreat" = some (some (.ref DTooGreat)))
    (kiSt : PySem.W.kitOne K (.ref DNoBridge) (.ref DSt) = some true)
    (kiVE : PySem.W.kitOne K (.ref DNoBridge) (.type "ValueError") = some true)
    (kiAny : PySem.W.kitAny K (.ref DNoBridge) [.ref DBreaks, .ref DHolds, .ref DNoEdition, .ref DNoKind, .ref DNoName, .ref DNoRow, .ref DNoText, .ref DTooGreat] = some false)
    (zVE : PySem.W.nsIn K mainGlobals "ValueError" = some none)
    (exSt : PySem.W.subIn K (.ref DSt) (.type "BaseException") = some true)
    (hdSt : PySem.W.hasDictIn K DSt = true)
    (tySt : PySem.W.typeIn K (.ref DSt) = some (.type "type"))
    (ssSt : PySem.W.subIn K (.ref DNoBridge) (.ref DSt) = some true)
    (kiSelf : PySem.W.kitOne K (.ref DNoBridge) (.ref DNoBridge) = some true)
    (d12 : pT3 ≠ pT4)
    (d13 : pT3 ≠ pT5)
    (d23 : pT4 ≠ pT5)
    (z0 : PySem.W.nsIn K mainGlobals "ValueError" = some none)
    (z1 : PySem.W.nsIn K mainGlobals "abs" = some none)
    (z2 : PySem.W.nsIn K mainGlobals "all" = some none)
    (z3 : PySem.W.nsIn K mainGlobals "any" = some none)
    (z4 : PySem.W.nsIn K mainGlobals "dict" = some none)
    (z5 : PySem.W.nsIn K mainGlobals "int" = some none)
    (z6 : PySem.W.nsIn K mainGlobals "isinstance" = some none)
    (z7 : PySem.W.nsIn K mainGlobals "len" = some none)
    (z8 : PySem.W.nsIn K mainGlobals "list" = some none)
    (z9 : PySem.W.nsIn K mainGlobals "max" = some none)
    (z10 : PySem.W.nsIn K mainGlobals "min" = some none)
    (z11 : PySem.W.nsIn K mainGlobals "range" = some none)
    (z12 : PySem.W.nsIn K mainGlobals "set" = some none)
    (z13 : PySem.W.nsIn K mainGlobals "sorted" = some none)
    (z14 : PySem.W.nsIn K mainGlobals "str" = some none)
    (z15 : PySem.W.nsIn K mainGlobals "tuple" = some none)
    (z16 : PySem.W.nsIn K mainGlobals "zip" = some none)
    : LawAtG l w K 52 63 "script" mg fa h := by
  have e := hfa.symm.trans (PySem.W.mg_of X G a15)
  cases e
  have F_parts_of := fun_mk (st := s_parts_of) l0 c0 k0
  have b_parts_of := F_parts_of.binds (ps := ["term"]) fun _ _ _ _ _ _ us hl => match us, hl with | [_], _ => rfl
  have m_parts_of := PySem.W.mg_of X G a0
  have k_parts_of := k0
  have F_with_parts := fun_mk (st := s_with_parts) l1 c1 k1
  have b_with_parts := F_with_parts.binds (ps := ["term", "parts"]) fun _ _ _ _ _ _ us hl => match us, hl with | [_, _], _ => rfl
  have m_with_parts := PySem.W.mg_of X G a1
  have k_with_parts := k1
  have F_walked := fun_mk (st := s_walked) l2 c2 k2
  have b_walked := F_walked.binds (ps := ["term", "step"]) fun _ _ _ _ _ _ us hl => match us, hl with | [_, _], _ => rfl
  have m_walked := PySem.W.mg_of X G a2
  have k_walked := k2
  have C_rebuilt : FunC K "rebuilt" "rebuilt" s_rebuilt f3 _ cT3 := ⟨⟨_, _, _, _, _, _, _, _, rfl, l3, c3⟩⟩
  have F_rebuilt := C_rebuilt.toFun k3
  have b_rebuilt := F_rebuilt.binds (ps := ["term", "change"]) fun _ _ _ _ _ _ us hl => match us, hl with | [_, _], _ => rfl
  have m_rebuilt := PySem.W.mg_of X G a3
  have k_rebuilt := k3
  have C_filled : FunC K "filled" "filled" s_filled f4 _ cT4 := ⟨⟨_, _, _, _, _, _, _, _, rfl, l4, c4⟩⟩
  have F_filled := C_filled.toFun k4
  have b_filled := F_filled.binds (ps := ["door", "template", "arguments"]) fun _ _ _ _ _ _ us hl => match us, hl with | [_, _, _], _ => rfl
  have m_filled := PySem.W.mg_of X G a4
  have k_filled := k4
  have C_unfolded : FunC K "unfolded" "unfolded" s_unfolded f5 _ cT5 := ⟨⟨_, _, _, _, _, _, _, _, rfl, l5, c5⟩⟩
  have F_unfolded := C_unfolded.toFun k5
  have b_unfolded := F_unfolded.binds (ps := ["bridge", "term"]) fun _ _ _ _ _ _ us hl => match us, hl with | [_, _], _ => rfl
  have m_unfolded := PySem.W.mg_of X G a5
  have k_unfolded := k5
  have F__law_deck := fun_mk (st := s__law_deck) l6 c6 k6
  have b__law_deck := F__law_deck.binds (ps := ["script"]) fun _ _ _ _ _ _ us hl => match us, hl with | [_], _ => rfl
  have m__law_deck := PySem.W.mg_of X G a6
  have k__law_deck := k6
  have F__law_take := fun_mk (st := s__law_take) l7 c7 k7
  have b__law_take := F__law_take.binds (ps := ["deck", "many"]) fun _ _ _ _ _ _ us hl => match us, hl with | [_, _], _ => rfl
  have m__law_take := PySem.W.mg_of X G a7
  have k__law_take := k7
  have F__law_row := fun_mk (st := s__law_row) l8 c8 k8
  have b__law_row := F__law_row.binds (ps := ["deck", "name"]) fun _ _ _ _ _ _ us hl => match us, hl with | [_, _], _ => rfl
  have m__law_row := PySem.W.mg_of X G a8
  have k__law_row := k8
  have F__law_drawn := fun_mk (st := s__law_drawn) l9 c9 k9
  have b__law_drawn := F__law_drawn.binds (ps := ["deck", "rows", "deep"]) fun _ _ _ _ _ _ us hl => match us, hl with | [_, _, _], _ => rfl
  have m__law_drawn := PySem.W.mg_of X G a9
  have k__law_drawn := k9
  have F__law_parts_and := fun_mk (st := s__law_parts_and) l10 c10 k10
  have b__law_parts_and := F__law_parts_and.binds (ps := ["prog", "change"]) fun _ _ _ _ _ _ us hl => match us, hl with | [_, _], _ => rfl
  have m__law_parts_and := PySem.W.mg_of X G a10
  have k__law_parts_and := k10
  have F__law_listed := fun_mk (st := s__law_listed) l11 c11 k11
  have b__law_listed := F__law_listed.binds (ps := ["prog"]) fun _ _ _ _ _ _ us hl => match us, hl with | [_], _ => rfl
  have m__law_listed := PySem.W.mg_of X G a11
  have k__law_listed := k11
  have F__law_filled := fun_mk (st := s__law_filled) l12 c12 k12
  have b__law_filled := F__law_filled.binds (ps := ["template", "given"]) fun _ _ _ _ _ _ us hl => match us, hl with | [_, _], _ => rfl
  have m__law_filled := PySem.W.mg_of X G a12
  have k__law_filled := k12
  have F__law_unfolded := fun_mk (st := s__law_unfolded) l13 c13 k13
  have b__law_unfolded := F__law_unfolded.binds (ps := ["rows", "prog"]) fun _ _ _ _ _ _ us hl => match us, hl with | [_, _], _ => rfl
  have m__law_unfolded := PySem.W.mg_of X G a13
  have k__law_unfolded := k13
  have F__law_right := fun_mk (st := s__law_right) l14 c14 k14
  have b__law_right := F__law_right.binds (ps := ["rows", "prog", "named"]) fun _ _ _ _ _ _ us hl => match us, hl with | [_, _, _], _ => rfl
  have m__law_right := PySem.W.mg_of X G a14
  have k__law_right := k14
  have F_law := fun_mk (st := s_law) l15 c15 k15
  have B : Bn mg := ⟨PySem.W.mg_none_of X G z0, PySem.W.mg_none_of X G z1, PySem.W.mg_none_of X G z2, PySem.W.mg_none_of X G z3, PySem.W.mg_none_of X G z4, PySem.W.mg_none_of X G z5, PySem.W.mg_none_of X G z6, PySem.W.mg_none_of X G z7, PySem.W.mg_none_of X G z8, PySem.W.mg_none_of X G z9, PySem.W.mg_none_of X G z10, PySem.W.mg_none_of X G z11, PySem.W.mg_none_of X G z12, PySem.W.mg_none_of X G z13, PySem.W.mg_none_of X G z14, PySem.W.mg_none_of X G z15, PySem.W.mg_none_of X G z16⟩
  refine ⟨PySem.W.fnOf "law" "law" (defArgs s_law) (defBody s_law) (defScope s_law) .none kV15 dc15 pm15 an15 cd15 ct15, [(cT3, pT3), (cT4, pT4), (cT5, pT5)], spLaw K pT3 pT4 pT5, ?_, fun s v => .of_eq rfl, ?_, fun base _ _ TB => ?_⟩
  · exact List.forall_mem_cons.mpr ⟨⟨emT3, ouT3, PySem.W.codeHd_of_K X hdT3⟩, List.forall_mem_cons.mpr ⟨⟨emT4, ouT4, PySem.W.codeHd_of_K X hdT4⟩, List.forall_mem_cons.mpr ⟨⟨emT5, ouT5, PySem.W.codeHd_of_K X hdT5⟩, fun _ h => nomatch h⟩⟩⟩
  · intro H a ns hl _ hH hS
    exact law_sp (hH _ (List.mem_cons_self)) (hH _ (List.mem_cons_of_mem _ (List.mem_cons_self))) (hH _ (List.mem_cons_of_mem _ (List.mem_cons_of_mem _ (List.mem_cons_self)))) hS hl
  have TB_rebuilt := TB (cT3, pT3) (List.mem_cons_self)
  have TB_filled := TB (cT4, pT4) (List.mem_cons_of_mem _ (List.mem_cons_self))
  have TB_unfolded := TB (cT5, pT5) (List.mem_cons_of_mem _ (List.mem_cons_of_mem _ (List.mem_cons_self)))
  have hsup := PySem.W.mg_none_of X G spN
  have S0 : StillC l.prog K mg DSt fSt cSt kSt _ := ⟨⟨ocSt, kVSt, dcSt, pmSt, ctSt, odSt, anSt, slSt, TSt, rfl, lSt, _, _, _, dTSt, rfl⟩, cdSt, ⟨⟨cclSt, cddSt, vsSt, ccsSt, fileSt, tfSt, kcSt, vNSt, flNSt⟩, ⟨clcSt, ldcSt, slcSt, ceSt⟩, ⟨_, ccSt⟩, hsup, opN, tpN⟩, tSt, fnSt⟩
  have N_NoBridge : NoBridgeC l.prog K mg DNoBridge fNoBridge cNoBridge kNoBridge _ DSt fSt cSt kSt _ := ⟨⟨ocNoBridge, kVNoBridge, dcNoBridge, pmNoBridge, ctNoBridge, odNoBridge, anNoBridge, slNoBridge, rfl, lNoBridge⟩, cd_NoBridge, ⟨⟨cclNoBridge, cddNoBridge, vsNoBridge, ccsNoBridge, fileNoBridge, tfNoBridge, kcNoBridge, vNNoBridge, flNNoBridge⟩, ⟨clNoBridge, cldNoBridge, cslNoBridge, ceNoBridge⟩, ⟨_, ccNoBridge⟩, hsup, opN, tpN⟩, S0, ⟨⟨_, ccNoBridge⟩, sbNoBridge, inFNoBridge, veNoBridge⟩, ⟨⟨⟨nmNoBridge, qNoBridge, nNoBridge, bsNoBridge, _, snNoBridge, subNoBridge, abNoBridge, colNoBridge, ddNoBridge, x0NoBridge, x1NoBridge, _, x3NoBridge, x5NoBridge, oxNoBridge, rfl⟩, saNoBridge, exNoBridge, tyNoBridge, keNoBridge⟩, ⟨gaNoBridge, gtNoBridge, exNoBridge, hdNoBridge, caNoBridge, cnN, ctN, moNoBridge, ⟨_, _, oxNoBridge, rfl⟩, tyNoBridge, opN, fcNoBridge⟩, ⟨⟨_, ccNoBridge⟩, sb0NoBridge, inBNoBridge, veNoBridge⟩, ncnNoBridge⟩, iNoBridge, tNoBridge, whNoBridge, PySem.W.mg_of X G gNoBridge⟩
  have te_NoBridge : PySem.W.exmOne K (.ref DNoBridge) (.ref DNoBridge) = some true := PySem.W.exm_ref exNoBridge hdNoBridge tyNoBridge ssNoBridge
  have c_parts_of : Cal l.prog w K mg base "parts_of" 1 ["term"] (spParts) := ⟨_, _, ok_parts F_parts_of, m_parts_of, k_parts_of, b_parts_of⟩
  have c_with_parts : Cal l.prog w K mg base "with_parts" 1 ["term", "parts"] (spWp) := ⟨_, _, ok_wp B F_with_parts, m_with_parts, k_with_parts, b_with_parts⟩
  have wkF : ∀ σ ns z, WlkL l.prog w K mg base (tabs3 pT3 pT4 pT5) 7 mkFch ["door", "arguments"] (spFch DNoBridge) (fchg σ) (ownN ns z) := fun σ ns z => ⟨_, _, ok_walkedL (P := l.prog) (w := w) (base := base) B c_parts_of F_walked (k := 6) (mk := mkRst) (fr := ["change"]) (sp := spRst mkFch ["door", "arguments"] (spFch DNoBridge)) (R := fun H t v => Tm.lk (ownN ns z) t = none ∧ TmAt H v (Tm.reb (fchg σ) t)) (fun _ _ _ _ T h => ⟨h.1, h.2.mono T⟩) (by decide) (fun _ _ => rfl) (fun cl f' c' => ok_rst c_with_parts (by decide) (fun _ _ => rfl) (fun cl f c => ok_fch N_NoBridge cl f c) cl f' c'), m_walked, k_walked, b_walked⟩
  have c_rebF : RebF l.prog w K mg base (tabs3 pT3 pT4 pT5) DNoBridge := ⟨_, _, fun σ ns z => ok_reb C_rebuilt TB_rebuilt (tabs3_m1 rfl) (tabs3_u1 d12 d13) (wkF σ ns z), m_rebuilt, k_rebuilt, b_rebuilt⟩
  have c_filled : CalX l.prog w K mg base "filled" 9 ["door", "template", "arguments"] (spFil DNoBridge (tabs3 pT3 pT4 pT5)) := ⟨_, _, ok_fil C_filled TB_filled (tabs3_m2 rfl) (tabs3_u2 d12 d23) c_rebF, m_filled, k_filled, b_filled⟩
  have wkU : ∀ rows, WlkL l.prog w K mg base (tabs3 pT3 pT4 pT5) 12 mkUch ["templates"] (spUch DNoBridge (tabs3 pT3 pT4 pT5) rows) (uchg rows) (ownU rows) := fun rows => ⟨_, _, ok_walkedL (P := l.prog) (w := w) (base := base) B c_parts_of F_walked (k := 11) (mk := mkRst) (fr := ["change"]) (sp := spRst mkUch ["templates"] (spUch DNoBridge (tabs3 pT3 pT4 pT5) rows)) (R := fun H t v => Tm.lk (ownU rows) t = none ∧ TmAt H v (Tm.reb (uchg rows) t)) (fun _ _ _ _ T h => ⟨h.1, h.2.mono T⟩) (by decide) (fun _ _ => rfl) (fun cl f' c' => ok_rst c_with_parts (by decide) (fun _ _ => rfl) (fun cl f c => ok_uch c_filled B cl f c) cl f' c'), m_walked, k_walked, b_walked⟩
  have c_rebU : RebU l.prog w K mg base (tabs3 pT3 pT4 pT5) DNoBridge := ⟨_, _, fun rows => ok_reb C_rebuilt TB_rebuilt (tabs3_m1 rfl) (tabs3_u1 d12 d13) (wkU rows), m_rebuilt, k_rebuilt, b_rebuilt⟩
  have f_unf := ok_unf (P := l.prog) (w := w) (mg := mg) (base := base) C_unfolded TB_unfolded (tabs3_m3 rfl) (tabs3_u3 d13 d23) c_rebU
  have c_unfolded : CalX l.prog w K mg base "unfolded" 14 ["bridge", "term"] (spUnf DNoBridge (tabs3 pT3 pT4 pT5)) := ⟨_, _, f_unf, m_unfolded, k_unfolded, b_unfolded⟩
  have c_unfoldedK : CalEN l.prog w K mg base "unfolded" 14 ["bridge", "term"] ["term", "bridge"] gvR (spUnf DNoBridge (tabs3 pT3 pT4 pT5)) := ⟨_, _, fun us ws => us ++ ws.reverse, f_unf, m_unfolded, k_unfolded, kb_unf C_unfolded⟩
  have ki : KiB K mg DNoBridge DSt DBreaks DHolds DNoEdition DNoKind DNoName DNoRow DNoText DTooGreat := ⟨⟨gaNoBridge, gtNoBridge, exNoBridge, hdNoBridge, caNoBridge, cnN, ctN, moNoBridge⟩, ⟨gaNoBridge, gtNoBridge, exNoBridge, hdNoBridge⟩, PySem.W.exm_ref exSt hdSt tySt ssSt, kiSelf, kiVE, kiAny, PySem.W.mg_of X G gBreaks, PySem.W.mg_of X G gHolds, PySem.W.mg_of X G gNoEdition, PySem.W.mg_of X G gNoKind, PySem.W.mg_of X G gNoName, PySem.W.mg_of X G gNoRow, PySem.W.mg_of X G gNoText, PySem.W.mg_of X G gTooGreat, PySem.W.mg_of X G gSt⟩
  have c__law_deck : Cal l.prog w K mg base "_law_deck" 1 ["script"] (spDeck K) := ⟨_, _, ok_deck B F__law_deck, m__law_deck, k__law_deck, b__law_deck⟩
  have c__law_take : Cal l.prog w K mg base "_law_take" 1 ["deck", "many"] (spTake) := ⟨_, _, ok_take F__law_take, m__law_take, k__law_take, b__law_take⟩
  have c__law_row : Cal l.prog w K mg base "_law_row" 2 ["deck", "name"] (spRow) := ⟨_, _, ok_row B F__law_row c__law_take, m__law_row, k__law_row, b__law_row⟩
  have c__law_drawn : Cal l.prog w K mg base "_law_drawn" 7 ["deck", "rows", "deep"] (fun vs H Q E => ∃ e, e ≤ 5 ∧ spDr e vs H Q E) := ⟨_, _, ok_dr5 B F__law_drawn m__law_drawn b__law_drawn c__law_take, m__law_drawn, k__law_drawn, b__law_drawn⟩
  have c__law_parts_and : Cal l.prog w K mg base "_law_parts_and" 1 ["prog", "change"] (spPa) := ⟨_, _, ok_pa B F__law_parts_and, m__law_parts_and, k__law_parts_and, b__law_parts_and⟩
  have c__law_listed : Cal l.prog w K mg base "_law_listed" 1 ["prog"] (spPartsB) := ⟨_, _, ok_partsB B F__law_listed, m__law_listed, k__law_listed, b__law_listed⟩
  have c__law_filled : Cal l.prog w K mg base "_law_filled" 42 ["template", "given"] (spFl 40) := ⟨_, _, ok_fl B F__law_filled m__law_filled b__law_filled c__law_listed c__law_parts_and 40, m__law_filled, k__law_filled, b__law_filled⟩
  have c__law_unfolded : Cal l.prog w K mg base "_law_unfolded" 49 ["rows", "prog"] (spLu 6) := ⟨_, _, ok_lu B F__law_unfolded m__law_unfolded b__law_unfolded c__law_listed c__law_parts_and c__law_filled 6, m__law_unfolded, k__law_unfolded, b__law_unfolded⟩
  have c__law_right : Cal l.prog w K mg base "_law_right" 50 ["rows", "prog", "named"] (spRt (tabs3 pT3 pT4 pT5)) := ⟨_, _, ok_rt B N_NoBridge ki F__law_right c__law_unfolded c_unfolded c_unfoldedK, m__law_right, k__law_right, b__law_right⟩
  exact ok_law B F_law c__law_deck c__law_take c__law_row c__law_drawn c__law_right
theorem walk {l : PySem.W.OpenLaw} {q : Program} {loose : List Str} {XP : (Str → Option Value) → Heap → Prop} {YP : World → Heap → Prop} {d : DefRec} {K : Params → PySem.W.Frag}
    (hn : l.most = some 63) (hdf : d.params.defaults = []) (hY : ∀ (w : World) (h : Heap), YP w h → (K w.params).In h)
    (F : ∀ (w : World) (mg : Str → Option Value) (fa : Addr) (h : Heap), YP w h → (K w.params).In h → h.Ns mainGlobals mg → mg d.name = some (.ref fa) → LawAtG l w (K w.params) 52 63 "script" mg fa h) :
    PySem.W.WalkO q loose XP YP l.row.toRowW d [] (fun f vs => PySem.call f vs) :=
  walkG (n := 63) (k := 52) (x := "script") hn (by decide) hdf ⟨rfl, by decide, by decide⟩ hY F
end My
open PySem PySem.W PyProof.Rows
local macro_rules | `(tactic| o_head $H) => `(tactic| refine My.head_km (r := OpenLaw.row PySem.Challenge.rw_stillruns_k56_unfolding_refused) (q := view (PySem.W.OpenLaw.row PySem.Challenge.rw_stillruns_k56_unfolding_refused).prog [30]) (M := 9000) (loose := My.namesT) (d := HandSHeadRun.topDef (PySem.W.OpenLaw.row PySem.Challenge.rw_stillruns_k56_unfolding_refused).prog 30) (kwd := []) $H rfl (by kernel_rfl) (fun s => by kernel_rfl) ?_ (by kernel_rfl) (by kernel_rfl) (by kernel_rfl) (by rfl) (by first | assumption | decide +kernel) (by decide +kernel) ⟨rfl, rfl, rfl, rfl, rfl, by decide +kernel⟩ ?_ ?_)
set_option maxRecDepth 100000 in
set_option maxHeartbeats 0 in
theorem PySem.Challenge.cw_stillruns_k56_unfolding_refused_holds : PySem.Challenge.rw_stillruns_k56_unfolding_refused.Holds := by
  w_on; o_law; k_head
  · exact fun b w os => My.runs b w os
  · w_witness2
  k_fill
  refine My.walk (l := PySem.Challenge.rw_stillruns_k56_unfolding_refused) rfl rfl (fun w h Y => PySem.W.km_in_of Y) ?F
  case F =>
    intro w mg fa h Y KX G hmg
    refine' My.all_mk KX G hmg ?a0 ?l0 ?c0 ?k0 ?a1 ?l1 ?c1 ?k1 ?a2 ?l2 ?c2 ?k2 ?a3 ?l3 ?c3 ?k3 ?lcT3 ?vP3 ?hdT3 ?ouT3 ?emT3 ?a4 ?l4 ?c4 ?k4 ?lcT4 ?vP4 ?hdT4 ?ouT4 ?emT4 ?a5 ?l5 ?c5 ?k5 ?lcT5 ?vP5 ?hdT5 ?ouT5 ?emT5 ?a6 ?l6 ?c6 ?k6 ?a7 ?l7 ?c7 ?k7 ?a8 ?l8 ?c8 ?k8 ?a9 ?l9 ?c9 ?k9 ?a10 ?l10 ?c10 ?k10 ?a11 ?l11 ?c11 ?k11 ?a12 ?l12 ?c12 ?k12 ?a13 ?l13 ?c13 ?k13 ?a14 ?l14 ?c14 ?k14 ?a15 ?l15 ?c15 ?k15 ?gSt ?iSt ?tSt ?fnSt ?lSt ?dTSt ?cdSt ?kcSt ?vNSt ?flNSt ?ceSt ?ccSt ?spN ?opN ?tpN ?cnN ?ctN ?gNoBridge ?iNoBridge ?tNoBridge ?lNoBridge ?cd_NoBridge ?kcNoBridge ?vNNoBridge ?flNNoBridge ?ceNoBridge ?ccNoBridge ?sbNoBridge ?inFNoBridge ?veNoBridge ?sb0NoBridge ?inBNoBridge ?ncnNoBridge ?whNoBridge ?oxNoBridge ?saNoBridge ?exNoBridge ?tyNoBridge ?keNoBridge ?hdNoBridge ?ssNoBridge ?gaNoBridge ?gtNoBridge ?caNoBridge ?moNoBridge ?fcNoBridge ?gBreaks ?gHolds ?gNoEdition ?gNoKind ?gNoName ?gNoRow ?gNoText ?gTooGreat ?kiSt ?kiVE ?kiAny ?zVE ?exSt ?hdSt ?tySt ?ssSt ?kiSelf ?d12 ?d13 ?d23 ?z0 ?z1 ?z2 ?z3 ?z4 ?z5 ?z6 ?z7 ?z8 ?z9 ?z10 ?z11 ?z12 ?z13 ?z14 ?z15 ?z16
    (case a0 => k_is)
    (case l0 => k_is)
    (case c0 => k_is)
    (case k0 => k_is)
    (case a1 => k_is)
    (case l1 => k_is)
    (case c1 => k_is)
    (case k1 => k_is)
    (case a2 => k_is)
    (case l2 => k_is)
    (case c2 => k_is)
    (case k2 => k_is)
    (case a3 => k_is)
    (case l3 => k_is)
    (case c3 => k_is)
    (case k3 => k_is)
    (case lcT3 => k_is)
    (case vP3 => first | rfl | decide +kernel)
    (case hdT3 => first | kernel_rfl | rfl)
    (case ouT3 => first | kernel_rfl | rfl)
    (case emT3 => exact PySem.W.km_tabs_of Y _ (by decide))
    (case a4 => k_is)
    (case l4 => k_is)
    (case c4 => k_is)
    (case k4 => k_is)
    (case lcT4 => k_is)
    (case vP4 => first | rfl | decide +kernel)
    (case hdT4 => first | kernel_rfl | rfl)
    (case ouT4 => first | kernel_rfl | rfl)
    (case emT4 => exact PySem.W.km_tabs_of Y _ (by decide))
    (case a5 => k_is)
    (case l5 => k_is)
    (case c5 => k_is)
    (case k5 => k_is)
    (case lcT5 => k_is)
    (case vP5 => first | rfl | decide +kernel)
    (case hdT5 => first | kernel_rfl | rfl)
    (case ouT5 => first | kernel_rfl | rfl)
    (case emT5 => exact PySem.W.km_tabs_of Y _ (by decide))
    (case a6 => k_is)
    (case l6 => k_is)
    (case c6 => k_is)
    (case k6 => k_is)
    (case a7 => k_is)
    (case l7 => k_is)
    (case c7 => k_is)
    (case k7 => k_is)
    (case a8 => k_is)
    (case l8 => k_is)
    (case c8 => k_is)
    (case k8 => k_is)
    (case a9 => k_is)
    (case l9 => k_is)
    (case c9 => k_is)
    (case k9 => k_is)
    (case a10 => k_is)
    (case l10 => k_is)
    (case c10 => k_is)
    (case k10 => k_is)
    (case a11 => k_is)
    (case l11 => k_is)
    (case c11 => k_is)
    (case k11 => k_is)
    (case a12 => k_is)
    (case l12 => k_is)
    (case c12 => k_is)
    (case k12 => k_is)
    (case a13 => k_is)
    (case l13 => k_is)
    (case c13 => k_is)
    (case k13 => k_is)
    (case a14 => k_is)
    (case l14 => k_is)
    (case c14 => k_is)
    (case k14 => k_is)
    (case a15 => k_is)
    (case l15 => k_is)
    (case c15 => k_is)
    (case k15 => k_is)
    (case gSt => k_is)
    (case iSt => k_is)
    (case tSt => k_is)
    (case fnSt => k_is)
    (case lSt => k_is)
    (case dTSt => k_is)
    (case cdSt => k_is)
    (case kcSt => k_is)
    (case vNSt => first | k_is | rfl | decide +kernel)
    (case flNSt => first | decide +kernel | rfl | k_is)
    (case ceSt => k_is)
    (case ccSt => k_is)
    (case spN => k_is)
    (case opN => k_is)
    (case tpN => first | decide +kernel | rfl | k_is)
    (case cnN => k_is)
    (case ctN => k_is)
    (case gNoBridge => k_is)
    (case iNoBridge => k_is)
    (case tNoBridge => k_is)
    (case lNoBridge => k_is)
    (case cd_NoBridge => k_is)
    (case kcNoBridge => k_is)
    (case vNNoBridge => first | k_is | rfl | decide +kernel)
    (case flNNoBridge => first | decide +kernel | rfl | k_is)
    (case ceNoBridge => k_is)
    (case ccNoBridge => k_is)
    (case sbNoBridge => k_is)
    (case inFNoBridge => first | ks_is | k_is)
    (case veNoBridge => k_is)
    (case sb0NoBridge => k_is)
    (case inBNoBridge => first | ks_is | k_is)
    (case ncnNoBridge => k_is)
    (case whNoBridge => k_is)
    (case oxNoBridge => k_is)
    (case saNoBridge => k_is)
    (case exNoBridge => k_is)
    (case tyNoBridge => k_is)
    (case keNoBridge => k_is)
    (case hdNoBridge => k_is)
    (case ssNoBridge => k_is)
    (case gaNoBridge => k_is)
    (case gtNoBridge => k_is)
    (case caNoBridge => k_is)
    (case moNoBridge => k_is)
    (case fcNoBridge => k_is)
    (case gBreaks => k_is)
    (case gHolds => k_is)
    (case gNoEdition => k_is)
    (case gNoKind => k_is)
    (case gNoName => k_is)
    (case gNoRow => k_is)
    (case gNoText => k_is)
    (case gTooGreat => k_is)
    (case kiSt => first | kit_is | k_is | rfl | decide +kernel)
    (case kiVE => first | kit_is | k_is | rfl | decide +kernel)
    (case kiAny => first | kit_is | k_is | rfl | decide +kernel)
    (case zVE => k_is)
    (case exSt => k_is)
    (case hdSt => k_is)
    (case tySt => k_is)
    (case ssSt => k_is)
    (case kiSelf => first | kit_is | k_is | rfl | decide +kernel)
    (case d12 => decide)
    (case d13 => decide)
    (case d23 => decide)
    (case z0 => k_is)
    (case z1 => k_is)
    (case z2 => k_is)
    (case z3 => k_is)
    (case z4 => k_is)
    (case z5 => k_is)
    (case z6 => k_is)
    (case z7 => k_is)
    (case z8 => k_is)
    (case z9 => k_is)
    (case z10 => k_is)
    (case z11 => k_is)
    (case z12 => k_is)
    (case z13 => k_is)
    (case z14 => k_is)
    (case z15 => k_is)
    (case z16 => k_is)
