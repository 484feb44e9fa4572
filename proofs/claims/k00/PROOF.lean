import PyProof.Rows.All
import Wide.All
import OpenK.AllK
import Wide.FinOn
import KE.OsRunLaw
import HandS.ForMost
import HandS.Sort
import HandS.SortRule
import HandS.SortInts
import HandS.Conv
import HandS.Codes
import HandS.Deep
import HandS.TupLe
import HandS.TupAny
import HandS.TupMul
import HandS.Style
import HandS.Zip
import HandS.More
import HandS.Flow
import HandS.Walk
import HandS.IsInst
import KE.KTupSum
import PyProof.TupleOfSeq
import PyProof.Draws
import PyProof.EnumMake
import KE.GoesMore
import KE.GoesEnum
import HandS.ExcOwn
import HandS.ExcInit
import HandS.ExcIs
import HandS.ExcField
import HandS.OwnEq
import HandS.TryOnly
import HandS.WordsExc
import HandS.ExcValue
import KE.GoesZip
import HandS.SortKw
import HandS.Lambda
import HandS.Nested
import KE.SortKeyHeap
import KE.KLam
import KE.KSortKey
import KE.SortLaws
import HandS.EndTab
import KE.KNestM
import PyProof.EqAt
import PyProof.EqKinds
import PyProof.TupleCall
import HandS.Base
import HandS.Call
import HandS.Exc
import HandS.TryMany
import HandS.HotCalls
import PySem.Challenge.RW_sametolls_k00_errors_kept_and_rows_refus
set_option Elab.async false
set_option autoImplicit false
set_option linter.all false
set_option maxRecDepth 100000
set_option maxHeartbeats 4000000
namespace HDS
open PySem PySem.W PySem.Calls PyProof.Rows HeadRun
theorem sp2 {α β γ : Type} {o : Option α} {f : α → β} {g : α → γ} {b : β} {c : γ} (h1 : o.map f = some b) (h2 : o.map g = some c) : o.map (fun s => (f s, g s)) = some (b, c) := by
  cases o with
  | none => cases h1
  | some a => exact congrArg some (Prod.ext (Option.some.inj h1) (Option.some.inj h2))
theorem sp3 {α β γ : Type} {o : Option α} {F : α → β × γ} {b : β} {c : γ} (h1 : o.map (fun s => (F s).1) = some b) (h2 : o.map (fun s => (F s).2) = some c) : o.map F = some (b, c) := by
  cases o with
  | none => cases h1
  | some a => exact congrArg some (Prod.ext (Option.some.inj h1) (Option.some.inj h2))
abbrev R : OpenRow := OpenLaw.row PySem.Challenge.rw_sametolls_k00_errors_kept_and_rows_refus
section
local macro_rules | `(tactic| first | $_a | $_b) => `(tactic| assumption)
set_option maxHeartbeats 0 in
theorem hV (h : OpenRow.Holds R) : OpenRow.Holds R := by
  k_headL
end
abbrev qv : Program := view R.prog [104, 105, 106]
def loose0 : List PySem.Str := [PySem.Str.ofString "__name__", PySem.Str.ofString "TollError", PySem.Str.ofString "NoClock", PySem.Str.ofString "NoNumber", PySem.Str.ofString "NoRow", PySem.Str.ofString "NoPost", PySem.Str.ofString "NoWay", PySem.Str.ofString "NoPlan", PySem.Str.ofString "NotRight", PySem.Str.ofString "NotLeast", PySem.Str.ofString "NoGiven", PySem.Str.ofString "NoWays", PySem.Str.ofString "NoOrder", PySem.Str.ofString "NoLot", PySem.Str.ofString "NotUndoable", PySem.Str.ofString "NotAfter", PySem.Str.ofString "NotAlike", PySem.Str.ofString "NoAnswers", PySem.Str.ofString "NoCounts", PySem.Str.ofString "NoTable", PySem.Str.ofString "NotSure", PySem.Str.ofString "NoRule", PySem.Str.ofString "NotRow", PySem.Str.ofString "NoTick", PySem.Str.ofString "NoCut", PySem.Str.ofString "NoHours", PySem.Str.ofString "NotOne", PySem.Str.ofString "NotPlanned", PySem.Str.ofString "NoProgram", PySem.Str.ofString "NoWant"]
def loose1 : List PySem.Str := [PySem.Str.ofString "NoValue", PySem.Str.ofString "NoValues", PySem.Str.ofString "NotEmpty", PySem.Str.ofString "Full", PySem.Str.ofString "NothingDone", PySem.Str.ofString "NoLine", PySem.Str.ofString "TooLong", PySem.Str.ofString "NoRows", PySem.Str.ofString "BadTree", PySem.Str.ofString "BadSheet", PySem.Str.ofString "BadRules", PySem.Str.ofString "BadTiming", PySem.Str.ofString "TooMany", PySem.Str.ofString "BadText", PySem.Str.ofString "Barred", PySem.Str.ofString "BadSaid", PySem.Str.ofString "BadAnswer", PySem.Str.ofString "NoMark", PySem.Str.ofString "BadJournal", PySem.Str.ofString "NoName", PySem.Str.ofString "BadTale", PySem.Str.ofString "Failed", PySem.Str.ofString "is_integer", PySem.Str.ofString "is_below", PySem.Str.ofString "is_row", PySem.Str.ofString "MOST_HOURS", PySem.Str.ofString "MOST_WIDE", PySem.Str.ofString "MOST_ROWS", PySem.Str.ofString "MOST_SIDE", PySem.Str.ofString "is_clock"]
def loose2 : List PySem.Str := [PySem.Str.ofString "ladder", PySem.Str.ofString "rank", PySem.Str.ofString "mixture", PySem.Str.ofString "parting", PySem.Str.ofString "square", PySem.Str.ofString "determinant", PySem.Str.ofString "check_clock", PySem.Str.ofString "check_rows", PySem.Str.ofString "check_each", PySem.Str.ofString "check_row", PySem.Str.ofString "ladder_of", PySem.Str.ofString "rank_of", PySem.Str.ofString "widened", PySem.Str.ofString "rungs_of", PySem.Str.ofString "mixtures", PySem.Str.ofString "cleared", PySem.Str.ofString "multiplied", PySem.Str.ofString "inverse", PySem.Str.ofString "first_place", PySem.Str.ofString "first_row", PySem.Str.ofString "unit_rows", PySem.Str.ofString "_law_hand", PySem.Str.ofString "_law_draw", PySem.Str.ofString "_law_any", PySem.Str.ofString "_law_is", PySem.Str.ofString "_law_nested", PySem.Str.ofString "_law_int", PySem.Str.ofString "_law_less", PySem.Str.ofString "_law_summed", PySem.Str.ofString "_law_clock"]
def loose3 : List PySem.Str := [PySem.Str.ofString "_law_some_row", PySem.Str.ofString "_law_some_rows", PySem.Str.ofString "_law_is_prime", PySem.Str.ofString "_law_is_row", PySem.Str.ofString "_law_classes", PySem.Str.ofString "_law_errors", PySem.Str.ofString "_law_row_refusal", PySem.Str.ofString "_law_rows_due", PySem.Str.ofString "_law_square_due", PySem.Str.ofString "_law_odd", PySem.Str.ofString "_law_bent_rows"]
def loose : List PySem.Str := loose0 ++ loose1 ++ loose2 ++ loose3
noncomputable def P0 : Params := { strHash := fun _ => 0, shareClass := fun _ => 0, mergeTok := id, idOf := fun _ => 0, idOfShared := fun _ _ => 0, followText := fun _ => false, idOfImm := fun _ => 0 }
noncomputable def as9 : List Addr := (hV.heap_1 P0).map (·.1)
theorem ek (P : Params) : as9 = (hV.heap_1 P).map (·.1) := by kernel_rfl
noncomputable def endR (w : World) (os : OsState) : Option SharedT := endF (stepQ (denQ tabQ) R.prog w) 30000 R.prog w os
theorem runA (w : World) (os : OsState) : (endR w os).map (fun s => looksF R.prog (boot_heap w.params) s.abs) = some true := by kernel_rfl
theorem runB (w : World) (os : OsState) : (endR w os).map (fun s => seenQ qv loose (importedModules R.prog.main.body) (fun s => xlAt qv [] s && recOk R.toRowW.records s) s.abs) = some (openGood qv loose) := by
  refine sp3 ?_ (sp3 ?_ (sp3 ?_ (sp3 ?_ (sp3 ?_ (sp3 ?_ (sp3 ?_ (sp3 ?_ ?_))))))) <;> kernel_rfl
theorem runC (w : World) (os : OsState) : (endR w os).map (fun s => as9.map (getT s)) = some ((hV.heap_1 w.params).map fun p => some p.2) := by kernel_rfl
theorem run (w : World) : RunEq R qv (kHook hV.heap_1 as9 ek) (fun s => as9.map (getT s)) 30000 loose w := fun os => sp2 (runA w os) (sp2 (runB w os) (runC w os))
theorem obs (s : SharedT) : as9.map (getT s) = (kHook hV.heap_1 as9 ek).obs s.abs := List.map_congr_left fun a _ => getT_eq s a
theorem opens : opening R.prog = plainProg R.prog.main.scope.names := by kernel_rfl
theorem fenced (s : Shared) : fenceModules? R.prog s = some s := by kernel_rfl
end HDS

/-! rules that the hand layer lacks: sum, sorted, enumerate, in, [::-1], * of tuples -/
namespace TT
open PySem PySem.Spec PyProof.Rows L2
section
variable {X : Cx}
/-! ### sum(t), t a tuple of ints -/
def rSumT (K : PySem.W.Frag) : List V → Hp → VK → Prop := fun vs H Q => ∃ (a : Addr) (ns : List Int), vs = [V.ref a] ∧ SqT K H a (ns.map V.int) ∧ Q (.int ns.sum) H
theorem cr_sumT (hc : X.calm = true) : CallR X (.builtin "sum") (rSumT X.K) := by
  intro pins s σ H vs us Q I r h
  obtain ⟨a, ns, rfl, hs, q⟩ := h
  obtain ⟨its, rv, hl, _⟩ := I.tuple hs
  rw [Vals.ref1 r]
  have hi : IntsAre its ns := rv.ints
  obtain ⟨xs, e⟩ := hi.allInts.items
  have hn : numsOf (intItems xs).toList = ns := by rw [← e]; exact hi.numsOf
  rw [nums_intItems] at hn
  obtain ⟨o, ho, hc', n, hd⟩ := id hl
  have hl2 : s.heap.IsTuple a (intItems xs) := by
    rw [← e]
    exact ⟨o, ho, hc', n, hd⟩
  refine PySem.W.ktm_sumG (I.ok.hd hc) hl2 fun h' tk t' hk => ?_
  rw [preSum_eq, List.take_of_length_le (by simp), hn]
  exact ⟨.int _, H, I.kept hk, ⟨_, rfl⟩, q⟩
/-! ### x in t, t a tuple of data -/
def rInT (K : PySem.W.Frag) : R2 := fun x y H Q => ∃ d ds, Dp K H x d ∧ Dp K H y (.tuple ds) ∧ SeqAt.shaped d = true ∧ SeqAt.shaped (.tuple ds) = true ∧ Q (.bl (ds.any fun z => PyData.eqv z d)) H
theorem op_inT (hu : X.A.units + 65 < cLine) : OpR X (compareOp .In) (rInT X.K) := by
  intro pins s σ H x y v u Q I rx ry h
  obtain ⟨d, ds, hd, he, sd, se, q⟩ := h
  obtain ⟨as, r1⟩ := Dp.reads I d x v hd rx
  obtain ⟨bs, r2⟩ := Dp.reads I (.tuple ds) y u he ry
  exact SeqAt.in_tuple_reads r2 r1 (SeqAt.canLay_of_shaped se) (SeqAt.canLay_of_shaped sd) (room_in_shaped sd hu) ⟨.bl _, H, I, rfl, q⟩
end
/-! ### t[::-1] -/
section
variable {prog : Program} {w : World} {A : Around} {E : Value → Shared → Prop} {s : Shared}
theorem adjust_rev (n : Nat) : Builtin.Slice.sliceAdjust none none (-1) (n : Int) = ((n : Int) - 1, -1) := rfl
theorem places_rev (n : Nat) : Builtin.Slice.slicePlaces ((n : Int) - 1) (-1) (-1) = n := by
  unfold Builtin.Slice.slicePlaces
  rw [if_neg (by decide)]
  have e : (-(-1 : Int)) = 1 := by decide
  rw [e, Int.ediv_one]
  split <;> omega
theorem pick_rev (xs : Array Value) : ((List.range xs.size).filterMap fun (k : Nat) => xs[(((xs.size : Int) - 1) + (k : Int) * (-1)).toNat]?).toArray = xs.toList.reverse.toArray := by
  have e : (List.range xs.size).filterMap (fun (k : Nat) => xs[(((xs.size : Int) - 1) + (k : Int) * (-1)).toNat]?) = xs.toList.reverse := by
    have h : ∀ (n : Nat), n ≤ xs.size → (List.range n).filterMap (fun (k : Nat) => xs[(((xs.size : Int) - 1) + (k : Int) * (-1)).toNat]?) = xs.toList.reverse.take n := by
      intro n
      induction n with
      | zero => intro _; simp
      | succ n ih =>
        intro hn
        rw [List.range_succ, List.filterMap_append, ih (by omega), List.take_succ]
        congr 1
        have e1 : (((xs.size : Int) - 1) + (n : Int) * (-1)).toNat = xs.size - 1 - n := by omega
        rw [List.filterMap_cons, e1, List.getElem?_reverse (by rw [Array.length_toList]; omega), Array.length_toList, Array.getElem?_toList]
        cases xs[xs.size - 1 - n]? <;> rfl
    have := h xs.size (Nat.le_refl _)
    rw [this, List.take_of_length_le (by rw [List.length_reverse, Array.length_toList]; exact Nat.le_refl _)]
  rw [e]
theorem getItem_tuple_rev {t sl : Addr} {items : Array Value} {u : Tok} {Q : Value → Shared → Prop} (ht : IsTup s.heap t items) (hs : s.heap.IsSliceOf sl .none .none (.int (-1) u))
    (h : Q (.ref s.heap.objs.size) { s with heap := s.heap.push { cls := .type "tuple", data := .seq items.toList.reverse.toArray } })
    (hsz : items.size ≤ sizeLine) : wpAny (model prog w) A (getItem (.ref t) (.ref sl)) Q E s := by
  have htake : sizeOk (.seq items.toList.reverse.toArray) := by
    show items.toList.reverse.toArray.size ≤ sizeLine
    rw [List.size_toArray, List.length_reverse, Array.length_toList]
    exact hsz
  obtain ⟨os, hos, hcs, hds⟩ := id hs
  have hTs : s.TypeIs (.ref sl) "slice" := ⟨os, hos, hcs⟩
  unfold getItem
  try with_reducible refine wpAny_holding ?_
  first | refine wpAny_bind (wpAny_pure ?_) | skip
  refine wpAny_bind (wpAny_sequenceKey ht.typeIs (by decide) ?_)
  refine wpAny_bind (wpAny_callSpecial?_slot (name := Str.ofString "__getitem__") ht.typeIs PyProof.Rows.slot_tuple_getitem
    (wpAny_call_entry PyProof.Rows.slot_tuple_getitem ht.typeIs entry_tuple_getitem ?_ (args_tuple_getitem _ _)))
  show wpAny _ _ (Builtin.Tuple.tupleItemsOf (.ref t) >>= _) _ _ s
  refine wpAny_bind (tupleItemsOf_ ht ?_)
  refine wpAny_bind (wpAny_typeOf hTs ?_)
  rw [if_pos (by decide)]
  refine wpAny_bind ?_
  unfold Builtin.Slice.sliceApplied Builtin.Slice.sliceFields
  refine wpAny_bind (wpAny_bind (wpAny_field hos hds (x := .none) rfl (wpAny_bind (wpAny_field hos hds (x := .none) rfl (wpAny_bind (wpAny_field hos hds (x := .int (-1) u) rfl (wpAny_pure ?_)))))))
  refine wpAny_bind (slicePart_int ?_)
  show wpAny _ _ (if ((-1 : Int) == 0) = true then _ else _) _ _ s
  rw [if_neg (by decide)]
  refine wpAny_bind (slicePart_none (wpAny_bind (slicePart_none (wpAny_bind (wpAny_pure ?_)))))
  show wpAny _ _ (match Builtin.Slice.sliceAdjust none none (-1) (items.size : Int) with | (lo, hi) => pure (lo, (-1 : Int), Builtin.Slice.slicePlaces lo hi (-1))) _ _ s
  rw [adjust_rev]
  show wpAny _ _ (pure (((items.size : Int) - 1), (-1 : Int), Builtin.Slice.slicePlaces ((items.size : Int) - 1) (-1) (-1))) _ _ s
  rw [places_rev]
  refine wpAny_pure ?_
  have hno : ¬ ((((items.size : Int) - 1) == 0 && (-1 : Int) == 1 && (items.size == items.size)) = true) := by
    rw [show ((-1 : Int) == 1) = false from by decide, Bool.and_false, Bool.false_and]
    exact Bool.false_ne_true
  show wpAny _ _ (if (((items.size : Int) - 1) == 0 && (-1 : Int) == 1 && (items.size == items.size)) = true then _ else _) _ _ s
  rw [if_neg hno, pick_rev]
  first
    | exact wpAny_bind (m := Builtin.Tuple.tupleExact _) (wpAny_newObj_type (wpAny_pure ⟨_, rfl, wpAny_pure h⟩) htake)
    | exact wpAny_bind (m := Builtin.Tuple.tupleExact _) (wpAny_newObj_type (wpAny_bind (wpAny_pure (wpAny_pure ⟨_, rfl, wpAny_pure h⟩))) htake)
    | exact wpAny_bind (wpAny_bind (m := Builtin.Tuple.tupleExact _) (wpAny_newObj_type (wpAny_pure (wpAny_pure ⟨_, rfl, wpAny_pure h⟩)) htake))
    | exact wpAny_bind (wpAny_bind (m := Builtin.Tuple.tupleExact _) (wpAny_newObj_type (wpAny_pure ⟨_, rfl, wpAny_pure h⟩) htake))
end
section
variable {X : Cx}
def tRevT (K : PySem.W.Frag) (te : TE) : TE := fun σ H Q => te σ H fun x H1 => ∃ a xs, x = .ref a ∧ SqT K H1 a xs ∧ ∀ p, H1 p = none → Q (.ref p) (upd H1 p (.tup xs.reverse))
theorem pe_revT {e : Expr} {te : TE} {k : Nat} {p1 p2 p3 pos : Pos} (he : PE X e te) : PE X (.Subscript e (.Slice none none (some (.UnaryOp .USub (.Constant (.int 1) k p1) p2)) p3) pos) (tRevT X.K te) := by
  refine ⟨fun pins s σ H Q I h => ?_⟩
  refine Subscript_ (thn (he.run pins s σ H _ I h) fun v s1 ⟨x, H1, I1, r1, q1⟩ => ?_)
  obtain ⟨a, xs, ex, hx, q⟩ := q1
  subst ex
  cases r1
  have hst : PO X (some (.UnaryOp .USub (.Constant (.int 1) k p1) p2)) (tPart (tUn (rU fun i => .int (-i)) (tC (.int 1)))) := po_some (pe_un un_neg pe_int)
  refine wpAny_Slice (thn (po_none.run pins s1 σ H1 (fun o H2 => o = none ∧ H2 = H1) I1 ⟨rfl, rfl⟩) fun vl s2 ⟨l, H2, I2, pl, el, e2⟩ => ?_)
  subst el e2
  refine thn (po_none.run pins s2 σ H2 (fun o H3 => o = none ∧ H3 = H2) I2 ⟨rfl, rfl⟩) fun vu s3 ⟨u, H3, I3, pu, eu, e3⟩ => ?_
  subst eu e3
  refine thn (hst.run pins s3 σ H3 (fun o H4 => o = some (-1) ∧ H4 = H3) I3 ⟨1, rfl, -1, rfl, rfl, rfl⟩) fun vs s4 ⟨o, H4, I4, ps, eo, e4⟩ => ?_
  subst eo e4
  have I5 : Inv X pins σ H4 { s4 with heap := s4.heap.push { cls := .type "slice", data := .fields #[vl, vu, vs] } } := I4.kept (t' := s4.toks) fun b ob q => Heap.get?_push_of_some _ q
  obtain ⟨its, r, ht, hz⟩ := I5.tuple hx
  have hlen := r.length
  show wpAny (model X.prog X.w) X.A (subscriptTail e (.Slice none none (some (.UnaryOp .USub (.Constant (.int 1) k p1) p2)) p3) (.ref a) (.ref s4.heap.objs.size)) (EP X pins σ Q) X.xe { s4 with heap := s4.heap.push { cls := .type "slice", data := .fields #[vl, vu, vs] } }
  cases pl
  cases pu
  cases ps with
  | int i t =>
    refine tail_any (ops := [.ref a, .ref s4.heap.objs.size]) ht.typeIs (PyProof.Rows.slot_tuple_getitem.lookup) ?_ (by with_unfolding_all rfl)
    refine getItem_tuple_rev ht (Heap.IsSliceOf.new _ .none .none (.int (-1) t)) ?_ (by rw [List.size_toArray]; omega)
    refine ⟨.ref _, _, I5.laid (t' := s4.toks) (o := .tup xs.reverse) (fun b ob q => Heap.get?_push_of_some _ q) (Nat.le_refl _) ?_, rfl, q _ (I5.hok.fresh (Nat.le_refl _))⟩
    exact ⟨by rw [List.length_reverse]; exact hz, _, r.reverse, IsTup.new _ _⟩
end
/-! ### enumerate(t), t a tuple -/
def IteT (K : PySem.W.Frag) (a : Addr) : It :=
  ⟨fun i H => ∃ (xs : List V) (x : V), SqT K H a xs ∧ xs[i]? = some x, fun i H v H' => ∃ T x, v = .ref T ∧ H T = none ∧ H' = upd H T (.tup [.int (i : Nat), x]) ∧ ∀ xs, SqT K H a xs → xs[i]? = some x, fun i H => ∃ xs : List V, SqT K H a xs ∧ i = xs.length⟩
theorem turn_enumT {P : Program} {w : World} {K : PySem.W.Frag} {elts : List Expr} {kk : Nat} {tpos : Pos} (a e it : Addr) (hai : a ≠ it) :
    Turn P w K (.Tuple elts kk tpos) (IteT K a) [e, it] e (fun i h => (∃ old, IsEnum h e it ((i : Nat) : Int) old) ∧ h.IsTupleIter it a i ∧ e ≠ it ∧ e ≠ a) where
  mem := by simp
  obj := fun i h st b hb => by
    obtain ⟨⟨old, he⟩, ⟨o, ho, hc, hd⟩, _⟩ := st
    have e' : b = e ∨ b = it := by simpa using hb
    rcases e' with z | z
    · rw [z]; exact ⟨_, he, fun v q => nomatch q⟩
    · rw [z]; exact ⟨o, ho, fun v q => by rw [hd] at q; cases q⟩
  keep := fun i h h' st k => let ⟨⟨old, he⟩, hi, hne⟩ := st; ⟨⟨old, k e (by simp) _ he⟩, hi.at fun o q => k it (by simp) o q, hne⟩
  item := by
    intro X hP hw hK hc i pins s σ H E I hf st hg
    subst hP hw hK
    obtain ⟨⟨old, he⟩, hit, hne, hnea⟩ := st
    obtain ⟨xs, x, hq, hx⟩ := hg
    obtain ⟨its, rv, p, hz⟩ := I.tuple hq
    obtain ⟨u, hu, ru⟩ := rv.get hx
    have hel : e < s.heap.objs.size := Heap.lt_size he
    have hil : it < s.heap.objs.size := by obtain ⟨_, q, _⟩ := hit; exact Heap.lt_size q
    have hlt : i < its.toArray.size := by
      rw [List.size_toArray]
      exact (List.getElem?_eq_some_iff.mp hu).1
    have p' : s.heap.IsTuple a its.toArray := p
    have D := Draws.tuple (prog := X.prog) (w := X.w) (A := X.A.in1) (I.ok.hd hc) it a hai its.toArray
    refine wpAny_pyNext_enum_itemD D he ⟨hit, p'⟩ hlt hne (by simp [hne, hnea]) fun u' h' tk hP' ho st' hT hsz hk => ?_
    have hu2 : u' = u := by
      have : its.toArray[i]? = some u' := hP'
      rw [show its.toArray[i]? = its[i]? by simp] at this
      rw [hu] at this
      exact (Option.some.inj this).symm
    subst hu2
    have hit' := st'.1
    refine ⟨_, rfl, wpAny_letOwnedTupleGo_enum (s := { s with heap := h', toks := tk + 1 }) ho fun h'' he' sb => ?_⟩
    have hT2 : h''.get? s.heap.objs.size = some { cls := .type "tuple", data := .seq #[.int i tk, u'] } := (sb.2 _ (Nat.ne_of_gt hel)).trans hT
    have new : ObjOk X.prog X.w (upd H s.heap.objs.size (.tup [.int (i : Nat), x])) h'' s.heap.objs.size (.tup [.int (i : Nat), x]) :=
      ⟨by show 2 ≤ sizeLine; decide, [.int i tk, u'], .cons ⟨_, rfl⟩ (.cons ru .nil), ⟨_, hT2, rfl, _, rfl⟩⟩
    have I1 : Inv X pins σ (upd H s.heap.objs.size (.tup [.int (i : Nat), x])) { s with heap := h'', toks := tk + 1 } :=
      I.turnedNew (ch := [e, it]) (fun b ob hb q => (sb.2 b (fun z => hb (by simp [z]))).trans (hk b ob (fun z => hb (by simp [z])) (fun z => hb (by simp [z])) q)) hf (Nat.le_refl _) new
    refine ⟨.ref s.heap.objs.size, _, I1, rfl, ⟨_, x, rfl, I.hok.fresh (Nat.le_refl _), rfl, fun ys hy => by rw [I.tuple_inj hy hq]; exact hx⟩, ⟨⟨u', ?_⟩, hit'.at fun o q => (sb.2 it (Ne.symm hne)).trans q, hne, hnea⟩, fun b hb => ?_⟩
    · have e1 : ((i + 1 : Nat) : Int) = (i : Int) + 1 := by omega
      rw [e1]; exact he'
    · have hb' : b < s.heap.objs.size := by
        have e' : b = e ∨ b = it := by simpa using hb
        rcases e' with z | z
        · rw [z]; exact hel
        · rw [z]; exact hil
      rw [upd_ne (Nat.ne_of_lt hb')]
      exact (hf b hb).1
  done := by
    intro X hP hw hK hc i pins s σ H E I hf st hg
    subst hP hw hK
    obtain ⟨⟨old, he⟩, hit, hne, hnea⟩ := st
    obtain ⟨xs, hq, hx⟩ := hg
    obtain ⟨its, rv, p, hz⟩ := I.tuple hq
    obtain ⟨f0, f1, f2, f3, f4, f5⟩ := hf it (by simp)
    have hl := rv.length
    have p' : s.heap.IsTuple a its.toArray := p
    have D := Draws.tuple (prog := X.prog) (w := X.w) (A := X.A.in1) (I.ok.hd hc) it a hai its.toArray
    have hi : i = its.toArray.size := by rw [List.size_toArray]; omega
    rw [hi] at hit
    exact wpAny_pyNext_enum_endD D he ⟨hit, p'⟩ fun h' eb => ⟨rfl, I.turned (t' := s.toks) (fun b o hb q => eb b o hb q) f0 f1 f3 f4 f5⟩
  self := fun A i s Q E st h => let ⟨⟨_, he⟩, _⟩ := st; wpAny_pyIter_enum he h
def iEnumT (K : PySem.W.Frag) (ta : TA) : TI := fun σ H R => ta σ H fun vs H1 => ∃ a xs, vs = [.ref a] ∧ SqT K H1 a xs ∧ R (IteT K a) H1
theorem meets_enumerate_newT (t : Addr) (items : Array Value) :
    Meets (Builtin.«enumerate.__new__» ⟨[.type "enumerate", .ref t], []⟩) (fun _ R s => s.heap.IsTuple t items ∧
      R (.ok (.ret (.ref (s.heap.push { cls := .type "tuple_iterator", data := .fields #[.ref t, .int 0 0] }).objs.size)))
        { s with heap := (s.heap.push { cls := .type "tuple_iterator", data := .fields #[.ref t, .int 0 0] }).push { cls := .type "enumerate", data := .fields #[.none, .bool false, .ref s.heap.objs.size, rawInt 0, .none, .none] } }) :=
  .of_wp fun prog w A R s h => by
    obtain ⟨hp, g, d, tk, os⟩ := s
    obtain ⟨hL, h⟩ := h
    have hsub := sub_enumerate
    have q1 : ∀ {A' : Around} {E : Value → Shared → Prop} {Q : Value → Shared → Prop}, Q (.ref hp.objs.size) ⟨hp.push { cls := .type "tuple_iterator", data := .fields #[.ref t, .int 0 0] }, g, d, tk, os⟩ → wpAny (model prog w) A' (pyIter (.ref t)) Q E ⟨hp, g, d, tk, os⟩ :=
      fun q => wpAny_pyIter_tuple hL q
    wp_walk using q1
    refine wpAny_stack_any fun st => wpAny_pure ?_
    split
    · rename_i c _ _ _ _ _
      cases (c == Value.type "enumerate")
      · wp_walk using q1
        exact ⟨_, rfl, h⟩
      · wp_walk using q1
        exact ⟨_, rfl, h⟩
    · wp_walk using q1
      exact ⟨_, rfl, h⟩
theorem call_enumerate_tuple {prog : Program} {w : World} {A : Around} {E : Value → Shared → Prop} {s : Shared} {t : Addr} {items : Array Value} {Q : Value → Shared → Prop} (ht : s.heap.IsTuple t items)
    (h : ∀ h', IsEnum h' (s.heap.objs.size + 1) s.heap.objs.size 0 .none → h'.IsTupleIter s.heap.objs.size t 0 → h'.objs.size = s.heap.objs.size + 2 →
      (∀ b o, s.heap.get? b = some o → h'.get? b = some o) → Q (.ref (s.heap.objs.size + 1)) { s with heap := h' }) :
    wpAny (model prog w) A (call (.type "enumerate") [.ref t]) Q E s := by
  refine callType_new F.called_enumerate (by decide) (F.typeCall_enumerate_1 _) (F.newCall_enumerate_1 _) (fun obj => F.args_object_init_2 obj _) F.entry_enumerate_new
    (meets_enumerate_newT t items) ⟨ht, ?_⟩
  have hz : (s.heap.push { cls := .type "tuple_iterator", data := .fields #[.ref t, .int 0 0] }).objs.size = s.heap.objs.size + 1 := Heap.size_push ..
  show _ ∧ _
  rw [hz]
  have he : IsEnum ((s.heap.push { cls := .type "tuple_iterator", data := .fields #[.ref t, .int 0 0] }).push
      { cls := .type "enumerate", data := .fields #[.none, .bool false, .ref s.heap.objs.size, rawInt 0, .none, .none] }) (s.heap.objs.size + 1) s.heap.objs.size 0 .none := by
    have := Heap.get?_push_size (s.heap.push { cls := .type "tuple_iterator", data := .fields #[.ref t, .int 0 0] }) (o := { cls := .type "enumerate", data := .fields #[.none, .bool false, .ref s.heap.objs.size, rawInt 0, .none, .none] }) rfl
    rw [hz] at this; exact this
  have hi : s.heap.push { cls := .type "tuple_iterator", data := .fields #[.ref t, .int 0 0] } |>.IsTupleIter s.heap.objs.size t 0 := ⟨_, Heap.get?_push_size _ rfl, rfl, rfl⟩
  refine ⟨⟨_, he, rfl⟩, h _ he (hi.at fun o e => Heap.get?_push_of_some _ e) (by rw [Heap.size_push, hz]) fun b o x => Heap.get?_push_of_some _ (Heap.get?_push_of_some _ x)⟩
theorem pi_enumT {X : Cx} {e : Expr} {ta : TA} {p pos tpos : Pos} {elts : List Expr} {kk : Nat} (hg : Gl X "enumerate") (hm : X.mg "enumerate" = none) (ha : PA X [e] ta) (hs : starEach [e] X.env = [(false, eval e X.env)] := by rfl) :
    PI X (.Tuple elts kk tpos) (.Call (.Name "enumerate" p) [e] [] pos) (iEnumT X.K ta) := by
  refine ⟨fun pins s σ H R I h => ?_⟩
  refine Call_ (ld_blt I hg hm boot_enumerate (PyProof.Rows.callWith_type1 (thn (ha.run pos pins s σ H _ I h) fun us s1 ⟨vs, H1, I1, r1, q1⟩ => ?_) hs rfl))
  obtain ⟨a, xs, ex, hq, q⟩ := q1
  subst ex
  cases r1 with
  | cons r rr =>
    cases rr
    cases r
    obtain ⟨its, rv, p', hz⟩ := I1.tuple hq
    have hlt : a < s1.heap.objs.size := p'.lt
    refine call_enumerate_tuple p' fun h' he hit hsz hk => wpAny_pyIter_enum he ?_
    have I2 : Inv X pins σ H1 { s1 with heap := h' } := I1.kept (t' := s1.toks) hk
    refine ⟨s1.heap.objs.size + 1, [s1.heap.objs.size + 1, s1.heap.objs.size], _, _, H1, rfl, I2, turn_enumT a (s1.heap.objs.size + 1) s1.heap.objs.size (Nat.ne_of_lt hlt), ⟨⟨.none, he⟩, hit, Nat.succ_ne_self _, Nat.ne_of_gt (Nat.lt_succ_of_lt hlt)⟩, fun b hb => ?_, q⟩
    have e' : b = s1.heap.objs.size + 1 ∨ b = s1.heap.objs.size := by simpa using hb
    have hle : s1.heap.objs.size ≤ b := by
      rcases e' with z | z
      · rw [z]; exact Nat.le_add_right _ _
      · rw [z]; exact Nat.le_refl _
    exact I1.fpOk hle (I1.hok.fresh hle)
theorem walk_enumT {K : PySem.W.Frag} {a : Addr} {xs : List V} : Walk (IteT K a) xs.length (fun H => SqT K H a xs) (YPair (fun i => some (.int (i : Nat))) (fun i => xs[i]?)) := by
  refine ⟨fun i _ hi q => ⟨xs, xs[i], q, by simp [hi]⟩, fun _ q => ⟨xs, q, rfl⟩, fun i H v H' _ q y => ?_⟩
  obtain ⟨T, x, h1, h2, h3, h4⟩ := y
  exact ⟨T, .int (i : Nat), x, h1, h2, h3, rfl, h4 xs q⟩
/-! ### sorted(t), t a tuple of ints -/
section
variable {prog : Program} {w : World} {A : Around} {E : Value → Shared → Prop} {s : Shared}
open SrtO in
theorem sorted_ordT {t : Addr} {vs : List Value} {ltv : Value → Value → Bool} {Q : Value → Shared → Prop} (O : SrtO.Swo ltv) (ht : IsTup s.heap t vs.toArray) (hz : vs.length ≤ sizeLine)
    (hS : 2 ≤ vs.length → ∀ (h₁ : Heap) (a : Addr), h₁.get? a = some (seqObj "list" vs.toArray 0) → (∀ b o, s.heap.get? b = some o → b ≠ a ∧ h₁.get? b = some o) → SrtO.SortableO prog w A.in1.in1 { s with heap := h₁ } a vs ltv)
    (h : ∀ (h' : Heap) (out : List Value), SrtO.Srtd ltv out → SrtO.Stb ltv out vs → (∀ b o, s.heap.get? b = some o → h'.get? b = some o) →
      Q (.ref h'.objs.size) { s with heap := sortedHeap (h'.push (seqObj "list" vs.toArray 0)) h'.objs.size vs out.toArray }) :
    wpAny (model prog w) A (call (.builtin "sorted") [.ref t]) Q E s := by
  obtain ⟨o, ho, hc, n, hd⟩ := id ht
  refine Calls.call_function_entry kind_sorted plain_sorted entry_sorted (args_sorted1 _) ?_
  unfold Builtin.«sorted»
  refine wpAny_bind (m := checkCount "sorted" 1 1 _) (wpAny_pure ?_)
  refine wpAny_bind (wpAny_collect_seq (hsz := by rw [List.size_toArray]; exact hz) t (.inr rfl) ho hc hd fun h' hk => ?_)
  refine wpAny_bind (wpAny_newList ?_ hz)
  have hoL : (h'.push (seqObj "list" vs.toArray 0)).get? h'.objs.size = some (seqObj "list" vs.toArray 0) := Heap.get?_push_size _ rfl
  have keep : ∀ b o, s.heap.get? b = some o → b ≠ h'.objs.size ∧ (h'.push (seqObj "list" vs.toArray 0)).get? b = some o := fun b o q =>
    ⟨Nat.ne_of_lt (Heap.lt_size (hk b o q)), Heap.get?_push_of_some _ (hk b o q)⟩
  show wpAny _ _ _ _ _ { s with heap := h'.push (seqObj "list" vs.toArray 0) }
  refine wpAny_bind (wpAny_holding (wpAny_call_entry slot_list_sort ⟨_, hoL, rfl⟩ entry_list_sort (SrtO.list_sort_ord O hoL hz (fun h2 => hS h2 _ _ hoL keep) fun out hs hb => ⟨_, rfl, ?_⟩) (args_list_sort _)))
  exact wpAny_pure ⟨_, rfl, h h' out hs hb hk⟩
end
section
variable {X : Cx}
def rSortedTI (K : PySem.W.Frag) : List V → Hp → VK → Prop := fun vs H Q => ∃ (a : Addr) (ns : List Int), vs = [V.ref a] ∧ SqT K H a (ns.map V.int) ∧
  ∀ (ns' : List Int) (p : Addr), ns'.Perm ns → ns'.Pairwise (· ≤ ·) → H p = none → Q (.ref p) (upd H p (.lst (ns'.map V.int)))
theorem cr_sortedTI : CallR X (.builtin "sorted") (rSortedTI X.K) := by
  intro pins s σ H vs us Q I r h
  obtain ⟨a, ns, rfl, hs, q⟩ := h
  obtain ⟨its, rv, hl, hz⟩ := I.tuple hs
  rw [Vals.ref1 r]
  have hi := rv.ints
  refine sorted_ordT SrtO.swo_int hl (by rw [← rv.length]; exact hz) (fun h2 h₁ a' _ _ => SrtO.ints_sortable hi h2) fun h' out h1 h2 hk => ?_
  obtain ⟨k1, k2, k3⟩ := SrtO.ints_out hi h1 h2
  obtain ⟨ep, he'⟩ := PyProof.Rows.sortedHeap_at (h := h'.push (seqObj "list" its.toArray 0)) (a := h'.objs.size) (vs := its) (out := out.toArray) (Heap.get?_push_size _ rfl)
  have hlen : ((out.map SrtO.iv).map V.int).length ≤ sizeLine := by
    rw [List.length_map, k2.length_eq]
    rw [List.length_map] at hz
    exact hz
  have I1 : Inv X pins σ H { s with heap := h' } := I.kept (t' := s.toks) hk
  refine ⟨.ref _, upd H h'.objs.size (.lst ((out.map SrtO.iv).map V.int)), I1.laid (t' := s.toks) (fun b ob e => ?_) (Nat.le_refl _) ⟨hlen, out, ep, vals_of_ints k1, he'⟩, rfl, q _ _ k2 k3 (I1.hok.fresh (Nat.le_refl _))⟩
  have hb : b < h'.objs.size := Heap.lt_size e
  rw [sortedHeap_old (Nat.ne_of_lt hb) (by rw [Heap.size_push]; exact Nat.lt_succ_of_lt hb)]
  exact Heap.get?_push_of_some _ e
end
/-! ### t * k, any small k from 0 on -/
section
variable {X : Cx}
theorem tuple_mul1 (l : Addr) (items : Array Value) (n : Nat) (dd : Option Addr) (sl : Array (Option Value)) (u : Tok) :
    Meets (Builtin.«tuple.__mul__» ⟨[.ref l, .int 1 u], []⟩) (fun _ R s => s.heap.get? l = some { cls := .type "tuple", dict := dd, data := .seq items n, slots := sl } ∧
      R (.ok (.ret (Value.ref l))) s) :=
  .of_wp fun prog w A R s h => by
    obtain ⟨hp, g, d, tk, os⟩ := s
    obtain ⟨hl, h⟩ := h
    have f1 := AutoSeq1.idx_int
    wp_walk using wpAny_loadPart' hl
    exact ⟨_, rfl, h⟩
theorem tuple_mul0 (l : Addr) (items : Array Value) (n : Nat) (dd : Option Addr) (sl : Array (Option Value)) (u : Tok) (c1 : items.isEmpty = false) :
    Meets (Builtin.«tuple.__mul__» ⟨[.ref l, .int 0 u], []⟩) (fun _ R s => s.heap.get? l = some { cls := .type "tuple", dict := dd, data := .seq items n, slots := sl } ∧
      R (.ok (.ret (Value.ref s.heap.objs.size))) { s with heap := s.heap.push { cls := Value.type "tuple", data := Data.seq #[] } }) :=
  .of_wp fun prog w A R s h => by
    obtain ⟨hp, g, d, tk, os⟩ := s
    obtain ⟨hl, h⟩ := h
    have f1 := AutoSeq1.idx_int
    wp_walk using wpAny_loadPart' hl
    repeat (first
      | (refine wpAny_ite_false (decide_eq_false (by rw [c1]; decide)) ?_; wp_walk using wpAny_loadPart' hl)
      | (refine wpAny_ite_true (decide_eq_true (by rw [c1]; decide)) ?_; wp_walk using wpAny_loadPart' hl))
    exact ⟨_, rfl, h⟩
def rRepA (K : PySem.W.Frag) : R2 := fun x y H Q => ∃ l k xs, x = .ref l ∧ y = .int k ∧ SqT K H l xs ∧ xs ≠ [] ∧ 0 ≤ k ∧ k ≤ 1000 ∧ xs.length ≤ 1000 ∧
  (k = 1 → Q (.ref l) H) ∧ (k ≠ 1 → ∀ p, H p = none → Q (.ref p) (upd H p (.tup (List.replicate k.toNat xs).flatten)))
theorem op_repA : OpR X (binaryOp .Mult) (rRepA X.K) := by
  intro pins s σ H x y v u Q I rx ry h
  obtain ⟨l, k, xs, rfl, rfl, hT, hne, h1, h2, hz, q1, q2⟩ := h
  by_cases hk : 2 ≤ k
  · exact op_repT pins s σ H _ _ v u Q I rx ry ⟨l, k, xs, rfl, rfl, hT, hne, hk, h2, hz, q2 (by omega)⟩
  cases rx
  obtain ⟨t, rfl⟩ := ry
  obtain ⟨its, r, ⟨⟨cls, dd, data, sl⟩, ho, hc, n, hd⟩, hs⟩ := I.tuple hT
  simp only at hc hd
  subst hc hd
  have hle : its.length = xs.length := r.length.symm
  have hn : its ≠ [] := fun e => hne (by
    rw [e] at hle
    exact List.eq_nil_of_length_eq_zero hle.symm)
  have hi : its.toArray.isEmpty = false := by
    cases its with
    | nil => exact absurd rfl hn
    | cons a b => rfl
  rcases (show k = 0 ∨ k = 1 by omega) with rfl | rfl
  · refine wpAny_binaryOp_repeat_ref (T := "tuple") (U := "int") (by decide) ⟨_, ho, rfl⟩ (fun s' => typeIs_int s' 0 t) noFill_tuple_mul F.fills_int_mul F.slot_int_rmul repeat_tuple F.slot_int_index.lookup
      (call_meets F.slot_int_rmul (typeIs_int s 0 t) F.entry_int_rmul (F.args_int_rmul_2 _ _) (int_rmul_tuple 0 t l its.toArray n dd sl)
        ⟨ho, rfl, ⟨_, ho, rfl⟩, call_meets F.slot_tuple_mul ⟨_, ho, rfl⟩ F.entry_tuple_mul (F.args_tuple_mul_2 _ _) (tuple_mul0 l its.toArray n dd sl t hi) ⟨ho, ?_⟩⟩)
    refine ⟨.ref s.heap.objs.size, _, I.laid (t' := s.toks) (o := .tup (List.replicate (0 : Int).toNat xs).flatten) (fun b ob q => Heap.get?_push_of_some _ q) (Nat.le_refl _) ?_, rfl, q2 (by decide) _ (I.hok.fresh (Nat.le_refl _))⟩
    exact ⟨Nat.zero_le _, [], .nil, IsTup.new _ _⟩
  · refine wpAny_binaryOp_repeat_ref (T := "tuple") (U := "int") (by decide) ⟨_, ho, rfl⟩ (fun s' => typeIs_int s' 1 t) noFill_tuple_mul F.fills_int_mul F.slot_int_rmul repeat_tuple F.slot_int_index.lookup
      (call_meets F.slot_int_rmul (typeIs_int s 1 t) F.entry_int_rmul (F.args_int_rmul_2 _ _) (int_rmul_tuple 1 t l its.toArray n dd sl)
        ⟨ho, rfl, ⟨_, ho, rfl⟩, call_meets F.slot_tuple_mul ⟨_, ho, rfl⟩ F.entry_tuple_mul (F.args_tuple_mul_2 _ _) (tuple_mul1 l its.toArray n dd sl t) ⟨ho, ?_⟩⟩)
    exact ⟨.ref l, H, I, rfl, q1 rfl⟩
end
end TT

/-! what stands for data in the heap; short rules -/
namespace TT
open PySem L2
/-! ### what stays: every object but lists -/
def Keep (H H' : Hp) : Prop := ∀ b o, (∀ xs, o ≠ .lst xs) → H b = some o → H' b = some o
theorem Keep.refl (H : Hp) : Keep H H := fun _ _ _ h => h
theorem Keep.trans {H H1 H2 : Hp} (a : Keep H H1) (b : Keep H1 H2) : Keep H H2 := fun c o n h => b c o n (a c o n h)
theorem _root_.L2.Same.keep {H H' : Hp} (s : Same H H') : Keep H H' := fun b o _ h => s b o h
theorem Keep.tup {H H' : Hp} (k : Keep H H') {t : Addr} {xs : List V} (h : H t = some (.tup xs)) : H' t = some (.tup xs) := k t _ (fun _ q => nomatch q) h
theorem Keep.ins {H H' : Hp} (k : Keep H H') {t C dx : Addr} {xs : List (Str × V)} (h : H t = some (.ins C dx xs)) : H' t = some (.ins C dx xs) := k t _ (fun _ q => nomatch q) h
theorem same_new {H : Hp} {p : Addr} {o : HO} (h : H p = none) : Same H (upd H p o) := fun b u e => by rw [upd_ne (ne_of_none e h)]; exact e
theorem same_own {H0 H : Hp} {p : Addr} {o : HO} (s : Same H0 H) (h : H0 p = none) : Same H0 (upd H p o) := fun b u e => by rw [upd_ne (ne_of_none e h)]; exact s b u e
theorem keep_lst {H : Hp} {p : Addr} {xs : List V} {o : HO} (h : H p = some (.lst xs)) : Keep H (upd H p o) := fun b u n e => by
  have : b ≠ p := fun q => by subst q; rw [h] at e; cases e; exact n _ rfl
  rw [upd_ne this]; exact e
/-- all but the list at g -/
def But (g : Addr) (H H' : Hp) : Prop := ∀ b o, b ≠ g → H b = some o → H' b = some o
theorem But.refl (g : Addr) (H : Hp) : But g H H := fun _ _ _ h => h
theorem But.trans {g : Addr} {H H1 H2 : Hp} (a : But g H H1) (b : But g H1 H2) : But g H H2 := fun c o n h => b c o n (a c o n h)
theorem _root_.L2.Same.but {H H' : Hp} (s : Same H H') (g : Addr) : But g H H' := fun b o _ h => s b o h
theorem But.keep {g : Addr} {H H' : Hp} (k : But g H H') {ys : List V} (hg : H g = some (.lst ys)) : Keep H H' := fun b o n h => by
  by_cases e : b = g
  · subst e; rw [hg] at h; cases h; exact absurd rfl (n _)
  · exact k b o e h
theorem But.free {g : Addr} {H H' : Hp} (k : But g H H') {p : Addr} (hp : H' p = none) (h : p ≠ g) : H p = none := by
  cases q : H p with
  | none => rfl
  | some o => rw [k p o h q] at hp; cases hp
theorem but_upd {g : Addr} {H : Hp} {o : HO} : But g H (upd H g o) := fun b u n e => by rw [upd_ne n]; exact e
/-! ### data -/
abbrev Rp (α : Type) := Hp → V → α → Prop
def Mono {α : Type} (R : Rp α) : Prop := ∀ H H' v x, Keep H H' → R H v x → R H' v x
def rInt : Rp Int := fun _ v n => v = .int n
def rRow : Rp (List Int) := fun H v l => ∃ t, v = .ref t ∧ H t = some (.tup (l.map V.int))
def rPI : Rp (Int × Int) := fun H v p => ∃ t, v = .ref t ∧ H t = some (.tup [.int p.1, .int p.2])
def rTup {α : Type} (R : Rp α) : Rp (List α) := fun H v l => ∃ t xs, v = .ref t ∧ H t = some (.tup xs) ∧ Paired (R H) xs l
theorem mono_int : Mono rInt := fun _ _ _ _ _ h => h
theorem mono_row : Mono rRow := fun _ _ _ _ k ⟨t, e, h⟩ => ⟨t, e, k.tup h⟩
theorem mono_pi : Mono rPI := fun _ _ _ _ k ⟨t, e, h⟩ => ⟨t, e, k.tup h⟩
theorem paired_mono {α : Type} {R : Rp α} (m : Mono R) {H H' : Hp} (k : Keep H H') {xs : List V} {l : List α} (p : Paired (R H) xs l) : Paired (R H') xs l := Paired.mapP p fun _ _ h => m _ _ _ _ k h
theorem mono_tup {α : Type} {R : Rp α} (m : Mono R) : Mono (rTup R) := fun _ _ _ _ k ⟨t, xs, e, h, p⟩ => ⟨t, xs, e, k.tup h, paired_mono m k p⟩
theorem paired_len {α β : Type} {F : α → β → Prop} : ∀ {xs : List α} {l : List β}, Paired F xs l → xs.length = l.length := Paired.length
theorem paired_get2 {α β : Type} {F : α → β → Prop} : ∀ {xs : List α} {l : List β} {i : Nat} {y : β}, Paired F xs l → l[i]? = some y → ∃ x, xs[i]? = some x ∧ F x y
  | _, _, _, _, .nil, e => by simp at e
  | _, _, 0, _, .cons r _, e => by simp at e; subst e; exact ⟨_, rfl, r⟩
  | _, _, i + 1, x, .cons _ t, e => by
    obtain ⟨u, h1, h2⟩ := paired_get2 (i := i) (y := x) t (by simpa using e)
    exact ⟨u, by simpa using h1, h2⟩
theorem paired_int : ∀ {xs : List V} {l : List Int} {H : Hp}, Paired (rInt H) xs l → xs = l.map V.int
  | _, _, _, .nil => rfl
  | _, _, _, .cons r t => by cases r; rw [List.map_cons, paired_int t]
theorem paired_ints {H : Hp} : ∀ (l : List Int), Paired (rInt H) (l.map V.int) l
  | [] => .nil
  | _ :: r => .cons rfl (paired_ints r)
theorem paired_app {α β : Type} {F : α → β → Prop} : ∀ {xs : List α} {l : List β} {ys : List α} {m : List β}, Paired F xs l → Paired F ys m → Paired F (xs ++ ys) (l ++ m)
  | _, _, _, _, .nil, q => q
  | _, _, _, _, .cons r t, q => .cons r (paired_app t q)
theorem paired_perm {α β : Type} {F : α → β → Prop} : ∀ {ys xs : List α}, ys.Perm xs → ∀ {l : List β}, Paired F xs l → ∃ m, m.Perm l ∧ Paired F ys m := by
  intro ys xs h
  induction h with
  | nil => intro l p; cases p; exact ⟨[], .refl _, .nil⟩
  | cons x h ih => intro l p; cases p with | cons r t => obtain ⟨m, h1, h2⟩ := ih t; exact ⟨_ :: m, .cons _ h1, .cons r h2⟩
  | swap x y t => intro l p; cases p with | cons r1 p => cases p with | cons r2 p => exact ⟨_ :: _ :: _, .swap _ _ _, .cons r2 (.cons r1 p)⟩
  | trans h1 h2 ih1 ih2 => intro l p; obtain ⟨m, a, b⟩ := ih2 p; obtain ⟨m', c, d⟩ := ih1 b; exact ⟨m', c.trans a, d⟩
theorem seqt_row {K : PySem.W.Frag} {H : Hp} {t : Addr} {xs : List V} (h : H t = some (.tup xs)) : SqT K H t xs := .of h
theorem at_int {l : List Int} {i : Nat} {x : V} (h : (l.map V.int)[i]? = some x) : ∃ n, l[i]? = some n ∧ x = .int n := by
  rw [List.getElem?_map] at h
  cases e : l[i]? with
  | none => rw [e] at h; cases h
  | some n => rw [e] at h; exact ⟨n, rfl, (Option.some.inj h).symm⟩
theorem int_at {l : List Int} {i : Nat} {n : Int} (h : l[i]? = some n) : (l.map V.int)[i]? = some (.int n) := by rw [List.getElem?_map, h]; rfl
/-! ### short rules -/
section
variable {X : Cx}
theorem ty_int {p : Pos} (hm : X.mg "int" = none) (hg : Gl X "int" := by rfl) : PE X (.Name "int" p) (tC (.ty "int")) := pe_bltn hg hm (by decide +kernel) (u := .type "int") rfl
theorem ty_bool {p : Pos} (hm : X.mg "bool" = none) (hg : Gl X "bool" := by rfl) : PE X (.Name "bool" p) (tC (.ty "bool")) := pe_bltn hg hm (by decide +kernel) (u := .type "bool") rfl
theorem ty_tuple {p : Pos} (hm : X.mg "tuple" = none) (hg : Gl X "tuple" := by rfl) : PE X (.Name "tuple" p) (tC (.ty "tuple")) := pe_bltn hg hm (by decide +kernel) (u := .type "tuple") rfl
theorem ty_list {p : Pos} (hm : X.mg "list" = none) (hg : Gl X "list" := by rfl) : PE X (.Name "list" p) (tC (.ty "list")) := pe_bltn hg hm (by decide +kernel) (u := .type "list") rfl
end
section
variable {K : PySem.W.Frag}
theorem kit_ii : PySem.W.kitOne K (.type "int") (.type "int") = some true := kit_ty (by decide +kernel)
theorem kit_ib : PySem.W.kitOne K (.type "int") (.type "bool") = some false := kit_ty (by decide +kernel)
theorem kit_tt : PySem.W.kitOne K (.type "tuple") (.type "tuple") = some true := kit_ty (by decide +kernel)
end
/-! ### rules whose reading speaks of K, for the blocks of comprehensions -/
section
variable {X : Cx} {K : PySem.W.Frag}
theorem ixT (h : X.K = K) : IxR X (rIxT K) := h ▸ ix_tup
theorem ixL (h : X.K = K) : IxR X (rIxL K) := h ▸ ix_list
theorem inS (h : X.K = K) : OpR X (compareOp .In) (rIn K false) := h ▸ op_in_seq
theorem ninS (h : X.K = K) : OpR X (compareOp .NotIn) (rIn K true) := h ▸ op_notIn_seq
theorem lenS (h : X.K = K) : CallR X (.builtin "len") (fun xs H Q => ∃ p ys, xs = [.ref p] ∧ (SqL K H p ys ∨ SqT K H p ys) ∧ Q (.int ys.length) H) := h ▸ call_len_seq
theorem isiS (h : X.K = K) : CallR X (.builtin "isinstance") (rIsi K) := h ▸ call_isi
theorem piT {tg l : Expr} {tl : TE} (hh : X.K = K) (hl : PI X tg l (iTup X.K tl)) : PI X tg l (iTup K tl) := hh ▸ hl
theorem pgT {es : List Expr} {k : Nat} {t : TGs} {n : Nat} {pos : Pos} (hh : X.K = K) (hc : X.calm = true) (h : PGs X es t) (hn : (assignEach es X.env).length = n := by rfl) (hst : (assignEach es X.env).findIdx? (·.1) = none := by rfl) : PG X (.Tuple es k pos) (gTup K n t) := hh ▸ pg_tup hc h hn hst
theorem fldK {o : Expr} {ta : TE} {f : Str} {pos : Pos} (he : PE X o ta) (hh : X.K = K) (hb : attributeBase o f X.env (eval o X.env) = eval o X.env) : PE X (.Attribute o f pos) (tFld K ta f) := hh ▸ pe_fld he hb
theorem tupS (h : X.K = K) : CallR X (.type "tuple") (fun xs H Q => ∃ p ys, xs = [.ref p] ∧ ((SqL K H p ys ∧ ∀ l, H l = none → Q (.ref l) (upd H l (.tup ys))) ∨ (SqT K H p ys ∧ Q (.ref p) H))) := h ▸ call_tuple_of
end
/-! ### comprehensions -/
section
variable {J : It} {n : Nat} {G : Hp → Prop} {Y : Nat → Hp → V → Hp → Prop} {g : TG} {tt : TT} {te : TE} {vs : List Nat} {σ : St} {H1 : Hp} {D : Addr} {Qd : Hp → Prop} {α : Type}
theorem range_fm {f : Nat → Option α} {i : Nat} : (List.range (i + 1)).filterMap f = (List.range i).filterMap f ++ (f i).toList := by
  rw [List.range_succ, List.filterMap_append]
  congr 1
theorem fm_len {f : Nat → Option α} {i : Nat} : ((List.range i).filterMap f).length ≤ i := by
  have := List.length_filterMap_le f (List.range i)
  rw [List.length_range] at this
  exact this
/-- the list at D holds what f tells of the turns so far, all else stays -/
def PvFm (R : Rp α) (f : Nat → Option α) (D : Addr) (H1 : Hp) (i : Nat) (H : Hp) : Prop := Same H1 H ∧ ∃ xs, H D = some (.lst xs) ∧ Paired (R H) xs ((List.range i).filterMap f)
theorem fm_keep {R : Rp α} (m : Mono R) {f : Nat → Option α} {i : Nat} {H H4 : Hp} {y : V} {a : α} (p : PvFm R f D H1 i H) (hD : H1 D = none) (hi : i ≤ 100000) (s4 : Same H H4) (ea : f i = some a) (ra : R H4 y a) :
    ∃ acc, H4 D = some (.lst acc) ∧ acc.length < sizeLine ∧ PvFm R f D H1 (i + 1) (upd H4 D (.lst (acc ++ [y]))) := by
  obtain ⟨s, xs, h1, h2⟩ := p
  have hl : xs.length ≤ i := by rw [paired_len h2]; exact fm_len
  have hD4 : H4 D = some (.lst xs) := s4 _ _ h1
  have k5 : Keep H4 (upd H4 D (.lst (xs ++ [y]))) := keep_lst hD4
  refine ⟨xs, hD4, Nat.lt_of_le_of_lt (Nat.le_trans hl hi) (by decide), same_own (s.trans s4) hD, xs ++ [y], upd_same, ?_⟩
  rw [range_fm, ea]
  exact paired_app (paired_mono m k5 (paired_mono m s4.keep h2)) (.cons (m _ _ _ _ k5 ra) .nil)
theorem fm_skip {R : Rp α} (m : Mono R) {f : Nat → Option α} {i : Nat} {H H3 : Hp} (p : PvFm R f D H1 i H) (s3 : Same H H3) (e : f i = none) : PvFm R f D H1 (i + 1) H3 := by
  obtain ⟨s, xs, h1, h2⟩ := p
  refine ⟨s.trans s3, xs, s3 _ _ h1, ?_⟩
  rw [range_fm, e]
  simpa using paired_mono m s3.keep h2
/-- a comprehension that makes a list of what f tells, all else staying -/
theorem lc_fm (w : Walk J n G Y) (R : Rp α) (f : Nat → Option α) (hD : H1 D = none) (hG : ∀ H, Same H1 H → G H)
    (hs : ∀ i x H H', i < n → PvFm R f D H1 i H → Y i H x H' → g x (wipe σ vs) H' fun σ2 H2 => wipe σ2 vs = wipe σ vs ∧ tt σ2 H2 fun b H3 =>
      if b = true then te σ2 H3 fun y H4 => ∃ acc, H4 D = some (.lst acc) ∧ acc.length < sizeLine ∧ PvFm R f D H1 (i + 1) (upd H4 D (.lst (acc ++ [y]))) else PvFm R f D H1 (i + 1) H3)
    (hd : ∀ H xs, Same H1 H → H D = some (.lst xs) → Paired (R H) xs ((List.range n).filterMap f) → Qd H) :
    ∃ W : Nat → Nat → Hp → Prop, (∃ m, W 0 m (upd H1 D (.lst []))) ∧ ∀ i m H, W i m H →
      (J.stop i H ∧ Qd H) ∨ (J.go i H ∧ ∃ Nx : Hp → Prop, (∀ H', Nx H' → ∃ m', m' < m ∧ W (i + 1) m' H') ∧ ∀ x H', J.yld i H x H' → g x (wipe σ vs) H' fun σ2 H2 => wipe σ2 vs = wipe σ vs ∧ tt σ2 H2 fun b H3 =>
        if b = true then te σ2 H3 fun y H4 => ∃ acc, H4 D = some (.lst acc) ∧ acc.length < sizeLine ∧ Nx (upd H4 D (.lst (acc ++ [y]))) else Nx H3) :=
  lc_it w (PvFm R f D H1) ⟨same_new hD, [], upd_same, .nil⟩ (fun i H _ h => hG H h.1) hs (fun H ⟨s, xs, h1, h2⟩ => hd H xs s h1 h2)
theorem fm_all {β : Type} (h : Nat → β) : ∀ n : Nat, (List.range n).filterMap (fun i => some (h i)) = (List.range n).map h := fun n => by rw [List.filterMap_eq_map']
theorem fm_list {β : Type} (l : List α) (h : α → Option β) : (List.range l.length).filterMap (fun i => l[i]?.bind h) = l.filterMap h := by
  have e : ∀ (m : Nat), m ≤ l.length → (List.range m).filterMap (fun i => l[i]?.bind h) = (l.take m).filterMap h := by
    intro m
    induction m with
    | zero => intro _; rfl
    | succ m ih =>
      intro hm
      rw [range_fm, ih (by omega), List.take_succ, List.filterMap_append]
      congr 1
      have hl : l[m]? = some l[m] := List.getElem?_eq_getElem (by omega)
      rw [hl]
      show (h l[m]).toList = List.filterMap h [l[m]]
      rw [List.filterMap_cons]
      cases h l[m] <;> rfl
  have := e l.length (Nat.le_refl _)
  rwa [List.take_length] at this
end
/-! ### sorted(a list of pairs of ints), by what the pairs are -/
def lxLt (a b : Int × Int) : Prop := a.1 < b.1 ∨ (a.1 = b.1 ∧ a.2 < b.2)
instance (a b : Int × Int) : Decidable (lxLt a b) := by unfold lxLt; infer_instance
def lxLe (a b : Int × Int) : Prop := ¬ lxLt b a
noncomputable def kOf (H : Hp) (v : V) : Int × Int := open Classical in if h : ∃ z, rPI H v z then h.choose else (0, 0)
theorem kOf_eq {H : Hp} {v : V} {z : Int × Int} (h : rPI H v z) : kOf H v = z := by
  have hx : ∃ z, rPI H v z := ⟨z, h⟩
  have e : kOf H v = hx.choose := by unfold kOf; rw [dif_pos hx]
  rw [e]
  obtain ⟨t, e1, h1⟩ := hx.choose_spec
  obtain ⟨t', e2, h2⟩ := h
  rw [e1] at e2
  cases e2
  rw [h1] at h2
  have h3 := Option.some.inj h2
  injection h3 with h3
  injection h3 with a b
  injection b with b _
  exact Prod.ext (V.int.inj a) (V.int.inj b)
theorem kOf_map {H : Hp} : ∀ {xs : List V} {l : List (Int × Int)}, Paired (rPI H) xs l → xs.map (kOf H) = l
  | _, _, .nil => rfl
  | _, _, .cons r t => by rw [List.map_cons, kOf_eq r, kOf_map t]
theorem paired_kOf {H : Hp} : ∀ {ys : List V}, (∀ y ∈ ys, rPI H y (kOf H y)) → Paired (rPI H) ys (ys.map (kOf H))
  | [], _ => .nil
  | y :: ys, h => .cons (h y (by simp)) (paired_kOf fun z hz => h z (by simp [hz]))
theorem paired_mem {α β : Type} {F : α → β → Prop} : ∀ {xs : List α} {l : List β} {x : α}, Paired F xs l → x ∈ xs → ∃ y ∈ l, F x y
  | _, _, _, .nil, h => by simp at h
  | _, _, _, .cons r t, h => by
    rcases List.mem_cons.mp h with rfl | h
    · exact ⟨_, by simp, r⟩
    · obtain ⟨y, hy, f⟩ := paired_mem t h
      exact ⟨y, by simp [hy], f⟩
def rSortedPD (K : PySem.W.Frag) : List V → Hp → VK → Prop := fun vs H Q => ∃ (a : Addr) (xs : List V) (l : List (Int × Int)), vs = [V.ref a] ∧ SqL K H a xs ∧ Paired (rPI H) xs l ∧
  ∀ ys m p, Paired (rPI H) ys m → m.Perm l → m.Pairwise lxLe → H p = none → Q (.ref p) (upd H p (.lst ys))
theorem cr_sortedPD {X : Cx} : CallR X (.builtin "sorted") (rSortedPD X.K) := by
  intro pins s σ H vs us Q I r h
  obtain ⟨a, xs, l, rfl, hs, hp, q⟩ := h
  refine cr_sortedPO pins s σ H _ us Q I r ⟨a, xs, kOf H, rfl, hs, fun x hx => ?_, fun ys p h1 h2 np => ?_⟩
  · obtain ⟨z, _, hz⟩ := paired_mem hp hx
    rw [kOf_eq hz]
    exact hz
  · refine q ys (ys.map (kOf H)) p (paired_kOf fun y hy => ?_) ?_ ?_ np
    · obtain ⟨z, _, hz⟩ := paired_mem hp (h2.perm.mem_iff.mp hy)
      rw [kOf_eq hz]
      exact hz
    · rw [← kOf_map hp]
      exact h2.perm.map _
    · rw [List.pairwise_map]
      exact h1.imp fun {a b} h q => by
        have := SrtO.lexB_iff.mpr q
        rw [show ltP (kOf H) b a = true from this] at h
        cases h
theorem lxLt_tri (a b : Int × Int) : lxLt a b ∨ a = b ∨ lxLt b a := by
  unfold lxLt
  by_cases h1 : a.1 = b.1
  · by_cases h2 : a.2 = b.2
    · exact .inr (.inl (Prod.ext h1 h2))
    · omega
  · omega
theorem lxLe_antisymm {a b : Int × Int} (h1 : lxLe a b) (h2 : lxLe b a) : a = b := by
  rcases lxLt_tri a b with h | h | h
  · exact absurd h h2
  · exact h
  · exact absurd h h1
theorem lxLe_trans {a b c : Int × Int} (h1 : lxLe a b) (h2 : lxLe b c) : lxLe a c := by
  unfold lxLe lxLt at *
  omega
/-- two ascending lists of the same pairs are one -/
theorem lex_same : ∀ {l m : List (Int × Int)}, l.Perm m → l.Pairwise lxLe → m.Pairwise lxLe → l = m := fun {l m} h h1 h2 =>
  h.eq_of_pairwise (fun a b _ _ p q => lxLe_antisymm p q) h1 h2
theorem up_same : ∀ {l m : List Int}, l.Perm m → l.Pairwise (· ≤ ·) → m.Pairwise (· ≤ ·) → l = m := fun {l m} h h1 h2 =>
  h.eq_of_pairwise (fun a b _ _ p q => Int.le_antisymm p q) h1 h2
/-- ascending, none twice -/
theorem lex_strict {l : List (Int × Int)} (h1 : l.Pairwise lxLe) (h2 : l.Nodup) : l.Pairwise lxLt := by
  have := List.pairwise_and_iff.mpr ⟨h1, h2⟩
  exact this.imp fun {a b} ⟨p, q⟩ => by
    rcases lxLt_tri a b with h | h | h
    · exact h
    · exact absurd h q
    · exact absurd h p
/-! ### a walk, whatever its turn asks; comprehensions with two loops -/
section
variable {J : It} {n : Nat} {G : Hp → Prop} {Y : Nat → Hp → V → Hp → Prop} {H0 H1 : Hp} {D : Addr} {Qd : Hp → Prop} {α : Type}
theorem walk_W (w : Walk J n G Y) (B : (Hp → Prop) → V → Hp → Prop) (Pv : Nat → Hp → Prop) (h0 : Pv 0 H0) (hG : ∀ i H, i ≤ n → Pv i H → G H)
    (hs : ∀ i x H H', i < n → Pv i H → Y i H x H' → B (Pv (i + 1)) x H') (hd : ∀ H, Pv n H → Qd H) :
    ∃ W : Nat → Nat → Hp → Prop, (∃ m, W 0 m H0) ∧ ∀ i m H, W i m H →
      (J.stop i H ∧ Qd H) ∨ (J.go i H ∧ ∃ Nx : Hp → Prop, (∀ H', Nx H' → ∃ m', m' < m ∧ W (i + 1) m' H') ∧ ∀ x H', J.yld i H x H' → B Nx x H') := by
  refine ⟨fun i m H => m = n - i ∧ i ≤ n ∧ Pv i H, ⟨n, by simp, Nat.zero_le _, h0⟩, ?_⟩
  rintro i m H ⟨rfl, hi, p⟩
  have q := hG i H hi p
  by_cases hlt : i < n
  · exact .inr ⟨w.goes i H hlt q, Pv (i + 1), fun H' p' => ⟨n - (i + 1), by omega, rfl, hlt, p'⟩, fun x H' y => hs i x H H' hlt p (w.yields i H x H' hlt q y)⟩
  · have e : i = n := by omega
    subst e
    exact .inl ⟨w.stops H q, hd H p⟩
/-- the list at D holds what the turns of the outer loop have told -/
def PvFl (R : Rp α) (F : Nat → List α) (D : Addr) (H1 : Hp) (i : Nat) (H : Hp) : Prop := Same H1 H ∧ ∃ xs, H D = some (.lst xs) ∧ Paired (R H) xs ((List.range i).flatMap F)
/-- within a turn: the first j of l have come -/
def PvIn (R : Rp α) (pre l : List α) (D : Addr) (H1 Hb : Hp) (j : Nat) (H : Hp) : Prop := Same H1 H ∧ Keep Hb H ∧ ∃ xs, H D = some (.lst xs) ∧ Paired (R H) xs (pre ++ l.take j)
theorem fl_start {R : Rp α} {F : Nat → List α} (hD : H1 D = none) : PvFl R F D H1 0 (upd H1 D (.lst [])) := ⟨same_new hD, [], upd_same, .nil⟩
theorem fl_in {R : Rp α} (m : Mono R) {F : Nat → List α} {i : Nat} {H H4 : Hp} (p : PvFl R F D H1 i H) (s : Same H H4) : PvIn R ((List.range i).flatMap F) (F i) D H1 H4 0 H4 := by
  obtain ⟨s1, xs, h1, h2⟩ := p
  refine ⟨s1.trans s, .refl _, xs, s _ _ h1, ?_⟩
  rw [List.take_zero, List.append_nil]
  exact paired_mono m s.keep h2
theorem in_keep {R : Rp α} (m : Mono R) {pre l : List α} {j : Nat} {H H4 Hb : Hp} {y : V} {a : α} (p : PvIn R pre l D H1 Hb j H) (hD : H1 D = none) (hz : pre.length + j ≤ 100000) (s4 : Same H H4) (ea : l[j]? = some a) (ra : R H4 y a) :
    ∃ acc, H4 D = some (.lst acc) ∧ acc.length < sizeLine ∧ PvIn R pre l D H1 Hb (j + 1) (upd H4 D (.lst (acc ++ [y]))) := by
  obtain ⟨s, kb, xs, h1, h2⟩ := p
  have hl : xs.length ≤ pre.length + j := by rw [paired_len h2, List.length_append, List.length_take]; omega
  have hD4 : H4 D = some (.lst xs) := s4 _ _ h1
  have k5 : Keep H4 (upd H4 D (.lst (xs ++ [y]))) := keep_lst hD4
  refine ⟨xs, hD4, Nat.lt_of_le_of_lt (Nat.le_trans hl hz) (by decide), same_own (s.trans s4) hD, (kb.trans s4.keep).trans k5, xs ++ [y], upd_same, ?_⟩
  rw [List.take_succ, ea, ← List.append_assoc]
  exact paired_app (paired_mono m k5 (paired_mono m s4.keep h2)) (.cons (m _ _ _ _ k5 ra) .nil)
theorem in_fl {R : Rp α} {F : Nat → List α} {i n : Nat} {H Hb : Hp} (hn : n = (F i).length) (p : PvIn R ((List.range i).flatMap F) (F i) D H1 Hb n H) : PvFl R F D H1 (i + 1) H := by
  obtain ⟨s, _, xs, h1, h2⟩ := p
  refine ⟨s, xs, h1, ?_⟩
  rw [hn, List.take_length] at h2
  rw [List.range_succ, List.flatMap_append, List.flatMap_singleton]
  exact h2
theorem fl_list {β : Type} (l : List β) (h : β → List α) : (List.range l.length).flatMap (fun i => (l[i]?.map h).getD []) = l.flatMap h := by
  have e : ∀ (m : Nat), m ≤ l.length → (List.range m).flatMap (fun i => (l[i]?.map h).getD []) = (l.take m).flatMap h := by
    intro m
    induction m with
    | zero => intro _; rfl
    | succ m ih =>
      intro hm
      have hl : l[m]? = some l[m] := List.getElem?_eq_getElem (by omega)
      rw [List.range_succ, List.flatMap_append, ih (by omega), List.take_succ, List.flatMap_append, hl, List.flatMap_singleton, hl]
      simp
  have := e l.length (Nat.le_refl _)
  rwa [List.take_length] at this
end
theorem rgV_int (a b : Int) : rgV a b = ((List.range (b - a).toNat).map fun (i : Nat) => a + (i : Int)).map V.int := by
  unfold rgV
  rw [List.map_map]
  rfl
theorem cutV_upto (xs : List V) (k : Nat) : cutV xs none (some (k : Int)) = xs.take k := by
  unfold cutV
  rw [HT.sIx_none, HT.sIx_nat, List.drop_zero, Nat.sub_zero]
  by_cases h : k ≤ xs.length
  · rw [Nat.min_eq_left h]
  · rw [Nat.min_eq_right (by omega), List.take_of_length_le (Nat.le_refl _), List.take_of_length_le (by omega)]
/-- t[:k] -/
theorem slice_upto {K : PySem.W.Frag} {H : Hp} {a : Addr} {xs : List V} {k : Nat} {Q : VK} (h : H a = some (.tup xs)) (q : ∀ H' p, Same H H' → H' p = some (.tup (xs.take k)) → Q (.ref p) H') : rSlA K (.ref a) none (some (k : Int)) H Q := by
  refine ⟨a, xs, rfl, .of h, fun e => q H a (.refl _) ?_, fun _ p np => ?_⟩
  · rw [HT.sIx_nat] at e
    rw [List.take_of_length_le (by omega)]
    exact h
  · rw [cutV_upto]
    exact q _ p (same_new np) upd_same
end TT

/-! rules of exceptions and own == that the library lacks -/
namespace EE
open PySem PySem.Spec PyProof.Rows L2
section
variable {X : Cx} {C : Addr} {bmB : List Value} {B newId initId : String}
/-- X() -/
theorem pmk_own0 {x : Str} {p pos : Pos} (F : ExcBaseFacts B newId initId bmB) (q : PySem.W.excIn X.K C bmB newId = true) (gC : X.mg x = some (.ref C)) (kC : PySem.W.keepIn X.K (.ref C) = true) (r : Raises X (.ref C)) (hg : Gl X x)
    (hdb : (x == ("__debug__" : Str)) = false := by decide) : PMk X (.Call (.Name x p) [] [] pos) (fun _ H Q => Q (.ref C) none H) := by
  intro pins s σ H Q I h
  refine wpAny_Call_Name_kw (ld_glob I hg gC ?_ hdb)
  obtain ⟨bm, N, nm, qn, bs, hdct, sn, sub, ab, col, dd, k0, k1, k2, k3, k5, mN, hC, hN, hni, T⟩ := exc_obj I.kIn q
  refine PySem.W.callWith_K0 I.kIn kC ?_
  refine wpAny_call_exc_subT F T hC hN hni (fun h' e hm => ?_) (Nat.zero_le _)
  exact mk_of I hm r h (I.hok.gone hm.new)
end
/-! ### isinstance of a caught error, whatever its own dict -/
end EE
namespace PySem.W
open PySem PySem.Spec PySem.Calls PyProof.Rows
section
variable {prog : Program} {w : World} {A : Around} {E : Value → Shared → Prop} {s : Shared} {K : Frag} {x D : Addr} {ox : Obj} {od : Option Obj}
theorem findObj_dataG {C : Addr} {name : Str} {a g : Value} (hc : (clsIn K C).isSome = true) (ha : findIn K (.ref C) name = some (some a)) (hg : specialIn K a "__get__" = some (some g)) (ht : takesIn K a = some true) : findObj K C od name = some (.bind g a) := by
  obtain ⟨cd, hc⟩ := Option.isSome_iff_exists.mp hc
  unfold findObj
  rw [hc, Option.bind_some, ha, Option.bind_some]
  simp [hg, ht]
theorem kin_classG {Q : Option Value → Shared → Prop} (hga : findIn K (.ref D) "__getattribute__" = some (some (.builtin "BaseException.__getattribute__"))) (hgt : findIn K (.ref D) "__getattr__" = some none) (hsub : subIn K (.ref D) (.type "BaseException") = some true)
    (hdct : hasDictIn K D = true) (ha : findIn K (.ref D) "__class__" = some (some (.builtin "object.__class__")))
    (hn : specialIn K (.builtin "object.__class__") "__get__" = some (some (.builtin "getset_descriptor.__get__"))) (htk : takesIn K (.builtin "object.__class__") = some true) (hm : mroIn K D (.type "object") = some true)
    (X : K.In s.heap) (I : InstAt s.heap x ox D od) (h : Q (some (.ref D)) { s with toks := s.toks + 1 }) : wpAny (model prog w) A (getAttr? (.ref x) "__class__") Q E s := by
  have hf : findObj K D od "__class__" = some (.bind (.builtin "getset_descriptor.__get__") (.builtin "object.__class__")) := findObj_dataG (by obtain ⟨cd, hc, _⟩ := any_some hdct; rw [hc]; rfl) ha hn htk
  obtain ⟨hp, g, d, t, os⟩ := s
  have L0 := I.type (M := model prog w)
  have L1 := looks_findIn (M := model prog w) X hga
  have L2 := looks_findIn (M := model prog w) X hgt
  have L3 := looks_find (M := model prog w) X I hf
  have sub : Looks (model prog w) hp (isInstance (.ref x) (.type "BaseException")) true := L0.andThen (looks_subIn X hsub)
  have hx0 : (false && onTheHeap (Value.builtin "BaseException.__getattribute__")) = false := rfl
  have hx2 : (Value.builtin "BaseException.__getattribute__" == Value.builtin "object.__getattribute__") = false := by decide +kernel
  have hx1 : (onTheHeap (Value.ref D) && Value.builtin "BaseException.__getattribute__" == Value.builtin "object.__getattribute__") = false := by rw [hx2]; rfl
  unfold getAttr? getAttrBy? getAttrBy
  refine wpAny_bind (wpAny_mkText (wpAny_bind (wpAny_attempt (wpAny_holding (wpAny_bind (L0.at (wpAny_bind (L1.at ?_))))))))
  show wpAny _ _ (if (onTheHeap (Value.ref D) && Value.builtin "BaseException.__getattribute__" == Value.builtin "object.__getattribute__") = true then _ else _) _ _ _
  rw [hx1, if_neg Bool.false_ne_true]
  unfold getAttrByItsOwn hookBefore
  refine wpAny_bind ?_
  rw [if_pos (show onTheHeap (Value.ref D) = true from rfl)]
  refine L2.at ?_
  refine wpAny_bind (wpAny_attempt (wpAny_holding ?_))
  unfold callGetattribute
  rw [hx0, if_neg Bool.false_ne_true]
  unfold boundAndCalled
  rw [PySem.F.excAttr_ValueError.ga.bind (.ref x)]
  refine wpAny_bind (wpAny_pure ?_)
  show wpAny _ _ (call (.builtin "BaseException.__getattribute__") [.ref x, .str "__class__" t]) _ _ _
  refine wpAny_call (codeAny_call_builtin PySem.F.excAttr_ValueError.ga.plain PySem.F.entry_bexc_ga ?_)
  refine @check_slot (model prog w) _ _ ⟨hp, g, d, t + 1, os⟩ "BaseException.__getattribute__" "BaseException" "__getattribute__" (.ref x) [.str "__class__" t] [] _ (by decide +kernel) (by decide +kernel) sub (PySem.F.args_bexc_ga (.ref x) (.str "__class__" t)) ?_
  unfold Builtin.«object.__getattribute__»
  refine wpAny_bind (wpAny_of_eq (a := ((Value.ref x : Value), [Value.str "__class__" t])) (by first | rfl | (simp only [slotArgs]; rfl)) ?_)
  refine wpAny_bind (wpAny_pure (wpAny_bind (L0.at (wpAny_bind (L3.at ?_)))))
  show wpAny _ _ (holding [Value.builtin "object.__class__"] (call (.builtin "getset_descriptor.__get__") [.builtin "object.__class__", .ref x, .ref D]) >>= ret) _ _ _
  refine wpAny_bind (wpAny_holding (wpAny_call (class_get (s := ⟨hp, g, d, t + 1, os⟩) (ox := ox) (od := od) X I hm ?_)))
  refine wpAny_pure ?_
  show wpAny _ _ (handedOut (.ref D)) _ _ _
  rw [handedOut_of (v := .ref D) rfl]
  first
    | exact wpAny_pure (wpAny_pure h)
    | exact wpAny_pure h
    | exact wpAny_pure (wpAny_bind (wpAny_pure (wpAny_pure h)))
theorem kitx_excG (hga : findIn K (.ref D) "__getattribute__" = some (some (.builtin "BaseException.__getattribute__"))) (hgt : findIn K (.ref D) "__getattr__" = some none) (hsub : subIn K (.ref D) (.type "BaseException") = some true) (hdct : hasDictIn K D = true) (ha : findIn K (.ref D) "__class__" = some (some (.builtin "object.__class__")))
    (hn : specialIn K (.builtin "object.__class__") "__get__" = some (some (.builtin "getset_descriptor.__get__"))) (htk : takesIn K (.builtin "object.__class__") = some true) (hm : mroIn K D (.type "object") = some true) :
    KitX K (.ref x) (.ref D) (fun h => InstAt h x ox D od) where
  ty := fun _ _ _ I => I.type
  it := fun _ _ X _ => by
    obtain ⟨cdD, hcD, _⟩ := any_some hdct
    unfold clsIn at hcD
    split at hcD
    · rename_i c' d' cd' sl' ho
      intro A' Q' E' s' k q
      unfold isType loadHead
      exact wpAny_bind (wpAny_loadPart (k _ _ (X _ _ ho)) (wpAny_pure q))
    · cases hcD
  ne := fun h tp dd its n sl X htp => by
    obtain ⟨cdD, hcD, _⟩ := any_some hdct
    refine Bool.eq_false_iff.mpr fun q => ?_
    have e : D = tp := Value.ref.inj (beq_iff_eq.mp q)
    subst e
    unfold clsIn at hcD
    split at hcD
    · rename_i c' d' cd' sl' ho
      have z := (X _ _ ho).symm.trans htp
      cases z
    · cases hcD
  ca := fun X I k => kin_classG hga hgt hsub hdct ha hn htk hm X I k
end
end PySem.W
namespace EE
open PySem PySem.Spec PyProof.Rows L2
/-- isinstance(e, c), e the exception that the suite holds, at a; cls its class, d its dict -/
def rIsG (K : PySem.W.Frag) (cls : Value) (d : Option Addr) (a : Addr) : List V → Hp → VK → Prop := fun xs H Q => ∃ (D : Addr) (c : V) (cv : Value) (b : Bool), xs = [.ref a, c] ∧ cls = .ref D ∧ ExcC K D ∧ (d = none ∨ ∃ dd fs, d = some dd ∧ H dd = some (.xd fs)) ∧
  (∀ u, RelV c u → u = cv) ∧ PySem.W.kitOne K (.ref D) cv = some b ∧ Q (.bl b) H
theorem call_isG {X : Cx} {a : Addr} {cls : Value} {d : Option Addr} {oe : Obj} {pn : List (Addr × Obj)} (hz : Zc cls d oe) (hf : ∃ vs, oe.data = .fields vs) : CallR (X.suite a ((a, oe) :: pn)) (.builtin "isinstance") (rIsG X.K cls d a) := by
  intro pins s σ H xs us Q I r h
  obtain ⟨D, c, cv, b, rfl, rfl, C, hd, hcv, e, q⟩ := h
  cases r with
  | cons rx rr =>
    cases rr with
    | cons rt rr =>
      cases rr
      cases rx
      have ec := hcv _ rt
      subst ec
      obtain ⟨hget, _⟩ := I.pin (a, oe) (List.mem_append.mpr (.inl List.mem_cons_self))
      obtain ⟨vs, hv⟩ := hf
      have hno : PySem.W.notCls oe = true := by unfold PySem.W.notCls; rw [hv] <;> rfl
      have J : ∃ od, PySem.W.InstAt s.heap a oe D od := by
        rcases hd with rfl | ⟨dd, fs, rfl, hdd⟩
        · refine ⟨none, hget, hz.1, hno, ?_⟩
          rw [hz.2]
          trivial
        · have hx : ObjOk X.prog X.w H s.heap dd (.xd fs) := I.hok dd _ hdd
          obtain ⟨mA, hns, hr⟩ := hx
          obtain ⟨od, ho, hl⟩ := lookIn_ns hns
          refine ⟨some od, hget, hz.1, hno, ?_⟩
          rw [hz.2]
          exact ho
      obtain ⟨od, J⟩ := J
      exact PySem.W.kia_one (PySem.W.kitx_excG C.hg C.hk C.hs C.hd C.ha C.hn C.ht C.hm) I.kIn J e (fun z => nomatch z) fun tk => ⟨.bl b, H, I.kept (t' := tk) fun _ _ z => z, rfl, q⟩
theorem ref_cls {C : Addr} : ∀ u, RelV (.ref C) u → u = .ref C := fun _ h => h
theorem ty_cls {n : String} : ∀ u, RelV (.ty n) u → u = .type n := fun _ h => h
/-- own classes of exceptions against one another -/
theorem kit_sub {K : PySem.W.Frag} {A C : Addr} {b : Bool} (hC : PySem.W.hasDictIn K C = true) (ht : PySem.W.typeIn K (.ref C) = some (.type "type")) (hs : PySem.W.subIn K (.ref C) (.ref C) = some true) (h : PySem.W.subIn K (.ref A) (.ref C) = some b) : PySem.W.kitOne K (.ref A) (.ref C) = some b := by
  obtain ⟨cd, hc, _⟩ := PySem.W.any_some hC
  unfold PySem.W.kitOne
  by_cases e : A = C
  · subst e
    rw [hs] at h
    rw [if_pos (beq_self_eq_true _)]
    exact h
  · rw [if_neg (by rw [beq_iff_eq]; exact fun z => e (Value.ref.inj z))]
    have e2 : ((PySem.W.clsIn K C).isSome && PySem.W.typeIn K (.ref C) == some (.type "type")) = true := by rw [hc, ht] <;> rfl
    show (if ((PySem.W.clsIn K C).isSome && PySem.W.typeIn K (.ref C) == some (.type "type")) = true then PySem.W.subIn K (.ref A) (.ref C) else none) = some b
    rw [if_pos e2]
    exact h
/-! ### a new object whose __init__ may raise, in a try -/
def tMakeS (C : Addr) (sp : Sp) (E : L2.St → XK) (t : TA) : TE := fun σ H Q => t σ H fun vs H1 => ∀ x dx, H1 x = none → H1 dx = none → dx ≠ x →
  sp (.ref x :: vs) (upd (upd H1 dx (.own x)) x (.ins C dx [])) (fun v H2 => v = .non ∧ Q (.ref x) H2) (E σ)
section
variable {X : Cx} {CX : CXT} {k : Nat} {f C : Addr} {fd : FuncData} {ps : List Str} {sp : Sp} {E : L2.St → XK} {x m : Str} {p pos apos : Pos} {e o fe : Expr} {es : List Expr} {ta tf : TE} {t : TA}
theorem run_makeS {pins : List (Addr × Obj)} {σ : L2.St} {H : Hp} {s : Shared} {Q : VK} {us : List Value} {vs : List V} (M : Mk X.K C f) (F : FnOk X.prog X.w X.K X.mg X.base CX k f fd ps sp) (hr : Room (k + 1) X.A) (hb : Binds X.K fd ps [])
    (hx : PassesAt CX X σ (E σ)) (I : Inv X pins σ H s) (r : Vals vs us)
    (h : ∀ x dx, H x = none → H dx = none → dx ≠ x → sp (.ref x :: vs) (upd (upd H dx (.own x)) x (.ins C dx [])) (fun v H2 => v = .non ∧ Q (.ref x) H2) (E σ)) :
    wpAny (model X.prog X.w) X.A (call (.ref C) us) (EP X pins σ Q) X.xe s := by
  have hq := h (s.heap.objs.size + 1) s.heap.objs.size (I.hok.fresh (Nat.le_succ _)) (I.hok.fresh (Nat.le_refl _)) (Nat.ne_of_lt (Nat.lt_succ_self _))
  have I2 := Inv.made (C := C) I
  have r2 : Vals (V.ref (s.heap.objs.size + 1) :: vs) (Value.ref (s.heap.objs.size + 1) :: us) := .cons rfl r
  have hl : (Value.ref (s.heap.objs.size + 1) :: us).length = ps.length := by
    have e := r2.length
    rw [F.len _ _ _ _ hq] at e
    exact e.symm
  have hbb := hb _ (Value.ref (s.heap.objs.size + 1) :: us) I2.kIn (by rw [List.append_nil]; exact hl)
  rw [List.append_nil] at hbb
  refine wpAny_call (make_map (f := f) I.kIn M.makes M.init (beq_iff_eq.mp M.fn) (codeAny_mono (F.run _ X.stack _ _ ⟨Value.ref (s.heap.objs.size + 1) :: us, []⟩ (Value.ref (s.heap.objs.size + 1) :: us) _ _ (E σ) (hr.make C us [])
    (I2.env0.make C us []) hbb r2 hq) fun r s' hq' => ?_))
  cases r with
  | error e => exact hx pins _ _ e s' I2 hq'
  | ok fl =>
    cases fl with
    | ret u =>
      obtain ⟨v, H', I3, rv, ev, q3⟩ := I2.after hq'
      subst ev
      exact ⟨rv, ⟨V.ref (s.heap.objs.size + 1), H', I3, rfl, q3⟩⟩
    | next => exact False.elim hq'
    | brk => exact False.elim hq'
    | cont => exact False.elim hq'
theorem pe_makeS (M : Mk X.K C f) (F : FnOk X.prog X.w X.K X.mg X.base CX k f fd ps sp) (hr : Room (k + 1) X.A) (hg : Gl X x) (hm : X.mg x = some (.ref C)) (hb : Binds X.K fd ps []) (hx : ∀ σ, PassesAt CX X σ (E σ))
    (ha : PA X (e :: es) t) (hdb : (x == ("__debug__" : Str)) = false := by decide) (he : starEach (e :: es) X.env = (false, eval e X.env) :: starEach es X.env := by rfl) (hpl : (backTo pos (starEach es X.env)).any (·.1) = false := by rfl) :
    PE X (.Call (.Name x p) (e :: es) [] pos) (tMakeS C sp E t) := by
  refine ⟨fun pins s σ H Q I h => ?_⟩
  refine wpAny_Call_Name_kw (ld_glob I hg hm ?_ hdb)
  refine PySem.W.callWith_K (h₀ := X.base) I.ok.mod.kin M.kp (thn (ha.run pos pins s σ H _ I h) fun us s1 ⟨vs, H1, I1, r, q⟩ => ⟨I1.kIn, ?_⟩) he hpl
  exact run_makeS M F hr hb (hx σ) I1 r q
/-- a call of what an expression tells: one of some defs, each with its promise -/
structure HeldS (X : Cx) (CX : CXT) (k : Nat) (f : Addr) (sp : Sp) : Prop where
  ex : ∃ (fd : FuncData) (ps : List Str), FnOk X.prog X.w X.K X.mg X.base CX k f fd ps sp ∧ PySem.W.keepIn X.K (.ref f) = true ∧ Binds X.K fd ps []
def tCallF (S : Addr → Option Sp) (E : L2.St → XK) (tf : TE) (t : TA) : TE := fun σ H Q => tf σ H fun y H0 => ∃ f sp, y = .ref f ∧ S f = some sp ∧ t σ H0 fun vs H1 => sp vs H1 Q (E σ)
end
/-! ### one == other, an own __eq__ -/
/-- the one an instance of the class at C, the other anything that has a class -/
def rEqO (K : PySem.W.Frag) (C : Addr) (sp : Sp) (E : XK) : R2 := fun x y H Q => ∃ a dx fs, x = .ref a ∧ H a = some (.ins C dx fs) ∧ (∃ t, TyX K H y t ∧ PySem.W.notFirst K C t = true) ∧ sp [x, y] H (fun v H' => (∃ b, v = .bl b) ∧ Q v H') E
theorem op_eqO {X : Cx} {CX : CXT} {k : Nat} {C f : Addr} {fd : FuncData} {ps : List Str} {sp : Sp} {E : XK} (F : FnOk X.prog X.w X.K X.mg X.base CX k f fd ps sp) (hr : Room k X.A)
    (hs : PySem.W.findIn X.K (.ref C) "__eq__" = some (some (.ref f))) (hf : PySem.W.isFn X.K (.ref f) = true) (hb : Binds X.K fd ps []) (hx : Passes CX X E) : OpR X (compareOp .Eq) (rEqO X.K C sp E) := by
  intro pins s σ H x y v u Q I rx ry hq
  obtain ⟨a, dx, fs, rfl, ha, ⟨t, ty, nf⟩, q⟩ := hq
  cases rx
  show wpAny (model X.prog X.w) X.A (richCompare .Eq (.ref a) u) (EP X pins σ Q) X.xe s
  obtain ⟨mA, J, _⟩ := ins_get I.hok ha
  obtain ⟨od, J, _⟩ := J.look
  obtain ⟨m, hF⟩ := I.fr
  obtain ⟨Pk, Z, p, hne⟩ := kit_of I ry ty
  refine PySem.W.cmp_K (op := .Eq) (tb := t) hr.units0 hF I.ok.mod.kin J (Z.ty _ _ I.kIn p) nf hs hf ?_
  refine run_fn (dvs := []) (ds := []) (us := [.ref a, u]) (vs := [.ref a, y]) (Q := fun v H' => (∃ b, v = .bl b) ∧ Q v H') F hr hb .nil hx I (.cons rfl (.cons ry .nil)) q |> fun h => wpAny_mono h (fun v' s' hv => ?_) fun _ _ z => z
  obtain ⟨z, H', I', rz, ⟨b, rfl⟩, q'⟩ := hv
  cases rz
  exact ⟨.bl b, H', I', rfl, q'⟩
/-! ### list.count of flat things -/
section
variable {X : Cx}
def rCntF (K : PySem.W.Frag) : V → List V → Hp → VK → Prop := fun x xs H Q => ∃ (p : Addr) (ys : List V) (y : V), x = .ref p ∧ xs = [y] ∧ SqL K H p ys ∧ flatV y = true ∧ ys.all flatV = true ∧ Q (.int ((ys.countP fun z => eqV z y : Nat) : Int)) H
theorem countU {y : V} : ∀ {ys : List V} {its : List Value}, Vals ys its → ys.all flatV = true → its.countP (eqU y) = ys.countP fun z => eqV z y
  | _, _, .nil, _ => rfl
  | z :: ys, _, .cons r t, h => by
    rw [List.all_cons, Bool.and_eq_true] at h
    rw [List.countP_cons, List.countP_cons, countU t h.2, eqU_of r h.1]
theorem mt_countF : MtR X "list.count" (rCntF X.K) := by
  intro pins s σ H x xs v us Q I rx rxs h
  obtain ⟨p, ys, y, rfl, rfl, hs, fy, fys, q⟩ := h
  cases rx
  obtain ⟨u, rfl, ru⟩ := rxs.one
  obtain ⟨its, rv, ⟨⟨cls, dd, data, sl⟩, n, ho, hc, hdn, hd⟩, hlen⟩ := I.list hs
  simp only at hc hd
  subst hc hd
  refine call_meets PySem.F.slot_list_count ⟨_, ho, rfl⟩ PySem.F.entry_list_count (PySem.F.args_list_count_2 _ _)
    (SeqAt.list_countAt p its.toArray n dd sl u (eqU y)) ⟨ho, fun u' hu' => mem_eqAt ru fy rv fys u' (by simpa using hu'), ?_⟩
  refine ⟨.int ((ys.countP fun z => eqV z y : Nat) : Int), H, I.tok _, ⟨s.toks, ?_⟩, q⟩
  show Value.int ((its.toArray.toList.countP (eqU y) : Nat) : Int) s.toks = _
  rw [show its.toArray.toList = its from rfl, countU rv fys]
end
end EE

/-! KERNEL: errors held as values: made with nothing, made by an own __init__, isinstance of one, its field -/
namespace EE
open PySem PySem.Spec PySem.Calls PyProof.Rows L2
section
variable {X : Cx} {C : Addr} {bmB : List Value} {B newId initId : String}
/-- X() of an own class of errors without an own __init__, as a value -/
theorem pe_exv0 {x : Str} {p pos : Pos} (F : ExcBaseFacts B newId initId bmB) (q : PySem.W.excIn X.K C bmB newId = true) (gC : X.mg x = some (.ref C)) (kC : PySem.W.keepIn X.K (.ref C) = true) (hg : Gl X x)
    (hdb : (x == ("__debug__" : Str)) = false := by decide) : PE X (.Call (.Name x p) [] [] pos) (fun _ H Q => ∀ a, H a = none → Q (.ref a) (upd H a (exo a C none))) := by
  refine ⟨fun pins s σ H Q I h => ?_⟩
  refine wpAny_Call_Name_kw (ld_glob I hg gC ?_ hdb)
  obtain ⟨bm, N, nm, qn, bs, hdct, sn, sub, ab, col, dd, k0, k1, k2, k3, k5, mN, hC, hN, hni, T⟩ := exc_obj I.kIn q
  refine PySem.W.callWith_K0 I.kIn kC ?_
  refine wpAny_call_exc_subT F T hC hN hni (fun h' e hm => ?_) (Nat.zero_le _)
  have hn := I.hok.gone hm.new
  obtain ⟨t, ht, l, r⟩ := hm.there
  exact ⟨V.ref e, _, I.laidN hm.keeps hm.new hn (exo_ok ht), rfl, h e hn⟩
end
/-- X(..) of an own class over ValueError whose own __init__ is sp's, as a value -/
def tMkV (C : Addr) (sp : Sp) (t : TA) : TE := fun σ H Q => t σ H fun vs H1 => vs.length ≤ 1000 ∧ ∀ a, H1 a = none → sp (.ref a :: vs) (upd H1 a (exo a C none)) (fun v H2 => v = .non ∧ Q (.ref a) H2) (fun _ _ _ => False)
theorem pe_exvI {X : Cx} {CX : CXT} {k : Nat} {f C : Addr} {fd : FuncData} {ps : List Str} {sp : Sp} {x : Str} {p pos : Pos} {e : Expr} {es : List Expr} {t : TA} (T : OexC X.K C) (iC : PySem.W.findIn X.K (.ref C) "__init__" = some (some (.ref f))) (tI : PySem.W.typeIn X.K (.ref f) = some (.type "function"))
    (F1 : FnOk X.prog X.w X.K X.mg X.base CX k f fd ps sp) (hr : Room (k + 1) X.A) (hb : Binds X.K fd ps []) (hx : Passes CX X (fun _ _ _ => False)) (hg : Gl X x) (hm : X.mg x = some (.ref C)) (ha : PA X (e :: es) t) (hdb : (x == ("__debug__" : Str)) = false := by decide)
    (he : starEach (e :: es) X.env = (false, eval e X.env) :: starEach es X.env := by rfl) (hpl : (backTo pos (starEach es X.env)).any (·.1) = false := by rfl) : PE X (.Call (.Name x p) (e :: es) [] pos) (tMkV C sp t) := by
  refine ⟨fun pins s σ H Q I h => ?_⟩
  obtain ⟨nm, q, N, bs, bm, sn, sub, ab, col, dd, k0, k1, k2, k3, k5, hC, hbm⟩ := T.cls
  refine wpAny_Call_Name_kw (ld_glob I hg hm ?_ hdb)
  refine PySem.W.callWith_K (h₀ := X.base) I.ok.mod.kin T.kC (thn (ha.run pos pins s σ H _ I h) fun us s1 ⟨vs, H1, I1, r1, hz, q1⟩ => ⟨I1.kIn, ?_⟩) he hpl
  obtain ⟨hp, g, dr, tk, os⟩ := s1
  have hsz : hp.objs.size ≤ hp.objs.size + 1 := Nat.le_succ _
  have hn := I1.hok.fresh hsz
  have hq := q1 (hp.objs.size + 1) hn
  have kk : ∀ b o, hp.get? b = some o → ((hp.push (PySem.W.kdv_tup us)).push (HandSPX.excO C hp.objs.size)).get? b = some o := fun b o e => Heap.get?_push_of_some (HandSPX.excO C hp.objs.size) (Heap.get?_push_of_some (PySem.W.kdv_tup us) e)
  have hget : ((hp.push (PySem.W.kdv_tup us)).push (HandSPX.excO C hp.objs.size)).get? (hp.objs.size + 1) = some (HandSPX.excO C hp.objs.size) := Heap.get?_push_at (by rw [Heap.size_push]) rfl
  have I2 := Inv.laid (t' := tk) I1 kk hsz (exo_ok (d := none) hget)
  have r2 : Vals (V.ref (hp.objs.size + 1) :: vs) (Value.ref (hp.objs.size + 1) :: us) := .cons rfl r1
  have hl : (Value.ref (hp.objs.size + 1) :: us).length = ps.length := by
    have e := r2.length
    rw [F1.len _ _ _ _ hq] at e
    exact e.symm
  have hbb := hb _ (Value.ref (hp.objs.size + 1) :: us) I2.kIn (by rw [List.append_nil]; exact hl)
  rw [List.append_nil] at hbb
  have hus : us.length ≤ sizeLine := by
    have e : vs.length = us.length := Paired.length r1
    rw [← e]
    exact Nat.le_trans hz (by decide)
  refine wpAny_call (HandSPX.call_own PySem.F.excBase_ValueError (fun Y => HandSPX.refsVE_contains Y bm hbm) (I1.kIn C _ hC) (PySem.W.looks_findIn I1.kIn iC) (fun self => PySem.W.bind_fn I1.kIn self tI) hus
    (codeAny_mono (F1.run _ X.stack _ _ ⟨Value.ref (hp.objs.size + 1) :: us, []⟩ (Value.ref (hp.objs.size + 1) :: us) _ _ (fun _ _ _ => False) (hr.make C us []) (I2.env0.make C us []) hbb r2 hq) fun r s' hq' => ?_))
  cases r with
  | error er => exact hx pins σ _ _ er s' I2 hq'
  | ok fl =>
    cases fl with
    | ret u =>
      obtain ⟨v, H', I3, rv, ev, q3⟩ := I2.after hq'
      subst ev
      exact ⟨rv, ⟨V.ref (hp.objs.size + 1), H', I3, rfl, q3⟩⟩
    | next => exact False.elim hq'
    | brk => exact False.elim hq'
    | cont => exact False.elim hq'
/-- the dict of an error that is held -/
def Xdo (H : Hp) : Option Addr → Prop
  | none => True
  | some dd => ∃ fs, H dd = some (exd dd fs)
theorem instH {X : Cx} {pins : List (Addr × Obj)} {σ : L2.St} {H : Hp} {s : Shared} {a C : Addr} {d : Option Addr} (I : Inv X pins σ H s) (ha : H a = some (exo a C d)) (hd : Xdo H d) : ∃ ox od, PySem.W.InstAt s.heap a ox C od := by
  have h1 : ObjOk X.prog X.w H s.heap a (exo a C d) := I.hok a _ ha
  obtain ⟨⟨t1, hget⟩, _⟩ := h1
  cases d with
  | none => exact ⟨_, none, hget, rfl, rfl, trivial⟩
  | some dd =>
    obtain ⟨fs, hdd⟩ := hd
    have h2 : ObjOk X.prog X.w H s.heap dd (exd dd fs) := I.hok dd _ hdd
    obtain ⟨⟨mA, hns, hr⟩, _⟩ := h2
    obtain ⟨od, ho, hl⟩ := lookIn_ns hns
    exact ⟨_, some od, hget, rfl, rfl, ho⟩
/-- isinstance(e, c), e an error that is held -/
def rIsH (K : PySem.W.Frag) : List V → Hp → VK → Prop := fun xs H Q => ∃ (a C : Addr) (d : Option Addr) (c : V) (cv : Value) (b : Bool), xs = [.ref a, c] ∧ H a = some (exo a C d) ∧ Xdo H d ∧ ExcC K C ∧
  (∀ u, RelV c u → u = cv) ∧ PySem.W.kitOne K (.ref C) cv = some b ∧ Q (.bl b) H
theorem call_isH {X : Cx} : CallR X (.builtin "isinstance") (rIsH X.K) := by
  intro pins s σ H xs us Q I r h
  obtain ⟨a, D, d, c, cv, b, rfl, ha, hd, C, hcv, e, q⟩ := h
  cases r with
  | cons rx rr =>
    cases rr with
    | cons rt rr =>
      cases rr
      cases rx
      have ec := hcv _ rt
      subst ec
      obtain ⟨ox, od, J⟩ := instH I ha hd
      exact PySem.W.kia_one (PySem.W.kitx_excG C.hg C.hk C.hs C.hd C.ha C.hn C.ht C.hm) I.kIn J e (fun z => nomatch z) fun tk => ⟨.bl b, H, I.kept (t' := tk) fun _ _ z => z, rfl, q⟩
/-- e.f, e an error that is held -/
def tXh (K : PySem.W.Frag) (f : Str) (te : TE) : TE := fun σ H Q => te σ H fun x H1 => ∃ (a C dd : Addr) (fs : List (Str × V)) (v : V), x = .ref a ∧ XfC K C ∧ PySem.W.findIn K (.ref C) f = some none ∧ H1 a = some (exo a C (some dd)) ∧ H1 dd = some (exd dd fs) ∧ fs.lookup f = some v ∧ Q v H1
theorem pe_xh {X : Cx} {e : Expr} {te : TE} {pos : Pos} {n : Str} (he : PE X e te) (hb : attributeBase e n X.env (eval e X.env) = eval e X.env := by rfl) : PE X (.Attribute e n pos) (tXh X.K n te) := by
  refine ⟨fun pins s σ H Q I h => attr_of hb (thn (he.run pins s σ H _ I h) fun u s1 hh => ?_)⟩
  obtain ⟨x, H1, I1, rx, a, C, dd, fs, v, rfl, T, hno, ha, hdd, l, q⟩ := hh
  cases rx
  have h1 : ObjOk X.prog X.w H1 s1.heap a (exo a C (some dd)) := I1.hok a _ ha
  obtain ⟨⟨t1, hget⟩, _⟩ := h1
  have h2 : ObjOk X.prog X.w H1 s1.heap dd (exd dd fs) := I1.hok dd _ hdd
  obtain ⟨⟨mA, hns, hr⟩, _⟩ := h2
  obtain ⟨od, ho, hl⟩ := lookIn_ns hns
  have J : PySem.W.InstAt s1.heap a _ C (some od) := ⟨hget, rfl, rfl, ho⟩
  obtain ⟨u, hu, ru⟩ := RelO.some_of (by rw [← l]; exact hr n)
  exact HandSPX.exc_get I1.kIn J T.ga T.gg T.exC (PySem.W.findObj_own T.hdC hno rfl (by rw [hl n, hu])) (handed_of ru) ⟨v, H1, I1.tok (s1.toks + 1), ru, q⟩
end EE

namespace S4
open PySem L2 TT
/-! ### the text by places -/
def top (i : Nat) : Stmt := PySem.Challenge.pw_sametolls_k00_errors_kept_and_rows_refus.main.body.getD i (.Pass ⟨0, 0, 0, 0⟩)
abbrev s_is_integer : Stmt := top 53
abbrev s_is_below : Stmt := top 54
abbrev s_is_row : Stmt := top 55
abbrev s_is_clock : Stmt := top 61
abbrev s_ladder : Stmt := top 62
abbrev s_rank : Stmt := top 63
abbrev s_mixture : Stmt := top 64
abbrev s_parting : Stmt := top 65
abbrev s_square : Stmt := top 66
abbrev s_determinant : Stmt := top 67
abbrev s_check_clock : Stmt := top 68
abbrev s_check_rows : Stmt := top 69
abbrev s_check_each : Stmt := top 70
abbrev s_check_row : Stmt := top 71
abbrev s_ladder_of : Stmt := top 72
abbrev s_rank_of : Stmt := top 73
abbrev s_widened : Stmt := top 74
abbrev s_rungs_of : Stmt := top 75
abbrev s_mixtures : Stmt := top 76
abbrev s_cleared : Stmt := top 77
abbrev s_multiplied : Stmt := top 78
abbrev s_inverse : Stmt := top 79
abbrev s_first_place : Stmt := top 80
abbrev s_first_row : Stmt := top 81
abbrev s_unit_rows : Stmt := top 82
abbrev s_law_hand : Stmt := top 84
abbrev s_law_draw : Stmt := top 85
abbrev s_law_any : Stmt := top 86
abbrev s_law_is : Stmt := top 87
abbrev s_law_nested : Stmt := top 88
abbrev s_law_int : Stmt := top 89
abbrev s_law_less : Stmt := top 90
abbrev s_law_summed : Stmt := top 91
abbrev s_law_clock : Stmt := top 92
abbrev s_law_some_row : Stmt := top 93
abbrev s_law_some_rows : Stmt := top 94
abbrev s_law_is_prime : Stmt := top 95
abbrev s_law_is_row : Stmt := top 96
abbrev s_law_classes : Stmt := top 97
abbrev s_law_errors : Stmt := top 98
abbrev s_law_row_refusal : Stmt := top 99
abbrev s_law_rows_due : Stmt := top 100
abbrev s_law_square_due : Stmt := top 101
abbrev s_law_odd : Stmt := top 102
abbrev s_law_bent_rows : Stmt := top 103
abbrev s_law_rows_refused : Stmt := top 104
abbrev s_law_square_refused : Stmt := top 105
abbrev s_law : Stmt := top 106
abbrev s_NoRows : Stmt := inClass (top 37) 0
abbrev s_BadTree : Stmt := inClass (top 38) 0
abbrev s_BadSheet : Stmt := inClass (top 39) 0
abbrev s_BadRules : Stmt := inClass (top 40) 0
abbrev s_BadTiming : Stmt := inClass (top 41) 0
abbrev s_TooMany : Stmt := inClass (top 42) 0
abbrev s_BadText : Stmt := inClass (top 43) 0
abbrev s_Barred : Stmt := inClass (top 44) 0
abbrev s_BadSaid : Stmt := inClass (top 45) 0
abbrev s_BadAnswer : Stmt := inClass (top 46) 0
abbrev s_NoMark : Stmt := inClass (top 47) 0
abbrev s_BadJournal : Stmt := inClass (top 48) 0
abbrev s_NoName : Stmt := inClass (top 49) 0
abbrev s_BadTale : Stmt := inClass (top 50) 0
abbrev s_Failed : Stmt := inClass (top 51) 0
abbrev N_is_integer : List Str := ["thing"]
theorem sc_is_integer : FnScope N_is_integer ["thing"] (defScope s_is_integer) := ⟨rfl, rfl, rfl, by decide +kernel, rfl, by decide +kernel, by decide +kernel⟩
abbrev N_is_below : List Str := ["thing", "end"]
theorem sc_is_below : FnScope N_is_below ["thing", "end"] (defScope s_is_below) := ⟨rfl, rfl, rfl, by decide +kernel, rfl, by decide +kernel, by decide +kernel⟩
abbrev N_is_row : List Str := ["thing", "p", "wide", "value"]
theorem sc_is_row : FnScope N_is_row ["thing", "p", "wide"] (defScope s_is_row) := ⟨rfl, rfl, rfl, by decide +kernel, rfl, by decide +kernel, by decide +kernel⟩
abbrev N_is_clock : List Str := ["thing", "factor"]
theorem sc_is_clock : FnScope N_is_clock ["thing"] (defScope s_is_clock) := ⟨rfl, rfl, rfl, by decide +kernel, rfl, by decide +kernel, by decide +kernel⟩
abbrev N_ladder : List Str := ["p", "wide", "rows"]
theorem sc_ladder : FnScope N_ladder ["p", "wide", "rows"] (defScope s_ladder) := ⟨rfl, rfl, rfl, by decide +kernel, rfl, by decide +kernel, by decide +kernel⟩
abbrev N_rank : List Str := ["p", "wide", "rows"]
theorem sc_rank : FnScope N_rank ["p", "wide", "rows"] (defScope s_rank) := ⟨rfl, rfl, rfl, by decide +kernel, rfl, by decide +kernel, by decide +kernel⟩
abbrev N_mixture : List Str := ["p", "wide", "rows", "row"]
theorem sc_mixture : FnScope N_mixture ["p", "wide", "rows", "row"] (defScope s_mixture) := ⟨rfl, rfl, rfl, by decide +kernel, rfl, by decide +kernel, by decide +kernel⟩
abbrev N_parting : List Str := ["p", "wide", "rows", "row", "rungs", "rest", "place", "factor", "parts", "other"]
theorem sc_parting : FnScope N_parting ["p", "wide", "rows", "row"] (defScope s_parting) := ⟨rfl, rfl, rfl, by decide +kernel, rfl, by decide +kernel, by decide +kernel⟩
abbrev N_square : List Str := ["p", "wide", "rows", "rungs", "news"]
theorem sc_square : FnScope N_square ["p", "wide", "rows"] (defScope s_square) := ⟨rfl, rfl, rfl, by decide +kernel, rfl, by decide +kernel, by decide +kernel⟩
abbrev N_determinant : List Str := ["p", "rows", "left", "worth", "place", "at", "head", "rung", "row"]
theorem sc_determinant : FnScope N_determinant ["p", "rows"] (defScope s_determinant) := ⟨rfl, rfl, rfl, by decide +kernel, rfl, by decide +kernel, by decide +kernel⟩
abbrev N_check_clock : List Str := ["p"]
theorem sc_check_clock : FnScope N_check_clock ["p"] (defScope s_check_clock) := ⟨rfl, rfl, rfl, by decide +kernel, rfl, by decide +kernel, by decide +kernel⟩
abbrev N_check_rows : List Str := ["p", "wide", "rows"]
theorem sc_check_rows : FnScope N_check_rows ["p", "wide", "rows"] (defScope s_check_rows) := ⟨rfl, rfl, rfl, by decide +kernel, rfl, by decide +kernel, by decide +kernel⟩
abbrev N_check_each : List Str := ["p", "wide", "rows", "index", "row"]
theorem sc_check_each : FnScope N_check_each ["p", "wide", "rows"] (defScope s_check_each) := ⟨rfl, rfl, rfl, by decide +kernel, rfl, by decide +kernel, by decide +kernel⟩
abbrev N_check_row : List Str := ["p", "wide", "row"]
theorem sc_check_row : FnScope N_check_row ["p", "wide", "row"] (defScope s_check_row) := ⟨rfl, rfl, rfl, by decide +kernel, rfl, by decide +kernel, by decide +kernel⟩
abbrev N_ladder_of : List Str := ["p", "wide", "rows", "rungs", "place"]
theorem sc_ladder_of : FnScope N_ladder_of ["p", "wide", "rows"] (defScope s_ladder_of) := ⟨rfl, rfl, rfl, by decide +kernel, rfl, by decide +kernel, by decide +kernel⟩
abbrev N_rank_of : List Str := ["p", "wide", "rows"]
theorem sc_rank_of : FnScope N_rank_of ["p", "wide", "rows"] (defScope s_rank_of) := ⟨rfl, rfl, rfl, by decide +kernel, rfl, by decide +kernel, by decide +kernel⟩
abbrev N_widened : List Str := ["p", "wide", "rungs", "rows", "row", "rest", "place"]
theorem sc_widened : FnScope N_widened ["p", "wide", "rungs", "rows"] (defScope s_widened) := ⟨rfl, rfl, rfl, by decide +kernel, rfl, by decide +kernel, by decide +kernel⟩
abbrev N_rungs_of : List Str := ["p", "wide", "rows", "rungs", "news", "number", "row", "rest", "place", "rung", "other"]
theorem sc_rungs_of : FnScope N_rungs_of ["p", "wide", "rows"] (defScope s_rungs_of) := ⟨rfl, rfl, rfl, by decide +kernel, rfl, by decide +kernel, by decide +kernel⟩
abbrev N_mixtures : List Str := ["p", "wide", "rows", "made", "marks", "row", "rungs", "found", "rest", "inside", "mark", "value"]
theorem sc_mixtures : FnScope N_mixtures ["p", "wide", "rows", "made"] (defScope s_mixtures) := ⟨rfl, rfl, rfl, by decide +kernel, rfl, by decide +kernel, by decide +kernel⟩
abbrev N_cleared : List Str := ["p", "rungs", "row", "place", "factor", "value", "less"]
theorem sc_cleared : FnScope N_cleared ["p", "rungs", "row"] (defScope s_cleared) := ⟨rfl, rfl, rfl, by decide +kernel, rfl, by decide +kernel, by decide +kernel⟩
abbrev N_multiplied : List Str := ["p", "factor", "row", "value"]
theorem sc_multiplied : FnScope N_multiplied ["p", "factor", "row"] (defScope s_multiplied) := ⟨rfl, rfl, rfl, by decide +kernel, rfl, by decide +kernel, by decide +kernel⟩
abbrev N_inverse : List Str := ["p", "value", "ahead", "now", "before", "factor", "times"]
theorem sc_inverse : FnScope N_inverse ["p", "value"] (defScope s_inverse) := ⟨rfl, rfl, rfl, by decide +kernel, rfl, by decide +kernel, by decide +kernel⟩
abbrev N_first_place : List Str := ["row", "wide", "place"]
theorem sc_first_place : FnScope N_first_place ["row", "wide"] (defScope s_first_place) := ⟨rfl, rfl, rfl, by decide +kernel, rfl, by decide +kernel, by decide +kernel⟩
abbrev N_first_row : List Str := ["rows", "place", "number", "row"]
theorem sc_first_row : FnScope N_first_row ["rows", "place"] (defScope s_first_row) := ⟨rfl, rfl, rfl, by decide +kernel, rfl, by decide +kernel, by decide +kernel⟩
abbrev N_unit_rows : List Str := ["wide", "place"]
theorem sc_unit_rows : FnScope N_unit_rows ["wide"] (defScope s_unit_rows) := ⟨rfl, rfl, rfl, by decide +kernel, rfl, by decide +kernel, by decide +kernel⟩
abbrev N_law_hand : List Str := ["script", "cells", "cell"]
theorem sc_law_hand : FnScope N_law_hand ["script"] (defScope s_law_hand) := ⟨rfl, rfl, rfl, by decide +kernel, rfl, by decide +kernel, by decide +kernel⟩
abbrev N_law_draw : List Str := ["hand", "many", "cell", "digit", "number"]
theorem sc_law_draw : FnScope N_law_draw ["hand", "many"] (defScope s_law_draw) := ⟨rfl, rfl, rfl, by decide +kernel, rfl, by decide +kernel, by decide +kernel⟩
abbrev N_law_any : List Str := ["hand", "items"]
theorem sc_law_any : FnScope N_law_any ["hand", "items"] (defScope s_law_any) := ⟨rfl, rfl, rfl, by decide +kernel, rfl, by decide +kernel, by decide +kernel⟩
abbrev N_law_is : List Str := ["told", "due", "one", "two"]
theorem sc_law_is : FnScope N_law_is ["told", "due"] (defScope s_law_is) := ⟨rfl, rfl, rfl, by decide +kernel, rfl, by decide +kernel, by decide +kernel⟩
abbrev N_law_nested : List Str := ["hand", "thing", "turn"]
theorem sc_law_nested : FnScope N_law_nested ["hand"] (defScope s_law_nested) := ⟨rfl, rfl, rfl, by decide +kernel, rfl, by decide +kernel, by decide +kernel⟩
abbrev N_law_int : List Str := ["thing", "least", "most"]
theorem sc_law_int : FnScope N_law_int ["thing", "least", "most"] (defScope s_law_int) := ⟨rfl, rfl, rfl, by decide +kernel, rfl, by decide +kernel, by decide +kernel⟩
abbrev N_law_less : List Str := ["p", "row", "other", "many", "one", "two"]
theorem sc_law_less : FnScope N_law_less ["p", "row", "other", "many"] (defScope s_law_less) := ⟨rfl, rfl, rfl, by decide +kernel, rfl, by decide +kernel, by decide +kernel⟩
abbrev N_law_summed : List Str := ["p", "wide", "rows", "many", "found", "row", "value"]
theorem sc_law_summed : FnScope N_law_summed ["p", "wide", "rows", "many"] (defScope s_law_summed) := ⟨rfl, rfl, rfl, by decide +kernel, rfl, by decide +kernel, by decide +kernel⟩
abbrev N_law_clock : List Str := ["hand"]
theorem sc_law_clock : FnScope N_law_clock ["hand"] (defScope s_law_clock) := ⟨rfl, rfl, rfl, by decide +kernel, rfl, by decide +kernel, by decide +kernel⟩
abbrev N_law_some_row : List Str := ["hand", "p", "wide", "rows", "kind", "at", "many", "place", "row"]
theorem sc_law_some_row : FnScope N_law_some_row ["hand", "p", "wide", "rows"] (defScope s_law_some_row) := ⟨rfl, rfl, rfl, by decide +kernel, rfl, by decide +kernel, by decide +kernel⟩
abbrev N_law_some_rows : List Str := ["hand", "p", "wide", "many", "found", "turn"]
theorem sc_law_some_rows : FnScope N_law_some_rows ["hand", "p", "wide", "many"] (defScope s_law_some_rows) := ⟨rfl, rfl, rfl, by decide +kernel, rfl, by decide +kernel, by decide +kernel⟩
abbrev N_law_is_prime : List Str := ["thing", "other"]
theorem sc_law_is_prime : FnScope N_law_is_prime ["thing"] (defScope s_law_is_prime) := ⟨rfl, rfl, rfl, by decide +kernel, rfl, by decide +kernel, by decide +kernel⟩
abbrev N_law_is_row : List Str := ["p", "wide", "thing", "one"]
theorem sc_law_is_row : FnScope N_law_is_row ["p", "wide", "thing"] (defScope s_law_is_row) := ⟨rfl, rfl, rfl, by decide +kernel, rfl, by decide +kernel, by decide +kernel⟩
abbrev N_law_classes : List Str := ["e", "found", "at", "flag"]
theorem sc_law_classes : FnScope N_law_classes ["e"] (defScope s_law_classes) := ⟨rfl, rfl, rfl, by decide +kernel, rfl, by decide +kernel, by decide +kernel⟩
abbrev N_law_errors : List Str := ["one", "two", "pair", "both", "single", "later", "found", "kept", "pairs", "thing"]
theorem sc_law_errors : FnScope N_law_errors ["one", "two"] (defScope s_law_errors) := ⟨rfl, rfl, rfl, by decide +kernel, rfl, by decide +kernel, by decide +kernel⟩
abbrev N_law_row_refusal : List Str := ["call", "word", "e", "flags"]
theorem sc_law_row_refusal : FnScope N_law_row_refusal ["call"] (defScope s_law_row_refusal) := ⟨rfl, rfl, rfl, by decide +kernel, rfl, by decide +kernel, by decide +kernel⟩
abbrev N_law_rows_due : List Str := ["p", "wide", "rows", "at", "row"]
theorem sc_law_rows_due : FnScope N_law_rows_due ["p", "wide", "rows"] (defScope s_law_rows_due) := ⟨rfl, rfl, rfl, by decide +kernel, rfl, by decide +kernel, by decide +kernel⟩
abbrev N_law_square_due : List Str := ["p", "rows", "at", "row"]
theorem sc_law_square_due : FnScope N_law_square_due ["p", "rows"] (defScope s_law_square_due) := ⟨rfl, rfl, rfl, by decide +kernel, rfl, by decide +kernel, by decide +kernel⟩
abbrev N_law_odd : List Str := ["hand", "menu"]
theorem sc_law_odd : FnScope N_law_odd ["hand"] (defScope s_law_odd) := ⟨rfl, rfl, rfl, by decide +kernel, rfl, by decide +kernel, by decide +kernel⟩
abbrev N_law_bent_rows : List Str := ["hand", "p", "wide", "rows", "at", "some", "place", "value", "changed", "row", "found"]
theorem sc_law_bent_rows : FnScope N_law_bent_rows ["hand", "p", "wide", "rows"] (defScope s_law_bent_rows) := ⟨rfl, rfl, rfl, by decide +kernel, rfl, by decide +kernel, by decide +kernel⟩
abbrev N_law_rows_refused : List Str := ["hand", "kind", "right", "due", "words", "more", "others", "p", "row", "rows", "wide"]
theorem sc_law_rows_refused : FnScope N_law_rows_refused ["hand"] (defScope s_law_rows_refused) := ⟨rfl, rfl, rfl, by decide +kernel, rfl, by decide +kernel, by decide +kernel⟩
abbrev N_law_square_refused : List Str := ["hand", "wide", "p", "rows"]
theorem sc_law_square_refused : FnScope N_law_square_refused ["hand"] (defScope s_law_square_refused) := ⟨rfl, rfl, rfl, by decide +kernel, rfl, by decide +kernel, by decide +kernel⟩
abbrev N_law : List Str := ["script", "hand", "one", "two", "made", "pairs", "thing", "due", "at", "error", "turn"]
theorem sc_law : FnScope N_law ["script"] (defScope s_law) := ⟨rfl, rfl, rfl, by decide +kernel, rfl, by decide +kernel, by decide +kernel⟩
abbrev N_NoRows : List Str := ["self", "index"]
theorem sc_NoRows : FnScope N_NoRows ["self", "index"] (defScope s_NoRows) := ⟨rfl, rfl, rfl, by decide +kernel, rfl, by decide +kernel, by decide +kernel⟩
abbrev N_BadTree : List Str := ["self", "part"]
theorem sc_BadTree : FnScope N_BadTree ["self", "part"] (defScope s_BadTree) := ⟨rfl, rfl, rfl, by decide +kernel, rfl, by decide +kernel, by decide +kernel⟩
abbrev N_BadSheet : List Str := ["self", "part"]
theorem sc_BadSheet : FnScope N_BadSheet ["self", "part"] (defScope s_BadSheet) := ⟨rfl, rfl, rfl, by decide +kernel, rfl, by decide +kernel, by decide +kernel⟩
abbrev N_BadRules : List Str := ["self", "part"]
theorem sc_BadRules : FnScope N_BadRules ["self", "part"] (defScope s_BadRules) := ⟨rfl, rfl, rfl, by decide +kernel, rfl, by decide +kernel, by decide +kernel⟩
abbrev N_BadTiming : List Str := ["self", "part"]
theorem sc_BadTiming : FnScope N_BadTiming ["self", "part"] (defScope s_BadTiming) := ⟨rfl, rfl, rfl, by decide +kernel, rfl, by decide +kernel, by decide +kernel⟩
abbrev N_TooMany : List Str := ["self", "most"]
theorem sc_TooMany : FnScope N_TooMany ["self", "most"] (defScope s_TooMany) := ⟨rfl, rfl, rfl, by decide +kernel, rfl, by decide +kernel, by decide +kernel⟩
abbrev N_BadText : List Str := ["self", "line"]
theorem sc_BadText : FnScope N_BadText ["self", "line"] (defScope s_BadText) := ⟨rfl, rfl, rfl, by decide +kernel, rfl, by decide +kernel, by decide +kernel⟩
abbrev N_Barred : List Str := ["self", "post", "way"]
theorem sc_Barred : FnScope N_Barred ["self", "post", "way"] (defScope s_Barred) := ⟨rfl, rfl, rfl, by decide +kernel, rfl, by decide +kernel, by decide +kernel⟩
abbrev N_BadSaid : List Str := ["self", "tick", "post"]
theorem sc_BadSaid : FnScope N_BadSaid ["self", "tick", "post"] (defScope s_BadSaid) := ⟨rfl, rfl, rfl, by decide +kernel, rfl, by decide +kernel, by decide +kernel⟩
abbrev N_BadAnswer : List Str := ["self", "post"]
theorem sc_BadAnswer : FnScope N_BadAnswer ["self", "post"] (defScope s_BadAnswer) := ⟨rfl, rfl, rfl, by decide +kernel, rfl, by decide +kernel, by decide +kernel⟩
abbrev N_NoMark : List Str := ["self", "name"]
theorem sc_NoMark : FnScope N_NoMark ["self", "name"] (defScope s_NoMark) := ⟨rfl, rfl, rfl, by decide +kernel, rfl, by decide +kernel, by decide +kernel⟩
abbrev N_BadJournal : List Str := ["self", "number"]
theorem sc_BadJournal : FnScope N_BadJournal ["self", "number"] (defScope s_BadJournal) := ⟨rfl, rfl, rfl, by decide +kernel, rfl, by decide +kernel, by decide +kernel⟩
abbrev N_NoName : List Str := ["self", "name"]
theorem sc_NoName : FnScope N_NoName ["self", "name"] (defScope s_NoName) := ⟨rfl, rfl, rfl, by decide +kernel, rfl, by decide +kernel, by decide +kernel⟩
abbrev N_BadTale : List Str := ["self", "line"]
theorem sc_BadTale : FnScope N_BadTale ["self", "line"] (defScope s_BadTale) := ⟨rfl, rfl, rfl, by decide +kernel, rfl, by decide +kernel, by decide +kernel⟩
abbrev N_Failed : List Str := ["self", "line"]
theorem sc_Failed : FnScope N_Failed ["self", "line"] (defScope s_Failed) := ⟨rfl, rfl, rfl, by decide +kernel, rfl, by decide +kernel, by decide +kernel⟩
/-! ### the facts of the top -/
structure D (K : PySem.W.Frag) (mg : Str → Option Value) (x : Str) (st : Stmt) (ps : List Str) (f : Addr) (fd : FuncData) : Prop where
  F : Fun K x x st f fd
  b : Binds K fd ps []
  m : mg x = some (.ref f)
abbrev DE (K : PySem.W.Frag) (mg : Str → Option Value) (x : Str) (st : Stmt) (ps : List Str) : Prop := ∃ f fd, D K mg x st ps f fd
theorem DE.mk {K : PySem.W.Frag} {h : Heap} {mg : Str → Option Value} {x : Str} {st : Stmt} {ps : List Str} {f : Addr} {oc : Value} {od an : Option Addr} {osl : Array (Option Value)} {kV doc pm cdv ct : Value} (X : K.In h) (G : h.Ns mainGlobals mg)
    (hb : ∀ (kV doc pm : Value) (an : Option Addr) (cdv ct : Value) (us : List Value), us.length = ps.length → bindArgs (PySem.W.fnOf x x (defArgs st) (defBody st) (defScope st) .none kV doc pm an cdv ct) ⟨us, []⟩ = pure (ps.zip us))
    (a : PySem.W.nsIn K mainGlobals x = some (some (.ref f)))
    (l : K.lookup f = some ⟨oc, od, .func (PySem.W.fnOf x x (defArgs st) (defBody st) (defScope st) .none kV doc pm an cdv ct), osl⟩) (c : PySem.W.codeIn K cdv x = true) (k : PySem.W.keepIn K (.ref f) = true) : DE K mg x st ps :=
  ⟨f, _, fun_mk l c k, (fun_mk l c k).binds hb, PySem.W.mg_of X G a⟩
/-- a class with its __init__ -/
structure DC (K : PySem.W.Frag) (mg : Str → Option Value) (x : Str) (q : Str) (st : Stmt) (ps : List Str) (fl : List Str) (C f : Addr) (fd : FuncData) : Prop where
  F : Fun K "__init__" q st f fd
  b : Binds K fd ps []
  m : mg x = some (.ref C)
  mkf : Mk K C f
  cl : Cls K C
  na : ∀ y ∈ fl, NoAttr K C y
/-- the address of a class by its name -/
def adr (mg : Str → Option Value) (x : Str) : Addr := match mg x with
  | some (.ref a) => a
  | _ => 0
theorem adr_of {mg : Str → Option Value} {x : Str} {a : Addr} (h : mg x = some (.ref a)) : adr mg x = a := by unfold adr; rw [h]
/-- a method m of the class at C -/
structure DM (K : PySem.W.Frag) (m : Str) (q : Str) (st : Stmt) (ps : List Str) (C f : Addr) (fd : FuncData) : Prop where
  F : Fun K m q st f fd
  b : Binds K fd ps []
  fi : PySem.W.findIn K (.ref C) m = some (some (.ref f))
  fn : PySem.W.isFn K (.ref f) = true
/-- an exception class -/
structure EX (K : PySem.W.Frag) (mg : Str → Option Value) (x : Str) (C : Addr) : Prop where
  m : mg x = some (.ref C)
  kp : PySem.W.keepIn K (.ref C) = true
  ty : PySem.W.typeIn K (.ref C) = some (.type "type")
  ec : ExcC K C
  ve : PySem.W.kitOne K (.ref C) (.type "ValueError") = some true
/-- .. without an own __init__ -/
def EPl (K : PySem.W.Frag) (C : Addr) : Prop := PySem.W.excIn K C [.type "ValueError", .type "Exception", .type "BaseException", .type "object"] "ValueError.__new__" = true
/-- .. with one -/
structure EI (K : PySem.W.Frag) (q : Str) (st : Stmt) (ps : List Str) (fl : List Str) (C f : Addr) (fd : FuncData) : Prop where
  F : Fun K "__init__" q st f fd
  b : Binds K fd ps []
  oc : OexC K C
  iC : PySem.W.findIn K (.ref C) "__init__" = some (some (.ref f))
  tI : PySem.W.typeIn K (.ref f) = some (.type "function")
  no : ∀ y ∈ fl, PySem.W.findIn K (.ref C) y = some none
/-- a tuple of the written part -/
def KTp (K : PySem.W.Frag) (a : Addr) (xs : List V) : Prop := ∃ (o : Obj) (its : Array Value) (n : Nat), K.lookup a = some o ∧ o.cls = .type "tuple" ∧ o.data = .seq its n ∧ its.size ≤ sizeLine ∧ Vals xs its.toList
def NX : List Str := (["TollError", "NoRows", "BadTree", "BadSheet", "BadRules", "BadTiming", "TooMany", "BadText", "Barred"] : List Str) ++ (["BadSaid", "BadAnswer", "NoMark", "BadJournal", "NoName", "BadTale", "Failed", "NoClock", "NoNumber"] : List Str) ++ (["NoRow", "NoPost", "NoWay", "NoPlan", "NotRight", "NotLeast", "NoGiven", "NoWays", "NoOrder"] : List Str) ++ (["NoLot", "NotUndoable", "NotAfter", "NotAlike", "NoAnswers", "NoCounts", "NoTable", "NotSure", "NoRule"] : List Str) ++ (["NotRow", "NoTick", "NoCut", "NoHours", "NotOne", "NotPlanned", "NoProgram", "NoWant", "NoValue"] : List Str) ++ (["NoValues", "NotEmpty", "Full", "NothingDone", "NoLine", "TooLong"] : List Str)
/-- which of the classes is one of which: its own one, and the first -/
def uAll (K : PySem.W.Frag) (A : List Addr) : Bool := (List.range A.length).all fun i => (List.range A.length).all fun j => PySem.W.subIn K (.ref (A.getD i 0)) (.ref (A.getD j 0)) == some (i == j || j == 0)
structure Tx (K : PySem.W.Frag) (mg : Str → Option Value) (cT cS : Addr) : Prop where
  b_abs : mg "abs" = none
  b_all : mg "all" = none
  b_bool : mg "bool" = none
  b_enumerate : mg "enumerate" = none
  b_int : mg "int" = none
  b_isinstance : mg "isinstance" = none
  b_len : mg "len" = none
  b_list : mg "list" = none
  b_range : mg "range" = none
  b_sorted : mg "sorted" = none
  b_tuple : mg "tuple" = none
  b_zip : mg "zip" = none
  c_MOST_HOURS : ∃ t, mg "MOST_HOURS" = some (.int 1000000 t)
  c_MOST_WIDE : ∃ t, mg "MOST_WIDE" = some (.int 200 t)
  c_MOST_ROWS : ∃ t, mg "MOST_ROWS" = some (.int 200 t)
  c_MOST_SIDE : ∃ t, mg "MOST_SIDE" = some (.int 60 t)
  d_is_integer : DE K mg "is_integer" s_is_integer ["thing"]
  d_is_below : DE K mg "is_below" s_is_below ["thing", "end"]
  d_is_row : DE K mg "is_row" s_is_row ["thing", "p", "wide"]
  d_is_clock : DE K mg "is_clock" s_is_clock ["thing"]
  d_ladder : DE K mg "ladder" s_ladder ["p", "wide", "rows"]
  d_rank : DE K mg "rank" s_rank ["p", "wide", "rows"]
  d_mixture : DE K mg "mixture" s_mixture ["p", "wide", "rows", "row"]
  d_parting : DE K mg "parting" s_parting ["p", "wide", "rows", "row"]
  d_square : DE K mg "square" s_square ["p", "wide", "rows"]
  d_determinant : DE K mg "determinant" s_determinant ["p", "rows"]
  d_check_clock : DE K mg "check_clock" s_check_clock ["p"]
  d_check_rows : DE K mg "check_rows" s_check_rows ["p", "wide", "rows"]
  d_check_each : DE K mg "check_each" s_check_each ["p", "wide", "rows"]
  d_check_row : DE K mg "check_row" s_check_row ["p", "wide", "row"]
  d_ladder_of : DE K mg "ladder_of" s_ladder_of ["p", "wide", "rows"]
  d_rank_of : DE K mg "rank_of" s_rank_of ["p", "wide", "rows"]
  d_widened : DE K mg "widened" s_widened ["p", "wide", "rungs", "rows"]
  d_rungs_of : DE K mg "rungs_of" s_rungs_of ["p", "wide", "rows"]
  d_mixtures : DE K mg "mixtures" s_mixtures ["p", "wide", "rows", "made"]
  d_cleared : DE K mg "cleared" s_cleared ["p", "rungs", "row"]
  d_multiplied : DE K mg "multiplied" s_multiplied ["p", "factor", "row"]
  d_inverse : DE K mg "inverse" s_inverse ["p", "value"]
  d_first_place : DE K mg "first_place" s_first_place ["row", "wide"]
  d_first_row : DE K mg "first_row" s_first_row ["rows", "place"]
  d_unit_rows : DE K mg "unit_rows" s_unit_rows ["wide"]
  d_law_hand : DE K mg "_law_hand" s_law_hand ["script"]
  d_law_draw : DE K mg "_law_draw" s_law_draw ["hand", "many"]
  d_law_any : DE K mg "_law_any" s_law_any ["hand", "items"]
  d_law_is : DE K mg "_law_is" s_law_is ["told", "due"]
  d_law_nested : DE K mg "_law_nested" s_law_nested ["hand"]
  d_law_int : DE K mg "_law_int" s_law_int ["thing", "least", "most"]
  d_law_less : DE K mg "_law_less" s_law_less ["p", "row", "other", "many"]
  d_law_summed : DE K mg "_law_summed" s_law_summed ["p", "wide", "rows", "many"]
  d_law_clock : DE K mg "_law_clock" s_law_clock ["hand"]
  d_law_some_row : DE K mg "_law_some_row" s_law_some_row ["hand", "p", "wide", "rows"]
  d_law_some_rows : DE K mg "_law_some_rows" s_law_some_rows ["hand", "p", "wide", "many"]
  d_law_is_prime : DE K mg "_law_is_prime" s_law_is_prime ["thing"]
  d_law_is_row : DE K mg "_law_is_row" s_law_is_row ["p", "wide", "thing"]
  d_law_classes : DE K mg "_law_classes" s_law_classes ["e"]
  d_law_errors : DE K mg "_law_errors" s_law_errors ["one", "two"]
  d_law_row_refusal : DE K mg "_law_row_refusal" s_law_row_refusal ["call"]
  d_law_rows_due : DE K mg "_law_rows_due" s_law_rows_due ["p", "wide", "rows"]
  d_law_square_due : DE K mg "_law_square_due" s_law_square_due ["p", "rows"]
  d_law_odd : DE K mg "_law_odd" s_law_odd ["hand"]
  d_law_bent_rows : DE K mg "_law_bent_rows" s_law_bent_rows ["hand", "p", "wide", "rows"]
  d_law_rows_refused : DE K mg "_law_rows_refused" s_law_rows_refused ["hand"]
  d_law_square_refused : DE K mg "_law_square_refused" s_law_square_refused ["hand"]
  d_law : DE K mg "law" s_law ["script"]
  e_TollError : EX K mg "TollError" (adr mg "TollError")
  p_TollError : EPl K (adr mg "TollError")
  e_NoClock : EX K mg "NoClock" (adr mg "NoClock")
  p_NoClock : EPl K (adr mg "NoClock")
  e_NoNumber : EX K mg "NoNumber" (adr mg "NoNumber")
  p_NoNumber : EPl K (adr mg "NoNumber")
  e_NoRow : EX K mg "NoRow" (adr mg "NoRow")
  p_NoRow : EPl K (adr mg "NoRow")
  e_NoPost : EX K mg "NoPost" (adr mg "NoPost")
  p_NoPost : EPl K (adr mg "NoPost")
  e_NoWay : EX K mg "NoWay" (adr mg "NoWay")
  p_NoWay : EPl K (adr mg "NoWay")
  e_NoPlan : EX K mg "NoPlan" (adr mg "NoPlan")
  p_NoPlan : EPl K (adr mg "NoPlan")
  e_NotRight : EX K mg "NotRight" (adr mg "NotRight")
  p_NotRight : EPl K (adr mg "NotRight")
  e_NotLeast : EX K mg "NotLeast" (adr mg "NotLeast")
  p_NotLeast : EPl K (adr mg "NotLeast")
  e_NoGiven : EX K mg "NoGiven" (adr mg "NoGiven")
  p_NoGiven : EPl K (adr mg "NoGiven")
  e_NoWays : EX K mg "NoWays" (adr mg "NoWays")
  p_NoWays : EPl K (adr mg "NoWays")
  e_NoOrder : EX K mg "NoOrder" (adr mg "NoOrder")
  p_NoOrder : EPl K (adr mg "NoOrder")
  e_NoLot : EX K mg "NoLot" (adr mg "NoLot")
  p_NoLot : EPl K (adr mg "NoLot")
  e_NotUndoable : EX K mg "NotUndoable" (adr mg "NotUndoable")
  p_NotUndoable : EPl K (adr mg "NotUndoable")
  e_NotAfter : EX K mg "NotAfter" (adr mg "NotAfter")
  p_NotAfter : EPl K (adr mg "NotAfter")
  e_NotAlike : EX K mg "NotAlike" (adr mg "NotAlike")
  p_NotAlike : EPl K (adr mg "NotAlike")
  e_NoAnswers : EX K mg "NoAnswers" (adr mg "NoAnswers")
  p_NoAnswers : EPl K (adr mg "NoAnswers")
  e_NoCounts : EX K mg "NoCounts" (adr mg "NoCounts")
  p_NoCounts : EPl K (adr mg "NoCounts")
  e_NoTable : EX K mg "NoTable" (adr mg "NoTable")
  p_NoTable : EPl K (adr mg "NoTable")
  e_NotSure : EX K mg "NotSure" (adr mg "NotSure")
  p_NotSure : EPl K (adr mg "NotSure")
  e_NoRule : EX K mg "NoRule" (adr mg "NoRule")
  p_NoRule : EPl K (adr mg "NoRule")
  e_NotRow : EX K mg "NotRow" (adr mg "NotRow")
  p_NotRow : EPl K (adr mg "NotRow")
  e_NoTick : EX K mg "NoTick" (adr mg "NoTick")
  p_NoTick : EPl K (adr mg "NoTick")
  e_NoCut : EX K mg "NoCut" (adr mg "NoCut")
  p_NoCut : EPl K (adr mg "NoCut")
  e_NoHours : EX K mg "NoHours" (adr mg "NoHours")
  p_NoHours : EPl K (adr mg "NoHours")
  e_NotOne : EX K mg "NotOne" (adr mg "NotOne")
  p_NotOne : EPl K (adr mg "NotOne")
  e_NotPlanned : EX K mg "NotPlanned" (adr mg "NotPlanned")
  p_NotPlanned : EPl K (adr mg "NotPlanned")
  e_NoProgram : EX K mg "NoProgram" (adr mg "NoProgram")
  p_NoProgram : EPl K (adr mg "NoProgram")
  e_NoWant : EX K mg "NoWant" (adr mg "NoWant")
  p_NoWant : EPl K (adr mg "NoWant")
  e_NoValue : EX K mg "NoValue" (adr mg "NoValue")
  p_NoValue : EPl K (adr mg "NoValue")
  e_NoValues : EX K mg "NoValues" (adr mg "NoValues")
  p_NoValues : EPl K (adr mg "NoValues")
  e_NotEmpty : EX K mg "NotEmpty" (adr mg "NotEmpty")
  p_NotEmpty : EPl K (adr mg "NotEmpty")
  e_Full : EX K mg "Full" (adr mg "Full")
  p_Full : EPl K (adr mg "Full")
  e_NothingDone : EX K mg "NothingDone" (adr mg "NothingDone")
  p_NothingDone : EPl K (adr mg "NothingDone")
  e_NoLine : EX K mg "NoLine" (adr mg "NoLine")
  p_NoLine : EPl K (adr mg "NoLine")
  e_TooLong : EX K mg "TooLong" (adr mg "TooLong")
  p_TooLong : EPl K (adr mg "TooLong")
  e_NoRows : EX K mg "NoRows" (adr mg "NoRows")
  n_NoRows : ∃ f fd, EI K "NoRows.__init__" s_NoRows ["self", "index"] ["index"] (adr mg "NoRows") f fd
  e_BadTree : EX K mg "BadTree" (adr mg "BadTree")
  n_BadTree : ∃ f fd, EI K "BadTree.__init__" s_BadTree ["self", "part"] ["part"] (adr mg "BadTree") f fd
  e_BadSheet : EX K mg "BadSheet" (adr mg "BadSheet")
  n_BadSheet : ∃ f fd, EI K "BadSheet.__init__" s_BadSheet ["self", "part"] ["part"] (adr mg "BadSheet") f fd
  e_BadRules : EX K mg "BadRules" (adr mg "BadRules")
  n_BadRules : ∃ f fd, EI K "BadRules.__init__" s_BadRules ["self", "part"] ["part"] (adr mg "BadRules") f fd
  e_BadTiming : EX K mg "BadTiming" (adr mg "BadTiming")
  n_BadTiming : ∃ f fd, EI K "BadTiming.__init__" s_BadTiming ["self", "part"] ["part"] (adr mg "BadTiming") f fd
  e_TooMany : EX K mg "TooMany" (adr mg "TooMany")
  n_TooMany : ∃ f fd, EI K "TooMany.__init__" s_TooMany ["self", "most"] ["most"] (adr mg "TooMany") f fd
  e_BadText : EX K mg "BadText" (adr mg "BadText")
  n_BadText : ∃ f fd, EI K "BadText.__init__" s_BadText ["self", "line"] ["line"] (adr mg "BadText") f fd
  e_Barred : EX K mg "Barred" (adr mg "Barred")
  n_Barred : ∃ f fd, EI K "Barred.__init__" s_Barred ["self", "post", "way"] ["post", "way"] (adr mg "Barred") f fd
  e_BadSaid : EX K mg "BadSaid" (adr mg "BadSaid")
  n_BadSaid : ∃ f fd, EI K "BadSaid.__init__" s_BadSaid ["self", "tick", "post"] ["tick", "post"] (adr mg "BadSaid") f fd
  e_BadAnswer : EX K mg "BadAnswer" (adr mg "BadAnswer")
  n_BadAnswer : ∃ f fd, EI K "BadAnswer.__init__" s_BadAnswer ["self", "post"] ["post"] (adr mg "BadAnswer") f fd
  e_NoMark : EX K mg "NoMark" (adr mg "NoMark")
  n_NoMark : ∃ f fd, EI K "NoMark.__init__" s_NoMark ["self", "name"] ["name"] (adr mg "NoMark") f fd
  e_BadJournal : EX K mg "BadJournal" (adr mg "BadJournal")
  n_BadJournal : ∃ f fd, EI K "BadJournal.__init__" s_BadJournal ["self", "number"] ["number"] (adr mg "BadJournal") f fd
  e_NoName : EX K mg "NoName" (adr mg "NoName")
  n_NoName : ∃ f fd, EI K "NoName.__init__" s_NoName ["self", "name"] ["name"] (adr mg "NoName") f fd
  e_BadTale : EX K mg "BadTale" (adr mg "BadTale")
  n_BadTale : ∃ f fd, EI K "BadTale.__init__" s_BadTale ["self", "line"] ["line"] (adr mg "BadTale") f fd
  e_Failed : EX K mg "Failed" (adr mg "Failed")
  n_Failed : ∃ f fd, EI K "Failed.__init__" s_Failed ["self", "line"] ["line"] (adr mg "Failed") f fd
  u_NoClock_TollError : PySem.W.subIn K (.ref (adr mg "NoClock")) (.ref (adr mg "TollError")) = some true
  u_NoClock_NoClock : PySem.W.subIn K (.ref (adr mg "NoClock")) (.ref (adr mg "NoClock")) = some true
  u_NoClock_NoNumber : PySem.W.subIn K (.ref (adr mg "NoClock")) (.ref (adr mg "NoNumber")) = some false
  u_NoClock_NoRow : PySem.W.subIn K (.ref (adr mg "NoClock")) (.ref (adr mg "NoRow")) = some false
  u_NoClock_NoRows : PySem.W.subIn K (.ref (adr mg "NoClock")) (.ref (adr mg "NoRows")) = some false
  u_NoNumber_TollError : PySem.W.subIn K (.ref (adr mg "NoNumber")) (.ref (adr mg "TollError")) = some true
  u_NoNumber_NoClock : PySem.W.subIn K (.ref (adr mg "NoNumber")) (.ref (adr mg "NoClock")) = some false
  u_NoNumber_NoNumber : PySem.W.subIn K (.ref (adr mg "NoNumber")) (.ref (adr mg "NoNumber")) = some true
  u_NoNumber_NoRow : PySem.W.subIn K (.ref (adr mg "NoNumber")) (.ref (adr mg "NoRow")) = some false
  u_NoNumber_NoRows : PySem.W.subIn K (.ref (adr mg "NoNumber")) (.ref (adr mg "NoRows")) = some false
  u_NoRow_TollError : PySem.W.subIn K (.ref (adr mg "NoRow")) (.ref (adr mg "TollError")) = some true
  u_NoRow_NoClock : PySem.W.subIn K (.ref (adr mg "NoRow")) (.ref (adr mg "NoClock")) = some false
  u_NoRow_NoNumber : PySem.W.subIn K (.ref (adr mg "NoRow")) (.ref (adr mg "NoNumber")) = some false
  u_NoRow_NoRow : PySem.W.subIn K (.ref (adr mg "NoRow")) (.ref (adr mg "NoRow")) = some true
  u_NoRow_NoRows : PySem.W.subIn K (.ref (adr mg "NoRow")) (.ref (adr mg "NoRows")) = some false
  u_NoRows_NoRows : PySem.W.subIn K (.ref (adr mg "NoRows")) (.ref (adr mg "NoRows")) = some true
  b_ValueError : mg "ValueError" = none
  u_all : uAll K (NX.map (adr mg)) = true
end S4

namespace S4
open PySem L2 TT
section
variable {P : Program} {w : World} {K : PySem.W.Frag} {mg : Str → Option Value} {base : Heap} {cT cS : Addr}
/-! ### kinds -/
def spIsInteger : Sp := fun vs H Q _ => ∃ (n : Int), vs = [.int n] ∧ Q (.bl true) H
theorem ok_is_integer (T : Tx K mg cT cS) {f : Addr} {fd : FuncData} (d : D K mg "is_integer" s_is_integer ["thing"] f fd) : FnOk P w K mg base CX0 1 f fd ["thing"] spIsInteger := by
  refine d.F.ok sc_is_integer (fun vs H Q E h => ?_) (fun cdv A outer s H vs Q E hr h => ?_)
  · obtain ⟨n, rfl, _⟩ := h
    rfl
  · obtain ⟨n, rfl, q⟩ := h
    refine ⟨_, pss_one (ps_ret (pe_and (pe_callB call_isi (by rfl) T.b_isinstance (by decide +kernel) (pa_cons (pv 0) (pa_cons (ty_int T.b_int) pa_nil)))
      (pe_one (pe_not (pe_callB call_isi (by rfl) T.b_isinstance (by decide +kernel) (pa_cons (pv 0) (pa_cons (ty_bool T.b_bool) pa_nil))))))), ?_⟩
    exact ⟨_, rfl, _, _, _, _, _, rfl, .ty _, .base (.int _), kit_ii, _, rfl, iteT ⟨_, rfl, _, _, _, _, _, rfl, .ty _, .base (.int _), kit_ib, _, rfl, q⟩⟩
def spIsBelow : Sp := fun vs H Q _ => ∃ (n e : Int), vs = [.int n, .int e] ∧ Q (.bl (decide (0 ≤ n ∧ n < e))) H
theorem ok_is_below (T : Tx K mg cT cS) {f : Addr} {fd : FuncData} (d : D K mg "is_below" s_is_below ["thing", "end"] f fd) : FnOk P w K mg base CX0 2 f fd ["thing", "end"] spIsBelow := by
  obtain ⟨f1, fd1, d1⟩ := T.d_is_integer
  have G1 : FnOk P w K mg base CX0 1 f1 fd1 ["thing"] spIsInteger := ok_is_integer T d1
  refine d.F.ok sc_is_below (fun vs H Q E h => ?_) (fun cdv A outer s H vs Q E hr h => ?_)
  · obtain ⟨n, e, rfl, _⟩ := h
    rfl
  · obtain ⟨n, e, rfl, q⟩ := h
    refine ⟨_, pss_one (ps_ret (pe_and (pe_call G1 hr rfl d1.m d1.F.kp d1.b .nil pass0 (pa_cons (pv 0) pa_nil)) (pe_one (pe_chain op_le op_lt pe_int (pv 0) (pv 1))))), ?_⟩
    refine ⟨_, rfl, n, rfl, _, rfl, iteT ⟨_, rfl, _, _, rfl, rfl, _, rfl, ?_⟩⟩
    by_cases h0 : 0 ≤ n
    · rw [decide_eq_true h0]
      refine iteT ⟨_, rfl, _, _, rfl, rfl, ?_⟩
      simpa [h0] using q
    · rw [decide_eq_false h0]
      refine iteF ?_
      simpa [h0] using q
def spIsPair : Sp := fun vs H Q _ => ∃ t x y, vs = [.ref t] ∧ H t = some (.tup [x, y]) ∧ Q (.bl true) H
end
end S4

namespace S4
open PySem L2 TT
section
variable {P : Program} {w : World} {K : PySem.W.Frag} {mg : Str → Option Value} {base : Heap} {cT cS : Addr}
def isRow (l : List Int) (p : Int) (wd : Int) : Prop := (l.length : Int) = wd ∧ ∀ v ∈ l, 0 ≤ v ∧ v < p
/-- a row that is right -/
def spIsRow : Sp := fun vs H Q _ => ∃ (v : V) (l : List Int) (p wd : Int), vs = [v, .int p, .int wd] ∧ rRow H v l ∧ l.length ≤ 100000 ∧ isRow l p wd ∧ ∀ H', Same H H' → Q (.bl true) H'
theorem all_true : ∀ {bs : List Bool}, (∀ b ∈ bs, b = true) → bs.all id = true := fun {bs} h => by
  rw [List.all_eq_true]
  exact fun x hx => h x hx
def rBl : Rp Bool := fun _ v b => v = .bl b
theorem mono_bl : Mono rBl := fun _ _ _ _ _ h => h
theorem paired_bl {H : Hp} : ∀ {xs : List V} {l : List Bool}, Paired (rBl H) xs l → xs = l.map V.bl
  | _, _, .nil => rfl
  | _, _, .cons r t => by cases r; rw [List.map_cons, paired_bl t]
theorem ok_is_row (T : Tx K mg cT cS) {f : Addr} {fd : FuncData} (d : D K mg "is_row" s_is_row ["thing", "p", "wide"] f fd) : FnOk P w K mg base CX0 3 f fd ["thing", "p", "wide"] spIsRow := by
  obtain ⟨f1, fd1, d1⟩ := T.d_is_below
  have G1 : FnOk P w K mg base CX0 2 f1 fd1 ["thing", "end"] spIsBelow := ok_is_below T d1
  refine d.F.ok sc_is_row (fun vs H Q E h => ?_) (fun cdv A outer s H vs Q E hr h => ?_)
  · obtain ⟨v, l, p, wd, rfl, _⟩ := h
    rfl
  · obtain ⟨v, l, p, wd, rfl, ⟨t, rfl, ht⟩, hl, ⟨hw, hv⟩, q⟩ := h
    refine ⟨_, pss_cons (ps_if (PW.pt (pw_or (pt_not (pt_val (pe_callB call_isi (by rfl) T.b_isinstance (by decide +kernel) (pa_cons (pv 0) (pa_cons (ty_tuple T.b_tuple) pa_nil)))))
        (pw_or1 (pt_cmpR op_ne (pe_callB call_len_seq (by rfl) T.b_len PySem.boot_len (pa_cons (pv 0) pa_nil)) (pv 2) (nomark _))))) (pss_one (ps_ret pe_bl)) pss_nil)
      (pss_one (ps_ret (pe_callB (cr_all rfl) (by rfl) T.b_all (by decide +kernel) (pa_cons
        (pe_lc (own := [("value", 3)]) (g := gName 3) (tt := tYes) rfl sc_is_row.nd (pi_tup (pv 0)) (blkOk_by (N := N_is_row) (sc := defScope s_is_row) (by decide +kernel)) (fun _ _ _ _ _ => pg_name (i := 3) sc_is_row.nd rfl (Or.inl rfl)) (fun _ _ _ _ _ => pts_nil)
          (fun _ _ _ _ _ => pe_call G1 hr rfl d1.m d1.F.kp d1.b .nil pass0 (pa_cons (pv 3) (pa_cons (pv 1) pa_nil)))) pa_nil)))), ?_⟩
    refine ⟨_, rfl, _, _, _, _, _, rfl, .ty _, .base (.tup ht), kit_tt, _, rfl, iteF ?_⟩
    refine ⟨_, rfl, _, _, rfl, .inr (.of ht), _, rfl, rfl, _, rfl, ?_⟩
    have e1 : V.int (((l.map V.int).length : Nat) : Int) = V.int wd := by rw [List.length_map, hw]
    rw [e1, decide_eq_true rfl]
    refine iteF ⟨_, rfl, t, rfl, ⟨_, .of ht⟩, fun D hD => ?_⟩
    refine lc_fm (walk_tup (xs := l.map V.int)) rBl (fun _ => some true) hD (fun H' s' => .of (s'.keep.tup ht)) ?_ ?_
    · rintro i x H2 H3 hi pv ⟨rfl, hx⟩
      obtain ⟨n, hn, rfl⟩ := at_int hx
      rw [List.length_map] at hi
      obtain ⟨g1, g2⟩ := hv n (List.mem_of_getElem? hn)
      refine ⟨rfl, _, rfl, _, rfl, n, p, rfl, ?_⟩
      rw [decide_eq_true ⟨g1, g2⟩]
      exact fm_keep mono_bl pv hD (by omega) (Same.refl _) rfl rfl
    · intro H2 xs s2 hD2 hp
      have := paired_bl hp
      subst this
      refine ⟨_, _, rfl, .of hD2, ?_⟩
      rw [all_true fun b hb => by
        obtain ⟨_, _, e⟩ := List.mem_filterMap.mp hb
        exact (Option.some.inj e).symm]
      exact q _ s2
end
end S4

namespace S4
open PySem L2 TT
section
variable {P : Program} {w : World} {K : PySem.W.Frag} {mg : Str → Option Value} {base : Heap} {cT cS : Addr}
def NoDiv (n : Int) : Prop := 2 ≤ n ∧ n ≤ 1000000 ∧ ∀ k : Int, 2 ≤ k → k * k ≤ n → n % k ≠ 0
def spIsClock : Sp := fun vs H Q _ => ∃ (n : Int), vs = [.int n] ∧ NoDiv n ∧ Q (.bl true) H
theorem sq_small {f : Int} (h : 2 ≤ f) (h2 : f * f ≤ 1000000) : f ≤ 1000 := by
  by_cases q : f ≤ 1000
  · exact q
  · have a : 1001 * 1001 ≤ f * f := Int.mul_le_mul (by omega) (by omega) (by decide) (by omega)
    omega
theorem ok_is_clock (T : Tx K mg cT cS) {f : Addr} {fd : FuncData} (d : D K mg "is_clock" s_is_clock ["thing"] f fd) : FnOk P w K mg base CX0 2 f fd ["thing"] spIsClock := by
  obtain ⟨f1, fd1, d1⟩ := T.d_is_integer
  have G1 : FnOk P w K mg base CX0 1 f1 fd1 ["thing"] spIsInteger := ok_is_integer T d1
  obtain ⟨tk, hM⟩ := T.c_MOST_HOURS
  refine d.F.ok sc_is_clock (fun vs H Q E h => ?_) (fun cdv A outer s H vs Q E hr h => ?_)
  · obtain ⟨n, rfl, _⟩ := h
    rfl
  · obtain ⟨n, rfl, ⟨n2, n6, nd⟩, q⟩ := h
    refine ⟨_, pss_cons (ps_if (PW.pt (pw_or (pt_not (pt_val (pe_call G1 hr rfl d1.m d1.F.kp d1.b .nil pass0 (pa_cons (pv 0) pa_nil))))
        (pw_or1 (pt_not (pt_chain op_le op_le pe_int (pv 0) (pe_glob (v := .int 1000000) rfl hM ⟨_, rfl⟩)))))) (pss_one (ps_ret pe_bl)) pss_nil)
      (pss_cons (ps_set (i := 1) sc_is_clock.nd rfl (.inl rfl) pe_int)
      (pss_cons (ps_while PassesOwn.never (pt_cmpR op_le (pe_op op_mul (pv 1) (pv 1)) (pv 0) (nomark _))
        (pss_cons (ps_if (pt_cmpR op_eq (pe_op op_mod (pv 0) (pv 1)) pe_int (nomark _)) (pss_one (ps_ret pe_bl)) pss_nil)
          (pss_one (ps_aug (i := 1) sc_is_clock.nd rfl (.inl rfl) pe_int ip_add))))
      (pss_one (ps_ret pe_bl)))), ?_⟩
    refine ⟨_, rfl, n, rfl, _, rfl, iteF ?_⟩
    refine ⟨_, rfl, _, _, rfl, rfl, _, rfl, ?_⟩
    rw [decide_eq_true n2]
    refine iteT ⟨_, _, rfl, rfl, _, rfl, ?_⟩
    rw [decide_eq_true n6]
    refine iteF ?_
    refine while_by (fun σ H' => H' = H ∧ ∃ k : Int, σ = [some (.int n), some (.int k)] ∧ 2 ≤ k ∧ k ≤ 1001) (fun σ _ => match σ with | [_, some (.int k)] => (2000 - k).toNat | _ => 0) ⟨rfl, 2, rfl, by decide, by decide⟩ ?_ ?_
    · rintro σ H' ⟨rfl, k, rfl, k2, k3⟩
      refine ⟨_, rfl, _, rfl, _, _, rfl, rfl, .inl ⟨by omega, by omega⟩, _, rfl, _, _, rfl, rfl, _, rfl, ?_⟩
      by_cases hk : k * k ≤ n
      · rw [decide_eq_true hk]
        refine iteT ?_
        refine ⟨_, rfl, _, rfl, _, _, rfl, rfl, by omega, rfl, _, rfl, ?_⟩
        have hne : ¬ V.int (n % k) = V.int 0 := fun e => nd k k2 hk (V.int.inj e)
        rw [decide_eq_false hne]
        refine iteF ⟨_, rfl, _, _, rfl, rfl, ⟨rfl, k + 1, rfl, by omega, ?_⟩, ?_⟩
        · have := sq_small k2 (Int.le_trans hk n6)
          omega
        · show (2000 - (k + 1)).toNat < (2000 - k).toNat
          omega
      · rw [decide_eq_false hk]
        exact iteF q
    · rintro σ H' Q1 Q2 i ⟨v, e1, v2, e2, a, b, e3, e4, c, v3, e5, a1, b1, e6, e7, k, e8, h⟩
      exact ⟨v, e1, v2, e2, a, b, e3, e4, c, v3, e5, a1, b1, e6, e7, k, e8, i _ _ h⟩
end
end S4

/-! posts, ties, what is reached: plain mathematics -/
namespace MM
def nbOf (post : Int) (t : Int × Int) : Option Int := if t.1 = post ∨ t.2 = post then some (if t.1 = post then t.2 else t.1) else none
def nb (ties : List (Int × Int)) (post : Int) : List Int := ties.filterMap (nbOf post)
def Up (ns : List Int) : Prop := ns.Pairwise (· ≤ ·)
/-- reached from s without the barred one -/
inductive Rch (ties : List (Int × Int)) (bar : Option Int) (s : Int) : Int → Prop
  | refl : Rch ties bar s s
  | step {u v : Int} : Rch ties bar s u → v ∈ nb ties u → bar ≠ some v → Rch ties bar s v
/-- the walk's word: found and waiting, ex the one whose neighbours are being looked at -/
structure RI (ties : List (Int × Int)) (bar : Option Int) (s : Int) (ex : Option Int) (fnd wt : List Int) : Prop where
  nd : fnd.Nodup
  st : s ∈ fnd
  ok : ∀ v ∈ fnd, Rch ties bar s v
  sub : ∀ v ∈ wt, v ∈ fnd
  cl : ∀ u ∈ fnd, u ∉ wt → ex ≠ some u → ∀ v ∈ nb ties u, bar ≠ some v → v ∈ fnd
  exf : ∀ h, ex = some h → h ∈ fnd
  wl : wt.length ≤ fnd.length
variable {ties : List (Int × Int)} {bar : Option Int} {s : Int}
theorem RI.start : RI ties bar s none [s] [s] :=
  ⟨by simp, by simp, fun v h => by rw [List.mem_singleton.mp h]; exact .refl, fun v h => h, fun u h h' => absurd h h', fun _ h => (nomatch h), Nat.le_refl _⟩
theorem RI.pop {fnd wt : List Int} {h : Int} (r : RI ties bar s none fnd wt) (hl : wt[wt.length - 1]? = some h) : RI ties bar s (some h) fnd wt.dropLast := by
  have hm : wt = wt.dropLast ++ [h] := by
    have hne : wt ≠ [] := by intro e; subst e; simp at hl
    have e1 := List.dropLast_concat_getLast hne
    have e2 : wt.getLast hne = h := by
      have := List.getLast?_eq_getElem? (l := wt)
      rw [hl, List.getLast?_eq_some_getLast hne] at this
      exact Option.some.inj this
    rw [e2] at e1
    exact e1.symm
  refine ⟨r.nd, r.st, r.ok, fun v hv => r.sub v ?_, fun u hu hn he v hv hb => r.cl u hu ?_ (fun q => nomatch q) v hv hb, fun q e => ?_, by rw [List.length_dropLast]; have := r.wl; omega⟩
  · rw [hm]; exact List.mem_append_left _ hv
  · intro hw
    rw [hm] at hw
    rcases List.mem_append.mp hw with hw | hw
    · exact hn hw
    · rw [List.mem_singleton.mp hw] at he
      exact he rfl
  · cases e
    exact r.sub h (by rw [hm]; simp)
theorem RI.add {fnd wt : List Int} {h v : Int} (r : RI ties bar s (some h) fnd wt) (hv : v ∈ nb ties h) (hb : bar ≠ some v) (hn : v ∉ fnd) : RI ties bar s (some h) (fnd ++ [v]) (wt ++ [v]) := by
  refine ⟨?_, List.mem_append_left _ r.st, fun u hu => ?_, fun u hu => ?_, fun u hu hw he x hx hbx => ?_, fun q e => List.mem_append_left _ (r.exf q e), by rw [List.length_append, List.length_append]; have := r.wl; omega⟩
  · rw [List.nodup_append]
    exact ⟨r.nd, by simp, fun a ha b hb => by rw [List.mem_singleton.mp hb]; intro e; subst e; exact hn ha⟩
  · rcases List.mem_append.mp hu with hu | hu
    · exact r.ok u hu
    · rw [List.mem_singleton.mp hu]
      exact .step (r.ok h (r.exf h rfl)) hv hb
  · rcases List.mem_append.mp hu with hu | hu
    · exact List.mem_append_left _ (r.sub u hu)
    · exact List.mem_append_right _ hu
  · rcases List.mem_append.mp hu with hu | hu
    · exact List.mem_append_left _ (r.cl u hu (fun q => hw (List.mem_append_left _ q)) he x hx hbx)
    · exact absurd (List.mem_append_right _ hu) hw
theorem RI.close {fnd wt : List Int} {h : Int} (r : RI ties bar s (some h) fnd wt) (hc : ∀ v ∈ nb ties h, bar ≠ some v → v ∈ fnd) : RI ties bar s none fnd wt :=
  ⟨r.nd, r.st, r.ok, r.sub, fun u hu hw _ v hv hb => by
    by_cases e : u = h
    · subst e; exact hc v hv hb
    · exact r.cl u hu hw (fun q => e (Option.some.inj q).symm) v hv hb, fun _ h => (nomatch h), r.wl⟩
theorem RI.done {fnd : List Int} (r : RI ties bar s none fnd []) : ∀ v, v ∈ fnd ↔ Rch ties bar s v := fun v => by
  refine ⟨r.ok v, fun h => ?_⟩
  induction h with
  | refl => exact r.st
  | step _ hv hb ih => exact r.cl _ ih (by simp) (fun q => nomatch q) _ hv hb
/-- bounded by a list that the neighbours stay in -/
theorem nodup_len : ∀ {l V : List Int}, l.Nodup → (∀ v ∈ l, v ∈ V) → l.length ≤ V.length
  | [], _, _, _ => Nat.zero_le _
  | a :: l, V, h, hs => by
    have ha : a ∈ V := hs a (by simp)
    obtain ⟨h1, h2⟩ := List.nodup_cons.mp h
    have : l.length ≤ (V.erase a).length := nodup_len h2 fun v hv => by
      have : v ≠ a := fun e => h1 (e ▸ hv)
      exact (List.mem_erase_of_ne this).mpr (hs v (by simp [hv]))
    rw [List.length_erase_of_mem ha] at this
    have := List.length_pos_of_mem ha
    rw [List.length_cons]
    omega
structure Shut (ties : List (Int × Int)) (V : List Int) : Prop where
  cl : ∀ u ∈ V, ∀ v ∈ nb ties u, v ∈ V
theorem Rch.inV {V : List Int} (hs : Shut ties V) (h0 : s ∈ V) {v : Int} (h : Rch ties bar s v) : v ∈ V := by
  induction h with
  | refl => exact h0
  | step _ hv _ ih => exact hs.cl _ ih _ hv
theorem RI.len {fnd wt : List Int} {ex : Option Int} {V : List Int} (r : RI ties bar s ex fnd wt) (hs : Shut ties V) (h0 : s ∈ V) : fnd.length ≤ V.length := nodup_len r.nd fun v hv => (r.ok v hv).inV hs h0
end MM

namespace S4
open PySem L2 TT MM
/-! ### ties as data -/
theorem hu65 {k : Nat} {A : Around} (r : Room k A) : A.units + 65 < cLine := by have := r.un; omega
def pd (z : Int × Int) : PyData := .tuple [.int z.1, .int z.2]
theorem pd_lay (z : Int × Int) : (pd z).canLay0 = true := by simp [pd, PyData.canLay0, PyData.canLayAll0]
theorem pd_depth (z : Int × Int) : (pd z).depth = 1 := by simp [pd, PyData.depth, PyData.depthAll]
theorem pds_lay : ∀ zs : List (Int × Int), PyData.canLayAll0 (zs.map pd) = true
  | [] => by simp [PyData.canLayAll0]
  | z :: zs => by simp [PyData.canLayAll0, pd_lay z, pds_lay zs]
theorem pds_depth : ∀ zs : List (Int × Int), PyData.depthAll (zs.map pd) ≤ 1
  | [] => by simp [PyData.depthAll]
  | z :: zs => by
    have h1 := pds_depth zs
    have h2 := pd_depth z
    simp only [List.map_cons, PyData.depthAll]
    omega
theorem pd_shaped (z : Int × Int) : SeqAt.shaped (pd z) = true := by
  have h := pd_depth z
  show ((pd z).canLay0 && decide ((pd z).depth ≤ 64)) = true
  rw [Bool.and_eq_true]
  exact ⟨pd_lay z, decide_eq_true (by omega)⟩
theorem pdt_shaped (zs : List (Int × Int)) : SeqAt.shaped (.tuple (zs.map pd)) = true := by
  have h1 := pds_depth zs
  have h2 : PyData.depth (.tuple (zs.map pd)) ≤ 64 := by
    simp only [PyData.depth]
    omega
  show (PyData.canLay0 (.tuple (zs.map pd)) && decide (PyData.depth (.tuple (zs.map pd)) ≤ 64)) = true
  rw [Bool.and_eq_true]
  exact ⟨by simp only [PyData.canLay0]; exact pds_lay zs, decide_eq_true h2⟩
theorem pdl_shaped (zs : List (Int × Int)) : SeqAt.shaped (.list (zs.map pd)) = true := by
  have h1 := pds_depth zs
  have h2 : PyData.depth (.list (zs.map pd)) ≤ 64 := by
    simp only [PyData.depth]
    omega
  show (PyData.canLay0 (.list (zs.map pd)) && decide (PyData.depth (.list (zs.map pd)) ≤ 64)) = true
  rw [Bool.and_eq_true]
  exact ⟨by simp only [PyData.canLay0]; exact pds_lay zs, decide_eq_true h2⟩
theorem pd_eqv (z w : Int × Int) : PyData.eqv (pd z) (pd w) = decide (z = w) := by
  obtain ⟨a, b⟩ := z
  obtain ⟨c, e⟩ := w
  have q : PyData.eqv (pd (a, b)) (pd (c, e)) = ((a == c) && ((b == e) && true)) := by simp only [pd, PyData.eqv, PyData.eqvAll]
  rw [q]
  by_cases h1 : a = c
  · by_cases h2 : b = e
    · subst h1 h2; simp
    · rw [decide_eq_false (fun x => h2 (Prod.mk.inj x).2), beq_eq_false_iff_ne.mpr h2, Bool.false_and, Bool.and_false]
  · rw [decide_eq_false (fun x => h1 (Prod.mk.inj x).1), beq_eq_false_iff_ne.mpr h1, Bool.false_and]
theorem any_pd (zs : List (Int × Int)) (w : Int × Int) : ((zs.map pd).any fun z => PyData.eqv z (pd w)) = decide (w ∈ zs) := by
  induction zs with
  | nil => simp
  | cons z zs ih =>
    rw [List.map_cons, List.any_cons, ih, pd_eqv]
    by_cases h : z = w
    · subst h; simp
    · have h' : ¬ w = z := fun e => h e.symm
      simp [h, h']
section
variable {K : PySem.W.Frag} {H : Hp}
theorem dp_pi {v : V} {z : Int × Int} (h : rPI H v z) : Dp K H v (pd z) := by
  obtain ⟨t, rfl, ht⟩ := h
  exact .tup (.of ht) (.cons (.int _) (.cons (.int _) .nil))
theorem dp_all : ∀ {xs : List V} {zs : List (Int × Int)}, Paired (rPI H) xs zs → DpAll K H xs (zs.map pd)
  | _, _, .nil => .nil
  | _, _, .cons r t => .cons (dp_pi r) (dp_all t)
theorem dp_ties {v : V} {zs : List (Int × Int)} (h : rTup rPI H v zs) : Dp K H v (.tuple (zs.map pd)) := by
  obtain ⟨t, xs, rfl, ht, p⟩ := h
  exact .tup (.of ht) (dp_all p)
end
/-! ### posts tied -/
theorem inV2 (a b post : Int) : inV (.int post) [.int a, .int b] = decide (a = post ∨ b = post) := by
  show ((a == post) || ((b == post) || false)) = _
  by_cases h1 : a = post
  · subst h1; simp
  · by_cases h2 : b = post
    · subst h2; simp
    · simp [h1, h2]
section
variable {P : Program} {w : World} {K : PySem.W.Frag} {mg : Str → Option Value} {base : Heap} {cT cS : Addr}
def spNbr : Sp := fun vs H Q _ => ∃ (v : V) (ties : List (Int × Int)) (post : Int), vs = [v, .int post] ∧ rTup rPI H v ties ∧ ties.length ≤ 1000 ∧
  ∀ H' v' ns, Same H H' → rRow H' v' ns → ns.Perm (nb ties post) → Up ns → Q v' H'
end
end S4

namespace S4
open PySem L2 TT MM
/-! ### reached -/
def kf (l : List Int) : List (L2.Key × V) := l.map fun k => (Sum.inl k, V.bl true)
theorem kf_look : ∀ (l : List Int) (n : Int), valV (kf l) (Sum.inl n) = if n ∈ l then some (V.bl true) else none
  | [], n => by simp [kf, valV_nil]
  | a :: l, n => by
    show valV ((Sum.inl a, V.bl true) :: kf l) (Sum.inl n) = _
    by_cases e : a = n
    · subst e
      rw [valV_pos rfl, if_pos (by simp)]
    · have e' : ¬ (Sum.inl a : L2.Key) = Sum.inl n := fun q => e (Sum.inl.inj q)
      rw [valV_neg e', kf_look l n]
      by_cases h : n ∈ l
      · rw [if_pos h, if_pos (by simp [h])]
      · rw [if_neg h, if_neg (by simp [h]; exact fun q => e q.symm)]
theorem kf_put {l : List Int} {n : Int} (h : n ∉ l) : putK (kf l) (Sum.inl n) (V.bl true) = kf (l ++ [n]) := by
  rw [putK_new _ (by rw [kf_look, if_neg h])]
  simp [kf]
theorem kf_len (l : List Int) : (kf l).length = l.length := by simp [kf]
theorem kf_keys (l : List Int) : (kf l).map (·.1) = l.map Sum.inl := by simp [kf]
def optV : Option Int → V
  | none => .non
  | some b => .int b
section
variable {P : Program} {w : World} {K : PySem.W.Frag} {mg : Str → Option Value} {base : Heap} {cT cS : Addr}
def spReached : Sp := fun vs H Q _ => ∃ (v : V) (ties : List (Int × Int)) (st : Int) (bar : Option Int) (U : List Int), vs = [v, .int st, optV bar] ∧ rTup rPI H v ties ∧ ties.length ≤ 1000 ∧ Shut ties U ∧ st ∈ U ∧ U.length < 64 ∧
  ∀ H' v' ns, Same H H' → rRow H' v' ns → Up ns → ns.Nodup → (∀ x, x ∈ ns ↔ Rch ties bar st x) → Q v' H'
/-- the two that stand in the walk -/
structure RS (H0 : Hp) (df dw : Addr) (fnd wt : List Int) (H : Hp) : Prop where
  same : Same H0 H
  f0 : H0 df = none
  w0 : H0 dw = none
  fd : H df = some (.dK (kf fnd))
  wd : H dw = some (.lst (wt.map V.int))
theorem RS.ne {H0 : Hp} {df dw : Addr} {fnd wt : List Int} {H : Hp} (r : RS H0 df dw fnd wt H) : df ≠ dw := ne_of r.fd r.wd (fun q => nomatch q)
theorem RS.more {H0 : Hp} {df dw : Addr} {fnd wt : List Int} {H H' : Hp} (r : RS H0 df dw fnd wt H) (s : Same H H') : RS H0 df dw fnd wt H' := ⟨r.same.trans s, r.f0, r.w0, s _ _ r.fd, s _ _ r.wd⟩
theorem RS.setW {H0 : Hp} {df dw : Addr} {fnd wt : List Int} {H : Hp} (r : RS H0 df dw fnd wt H) (wt' : List Int) : RS H0 df dw fnd wt' (upd H dw (.lst (wt'.map V.int))) :=
  ⟨same_own r.same r.w0, r.f0, r.w0, by rw [upd_ne r.ne]; exact r.fd, upd_same⟩
theorem RS.setF {H0 : Hp} {df dw : Addr} {fnd wt : List Int} {H : Hp} (r : RS H0 df dw fnd wt H) (fnd' : List Int) : RS H0 df dw fnd' wt (upd H df (.dK (kf fnd'))) :=
  ⟨same_own r.same r.f0, r.f0, r.w0, upd_same, by rw [upd_ne r.ne.symm]; exact r.wd⟩
end
end S4

namespace S4
open PySem L2 TT MM
/-! ### a tree in the heap -/
def tfs (t : Addr) (n : Int) : List (Str × V) := putF "posts" (.int n) (putF "ties" (.ref t) [])
theorem tfs_ties (t : Addr) (n : Int) : (tfs t n).lookup ("ties" : Str) = some (.ref t) := by
  unfold tfs
  rw [lookup_putF, if_neg (by decide +kernel), lookup_putF, if_pos rfl]
theorem tfs_posts (t : Addr) (n : Int) : (tfs t n).lookup ("posts" : Str) = some (.int n) := by
  unfold tfs
  rw [lookup_putF, if_pos rfl]
def rTree (cT : Addr) : Rp (List (Int × Int)) := fun H v ties => ∃ a dx t xs, v = .ref a ∧ H a = some (.ins cT dx (tfs t ((ties.length : Int) + 1))) ∧ H t = some (.tup xs) ∧ Paired (rPI H) xs ties
theorem mono_tree (cT : Addr) : Mono (rTree cT) := fun _ _ _ _ k ⟨a, dx, t, xs, e, h1, h2, h3⟩ => ⟨a, dx, t, xs, e, k.ins h1, k.tup h2, paired_mono mono_pi k h3⟩
theorem mem_ties {K : PySem.W.Frag} {H : Hp} {v u : V} {z : Int × Int} {ties : List (Int × Int)} (h : rPI H v z) (h2 : rTup rPI H u ties) {Q : V → Hp → Prop} (q : Q (.bl (decide (z ∈ ties))) H) : rInT K v u H Q :=
  ⟨pd z, ties.map pd, dp_pi h, dp_ties h2, pd_shaped z, pdt_shaped ties, by rw [any_pd]; exact q⟩
section
variable {P : Program} {w : World} {K : PySem.W.Frag} {mg : Str → Option Value} {base : Heap} {cT cS : Addr}
def spIsTie : Sp := fun vs H Q _ => ∃ (v : V) (z : Int × Int) (n : Int), vs = [v, .int n] ∧ rPI H v z ∧ 0 ≤ z.1 ∧ z.1 < z.2 ∧ z.2 < n ∧ ∀ H', Same H H' → Q (.bl true) H'
theorem two_at {a b : Int} {i : Nat} {x : V} (h : [V.int a, V.int b][i]? = some x) : x = .int a ∨ x = .int b := by
  match i, h with
  | 0, h => exact .inl (Option.some.inj h).symm
  | 1, h => exact .inr (Option.some.inj h).symm
theorem all_true_fm {n : Nat} {bs : List Bool} (h : bs = (List.range n).filterMap fun _ => some true) : bs.all id = true := all_true fun b hb => by
  rw [h] at hb
  obtain ⟨_, _, e⟩ := List.mem_filterMap.mp hb
  exact (Option.some.inj e).symm
def spIsWay (cT : Addr) : Sp := fun vs H Q _ => ∃ (u v : V) (ties : List (Int × Int)) (z : Int × Int), vs = [u, v] ∧ rTree cT H u ties ∧ rPI H v z ∧ 0 ≤ z.1 ∧ 0 ≤ z.2 ∧ z.1 < (ties.length : Int) + 1 ∧ z.2 < (ties.length : Int) + 1 ∧ (z ∈ ties ∨ z.swap ∈ ties) ∧
  ∀ H', Same H H' → Q (.bl true) H'
end
end S4

namespace S4
open PySem L2 TT MM
section
variable {P : Program} {w : World} {K : PySem.W.Frag} {mg : Str → Option Value} {base : Heap} {cT cS : Addr}
def spTied (cT : Addr) : Sp := fun vs H Q _ => ∃ (u : V) (ties : List (Int × Int)) (post : Int), vs = [u, .int post] ∧ rTree cT H u ties ∧ ties.length ≤ 1000 ∧ 0 ≤ post ∧ post < (ties.length : Int) + 1 ∧
  ∀ H' v' ns, Same H H' → rRow H' v' ns → ns.Perm (nb ties post) → Up ns → Q v' H'
def spThis (cT : Addr) : Sp := fun vs H Q _ => ∃ (u v : V) (ties : List (Int × Int)) (z : Int × Int) (U : List Int), vs = [u, v] ∧ rTree cT H u ties ∧ rPI H v z ∧ ties.length ≤ 1000 ∧ Shut ties U ∧ z.1 ∈ U ∧ U.length < 64 ∧
  ∀ H' v' ns, Same H H' → rRow H' v' ns → Up ns → ns.Nodup → (∀ x, x ∈ ns ↔ Rch ties (some z.2) z.1 x) → Q v' H'
def spBeyond (cT : Addr) : Sp := fun vs H Q _ => ∃ (u v : V) (ties : List (Int × Int)) (z : Int × Int) (U : List Int), vs = [u, v] ∧ rTree cT H u ties ∧ rPI H v z ∧ ties.length ≤ 1000 ∧ Shut ties U ∧ z.2 ∈ U ∧ U.length < 64 ∧
  0 ≤ z.1 ∧ 0 ≤ z.2 ∧ z.1 < (ties.length : Int) + 1 ∧ z.2 < (ties.length : Int) + 1 ∧ (z ∈ ties ∨ z.swap ∈ ties) ∧
  ∀ H' v' ns, Same H H' → rRow H' v' ns → Up ns → ns.Nodup → (∀ x, x ∈ ns ↔ Rch ties (some z.1) z.2 x) → Q v' H'
/-! ### all ways -/
def flipAll (ties : List (Int × Int)) : List (Int × Int) := ties.map Prod.swap
/-- a new ascending list of all ways -/
def spWays (cT : Addr) : Sp := fun vs H Q _ => ∃ (u : V) (ties : List (Int × Int)), vs = [u] ∧ rTree cT H u ties ∧ ties.length ≤ 1000 ∧
  ∀ H' p xs m, Same H H' → H p = none → H' p = some (.lst xs) → Paired (rPI H') xs m → m.Perm (ties ++ flipAll ties) → m.Pairwise lxLe → Q (.ref p) H'
theorem fm_some {α β : Type} (l : List α) (h : α → β) : (List.range l.length).filterMap (fun i => l[i]?.bind fun x => some (h x)) = l.map h := by
  rw [fm_list, List.filterMap_eq_map']
end
end S4

namespace S4
open PySem L2 TT MM
/-- ties that make a tree of n posts -/
structure TiesOk (ties : List (Int × Int)) (n : Nat) : Prop where
  len : ties.length + 1 = n
  n24 : n ≤ 24
  b0 : ∀ z ∈ ties, 0 ≤ z.1 ∧ z.1 < z.2 ∧ z.2 < (n : Int)
  asc : ties.Pairwise lxLt
  all : ∀ x : Int, 0 ≤ x → x < (n : Int) → Rch ties none 0 x
theorem nb_mem {ties : List (Int × Int)} {u v : Int} : v ∈ nb ties u ↔ (u, v) ∈ ties ∨ (v, u) ∈ ties := by
  unfold nb
  rw [List.mem_filterMap]
  constructor
  · rintro ⟨⟨a, b⟩, hz, he⟩
    unfold nbOf at he
    by_cases hc : a = u ∨ b = u
    · rw [if_pos hc] at he
      have e := Option.some.inj he
      by_cases h1 : a = u
      · rw [if_pos h1] at e
        subst h1 e
        exact .inl hz
      · rw [if_neg h1] at e
        have h2 : b = u := hc.resolve_left h1
        subst h2 e
        exact .inr hz
    · rw [if_neg hc] at he
      cases he
  · rintro (h | h)
    · refine ⟨(u, v), h, ?_⟩
      unfold nbOf
      rw [if_pos (.inl rfl), if_pos rfl]
    · refine ⟨(v, u), h, ?_⟩
      unfold nbOf
      rw [if_pos (.inr rfl)]
      by_cases e : v = u
      · rw [if_pos e, e]
      · rw [if_neg e]
def rng (n : Nat) : List Int := (List.range n).map fun (i : Nat) => (i : Int)
theorem rng_mem {n : Nat} {x : Int} : x ∈ rng n ↔ 0 ≤ x ∧ x < (n : Int) := by
  unfold rng
  rw [List.mem_map]
  constructor
  · rintro ⟨i, hi, rfl⟩
    have := List.mem_range.mp hi
    omega
  · rintro ⟨h1, h2⟩
    exact ⟨x.toNat, List.mem_range.mpr (by omega), by omega⟩
theorem rng_len (n : Nat) : (rng n).length = n := by simp [rng]
theorem rng_nodup (n : Nat) : (rng n).Nodup := by
  unfold rng
  rw [List.nodup_iff_pairwise_ne, List.pairwise_map]
  exact List.nodup_range.imp fun {a b} h e => h (by omega)
theorem TiesOk.shut {ties : List (Int × Int)} {n : Nat} (o : TiesOk ties n) : Shut ties (rng n) := ⟨fun u hu v hv => by
  rw [rng_mem]
  rcases nb_mem.mp hv with h | h
  · have := o.b0 _ h
    simp only at this
    omega
  · have := o.b0 _ h
    simp only at this
    omega⟩
theorem le_pairs (a b c e : Int) : Ob.lexAt (fun j => decide ([a, b].getD j 0 = [c, e].getD j 0)) (fun j => decide ([a, b].getD j 0 ≤ [c, e].getD j 0)) (decide ([a, b].length ≤ [c, e].length)) 0 (min [a, b].length [c, e].length) = decide (¬ lxLt (c, e) (a, b)) := by
  show (if decide (a = c) = true then (if decide (b = e) = true then decide (2 ≤ 2) else decide (b ≤ e)) else decide (a ≤ c)) = decide (¬ lxLt (c, e) (a, b))
  unfold lxLt
  by_cases h1 : a = c
  · rw [if_pos (decide_eq_true h1)]
    by_cases h2 : b = e
    · rw [if_pos (decide_eq_true h2)]
      subst h1 h2
      rw [decide_eq_true (by omega : (2 : Nat) ≤ 2), decide_eq_true (by omega)]
    · rw [if_neg (by rw [decide_eq_true_eq]; exact h2)]
      subst h1
      by_cases h3 : b ≤ e
      · rw [decide_eq_true h3, decide_eq_true (by omega)]
      · rw [decide_eq_false h3, decide_eq_false (by omega)]
  · rw [if_neg (by rw [decide_eq_true_eq]; exact h1)]
    by_cases h3 : a ≤ c
    · rw [decide_eq_true h3, decide_eq_true (by omega)]
    · rw [decide_eq_false h3, decide_eq_false (by omega)]
section
variable {P : Program} {w : World} {K : PySem.W.Frag} {mg : Str → Option Value} {base : Heap} {cT cS : Addr}
def spCheckTies : Sp := fun vs H Q _ => ∃ (v : V) (ties : List (Int × Int)) (n : Nat), vs = [v] ∧ rTup rPI H v ties ∧ TiesOk ties n ∧ ∀ H', Same H H' → Q .non H'
def spInitTree (cT : Addr) : Sp := fun vs H Q _ => ∃ (x dx : Addr) (v : V) (ties : List (Int × Int)) (n : Nat), vs = [.ref x, v] ∧ H x = some (.ins cT dx []) ∧ rTup rPI H v ties ∧ TiesOk ties n ∧
  ∀ H', (∀ b o, b ≠ x → H b = some o → H' b = some o) → rTree cT H' (.ref x) ties → Q .non H'
end
end S4

namespace S4
open PySem L2 TT MM
/-! ### sheets -/
structure SD where
  p : Int
  ties : List (Int × Int)
  holds : List Int
  wants : List (List (List Int))
abbrev rWants : Rp (List (List (List Int))) := rTup (rTup rRow)
structure CountsOk (holds : List Int) (n : Nat) : Prop where
  len : holds.length = n
  b : ∀ h ∈ holds, 0 ≤ h ∧ h < 9
  s : holds.sum ≤ 60
structure WantsOk (p : Int) (wd : Int) (n : Nat) (wants : List (List (List Int))) : Prop where
  len : wants.length = n
  b : ∀ rows ∈ wants, rows.length ≤ 8 ∧ ∀ r ∈ rows, isRow r p wd
  s : (wants.map List.length).sum ≤ 60
structure SheetOk (S : SD) (n : Nat) : Prop where
  ties : TiesOk S.ties n
  clock : NoDiv S.p
  holds : CountsOk S.holds n
  wants : WantsOk S.p S.holds.sum n S.wants
theorem sum_lens : ∀ l : List (List (List Int)), (l.map fun r => ((r.length : Nat) : Int)).sum = (((l.map List.length).sum : Nat) : Int)
  | [] => rfl
  | a :: l => by
    rw [List.map_cons, List.map_cons, List.sum_cons, List.sum_cons, sum_lens l]
    omega
theorem mono_wants : Mono rWants := mono_tup (mono_tup mono_row)
section
variable {P : Program} {w : World} {K : PySem.W.Frag} {mg : Str → Option Value} {base : Heap} {cT cS : Addr}
def spAreCounts (cT : Addr) : Sp := fun vs H Q _ => ∃ (u v : V) (ties : List (Int × Int)) (holds : List Int) (n : Nat), vs = [u, v] ∧ rTree cT H u ties ∧ ties.length + 1 = n ∧ n ≤ 24 ∧ rRow H v holds ∧ CountsOk holds n ∧ ∀ H', Same H H' → Q (.bl true) H'
def spCheckWants (cT : Addr) : Sp := fun vs H Q _ => ∃ (u v : V) (p wd : Int) (ties : List (Int × Int)) (wants : List (List (List Int))) (n : Nat), vs = [.int p, u, .int wd, v] ∧ rTree cT H u ties ∧ ties.length + 1 = n ∧ n ≤ 24 ∧ rWants H v wants ∧
  WantsOk p wd n wants ∧ wd ≤ 60 ∧ ∀ H', Same H H' → Q .non H'
theorem row_small {l : List Int} {p wd : Int} (h : isRow l p wd) (hw : wd ≤ 60) : l.length ≤ 100000 := by
  have := h.1
  omega
end
end S4

namespace S4
open PySem L2 TT MM
def sfs (p : Int) (tr th tw : Addr) (m : Int) : List (Str × V) := putF "numbers" (.int m) (putF "wants" (.ref tw) (putF "holds" (.ref th) (putF "tree" (.ref tr) (putF "p" (.int p) []))))
section
variable {p m : Int} {tr th tw : Addr}
theorem sfs_p : (sfs p tr th tw m).lookup ("p" : Str) = some (.int p) := by
  unfold sfs
  rw [lookup_putF, if_neg (by decide +kernel), lookup_putF, if_neg (by decide +kernel), lookup_putF, if_neg (by decide +kernel), lookup_putF, if_neg (by decide +kernel), lookup_putF, if_pos rfl]
theorem sfs_tree : (sfs p tr th tw m).lookup ("tree" : Str) = some (.ref tr) := by
  unfold sfs
  rw [lookup_putF, if_neg (by decide +kernel), lookup_putF, if_neg (by decide +kernel), lookup_putF, if_neg (by decide +kernel), lookup_putF, if_pos rfl]
theorem sfs_holds : (sfs p tr th tw m).lookup ("holds" : Str) = some (.ref th) := by
  unfold sfs
  rw [lookup_putF, if_neg (by decide +kernel), lookup_putF, if_neg (by decide +kernel), lookup_putF, if_pos rfl]
theorem sfs_wants : (sfs p tr th tw m).lookup ("wants" : Str) = some (.ref tw) := by
  unfold sfs
  rw [lookup_putF, if_neg (by decide +kernel), lookup_putF, if_pos rfl]
theorem sfs_numbers : (sfs p tr th tw m).lookup ("numbers" : Str) = some (.int m) := by
  unfold sfs
  rw [lookup_putF, if_pos rfl]
end
/-- a sheet in the heap -/
def rSheet (cT cS : Addr) : Rp SD := fun H v S => ∃ a dx tr th tw, v = .ref a ∧ H a = some (.ins cS dx (sfs S.p tr th tw S.holds.sum)) ∧ rTree cT H (.ref tr) S.ties ∧ rRow H (.ref th) S.holds ∧ rWants H (.ref tw) S.wants
theorem mono_sheet (cT cS : Addr) : Mono (rSheet cT cS) := fun _ _ _ _ k ⟨a, dx, tr, th, tw, e, h1, h2, h3, h4⟩ => ⟨a, dx, tr, th, tw, e, k.ins h1, mono_tree cT _ _ _ _ k h2, mono_row _ _ _ _ k h3, mono_wants _ _ _ _ k h4⟩
/-- carried over a change of one instance -/
theorem keep_at {H H' : Hp} {x : Addr} {C dx : Addr} {fs : List (Str × V)} (hx : H x = some (.ins C dx fs)) (k : ∀ b o, b ≠ x → H b = some o → H' b = some o) {t : Addr} {xs : List V} (h : H t = some (.tup xs)) : H' t = some (.tup xs) := k t _ (ne_of h hx (fun z => nomatch z)) h
section
variable {H H' : Hp} {x : Addr} (kt : ∀ t xs, H t = some (.tup xs) → H' t = some (.tup xs))
include kt
theorem row_kt {v : V} {l : List Int} (h : rRow H v l) : rRow H' v l := let ⟨t, e, h1⟩ := h; ⟨t, e, kt _ _ h1⟩
theorem pi_kt {v : V} {l : Int × Int} (h : rPI H v l) : rPI H' v l := let ⟨t, e, h1⟩ := h; ⟨t, e, kt _ _ h1⟩
theorem rows_kt {v : V} {l : List (List Int)} (h : rTup rRow H v l) : rTup rRow H' v l := let ⟨t, xs, e, h1, h2⟩ := h; ⟨t, xs, e, kt _ _ h1, Paired.mapP h2 fun _ _ q => row_kt kt q⟩
theorem wants_kt {v : V} {l : List (List (List Int))} (h : rWants H v l) : rWants H' v l := let ⟨t, xs, e, h1, h2⟩ := h; ⟨t, xs, e, kt _ _ h1, Paired.mapP h2 fun _ _ q => rows_kt kt q⟩
theorem tree_kt {cT : Addr} {v : V} {l : List (Int × Int)} (h : rTree cT H v l) (ki : ∀ a dx fs, v = .ref a → H a = some (.ins cT dx fs) → H' a = some (.ins cT dx fs)) : rTree cT H' v l :=
  let ⟨a, dx, t, xs, e, h1, h2, h3⟩ := h
  ⟨a, dx, t, xs, e, ki _ _ _ e h1, kt _ _ h2, Paired.mapP h3 fun _ _ q => pi_kt kt q⟩
end
section
variable {P : Program} {w : World} {K : PySem.W.Frag} {mg : Str → Option Value} {base : Heap} {cT cS : Addr}
def spInitSheet (cT cS : Addr) : Sp := fun vs H Q _ => ∃ (x dx : Addr) (u v1 v2 : V) (S : SD) (n : Nat), vs = [.ref x, .int S.p, u, v1, v2] ∧ H x = some (.ins cS dx []) ∧ rTree cT H u S.ties ∧ u ≠ .ref x ∧ rRow H v1 S.holds ∧ rWants H v2 S.wants ∧ SheetOk S n ∧
  ∀ H', (∀ b o, b ≠ x → H b = some o → H' b = some o) → rSheet cT cS H' (.ref x) S → Q .non H'
end
end S4

namespace S4
open PySem L2 TT MM
/-! ### numbers held, wants beyond -/
def heldL (holds : List Int) (post : Int) : List Int := (List.range (holds.getD post.toNat 0).toNat).map fun (i : Nat) => (holds.take post.toNat).sum + (i : Int)
def numsL (holds : List Int) (posts : List Int) : List Int := posts.flatMap (heldL holds)
def farL (wants : List (List (List Int))) (posts : List Int) : List (Int × Int) := posts.flatMap fun post => (List.range (wants.getD post.toNat []).length).map fun (k : Nat) => (post, (k : Int))
def cutL (r l : List Int) : List Int := l.map fun i => r.getD i.toNat 0
def blockL (S : SD) (near far : List Int) : List (List Int) := (farL S.wants far).map fun z => cutL ((S.wants.getD z.1.toNat []).getD z.2.toNat []) (numsL S.holds near)
section
variable {P : Program} {w : World} {K : PySem.W.Frag} {mg : Str → Option Value} {base : Heap} {cT cS : Addr}
theorem take_sum_le {holds : List Int} {n : Nat} (ok : CountsOk holds n) (k : Nat) : 0 ≤ (holds.take k).sum ∧ (holds.take k).sum + (holds.getD k 0) ≤ 60 ∧ 0 ≤ holds.getD k 0 := by
  have hs : ∀ l : List Int, (∀ x ∈ l, 0 ≤ x) → 0 ≤ l.sum := by
    intro l
    induction l with
    | nil => intro _; simp
    | cons a l ih => intro h; rw [List.sum_cons]; have := ih fun x hx => h x (by simp [hx]); have := h a (by simp); omega
  have h1 : 0 ≤ (holds.take k).sum := hs _ fun x hx => (ok.b x (List.mem_of_mem_take hx)).1
  have h2 : 0 ≤ (holds.drop (k + 1)).sum := hs _ fun x hx => (ok.b x (List.mem_of_mem_drop hx)).1
  have e : holds.sum = (holds.take k).sum + (holds.drop k).sum := by rw [← List.sum_append, List.take_append_drop]
  by_cases hk : k < holds.length
  · have e2 : holds.drop k = holds[k] :: holds.drop (k + 1) := List.drop_eq_getElem_cons hk
    have e3 : holds.getD k 0 = holds[k] := by rw [List.getD_eq_getElem?_getD, List.getElem?_eq_getElem hk]; rfl
    rw [e2, List.sum_cons] at e
    have := ok.s
    have := (ok.b _ (List.getElem_mem hk)).1
    rw [e3]
    omega
  · have e3 : holds.getD k 0 = 0 := by rw [List.getD_eq_getElem?_getD, List.getElem?_eq_none (by omega)]; rfl
    have := ok.s
    rw [List.take_of_length_le (by omega)]
    rw [List.take_of_length_le (by omega)] at h1
    omega
theorem getD_at {α : Type} {l : List α} {k : Nat} {d x : α} (h : l[k]? = some x) : l.getD k d = x := by rw [List.getD_eq_getElem?_getD, h]; rfl
def spOwn : Sp := fun vs H Q _ => ∃ (v : V) (l : List Int) (post : Int) (n : Nat), vs = [v, .int post] ∧ rRow H v l ∧ n ≤ 24 ∧ CountsOk l n ∧ 0 ≤ post ∧ post < (n : Int) ∧
  ∀ H' v', Same H H' → rRow H' v' (heldL l post) → Q v' H'
def spHeld (cT cS : Addr) : Sp := fun vs H Q _ => ∃ (u : V) (S : SD) (post : Int) (n : Nat), vs = [u, .int post] ∧ rSheet cT cS H u S ∧ TiesOk S.ties n ∧ CountsOk S.holds n ∧ 0 ≤ post ∧ post < (n : Int) ∧
  ∀ H' v', Same H H' → rRow H' v' (heldL S.holds post) → Q v' H'
def spCut : Sp := fun vs H Q _ => ∃ (u v : V) (r l : List Int), vs = [u, v] ∧ rRow H u r ∧ rRow H v l ∧ l.length ≤ 1000 ∧ (∀ i ∈ l, 0 ≤ i ∧ i < (r.length : Int)) ∧ ∀ H' v', Same H H' → rRow H' v' (cutL r l) → Q v' H'
end
end S4

namespace S4
open PySem L2 TT MM
theorem numsL_small {holds : List Int} {n : Nat} (ok : CountsOk holds n) {posts : List Int} (hl : posts.length ≤ 64) : (numsL holds posts).length ≤ 60 * 64 := by
  have h : ∀ l : List Int, (numsL holds l).length ≤ 60 * l.length := by
    intro l
    induction l with
    | nil => simp [numsL]
    | cons a l ih =>
      show (heldL holds a ++ numsL holds l).length ≤ _
      rw [List.length_append, List.length_cons]
      have : (heldL holds a).length ≤ 60 := by
        unfold heldL
        rw [List.length_map, List.length_range]
        have := take_sum_le ok a.toNat
        omega
      omega
  have := h posts
  omega
theorem flat_len {F : Nat → List Int} {i : Nat} {b : Nat} (h : ∀ j, j < i → (F j).length ≤ b) : ((List.range i).flatMap F).length ≤ b * i := by
  induction i with
  | zero => simp
  | succ i ih =>
    rw [List.range_succ, List.flatMap_append, List.length_append, List.flatMap_singleton]
    have := ih fun j hj => h j (by omega)
    have := h i (by omega)
    rw [Nat.mul_succ]
    omega
theorem flat_len' {α : Type} {F : Nat → List α} {i : Nat} {b : Nat} (h : ∀ j, j < i → (F j).length ≤ b) : ((List.range i).flatMap F).length ≤ b * i := by
  induction i with
  | zero => simp
  | succ i ih =>
    rw [List.range_succ, List.flatMap_append, List.length_append, List.flatMap_singleton]
    have := ih fun j hj => h j (by omega)
    have := h i (by omega)
    rw [Nat.mul_succ]
    omega
section
variable {P : Program} {w : World} {K : PySem.W.Frag} {mg : Str → Option Value} {base : Heap} {cT cS : Addr}
structure WayOk (S : SD) (n : Nat) (z : Int × Int) : Prop where
  a0 : 0 ≤ z.1
  b0 : 0 ≤ z.2
  a1 : z.1 < (n : Int)
  b1 : z.2 < (n : Int)
  m : z ∈ S.ties ∨ z.swap ∈ S.ties
def spNear (cT cS : Addr) : Sp := fun vs H Q _ => ∃ (u v : V) (S : SD) (z : Int × Int) (n : Nat), vs = [u, v] ∧ rSheet cT cS H u S ∧ rPI H v z ∧ TiesOk S.ties n ∧ CountsOk S.holds n ∧ WayOk S n z ∧
  ∀ H' v' ns, Same H H' → rRow H' v' (numsL S.holds ns) → Up ns → ns.Nodup → (∀ x, x ∈ ns ↔ Rch S.ties (some z.2) z.1 x) → (∀ x ∈ ns, x ∈ rng n) → Q v' H'
def rPP : Rp (Int × Int) := rPI
def spFar (cT cS : Addr) : Sp := fun vs H Q _ => ∃ (u v : V) (S : SD) (z : Int × Int) (n : Nat), vs = [u, v] ∧ rSheet cT cS H u S ∧ rPI H v z ∧ TiesOk S.ties n ∧ WantsOk S.p S.holds.sum n S.wants ∧ WayOk S n z ∧
  ∀ H' v' ns, Same H H' → rTup rPI H' v' (farL S.wants ns) → Up ns → ns.Nodup → (∀ x, x ∈ ns ↔ Rch S.ties (some z.1) z.2 x) → (∀ x ∈ ns, x ∈ rng n) → Q v' H'
end
end S4

namespace S4
open PySem L2 TT MM
theorem heldL_in {holds : List Int} {n : Nat} (ok : CountsOk holds n) {post i : Int} (h : i ∈ heldL holds post) : 0 ≤ i ∧ i < holds.sum := by
  unfold heldL at h
  obtain ⟨j, hj, rfl⟩ := List.mem_map.mp h
  have hj' := List.mem_range.mp hj
  have hs : ∀ l : List Int, (∀ x ∈ l, 0 ≤ x) → 0 ≤ l.sum := by
    intro l
    induction l with
    | nil => intro _; simp
    | cons a l ih => intro h; rw [List.sum_cons]; have := ih fun x hx => h x (by simp [hx]); have := h a (by simp); omega
  have h1 : 0 ≤ (holds.take post.toNat).sum := hs _ fun x hx => (ok.b x (List.mem_of_mem_take hx)).1
  have h2 : 0 ≤ (holds.drop (post.toNat + 1)).sum := hs _ fun x hx => (ok.b x (List.mem_of_mem_drop hx)).1
  have e : holds.sum = (holds.take post.toNat).sum + (holds.drop post.toNat).sum := by rw [← List.sum_append, List.take_append_drop]
  by_cases hk : post.toNat < holds.length
  · have e2 : holds.drop post.toNat = holds[post.toNat] :: holds.drop (post.toNat + 1) := List.drop_eq_getElem_cons hk
    have e3 : holds.getD post.toNat 0 = holds[post.toNat] := getD_at (List.getElem?_eq_getElem hk)
    rw [e2, List.sum_cons] at e
    rw [e3] at hj'
    omega
  · have e3 : holds.getD post.toNat 0 = 0 := by rw [List.getD_eq_getElem?_getD, List.getElem?_eq_none (by omega)]; rfl
    rw [e3] at hj'
    simp at hj'
theorem numsL_in {holds : List Int} {n : Nat} (ok : CountsOk holds n) {posts : List Int} {i : Int} (h : i ∈ numsL holds posts) : 0 ≤ i ∧ i < holds.sum := by
  obtain ⟨p, _, hp⟩ := List.mem_flatMap.mp h
  exact heldL_in ok hp
theorem farL_in {wants : List (List (List Int))} {posts : List Int} {z : Int × Int} (h : z ∈ farL wants posts) : z.1 ∈ posts ∧ 0 ≤ z.2 ∧ z.2 < ((wants.getD z.1.toNat []).length : Int) := by
  obtain ⟨p, hp, h2⟩ := List.mem_flatMap.mp h
  obtain ⟨k, hk, rfl⟩ := List.mem_map.mp h2
  have := List.mem_range.mp hk
  exact ⟨hp, by simp only; omega, by simp only; omega⟩
/-- how many numbers: nodup posts hold all at most -/
theorem numsL_len {holds : List Int} {n : Nat} (ok : CountsOk holds n) {posts : List Int} (hl : posts.length ≤ 24) (hb : ∀ p ∈ posts, 0 ≤ p ∧ p < (n : Int)) : (numsL holds posts).length ≤ 216 := by
  have h : ∀ l : List Int, (∀ p ∈ l, 0 ≤ p ∧ p < (n : Int)) → (numsL holds l).length ≤ 9 * l.length := by
    intro l
    induction l with
    | nil => intro _; simp [numsL]
    | cons a l ih =>
      intro hb
      show (heldL holds a ++ numsL holds l).length ≤ _
      rw [List.length_append, List.length_cons]
      have := ih fun p hp => hb p (by simp [hp])
      have : (heldL holds a).length ≤ 9 := by
        unfold heldL
        rw [List.length_map, List.length_range]
        have hl := ok.len
        have := hb a (by simp)
        have hx : holds[a.toNat]? = some (holds[a.toNat]'(by omega)) := List.getElem?_eq_getElem (by omega)
        rw [getD_at hx]
        have := ok.b _ (List.getElem_mem (h := by omega) (l := holds) (n := a.toNat))
        omega
      omega
  have := h posts hb
  omega
section
variable {P : Program} {w : World} {K : PySem.W.Frag} {mg : Str → Option Value} {base : Heap} {cT cS : Addr}
def spBlock (cT cS : Addr) : Sp := fun vs H Q _ => ∃ (u v : V) (S : SD) (z : Int × Int) (n : Nat), vs = [u, v] ∧ rSheet cT cS H u S ∧ rPI H v z ∧ SheetOk S n ∧ WayOk S n z ∧
  ∀ H' v' near far, Same H H' → rTup rRow H' v' (blockL S near far) → Up near → near.Nodup → (∀ x, x ∈ near ↔ Rch S.ties (some z.2) z.1 x) → Up far → far.Nodup → (∀ x, x ∈ far ↔ Rch S.ties (some z.1) z.2 x) → Q v' H'
def spNarrow : Sp := fun vs H Q _ => ∃ (a : Addr) (v : V) (xs : List V) (rws : List (List Int)) (l : List Int), vs = [.ref a, v] ∧ H a = some (.lst xs) ∧ Paired (rRow H) xs rws ∧ rws.length ≤ 1000 ∧ rRow H v l ∧ l.length ≤ 1000 ∧ (∀ r ∈ rws, ∀ i ∈ l, 0 ≤ i ∧ i < (r.length : Int)) ∧ ∀ H' v', Same H H' → rTup rRow H' v' (rws.map fun r => cutL r l) → Q v' H'
end
end S4

namespace S4
open PySem L2 TT MM
/-! ### the hand that draws -/
def hl (c : Addr) (i1 i2 i3 i4 : Int) : List V := [.ref c, .int i1, .int i2, .int i3, .int i4]
structure HandW (g c : Addr) (cells : List Int) (i1 i2 i3 i4 : Int) (H : Hp) : Prop where
  h : H g = some (.lst (hl c i1 i2 i3 i4))
  hc : H c = some (.lst (cells.map V.int))
  len : cells.length ≤ 63
  pos : ∀ x ∈ cells, 0 ≤ x
  b1 : 0 ≤ i1 ∧ i1 ≤ (cells.length : Int)
  b2 : 0 ≤ i2
  b3 : 0 ≤ i3 ∧ i3 < 4294967296
  b4 : 0 ≤ i4
def Hand (g c : Addr) (H : Hp) : Prop := ∃ cells i1 i2 i3 i4, HandW g c cells i1 i2 i3 i4 H
theorem HandW.ne {g c : Addr} {cells : List Int} {i1 i2 i3 i4 : Int} {H : Hp} (h : HandW g c cells i1 i2 i3 i4 H) : c ≠ g := ne_of h.hc h.h (fun e => by
  injection e with e
  cases cells with
  | nil => cases e
  | cons a l => rw [List.map_cons] at e; cases e)
theorem Hand.lst {g c : Addr} {H : Hp} (h : Hand g c H) : ∃ ys, H g = some (.lst ys) := let ⟨_, _, _, _, _, w⟩ := h; ⟨_, w.h⟩
theorem Hand.cells {g c : Addr} {H : Hp} (h : Hand g c H) : ∃ ys, H c = some (.lst ys) := let ⟨_, _, _, _, _, w⟩ := h; ⟨_, w.hc⟩
theorem Hand.setD {g c D : Addr} {H : Hp} {o : HO} (h : Hand g c H) (h1 : D ≠ g) (h2 : D ≠ c) : Hand g c (upd H D o) := let ⟨cells, i1, i2, i3, i4, w⟩ := h; ⟨cells, i1, i2, i3, i4, by rw [upd_ne h1.symm]; exact w.h, by rw [upd_ne h2.symm]; exact w.hc, w.len, w.pos, w.b1, w.b2, w.b3, w.b4⟩
theorem Hand.same {g c : Addr} {H H' : Hp} (h : Hand g c H) (s : Same H H') : Hand g c H' := by
  obtain ⟨cells, i1, i2, i3, i4, w⟩ := h
  exact ⟨cells, i1, i2, i3, i4, s _ _ w.h, s _ _ w.hc, w.len, w.pos, w.b1, w.b2, w.b3, w.b4⟩
/-- a list apart from the hand stays apart -/
theorem _root_.TT.But.lst {g : Addr} {H H' : Hp} (k : But g H H') {b : Addr} (hb : b ≠ g) {xs : List V} (h : H b = some (.lst xs)) : H' b = some (.lst xs) := k b _ hb h
theorem Hand.keep {g c : Addr} {H H' : Hp} (h : Hand g c H) (k : But g H H') : Keep H H' := let ⟨_, e⟩ := h.lst; k.keep e
section
variable {P : Program} {w : World} {K : PySem.W.Frag} {mg : Str → Option Value} {base : Heap} {cT cS : Addr}
def spHand (K : PySem.W.Frag) : Sp := fun vs H Q _ => ∃ (a : Addr) (ns : List Int), vs = [.ref a] ∧ SqL K H a (ns.map V.int) ∧ ns.length ≤ 63 ∧ ∀ H' g c, Same H H' → H g = none → Hand g c H' → Q (.ref g) H'
theorem ok_hand (T : Tx K mg cT cS) {f : Addr} {fd : FuncData} (d : D K mg "_law_hand" s_law_hand ["script"] f fd) : FnOk P w K mg base CX0 1 f fd ["script"] (spHand K) := by
  refine d.F.ok sc_law_hand (fun vs H Q E h => ?_) (fun cdv A outer s H vs Q E hr h => ?_)
  · obtain ⟨a, ns, rfl, _⟩ := h
    rfl
  · obtain ⟨a, ns, rfl, hS, hl63, q⟩ := h
    refine ⟨_, pss_cons (ps_setLc (i := 1) (own := [("cell", 2)]) (g := gName 2) (tt := tYes) rfl sc_law_hand.nd rfl rfl (sw_true rfl rfl rfl (by decide +kernel)) (pi_list (pe_slice sl_list (pv 0) po_none (po_some pe_int))) (blkOk_by (N := N_law_hand) (sc := defScope s_law_hand) (by decide +kernel))
          (fun _ _ _ _ _ => pg_name (i := 2) sc_law_hand.nd rfl (Or.inl rfl)) (fun _ _ _ _ _ => pts_nil)
          (fun _ _ _ _ _ => pe_callB call_abs (by rfl) T.b_abs (by decide +kernel) (pa_cons (pe_callTy call_int1 (by rfl) T.b_int (by decide +kernel) (pa_cons (pv 2) pa_nil)) pa_nil)))
      (pss_one (ps_ret (pe_lst (pa_cons (pv 1) (pa_cons pe_int (pa_cons pe_int (pa_cons (pe_op op_add pe_int (pe_callB call_len_seq (by rfl) T.b_len PySem.boot_len (pa_cons (pv 1) pa_nil))) (pa_cons pe_int pa_nil)))))))), ?_⟩
    refine ⟨_, rfl, 63, rfl, a, _, rfl, hS, fun p np => ?_⟩
    have e63 : cutV (ns.map V.int) none (some 63) = ns.map V.int := by
      have := cutV_upto (ns.map V.int) 63
      rw [List.take_of_length_le (by rw [List.length_map]; exact hl63)] at this
      exact this
    rw [e63]
    have s1 := same_new (o := .lst (ns.map V.int)) np
    refine ⟨p, rfl, ⟨_, .of upd_same⟩, fun D hD => ?_⟩
    refine lc_fm (walk_list (xs := ns.map V.int)) rInt (fun i => ns[i]?.bind fun x => some (if x < 0 then -x else x)) hD (fun H' s' => .of (s' _ _ upd_same)) ?_ ?_
    · rintro i x H2 H3 hi pv ⟨rfl, hx⟩
      obtain ⟨k, hk, rfl⟩ := at_int hx
      rw [List.length_map] at hi
      refine ⟨rfl, _, rfl, .inl ⟨k, rfl, k, rfl, ?_⟩⟩
      exact fm_keep mono_int pv hD (by omega) (Same.refl _) (by rw [hk]; rfl) rfl
    · intro H2 ys s2 hD2 hp2
      rw [List.length_map, fm_some] at hp2
      have := paired_int hp2
      subst this
      refine ⟨_, rfl, _, rfl, _, _, rfl, .inl (.of hD2), _, _, rfl, rfl, by show 5 ≤ sizeLine; decide, fun g ng => ?_⟩
      have s3 := same_new (o := .lst (hl D 0 0 (1 + ((((ns.map fun x => if x < 0 then -x else x).map V.int).length : Nat) : Int)) 0)) ng
      refine q _ g D ((s1.trans s2).trans s3) ((s1.trans s2).free ng) ⟨ns.map fun x => if x < 0 then -x else x, 0, 0, _, 0, upd_same, s3 _ _ hD2, by rw [List.length_map]; exact hl63, fun x hx => ?_, ⟨by omega, by omega⟩, by omega, ?_, by omega⟩
      · obtain ⟨y, _, rfl⟩ := List.mem_map.mp hx
        split <;> omega
      · rw [List.length_map, List.length_map]
        omega
def spDraw : Sp := fun vs H Q _ => ∃ (g c : Addr) (m : Int), vs = [.ref g, .int m] ∧ 0 < m ∧ m < 1073741824 ∧ Hand g c H ∧ ∀ H' n, But g H H' → Hand g c H' → 0 ≤ n → n < m → Q (.int n) H'
theorem mod_b {a m : Int} (h : 0 < m) : 0 ≤ a % m ∧ a % m < m := ⟨Int.emod_nonneg _ (by omega), Int.emod_lt_of_pos _ h⟩
theorem ok_draw (T : Tx K mg cT cS) {f : Addr} {fd : FuncData} (d : D K mg "_law_draw" s_law_draw ["hand", "many"] f fd) : FnOk P w K mg base CX0 1 f fd ["hand", "many"] spDraw := by
  refine d.F.ok sc_law_draw (fun vs H Q E h => ?_) (fun cdv A outer s H vs Q E hr h => ?_)
  · obtain ⟨g, c, m, rfl, _⟩ := h
    rfl
  · obtain ⟨g, c, m, rfl, m0, m1, ⟨cells, i1, i2, i3, i4, W⟩, q⟩ := h
    refine ⟨_, C8.pss_cut (ps_if (PW.pt (pw_and (pt_cmpR op_eq (pe_ix ix_list (pv 0) pe_int (fun _ _ => rfl)) pe_int (nomark _)) (pw_and1 (pt_cmpR op_lt (pe_ix ix_list (pv 0) pe_int (fun _ _ => rfl)) (pe_callB call_len_seq (by rfl) T.b_len PySem.boot_len (pa_cons (pe_ix ix_list (pv 0) pe_int (fun _ _ => rfl)) pa_nil)) (nomark _)))))
        (pss_cons (ps_set (i := 2) sc_law_draw.nd rfl (.inl rfl) (pe_ix ix_list (pe_ix ix_list (pv 0) pe_int (fun _ _ => rfl)) (pe_ix ix_list (pv 0) pe_int (fun _ _ => rfl)) (fun _ _ => rfl)))
          (pss_cons (ps_asg (pe_op op_add (pe_ix ix_list (pv 0) pe_int (fun _ _ => rfl)) pe_int) (pg_sub (pv 0) pe_int set_list))
          (pss_cons (ps_asg (pe_op op_mod (pe_callTy call_int1 (by rfl) T.b_int (by decide +kernel) (pa_cons (pe_op op_add (pe_op op_add (pe_op op_mul (pe_ix ix_list (pv 0) pe_int (fun _ _ => rfl)) pe_int) (pv 2)) pe_int) pa_nil)) pe_int) (pg_sub (pv 0) pe_int set_list))
          (pss_one (ps_if (pt_cmpR op_ge (pv 2) (pe_op op_pow pe_int pe_int) (nomark _)) (pss_one (ps_asg (pv 2) (pg_sub (pv 0) pe_int set_list))) pss_nil))))) pss_nil)
      (pss_cons (ps_if (pt_cmpR op_gt (pe_ix ix_list (pv 0) pe_int (fun _ _ => rfl)) pe_int (nomark _))
        (pss_cons (ps_set (i := 3) sc_law_draw.nd rfl (.inl rfl) (pe_op op_mod (pe_callTy call_int1 (by rfl) T.b_int (by decide +kernel) (pa_cons (pe_ix ix_list (pv 0) pe_int (fun _ _ => rfl)) pa_nil)) (pv 1)))
          (pss_cons (ps_asg (pe_op op_fdivN (pe_ix ix_list (pv 0) pe_int (fun _ _ => rfl)) (pv 1)) (pg_sub (pv 0) pe_int set_list)) (pss_one (ps_ret (pv 3))))) pss_nil)
      (pss_cons (ps_asg (pe_op op_add (pe_ix ix_list (pv 0) pe_int (fun _ _ => rfl)) pe_int) (pg_sub (pv 0) pe_int set_list))
      (pss_cons (ps_set (i := 4) sc_law_draw.nd rfl (.inl rfl) (pe_op op_mod (pe_callTy call_int1 (by rfl) T.b_int (by decide +kernel) (pa_cons (pe_op op_mul (pe_callTy call_int1 (by rfl) T.b_int (by decide +kernel) (pa_cons (pe_op op_add (pe_ix ix_list (pv 0) pe_int (fun _ _ => rfl)) (pe_op op_mul pe_int (pe_ix ix_list (pv 0) pe_int (fun _ _ => rfl)))) pa_nil)) pe_int) pa_nil)) pe_int))
      (pss_cons (ps_set (i := 4) sc_law_draw.nd rfl (.inl rfl) (pe_op op_mod (pe_callTy call_int1 (by rfl) T.b_int (by decide +kernel) (pa_cons (pe_op op_mul (pv 4) (pe_op op_add (pe_op op_fdiv (pv 4) pe_int) pe_int)) pa_nil)) pe_int))
      (pss_cons (ps_set (i := 4) sc_law_draw.nd rfl (.inl rfl) (pe_op op_mod (pe_callTy call_int1 (by rfl) T.b_int (by decide +kernel) (pa_cons (pe_op op_mul (pv 4) (pe_op op_add (pe_op op_fdiv (pv 4) pe_int) pe_int)) pa_nil)) pe_int))
      (pss_one (ps_ret (pe_op op_mod (pe_callTy call_int1 (by rfl) T.b_int (by decide +kernel) (pa_cons (pe_op op_fdiv (pv 4) pe_int) pa_nil)) (pv 1))))))))), ?_⟩
    refine ⟨fun σ H' => ∃ (x : Option V) (j1 j2 j3 j4 : Int), σ = [some (.ref g), some (.int m), x, none, none] ∧ But g H H' ∧ HandW g c cells j1 j2 j3 j4 H', ?_, ?_⟩
    · refine ⟨_, rfl, g, _, _, _, rfl, rfl, .of W.h, at_of (j := 2) rfl rfl, rfl, _, rfl, ?_⟩
      by_cases h2 : i2 = 0
      · rw [decide_eq_true (by rw [h2])]
        refine iteT ⟨_, rfl, g, _, _, _, rfl, rfl, .of W.h, at_of (j := 1) rfl rfl, _, rfl, g, _, _, _, rfl, rfl, .of W.h, at_of (j := 0) rfl rfl, _, _, rfl, .inl (.of W.hc), _, _, rfl, rfl, _, rfl, ?_⟩
        by_cases h1 : i1 < (((cells.map V.int).length : Nat) : Int)
        · rw [decide_eq_true h1]
          rw [List.length_map] at h1
          have hb1 := W.b1.1
          obtain ⟨k, rfl⟩ : ∃ k : Nat, i1 = (k : Int) := ⟨i1.toNat, by omega⟩
          have hk : cells[k]? = some (cells[k]'(by omega)) := List.getElem?_eq_getElem (by omega)
          have hpos := W.pos _ (List.getElem_mem (h := by omega) (l := cells) (n := k))
          refine iteT ⟨_, rfl, g, _, _, _, rfl, rfl, .of W.h, at_of (j := 0) rfl rfl, _, rfl, g, _, _, _, rfl, rfl, .of W.h, at_of (j := 1) rfl rfl, c, _, _, _, rfl, rfl, .of W.hc, atI_nat (int_at hk), ?_⟩
          dsimp only [gName, tSeq]
          refine ⟨_, rfl, g, _, _, _, rfl, rfl, .of W.h, at_of (j := 1) rfl rfl, _, _, rfl, rfl, _, rfl, g, _, _, _, rfl, rfl, W.h, rfl, ?_⟩
          refine ⟨_, rfl, g, _, _, _, rfl, rfl, .of upd_same, at_of (j := 3) rfl rfl, _, _, rfl, rfl, .inl ⟨by have := W.b3.1; omega, by have := W.b3.2; omega⟩, _, rfl, _, _, rfl, rfl, _, _, rfl, rfl, .inl ⟨_, rfl, _, _, rfl, rfl, (by dsimp only; decide), _, rfl, g, _, _, _, rfl, rfl, upd_same, rfl, ?_⟩⟩
          rw [upd_upd]
          have hm := mod_b (a := i3 * 69621 + cells[k]'(by omega) + 11) (m := 2147483629) (by decide)
          have W2 : HandW g c cells ((k : Int) + 1) i2 ((i3 * 69621 + cells[k]'(by omega) + 11) % 2147483629) i4 (upd H g (.lst (hl c ((k : Int) + 1) i2 ((i3 * 69621 + cells[k]'(by omega) + 11) % 2147483629) i4))) :=
            ⟨upd_same, by rw [upd_ne W.ne]; exact W.hc, W.len, W.pos, ⟨by omega, by omega⟩, W.b2, ⟨by omega, by omega⟩, W.b4⟩
          refine ⟨_, rfl, _, _, rfl, rfl, ⟨by decide, by decide, by decide⟩, _, _, rfl, rfl, _, rfl, ?_⟩
          refine ite2 (fun hc => ?_) (fun hc => ?_)
          · refine ⟨_, rfl, _, rfl, g, _, _, _, rfl, rfl, upd_same, rfl, ?_⟩
            rw [upd_upd]
            exact ⟨_, _, _, _, _, rfl, but_upd, upd_same, by rw [upd_ne W.ne]; exact W.hc, W.len, W.pos, W2.b1, hpos, W2.b3, W2.b4⟩
          · exact ⟨_, _, _, _, _, rfl, but_upd, W2⟩
        · rw [decide_eq_false h1]
          exact iteF ⟨_, _, _, _, _, rfl, .refl _ _, W⟩
      · rw [decide_eq_false (fun e => h2 (V.int.inj e))]
        exact iteF ⟨_, _, _, _, _, rfl, .refl _ _, W⟩
    · rintro σ H2 ⟨x, j1, j2, j3, j4, rfl, bt, W2⟩
      refine ⟨_, rfl, g, _, _, _, rfl, rfl, .of W2.h, at_of (j := 2) rfl rfl, _, _, rfl, rfl, _, rfl, ?_⟩
      refine ite2 (fun hc => ?_) (fun hc => ?_)
      · refine ⟨_, rfl, g, _, _, _, rfl, rfl, .of W2.h, at_of (j := 2) rfl rfl, .inl ⟨_, rfl, _, rfl, _, _, rfl, rfl, m0, ?_⟩⟩
        dsimp only [gName, tSeq]
        refine ⟨_, rfl, g, _, _, _, rfl, rfl, .of W2.h, at_of (j := 2) rfl rfl, _, rfl, _, _, rfl, rfl, ⟨by omega, by omega⟩, _, rfl, g, _, _, _, rfl, rfl, W2.h, rfl, _, rfl, ?_⟩
        have hm := mod_b (a := j2) m0
        refine q _ _ (bt.trans but_upd) ⟨cells, _, _, _, _, upd_same, by rw [upd_ne W2.ne]; exact W2.hc, W2.len, W2.pos, W2.b1, ?_, W2.b3, W2.b4⟩ hm.1 hm.2
        rw [Int.fdiv_eq_ediv_of_nonneg _ (by omega)]
        exact Int.ediv_nonneg W2.b2 (by omega)
      · refine ⟨_, rfl, g, _, _, _, rfl, rfl, .of W2.h, at_of (j := 4) rfl rfl, _, _, rfl, rfl, _, rfl, g, _, _, _, rfl, rfl, W2.h, rfl, ?_⟩
        have W3 : HandW g c cells j1 j2 j3 (j4 + 1) (upd H2 g (.lst (hl c j1 j2 j3 (j4 + 1)))) := ⟨upd_same, by rw [upd_ne W2.ne]; exact W2.hc, W2.len, W2.pos, W2.b1, W2.b2, W2.b3, by have := W2.b4; omega⟩
        refine ⟨_, rfl, g, _, _, _, rfl, rfl, .of upd_same, at_of (j := 3) rfl rfl, _, rfl, g, _, _, _, rfl, rfl, .of upd_same, at_of (j := 4) rfl rfl, _, _, rfl, rfl, .inl ⟨by decide, by decide⟩, _, _, rfl, rfl, .inl ⟨_, rfl, _, _, rfl, rfl, .inr ⟨by decide, by decide⟩, .inl ⟨_, rfl, _, _, rfl, rfl, (by dsimp only; decide), ?_⟩⟩⟩
        dsimp only [gName, tSeq]
        generalize hn1 : (j3 + 7919 * (j4 + 1)) * 48271 % 2147483647 = n1
        have a1 := mod_b (a := (j3 + 7919 * (j4 + 1)) * 48271) (m := 2147483647) (by decide)
        rw [hn1] at a1
        refine ⟨_, rfl, _, rfl, _, _, rfl, rfl, ⟨by decide, by decide⟩, _, _, rfl, rfl, _, _, rfl, rfl, .inl ⟨by omega, by omega⟩, .inl ⟨_, rfl, _, _, rfl, rfl, (by dsimp only; decide), ?_⟩⟩
        dsimp only [gName, tSeq]
        generalize hn2 : n1 * (n1 / 1009 + 69621) % 2147483647 = n2
        have a2 := mod_b (a := n1 * (n1 / 1009 + 69621)) (m := 2147483647) (by decide)
        rw [hn2] at a2
        refine ⟨_, rfl, _, rfl, _, _, rfl, rfl, ⟨by decide, by decide⟩, _, _, rfl, rfl, _, _, rfl, rfl, .inl ⟨by omega, by omega⟩, .inl ⟨_, rfl, _, _, rfl, rfl, (by dsimp only; decide), ?_⟩⟩
        dsimp only [gName, tSeq]
        generalize hn3 : n2 * (n2 / 2003 + 40692) % 2147483399 = n3
        refine ⟨_, rfl, _, _, rfl, rfl, ⟨by decide, by decide⟩, .inl ⟨_, rfl, _, rfl, _, _, rfl, rfl, m0, ?_⟩⟩
        have hm := mod_b (a := n3 / 16) m0
        exact q _ _ (bt.trans but_upd) ⟨cells, _, _, _, _, W3⟩ hm.1 hm.2
end
end S4

namespace S4
open PySem L2 TT MM
theorem walk_zipT {K : PySem.W.Frag} {a b : Addr} {xs ys : List V} {n : Nat} (hn : n = min xs.length ys.length) : Walk (RZ.ItzT K a b) n (fun H => SqT K H a xs ∧ SqT K H b ys) (YPair (fun i => xs[i]?) (fun i => ys[i]?)) := by
  subst hn
  refine ⟨fun i _ hi q => ?_, fun _ q => ⟨xs, ys, q.1, q.2, by omega⟩, fun i H v H' _ q y => ?_⟩
  · have h1 : i < xs.length := by omega
    have h2 : i < ys.length := by omega
    exact ⟨xs, ys, xs[i], ys[i], q.1, q.2, by simp [h1], by simp [h2]⟩
  · obtain ⟨T, x, z, h1, h2, h3, h4, h5⟩ := y
    exact ⟨T, x, z, h1, h2, h3, h4 xs q.1, h5 ys q.2⟩
/-- two values of the same data, of the same kinds, n deep -/
def Alike (H : Hp) : Nat → V → V → Prop
  | 0, x, y => ∃ k, x = .int k ∧ y = .int k
  | n + 1, x, y => (∃ k, x = .int k ∧ y = .int k) ∨ ∃ a b xs ys, x = .ref a ∧ y = .ref b ∧ ((H a = some (.tup xs) ∧ H b = some (.tup ys)) ∨ (H a = some (.lst xs) ∧ H b = some (.lst ys))) ∧ xs.length ≤ 1000 ∧ Paired (Alike H n) xs ys
theorem alike_same {H H' : Hp} (s : Same H H') : ∀ (n : Nat) {x y : V}, Alike H n x y → Alike H' n x y
  | 0, _, _, h => h
  | n + 1, _, _, h => by
    rcases h with h | ⟨a, b, xs, ys, e1, e2, h, hl, hp⟩
    · exact .inl h
    · refine .inr ⟨a, b, xs, ys, e1, e2, ?_, hl, Paired.mapP hp fun _ _ q => alike_same s n q⟩
      rcases h with ⟨h1, h2⟩ | ⟨h1, h2⟩
      · exact .inl ⟨s _ _ h1, s _ _ h2⟩
      · exact .inr ⟨s _ _ h1, s _ _ h2⟩
section
variable {K : PySem.W.Frag}
theorem kit_lt : PySem.W.kitOne K (.type "list") (.type "tuple") = some false := kit_ty (by decide +kernel)
theorem kit_ll : PySem.W.kitOne K (.type "list") (.type "list") = some true := kit_ty (by decide +kernel)
theorem kit_it : PySem.W.kitOne K (.type "int") (.type "tuple") = some false := kit_ty (by decide +kernel)
theorem kit_il : PySem.W.kitOne K (.type "int") (.type "list") = some false := kit_ty (by decide +kernel)
theorem kitA_t : PySem.W.kitAny K (.type "tuple") [.type "tuple", .type "list"] = some true := by unfold PySem.W.kitAny; rw [kit_tt]
theorem kitA_l : PySem.W.kitAny K (.type "list") [.type "tuple", .type "list"] = some true := by
  unfold PySem.W.kitAny
  rw [kit_lt]
  show PySem.W.kitAny K (.type "list") [.type "list"] = some true
  unfold PySem.W.kitAny
  rw [kit_ll]
theorem kitA_i : PySem.W.kitAny K (.type "int") [.type "tuple", .type "list"] = some false := by
  unfold PySem.W.kitAny
  rw [kit_it]
  show PySem.W.kitAny K (.type "int") [.type "list"] = some false
  unfold PySem.W.kitAny
  rw [kit_il]
  rfl
end
section
variable {P : Program} {w : World} {K : PySem.W.Frag} {mg : Str → Option Value} {base : Heap} {cT cS : Addr}
def spAny : Sp := fun vs H Q _ => ∃ (g c b : Addr) (xs : List V), vs = [.ref g, .ref b] ∧ H b = some (.lst xs) ∧ b ≠ g ∧ 0 < xs.length ∧ xs.length < 1000000 ∧ Hand g c H ∧ ∀ H' (i : Nat) x, But g H H' → Hand g c H' → xs[i]? = some x → Q x H'
theorem ok_any (T : Tx K mg cT cS) {f : Addr} {fd : FuncData} (d : D K mg "_law_any" s_law_any ["hand", "items"] f fd) : FnOk P w K mg base CX0 2 f fd ["hand", "items"] spAny := by
  obtain ⟨f1, fd1, d1⟩ := T.d_law_draw
  have G1 : FnOk P w K mg base CX0 1 f1 fd1 ["hand", "many"] spDraw := ok_draw T d1
  refine d.F.ok sc_law_any (fun vs H Q E h => ?_) (fun cdv A outer s H vs Q E hr h => ?_)
  · obtain ⟨g, c, b, xs, rfl, _⟩ := h
    rfl
  · obtain ⟨g, c, b, xs, rfl, hb, hne, h0, h1, hh, q⟩ := h
    refine ⟨_, pss_one (ps_ret (pe_ix ix_list (pv 1) (pe_call G1 hr rfl d1.m d1.F.kp d1.b .nil pass0 (pa_cons (pv 0) (pa_cons (pe_callB call_len_seq (by rfl) T.b_len PySem.boot_len (pa_cons (pv 1) pa_nil)) pa_nil))) (fun _ _ => rfl))), ?_⟩
    refine ⟨_, rfl, _, rfl, _, rfl, _, _, rfl, .inl (.of hb), g, c, _, rfl, by omega, by omega, hh, fun H2 n bt hh2 n0 n1 => ?_⟩
    obtain ⟨k, rfl⟩ : ∃ k : Nat, n = (k : Int) := ⟨n.toNat, by omega⟩
    have hk : xs[k]? = some (xs[k]'(by omega)) := List.getElem?_eq_getElem (by omega)
    exact ⟨b, xs, _, _, rfl, rfl, .of (bt.lst hne hb), atI_nat hk, q _ k _ bt hh2 hk⟩
def spIs (n : Nat) : Sp := fun vs H Q _ => ∃ (x y : V), vs = [x, y] ∧ Alike H n x y ∧ ∀ H', Same H H' → Q (.bl true) H'
theorem sp_len (n : Nat) : ∀ vs H Q E, spIs n vs H Q E → vs.length = ["told", "due"].length := fun vs H Q E h => by
  obtain ⟨x, y, rfl, _⟩ := h
  rfl
/-- the int's way, at any depth -/
theorem ok_is (T : Tx K mg cT cS) {f : Addr} {fd : FuncData} (d : D K mg "_law_is" s_law_is ["told", "due"] f fd) : ∀ n : Nat, FnOk P w K mg base CX0 (n + 1) f fd ["told", "due"] (spIs n) := by
  intro n
  induction n with
  | zero =>
    refine d.F.ok sc_law_is (sp_len 0) (fun cdv A outer s H vs Q E hr h => ?_)
    obtain ⟨x, y, rfl, ⟨k, rfl, rfl⟩, q⟩ := h
    refine ⟨_, pss_cons (ps_if (pt_val (pe_callB call_isiT (by rfl) T.b_isinstance (by decide +kernel) (pa_cons (pv 1) (pa_cons (pe_tup (pa_cons (ty_tuple T.b_tuple) (pa_cons (ty_list T.b_list) pa_nil))) pa_nil)))) pss_never pss_nil)
      (pss_one (ps_ret (pe_and (pe_cmpR op_eq (pe_callB call_isi (by rfl) T.b_isinstance (by decide +kernel) (pa_cons (pv 0) (pa_cons (ty_bool T.b_bool) pa_nil))) (pe_callB call_isi (by rfl) T.b_isinstance (by decide +kernel) (pa_cons (pv 1) (pa_cons (ty_bool T.b_bool) pa_nil))) (nomark _))
        (pe_one (pe_cmpR op_eq (pv 0) (pv 1) (nomark _)))))), ?_⟩
    refine ⟨_, rfl, by show 2 ≤ sizeLine; decide, fun p np => ⟨_, p, _, _, _, _, rfl, upd_same, .cons (.ty _) (.cons (.ty _) .nil), .base (.int _), kitA_i, _, rfl, iteF ?_⟩⟩
    refine ⟨_, rfl, _, _, _, _, _, rfl, .ty _, .base (.int _), kit_ib, _, rfl, _, _, _, _, _, rfl, .ty _, .base (.int _), kit_ib, rfl, true, rfl, ?_⟩
    refine iteT ⟨_, rfl, _, rfl, rfl, ?_⟩
    rw [decide_eq_true rfl]
    exact q _ (same_new np)
  | succ n G =>
    refine d.F.ok sc_law_is (sp_len (n + 1)) (fun cdv A outer s H vs Q E hr h => ?_)
    obtain ⟨x, y, rfl, h, q⟩ := h
    refine ⟨_, pss_cons (ps_if (pt_val (pe_callB call_isiT (by rfl) T.b_isinstance (by decide +kernel) (pa_cons (pv 1) (pa_cons (pe_tup (pa_cons (ty_tuple T.b_tuple) (pa_cons (ty_list T.b_list) pa_nil))) pa_nil))))
        (pss_cons (ps_if (PW.pt (pw_or (pt_cmpR op_ne (pe_callB call_isi (by rfl) T.b_isinstance (by decide +kernel) (pa_cons (pv 0) (pa_cons (ty_tuple T.b_tuple) pa_nil))) (pe_callB call_isi (by rfl) T.b_isinstance (by decide +kernel) (pa_cons (pv 1) (pa_cons (ty_tuple T.b_tuple) pa_nil))) (nomark _))
            (pw_or1 (pt_not (pt_val (pe_callB call_isiT (by rfl) T.b_isinstance (by decide +kernel) (pa_cons (pv 0) (pa_cons (pe_tup (pa_cons (ty_tuple T.b_tuple) (pa_cons (ty_list T.b_list) pa_nil))) pa_nil)))))))) pss_never pss_nil)
          (pss_one (ps_ret (pe_and (pe_cmpR op_eq (pe_callB call_len_seq (by rfl) T.b_len PySem.boot_len (pa_cons (pv 0) pa_nil)) (pe_callB call_len_seq (by rfl) T.b_len PySem.boot_len (pa_cons (pv 1) pa_nil)) (nomark _))
            (pe_one (pe_callB (cr_all rfl) (by rfl) T.b_all (by decide +kernel) (pa_cons
              (pe_lc (own := [("one", 2), ("two", 3)]) (g := gTup K 2 (gCons (gName 2) (gCons (gName 3) gNil))) (tt := tYes) rfl sc_law_is.nd (RZ.pi_zipA (by rfl) T.b_zip (pa_cons (pv 0) (pa_cons (pv 1) pa_nil))) (blkOk_by (N := N_law_is) (sc := defScope s_law_is) (by decide +kernel))
                (fun _ _ _ _ _ => pgT rfl rfl (pgs_cons (pg_name (i := 2) sc_law_is.nd rfl (Or.inl rfl)) (pgs_cons (pg_name (i := 3) sc_law_is.nd rfl (Or.inl rfl)) pgs_nil))) (fun _ _ _ _ _ => pts_nil)
                (fun _ _ _ _ _ => pe_call G hr rfl d.m d.F.kp d.b .nil pass0 (pa_cons (pv 2) (pa_cons (pv 3) pa_nil)))) pa_nil))))))) pss_nil)
      (pss_one (ps_ret (pe_and (pe_cmpR op_eq (pe_callB call_isi (by rfl) T.b_isinstance (by decide +kernel) (pa_cons (pv 0) (pa_cons (ty_bool T.b_bool) pa_nil))) (pe_callB call_isi (by rfl) T.b_isinstance (by decide +kernel) (pa_cons (pv 1) (pa_cons (ty_bool T.b_bool) pa_nil))) (nomark _))
        (pe_one (pe_cmpR op_eq (pv 0) (pv 1) (nomark _)))))), ?_⟩
    rcases h with ⟨k, rfl, rfl⟩ | ⟨a, b, xs, ys, rfl, rfl, h, hl, hp⟩
    · refine ⟨_, rfl, by show 2 ≤ sizeLine; decide, fun p np => ⟨_, p, _, _, _, _, rfl, upd_same, .cons (.ty _) (.cons (.ty _) .nil), .base (.int _), kitA_i, _, rfl, iteF ?_⟩⟩
      refine ⟨_, rfl, _, _, _, _, _, rfl, .ty _, .base (.int _), kit_ib, _, rfl, _, _, _, _, _, rfl, .ty _, .base (.int _), kit_ib, rfl, true, rfl, ?_⟩
      refine iteT ⟨_, rfl, _, rfl, rfl, ?_⟩
      rw [decide_eq_true rfl]
      exact q _ (same_new np)
    · have hle := paired_len hp
      have turn : ∀ {H1 : Hp} {D : Addr} {i : Nat} {x : V} {H2 H3 : Hp}, Same H H1 → H1 D = none → i < xs.length → PvFm rBl (fun _ => some true) D H1 i H2 → YPair (fun i => xs[i]?) (fun i => ys[i]?) i H2 x H3 →
          gTup K 2 (gCons (gName 2) (gCons (gName 3) gNil)) x (wipe (L2.start N_law_is [V.ref a, V.ref b]) [2, 3]) H3 fun σ2 H2 => wipe σ2 [2, 3] = wipe (L2.start N_law_is [V.ref a, V.ref b]) [2, 3] ∧ tYes σ2 H2 fun b H3 =>
            if b = true then tCall (spIs n) [] E0 (tCons (tVar 2) (tCons (tVar 3) tNil)) σ2 H3 fun y H4 => ∃ acc, H4 D = some (.lst acc) ∧ acc.length < sizeLine ∧ PvFm rBl (fun _ => some true) D H1 (i + 1) (upd H4 D (.lst (acc ++ [y]))) else PvFm rBl (fun _ => some true) D H1 (i + 1) H3 := by
        rintro H1 D i x H2 H3 s1 hD hi pv ⟨tz, u1, u2, rfl, nz, rfl, e1, e2⟩
        obtain ⟨v, hv, hal⟩ := paired_get hp e1
        have : v = u2 := by
          have e2' : ys[i]? = some u2 := e2
          rw [hv] at e2'
          exact Option.some.inj e2'
        subst this
        have s3 := same_new (o := .tup [u1, v]) nz
        refine ⟨tz, _, rfl, .of upd_same, rfl, _, _, rfl, _, _, rfl, rfl, rfl, ?_⟩
        refine ⟨_, rfl, _, rfl, u1, v, rfl, alike_same ((s1.trans pv.1).trans s3) n hal, fun H5 s5 => ?_⟩
        exact fm_keep mono_bl pv hD (by omega) (s3.trans s5) rfl rfl
      rcases h with ⟨h1, h2⟩ | ⟨h1, h2⟩
      · refine ⟨_, rfl, by show 2 ≤ sizeLine; decide, fun p np => ⟨_, p, _, _, _, _, rfl, upd_same, .cons (.ty _) (.cons (.ty _) .nil), .base (.tup ((same_new np).keep.tup h2)), kitA_t, _, rfl, iteT ?_⟩⟩
        have s1 := same_new (o := .tup [V.ty "tuple", V.ty "list"]) np
        refine ⟨_, rfl, _, _, _, _, _, rfl, .ty _, .base (.tup (s1 _ _ h1)), kit_tt, _, rfl, _, _, _, _, _, rfl, .ty _, .base (.tup (s1 _ _ h2)), kit_tt, rfl, _, rfl, iteF ?_⟩
        refine ⟨_, rfl, by show 2 ≤ sizeLine; decide, fun p2 np2 => ⟨_, p2, _, _, _, _, rfl, upd_same, .cons (.ty _) (.cons (.ty _) .nil), .base (.tup ((same_new np2) _ _ (s1 _ _ h1))), kitA_t, _, rfl, iteF ?_⟩⟩
        have s2 := s1.trans (same_new (o := .tup [V.ty "tuple", V.ty "list"]) np2)
        refine ⟨_, rfl, _, _, rfl, .inr (.of (s2 _ _ h1)), _, rfl, _, _, rfl, .inr (.of (s2 _ _ h2)), rfl, true, by rw [hle]; simp, ?_⟩
        refine iteT ⟨_, rfl, _, rfl, a, b, xs, ys, rfl, .inr ⟨.of (s2 _ _ h1), .of (s2 _ _ h2), fun D hD => ?_⟩⟩
        refine lc_fm (walk_zipT (n := xs.length) (by omega)) rBl (fun _ => some true) hD (fun H' s' => ⟨.of (s' _ _ (s2 _ _ h1)), .of (s' _ _ (s2 _ _ h2))⟩) (fun i x H2 H3 hi pv y => turn s2 hD hi pv y) ?_
        intro H3 zs s3 hD3 hp3
        have := paired_bl hp3
        subst this
        refine ⟨_, _, rfl, .of hD3, ?_⟩
        rw [all_true_fm rfl]
        exact q _ (s2.trans s3)
      · refine ⟨_, rfl, by show 2 ≤ sizeLine; decide, fun p np => ⟨_, p, _, _, _, _, rfl, upd_same, .cons (.ty _) (.cons (.ty _) .nil), .base (.lst ((same_new np) _ _ h2)), kitA_l, _, rfl, iteT ?_⟩⟩
        have s1 := same_new (o := .tup [V.ty "tuple", V.ty "list"]) np
        refine ⟨_, rfl, _, _, _, _, _, rfl, .ty _, .base (.lst (s1 _ _ h1)), kit_lt, _, rfl, _, _, _, _, _, rfl, .ty _, .base (.lst (s1 _ _ h2)), kit_lt, rfl, _, rfl, iteF ?_⟩
        refine ⟨_, rfl, by show 2 ≤ sizeLine; decide, fun p2 np2 => ⟨_, p2, _, _, _, _, rfl, upd_same, .cons (.ty _) (.cons (.ty _) .nil), .base (.lst ((same_new np2) _ _ (s1 _ _ h1))), kitA_l, _, rfl, iteF ?_⟩⟩
        have s2 := s1.trans (same_new (o := .tup [V.ty "tuple", V.ty "list"]) np2)
        refine ⟨_, rfl, _, _, rfl, .inl (.of (s2 _ _ h1)), _, rfl, _, _, rfl, .inl (.of (s2 _ _ h2)), rfl, true, by rw [hle]; simp, ?_⟩
        refine iteT ⟨_, rfl, _, rfl, a, b, xs, ys, rfl, .inl ⟨.of (s2 _ _ h1), .of (s2 _ _ h2), fun D hD => ?_⟩⟩
        refine lc_fm (walk_zip (n := xs.length) (by omega)) rBl (fun _ => some true) hD (fun H' s' => ⟨.of (s' _ _ (s2 _ _ h1)), .of (s' _ _ (s2 _ _ h2))⟩) (fun i x H2 H3 hi pv y => turn s2 hD hi pv y) ?_
        intro H3 zs s3 hD3 hp3
        have := paired_bl hp3
        subst this
        refine ⟨_, _, rfl, .of hD3, ?_⟩
        rw [all_true_fm rfl]
        exact q _ (s2.trans s3)
end
end S4

namespace S4
open PySem L2 TT MM
/-! ### comprehensions that draw -/
section
variable {J : It} {n : Nat} {G : Hp → Prop} {Y : Nat → Hp → V → Hp → Prop} {H1 : Hp} {g c D : Addr} {α : Type}
def PvDr (R : Rp α) (F : α → Prop) (g c D : Addr) (H1 : Hp) (i : Nat) (H : Hp) : Prop := But g H1 H ∧ Hand g c H ∧ ∃ xs l, H D = some (.lst xs) ∧ Paired (R H) xs l ∧ l.length = i ∧ ∀ a ∈ l, F a
theorem dr_ne (h : Hand g c H1) (hD : H1 D = none) : D ≠ g ∧ D ≠ c := by
  obtain ⟨_, e⟩ := h.lst
  obtain ⟨_, e2⟩ := h.cells
  exact ⟨fun q => (by rw [q, e] at hD; cases hD), fun q => (by rw [q, e2] at hD; cases hD)⟩
theorem dr_start {R : Rp α} {F : α → Prop} (h : Hand g c H1) (hD : H1 D = none) : PvDr R F g c D H1 0 (upd H1 D (.lst [])) :=
  ⟨(same_new hD).but g, h.same (same_new hD), [], [], upd_same, .nil, rfl, fun _ h => nomatch h⟩
theorem dr_keep {R : Rp α} (m : Mono R) {F : α → Prop} {i : Nat} {H H4 : Hp} {y : V} {a : α} (h : Hand g c H1) (p : PvDr R F g c D H1 i H) (hD : H1 D = none) (hi : i ≤ 100000) (b4 : But g H H4) (h4 : Hand g c H4) (ra : R H4 y a) (fa : F a) :
    ∃ acc, H4 D = some (.lst acc) ∧ acc.length < sizeLine ∧ PvDr R F g c D H1 (i + 1) (upd H4 D (.lst (acc ++ [y]))) := by
  obtain ⟨b, hh, xs, l, h1, h2, h3, hf⟩ := p
  obtain ⟨d1, d2⟩ := dr_ne h hD
  have hD4 : H4 D = some (.lst xs) := b4.lst d1 h1
  have k5 : Keep H4 (upd H4 D (.lst (xs ++ [y]))) := keep_lst hD4
  have hlen := paired_len h2
  refine ⟨xs, hD4, Nat.lt_of_le_of_lt (Nat.le_trans (by omega) hi) (by decide), fun x o hx e => ?_, h4.setD d1 d2, xs ++ [y], l ++ [a], upd_same, ?_, by rw [List.length_append, h3]; rfl, fun z hz => ?_⟩
  · have hxD : x ≠ D := fun q => by subst q; rw [hD] at e; cases e
    rw [upd_ne hxD]
    exact (b.trans b4) x o hx e
  · exact paired_app (paired_mono m k5 (paired_mono m (hh.keep b4) h2)) (.cons (m _ _ _ _ k5 ra) .nil)
  · rcases List.mem_append.mp hz with hz | hz
    · exact hf z hz
    · rw [List.mem_singleton.mp hz]
      exact fa
end
theorem erase_map {α β : Type} (f : α → β) (l : List α) (i : Nat) : (l.map f).eraseIdx i = (l.eraseIdx i).map f := by
  rw [List.eraseIdx_eq_take_drop_succ, List.eraseIdx_eq_take_drop_succ, List.map_append, List.map_take, List.map_drop]
theorem erase_perm {α : Type} {l : List α} {i : Nat} (h : i < l.length) : (l[i] :: l.eraseIdx i).Perm l := by
  rw [List.eraseIdx_eq_take_drop_succ]
  have e : l = l.take i ++ l[i] :: l.drop (i + 1) := by rw [← List.drop_eq_getElem_cons h, List.take_append_drop]
  exact List.perm_middle.symm.trans (.of_eq e.symm)
theorem seqIx_nat {j n : Nat} (h : j < n) : seqIndex? (j : Int) n = some j := by
  unfold seqIndex?
  have e1 : (if (j : Int) < 0 then (j : Int) + (n : Int) else (j : Int)) = j := if_neg (by omega)
  simp only [e1]
  rw [if_pos (by rw [Bool.and_eq_true]; exact ⟨decide_eq_true (by omega), decide_eq_true (by omega)⟩), Int.toNat_natCast]
theorem hand_new {g c p : Addr} {H : Hp} (h : Hand g c H) (hp : H p = none) : p ≠ g ∧ p ≠ c := dr_ne h hp
section
variable {P : Program} {w : World} {K : PySem.W.Frag} {mg : Str → Option Value} {base : Heap} {cT cS : Addr}
/-! ### a mixed list -/
def spMixed : Sp := fun vs H Q _ => ∃ (g c b : Addr) (ns : List Int), vs = [.ref g, .ref b] ∧ H b = some (.lst (ns.map V.int)) ∧ b ≠ g ∧ ns.length ≤ 1000 ∧ Hand g c H ∧
  ∀ H' p (ms : List Int), But g H H' → Hand g c H' → H p = none → H' p = some (.lst (ms.map V.int)) → ms.Perm ns → Q (.ref p) H'
/-! ### rows -/
def spLess : Sp := fun vs H Q _ => ∃ (u v : V) (p m : Int) (r1 r2 : List Int), vs = [.int p, u, v, .int m] ∧ 0 < p ∧ (-(2 ^ 64) < m ∧ m < 2 ^ 64) ∧ rRow H u r1 ∧ rRow H v r2 ∧ r1.length = r2.length ∧ r1.length ≤ 1000 ∧
  ∀ H' v' l, Same H H' → rRow H' v' l → l.length = r1.length → (∀ x ∈ l, 0 ≤ x ∧ x < p) → Q v' H'
theorem ok_less (T : Tx K mg cT cS) {f : Addr} {fd : FuncData} (d : D K mg "_law_less" s_law_less ["p", "row", "other", "many"] f fd) : FnOk P w K mg base CX0 1 f fd ["p", "row", "other", "many"] spLess := by
  refine d.F.ok sc_law_less (fun vs H Q E h => ?_) (fun cdv A outer s H vs Q E hr h => ?_)
  · obtain ⟨u, v, p, m, r1, r2, rfl, _⟩ := h
    rfl
  · obtain ⟨u, v, p, m, r1, r2, rfl, p0, hm, ⟨t1, rfl, h1⟩, ⟨t2, rfl, h2⟩, he, hl, q⟩ := h
    refine ⟨_, pss_one (ps_ret (pe_callTy call_tuple_of (by rfl) T.b_tuple (by decide +kernel) (pa_cons
        (pe_lc (own := [("one", 4), ("two", 5)]) (g := gTup K 2 (gCons (gName 4) (gCons (gName 5) gNil))) (tt := tYes) rfl sc_law_less.nd (RZ.pi_zipA (by rfl) T.b_zip (pa_cons (pv 1) (pa_cons (pv 2) pa_nil))) (blkOk_by (N := N_law_less) (sc := defScope s_law_less) (by decide +kernel))
                (fun _ _ _ _ _ => pgT rfl rfl (pgs_cons (pg_name (i := 4) sc_law_less.nd rfl (Or.inl rfl)) (pgs_cons (pg_name (i := 5) sc_law_less.nd rfl (Or.inl rfl)) pgs_nil))) (fun _ _ _ _ _ => pts_nil)
                (fun _ _ _ _ _ => pe_op op_mod (pe_callTy call_int1 (by rfl) T.b_int (by decide +kernel) (pa_cons (pe_op op_sub (pv 4) (pe_op op_mul (pv 3) (pv 5))) pa_nil)) (pv 0))) pa_nil))), ?_⟩
    refine ⟨_, rfl, _, rfl, t1, t2, _, _, rfl, .inr ⟨.of h1, .of h2, fun D hD => ?_⟩⟩
    refine lc_fm (walk_zipT (n := r1.length) (by rw [List.length_map, List.length_map]; omega)) rInt (fun i => some ((r1.getD i 0 - m * r2.getD i 0) % p)) hD (fun H' s' => ⟨.of (s'.keep.tup h1), .of (s'.keep.tup h2)⟩) ?_ ?_
    · rintro i x H2 H3 hi pv ⟨tz, u1, u2, rfl, nz, rfl, e1, e2⟩
      obtain ⟨a, ha, rfl⟩ := at_int e1
      obtain ⟨b, hb, rfl⟩ := at_int e2
      refine ⟨tz, _, rfl, .of upd_same, rfl, _, _, rfl, _, _, rfl, rfl, rfl, ?_⟩
      refine ⟨_, rfl, _, rfl, _, rfl, _, _, rfl, rfl, .inl hm, _, _, rfl, rfl, .inl ⟨_, rfl, _, rfl, _, _, rfl, rfl, p0, ?_⟩⟩
      exact fm_keep mono_int pv hD (by omega) (same_new nz) rfl (by rw [getD_at ha, getD_at hb]; rfl)
    · intro H2 ys s2 hD2 hp2
      rw [fm_all] at hp2
      have := paired_int hp2
      subst this
      refine ⟨D, _, rfl, .inl ⟨.of hD2, fun t nt => ?_⟩⟩
      refine q _ _ _ (s2.trans (same_new nt)) ⟨t, rfl, upd_same⟩ (by rw [List.length_map, List.length_range]) fun x hx => ?_
      obtain ⟨i, _, rfl⟩ := List.mem_map.mp hx
      exact mod_b p0
def spSummed : Sp := fun vs H Q _ => ∃ (a b : Addr) (p : Int) (wd : Nat) (xs : List V) (rws : List (List Int)) (ms : List Int), vs = [.int p, .int (wd : Int), .ref a, .ref b] ∧ 0 < p ∧ wd ≤ 1000 ∧ H a = some (.lst xs) ∧ Paired (rRow H) xs rws ∧ (∀ r ∈ rws, r.length = wd) ∧
  H b = some (.lst (ms.map V.int)) ∧ (∀ m ∈ ms, -(2 ^ 63) < m ∧ m < 2 ^ 63) ∧ ∀ H' v' l, Same H H' → rRow H' v' l → isRow l p wd → Q v' H'
theorem rep_row (H : Hp) (k : Nat) : (List.replicate k [V.int 0]).flatten = (List.replicate k (0 : Int)).map V.int := by
  induction k with
  | zero => rfl
  | succ k ih => rw [List.replicate_succ, List.replicate_succ, List.flatten_cons, ih, List.map_cons]; rfl
/-- (0,) * k -/
theorem zeros {K : PySem.W.Frag} {H : Hp} {t : Addr} {k : Nat} {Q : V → Hp → Prop} (ht : H t = some (.tup [V.int 0])) (hk : k ≤ 1000) (q : ∀ H' v, Same H H' → rRow H' v (List.replicate k 0) → Q v H') : rRepA K (.ref t) (.int (k : Int)) H Q := by
  refine ⟨t, k, [V.int 0], rfl, rfl, .of ht, by simp, by omega, by omega, by show 1 ≤ 1000; decide, fun e => ?_, fun e p np => ?_⟩
  · have : k = 1 := by omega
    subst this
    exact q H _ (.refl _) ⟨t, rfl, ht⟩
  · refine q _ _ (same_new np) ⟨p, rfl, ?_⟩
    rw [upd_same, Int.toNat_natCast, rep_row H k]
theorem isRow_zeros {p : Int} (p0 : 0 < p) (k : Nat) : isRow (List.replicate k 0) p k := ⟨by rw [List.length_replicate], fun v hv => by rw [(List.mem_replicate.mp hv).2]; omega⟩
theorem ok_summed (T : Tx K mg cT cS) {f : Addr} {fd : FuncData} (d : D K mg "_law_summed" s_law_summed ["p", "wide", "rows", "many"] f fd) : FnOk P w K mg base CX0 2 f fd ["p", "wide", "rows", "many"] spSummed := by
  obtain ⟨f1, fd1, d1⟩ := T.d_law_less
  have G1 : FnOk P w K mg base CX0 1 f1 fd1 ["p", "row", "other", "many"] spLess := ok_less T d1
  refine d.F.ok sc_law_summed (fun vs H Q E h => ?_) (fun cdv A outer s H vs Q E hr h => ?_)
  · obtain ⟨a, b, p, wd, xs, rws, ms, rfl, _⟩ := h
    rfl
  · obtain ⟨a, b, p, wd, xs, rws, ms, rfl, p0, hw, ha, hp, hrw, hb, hms, q⟩ := h
    refine ⟨_, pss_cons (ps_set (i := 4) sc_law_summed.nd rfl (.inl rfl) (pe_op op_repA (pe_tup (pa_cons pe_int pa_nil)) (pv 1)))
      (pss_cons (ps_for PassesOwn.never rfl (pi_zip (by rfl) T.b_zip (pa_cons (pv 2) (pa_cons (pv 3) pa_nil))) (pg_tup rfl (pgs_cons (pg_name (i := 5) sc_law_summed.nd rfl (.inl rfl)) (pgs_cons (pg_name (i := 6) sc_law_summed.nd rfl (.inl rfl)) pgs_nil)))
        (pss_one (ps_set (i := 4) sc_law_summed.nd rfl (.inl rfl) (pe_ifExp (pt_cmpR op_ne (pv 6) pe_int (nomark _)) (pe_call G1 hr rfl d1.m d1.F.kp d1.b .nil pass0 (pa_cons (pv 0) (pa_cons (pv 4) (pa_cons (pv 5) (pa_cons (pe_un un_neg (pv 6)) pa_nil))))) (pv 4)))))
      (pss_one (ps_ret (pv 4)))), ?_⟩
    refine ⟨by show 1 ≤ sizeLine; decide, fun t nt => ⟨_, rfl, ?_⟩⟩
    refine zeros upd_same hw fun H2 v2 s2 hrow2 => ?_
    have s02 := (same_new nt).trans s2
    dsimp only [gName, tSeq]
    refine ⟨_, rfl, _, rfl, a, b, _, _, rfl, .of (s02 _ _ ha), .of (s02 _ _ hb), ?_⟩
    refine for_it (walk_zip (n := min xs.length (ms.map V.int).length) rfl) (fun i σ H' => Same H H' ∧ ∃ (v : V) (l : List Int) (x y : Option V), σ = [some (.int p), some (.int (wd : Int)), some (.ref a), some (.ref b), some v, x, y] ∧ rRow H' v l ∧ isRow l p wd)
      ⟨s02, v2, _, none, none, rfl, hrow2, isRow_zeros p0 wd⟩ (fun i σ H' _ h => ⟨.of (h.1 _ _ ha), .of (h.1 _ _ hb)⟩) ?_ ?_
    · rintro i x σ H3 H4 hi ⟨s3, v, l, x1, x2, rfl, hrow, hir⟩ ⟨tz, u1, u2, rfl, nz, rfl, e1, e2⟩
      have s4 := same_new (o := .tup [u1, u2]) nz
      obtain ⟨r, hr1, hrr⟩ := paired_get (paired_mono mono_row (s3.trans s4).keep hp) e1
      obtain ⟨m, hm, rfl⟩ := at_int e2
      have hmb := hms m (List.mem_of_getElem? hm)
      have hrl := hrw r (List.mem_of_getElem? hr1)
      have hll := hir.1
      refine ⟨tz, _, rfl, .of upd_same, rfl, _, _, rfl, _, _, rfl, rfl, ?_⟩
      refine ⟨_, rfl, rfl, _, rfl, ?_⟩
      by_cases hz : m = 0
      · subst hz
        rw [decide_eq_true rfl]
        exact iteF ⟨_, rfl, s3.trans s4, v, l, _, _, rfl, mono_row _ _ _ _ s4.keep hrow, hir⟩
      · rw [decide_eq_false (fun e => hz (V.int.inj e))]
        refine iteT ⟨_, rfl, _, rfl, _, rfl, _, rfl, m, rfl, v, u1, p, -m, l, r, rfl, p0, ⟨by omega, by omega⟩, mono_row _ _ _ _ s4.keep hrow, hrr, by omega, by omega, fun H5 v5 l5 s5 hrow5 hl5 hb5 => ?_⟩
        exact ⟨(s3.trans s4).trans s5, v5, l5, _, _, rfl, hrow5, by rw [hl5]; omega, hb5⟩
    · rintro σ H3 ⟨s3, v, l, x1, x2, rfl, hrow, hir⟩
      exact ⟨_, rfl, q _ _ l s3 hrow hir⟩
/-! ### clocks -/
def noDivB (n : Nat) : Bool := decide (2 ≤ n) && decide (n ≤ 1000000) && (List.range 1001).all fun k => decide (k < 2) || decide (n < k * k) || decide (n % k ≠ 0)
theorem noDiv_of {n : Nat} (h : noDivB n = true) : NoDiv (n : Int) := by
  unfold noDivB at h
  rw [Bool.and_eq_true, Bool.and_eq_true] at h
  obtain ⟨⟨h1, h2⟩, h3⟩ := h
  have h1 := of_decide_eq_true h1
  have h2 := of_decide_eq_true h2
  refine ⟨by omega, by omega, fun k hk hkk => ?_⟩
  have hk1 := sq_small hk (Int.le_trans hkk (by omega))
  obtain ⟨j, rfl⟩ : ∃ j : Nat, k = (j : Int) := ⟨k.toNat, by omega⟩
  have h4 := List.all_eq_true.mp h3 j (List.mem_range.mpr (by omega))
  rw [Bool.or_eq_true, Bool.or_eq_true] at h4
  rcases h4 with (h4 | h4) | h4
  · have := of_decide_eq_true h4
    omega
  · have := of_decide_eq_true h4
    have e : ((j * j : Nat) : Int) = (j : Int) * (j : Int) := Int.natCast_mul j j
    omega
  · have := of_decide_eq_true h4
    intro e
    apply this
    have e2 : ((n % j : Nat) : Int) = (n : Int) % (j : Int) := Int.natCast_emod n j
    omega
def spClock : Sp := fun vs H Q _ => ∃ (g c : Addr), vs = [.ref g] ∧ Hand g c H ∧ ∀ H' p, But g H H' → Hand g c H' → NoDiv p → p ≤ 999983 → Q (.int p) H'
theorem ok_clock (T : Tx K mg cT cS) {f : Addr} {fd : FuncData} (d : D K mg "_law_clock" s_law_clock ["hand"] f fd) : FnOk P w K mg base CX0 3 f fd ["hand"] spClock := by
  obtain ⟨f1, fd1, d1⟩ := T.d_law_any
  have G1 : FnOk P w K mg base CX0 2 f1 fd1 ["hand", "items"] spAny := ok_any T d1
  refine d.F.ok sc_law_clock (fun vs H Q E h => ?_) (fun cdv A outer s H vs Q E hr h => ?_)
  · obtain ⟨g, c, rfl, _⟩ := h
    rfl
  · obtain ⟨g, c, rfl, hh, q⟩ := h
    refine ⟨_, pss_one (ps_ret (pe_call G1 hr rfl d1.m d1.F.kp d1.b .nil pass0 (pa_cons (pv 0) (pa_cons (pe_lst (pa_cons pe_int (pa_cons pe_int (pa_cons pe_int (pa_cons pe_int (pa_cons pe_int (pa_cons pe_int (pa_cons pe_int (pa_cons pe_int pa_nil))))))))) pa_nil)))), ?_⟩
    refine ⟨_, rfl, by show 8 ≤ sizeLine; decide, fun b nb => ?_⟩
    have s1 := same_new (o := .lst (([2, 3, 5, 7, 2, 11, 101, 999983] : List Int).map V.int)) nb
    refine ⟨g, c, b, ([2, 3, 5, 7, 2, 11, 101, 999983] : List Int).map V.int, rfl, upd_same, (hand_new hh nb).1, by decide, by decide, hh.same s1, fun H2 i x bt hh2 hx => ?_⟩
    obtain ⟨p, hp, rfl⟩ := at_int hx
    have hm := List.mem_of_getElem? hp
    have b2 := (s1.but g).trans bt
    have : (∃ k : Nat, p = (k : Int) ∧ noDivB k = true) ∧ p ≤ 999983 := by
      simp only [List.mem_cons, List.not_mem_nil, or_false] at hm
      rcases hm with rfl | rfl | rfl | rfl | rfl | rfl | rfl | rfl
      · exact ⟨⟨2, rfl, by decide +kernel⟩, by decide⟩
      · exact ⟨⟨3, rfl, by decide +kernel⟩, by decide⟩
      · exact ⟨⟨5, rfl, by decide +kernel⟩, by decide⟩
      · exact ⟨⟨7, rfl, by decide +kernel⟩, by decide⟩
      · exact ⟨⟨2, rfl, by decide +kernel⟩, by decide⟩
      · exact ⟨⟨11, rfl, by decide +kernel⟩, by decide⟩
      · exact ⟨⟨101, rfl, by decide +kernel⟩, by decide⟩
      · exact ⟨⟨999983, rfl, by decide +kernel⟩, by decide⟩
    obtain ⟨⟨k, rfl, hk⟩, hle⟩ := this
    exact q _ _ b2 hh2 (noDiv_of hk) hle
end
end S4

namespace S4
open PySem L2 TT MM
theorem twice {Y G : Prop} (h : Y → G) (y : Y) : G := h y
section
variable {P : Program} {w : World} {K : PySem.W.Frag} {mg : Str → Option Value} {base : Heap} {cT cS : Addr}
def spSomeRow : Sp := fun vs H Q _ => ∃ (g c a : Addr) (p : Int) (wd : Nat) (xs : List V) (rws : List (List Int)), vs = [.ref g, .int p, .int (wd : Int), .ref a] ∧ 2 ≤ p ∧ p ≤ 999983 ∧ wd ≤ 1000 ∧ H a = some (.lst xs) ∧ a ≠ g ∧ Paired (rRow H) xs rws ∧ rws.length ≤ 1000 ∧ (∀ r ∈ rws, isRow r p wd) ∧
  Hand g c H ∧ ∀ H' v l, But g H H' → Hand g c H' → rRow H' v l → isRow l p wd → Q v H'
theorem ok_some_row (T : Tx K mg cT cS) {f : Addr} {fd : FuncData} (d : D K mg "_law_some_row" s_law_some_row ["hand", "p", "wide", "rows"] f fd) : FnOk P w K mg base CX0 3 f fd ["hand", "p", "wide", "rows"] spSomeRow := by
  obtain ⟨f1, fd1, d1⟩ := T.d_law_draw
  have G1 : FnOk P w K mg base CX0 1 f1 fd1 ["hand", "many"] spDraw := ok_draw T d1
  obtain ⟨f2, fd2, d2⟩ := T.d_law_any
  have G2 : FnOk P w K mg base CX0 2 f2 fd2 ["hand", "items"] spAny := ok_any T d2
  obtain ⟨f3, fd3, d3⟩ := T.d_law_summed
  have G3 : FnOk P w K mg base CX0 2 f3 fd3 ["p", "wide", "rows", "many"] spSummed := ok_summed T d3
  refine d.F.ok sc_law_some_row (fun vs H Q E h => ?_) (fun cdv A outer s H vs Q E hr h => ?_)
  · obtain ⟨g, c, a, p, wd, xs, rws, rfl, _⟩ := h
    rfl
  · obtain ⟨g, c, a, p, wd, xs, rws, rfl, p2, pm, hwd, ha, hag, hp, hrl, hrw, hh, q⟩ := h
    refine ⟨_, pss_cons (ps_set (i := 4) sc_law_some_row.nd rfl (.inl rfl) (pe_call G1 (hr.mono (by decide)) rfl d1.m d1.F.kp d1.b .nil pass0 (pa_cons (pv 0) (pa_cons pe_int pa_nil))))
      (pss_cons (ps_if (pt_cmpR op_eq (pv 4) pe_int (nomark _)) (pss_one (ps_ret (pe_op op_repA (pe_tup (pa_cons pe_int pa_nil)) (pv 2)))) pss_nil)
      (pss_cons (ps_if (PW.pt (pw_and (pt_cmpR op_lt (pv 4) pe_int (nomark _)) (pw_and1 (pt_cmpR op_gt (pv 2) pe_int (nomark _)))))
        (pss_cons (ps_set (i := 5) sc_law_some_row.nd rfl (.inr rfl) (pe_call G1 (hr.mono (by decide)) rfl d1.m d1.F.kp d1.b .nil pass0 (pa_cons (pv 0) (pa_cons (pv 2) pa_nil))))
          (pss_one (ps_ret (pe_callTy call_tuple_of (by rfl) T.b_tuple (by decide +kernel) (pa_cons
            (pe_lc (own := [("place", 7)]) (g := gName 7) (tt := tYes) rfl sc_law_some_row.nd (pi_range1 rfl T.b_range (pa_cons (pv 2) pa_nil)) (blkOk_by (N := N_law_some_row) (sc := defScope s_law_some_row) (by decide +kernel))
              (fun _ _ _ _ _ => pg_name (i := 7) sc_law_some_row.nd rfl (Or.inl rfl)) (fun _ _ _ _ _ => pts_nil)
              (fun _ _ _ _ _ => pe_ifExp (pt_cmpR op_eq (pv 7) (pv 5) (nomark _)) (pe_op op_add pe_int (pe_call G1 (hr.mono (by decide)) rfl d1.m d1.F.kp d1.b .nil pass0 (pa_cons (pv 0) (pa_cons (pe_op op_sub (pv 1) pe_int) pa_nil)))) pe_int)) pa_nil))))) pss_nil)
      (pss_cons (ps_if (PW.pt (pw_and (pt_cmpR op_lt (pv 4) pe_int (nomark _)) (pw_and1 (pt_cmpR op_gt (pe_callB call_len_seq (by rfl) T.b_len PySem.boot_len (pa_cons (pv 3) pa_nil)) pe_int (nomark _)))))
        (pss_cons (ps_setLc (i := 6) (own := [("row", 8)]) (g := gName 8) (tt := tYes) rfl sc_law_some_row.nd rfl rfl (sw_true rfl rfl rfl rfl) (pi_list (pv 3)) (blkOk_by (N := N_law_some_row) (sc := defScope s_law_some_row) (by decide +kernel))
              (fun _ _ _ _ _ => pg_name (i := 8) sc_law_some_row.nd rfl (Or.inl rfl)) (fun _ _ _ _ _ => pts_nil)
              (fun _ _ _ _ _ => pe_call G2 hr rfl d2.m d2.F.kp d2.b .nil pass0 (pa_cons (pv 0) (pa_cons (pe_lst (pa_cons pe_int (pa_cons pe_int (pa_cons (pe_op op_sub (pv 1) pe_int) (pa_cons (pe_call G1 (hr.mono (by decide)) rfl d1.m d1.F.kp d1.b .nil pass0 (pa_cons (pv 0) (pa_cons (pv 1) pa_nil))) pa_nil))))) pa_nil))))
          (pss_one (ps_ret (pe_call G3 hr rfl d3.m d3.F.kp d3.b .nil pass0 (pa_cons (pv 1) (pa_cons (pv 2) (pa_cons (pv 3) (pa_cons (pv 6) pa_nil)))))))) pss_nil)
      (pss_cons (ps_if (pt_cmpR op_eq (pv 4) pe_int (nomark _))
        (pss_one (ps_ret (pe_callTy call_tuple_of (by rfl) T.b_tuple (by decide +kernel) (pa_cons
            (pe_lc (own := [("place", 7)]) (g := gName 7) (tt := tYes) rfl sc_law_some_row.nd (pi_range1 rfl T.b_range (pa_cons (pv 2) pa_nil)) (blkOk_by (N := N_law_some_row) (sc := defScope s_law_some_row) (by decide +kernel))
              (fun _ _ _ _ _ => pg_name (i := 7) sc_law_some_row.nd rfl (Or.inl rfl)) (fun _ _ _ _ _ => pts_nil)
              (fun _ _ _ _ _ => pe_ifExp (pt_cmpR op_eq (pe_call G1 (hr.mono (by decide)) rfl d1.m d1.F.kp d1.b .nil pass0 (pa_cons (pv 0) (pa_cons pe_int pa_nil))) pe_int (nomark _)) (pe_call G1 (hr.mono (by decide)) rfl d1.m d1.F.kp d1.b .nil pass0 (pa_cons (pv 0) (pa_cons (pv 1) pa_nil))) pe_int)) pa_nil)))) pss_nil)
      (pss_one (ps_ret (pe_callTy call_tuple_of (by rfl) T.b_tuple (by decide +kernel) (pa_cons
            (pe_lc (own := [("place", 7)]) (g := gName 7) (tt := tYes) rfl sc_law_some_row.nd (pi_range1 rfl T.b_range (pa_cons (pv 2) pa_nil)) (blkOk_by (N := N_law_some_row) (sc := defScope s_law_some_row) (by decide +kernel))
              (fun _ _ _ _ _ => pg_name (i := 7) sc_law_some_row.nd rfl (Or.inl rfl)) (fun _ _ _ _ _ => pts_nil)
              (fun _ _ _ _ _ => pe_call G1 (hr.mono (by decide)) rfl d1.m d1.F.kp d1.b .nil pass0 (pa_cons (pv 0) (pa_cons (pv 1) pa_nil)))) pa_nil)))))))), ?_⟩
    refine ⟨_, rfl, g, c, 8, rfl, by decide, by decide, hh, fun H2 kind b2 hh2 k0 k1 => ?_⟩
    dsimp only [gName, tSeq]
    have ha2 : H2 a = some (.lst xs) := b2.lst hag ha
    have hp2 : Paired (rRow H2) xs rws := paired_mono mono_row (hh.keep b2) hp
    have hlen := paired_len hp
    refine ⟨_, rfl, rfl, _, rfl, ?_⟩
    by_cases hk0 : kind = 0
    · rw [decide_eq_true (congrArg V.int hk0)]
      refine iteT ⟨by show 1 ≤ sizeLine; decide, fun t nt => ⟨_, rfl, zeros upd_same hwd fun H3 v3 s3 hrow3 => ?_⟩⟩
      have s23 := (same_new nt).trans s3
      exact q _ v3 _ (b2.trans (s23.but g)) (hh2.same s23) hrow3 (isRow_zeros (by omega) wd)
    rw [decide_eq_false (fun e => hk0 (V.int.inj e))]
    refine iteF ⟨_, rfl, _, _, rfl, rfl, _, rfl, ?_⟩
    have b02 := b2
    -- the drawn rows, whatever the numbers are
    have fin : ∀ (H3 H4 : Hp) (D : Addr), But g H H3 → PvDr rInt (fun x => 0 ≤ x ∧ x < p) g c D H3 (((wd : Nat) : Int).toNat) H4 → ∃ (l : List Int), H4 D = some (.lst (l.map V.int)) ∧ ∀ t, H4 t = none → Q (.ref t) (upd H4 t (.tup (l.map V.int))) := by
      intro H3 H4 D b3 pv
      obtain ⟨b4, hh4, ys, l, hD4, hp4, hl4, hf4⟩ := pv
      have := paired_int hp4
      subst this
      refine ⟨l, hD4, fun t nt => ?_⟩
      exact q _ _ l ((b3.trans b4).trans ((same_new nt).but g)) (hh4.same (same_new nt)) ⟨t, rfl, upd_same⟩ ⟨by rw [hl4, Int.toNat_natCast], hf4⟩
    apply twice
    · intro rest
      by_cases h3 : kind < 3
      · rw [decide_eq_true h3]
        refine iteT ⟨_, rfl, _, _, rfl, rfl, _, rfl, ?_⟩
        by_cases hw0 : 0 < wd
        · clear rest
          rw [decide_eq_true (by omega)]
          refine iteT ⟨_, rfl, _, rfl, g, c, (wd : Int), rfl, by omega, by omega, hh2, fun H3 at_ b3 hh3 a0 a1 => ?_⟩
          dsimp only [gName, tSeq]
          refine ⟨_, rfl, _, rfl, by omega, by omega, fun D hD => ?_⟩
          refine walk_W (walk_range (lo := 0) (n := ((wd : Nat) : Int).toNat)) _ (PvDr rInt (fun x => 0 ≤ x ∧ x < p) g c D H3) (dr_start hh3 hD) (fun i H' _ h => trivial) ?_ ?_
          · rintro i x H4 H5 hi pv ⟨rfl, rfl⟩
            rw [Int.toNat_natCast] at hi
            refine ⟨rfl, _, rfl, _, rfl, rfl, _, rfl, ?_⟩
            by_cases e : 0 + (i : Int) = at_
            · rw [decide_eq_true (congrArg V.int e)]
              refine iteT ⟨_, rfl, _, rfl, _, _, rfl, rfl, g, c, _, rfl, by omega, by omega, pv.2.1, fun H6 n b6 hh6 n0 n1 => ⟨_, _, rfl, rfl, ?_⟩⟩
              exact dr_keep mono_int hh3 pv hD (by omega) b6 hh6 rfl ⟨by omega, by omega⟩
            · rw [decide_eq_false (fun z => e (V.int.inj z))]
              exact iteF (dr_keep mono_int hh3 pv hD (by omega) (But.refl _ _) pv.2.1 rfl ⟨by omega, by omega⟩)
          · intro H4 pv
            obtain ⟨l, hD4, q4⟩ := fin H3 H4 D (b2.trans b3) pv
            exact ⟨D, _, rfl, .inl ⟨.of hD4, q4⟩⟩
        · rw [decide_eq_false (by clear rest; omega)]
          exact iteF rest
      · rw [decide_eq_false h3]
        exact iteF rest
    refine ⟨_, rfl, _, _, rfl, rfl, _, rfl, ?_⟩
    apply twice
    · intro rest
      by_cases h5 : kind < 5
      · rw [decide_eq_true h5]
        refine iteT ⟨_, rfl, _, _, rfl, .inl (.of ha2), _, _, rfl, rfl, _, rfl, ?_⟩
        by_cases hr0 : 0 < xs.length
        · clear rest
          rw [decide_eq_true (by omega)]
          refine iteT ⟨_, rfl, a, rfl, ⟨_, .of ha2⟩, fun D hD => ?_⟩
          refine walk_W (walk_list (xs := xs)) _ (PvDr rInt (fun x => 0 ≤ x ∧ x < p) g c D H2) (dr_start hh2 hD) (fun i H' _ h => .of (h.1.lst hag ha2)) ?_ ?_
          · rintro i x H4 H5 hi pv ⟨rfl, hx⟩
            refine ⟨rfl, _, rfl, _, rfl, _, _, rfl, rfl, _, rfl, _, rfl, g, c, p, rfl, by omega, by omega, pv.2.1, fun H6 n b6 hh6 n0 n1 => ⟨by show 4 ≤ sizeLine; decide, fun b nb => ?_⟩⟩
            have s7 := same_new (o := .lst (([0, 1, p - 1, n] : List Int).map V.int)) nb
            refine ⟨g, c, b, ([0, 1, p - 1, n] : List Int).map V.int, rfl, upd_same, (hand_new hh6 nb).1, by show 0 < 4; decide, by show 4 < 1000000; decide, hh6.same s7, fun H8 j y b8 hh8 hy => ?_⟩
            obtain ⟨m, hm, rfl⟩ := at_int hy
            have hm2 := List.mem_of_getElem? hm
            simp only [List.mem_cons, List.not_mem_nil, or_false] at hm2
            exact dr_keep mono_int hh2 pv hD (by omega) ((b6.trans (s7.but g)).trans b8) hh8 rfl (by omega)
          · intro H4 pv
            obtain ⟨b4, hh4, ys, l, hD4, hp4, hl4, hf4⟩ := pv
            have := paired_int hp4
            subst this
            dsimp only [gName, tSeq]
            refine ⟨_, rfl, _, rfl, _, rfl, _, rfl, a, D, p, wd, xs, rws, l, rfl, by omega, hwd, b4.lst hag ha2, paired_mono mono_row (hh2.keep b4) hp2, fun r hr => by have := (hrw r hr).1; omega, hD4, fun m hm => by have := hf4 m hm; omega, fun H5 v5 l5 s5 hrow5 hir => ?_⟩
            exact q _ _ _ ((b2.trans b4).trans (s5.but g)) (hh4.same s5) hrow5 hir
        · rw [decide_eq_false (by clear rest; omega)]
          exact iteF rest
      · rw [decide_eq_false h5]
        exact iteF rest
    refine ⟨_, rfl, rfl, _, rfl, ?_⟩
    by_cases hk5 : kind = 5
    · rw [decide_eq_true (congrArg V.int hk5)]
      refine iteT ⟨_, rfl, _, rfl, by omega, by omega, fun D hD => ?_⟩
      refine walk_W (walk_range (lo := 0) (n := ((wd : Nat) : Int).toNat)) _ (PvDr rInt (fun x => 0 ≤ x ∧ x < p) g c D H2) (dr_start hh2 hD) (fun i H' _ h => trivial) ?_ ?_
      · rintro i x H4 H5 hi pv ⟨rfl, rfl⟩
        rw [Int.toNat_natCast] at hi
        refine ⟨rfl, _, rfl, g, c, 3, rfl, by decide, by decide, pv.2.1, fun H6 n b6 hh6 n0 n1 => ⟨rfl, _, rfl, ?_⟩⟩
        by_cases e : n = 0
        · rw [decide_eq_true (congrArg V.int e)]
          refine iteT ⟨_, rfl, _, rfl, g, c, p, rfl, by omega, by omega, hh6, fun H7 m b7 hh7 m0 m1 => ?_⟩
          exact dr_keep mono_int hh2 pv hD (by omega) (b6.trans b7) hh7 rfl ⟨m0, m1⟩
        · rw [decide_eq_false (fun z => e (V.int.inj z))]
          exact iteF (dr_keep mono_int hh2 pv hD (by omega) b6 hh6 rfl ⟨by omega, by omega⟩)
      · intro H4 pv
        obtain ⟨l, hD4, q4⟩ := fin H2 H4 D b2 pv
        exact ⟨D, _, rfl, .inl ⟨.of hD4, q4⟩⟩
    · rw [decide_eq_false (fun e => hk5 (V.int.inj e))]
      refine iteF ⟨_, rfl, _, rfl, by omega, by omega, fun D hD => ?_⟩
      refine walk_W (walk_range (lo := 0) (n := ((wd : Nat) : Int).toNat)) _ (PvDr rInt (fun x => 0 ≤ x ∧ x < p) g c D H2) (dr_start hh2 hD) (fun i H' _ h => trivial) ?_ ?_
      · rintro i x H4 H5 hi pv ⟨rfl, rfl⟩
        rw [Int.toNat_natCast] at hi
        refine ⟨rfl, _, rfl, _, rfl, g, c, p, rfl, by omega, by omega, pv.2.1, fun H6 n b6 hh6 n0 n1 => ?_⟩
        exact dr_keep mono_int hh2 pv hD (by omega) b6 hh6 rfl ⟨n0, n1⟩
      · intro H4 pv
        obtain ⟨l, hD4, q4⟩ := fin H2 H4 D b2 pv
        exact ⟨D, _, rfl, .inl ⟨.of hD4, q4⟩⟩
end
end S4

namespace S4
open PySem L2 TT MM
/-! ### ties looked at -/
def nb1 (post : Int) (z : Int × Int) : Option Int := if z.2 = post then some z.1 else none
def nb2 (post : Int) (z : Int × Int) : Option Int := if z.1 = post then some z.2 else none
theorem near_perm (post : Int) : ∀ ties : List (Int × Int), (∀ z ∈ ties, z.1 ≠ z.2) → (ties.filterMap (nb1 post) ++ ties.filterMap (nb2 post)).Perm (nb ties post)
  | [], _ => .refl _
  | z :: t, h => by
    have ih := near_perm post t fun y hy => h y (by simp [hy])
    have hz := h z (by simp)
    unfold nb at *
    rw [List.filterMap_cons, List.filterMap_cons, List.filterMap_cons]
    by_cases h1 : z.1 = post
    · have h2 : ¬ z.2 = post := fun e => hz (h1.trans e.symm)
      have e1 : nb1 post z = none := if_neg h2
      have e2 : nb2 post z = some z.2 := if_pos h1
      have e3 : nbOf post z = some z.2 := by unfold nbOf; rw [if_pos (.inl h1), if_pos h1]
      rw [e1, e2, e3]
      exact List.perm_middle.trans (ih.cons _)
    · by_cases h2 : z.2 = post
      · have e1 : nb1 post z = some z.1 := if_pos h2
        have e2 : nb2 post z = none := if_neg h1
        have e3 : nbOf post z = some z.1 := by unfold nbOf; rw [if_pos (.inr h2), if_neg h1]
        rw [e1, e2, e3]
        exact ih.cons _
      · have e1 : nb1 post z = none := if_neg h2
        have e2 : nb2 post z = none := if_neg h1
        have e3 : nbOf post z = none := by unfold nbOf; rw [if_neg (fun q => q.elim h1 h2)]
        rw [e1, e2, e3]
        exact ih
section
variable {P : Program} {w : World} {K : PySem.W.Frag} {mg : Str → Option Value} {base : Heap} {cT cS : Addr}
def spLNear : Sp := fun vs H Q _ => ∃ (v : V) (ties : List (Int × Int)) (post : Int), vs = [v, .int post] ∧ rTup rPI H v ties ∧ ties.length ≤ 1000 ∧ (∀ z ∈ ties, z.1 ≠ z.2) ∧
  ∀ H' p ns, Same H H' → H p = none → H' p = some (.lst (ns.map V.int)) → ns.Perm (nb ties post) → Up ns → Q (.ref p) H'
def spLWays : Sp := fun vs H Q _ => ∃ (v : V) (ties : List (Int × Int)), vs = [v] ∧ rTup rPI H v ties ∧ ties.length ≤ 1000 ∧
  ∀ H' p xs m, Same H H' → H p = none → H' p = some (.lst xs) → Paired (rPI H') xs m → m.Perm (ties ++ flipAll ties) → m.Pairwise lxLe → Q (.ref p) H'
end
end S4

namespace S4
open PySem L2 TT MM
/-! ### trees built leaf by leaf -/
def Rooted (ties : List (Int × Int)) (s : Int) : Prop := ∃ par : Int → Int, ∀ u v, v ∈ nb ties u → (v = par u ∧ u ≠ s) ∨ (u = par v ∧ v ≠ s)
def tieOf (l q : Int) : Int × Int := if l < q then (l, q) else (q, l)
inductive Tr : List Int → List (Int × Int) → Prop
  | one (a : Int) : Tr [a] []
  | leaf {vs : List Int} {es : List (Int × Int)} {l q : Int} : Tr vs es → q ∈ vs → l ∉ vs → Tr (vs ++ [l]) (es ++ [tieOf l q])
theorem tieOf_mem {l q u v : Int} : ((u, v) = tieOf l q ∨ (v, u) = tieOf l q) ↔ (u = l ∧ v = q) ∨ (u = q ∧ v = l) := by
  unfold tieOf
  split
  · constructor
    · rintro (h | h)
      · cases h; exact .inl ⟨rfl, rfl⟩
      · cases h; exact .inr ⟨rfl, rfl⟩
    · rintro (⟨rfl, rfl⟩ | ⟨rfl, rfl⟩)
      · exact .inl rfl
      · exact .inr rfl
  · constructor
    · rintro (h | h)
      · cases h; exact .inr ⟨rfl, rfl⟩
      · cases h; exact .inl ⟨rfl, rfl⟩
    · rintro (⟨rfl, rfl⟩ | ⟨rfl, rfl⟩)
      · exact .inr rfl
      · exact .inl rfl
theorem nb_app {es : List (Int × Int)} {l q u v : Int} : v ∈ nb (es ++ [tieOf l q]) u ↔ v ∈ nb es u ∨ (u = l ∧ v = q) ∨ (u = q ∧ v = l) := by
  rw [nb_mem, nb_mem, List.mem_append, List.mem_append, List.mem_singleton, List.mem_singleton, ← tieOf_mem]
  constructor
  · rintro ((h | h) | (h | h))
    · exact .inl (.inl h)
    · exact .inr (.inl h)
    · exact .inl (.inr h)
    · exact .inr (.inr h)
  · rintro ((h | h) | (h | h))
    · exact .inl (.inl h)
    · exact .inr (.inl h)
    · exact .inl (.inr h)
    · exact .inr (.inr h)
theorem Tr.len {vs : List Int} {es : List (Int × Int)} (t : Tr vs es) : es.length + 1 = vs.length := by
  induction t with
  | one => rfl
  | leaf t _ _ ih => rw [List.length_append, List.length_append, List.length_singleton, List.length_singleton]; omega
theorem Tr.ends {vs : List Int} {es : List (Int × Int)} (t : Tr vs es) : ∀ z ∈ es, z.1 < z.2 ∧ z.1 ∈ vs ∧ z.2 ∈ vs := by
  induction t with
  | one => intro z h; cases h
  | @leaf vs es l q t hq hl ih =>
    intro z hz
    rcases List.mem_append.mp hz with hz | hz
    · obtain ⟨a, b, c⟩ := ih z hz
      exact ⟨a, List.mem_append_left _ b, List.mem_append_left _ c⟩
    · rw [List.mem_singleton.mp hz]
      have hne : l ≠ q := fun e => hl (e ▸ hq)
      unfold tieOf
      split
      · exact ⟨by assumption, by simp, by simp [hq]⟩
      · exact ⟨by simp only; omega, by simp [hq], by simp⟩
theorem Tr.nbIn {vs : List Int} {es : List (Int × Int)} (t : Tr vs es) {u v : Int} (h : v ∈ nb es u) : u ∈ vs ∧ v ∈ vs := by
  rcases nb_mem.mp h with h | h
  · exact (t.ends _ h).2
  · exact (t.ends _ h).2.symm
theorem Tr.nodup {vs : List Int} {es : List (Int × Int)} (t : Tr vs es) : es.Nodup := by
  induction t with
  | one => exact List.nodup_nil
  | @leaf vs es l q t hq hl ih =>
    rw [List.nodup_append]
    refine ⟨ih, by simp, fun a ha b hb e => ?_⟩
    subst e
    obtain ⟨_, h1, h2⟩ := t.ends _ ha
    have hb := List.mem_singleton.mp hb
    unfold tieOf at hb
    split at hb
    · rw [hb] at h1
      exact hl h1
    · rw [hb] at h2
      exact hl h2
theorem Tr.rooted {vs : List Int} {es : List (Int × Int)} (t : Tr vs es) : ∀ s ∈ vs, Rooted es s := by
  induction t with
  | one => intro s _; exact ⟨fun x => x, fun u v h => by simp [nb] at h⟩
  | @leaf vs es l q t hq hl ih =>
    intro s hs
    by_cases hsl : s = l
    · obtain ⟨par, hp⟩ := ih q hq
      refine ⟨fun x => if x = q then l else par x, fun u v h => ?_⟩
      have hlq : l ≠ q := fun e => hl (e ▸ hq)
      rcases nb_app.mp h with h | ⟨rfl, rfl⟩ | ⟨rfl, rfl⟩
      · obtain ⟨hu, hv⟩ := t.nbIn h
        rcases hp u v h with ⟨e, n⟩ | ⟨e, n⟩
        · exact .inl ⟨e.trans (if_neg n).symm, fun q => hl (by rw [← hsl, ← q]; exact hu)⟩
        · exact .inr ⟨e.trans (if_neg n).symm, fun q => hl (by rw [← hsl, ← q]; exact hv)⟩
      · exact .inr ⟨(if_pos rfl).symm, fun e => hlq (by rw [e, hsl])⟩
      · exact .inl ⟨(if_pos rfl).symm, fun e => hlq (by rw [e, hsl])⟩
    · have hsv : s ∈ vs := by
        rcases List.mem_append.mp hs with h | h
        · exact h
        · exact absurd (List.mem_singleton.mp h) hsl
      obtain ⟨par, hp⟩ := ih s hsv
      refine ⟨fun x => if x = l then q else par x, fun u v h => ?_⟩
      rcases nb_app.mp h with h | ⟨rfl, rfl⟩ | ⟨rfl, rfl⟩
      · obtain ⟨hu, hv⟩ := t.nbIn h
        have hul : u ≠ l := fun e => hl (e ▸ hu)
        have hvl : v ≠ l := fun e => hl (e ▸ hv)
        rcases hp u v h with ⟨e, n⟩ | ⟨e, n⟩
        · exact .inl ⟨e.trans (if_neg hul).symm, n⟩
        · exact .inr ⟨e.trans (if_neg hvl).symm, n⟩
      · exact .inl ⟨(if_pos rfl).symm, fun e => hsl e.symm⟩
      · exact .inr ⟨(if_pos rfl).symm, fun e => hsl e.symm⟩
theorem Rch.trans {ties : List (Int × Int)} {bar : Option Int} {a b c : Int} (h : Rch ties bar a b) (h2 : Rch ties bar b c) : Rch ties bar a c := by
  induction h2 with
  | refl => exact h
  | step _ hv hb ih => exact .step ih hv hb
theorem nb_symm {ties : List (Int × Int)} {u v : Int} (h : v ∈ nb ties u) : u ∈ nb ties v := by
  rcases nb_mem.mp h with h | h
  · exact nb_mem.mpr (.inr h)
  · exact nb_mem.mpr (.inl h)
theorem Rch.symm {ties : List (Int × Int)} {a b : Int} (h : Rch ties none a b) : Rch ties none b a := by
  induction h with
  | refl => exact .refl
  | step _ hv _ ih => exact Rch.trans (.step .refl (nb_symm hv) (fun e => nomatch e)) ih
theorem Rch.sub {t1 t2 : List (Int × Int)} {bar : Option Int} (hs : ∀ u v, v ∈ nb t1 u → v ∈ nb t2 u) {a b : Int} (h : Rch t1 bar a b) : Rch t2 bar a b := by
  induction h with
  | refl => exact .refl
  | step _ hv hb ih => exact .step ih (hs _ _ hv) hb
theorem Tr.conn {vs : List Int} {es : List (Int × Int)} (t : Tr vs es) : ∀ x ∈ vs, ∀ y ∈ vs, Rch es none x y := by
  induction t with
  | one a =>
    intro x hx y hy
    rw [List.mem_singleton.mp hx, List.mem_singleton.mp hy]
    exact .refl
  | @leaf vs es l q t hq hl ih =>
    have up : ∀ x ∈ vs, ∀ y ∈ vs, Rch (es ++ [tieOf l q]) none x y := fun x hx y hy => Rch.sub (fun u v h => nb_app.mpr (.inl h)) (ih x hx y hy)
    have ql : Rch (es ++ [tieOf l q]) none q l := .step .refl (nb_app.mpr (.inr (.inr ⟨rfl, rfl⟩))) (fun e => nomatch e)
    have toQ : ∀ x ∈ vs ++ [l], Rch (es ++ [tieOf l q]) none x q := fun x hx => by
      rcases List.mem_append.mp hx with h | h
      · exact up x h q hq
      · rw [List.mem_singleton.mp h]
        exact Rch.symm ql
    intro x hx y hy
    exact Rch.trans (toQ x hx) (Rch.symm (toQ y hy))
/-! ### the ties as they stand: sorted -/
theorem nb_perm {t1 t2 : List (Int × Int)} (h : t1.Perm t2) (u v : Int) : v ∈ nb t1 u ↔ v ∈ nb t2 u := by
  rw [nb_mem, nb_mem, h.mem_iff, h.mem_iff]
structure TreeOk (ties : List (Int × Int)) (n : Nat) : Prop where
  ok : TiesOk ties n
  rt : ∀ s, 0 ≤ s → s < (n : Int) → Rooted ties s
theorem treeOk_of {vs : List Int} {es ties : List (Int × Int)} {n : Nat} (t : Tr vs es) (hv : vs.Perm (rng n)) (hn : n ≤ 24) (hp : ties.Perm es) (hs : ties.Pairwise lxLe) : TreeOk ties n := by
  have hl : vs.length = n := by rw [hv.length_eq, rng_len]
  have hlen := t.len
  have h0 : ∀ x : Int, 0 ≤ x → x < (n : Int) → x ∈ vs := fun x a b => hv.mem_iff.mpr (rng_mem.mpr ⟨a, b⟩)
  refine ⟨⟨by rw [hp.length_eq]; omega, hn, fun z hz => ?_, lex_strict hs (hp.nodup_iff.mpr t.nodup), fun x a b => ?_⟩, fun s a b => ?_⟩
  · obtain ⟨a, b, c⟩ := t.ends z (hp.mem_iff.mp hz)
    have := rng_mem.mp (hv.mem_iff.mp b)
    have := rng_mem.mp (hv.mem_iff.mp c)
    omega
  · exact Rch.sub (fun u v h => (nb_perm hp u v).mpr h) (t.conn 0 (h0 0 (by omega) (by omega)) x (h0 x a b))
  · obtain ⟨par, hp2⟩ := t.rooted s (h0 s a b)
    exact ⟨par, fun u v h => hp2 u v ((nb_perm hp u v).mp h)⟩
theorem nb_nodup {ties : List (Int × Int)} {n : Nat} (o : TiesOk ties n) (post : Int) : (nb ties post).Nodup := by
  unfold nb
  rw [List.nodup_iff_pairwise_ne, List.pairwise_filterMap]
  refine List.Pairwise.imp_of_mem (fun {z y} hz hy hlt => ?_) o.asc
  intro a ha b hb hab
  subst hab
  have h1 := o.b0 z hz
  have h2 := o.b0 y hy
  unfold nbOf at ha hb
  split at ha
  · split at hb
    · have ha := Option.some.inj ha
      have hb := Option.some.inj hb
      unfold lxLt at hlt
      split at ha <;> split at hb <;> omega
    · cases hb
  · cases ha
/-! ### the two sides of a tie -/
inductive Desc (par : Int → Int) (a b : Int) : Int → Prop
  | top : Desc par a b b
  | sub {v : Int} : Desc par a b (par v) → v ≠ a → Desc par a b v
theorem sides_apart {ties : List (Int × Int)} {a b x : Int} (r : Rooted ties a) (hab : b ∈ nb ties a) (h1 : Rch ties (some b) a x) (h2 : Rch ties (some a) b x) : False := by
  obtain ⟨par, hp⟩ := r
  have hpb : a = par b ∧ b ≠ a := by
    rcases hp a b hab with ⟨_, h⟩ | h
    · exact absurd rfl h
    · exact h
  have inv : ∀ u, Desc par a b u → u = b ∨ (Desc par a b (par u) ∧ u ≠ a) := fun u h => by
    cases h with
    | top => exact .inl rfl
    | sub h n => exact .inr ⟨h, n⟩
  have hB : ∀ x, Rch ties (some a) b x → Desc par a b x ∧ x ≠ a := fun x h => by
    induction h with
    | refl => exact ⟨.top, hpb.2⟩
    | @step u v _ hv hb ih =>
      have hva : v ≠ a := fun e => hb (by rw [e])
      refine ⟨?_, hva⟩
      rcases hp u v hv with ⟨e, n⟩ | ⟨e, n⟩
      · rcases inv u ih.1 with q | ⟨q, _⟩
        · rw [q, ← hpb.1] at e
          exact absurd e hva
        · rw [e]
          exact q
      · exact .sub (by rw [← e]; exact ih.1) n
  have hA : ∀ x, Rch ties (some b) a x → ¬ Desc par a b x := fun x h => by
    induction h with
    | refl =>
      intro h
      rcases inv a h with q | ⟨_, q⟩
      · exact hpb.2 q.symm
      · exact q rfl
    | @step u v _ hv hb ih =>
      have hvb : v ≠ b := fun e => hb (by rw [e])
      intro hd
      rcases hp u v hv with ⟨e, n⟩ | ⟨e, n⟩
      · exact ih (.sub (by rw [← e]; exact hd) n)
      · rcases inv v hd with q | ⟨q, _⟩
        · exact hvb q
        · rw [← e] at q
          exact ih q
  exact hA x h1 (hB x h2).1
theorem sides_all {ties : List (Int × Int)} {a b x : Int} (h : Rch ties none a x) : Rch ties (some b) a x ∨ Rch ties (some a) b x := by
  induction h with
  | refl => exact .inl .refl
  | @step u v _ hv _ ih =>
    rcases ih with h | h
    · by_cases e : v = b
      · subst e; exact .inr .refl
      · exact .inl (.step h hv (fun q => e (Option.some.inj q).symm))
    · by_cases e : v = a
      · subst e; exact .inl .refl
      · exact .inr (.step h hv (fun q => e (Option.some.inj q).symm))
/-- the two sides together are all posts, none twice -/
theorem sides_perm {ties : List (Int × Int)} {n : Nat} (o : TreeOk ties n) {a b : Int} (hab : b ∈ nb ties a) {l m : List Int} (hl : l.Nodup) (hm : m.Nodup) (h1 : ∀ x, x ∈ l ↔ Rch ties (some b) a x) (h2 : ∀ x, x ∈ m ↔ Rch ties (some a) b x) : (l ++ m).Perm (rng n) := by
  have hb : b ∈ rng n := by
    have := o.ok.shut
    rcases nb_mem.mp hab with h | h
    · have := o.ok.b0 _ h
      exact rng_mem.mpr ⟨by simp only at this; omega, by simp only at this; omega⟩
    · have := o.ok.b0 _ h
      exact rng_mem.mpr ⟨by simp only at this; omega, by simp only at this; omega⟩
  have ha : a ∈ rng n := o.ok.shut.cl b hb a (nb_symm hab)
  obtain ⟨a1, a2⟩ := rng_mem.mp ha
  have nd : (l ++ m).Nodup := by
    rw [List.nodup_append]
    refine ⟨hl, hm, fun x hx y hy e => ?_⟩
    subst e
    exact sides_apart (o.rt a a1 a2) hab ((h1 x).mp hx) ((h2 x).mp hy)
  refine (List.perm_ext_iff_of_nodup nd (rng_nodup n)).mpr fun x => ?_
  rw [List.mem_append, h1, h2]
  constructor
  · rintro (h | h)
    · exact h.inV o.ok.shut ha
    · exact h.inV o.ok.shut hb
  · intro h
    obtain ⟨x1, x2⟩ := rng_mem.mp h
    exact sides_all (Rch.trans (Rch.symm (o.ok.all a a1 a2)) (o.ok.all x x1 x2))
/-! ### the walk of the law -/
theorem riPerm {ties : List (Int × Int)} {bar : Option Int} {s : Int} {ex : Option Int} {f f' wt : List Int} (r : RI ties bar s ex f wt) (h : f'.Perm f) : RI ties bar s ex f' wt :=
  ⟨h.nodup_iff.mpr r.nd, h.mem_iff.mpr r.st, fun v hv => r.ok v (h.mem_iff.mp hv), fun v hv => h.mem_iff.mpr (r.sub v hv), fun u hu hw he v hv hb => h.mem_iff.mpr (r.cl u (h.mem_iff.mp hu) hw he v hv hb), fun q e => h.mem_iff.mpr (r.exf q e), by rw [h.length_eq]; exact r.wl⟩
theorem riAll {ties : List (Int × Int)} {bar : Option Int} {s h : Int} : ∀ {L f wt : List Int}, RI ties bar s (some h) f wt → L.Nodup → (∀ v ∈ L, v ∈ nb ties h ∧ bar ≠ some v ∧ v ∉ f) → RI ties bar s (some h) (f ++ L) (wt ++ L)
  | [], f, wt, r, _, _ => by rw [List.append_nil, List.append_nil]; exact r
  | v :: L, f, wt, r, hn, hL => by
    obtain ⟨h1, h2⟩ := List.nodup_cons.mp hn
    obtain ⟨a, b, c⟩ := hL v (by simp)
    have := riAll (L := L) (r.add a b c) h2 fun u hu => by
      obtain ⟨x, y, z⟩ := hL u (by simp [hu])
      refine ⟨x, y, fun q => ?_⟩
      rcases List.mem_append.mp q with q | q
      · exact z q
      · exact h1 (by rw [← List.mem_singleton.mp q]; exact hu)
    rw [List.append_assoc, List.append_assoc] at this
    exact this
/-- what stands: F taken, W waiting -/
structure LW (ties : List (Int × Int)) (bar s : Int) (par : Int → Int) (F W : List Int) : Prop where
  ri : RI ties (some bar) s none (F ++ W) W
  pf : ∀ u ∈ F, u = s ∨ par u ∈ F
  pw : ∀ u ∈ W, u = s ∨ par u ∈ F
theorem LW.step {ties : List (Int × Int)} {bar s : Int} {par : Int → Int} (hp : ∀ u v, v ∈ nb ties u → (v = par u ∧ u ≠ s) ∨ (u = par v ∧ v ≠ s)) {F W : List Int} {h : Int} {ns : List Int} (r : LW ties bar s par F (W ++ [h])) (hn : ns.Nodup) (hm : ∀ v, v ∈ ns ↔ v ∈ nb ties h) :
    LW ties bar s par (F ++ [h]) (W ++ ns.filter fun v => decide (v ∉ F ++ [h] ∧ v ≠ bar)) := by
  have nd := r.ri.nd
  have hlast : (W ++ [h])[(W ++ [h]).length - 1]? = some h := by rw [List.length_append, List.length_singleton, Nat.add_sub_cancel, List.getElem?_append_right (Nat.le_refl _), Nat.sub_self]; rfl
  have r1 := r.ri.pop hlast
  have edl : (W ++ [h]).dropLast = W := by simp
  rw [edl] at r1
  have pm : ((F ++ [h]) ++ W).Perm (F ++ (W ++ [h])) := by
    rw [List.append_assoc]
    exact List.Perm.append_left F List.perm_append_comm
  have r2 := riPerm r1 pm
  have hF : h ∉ F := fun q => by
    rw [List.nodup_append] at nd
    exact nd.2.2 h q h (by simp) rfl
  have hW : ∀ v, v ∈ nb ties h → v ∉ F ++ [h] → v ∉ W ∧ h = par v := fun v hv hnf => by
    rcases hp h v hv with ⟨e, n⟩ | ⟨e, n⟩
    · exfalso
      rcases r.pw h (by simp) with q | q
      · exact n q
      · rw [← e] at q
        exact hnf (List.mem_append_left _ q)
    · refine ⟨fun q => ?_, e⟩
      rcases r.pw v (List.mem_append_left _ q) with z | z
      · exact n z
      · rw [← e] at z
        exact hF z
  have r3 := riAll (L := ns.filter fun v => decide (v ∉ F ++ [h] ∧ v ≠ bar)) r2 (hn.filter _) fun v hv => by
    obtain ⟨h1, h2⟩ := List.mem_filter.mp hv
    obtain ⟨h3, h4⟩ := of_decide_eq_true h2
    have h5 := (hm v).mp h1
    refine ⟨h5, fun q => h4 (Option.some.inj q).symm, fun q => ?_⟩
    rcases List.mem_append.mp q with q | q
    · exact h3 q
    · exact (hW v h5 h3).1 q
  have r4 := r3.close fun v hv hb => by
    by_cases hf : v ∈ F ++ [h]
    · exact List.mem_append_left _ (List.mem_append_left _ hf)
    · exact List.mem_append_right _ (List.mem_filter.mpr ⟨(hm v).mpr hv, decide_eq_true ⟨hf, fun e => hb (by rw [e])⟩⟩)
  rw [List.append_assoc] at r4
  refine ⟨r4, fun u hu => ?_, fun u hu => ?_⟩
  · rcases List.mem_append.mp hu with hu | hu
    · exact (r.pf u hu).imp id fun q => List.mem_append_left _ q
    · rw [List.mem_singleton.mp hu]
      exact (r.pw h (by simp)).imp id fun q => List.mem_append_left _ q
  · rcases List.mem_append.mp hu with hu | hu
    · exact (r.pw u (List.mem_append_left _ hu)).imp id fun q => List.mem_append_left _ q
    · obtain ⟨h1, h2⟩ := List.mem_filter.mp hu
      obtain ⟨h3, h4⟩ := of_decide_eq_true h2
      right
      rw [← (hW u ((hm u).mp h1) h3).2]
      simp
theorem LW.start {ties : List (Int × Int)} {bar s : Int} {par : Int → Int} : LW ties bar s par [] [s] := ⟨.start, fun _ h => (nomatch h), fun u h => .inl (List.mem_singleton.mp h)⟩
end S4

namespace S4
open PySem L2 TT MM
theorem inV_ints (x : Int) : ∀ l : List Int, inV (.int x) (l.map V.int) = decide (x ∈ l)
  | [] => by simp [inV]
  | a :: l => by
    have ih := inV_ints x l
    show ((a == x) || inV (.int x) (l.map V.int)) = _
    rw [ih]
    by_cases h : a = x
    · subst h; simp
    · have h' : ¬ x = a := fun e => h e.symm
      simp [h, h']
theorem flat_ints : ∀ l : List Int, (l.map V.int).all flatV = true
  | [] => rfl
  | a :: l => by
    show (true && (l.map V.int).all flatV) = true
    rw [flat_ints l]
    rfl
theorem fm_filter {α : Type} (p : α → Bool) : ∀ l : List α, l.filterMap (fun v => if p v = true then some v else none) = l.filter p
  | [] => rfl
  | a :: l => by
    rw [List.filterMap_cons, List.filter_cons, fm_filter p l]
    by_cases h : p a = true
    · rw [if_pos h, if_pos h]
    · rw [if_neg h, if_neg h]
section
variable {P : Program} {w : World} {K : PySem.W.Frag} {mg : Str → Option Value} {base : Heap} {cT cS : Addr}
structure LS (ties : List (Int × Int)) (z : Int × Int) (par : Int → Int) (H0 : Hp) (df dw : Addr) (F W : List Int) (H : Hp) : Prop where
  same : Same H0 H
  f0 : H0 df = none
  w0 : H0 dw = none
  fd : H df = some (.lst (F.map V.int))
  wd : H dw = some (.lst (W.map V.int))
  lw : LW ties z.2 z.1 par F W
def spLThis : Sp := fun vs H Q _ => ∃ (v u : V) (ties : List (Int × Int)) (z : Int × Int) (n : Nat), vs = [v, u] ∧ rTup rPI H v ties ∧ rPI H u z ∧ TreeOk ties n ∧ 0 ≤ z.1 ∧ z.1 < (n : Int) ∧
  ∀ H' p ns, Same H H' → H p = none → H' p = some (.lst (ns.map V.int)) → Up ns → ns.Nodup → (∀ x, x ∈ ns ↔ Rch ties (some z.2) z.1 x) → Q (.ref p) H'
end
end S4

namespace S4
open PySem L2 TT MM
theorem take_succ_sum {l : List Int} {k : Nat} (h : k < l.length) : (l.take (k + 1)).sum = (l.take k).sum + l[k] := by
  rw [List.take_succ, List.getElem?_eq_getElem h, List.sum_append]
  simp
theorem numsL_app (holds a b : List Int) : numsL holds (a ++ b) = numsL holds a ++ numsL holds b := by unfold numsL; rw [List.flatMap_append]
section
variable {P : Program} {w : World} {K : PySem.W.Frag} {mg : Str → Option Value} {base : Heap} {cT cS : Addr}
def spLNum : Sp := fun vs H Q _ => ∃ (v : V) (b : Addr) (holds ps : List Int) (n : Nat), vs = [v, .ref b] ∧ rRow H v holds ∧ CountsOk holds n ∧ n ≤ 24 ∧ H b = some (.lst (ps.map V.int)) ∧ Up ps ∧ ps.length ≤ 24 ∧ (∀ p ∈ ps, 0 ≤ p ∧ p < (n : Int)) ∧
  ∀ H' r, Same H H' → H r = none → H' r = some (.lst ((numsL holds ps).map V.int)) → Q (.ref r) H'
def zeroL (mine : List Int) (r : List Int) : List Int := (List.range r.length).map fun (i : Nat) => if (i : Int) ∈ mine then r.getD i 0 else 0
/-- the spec of a sheet in the heap -/
def rSpec : Rp SD := fun H v S => ∃ t u1 u2 u3, v = .ref t ∧ H t = some (.tup [.int S.p, u1, u2, u3]) ∧ rTup rPI H u1 S.ties ∧ rRow H u2 S.holds ∧ rWants H u3 S.wants
theorem mono_spec : Mono rSpec := fun _ _ _ _ k ⟨t, u1, u2, u3, e, h1, h2, h3, h4⟩ => ⟨t, u1, u2, u3, e, k.tup h1, mono_tup mono_pi _ _ _ _ k h2, mono_row _ _ _ _ k h3, mono_wants _ _ _ _ k h4⟩
structure FS (H0 : Hp) (m r fo : Addr) (mine far : List Int) (l : List (List Int)) (H : Hp) : Prop where
  same : Same H0 H
  f0 : H0 fo = none
  ne1 : m ≠ fo
  ne2 : r ≠ fo
  md : H m = some (.lst (mine.map V.int))
  rd : H r = some (.lst (far.map V.int))
  fd : ∃ xs, H fo = some (.lst xs) ∧ Paired (rRow H) xs l
theorem FS.more {H0 : Hp} {m r fo : Addr} {mine far : List Int} {l : List (List Int)} {H H' : Hp} (F : FS H0 m r fo mine far l H) (s : Same H H') : FS H0 m r fo mine far l H' :=
  ⟨F.same.trans s, F.f0, F.ne1, F.ne2, s _ _ F.md, s _ _ F.rd, let ⟨xs, a, b⟩ := F.fd; ⟨xs, s _ _ a, paired_mono mono_row s.keep b⟩⟩
/-- the lists of the walk and of the program are the same, by what is in them -/
theorem up_nodup_same {l m : List Int} (h1 : Up l) (h2 : Up m) (n1 : l.Nodup) (n2 : m.Nodup) (h : ∀ x, x ∈ l ↔ x ∈ m) : l = m := up_same ((List.perm_ext_iff_of_nodup n1 n2).mpr h) h1 h2
structure SpecOk (S : SD) (n : Nat) : Prop where
  tree : TreeOk S.ties n
  clock : NoDiv S.p
  holds : CountsOk S.holds n
  wants : WantsOk S.p S.holds.sum n S.wants
def fullL (S : SD) (mine far : List Int) : List (List Int) := far.flatMap fun post => (S.wants.getD post.toNat []).map (zeroL mine)
theorem flatMap_take {α β : Type} {l : List α} {i : Nat} {a : α} (f : α → List β) (h : l[i]? = some a) : (l.take (i + 1)).flatMap f = (l.take i).flatMap f ++ f a := by
  rw [List.take_succ, h, List.flatMap_append]
  simp
def spLFull : Sp := fun vs H Q _ => ∃ (v u : V) (S : SD) (z : Int × Int) (n : Nat), vs = [v, u] ∧ rSpec H v S ∧ rPI H u z ∧ SpecOk S n ∧ z.2 ∈ nb S.ties z.1 ∧
  ∀ H' r xs near far, Same H H' → H r = none → H' r = some (.lst xs) → Paired (rRow H') xs (fullL S (numsL S.holds near) far) → Up near → near.Nodup → (∀ x, x ∈ near ↔ Rch S.ties (some z.2) z.1 x) → Up far → far.Nodup → (∀ x, x ∈ far ↔ Rch S.ties (some z.1) z.2 x) → Q (.ref r) H'
end
end S4

namespace S4
open PySem L2 TT MM
theorem zero_cut {mine r : List Int} (h : ∀ i ∈ mine, 0 ≤ i ∧ i < (r.length : Int)) : cutL (zeroL mine r) mine = cutL r mine := by
  unfold cutL
  refine List.map_congr_left fun i hi => ?_
  obtain ⟨h0, h1⟩ := h i hi
  obtain ⟨k, rfl⟩ : ∃ k : Nat, i = (k : Int) := ⟨i.toNat, by omega⟩
  rw [Int.toNat_natCast]
  have hk : (zeroL mine r)[k]? = some (if (k : Int) ∈ mine then r.getD k 0 else 0) := by
    unfold zeroL
    rw [List.getElem?_map, List.getElem?_range (by omega)]
    rfl
  rw [getD_at hk, if_pos hi]
theorem range_getD {α β : Type} (d : α) (h : α → β) : ∀ l : List α, (List.range l.length).map (fun k => h (l.getD k d)) = l.map h := fun l => by
  apply List.ext_getElem?
  intro i
  rw [List.getElem?_map, List.getElem?_map]
  by_cases hi : i < l.length
  · rw [List.getElem?_range hi, List.getElem?_eq_getElem hi]
    show some (h (l.getD i d)) = some (h l[i])
    rw [getD_at (List.getElem?_eq_getElem hi)]
  · rw [List.getElem?_eq_none (by rw [List.length_range]; omega), List.getElem?_eq_none (by omega)]
    rfl
theorem full_block {S : SD} {near far : List Int} (h : ∀ p ∈ far, ∀ r ∈ S.wants.getD p.toNat [], ∀ i ∈ numsL S.holds near, 0 ≤ i ∧ i < (r.length : Int)) : (fullL S (numsL S.holds near) far).map (fun r => cutL r (numsL S.holds near)) = blockL S near far := by
  unfold fullL blockL farL
  rw [List.map_flatMap, List.map_flatMap]
  induction far with
  | nil => rfl
  | cons p far ih =>
    rw [List.flatMap_cons, List.flatMap_cons, ih fun x hx => h x (by simp [hx])]
    congr 1
    rw [List.map_map, List.map_map]
    have e := range_getD ([] : List Int) (fun r => cutL r (numsL S.holds near)) (S.wants.getD p.toNat [])
    have e2 : (List.range (S.wants.getD p.toNat []).length).map ((fun z : Int × Int => cutL ((S.wants.getD z.1.toNat []).getD z.2.toNat []) (numsL S.holds near)) ∘ fun (k : Nat) => (p, (k : Int))) = (List.range (S.wants.getD p.toNat []).length).map (fun k => cutL ((S.wants.getD p.toNat []).getD k []) (numsL S.holds near)) := by
      refine List.map_congr_left fun k _ => ?_
      show cutL ((S.wants.getD p.toNat []).getD ((k : Int)).toNat []) _ = _
      rw [Int.toNat_natCast]
    rw [e2, e]
    refine List.map_congr_left fun r hr => ?_
    exact zero_cut fun i hi => h p (by simp) r hr i hi
section
variable {P : Program} {w : World} {K : PySem.W.Frag} {mg : Str → Option Value} {base : Heap} {cT cS : Addr}
def spLCut : Sp := fun vs H Q _ => ∃ (v u : V) (S : SD) (z : Int × Int) (n : Nat), vs = [v, u] ∧ rSpec H v S ∧ rPI H u z ∧ SpecOk S n ∧ z.2 ∈ nb S.ties z.1 ∧
  ∀ H' r xs near far, Same H H' → H r = none → H' r = some (.lst xs) → Paired (rRow H') xs (blockL S near far) → Up near → near.Nodup → (∀ x, x ∈ near ↔ Rch S.ties (some z.2) z.1 x) → Up far → far.Nodup → (∀ x, x ∈ far ↔ Rch S.ties (some z.1) z.2 x) → Q (.ref r) H'
def scO : Scope := { kind := .function, names := [(".0", .local), ("row", .cell), ("tuple", .globalImplicit), ("mine", .cell)], isGenerator := false, isCoroutine := false }
end
end S4

namespace S4
open PySem L2 TT MM
theorem rgV_rng (n : Nat) : rgV 0 (n : Int) = (rng n).map V.int := by
  rw [rgV_int]
  unfold rng
  have e : ((n : Int) - 0).toNat = n := by omega
  rw [e]
  congr 1
  refine List.map_congr_left fun i _ => ?_
  omega
theorem tieOf_sorted {l q : Int} {ns : List Int} (h : ns.Perm [l, q]) (hu : Up ns) : ns = [(tieOf l q).1, (tieOf l q).2] := by
  have hp : [(tieOf l q).1, (tieOf l q).2].Perm [l, q] := by
    unfold tieOf
    split
    · exact .refl _
    · exact .swap _ _ _
  refine up_same (h.trans hp.symm) hu ?_
  unfold tieOf
  split
  · simp only [List.pairwise_cons, List.mem_singleton, forall_eq, List.not_mem_nil, false_implies, implies_true, List.Pairwise.nil, and_true]
    omega
  · simp only [List.pairwise_cons, List.mem_singleton, forall_eq, List.not_mem_nil, false_implies, implies_true, List.Pairwise.nil, and_true]
    omega
section
variable {P : Program} {w : World} {K : PySem.W.Frag} {mg : Str → Option Value} {base : Heap} {cT cS : Addr}
def spLTies : Sp := fun vs H Q _ => ∃ (g c : Addr) (n : Nat), vs = [.ref g, .int (n : Int)] ∧ 1 ≤ n ∧ n ≤ 24 ∧ Hand g c H ∧ ∀ H' v ties, But g H H' → Hand g c H' → rTup rPI H' v ties → TreeOk ties n → Q v H'
end
end S4

namespace S4
open PySem L2 TT MM
theorem paired_take {α β : Type} {F : α → β → Prop} : ∀ {xs : List α} {l : List β} (k : Nat), Paired F xs l → Paired F (xs.take k) (l.take k)
  | _, _, 0, _ => .nil
  | _, _, k + 1, .nil => .nil
  | _, _, k + 1, .cons r t => .cons r (paired_take k t)
theorem sum_le {l : List Int} {m : Int} (h : ∀ x ∈ l, 0 ≤ x ∧ x ≤ m) : 0 ≤ l.sum ∧ l.sum ≤ m * l.length := by
  induction l with
  | nil => simp
  | cons a l ih =>
    have h1 := ih fun x hx => h x (by simp [hx])
    have h2 := h a (by simp)
    rw [List.sum_cons, List.length_cons]
    have e : m * ((l.length + 1 : Nat) : Int) = m * (l.length : Int) + m := by
      rw [Int.natCast_succ, Int.mul_add, Int.mul_one]
    omega
theorem sumN_le {l : List Nat} {m : Nat} (h : ∀ x ∈ l, x ≤ m) : l.sum ≤ m * l.length := by
  induction l with
  | nil => simp
  | cons a l ih =>
    have h1 := ih fun x hx => h x (by simp [hx])
    have h2 := h a (by simp)
    rw [List.sum_cons, List.length_cons, Nat.mul_succ]
    omega
structure SW (g c : Addr) (H0 : Hp) (p : Int) (wd : Nat) (wa : Addr) (i m : Nat) (sa : Addr) (H : Hp) : Prop where
  bt : But g H0 H
  hh : Hand g c H
  sg : sa ≠ g
  wg : wa ≠ g
  wc : wa ≠ c
  w0 : H0 wa = none
  sw : sa ≠ wa
  sd : ∃ xs rws, H sa = some (.lst xs) ∧ Paired (rRow H) xs rws ∧ xs.length ≤ m ∧ ∀ r ∈ rws, isRow r p wd
  wl : ∃ ws wl, H wa = some (.lst ws) ∧ Paired (rTup rRow H) ws wl ∧ wl.length = i ∧ ∀ rows ∈ wl, rows.length ≤ 4 ∧ ∀ r ∈ rows, isRow r p wd
theorem SW.next {g c : Addr} {H0 : Hp} {p : Int} {wd : Nat} {wa : Addr} {i m : Nat} {sa : Addr} {H H' : Hp} (W : SW g c H0 p wd wa i m sa H) (b : But g H H') (h : Hand g c H') : SW g c H0 p wd wa i m sa H' := by
  obtain ⟨xs, rws, s1, s2, s3, s4⟩ := W.sd
  obtain ⟨ws, wl, w1, w2, w3, w4⟩ := W.wl
  have k := W.hh.keep b
  exact ⟨W.bt.trans b, h, W.sg, W.wg, W.wc, W.w0, W.sw, ⟨xs, rws, b.lst W.sg s1, paired_mono mono_row k s2, s3, s4⟩, ⟨ws, wl, b.lst W.wg w1, paired_mono (mono_tup mono_row) k w2, w3, w4⟩⟩
section
variable {P : Program} {w : World} {K : PySem.W.Frag} {mg : Str → Option Value} {base : Heap} {cT cS : Addr}
def spLSpec : Sp := fun vs H Q _ => ∃ (g c : Addr) (n : Nat), vs = [.ref g, .int (n : Int), .int 4] ∧ 1 ≤ n ∧ n ≤ 6 ∧ Hand g c H ∧ ∀ H' v S, But g H H' → Hand g c H' → rSpec H' v S → SpecOk S n → Q v H'
theorem any5 {e x : Int} {j : Nat} (h0 : 0 ≤ e) (h1 : e < 4) (h : ([0, 1, 1, 2, 1 + e] : List Int)[j]? = some x) : 0 ≤ x ∧ x ≤ 4 := by
  have hm := List.mem_of_getElem? h
  simp only [List.mem_cons, List.not_mem_nil, or_false] at hm
  omega
end
end S4

namespace S4
open PySem L2 TT MM
/-! ### data for != -/
theorem ints_lay : ∀ l : List Int, PyData.canLayAll0 (l.map PyData.int) = true
  | [] => by simp [PyData.canLayAll0]
  | z :: zs => by simp [PyData.canLayAll0, PyData.canLay0, ints_lay zs]
theorem ints_depth : ∀ l : List Int, PyData.depthAll (l.map PyData.int) = 0
  | [] => by simp [PyData.depthAll]
  | z :: zs => by
    have h1 := ints_depth zs
    simp only [List.map_cons, PyData.depthAll, PyData.depth]
    omega
theorem intl_shaped (l : List Int) : SeqAt.shaped (.list (l.map PyData.int)) = true := by
  have h1 := ints_depth l
  have h2 : PyData.depth (.list (l.map PyData.int)) ≤ 64 := by
    simp only [PyData.depth]
    omega
  show (PyData.canLay0 (.list (l.map PyData.int)) && decide (PyData.depth (.list (l.map PyData.int)) ≤ 64)) = true
  rw [Bool.and_eq_true]
  exact ⟨by simp only [PyData.canLay0]; exact ints_lay l, decide_eq_true h2⟩
theorem ints_eqv : ∀ l : List Int, PyData.eqvAll (l.map PyData.int) (l.map PyData.int) = true
  | [] => by simp [PyData.eqvAll]
  | z :: zs => by
    have h := ints_eqv zs
    simp only [List.map_cons, PyData.eqvAll, PyData.eqv, h]
    simp
theorem pds_eqv : ∀ l : List (Int × Int), PyData.eqvAll (l.map pd) (l.map pd) = true
  | [] => by simp [PyData.eqvAll]
  | z :: zs => by
    have h := pds_eqv zs
    have h2 := pd_eqv z z
    rw [List.map_cons]
    simp only [PyData.eqvAll, h, h2]
    simp
theorem intl_eqv (l : List Int) : PyData.eqv (.list (l.map PyData.int)) (.list (l.map PyData.int)) = true := by
  simp only [PyData.eqv]
  exact ints_eqv l
theorem pdl_eqv (l : List (Int × Int)) : PyData.eqv (.list (l.map pd)) (.list (l.map pd)) = true := by
  simp only [PyData.eqv]
  exact pds_eqv l
section
variable {K : PySem.W.Frag} {H : Hp}
theorem dp_ints : ∀ l : List Int, DpAll K H (l.map V.int) (l.map PyData.int)
  | [] => .nil
  | _ :: zs => .cons (.int _) (dp_ints zs)
/-- two lists of the same ints are not unequal -/
theorem ne_ints {a b : Addr} {l : List Int} {Q : V → Hp → Prop} (ha : H a = some (.lst (l.map V.int))) (hb : H b = some (.lst (l.map V.int))) (q : Q (.bl false) H) : rNeD K (.ref a) (.ref b) H Q :=
  ⟨_, _, .lst (.of ha) (dp_ints l), .lst (.of hb) (dp_ints l), intl_shaped l, intl_shaped l, by rw [intl_eqv]; exact q⟩
theorem ne_pairs {a b : Addr} {xs ys : List V} {l : List (Int × Int)} {Q : V → Hp → Prop} (ha : H a = some (.lst xs)) (hb : H b = some (.lst ys)) (hx : Paired (rPI H) xs l) (hy : Paired (rPI H) ys l) (q : Q (.bl false) H) : rNeD K (.ref a) (.ref b) H Q :=
  ⟨_, _, .lst (.of ha) (dp_all hx), .lst (.of hb) (dp_all hy), pdl_shaped l, pdl_shaped l, by rw [pdl_eqv]; exact q⟩
end
/-! ### alike -/
section
variable {H : Hp}
theorem al_int {n : Nat} {k : Int} : Alike H n (.int k) (.int k) := by
  cases n with
  | zero => exact ⟨k, rfl, rfl⟩
  | succ n => exact .inl ⟨k, rfl, rfl⟩
theorem al_tup {n : Nat} {a b : Addr} {xs ys : List V} (h1 : H a = some (.tup xs)) (h2 : H b = some (.tup ys)) (hl : xs.length ≤ 1000) (p : Paired (Alike H n) xs ys) : Alike H (n + 1) (.ref a) (.ref b) := .inr ⟨a, b, xs, ys, rfl, rfl, .inl ⟨h1, h2⟩, hl, p⟩
theorem al_lst {n : Nat} {a b : Addr} {xs ys : List V} (h1 : H a = some (.lst xs)) (h2 : H b = some (.lst ys)) (hl : xs.length ≤ 1000) (p : Paired (Alike H n) xs ys) : Alike H (n + 1) (.ref a) (.ref b) := .inr ⟨a, b, xs, ys, rfl, rfl, .inr ⟨h1, h2⟩, hl, p⟩
theorem al_ints {n : Nat} : ∀ l : List Int, Paired (Alike H n) (l.map V.int) (l.map V.int)
  | [] => .nil
  | _ :: r => .cons al_int (al_ints r)
theorem al_row {n : Nat} {u v : V} {l : List Int} (h1 : rRow H u l) (h2 : rRow H v l) (hl : l.length ≤ 1000) : Alike H (n + 1) u v := by
  obtain ⟨a, rfl, h1⟩ := h1
  obtain ⟨b, rfl, h2⟩ := h2
  exact al_tup h1 h2 (by rw [List.length_map]; exact hl) (al_ints l)
theorem al_pi {n : Nat} {u v : V} {z : Int × Int} (h1 : rPI H u z) (h2 : rPI H v z) : Alike H (n + 1) u v := by
  obtain ⟨a, rfl, h1⟩ := h1
  obtain ⟨b, rfl, h2⟩ := h2
  exact al_tup h1 h2 (by show 2 ≤ 1000; decide) (.cons al_int (.cons al_int .nil))
theorem al_pair {α : Type} {R : Rp α} {n : Nat} : ∀ {xs ys : List V} {l : List α}, Paired (R H) xs l → Paired (R H) ys l → (∀ u v x, x ∈ l → R H u x → R H v x → Alike H n u v) → Paired (Alike H n) xs ys
  | _, _, _, .nil, .nil, _ => .nil
  | _, _, _, .cons r t, .cons r2 t2, h => .cons (h _ _ _ (by simp) r r2) (al_pair t t2 fun u v x hx => h u v x (by simp [hx]))
theorem al_rtup {α : Type} {R : Rp α} {n : Nat} {u v : V} {l : List α} (h1 : rTup R H u l) (h2 : rTup R H v l) (hl : l.length ≤ 1000) (h : ∀ u v x, x ∈ l → R H u x → R H v x → Alike H n u v) : Alike H (n + 1) u v := by
  obtain ⟨a, xs, rfl, h1, p1⟩ := h1
  obtain ⟨b, ys, rfl, h2, p2⟩ := h2
  exact al_tup h1 h2 (by rw [paired_len p1]; exact hl) (al_pair p1 p2 h)
end
section
variable {P : Program} {w : World} {K : PySem.W.Frag} {mg : Str → Option Value} {base : Heap} {cT cS : Addr}
def spLSheet (cT cS : Addr) : Sp := fun vs H Q _ => ∃ (v : V) (S : SD) (n : Nat), vs = [v] ∧ rSpec H v S ∧ SpecOk S n ∧ ∀ H' v', Same H H' → rSheet cT cS H' v' S → Q v' H'
theorem same_make {H : Hp} {x dx C : Addr} (nx : H x = none) (ndx : H dx = none) (ne : dx ≠ x) : Same H (upd (upd H dx (.own x)) x (.ins C dx [])) := fun b o e => by
  rw [upd_ne (ne_of_none e nx), upd_ne (ne_of_none e ndx)]
  exact e
end
end S4

/-! rows modulo a number: what they span, the ladder of a room is only one -/
namespace MM
/-- alike modulo p -/
def Cg (p a b : Int) : Prop := p ∣ a - b
theorem Cg.refl {p : Int} (a : Int) : Cg p a a := by unfold Cg; rw [Int.sub_self]; exact Int.dvd_zero p
theorem Cg.of_eq {p a b : Int} (h : a = b) : Cg p a b := h ▸ .refl a
theorem Cg.symm {p a b : Int} (h : Cg p a b) : Cg p b a := by
  obtain ⟨k, hk⟩ := h
  exact ⟨-k, by rw [Int.mul_neg, ← hk]; omega⟩
theorem Cg.trans {p a b c : Int} (h : Cg p a b) (g : Cg p b c) : Cg p a c := by
  obtain ⟨k, hk⟩ := h
  obtain ⟨l, hl⟩ := g
  exact ⟨k + l, by rw [Int.mul_add, ← hk, ← hl]; omega⟩
theorem Cg.add {p a b c d : Int} (h : Cg p a b) (g : Cg p c d) : Cg p (a + c) (b + d) := by
  obtain ⟨k, hk⟩ := h
  obtain ⟨l, hl⟩ := g
  exact ⟨k + l, by rw [Int.mul_add, ← hk, ← hl]; omega⟩
theorem Cg.mul {p a b c d : Int} (h : Cg p a b) (g : Cg p c d) : Cg p (a * c) (b * d) := by
  obtain ⟨k, hk⟩ := h
  obtain ⟨l, hl⟩ := g
  refine ⟨k * c + b * l, ?_⟩
  have e1 : a = b + p * k := by omega
  have e2 : c = d + p * l := by omega
  subst e1 e2
  simp only [Int.mul_add, Int.add_mul]
  have h1 : p * k * d = p * (k * d) := Int.mul_assoc _ _ _
  have h2 : p * k * (p * l) = p * (k * (p * l)) := Int.mul_assoc _ _ _
  have h3 : b * (p * l) = p * (b * l) := by rw [← Int.mul_assoc, Int.mul_comm b p, Int.mul_assoc]
  omega
theorem Cg.neg {p a b : Int} (h : Cg p a b) : Cg p (-a) (-b) := by
  obtain ⟨k, hk⟩ := h
  exact ⟨-k, by rw [Int.mul_neg, ← hk]; omega⟩
theorem Cg.sub {p a b c d : Int} (h : Cg p a b) (g : Cg p c d) : Cg p (a - c) (b - d) := by
  have := h.add g.neg
  rwa [← Int.sub_eq_add_neg, ← Int.sub_eq_add_neg] at this
theorem Cg.mod {p : Int} (a : Int) : Cg p (a % p) a := by
  refine ⟨-(a / p), ?_⟩
  have := Int.mul_ediv_add_emod a p
  rw [Int.mul_neg]
  omega
theorem Cg.eq {p a b : Int} (h : Cg p a b) (a0 : 0 ≤ a) (a1 : a < p) (b0 : 0 ≤ b) (b1 : b < p) : a = b := by
  obtain ⟨k, hk⟩ := h
  have p0 : 0 < p := by omega
  rcases Int.lt_trichotomy k 0 with h | h | h
  · have : p * k ≤ p * (-1) := Int.mul_le_mul_of_nonneg_left (by omega) (by omega)
    omega
  · subst h
    omega
  · have : p * 1 ≤ p * k := Int.mul_le_mul_of_nonneg_left (by omega) (by omega)
    omega
theorem Cg.zero_of {p a : Int} (h : Cg p a 0) (a0 : 0 ≤ a) (a1 : a < p) : a = 0 := h.eq a0 a1 (by omega) (by omega)
/-! ### what rows span -/
abbrev Vc := Nat → Int
inductive Spn (p : Int) (R : Vc → Prop) : Vc → Prop
  | zero {v : Vc} : (∀ x, Cg p (v x) 0) → Spn p R v
  | add {u r v : Vc} (c : Int) : Spn p R u → R r → (∀ x, Cg p (v x) (u x + c * r x)) → Spn p R v
section
variable {p : Int} {R R' : Vc → Prop}
theorem Spn.cg {u v : Vc} (h : Spn p R u) (e : ∀ x, Cg p (v x) (u x)) : Spn p R v := by
  cases h with
  | zero h => exact .zero fun x => (e x).trans (h x)
  | add c hu hr h => exact .add c hu hr fun x => (e x).trans (h x)
theorem Spn.row {r : Vc} (h : R r) : Spn p R r := .add 1 (.zero (v := fun _ => 0) fun _ => .refl 0) h fun x => .of_eq (by omega)
theorem Spn.plus {u w v : Vc} (c : Int) (hu : Spn p R u) (hw : Spn p R w) (e : ∀ x, Cg p (v x) (u x + c * w x)) : Spn p R v := by
  induction hw generalizing v with
  | @zero w h =>
    refine hu.cg fun x => (e x).trans ?_
    have := (Cg.refl (p := p) (u x)).add ((Cg.refl c).mul (h x))
    rwa [Int.mul_zero, Int.add_zero] at this
  | @add w' r w d hw' hr h ih =>
    have h1 : Spn p R (fun x => u x + c * w' x) := ih fun x => .refl _
    refine .add (c * d) h1 hr fun x => (e x).trans ?_
    have := (Cg.refl (p := p) (u x)).add ((Cg.refl c).mul (h x))
    refine this.trans (.of_eq ?_)
    rw [Int.mul_add, ← Int.mul_assoc]
    omega
theorem Spn.sub (hs : ∀ r, R r → Spn p R' r) {v : Vc} (h : Spn p R v) : Spn p R' v := by
  induction h with
  | zero h => exact .zero h
  | add c _ hr h ih => exact .plus c ih (hs _ hr) h
theorem Spn.mono (hs : ∀ r, R r → R' r) {v : Vc} (h : Spn p R v) : Spn p R' v := h.sub fun r hr => .row (hs r hr)
/-- two lots of rows, each in the room of the other -/
def Same2 (p : Int) (R R' : Vc → Prop) : Prop := ∀ v, Spn p R v ↔ Spn p R' v
theorem same2_of (h1 : ∀ r, R r → Spn p R' r) (h2 : ∀ r, R' r → Spn p R r) : Same2 p R R' := fun v => ⟨fun h => h.sub h1, fun h => h.sub h2⟩
/-- what is 0 in the places of all rows is so in all of the room -/
theorem Spn.nought {v : Vc} {x : Nat} (h : Spn p R v) (hr : ∀ r, R r → Cg p (r x) 0) : Cg p (v x) 0 := by
  induction h with
  | zero h => exact h x
  | @add u r v c hu hr' h ih =>
    have := ih.add ((Cg.refl c).mul (hr r hr'))
    rw [Int.mul_zero, Int.add_zero] at this
    exact (h x).trans this
end
/-! ### sums over a list of places -/
def sumP (P : List Nat) (f : Nat → Int) : Int := (P.map f).sum
theorem sumP_cons (i : Nat) (P : List Nat) (f : Nat → Int) : sumP (i :: P) f = f i + sumP P f := by unfold sumP; rw [List.map_cons, List.sum_cons]
theorem sumP_add (P : List Nat) (f g : Nat → Int) : sumP P (fun i => f i + g i) = sumP P f + sumP P g := by
  induction P with
  | nil => rfl
  | cons i P ih => rw [sumP_cons, sumP_cons, sumP_cons, ih]; omega
theorem sumP_mul (P : List Nat) (c : Int) (f : Nat → Int) : sumP P (fun i => c * f i) = c * sumP P f := by
  induction P with
  | nil => show (0 : Int) = c * 0; rw [Int.mul_zero]
  | cons i P ih => rw [sumP_cons, sumP_cons, ih, Int.mul_add]
theorem sumP_cg {p : Int} {P : List Nat} {f g : Nat → Int} (h : ∀ i ∈ P, Cg p (f i) (g i)) : Cg p (sumP P f) (sumP P g) := by
  induction P with
  | nil => exact .refl _
  | cons i P ih =>
    rw [sumP_cons, sumP_cons]
    exact (h i (by simp)).add (ih fun j hj => h j (by simp [hj]))
theorem sumP_zero {p : Int} {P : List Nat} {f : Nat → Int} (h : ∀ i ∈ P, Cg p (f i) 0) : Cg p (sumP P f) 0 := by
  have := sumP_cg (g := fun _ => 0) h
  have e : sumP P (fun _ => 0) = 0 := by
    clear this h
    induction P with
    | nil => rfl
    | cons i P ih => rw [sumP_cons, ih]; rfl
  rwa [e] at this
/-- only one of the places counts -/
theorem sumP_one {p : Int} {P : List Nat} {f : Nat → Int} {k : Nat} (nd : P.Nodup) (hk : k ∈ P) (h : ∀ i ∈ P, i ≠ k → Cg p (f i) 0) : Cg p (sumP P f) (f k) := by
  induction P with
  | nil => cases hk
  | cons i P ih =>
    obtain ⟨n1, n2⟩ := List.nodup_cons.mp nd
    rw [sumP_cons]
    by_cases e : i = k
    · subst e
      have := (Cg.refl (p := p) (f i)).add (sumP_zero (p := p) (P := P) (f := f) fun j hj => h j (by simp [hj]) fun q => n1 (q ▸ hj))
      rwa [Int.add_zero] at this
    · have hk' : k ∈ P := by
        rcases List.mem_cons.mp hk with q | q
        · exact absurd q.symm e
        · exact q
      have := (h i (by simp) e).add (ih n2 hk' fun j hj => h j (by simp [hj]))
      rwa [Int.zero_add] at this
/-! ### ladders -/
/-- rows by their first places -/
structure Lad (p : Int) (P : List Nat) (r : Nat → Vc) : Prop where
  nd : P.Nodup
  one : ∀ i ∈ P, Cg p (r i i) 1
  off : ∀ i ∈ P, ∀ j ∈ P, j ≠ i → Cg p (r i j) 0
  low : ∀ i ∈ P, ∀ x, x < i → Cg p (r i x) 0
def rungs (P : List Nat) (r : Nat → Vc) : Vc → Prop := fun v => ∃ i ∈ P, v = r i
section
variable {p : Int} {P P' : List Nat} {r r' : Nat → Vc}
theorem Lad.self (L : Lad p P r) {k : Nat} (hk : k ∈ P) (x : Nat) : Cg p (sumP P fun i => r k i * r i x) (r k x) := by
  refine (sumP_one L.nd hk fun i hi e => ?_).trans ?_
  · have := (L.off k hk i hi e).mul (Cg.refl (r i x))
    rwa [Int.zero_mul] at this
  · have := (L.one k hk).mul (Cg.refl (r k x))
    rwa [Int.one_mul] at this
/-- a row of the room is told by its values in the first places -/
theorem Lad.coord (L : Lad p P r) {v : Vc} (h : Spn p (rungs P r) v) (x : Nat) : Cg p (v x) (sumP P fun i => v i * r i x) := by
  induction h with
  | @zero v h =>
    refine (h x).trans (sumP_zero fun i hi => ?_).symm
    have := (h i).mul (Cg.refl (r i x))
    rwa [Int.zero_mul] at this
  | @add u w v c hu hw h ih =>
    obtain ⟨k, hk, rfl⟩ := hw
    have h1 : Cg p (sumP P fun i => v i * r i x) (sumP P fun i => u i * r i x + c * (r k i * r i x)) := sumP_cg fun i hi => by
      have := (h i).mul (Cg.refl (p := p) (r i x))
      refine this.trans (.of_eq ?_)
      rw [Int.add_mul, Int.mul_assoc]
    rw [sumP_add, sumP_mul] at h1
    exact (h x).trans (((ih.add ((Cg.refl c).mul (L.self hk x).symm))).trans h1.symm)
theorem Lad.zero (L : Lad p P r) {v : Vc} (h : Spn p (rungs P r) v) (hz : ∀ i ∈ P, Cg p (v i) 0) (x : Nat) : Cg p (v x) 0 := (L.coord h x).trans (sumP_zero fun i hi => by
  have := (hz i hi).mul (Cg.refl (p := p) (r i x))
  rwa [Int.zero_mul] at this)
/-- the first place of a row of the room is one of the first places -/
theorem Lad.lead (L : Lad p P r) {v : Vc} (h : Spn p (rungs P r) v) {x : Nat} (hx : ¬ Cg p (v x) 0) (hl : ∀ y, y < x → Cg p (v y) 0) : x ∈ P := by
  by_cases hm : x ∈ P
  · exact hm
  · exfalso
    refine hx ((L.coord h x).trans (sumP_zero fun i hi => ?_))
    rcases Nat.lt_trichotomy i x with q | q | q
    · have := (hl i q).mul (Cg.refl (p := p) (r i x))
      rwa [Int.zero_mul] at this
    · exact absurd (q ▸ hi) hm
    · have := (Cg.refl (p := p) (v i)).mul (L.low i hi x q)
      rwa [Int.mul_zero] at this
theorem one_ne {p a : Int} (p2 : 2 ≤ p) (h : Cg p a 1) : ¬ Cg p a 0 := fun h0 => by
  have := (h.symm.trans h0).eq (by omega) (by omega) (by omega) (by omega)
  omega
/-- the ladder of a room is only one: the places -/
theorem Lad.places (L : Lad p P r) (L' : Lad p P' r') (p2 : 2 ≤ p) (hs : Same2 p (rungs P r) (rungs P' r')) {i : Nat} (hi : i ∈ P) : i ∈ P' :=
  L'.lead ((hs _).mp (.row ⟨i, hi, rfl⟩)) (one_ne p2 (L.one i hi)) (L.low i hi)
theorem Same2.symm {R R' : Vc → Prop} (h : Same2 p R R') : Same2 p R' R := fun v => (h v).symm
theorem Same2.trans {R R' R2 : Vc → Prop} (h : Same2 p R R') (g : Same2 p R' R2) : Same2 p R R2 := fun v => (h v).trans (g v)
/-- and the rows -/
theorem Lad.rows (L : Lad p P r) (L' : Lad p P' r') (p2 : 2 ≤ p) (hs : Same2 p (rungs P r) (rungs P' r')) {i : Nat} (hi : i ∈ P) (x : Nat) : Cg p (r i x) (r' i x) := by
  have hi' := L.places L' p2 hs hi
  have hc := L'.coord ((hs _).mp (.row ⟨i, hi, rfl⟩)) x
  refine hc.trans ((sumP_one L'.nd hi' fun j hj e => ?_).trans ?_)
  · have hj' := L'.places L p2 hs.symm hj
    have := (L.off i hi j hj' e).mul (Cg.refl (p := p) (r' j x))
    rwa [Int.zero_mul] at this
  · have := (L.one i hi).mul (Cg.refl (p := p) (r' i x))
    rwa [Int.one_mul] at this
/-- one row more: the rest of it, cleared of the ladder, made to begin with 1 -/
theorem Lad.more (L : Lad p P r) {g : Vc} {k : Nat} (hk : k ∉ P) (g1 : Cg p (g k) 1) (g0 : ∀ i ∈ P, Cg p (g i) 0) (gl : ∀ x, x < k → Cg p (g x) 0)
    {q : Nat → Vc} (hq : ∀ x, Cg p (q k x) (g x)) (ho : ∀ i ∈ P, ∀ x, Cg p (q i x) (r i x - r i k * g x)) : Lad p (P ++ [k]) q := by
  have hne : ∀ i ∈ P, i ≠ k := fun i hi e => hk (e ▸ hi)
  have low0 : ∀ i ∈ P, ∀ x, x < i → Cg p (r i k * g x) 0 := fun i hi x hx => by
    by_cases h : x < k
    · have := (Cg.refl (p := p) (r i k)).mul (gl x h)
      rwa [Int.mul_zero] at this
    · have := (L.low i hi k (by omega)).mul (Cg.refl (p := p) (g x))
      rwa [Int.zero_mul] at this
  refine ⟨?_, fun i hi => ?_, fun i hi j hj e => ?_, fun i hi x hx => ?_⟩
  · rw [List.nodup_append]
    exact ⟨L.nd, by simp, fun a ha b hb => by rw [List.mem_singleton.mp hb]; exact hne a ha⟩
  · rcases List.mem_append.mp hi with hi | hi
    · have := (L.one i hi).sub ((Cg.refl (p := p) (r i k)).mul (g0 i hi))
      rw [Int.mul_zero, Int.sub_zero] at this
      exact (ho i hi i).trans this
    · rw [List.mem_singleton.mp hi]
      exact (hq k).trans g1
  · rcases List.mem_append.mp hi with hi | hi
    · rcases List.mem_append.mp hj with hj | hj
      · have := (L.off i hi j hj e).sub ((Cg.refl (p := p) (r i k)).mul (g0 j hj))
        rw [Int.mul_zero, Int.sub_zero] at this
        exact (ho i hi j).trans this
      · rw [List.mem_singleton.mp hj]
        have := (Cg.refl (p := p) (r i k)).sub ((Cg.refl (p := p) (r i k)).mul g1)
        rw [Int.mul_one, Int.sub_self] at this
        exact (ho i hi k).trans this
    · rw [List.mem_singleton.mp hi] at e ⊢
      rcases List.mem_append.mp hj with hj | hj
      · exact (hq j).trans (g0 j hj)
      · exact absurd (List.mem_singleton.mp hj) e
  · rcases List.mem_append.mp hi with hi | hi
    · have := (L.low i hi x hx).sub (low0 i hi x hx)
      rw [Int.sub_zero] at this
      exact (ho i hi x).trans this
    · rw [List.mem_singleton.mp hi] at hx ⊢
      exact (hq x).trans (gl x hx)
theorem Lad.nil (p : Int) (r : Nat → Vc) : Lad p [] r := ⟨.nil, fun _ h => (nomatch h), fun _ h => (nomatch h), fun _ h => (nomatch h)⟩
end
end MM

namespace MM
section
variable {p : Int} {P : List Nat} {r : Nat → Vc}
/-- the room of one row more -/
theorem Lad.moreSpan (L : Lad p P r) {g : Vc} {k : Nat} {q : Nat → Vc} (hq : ∀ x, Cg p (q k x) (g x)) (ho : ∀ i ∈ P, ∀ x, Cg p (q i x) (r i x - r i k * g x)) :
    Same2 p (rungs (P ++ [k]) q) (fun v => rungs P r v ∨ v = g) := by
  refine same2_of (fun v hv => ?_) (fun v hv => ?_)
  · obtain ⟨i, hi, rfl⟩ := hv
    rcases List.mem_append.mp hi with hi | hi
    · refine .plus (-(r i k)) (.row (.inl ⟨i, hi, rfl⟩)) (.row (.inr rfl)) fun x => (ho i hi x).trans (.of_eq ?_)
      rw [Int.neg_mul]
      omega
    · rw [List.mem_singleton.mp hi]
      exact (Spn.row (.inr rfl)).cg hq
  · have hg : Spn p (rungs (P ++ [k]) q) g := (Spn.row ⟨k, by simp, rfl⟩).cg fun x => (hq x).symm
    rcases hv with ⟨i, hi, rfl⟩ | rfl
    · refine .plus (r i k) (.row ⟨i, by simp [hi], rfl⟩) hg fun x => ?_
      have := (ho i hi x).add (Cg.refl (p := p) (r i k * g x))
      refine (this.trans (.of_eq ?_)).symm
      omega
    · exact hg
/-- the same room, with one row more each -/
theorem same2_more {R R' : Vc → Prop} (h : Same2 p R R') {g row rest : Vc} {c d : Int} (hw : Spn p R' (fun x => row x - rest x)) (hg : ∀ x, Cg p (g x) (c * rest x)) (hr : ∀ x, Cg p (rest x) (d * g x)) :
    Same2 p (fun v => R v ∨ v = g) (fun v => R' v ∨ v = row) := by
  have up : ∀ {R : Vc → Prop} {u v : Vc}, Spn p R v → Spn p (fun v => R v ∨ v = u) v := fun h => h.mono fun _ q => .inl q
  refine same2_of (fun v hv => ?_) (fun v hv => ?_)
  · rcases hv with hv | rfl
    · exact up ((h v).mp (.row hv))
    · have h1 : Spn p (fun v => R' v ∨ v = row) rest := .plus (-1) (.row (.inr rfl)) (up hw) fun x => .of_eq (by omega)
      refine .plus c (.zero (v := fun _ => 0) fun _ => .refl 0) h1 fun x => (hg x).trans (.of_eq (by omega))
  · rcases hv with hv | rfl
    · exact up ((h v).mpr (.row hv))
    · have h1 : Spn p (fun v => R v ∨ v = g) rest := .plus d (.zero (v := fun _ => 0) fun _ => .refl 0) (.row (.inr rfl)) fun x => (hr x).trans (.of_eq (by omega))
      exact .plus 1 h1 (up ((h _).mpr hw)) fun x => .of_eq (by omega)
theorem same2_in {R R' : Vc → Prop} (h : Same2 p R R') {row : Vc} (hw : Spn p R' row) : Same2 p R (fun v => R' v ∨ v = row) := by
  refine same2_of (fun v hv => ?_) (fun v hv => ?_)
  · exact ((h v).mp (.row hv)).mono fun _ q => .inl q
  · rcases hv with hv | rfl
    · exact (h v).mpr (.row hv)
    · exact (h _).mpr hw
end
/-! ### the inverse, by the steps of the program -/
/-- what holds of ahead, now, before, factor -/
structure Eu (p v a n b f : Int) : Prop where
  ha : Cg p (b * v) a
  hn : Cg p (f * v) n
  g : Int.gcd a n = 1
  n0 : 0 < n
  na : n ≤ a
  sz : ∃ s t u : Int, (s = 1 ∨ s = -1) ∧ 0 ≤ t ∧ 0 ≤ u ∧ b = -s * t ∧ f = s * u ∧ t * n + u * a = p
theorem Eu.step {p v a n b f : Int} (E : Eu p v a n b f) (h1 : n ≠ 1) : Eu p v n (a - a / n * n) f (b - a / n * f) ∧ a - a / n * n < n := by
  have hn := E.n0
  have hm : a - a / n * n = a % n := by
    have := Int.mul_ediv_add_emod a n
    rw [Int.mul_comm] at this
    omega
  have h0 := Int.emod_nonneg a (by omega : n ≠ 0)
  have hlt := Int.emod_lt_of_pos a hn
  have q0 : 0 ≤ a / n := Int.ediv_nonneg (by have := E.na; omega) (by omega)
  have hg : Int.gcd n (a % n) = 1 := by
    rw [← hm, Int.gcd_sub_mul_right_right, Int.gcd_comm]
    exact E.g
  have hne : a % n ≠ 0 := fun e => by
    rw [e, Int.gcd_zero_right] at hg
    omega
  obtain ⟨s, t, u, hs, ht, hu, hb, hf, he⟩ := E.sz
  refine ⟨⟨E.hn, ?_, by rw [hm]; exact hg, by omega, by omega, ⟨-s, u, t + a / n * u, by omega, hu, ?_, ?_, ?_, ?_⟩⟩, by omega⟩
  · have := E.ha.sub ((Cg.refl (p := p) (a / n)).mul E.hn)
    refine (Cg.of_eq ?_).trans this
    rw [Int.sub_mul, Int.mul_assoc]
  · have := Int.mul_nonneg q0 hu
    omega
  · rw [hf, Int.neg_neg]
  · rw [hb, hf, Int.mul_add, Int.neg_mul, Int.neg_mul]
    have : a / n * (s * u) = s * (a / n * u) := by rw [← Int.mul_assoc, Int.mul_comm (a / n) s, Int.mul_assoc]
    omega
  · rw [← he, Int.mul_sub, Int.add_mul]
    have e1 : u * (a / n * n) = a / n * u * n := by rw [← Int.mul_assoc, Int.mul_comm u (a / n)]
    omega
theorem Eu.start {p v : Int} (v0 : 0 < v) (v1 : v < p) (g : Int.gcd p v = 1) : Eu p v p v 0 1 :=
  ⟨by rw [Int.zero_mul]; exact ⟨-1, by rw [Int.mul_neg, Int.mul_one]; omega⟩, by rw [Int.one_mul]; exact .refl v, g, v0, by omega, 1, 0, 1, .inl rfl, by omega, by omega, by omega, by omega, by omega⟩
theorem Eu.exists {p v : Int} : ∀ (m : Nat) {a n b f : Int}, Eu p v a n b f → n ≤ (m : Int) → ∃ u, Cg p (u * v) 1
  | 0, _, _, _, _, E, h => by have := E.n0; omega
  | m + 1, a, n, b, f, E, h => by
    by_cases h1 : n = 1
    · subst h1
      exact ⟨f, E.hn⟩
    · obtain ⟨E2, hlt⟩ := E.step h1
      exact Eu.exists m E2 (by omega)
/-- bounded throughout -/
theorem Eu.small {p v a n b f : Int} (E : Eu p v a n b f) : -p ≤ b ∧ b ≤ p ∧ -p ≤ f ∧ f ≤ p ∧ a ≤ p ∨ f = 0 := by
  obtain ⟨s, t, u, hs, ht, hu, hb, hf, he⟩ := E.sz
  have hn := E.n0
  have ha := E.na
  have e1 : t ≤ t * n := by
    have := Int.mul_le_mul_of_nonneg_left (show (1 : Int) ≤ n by omega) ht
    rwa [Int.mul_one] at this
  have e2 : u ≤ u * a := by
    have := Int.mul_le_mul_of_nonneg_left (show (1 : Int) ≤ a by omega) hu
    rwa [Int.mul_one] at this
  have f1 : 0 ≤ t * n := Int.mul_nonneg ht (by omega)
  have f2 : 0 ≤ u * a := Int.mul_nonneg hu (by omega)
  by_cases hu0 : u = 0
  · right
    rw [hf, hu0, Int.mul_zero]
  · left
    have e3 : a ≤ u * a := by
      have := Int.mul_le_mul_of_nonneg_right (show (1 : Int) ≤ u by omega) (show 0 ≤ a by omega)
      rwa [Int.one_mul] at this
    rcases hs with rfl | rfl
    · rw [Int.one_mul] at hf
      rw [Int.neg_mul, Int.one_mul] at hb
      exact ⟨by omega, by omega, by omega, by omega, by omega⟩
    · rw [Int.neg_neg, Int.one_mul] at hb
      rw [Int.neg_mul, Int.one_mul] at hf
      exact ⟨by omega, by omega, by omega, by omega, by omega⟩
end MM

namespace MM
/-! ### primes -/
/-- no divisor but 1 and itself, by divisors up to the root -/
def Prm (p : Int) : Prop := 2 ≤ p ∧ ∀ k : Int, 2 ≤ k → k * k ≤ p → p % k ≠ 0
theorem Prm.gcd {p v : Int} (h : Prm p) (v0 : 0 < v) (v1 : v < p) : Int.gcd p v = 1 := by
  obtain ⟨p2, hd⟩ := h
  have g1 : ((Int.gcd p v : Nat) : Int) ∣ p := Int.gcd_dvd_left ..
  have g2 : ((Int.gcd p v : Nat) : Int) ∣ v := Int.gcd_dvd_right ..
  have gle : ((Int.gcd p v : Nat) : Int) ≤ v := Int.le_of_dvd v0 g2
  have g0 : Int.gcd p v ≠ 0 := fun e => by
    rw [e] at g2
    have := Int.zero_dvd.mp g2
    omega
  by_cases h1 : Int.gcd p v = 1
  · exact h1
  · exfalso
    generalize hd' : ((Int.gcd p v : Nat) : Int) = d at *
    have d2 : 2 ≤ d := by omega
    obtain ⟨e, he⟩ := g1
    have e2 : 2 ≤ e := by
      rcases Int.lt_trichotomy e 1 with q | q | q
      · have : d * e ≤ d * 0 := Int.mul_le_mul_of_nonneg_left (by omega) (by omega)
        omega
      · subst q
        omega
      · omega
    rcases Int.le_total d e with q | q
    · refine hd d d2 ?_ ?_
      · rw [he]
        exact Int.mul_le_mul_of_nonneg_left q (by omega)
      · rw [he]
        exact Int.mul_emod_right d e
    · refine hd e e2 ?_ ?_
      · rw [he]
        exact Int.mul_le_mul_of_nonneg_right q (by omega)
      · rw [he]
        exact Int.mul_emod_left d e
theorem Prm.inv {p v : Int} (h : Prm p) (v0 : 0 < v) (v1 : v < p) : ∃ u, Cg p (u * v) 1 :=
  Eu.exists v.toNat (Eu.start v0 v1 (h.gcd v0 v1)) (by omega)
/-- an inverse is only one -/
theorem inv_one {p u w v : Int} (h1 : Cg p (u * v) 1) (h2 : Cg p (w * v) 1) : Cg p u w := by
  have a1 := (h2.mul (Cg.refl (p := p) u))
  rw [Int.one_mul] at a1
  have a2 := (h1.mul (Cg.refl (p := p) w))
  rw [Int.one_mul] at a2
  refine a1.symm.trans ((Cg.of_eq ?_).trans a2)
  rw [Int.mul_assoc, Int.mul_comm v u, Int.mul_comm w]
/-! ### Fermat -/
def prodL : List Int → Int
  | [] => 1
  | a :: l => a * prodL l
theorem prodL_perm {l m : List Int} (h : l.Perm m) : prodL l = prodL m := by
  induction h with
  | nil => rfl
  | cons a _ ih => show a * _ = a * _; rw [ih]
  | swap a b l => show b * (a * _) = a * (b * _); rw [← Int.mul_assoc, ← Int.mul_assoc, Int.mul_comm a b]
  | trans _ _ h1 h2 => rw [h1, h2]
def ones (p : Int) : List Int := (List.range (p - 1).toNat).map fun (i : Nat) => (i : Int) + 1
theorem ones_mem {p x : Int} : x ∈ ones p ↔ 0 < x ∧ x < p := by
  unfold ones
  rw [List.mem_map]
  constructor
  · rintro ⟨i, hi, rfl⟩
    have := List.mem_range.mp hi
    omega
  · rintro ⟨a, b⟩
    exact ⟨(x - 1).toNat, List.mem_range.mpr (by omega), by omega⟩
theorem ones_nodup (p : Int) : (ones p).Nodup := by
  unfold ones
  rw [List.nodup_iff_pairwise_ne, List.pairwise_map]
  exact List.nodup_range.imp fun {a b} h e => h (by omega)
theorem ones_len (p : Int) : (ones p).length = (p - 1).toNat := by simp [ones]
theorem prodL_map {p a : Int} : ∀ l : List Int, Cg p (prodL (l.map fun x => a * x % p)) (a ^ l.length * prodL l)
  | [] => .of_eq (by show (1 : Int) = a ^ 0 * 1; rw [Int.pow_zero]; rfl)
  | x :: l => by
    have h := (Cg.mod (p := p) (a * x)).mul (prodL_map (p := p) (a := a) l)
    refine h.trans (.of_eq ?_)
    show a * x * (a ^ l.length * prodL l) = a ^ (l.length + 1) * (x * prodL l)
    rw [Int.pow_succ, Int.mul_assoc, Int.mul_assoc, ← Int.mul_assoc x, Int.mul_comm x, Int.mul_assoc, ← Int.mul_assoc a, Int.mul_comm a, Int.mul_assoc]
theorem Prm.prod_inv {p : Int} (h : Prm p) : ∀ l : List Int, (∀ x ∈ l, 0 < x ∧ x < p) → ∃ w, Cg p (w * prodL l) 1
  | [], _ => ⟨1, .refl _⟩
  | x :: l, hl => by
    obtain ⟨w, hw⟩ := h.prod_inv l fun y hy => hl y (by simp [hy])
    obtain ⟨x0, x1⟩ := hl x (by simp)
    obtain ⟨u, hu⟩ := h.inv x0 x1
    refine ⟨u * w, ?_⟩
    have := hu.mul hw
    refine (Cg.of_eq ?_).trans this
    show u * w * (x * prodL l) = u * x * (w * prodL l)
    rw [Int.mul_assoc, Int.mul_assoc, ← Int.mul_assoc w, Int.mul_comm w, Int.mul_assoc]
theorem Prm.fermat {p a : Int} (h : Prm p) (a0 : 0 < a) (a1 : a < p) : Cg p (a ^ (p - 1).toNat) 1 := by
  have p2 := h.1
  obtain ⟨u, hu⟩ := h.inv a0 a1
  have cancel : ∀ x : Int, Cg p (u * (a * x)) x := fun x => by
    have := hu.mul (Cg.refl (p := p) x)
    rw [Int.one_mul, Int.mul_assoc] at this
    exact this
  have inR : ∀ x, 0 < x → x < p → 0 < a * x % p ∧ a * x % p < p := fun x x0 x1 => by
    have n0 := Int.emod_nonneg (a * x) (by omega : p ≠ 0)
    have n1 := Int.emod_lt_of_pos (a * x) (by omega : 0 < p)
    refine ⟨?_, n1⟩
    rcases Int.lt_or_eq_of_le n0 with q | q
    · exact q
    · exfalso
      have c0 : Cg p (a * x) 0 := (Cg.mod (a * x)).symm.trans (.of_eq q.symm)
      have := (Cg.refl (p := p) u).mul c0
      rw [Int.mul_zero] at this
      have := ((cancel x).symm.trans this).zero_of (by omega) x1
      omega
  have perm : ((ones p).map fun x => a * x % p).Perm (ones p) := by
    refine (List.perm_ext_iff_of_nodup ?_ (ones_nodup p)).mpr fun y => ?_
    · rw [List.nodup_iff_pairwise_ne, List.pairwise_map]
      refine List.Pairwise.imp_of_mem (fun {x y} hx hy hne e => ?_) (ones_nodup p)
      obtain ⟨x0, x1⟩ := ones_mem.mp hx
      obtain ⟨y0, y1⟩ := ones_mem.mp hy
      have c : Cg p (a * x) (a * y) := (Cg.mod (a * x)).symm.trans ((Cg.of_eq e).trans (Cg.mod (a * y)))
      have := (Cg.refl (p := p) u).mul c
      exact hne (((cancel x).symm.trans (this.trans (cancel y))).eq (by omega) x1 (by omega) y1)
    · rw [ones_mem, List.mem_map]
      constructor
      · rintro ⟨x, hx, rfl⟩
        obtain ⟨x0, x1⟩ := ones_mem.mp hx
        exact inR x x0 x1
      · rintro ⟨y0, y1⟩
        have m0 := Int.emod_nonneg (u * y) (by omega : p ≠ 0)
        have m1 := Int.emod_lt_of_pos (u * y) (by omega : 0 < p)
        have c1 : Cg p (a * (u * y % p)) y := by
          have := (Cg.refl (p := p) a).mul (Cg.mod (p := p) (u * y))
          refine this.trans ?_
          refine (Cg.of_eq ?_).trans (cancel y)
          rw [← Int.mul_assoc, Int.mul_comm a u, Int.mul_assoc]
        have e1 : a * (u * y % p) % p = y := ((Cg.mod _).trans c1).eq (Int.emod_nonneg _ (by omega)) (Int.emod_lt_of_pos _ (by omega)) (by omega) y1
        refine ⟨u * y % p, ones_mem.mpr ⟨?_, m1⟩, e1⟩
        rcases Int.lt_or_eq_of_le m0 with q | q
        · exact q
        · exfalso
          rw [← q, Int.mul_zero, Int.zero_emod] at e1
          omega
  have h1 := prodL_map (p := p) (a := a) (ones p)
  rw [prodL_perm perm, ones_len] at h1
  obtain ⟨w, hw⟩ := h.prod_inv (ones p) fun x hx => ones_mem.mp hx
  have h2 := (Cg.refl (p := p) w).mul h1
  have h3 : Cg p (w * (a ^ (p - 1).toNat * prodL (ones p))) (a ^ (p - 1).toNat) := by
    have := (Cg.refl (p := p) (a ^ (p - 1).toNat)).mul hw
    rw [Int.mul_one] at this
    refine (Cg.of_eq ?_).trans this
    rw [← Int.mul_assoc, Int.mul_comm w, Int.mul_assoc]
  exact h3.symm.trans (h2.symm.trans hw)
/-- the power that the check takes is the inverse -/
theorem Prm.turn {p a : Int} (h : Prm p) (a0 : 0 < a) (a1 : a < p) : Cg p (a ^ (p - 2).toNat * a) 1 := by
  have p2 := h.1
  have e : (p - 1).toNat = (p - 2).toNat + 1 := by omega
  have := h.fermat a0 a1
  rw [e, Int.pow_succ] at this
  exact this
end MM

namespace S4
open PySem L2 TT MM
theorem hu64 {k : Nat} {A : Around} (r : Room k A) : A.units + 64 < cLine := by have := r.un; omega

end S4

namespace S4
open PySem L2 TT MM
section
variable {P : Program} {w : World} {K : PySem.W.Frag} {mg : Str → Option Value} {base : Heap} {cT cS : Addr}
def spInverse : Sp := fun vs H Q _ => ∃ (p v : Int), vs = [.int p, .int v] ∧ p ≤ 1000000 ∧ 0 < v ∧ v < p ∧ Int.gcd p v = 1 ∧ ∀ u, 0 ≤ u → u < p → Cg p (u * v) 1 → ∀ H', Same H H' → Q (.int u) H'
theorem ok_inverse (T : Tx K mg cT cS) {f : Addr} {fd : FuncData} (d : D K mg "inverse" s_inverse ["p", "value"] f fd) : FnOk P w K mg base CX0 1 f fd ["p", "value"] spInverse := by
  refine d.F.ok sc_inverse (fun vs H Q E h => ?_) (fun cdv A outer s H vs Q E hr h => ?_)
  · obtain ⟨p, v, rfl, _⟩ := h
    rfl
  · obtain ⟨p, v, rfl, pm, v0, v1, hg, q⟩ := h
    refine ⟨_, pss_cons (ps_par (i := 2) (j := 3) (by rfl) sc_inverse.nd rfl rfl (by decide) rfl rfl (pa_cons (pv 0) (pa_cons (pv 1) pa_nil)) (by rfl))
      (pss_cons (ps_asg (pe_tup (pa_cons pe_int (pa_cons pe_int pa_nil))) (pg_tup rfl (pgs_cons (pg_name (i := 4) sc_inverse.nd rfl (.inl rfl)) (pgs_cons (pg_name (i := 5) sc_inverse.nd rfl (.inl rfl)) pgs_nil))))
      (pss_cons (ps_while PassesOwn.never (pt_cmpR op_ne (pv 3) pe_int (nomark _))
        (pss_cons (ps_set (i := 6) sc_inverse.nd rfl (.inl rfl) (pe_op op_fdivN (pv 2) (pv 3)))
        (pss_cons (ps_par (i := 2) (j := 3) (by rfl) sc_inverse.nd rfl rfl (by decide) rfl rfl (pa_cons (pv 3) (pa_cons (pe_op op_sub (pv 2) (pe_op op_mul (pv 6) (pv 3))) pa_nil)) (by rfl))
        (pss_one (ps_par (i := 4) (j := 5) (by rfl) sc_inverse.nd rfl rfl (by decide) rfl rfl (pa_cons (pv 5) (pa_cons (pe_op op_sub (pv 4) (pe_op op_mul (pv 6) (pv 5))) pa_nil)) (by rfl))))))
      (pss_one (ps_ret (pe_op op_mod (pv 5) (pv 0)))))), ?_⟩
    refine ⟨_, rfl, _, rfl, _, _, rfl, ?_⟩
    refine ⟨by show 2 ≤ sizeLine; decide, fun t nt => ⟨t, _, rfl, .of upd_same, rfl, _, _, rfl, _, _, rfl, rfl, ?_⟩⟩
    dsimp only [gName, tSeq]
    refine while_by (fun σ H' => ∃ a n b f x, σ = [some (.int p), some (.int v), some (.int a), some (.int n), some (.int b), some (.int f), x] ∧ Eu p v a n b f ∧ a ≤ p ∧ Same H H')
      (fun σ _ => match σ[3]? with | some (some (V.int n)) => n.toNat | _ => 0) ⟨p, v, 0, 1, none, rfl, Eu.start v0 v1 hg, Int.le_refl _, same_new nt⟩ ?_ ?_
    · rintro σ H1 ⟨a, n, b, f, x, rfl, EE, ap, ss⟩
      refine ⟨_, rfl, rfl, _, rfl, ?_⟩
      by_cases h1 : n = 1
      · subst h1
        rw [decide_eq_true rfl]
        have m := mod_b (a := f) (m := p) (by omega)
        refine iteF ⟨_, rfl, _, rfl, _, _, rfl, rfl, by omega, q _ m.1 m.2 (((Cg.mod f).mul (Cg.refl v)).trans EE.hn) _ ss⟩
      · rw [decide_eq_false (fun e => h1 (V.int.inj e))]
        obtain ⟨E2, hlt⟩ := EE.step h1
        have hn := EE.n0
        have hna := EE.na
        have t0 : 0 ≤ a / n := Int.ediv_nonneg (by omega) (by omega)
        have t1 : a / n ≤ a := Int.ediv_le_self _ (by omega)
        refine iteT ⟨_, rfl, _, rfl, _, _, rfl, rfl, ⟨by omega, by omega⟩, ?_⟩
        dsimp only [gName, tSeq]
        rw [Int.fdiv_eq_ediv_of_nonneg _ (by omega)]
        refine ⟨_, rfl, _, rfl, _, rfl, _, rfl, _, _, rfl, rfl, .inl ⟨by omega, by omega⟩, _, _, rfl, rfl, _, _, rfl, ?_⟩
        dsimp only [gName, tSeq]
        refine ⟨_, rfl, _, rfl, _, rfl, _, rfl, _, _, rfl, rfl, .inl ⟨by omega, by omega⟩, _, _, rfl, rfl, _, _, rfl, ?_⟩
        refine ⟨⟨_, _, _, _, _, rfl, E2, by omega, ss⟩, ?_⟩
        show (a - a / n * n).toNat < n.toNat
        omega
    · rintro σ H' Q1 Q2 i ⟨x, e1, h1, k, e2, h⟩
      exact ⟨x, e1, h1, k, e2, i _ _ h⟩
def spFirst : Sp := fun vs H Q _ => ∃ (v : V) (l : List Int) (wd : Nat), vs = [v, .int (wd : Int)] ∧ rRow H v l ∧ wd ≤ l.length ∧ wd ≤ 100000 ∧
  ((∀ x, x < wd → l.getD x 0 = 0) → Q .non H) ∧ (∀ k, k < wd → l.getD k 0 ≠ 0 → (∀ x, x < k → l.getD x 0 = 0) → Q (.int (k : Nat)) H)
theorem ok_first (T : Tx K mg cT cS) {f : Addr} {fd : FuncData} (d : D K mg "first_place" s_first_place ["row", "wide"] f fd) : FnOk P w K mg base CX0 1 f fd ["row", "wide"] spFirst := by
  refine d.F.ok sc_first_place (fun vs H Q E h => ?_) (fun cdv A outer s H vs Q E hr h => ?_)
  · obtain ⟨v, l, wd, rfl, _⟩ := h
    rfl
  · obtain ⟨v, l, wd, rfl, ⟨t, rfl, ht⟩, hw, hw2, q1, q2⟩ := h
    refine ⟨_, pss_cons (ps_for PassesOwn.never rfl (pi_range1 rfl T.b_range (pa_cons (pv 1) pa_nil)) (pg_name (i := 2) sc_first_place.nd rfl (Or.inl rfl))
        (pss_one (ps_if (pt_truth (pe_ix ix_tup (pv 0) (pv 2) (fun _ _ => rfl)) (by intro _; rfl)) (pss_one (ps_ret (pv 2))) pss_nil)))
      (pss_one (ps_ret pe_non)), ?_⟩
    refine ⟨_, rfl, _, rfl, by omega, by omega, ?_⟩
    refine for_it (walk_range (lo := 0) (n := ((wd : Nat) : Int).toNat)) (fun i σ H' => ∃ x, σ = [some (.ref t), some (.int (wd : Int)), x] ∧ H' = H ∧ ∀ x, x < i → l.getD x 0 = 0) ⟨none, rfl, rfl, fun x hx => absurd hx (Nat.not_lt_zero _)⟩ (fun i σ H' _ h => trivial) ?_ ?_
    · rintro i x σ H1 H2 hi ⟨y, rfl, rfl, hz⟩ ⟨rfl, rfl⟩
      rw [Int.toNat_natCast] at hi
      have hx : l[i]? = some l[i] := List.getElem?_eq_getElem (by omega)
      have eg : l.getD i 0 = l[i] := getD_at hx
      refine ⟨_, rfl, _, rfl, t, _, _, V.int l[i], rfl, rfl, .of ht, by rw [Int.zero_add]; exact atI_nat (int_at hx), ?_⟩
      refine ⟨_, rfl, ?_⟩
      by_cases h0 : l[i] = 0
      · rw [h0]
        refine iteF ⟨_, rfl, rfl, fun x hx => ?_⟩
        by_cases e : x = i
        · subst e; rw [eg]; exact h0
        · exact hz x (by omega)
      · have hb : (l[i] != 0) = true := by rw [bne_iff_ne]; exact h0
        rw [hb]
        refine iteT ⟨_, rfl, ?_⟩
        have := q2 i hi (by rw [eg]; exact h0) hz
        show Q (V.int (0 + (i : Int))) _
        rw [Int.zero_add]
        exact this
    · rintro σ H1 ⟨y, rfl, rfl, hz⟩
      rw [Int.toNat_natCast] at hz
      exact q1 hz
end
end S4

namespace S4
open PySem L2 TT MM
/-- a row less so many times another -/
def lessL (p : Int) (l r : List Int) (m : Int) : List Int := (List.range l.length).map fun (i : Nat) => (l.getD i 0 - m * r.getD i 0) % p
def mulL (p f : Int) (l : List Int) : List Int := l.map fun x => f * x % p
abbrev RG := List (Nat × List Int)
def clr1 (p : Int) (l : List Int) (z : Nat × List Int) : List Int := if l.getD z.1 0 = 0 then l else lessL p l z.2 (l.getD z.1 0)
def clr (p : Int) (rs : RG) (l : List Int) : List Int := rs.foldl (clr1 p) l
theorem lessL_len (p : Int) (l r : List Int) (m : Int) : (lessL p l r m).length = l.length := by unfold lessL; rw [List.length_map, List.length_range]
theorem clr1_len (p : Int) (l : List Int) (z : Nat × List Int) : (clr1 p l z).length = l.length := by
  unfold clr1
  split
  · rfl
  · exact lessL_len _ _ _ _
theorem clr_len (p : Int) (rs : RG) : ∀ l : List Int, (clr p rs l).length = l.length := by
  induction rs with
  | nil => intro l; rfl
  | cons z rs ih => intro l; show (clr p rs (clr1 p l z)).length = _; rw [ih, clr1_len]
def InB (p : Int) (l : List Int) : Prop := ∀ x ∈ l, 0 ≤ x ∧ x < p
theorem lessL_in {p : Int} (p0 : 0 < p) (l r : List Int) (m : Int) : InB p (lessL p l r m) := fun x hx => by
  obtain ⟨i, _, rfl⟩ := List.mem_map.mp hx
  exact mod_b p0
theorem clr1_in {p : Int} (p0 : 0 < p) {l : List Int} (h : InB p l) (z : Nat × List Int) : InB p (clr1 p l z) := by
  unfold clr1
  split
  · exact h
  · exact lessL_in p0 _ _ _
theorem clr_in {p : Int} (p0 : 0 < p) (rs : RG) : ∀ {l : List Int}, InB p l → InB p (clr p rs l) := by
  induction rs with
  | nil => intro l h; exact h
  | cons z rs ih => intro l h; exact ih (clr1_in p0 h z)
theorem getD_in {p : Int} (p0 : 0 < p) {l : List Int} (h : InB p l) (i : Nat) : 0 ≤ l.getD i 0 ∧ l.getD i 0 < p := by
  rw [List.getD_eq_getElem?_getD]
  cases e : l[i]? with
  | none => exact ⟨Int.le_refl _, p0⟩
  | some x => exact h x (List.mem_of_getElem? e)
/-- a dict of rows by places, in the heap -/
def kvR (H : Hp) : (L2.Key × V) → (Nat × List Int) → Prop := fun kv z => kv.1 = Sum.inl ((z.1 : Nat) : Int) ∧ rRow H kv.2 z.2
def rDict (H : Hp) (u : HO) (rs : RG) : Prop := ∃ kvs, u = .dK kvs ∧ Paired (kvR H) kvs rs
theorem kvR_mono {H H' : Hp} (k : ∀ t xs, H t = some (.tup xs) → H' t = some (.tup xs)) {kvs : List (L2.Key × V)} {rs : RG} (h : Paired (kvR H) kvs rs) : Paired (kvR H') kvs rs :=
  Paired.mapP h fun _ _ ⟨e, t, e2, h2⟩ => ⟨e, t, e2, k _ _ h2⟩
theorem val_at : ∀ {kvs : List (L2.Key × V)} {rs : RG} {H : Hp} {i : Nat} {k : L2.Key} {v : V}, Paired (kvR H) kvs rs → (rs.map (·.1)).Nodup → kvs[i]? = some (k, v) → valV kvs k = some v
  | _, _, _, i, k, v, .nil, _, h => by simp at h
  | _, _, _, 0, k, v, .cons r t, nd, h => by
    have h := Option.some.inj h
    subst h
    exact valV_pos rfl
  | (k0, v0) :: kvs, z :: rs, H, i + 1, k, v, .cons r t, nd, h => by
    obtain ⟨n1, n2⟩ := List.nodup_cons.mp nd
    have h' : kvs[i]? = some (k, v) := h
    have ih := val_at t n2 h'
    obtain ⟨y, hy, hr⟩ := paired_get t h'
    have hne : ¬ k0 = k := fun e => by
      have e1 := r.1
      have e2 := hr.1
      simp only at e1 e2
      rw [e, e2] at e1
      have e3 := Sum.inl.inj e1
      have e4 : y.1 = z.1 := by omega
      exact n1 (List.mem_map.mpr ⟨y, List.mem_of_getElem? hy, e4⟩)
    rw [valV_neg hne]
    exact ih
section
variable {P : Program} {w : World} {K : PySem.W.Frag} {mg : Str → Option Value} {base : Heap} {cT cS : Addr}
def spMult : Sp := fun vs H Q _ => ∃ (v : V) (l : List Int) (p f : Int), vs = [.int p, .int f, v] ∧ rRow H v l ∧ 0 < p ∧ (-(2 ^ 63) < f ∧ f < 2 ^ 63) ∧ l.length ≤ 1000 ∧ ∀ H' v', Same H H' → rRow H' v' (mulL p f l) → Q v' H'
theorem ok_mult (T : Tx K mg cT cS) {f : Addr} {fd : FuncData} (d : D K mg "multiplied" s_multiplied ["p", "factor", "row"] f fd) : FnOk P w K mg base CX0 1 f fd ["p", "factor", "row"] spMult := by
  refine d.F.ok sc_multiplied (fun vs H Q E h => ?_) (fun cdv A outer s H vs Q E hr h => ?_)
  · obtain ⟨v, l, p, f, rfl, _⟩ := h
    rfl
  · obtain ⟨v, l, p, f, rfl, ⟨t, rfl, ht⟩, p0, fb, hl, q⟩ := h
    refine ⟨_, pss_one (ps_ret (pe_callTy call_tuple_of (by rfl) T.b_tuple (by decide +kernel) (pa_cons
        (pe_lc (own := [("value", 3)]) (g := gName 3) (tt := tYes) rfl sc_multiplied.nd (pi_tup (pv 2)) (blkOk_by (N := N_multiplied) (sc := defScope s_multiplied) (by decide +kernel)) (fun _ _ _ _ _ => pg_name (i := 3) sc_multiplied.nd rfl (Or.inl rfl)) (fun _ _ _ _ _ => pts_nil)
          (fun _ _ _ _ _ => pe_op op_mod (pe_op op_mul (pv 1) (pv 3)) (pv 0))) pa_nil))), ?_⟩
    refine ⟨_, rfl, t, rfl, ⟨_, .of ht⟩, fun D hD => ?_⟩
    refine lc_fm (walk_tup (xs := l.map V.int)) rInt (fun i => l[i]?.bind fun x => some (f * x % p)) hD (fun H' s' => .of (s'.keep.tup ht)) ?_ ?_
    · rintro i x H2 H3 hi pv ⟨rfl, hx⟩
      obtain ⟨j, hj, rfl⟩ := at_int hx
      rw [List.length_map] at hi
      refine ⟨rfl, _, rfl, _, rfl, _, _, rfl, rfl, .inl ⟨by omega, by omega⟩, _, rfl, _, _, rfl, rfl, p0, ?_⟩
      exact fm_keep mono_int pv hD (by omega) (Same.refl _) (by rw [hj]; rfl) rfl
    · intro H2 ys s2 hD2 hp2
      rw [List.length_map, fm_some] at hp2
      have := paired_int hp2
      subst this
      exact ⟨D, _, rfl, .inl ⟨.of hD2, fun p np => q _ _ (s2.trans (same_new np)) ⟨p, rfl, upd_same⟩⟩⟩
def spCleared : Sp := fun vs H Q _ => ∃ (d : Addr) (u : HO) (v : V) (l : List Int) (rs : RG) (p : Int), vs = [.int p, .ref d, v] ∧ H d = some u ∧ rDict H u rs ∧ (rs.map (·.1)).Nodup ∧ rRow H v l ∧ 0 < p ∧ p ≤ 1000000 ∧ InB p l ∧ l.length ≤ 1000 ∧ rs.length ≤ 1000 ∧ (∀ z ∈ rs, z.1 < l.length ∧ z.2.length = l.length) ∧
  ∀ H' v', Same H H' → rRow H' v' (clr p rs l) → Q v' H'
theorem ok_cleared (T : Tx K mg cT cS) {f : Addr} {fd : FuncData} (d : D K mg "cleared" s_cleared ["p", "rungs", "row"] f fd) : FnOk P w K mg base CX0 1 f fd ["p", "rungs", "row"] spCleared := by
  refine d.F.ok sc_cleared (fun vs H Q E h => ?_) (fun cdv A outer s H vs Q E hr h => ?_)
  · obtain ⟨d, u, v, l, rs, p, rfl, _⟩ := h
    rfl
  · obtain ⟨dd, u, v, l, rs, p, rfl, hd, ⟨kvs, rfl, hk⟩, nd, hrow, p0, pm, hin, hl, hrs, hz, q⟩ := h
    refine ⟨_, pss_cons (ps_lock (ps_for PassesOwn.never rfl (pi_keys (pv 1)) (pg_name (i := 3) sc_cleared.nd rfl (Or.inl rfl))
        (pss_cons (ps_set (i := 4) sc_cleared.nd rfl (.inr rfl) (pe_ix ix_tup (pv 2) (pv 3) (fun _ _ => rfl)))
          (pss_one (ps_if (pt_truth (pv 4) (by intro _; rfl))
            (pss_one (ps_set (i := 2) sc_cleared.nd rfl (.inl rfl) (pe_callTy call_tuple_of (by rfl) T.b_tuple (by decide +kernel) (pa_cons
              (pe_lc (own := [("value", 5), ("less", 6)]) (g := gTup K 2 (gCons (gName 5) (gCons (gName 6) gNil))) (tt := tYes) rfl sc_cleared.nd (RZ.pi_zipA (by rfl) T.b_zip (pa_cons (pv 2) (pa_cons (pe_dget (hu_of hr) (pv 1) (pv 3) (fun _ _ => rfl)) pa_nil))) (blkOk_by (N := N_cleared) (sc := defScope s_cleared) (by decide +kernel))
                (fun _ _ _ _ _ => pgT rfl rfl (pgs_cons (pg_name (i := 5) sc_cleared.nd rfl (Or.inl rfl)) (pgs_cons (pg_name (i := 6) sc_cleared.nd rfl (Or.inl rfl)) pgs_nil))) (fun _ _ _ _ _ => pts_nil)
                (fun _ _ _ _ _ => pe_op op_mod (pe_op op_sub (pv 5) (pe_op op_mul (pv 4) (pv 6))) (pv 0))) pa_nil)))) pss_nil)))))
      (pss_one (ps_ret (pv 2))), ?_⟩
    refine ⟨dd, .dK kvs, hd, trivial, fun od => ?_⟩
    have k0 : ∀ t xs, H t = some (.tup xs) → (upd H dd (.frz od (.dK kvs))) t = some (.tup xs) := fun t xs h => by rw [upd_ne (ne_of h hd (fun z => nomatch z))]; exact h
    have hk0 := kvR_mono k0 hk
    have hlen := paired_len hk
    refine ⟨_, rfl, dd, od, rfl, .inl ⟨kvs, upd_same, ?_⟩⟩
    refine for_it (walk_keys (kvs := kvs)) (fun i σ H' => Same (upd H dd (.frz od (.dK kvs))) H' ∧ ∃ v' x y, σ = [some (.int p), some (.ref dd), some v', x, y, none, none] ∧ rRow H' v' (clr p (rs.take i) l))
      ⟨.refl _, v, none, none, rfl, let ⟨t, e, h⟩ := hrow; ⟨t, e, k0 _ _ h⟩⟩ (fun i σ H' _ h => h.1 _ _ upd_same) ?_ ?_
    · rintro i x σ H2 H3 hi ⟨s2, v', x3, y3, rfl, ⟨t', rfl, ht'⟩⟩ ⟨rfl, k, vv, hkv, rfl⟩
      obtain ⟨z, hz1, e1, hr1⟩ := paired_get (kvR_mono (fun t xs h => s2 _ _ h) hk0) hkv
      simp only at e1 hr1
      subst e1
      obtain ⟨zl, zr⟩ := hz z (List.mem_of_getElem? hz1)
      generalize hcur : clr p (rs.take i) l = cur at ht'
      have hcl : cur.length = l.length := by rw [← hcur, clr_len]
      have hci : InB p cur := by rw [← hcur]; exact clr_in p0 _ hin
      have hstep : clr p (rs.take (i + 1)) l = clr1 p cur z := by
        rw [← hcur, List.take_succ, hz1]
        unfold clr
        rw [List.foldl_append]
        rfl
      have hx : cur[z.1]? = some (cur[z.1]'(by omega)) := List.getElem?_eq_getElem (by omega)
      have hg : cur.getD z.1 0 = cur[z.1]'(by omega) := getD_at hx
      have hb := getD_in p0 hci z.1
      rw [hg] at hb
      refine ⟨_, rfl, _, rfl, t', _, _, _, rfl, rfl, .of ht', atI_nat (int_at hx), ?_⟩
      dsimp only [gName, tSeq]
      refine ⟨_, rfl, _, rfl, ?_⟩
      by_cases h0 : cur[z.1]'(by omega) = 0
      · rw [h0]
        refine iteF ⟨s2, _, _, _, rfl, t', rfl, ?_⟩
        rw [hstep]
        unfold clr1
        rw [if_pos (by rw [hg]; exact h0)]
        exact ht'
      · have hbn : (cur[z.1]'(by omega) != 0) = true := by rw [bne_iff_ne]; exact h0
        rw [hbn]
        obtain ⟨t2, rfl, ht2⟩ := hr1
        have hfr : H3 dd = some (.frz od (.dK kvs)) := s2 _ _ upd_same
        have hval := val_at hk nd hkv
        refine iteT ⟨_, rfl, _, rfl, _, rfl, dd, _, rfl, .inl ⟨kvs, _, .inr ⟨od, hfr⟩, rfl, hval.symm⟩, t', t2, _, _, rfl, .inr ⟨.of ht', .of ht2, fun D hD => ?_⟩⟩
        refine lc_fm (walk_zipT (n := cur.length) (by rw [List.length_map, List.length_map, zr, hcl]; omega)) rInt (fun i => some ((cur.getD i 0 - cur.getD z.1 0 * z.2.getD i 0) % p)) hD (fun H' s' => ⟨.of (s'.keep.tup ht'), .of (s'.keep.tup ht2)⟩) ?_ ?_
        · rintro j x H4 H5 hj pv ⟨tz, u1, u2, rfl, nz, rfl, e1, e2⟩
          obtain ⟨c1, hc1, rfl⟩ := at_int e1
          obtain ⟨c2, hc2, rfl⟩ := at_int e2
          refine ⟨tz, _, rfl, .of upd_same, rfl, _, _, rfl, _, _, rfl, rfl, rfl, ?_⟩
          refine ⟨_, rfl, _, rfl, _, rfl, _, _, rfl, rfl, .inl ⟨by omega, by omega⟩, _, _, rfl, rfl, _, rfl, _, _, rfl, rfl, p0, ?_⟩
          exact fm_keep mono_int pv hD (by omega) (same_new nz) rfl (by rw [getD_at hc1, getD_at hc2, hg]; rfl)
        · intro H4 ys s4 hD4 hp4
          rw [fm_all] at hp4
          have := paired_int hp4
          subst this
          refine ⟨D, _, rfl, .inl ⟨.of hD4, fun nt nnt => ?_⟩⟩
          refine ⟨s2.trans (s4.trans (same_new nnt)), _, _, _, rfl, nt, rfl, ?_⟩
          rw [hstep]
          unfold clr1
          rw [if_neg (by rw [hg]; exact h0)]
          exact upd_same
    · rintro σ H2 ⟨s2, v', x3, y3, rfl, ⟨t', rfl, ht'⟩⟩
      have hfr : H2 dd = some (.frz od (.dK kvs)) := s2 _ _ upd_same
      rw [hlen, List.take_length] at ht'
      refine ⟨hfr, _, rfl, q _ _ (fun b o e => ?_) ⟨t', rfl, by rw [upd_ne (ne_of ht' hfr (fun z => nomatch z))]; exact ht'⟩⟩
      by_cases hb : b = dd
      · subst hb
        rw [hd] at e
        cases e
        exact upd_same
      · rw [upd_ne hb]
        exact s2 _ _ (by rw [upd_ne hb]; exact e)
end
end S4

namespace S4
open PySem L2 TT MM
/-! ### rows as they are reasoned of -/
def vec (l : List Int) : Vc := fun x => l.getD x 0
def rowOf (rs : RG) (i : Nat) : List Int := ((rs.find? fun z => z.1 == i).map (·.2)).getD []
def rv (rs : RG) : Nat → Vc := fun i => vec (rowOf rs i)
theorem rowOf_mem : ∀ {rs : RG} {z : Nat × List Int}, (rs.map (·.1)).Nodup → z ∈ rs → rowOf rs z.1 = z.2
  | [], _, _, h => by cases h
  | y :: rs, z, nd, h => by
    obtain ⟨n1, n2⟩ := List.nodup_cons.mp nd
    unfold rowOf
    rw [List.find?_cons]
    by_cases e : y.1 = z.1
    · have hb : (y.1 == z.1) = true := beq_iff_eq.mpr e
      rw [hb]
      rcases List.mem_cons.mp h with q | q
      · rw [q]; rfl
      · exact absurd (List.mem_map.mpr ⟨z, q, e.symm⟩) n1
    · have hb : (y.1 == z.1) = false := beq_eq_false_iff_ne.mpr e
      rw [hb]
      rcases List.mem_cons.mp h with q | q
      · exact absurd (by rw [q]) e
      · exact rowOf_mem n2 q
theorem vec_over {l : List Int} {x : Nat} (h : l.length ≤ x) : vec l x = 0 := by
  unfold vec
  rw [List.getD_eq_getElem?_getD, List.getElem?_eq_none h]
  rfl
theorem vec_map {f : Nat → Int} {n x : Nat} (h : x < n) : vec ((List.range n).map f) x = f x := by
  unfold vec
  have : ((List.range n).map f)[x]? = some (f x) := by rw [List.getElem?_map, List.getElem?_range h]; rfl
  exact getD_at this
theorem lessL_vec {p : Int} {l r : List Int} (h : r.length = l.length) (m : Int) (x : Nat) : Cg p (vec (lessL p l r m) x) (vec l x - m * vec r x) := by
  by_cases hx : x < l.length
  · unfold lessL
    rw [vec_map hx]
    exact Cg.mod _
  · rw [vec_over (by rw [lessL_len]; omega), vec_over (by omega), vec_over (by omega), Int.mul_zero, Int.sub_zero]
    exact .refl _
theorem mulL_vec {p f : Int} {l : List Int} (x : Nat) : Cg p (vec (mulL p f l) x) (f * vec l x) := by
  by_cases hx : x < l.length
  · have h1 : l[x]? = some l[x] := List.getElem?_eq_getElem hx
    have h2 : (mulL p f l)[x]? = some (f * l[x] % p) := by unfold mulL; rw [List.getElem?_map, h1]; rfl
    unfold vec
    rw [getD_at h2, getD_at h1]
    exact Cg.mod _
  · rw [vec_over (by unfold mulL; rw [List.length_map]; omega), vec_over (by omega), Int.mul_zero]
    exact .refl _
theorem clr1_vec {p : Int} {l : List Int} {z : Nat × List Int} (h : z.2.length = l.length) (x : Nat) : Cg p (vec (clr1 p l z) x) (vec l x - vec l z.1 * vec z.2 x) := by
  unfold clr1
  split
  · rename_i h0
    have e : vec l z.1 = 0 := h0
    rw [e, Int.zero_mul, Int.sub_zero]
    exact .refl _
  · exact lessL_vec h _ x
section
variable {p : Int} {P : List Nat} {r : Nat → Vc}
/-- what clearing by some of the ladder's rows does -/
theorem clr_lad (L : Lad p P r) : ∀ (rs : RG) (l : List Int), (rs.map (·.1)).Nodup → (∀ z ∈ rs, z.1 ∈ P ∧ z.2.length = l.length ∧ ∀ x, r z.1 x = vec z.2 x) →
    Spn p (rungs P r) (fun x => vec l x - vec (clr p rs l) x) ∧ (∀ i ∈ P, i ∉ rs.map (·.1) → Cg p (vec (clr p rs l) i) (vec l i)) ∧ (∀ i ∈ rs.map (·.1), Cg p (vec (clr p rs l) i) 0)
  | [], l, _, _ => ⟨.zero fun x => .of_eq (by show vec l x - vec l x = 0; omega), fun i _ _ => .refl _, fun i h => by simp at h⟩
  | z :: rs, l, nd, hz => by
    obtain ⟨n1, n2⟩ := List.nodup_cons.mp nd
    obtain ⟨zP, zl, zr⟩ := hz z (by simp)
    have hs : ∀ x, Cg p (vec (clr1 p l z) x) (vec l x - vec l z.1 * r z.1 x) := fun x => by rw [zr]; exact clr1_vec zl x
    obtain ⟨a, b, c⟩ := clr_lad L rs (clr1 p l z) n2 fun y hy => by
      obtain ⟨y1, y2, y3⟩ := hz y (by simp [hy])
      exact ⟨y1, by rw [clr1_len]; exact y2, y3⟩
    have e : clr p (z :: rs) l = clr p rs (clr1 p l z) := rfl
    rw [e]
    have own : Cg p (vec (clr1 p l z) z.1) 0 := by
      have := (Cg.refl (p := p) (vec l z.1)).sub ((Cg.refl (p := p) (vec l z.1)).mul (L.one z.1 zP))
      rw [Int.mul_one, Int.sub_self] at this
      exact (hs z.1).trans this
    have oth : ∀ i ∈ P, i ≠ z.1 → Cg p (vec (clr1 p l z) i) (vec l i) := fun i hi hne => by
      have := (Cg.refl (p := p) (vec l i)).sub ((Cg.refl (p := p) (vec l z.1)).mul (L.off z.1 zP i hi hne))
      rw [Int.mul_zero, Int.sub_zero] at this
      exact (hs i).trans this
    refine ⟨.plus (vec l z.1) a (.row ⟨z.1, zP, rfl⟩) fun x => ?_, fun i hi hn => ?_, fun i hi => ?_⟩
    · have := (Cg.refl (p := p) (vec l x - vec (clr p rs (clr1 p l z)) x)).sub ((hs x).sub (Cg.refl (p := p) (vec l x - vec l z.1 * r z.1 x)))
      have h2 := hs x
      have h3 : Cg p (vec l x - vec (clr p rs (clr1 p l z)) x) (vec (clr1 p l z) x + vec l z.1 * r z.1 x - vec (clr p rs (clr1 p l z)) x) := by
        have h4 := (h2.symm.add (Cg.refl (p := p) (vec l z.1 * r z.1 x))).sub (Cg.refl (p := p) (vec (clr p rs (clr1 p l z)) x))
        refine (Cg.of_eq ?_).trans h4
        omega
      refine h3.trans (.of_eq ?_)
      omega
    · have hne : i ≠ z.1 := fun q => hn (by rw [q]; simp)
      have hn' : i ∉ rs.map (·.1) := fun q => hn (by simp only [List.map_cons, List.mem_cons]; exact .inr q)
      exact (b i hi hn').trans (oth i hi hne)
    · rcases List.mem_cons.mp (by simpa only [List.map_cons] using hi) with q | q
      · rw [q]
        exact (b z.1 zP n1).trans own
      · exact c i q
end
/-- the state of the going: right rows, a ladder, the room of the rows so far -/
structure St1 (p : Int) (wd : Nat) (rs : RG) (rows : List (List Int)) : Prop where
  lad : Lad p (rs.map (·.1)) (rv rs)
  ok : ∀ z ∈ rs, z.1 < wd ∧ z.2.length = wd ∧ InB p z.2
  room : Same2 p (rungs (rs.map (·.1)) (rv rs)) (fun v => ∃ l ∈ rows, v = vec l)
theorem St1.nil (p : Int) (wd : Nat) : St1 p wd [] [] := ⟨Lad.nil p _, fun z h => (nomatch h), same2_of (fun v h => by obtain ⟨i, hi, _⟩ := h; cases hi) (fun v h => by obtain ⟨i, hi, _⟩ := h; cases hi)⟩
theorem St1.len {p : Int} {wd : Nat} {rs : RG} {rows : List (List Int)} (S : St1 p wd rs rows) : rs.length ≤ wd := by
  have h : ∀ (P : List Nat) (n : Nat), P.Nodup → (∀ i ∈ P, i < n) → P.length ≤ n := fun P n nd hb => by
    have := nodup_len (l := P.map fun (i : Nat) => (i : Int)) (V := (List.range n).map fun (i : Nat) => (i : Int)) (by
      rw [List.nodup_iff_pairwise_ne, List.pairwise_map]
      exact (List.nodup_iff_pairwise_ne.mp nd).imp fun {a b} h e => h (by omega)) (fun v hv => by
      obtain ⟨i, hi, rfl⟩ := List.mem_map.mp hv
      exact List.mem_map.mpr ⟨i, List.mem_range.mpr (hb i hi), rfl⟩)
    rw [List.length_map, List.length_map, List.length_range] at this
    exact this
  have := h (rs.map (·.1)) wd S.lad.nd fun i hi => by
    obtain ⟨z, hz, rfl⟩ := List.mem_map.mp hi
    exact (S.ok z hz).1
  rw [List.length_map] at this
  exact this
section
variable {p : Int} {wd : Nat} {rs : RG} {rows : List (List Int)} {row : List Int}
theorem St1.clear (S : St1 p wd rs rows) (hl : row.length = wd) : Spn p (rungs (rs.map (·.1)) (rv rs)) (fun x => vec row x - vec (clr p rs row) x) ∧ ∀ i ∈ rs.map (·.1), Cg p (vec (clr p rs row) i) 0 := by
  obtain ⟨a, _, c⟩ := clr_lad S.lad rs row S.lad.nd fun z hz => ⟨List.mem_map.mpr ⟨z, hz, rfl⟩, by rw [(S.ok z hz).2.1, hl], fun x => by unfold rv; rw [rowOf_mem S.lad.nd hz]⟩
  exact ⟨a, c⟩
/-- a row that is in the room -/
theorem St1.skip (S : St1 p wd rs rows) (hl : row.length = wd) (hz : ∀ x, x < wd → (clr p rs row).getD x 0 = 0) : St1 p wd rs (rows ++ [row]) := by
  obtain ⟨a, _⟩ := S.clear hl
  refine ⟨S.lad, S.ok, ?_⟩
  have hin : Spn p (fun v => ∃ l ∈ rows, v = vec l) (vec row) := by
    refine (S.room _).mp (a.cg fun x => ?_)
    have e : vec (clr p rs row) x = 0 := by
      by_cases hx : x < wd
      · exact hz x hx
      · exact vec_over (by rw [clr_len]; omega)
    rw [e, Int.sub_zero]
    exact .refl _
  refine (same2_in S.room hin).trans (same2_of (fun v h => ?_) (fun v h => ?_))
  · rcases h with ⟨l, h1, rfl⟩ | rfl
    · exact .row ⟨l, by simp [h1], rfl⟩
    · exact .row ⟨row, by simp, rfl⟩
  · obtain ⟨l, h1, rfl⟩ := h
    rcases List.mem_append.mp h1 with h1 | h1
    · exact .row (.inl ⟨l, h1, rfl⟩)
    · rw [List.mem_singleton.mp h1]
      exact .row (.inr rfl)
/-- a row that is not -/
def putIn (p : Int) (rs : RG) (k : Nat) (g : List Int) : RG := rs.map (fun z => (z.1, clr p [(k, g)] z.2)) ++ [(k, g)]
theorem putIn_keys (p : Int) (rs : RG) (k : Nat) (g : List Int) : (putIn p rs k g).map (·.1) = rs.map (·.1) ++ [k] := by
  unfold putIn
  rw [List.map_append, List.map_map]
  rfl
theorem St1.put (S : St1 p wd rs rows) (p2 : 2 ≤ p) (hl : row.length = wd) (hin : InB p row) {k : Nat} {u : Int} (hk : k < wd) (h0 : (clr p rs row).getD k 0 ≠ 0) (hz : ∀ x, x < k → (clr p rs row).getD x 0 = 0)
    (hu : Cg p (u * (clr p rs row).getD k 0) 1) : St1 p wd (putIn p rs k (mulL p u (clr p rs row))) (rows ++ [row]) := by
  obtain ⟨a, c⟩ := S.clear hl
  generalize hr : clr p rs row = rest at *
  have hrl : rest.length = wd := by rw [← hr, clr_len]; exact hl
  have hri : InB p rest := by rw [← hr]; exact clr_in (by omega) rs hin
  have hgl : (mulL p u rest).length = wd := by unfold mulL; rw [List.length_map]; exact hrl
  have hgi : InB p (mulL p u rest) := fun x hx => by
    obtain ⟨y, _, rfl⟩ := List.mem_map.mp hx
    exact mod_b (by omega)
  have kP : k ∉ rs.map (·.1) := fun q => by
    have := c k q
    have b := getD_in (by omega) hri k
    exact h0 (this.zero_of b.1 b.2)
  have g1 : Cg p (vec (mulL p u rest) k) 1 := (mulL_vec k).trans hu
  have g0 : ∀ i ∈ rs.map (·.1), Cg p (vec (mulL p u rest) i) 0 := fun i hi => by
    have := (Cg.refl (p := p) u).mul (c i hi)
    rw [Int.mul_zero] at this
    exact (mulL_vec i).trans this
  have gl : ∀ x, x < k → Cg p (vec (mulL p u rest) x) 0 := fun x hx => by
    have := (Cg.refl (p := p) u).mul (Cg.of_eq (p := p) (hz x hx))
    rw [Int.mul_zero] at this
    exact (mulL_vec x).trans this
  have nd : ((putIn p rs k (mulL p u rest)).map (·.1)).Nodup := by
    rw [putIn_keys, List.nodup_append]
    exact ⟨S.lad.nd, by simp, fun a ha b hb e => kP (by rw [← List.mem_singleton.mp hb, ← e]; exact ha)⟩
  have hq : ∀ x, Cg p (rv (putIn p rs k (mulL p u rest)) k x) (vec (mulL p u rest) x) := fun x => by
    unfold rv
    rw [rowOf_mem (z := (k, mulL p u rest)) nd (by unfold putIn; simp)]
    exact .refl _
  have ho : ∀ i ∈ rs.map (·.1), ∀ x, Cg p (rv (putIn p rs k (mulL p u rest)) i x) (rv rs i x - rv rs i k * vec (mulL p u rest) x) := fun i hi x => by
    obtain ⟨z, hz1, rfl⟩ := List.mem_map.mp hi
    unfold rv
    rw [rowOf_mem (z := (z.1, clr p [(k, mulL p u rest)] z.2)) nd (by unfold putIn; exact List.mem_append_left _ (List.mem_map.mpr ⟨z, hz1, rfl⟩)), rowOf_mem S.lad.nd hz1]
    exact clr1_vec (z := (k, mulL p u rest)) (by rw [(S.ok z hz1).2.1]; exact hgl) x
  refine ⟨?_, fun z hz2 => ?_, ?_⟩
  · rw [putIn_keys]
    exact S.lad.more kP g1 g0 gl hq ho
  · rcases List.mem_append.mp hz2 with h | h
    · obtain ⟨y, hy, rfl⟩ := List.mem_map.mp h
      obtain ⟨b1, b2, b3⟩ := S.ok y hy
      exact ⟨b1, by show (clr p _ y.2).length = wd; rw [clr_len]; exact b2, clr_in (by omega) _ b3⟩
    · rw [List.mem_singleton.mp h]
      exact ⟨hk, hgl, hgi⟩
  · rw [putIn_keys]
    refine (S.lad.moreSpan hq ho).trans ?_
    have m := same2_more (g := vec (mulL p u rest)) (row := vec row) (rest := vec rest) (c := u) (d := rest.getD k 0) S.room ((S.room _).mp a) (fun x => mulL_vec x) fun x => ?_
    · refine m.trans (same2_of (fun v h => ?_) (fun v h => ?_))
      · rcases h with ⟨l, h1, rfl⟩ | rfl
        · exact .row ⟨l, by simp [h1], rfl⟩
        · exact .row ⟨row, by simp, rfl⟩
      · obtain ⟨l, h1, rfl⟩ := h
        rcases List.mem_append.mp h1 with h1 | h1
        · exact .row (.inl ⟨l, h1, rfl⟩)
        · rw [List.mem_singleton.mp h1]
          exact .row (.inr rfl)
    · have h1 := (Cg.refl (p := p) (rest.getD k 0)).mul (mulL_vec (p := p) (f := u) (l := rest) x)
      have h2 := hu.mul (Cg.refl (p := p) (vec rest x))
      rw [Int.one_mul] at h2
      refine (h1.trans ((Cg.of_eq ?_).trans h2)).symm
      rw [← Int.mul_assoc, Int.mul_comm (rest.getD k 0) u]
end
/-- the ladders of two lots of rows that span the same are the same -/
theorem St1.only {p : Int} {wd : Nat} {rs rs' : RG} {rows rows' : List (List Int)} (S : St1 p wd rs rows) (S' : St1 p wd rs' rows') (p2 : 2 ≤ p) (h : Same2 p (fun v => ∃ l ∈ rows, v = vec l) (fun v => ∃ l ∈ rows', v = vec l)) :
    (∀ i, i ∈ rs.map (·.1) ↔ i ∈ rs'.map (·.1)) ∧ ∀ z ∈ rs, z ∈ rs' := by
  have hs := (S.room.trans h).trans S'.room.symm
  have pl : ∀ i, i ∈ rs.map (·.1) ↔ i ∈ rs'.map (·.1) := fun i => ⟨S.lad.places S'.lad p2 hs, S'.lad.places S.lad p2 hs.symm⟩
  refine ⟨pl, fun z hz => ?_⟩
  have hi : z.1 ∈ rs.map (·.1) := List.mem_map.mpr ⟨z, hz, rfl⟩
  obtain ⟨y, hy, e⟩ := List.mem_map.mp ((pl z.1).mp hi)
  obtain ⟨a1, a2, a3⟩ := S.ok z hz
  obtain ⟨b1, b2, b3⟩ := S'.ok y hy
  have e2 : z.2 = y.2 := by
    apply List.ext_getElem (by rw [a2, b2])
    intro x h1 h2
    have := S.lad.rows S'.lad p2 hs hi x
    unfold rv at this
    have e0 : rowOf rs' z.1 = y.2 := by rw [← e]; exact rowOf_mem S'.lad.nd hy
    rw [rowOf_mem S.lad.nd hz, e0] at this
    have c1 := getD_in (by omega) a3 x
    have c2 := getD_in (by omega) b3 x
    have := this.eq c1.1 c1.2 c2.1 c2.2
    unfold vec at this
    rw [getD_at (List.getElem?_eq_getElem h1), getD_at (List.getElem?_eq_getElem h2)] at this
    exact this
  have : z = y := Prod.ext e.symm e2
  rw [this]
  exact hy
end S4

namespace S4
open PySem L2 TT MM
/-! ### either a list or a tuple -/
theorem pi_or {X : Cx} {tg e : Expr} {w1 w2 : TI} (h1 : PI X tg e w1) (h2 : PI X tg e w2) : PI X tg e (fun σ H R => w1 σ H R ∨ w2 σ H R) := ⟨fun pins s σ H R I h => h.elim (h1.run pins s σ H R I) (h2.run pins s σ H R I)⟩
/-- the items of a list or a tuple -/
def SqS (K : PySem.W.Frag) (H : Hp) (a : Addr) (xs : List V) : Prop := H a = some (.lst xs) ∨ H a = some (.tup xs)
theorem SqS.same {K : PySem.W.Frag} {H H' : Hp} {a : Addr} {xs : List V} (h : SqS K H a xs) (s : Same H H') : SqS K H' a xs := h.elim (fun h => .inl (s _ _ h)) (fun h => .inr (s _ _ h))
theorem val_none : ∀ {kvs : List (L2.Key × V)} {rs : RG} {H : Hp} {k : Nat}, Paired (kvR H) kvs rs → k ∉ rs.map (·.1) → valV kvs (Sum.inl ((k : Nat) : Int)) = none
  | _, _, _, _, .nil, _ => rfl
  | (k0, v0) :: kvs, z :: rs, H, k, .cons r t, hn => by
    have hne : ¬ k0 = Sum.inl ((k : Nat) : Int) := fun e => by
      have e1 := r.1
      simp only at e1
      rw [e] at e1
      have e2 := Sum.inl.inj e1
      have e3 : k = z.1 := by omega
      exact hn (by rw [e3]; simp)
    rw [valV_neg hne]
    exact val_none t fun q => hn (by simp only [List.map_cons, List.mem_cons]; exact .inr q)
theorem put_map {kvs : List (L2.Key × V)} {rs : RG} {H : Hp} {k : Nat} {v : V} {g : List Int} (h : Paired (kvR H) kvs rs) (hv : rRow H v g) (hk : k ∈ rs.map (·.1)) :
    Paired (kvR H) (putK kvs (Sum.inl ((k : Nat) : Int)) v) (rs.map fun z => if z.1 = k then (z.1, g) else z) := by
  have hm : ∀ {kvs : List (L2.Key × V)} {rs : RG}, Paired (kvR H) kvs rs → Paired (kvR H) (kvs.map fun kv => if kv.1 = Sum.inl ((k : Nat) : Int) then (kv.1, v) else kv) (rs.map fun z => if z.1 = k then (z.1, g) else z) := by
    intro kvs rs h
    induction h with
    | nil => exact .nil
    | @cons kv z kvs rs r t ih =>
      rw [List.map_cons, List.map_cons]
      refine .cons ?_ ih
      have e1 := r.1
      by_cases e : z.1 = k
      · rw [if_pos e, if_pos (by rw [e1, e])]
        exact ⟨e1, hv⟩
      · rw [if_neg e, if_neg (fun q => e (by rw [e1] at q; have := Sum.inl.inj q; omega))]
        exact r
  unfold putK
  rw [if_pos ?_]
  · exact hm h
  · obtain ⟨z, hz, e⟩ := List.mem_map.mp hk
    obtain ⟨i, hi⟩ := List.getElem?_of_mem hz
    obtain ⟨kv, hkv, r⟩ := paired_get2 h hi
    rw [List.any_eq_true]
    refine ⟨kv, List.mem_of_getElem? hkv, decide_eq_true ?_⟩
    rw [r.1, e]
/-- those of the first have been cleared -/
def part (p : Int) (k : Nat) (g : List Int) (D : List Nat) (rs : RG) : RG := rs.map fun z => if z.1 ∈ D then (z.1, clr p [(k, g)] z.2) else z
theorem part_keys (p : Int) (k : Nat) (g : List Int) (D : List Nat) (rs : RG) : (part p k g D rs).map (·.1) = rs.map (·.1) := by
  unfold part
  rw [List.map_map]
  refine List.map_congr_left fun z _ => ?_
  show (if z.1 ∈ D then (z.1, clr p [(k, g)] z.2) else z).1 = z.1
  split <;> rfl
theorem part_nil (p : Int) (k : Nat) (g : List Int) (rs : RG) : part p k g [] rs = rs := by
  unfold part
  have : (fun z : Nat × List Int => if z.1 ∈ ([] : List Nat) then (z.1, clr p [(k, g)] z.2) else z) = id := by
    funext z
    rw [if_neg (by simp)]
    rfl
  rw [this, List.map_id]
theorem part_all (p : Int) (k : Nat) (g : List Int) (rs : RG) : part p k g (rs.map (·.1)) rs ++ [(k, g)] = putIn p rs k g := by
  unfold part putIn
  congr 1
  refine List.map_congr_left fun z hz => ?_
  rw [if_pos (List.mem_map.mpr ⟨z, hz, rfl⟩)]
theorem part_step {p : Int} {k : Nat} {g : List Int} {D : List Nat} {rs : RG} (nd : (rs.map (·.1)).Nodup) {z : Nat × List Int} (hz : z ∈ rs) :
    (part p k g D rs).map (fun y => if y.1 = z.1 then (y.1, clr p [(k, g)] z.2) else y) = part p k g (D ++ [z.1]) rs := by
  unfold part
  rw [List.map_map]
  refine List.map_congr_left fun y hy => ?_
  have same : y.1 = z.1 → y.2 = z.2 := fun e => by
    have h1 := rowOf_mem nd hy
    have h2 := rowOf_mem nd hz
    rw [e] at h1
    rw [← h1, ← h2]
  have pe : (if y.1 ∈ D then (y.1, clr p [(k, g)] y.2) else y).1 = y.1 := by split <;> rfl
  show (if (if y.1 ∈ D then (y.1, clr p [(k, g)] y.2) else y).1 = z.1 then ((if y.1 ∈ D then (y.1, clr p [(k, g)] y.2) else y).1, clr p [(k, g)] z.2) else (if y.1 ∈ D then (y.1, clr p [(k, g)] y.2) else y)) = _
  rw [pe]
  by_cases e : y.1 = z.1
  · rw [if_pos e, if_pos (by rw [e]; simp), same e]
  · rw [if_neg e]
    by_cases hD : y.1 ∈ D
    · rw [if_pos hD, if_pos (List.mem_append_left _ hD)]
    · rw [if_neg hD, if_neg (fun q => (List.mem_append.mp q).elim hD fun q => e (List.mem_singleton.mp q))]
structure RGS (H0 : Hp) (dr nw : Addr) (rs : RG) (i : Nat) (H : Hp) : Prop where
  same : Same H0 H
  d0 : H0 dr = none
  n0 : H0 nw = none
  ne : dr ≠ nw
  dict : ∃ kvs, H dr = some (.dK kvs) ∧ Paired (kvR H) kvs rs
  news : ∃ ns : List Int, H nw = some (.lst (ns.map V.int)) ∧ ns.length ≤ i
theorem RGS.more {H0 : Hp} {dr nw : Addr} {rs : RG} {i : Nat} {H H' : Hp} (R : RGS H0 dr nw rs i H) (s : Same H H') : RGS H0 dr nw rs i H' :=
  ⟨R.same.trans s, R.d0, R.n0, R.ne, let ⟨kvs, a, b⟩ := R.dict; ⟨kvs, s _ _ a, kvR_mono (fun _ _ h => s _ _ h) b⟩, let ⟨ns, a, b⟩ := R.news; ⟨ns, s _ _ a, b⟩⟩
theorem RGS.setD {H0 : Hp} {dr nw : Addr} {rs rs' : RG} {i : Nat} {H : Hp} (R : RGS H0 dr nw rs i H) {kvs : List (L2.Key × V)} (h : Paired (kvR H) kvs rs') : RGS H0 dr nw rs' i (upd H dr (.dK kvs)) := by
  obtain ⟨kv0, a, b⟩ := R.dict
  obtain ⟨ns, c, e⟩ := R.news
  exact ⟨same_own R.same R.d0, R.d0, R.n0, R.ne, ⟨kvs, upd_same, kvR_mono (fun t xs h => by rw [upd_ne (ne_of h a (fun z => nomatch z))]; exact h) h⟩, ⟨ns, by rw [upd_ne R.ne.symm]; exact c, e⟩⟩
section
variable {P : Program} {w : World} {K : PySem.W.Frag} {mg : Str → Option Value} {base : Heap} {cT cS : Addr}
def spRungs : Sp := fun vs H Q _ => ∃ (a : Addr) (p : Int) (wd : Nat) (xs : List V) (rws : List (List Int)), vs = [.int p, .int (wd : Int), .ref a] ∧ SqS K H a xs ∧ Paired (rRow H) xs rws ∧ rws.length ≤ 1000 ∧ Prm p ∧ p ≤ 1000000 ∧ wd ≤ 1000 ∧ (∀ r ∈ rws, isRow r p wd) ∧
  ∀ H' t dr nw rs, Same H H' → H' t = some (.tup [.ref dr, .ref nw]) → H dr = none → (∃ kvs, H' dr = some (.dK kvs) ∧ Paired (kvR H') kvs rs) → St1 p wd rs rws → rs.length ≤ rws.length → Q (.ref t) H'
theorem ok_rungs (T : Tx K mg cT cS) {f : Addr} {fd : FuncData} (d : D K mg "rungs_of" s_rungs_of ["p", "wide", "rows"] f fd) : FnOk P w K mg base CX0 2 f fd ["p", "wide", "rows"] (spRungs (K := K)) := by
  obtain ⟨f1, fd1, d1⟩ := T.d_cleared
  have G1 : FnOk P w K mg base CX0 1 f1 fd1 ["p", "rungs", "row"] spCleared := ok_cleared T d1
  obtain ⟨f2, fd2, d2⟩ := T.d_first_place
  have G2 : FnOk P w K mg base CX0 1 f2 fd2 ["row", "wide"] spFirst := ok_first T d2
  obtain ⟨f3, fd3, d3⟩ := T.d_multiplied
  have G3 : FnOk P w K mg base CX0 1 f3 fd3 ["p", "factor", "row"] spMult := ok_mult T d3
  obtain ⟨f4, fd4, d4⟩ := T.d_inverse
  have G4 : FnOk P w K mg base CX0 1 f4 fd4 ["p", "value"] spInverse := ok_inverse T d4
  refine d.F.ok sc_rungs_of (fun vs H Q E h => ?_) (fun cdv A outer s H vs Q E hr h => ?_)
  · obtain ⟨a, p, wd, xs, rws, rfl, _⟩ := h
    rfl
  · obtain ⟨a, p, wd, xs, rws, rfl, hS, hp, hl, prm, pm, hwd, hrw, q⟩ := h
    have p2 := prm.1
    have hlen := paired_len hp
    refine ⟨_, pss_cons (ps_set (i := 3) sc_rungs_of.nd rfl (.inl rfl) pe_dnewK)
      (pss_cons (ps_set (i := 4) sc_rungs_of.nd rfl (.inl rfl) (pe_lst pa_nil))
      (pss_cons (ps_for PassesOwn.never rfl (pi_or (pi_enum (by rfl) T.b_enumerate (pa_cons (pv 2) pa_nil)) (pi_enumT (by rfl) T.b_enumerate (pa_cons (pv 2) pa_nil))) (pg_tup rfl (pgs_cons (pg_name (i := 5) sc_rungs_of.nd rfl (.inl rfl)) (pgs_cons (pg_name (i := 6) sc_rungs_of.nd rfl (.inl rfl)) pgs_nil)))
        (pss_cons (ps_set (i := 7) sc_rungs_of.nd rfl (.inl rfl) (pe_call G1 hr rfl d1.m d1.F.kp d1.b .nil pass0 (pa_cons (pv 0) (pa_cons (pv 3) (pa_cons (pv 6) pa_nil)))))
        (pss_cons (ps_set (i := 8) sc_rungs_of.nd rfl (.inl rfl) (pe_call G2 hr rfl d2.m d2.F.kp d2.b .nil pass0 (pa_cons (pv 7) (pa_cons (pv 1) pa_nil))))
        (pss_cons (ps_if (pt_cmp (pc_isN (pv 8))) (pss_one ps_continue) pss_nil)
        (pss_cons (ps_set (i := 9) sc_rungs_of.nd rfl (.inl rfl) (pe_call G3 hr rfl d3.m d3.F.kp d3.b .nil pass0 (pa_cons (pv 0) (pa_cons (pe_call G4 hr rfl d4.m d4.F.kp d4.b .nil pass0 (pa_cons (pv 0) (pa_cons (pe_ix ix_tup (pv 7) (pv 8) (fun _ _ => rfl)) pa_nil))) (pa_cons (pv 7) pa_nil)))))
        (pss_cons (ps_for PassesOwn.never rfl (pi_list (pe_callTy (call_listD rfl) (by rfl) T.b_list (by decide +kernel) (pa_cons (pv 3) pa_nil))) (pg_name (i := 10) sc_rungs_of.nd rfl (Or.inl rfl))
          (pss_one (ps_dput (hu_of hr) (pv 3) (pv 10) (pe_call G1 hr rfl d1.m d1.F.kp d1.b .nil pass0 (pa_cons (pv 0) (pa_cons (pe_disp (pps_cons (pv 8) (pv 9) pps_nil) (by rfl) (by rfl) (fun z => by cases z) (by decide)) (pa_cons (pe_dget (hu_of hr) (pv 3) (pv 10) (fun _ _ => rfl)) pa_nil)))) rfl)))
        (pss_cons (ps_dput (hu_of hr) (pv 3) (pv 8) (pv 9) rfl)
        (pss_one (ps_expr (pe_bm PySem.F.plainAttrs_list PySem.F.slot_list_append PySem.F.type_list_append mt_append (pv 4) (pa_cons (pv 5) pa_nil)))))))))))
      (pss_one (ps_ret (pe_tup (pa_cons (pv 3) (pa_cons (pv 4) pa_nil))))))), ?_⟩
    intro dr hdr
    dsimp only [gName, tSeq]
    refine ⟨by show 0 ≤ sizeLine; decide, fun nw hnw => ?_⟩
    have hne : dr ≠ nw := fun e => by subst e; rw [upd_same] at hnw; cases hnw
    have s1 := same_new (o := .dK []) hdr
    have s2 := same_new (o := .lst []) hnw
    have R0 : RGS H dr nw [] 0 (upd (upd H dr (.dK [])) nw (.lst [])) := ⟨s1.trans s2, hdr, s1.free hnw, hne, ⟨[], s2 _ _ upd_same, .nil⟩, ⟨[], upd_same, Nat.le_refl _⟩⟩
    dsimp only [gName, tSeq]
    have P0 : ∃ rs x5 x6 x7 x8 x9 x10, [some (V.int p), some (V.int (wd : Int)), some (V.ref a), some (V.ref dr), some (V.ref nw), none, none, none, none, none, none] = [some (V.int p), some (V.int (wd : Int)), some (V.ref a), some (V.ref dr), some (V.ref nw), x5, x6, x7, x8, x9, x10] ∧ RGS H dr nw rs 0 (upd (upd H dr (.dK [])) nw (.lst [])) ∧ St1 p wd rs (rws.take 0) ∧ rs.length ≤ 0 :=
      ⟨[], none, none, none, none, none, none, rfl, R0, by rw [List.take_zero]; exact St1.nil p wd, Nat.le_refl _⟩
    apply twice
    · intro hs
      apply twice
      · intro hd
        rcases hS with h | h
        · exact .inl ⟨_, rfl, a, xs, rfl, .of ((s1.trans s2) _ _ h), for_it (walk_enum (xs := xs)) (fun i σ H' => ∃ rs x5 x6 x7 x8 x9 x10, σ = [some (.int p), some (.int (wd : Int)), some (.ref a), some (.ref dr), some (.ref nw), x5, x6, x7, x8, x9, x10] ∧ RGS H dr nw rs i H' ∧ St1 p wd rs (rws.take i) ∧ rs.length ≤ i) P0 (fun i σ H' _ q => .of (let ⟨_, _, _, _, _, _, _, _, R, _, _⟩ := q; R.same _ _ h)) hs hd⟩
        · exact .inr ⟨_, rfl, a, xs, rfl, .of ((s1.trans s2) _ _ h), for_it (walk_enumT (xs := xs)) (fun i σ H' => ∃ rs x5 x6 x7 x8 x9 x10, σ = [some (.int p), some (.int (wd : Int)), some (.ref a), some (.ref dr), some (.ref nw), x5, x6, x7, x8, x9, x10] ∧ RGS H dr nw rs i H' ∧ St1 p wd rs (rws.take i) ∧ rs.length ≤ i) P0 (fun i σ H' _ q => .of (let ⟨_, _, _, _, _, _, _, _, R, _, _⟩ := q; R.same _ _ h)) hs hd⟩
      · rintro σ H2 ⟨rs, x5, x6, x7, x8, x9, x10, rfl, R, S, cnt⟩
        rw [hlen, List.take_length] at S
        refine ⟨_, rfl, _, rfl, by show 2 ≤ sizeLine; decide, fun t nt => ?_⟩
        have s3 := same_new (o := .tup [V.ref dr, V.ref nw]) nt
        obtain ⟨kvs, hk1, hk2⟩ := R.dict
        exact q _ t dr nw rs (R.same.trans s3) upd_same hdr ⟨kvs, s3 _ _ hk1, kvR_mono (fun _ _ h => s3 _ _ h) hk2⟩ S (by omega)
    · rintro i x σ H2 H3 hi ⟨rs, x5, x6, x7, x8, x9, x10, rfl, R2, S, cnt⟩ ⟨tz, u1, u2, rfl, nz, rfl, e1, e2⟩
      cases (Option.some.inj e1)
      have s3 := same_new (o := .tup [V.int (i : Nat), u2]) nz
      have R := R2.more s3
      obtain ⟨row, hrow, hrr⟩ := paired_get (paired_mono mono_row (R.same).keep hp) e2
      have hir := hrw row (List.mem_of_getElem? hrow)
      have hrl : row.length = wd := by have := hir.1; omega
      have etake : rws.take (i + 1) = rws.take i ++ [row] := by rw [List.take_succ, hrow]; rfl
      have hrsl := S.len
      refine ⟨tz, _, rfl, .of upd_same, rfl, _, _, rfl, _, _, rfl, rfl, ?_⟩
      obtain ⟨kvs, hk1, hk2⟩ := R.dict
      refine ⟨_, rfl, _, rfl, _, rfl, dr, .dK kvs, u2, row, rs, p, rfl, hk1, ⟨kvs, rfl, hk2⟩, S.lad.nd, hrr, by omega, pm, hir.2, by omega, by omega, fun z hz => by have := S.ok z hz; exact ⟨by omega, by omega⟩, fun H4 v4 s4 hv4 => ?_⟩
      dsimp only [gName, tSeq]
      have cl := clr_len p rs row
      refine ⟨_, rfl, _, rfl, v4, clr p rs row, wd, rfl, hv4, by omega, by omega, fun hz => ?_, fun k hk h0 hz => ?_⟩
      · dsimp only [gName, tSeq]
        refine ⟨_, rfl, _, rfl, ?_⟩
        have R4 := R.more s4
        rw [decide_eq_true rfl]
        refine iteT ⟨rs, _, _, _, _, _, _, rfl, ⟨R4.same, R4.d0, R4.n0, R4.ne, R4.dict, let ⟨ns, a, b⟩ := R4.news; ⟨ns, a, by omega⟩⟩, ?_, by omega⟩
        rw [etake]
        exact S.skip hrl hz
      · dsimp only [gName, tSeq]
        refine ⟨_, rfl, _, rfl, ?_⟩
        rw [decide_eq_false (fun e => nomatch e)]
        refine iteF ?_
        have p0 : 0 < p := by omega
        have hri := clr_in p0 rs hir.2
        have hb := getD_in p0 hri k
        have hkk : (clr p rs row)[k]? = some ((clr p rs row)[k]'(by omega)) := List.getElem?_eq_getElem (by omega)
        have hkg := getD_at (d := (0 : Int)) hkk
        obtain ⟨t4, rfl, ht4⟩ := hv4
        refine ⟨_, rfl, _, rfl, _, rfl, _, rfl, t4, _, _, _, rfl, rfl, .of ht4, atI_nat (int_at hkk), ?_⟩
        rw [← hkg]
        refine ⟨p, _, rfl, pm, by omega, by omega, prm.gcd (by omega) (by omega), fun u u0 u1 hu H5 s5 => ?_⟩
        refine ⟨_, rfl, .ref t4, clr p rs row, p, u, rfl, ⟨t4, rfl, s5.keep.tup ht4⟩, p0, ⟨by omega, by omega⟩, by omega, fun H6 v6 s6 hv6 => ?_⟩
        have s46 := (s4.trans s5).trans s6
        have R6 := R.more s46
        have St := S.put (u := u) p2 hrl hir.2 hk h0 hz hu
        generalize hg : mulL p u (clr p rs row) = g at hv6 St
        have hgl : g.length = wd := by rw [← hg]; unfold mulL; rw [List.length_map]; omega
        have hgi : InB p g := by
          rw [← hg]
          intro x hx
          obtain ⟨y, _, rfl⟩ := List.mem_map.mp hx
          exact mod_b p0
        have kP : k ∉ rs.map (·.1) := by
          have := St.lad.nd
          rw [putIn_keys, List.nodup_append] at this
          exact fun q => this.2.2 k q k (by simp) rfl
        dsimp only [gName, tSeq]
        have hk6 := s46 _ _ hk1
        have hk26 := kvR_mono (H' := H6) (fun _ _ h => s46 _ _ h) hk2
        have hkl := paired_len hk26
        refine ⟨_, rfl, dr, kvs, rfl, .inl hk6, fun lk nlk => ⟨lk, rfl, ⟨_, .of upd_same⟩, ?_⟩⟩
        have s7 := same_new (o := .lst (kvs.map fun kv => kV kv.1)) nlk
        have ldr : lk ≠ dr := fun e => by subst e; rw [hk6] at nlk; cases nlk
        refine for_it (walk_list (xs := kvs.map fun kv => kV kv.1)) (fun j σ H' => ∃ x10, σ = [some (.int p), some (.int (wd : Int)), some (.ref a), some (.ref dr), some (.ref nw), some (.int (i : Nat)), some u2, some (.ref t4), some (.int (k : Nat)), some v6, x10] ∧
          RGS H dr nw (part p k g ((rs.take j).map (·.1)) rs) i H' ∧ rRow H' v6 g ∧ H' lk = some (.lst (kvs.map fun kv => kV kv.1)))
          ⟨x10, rfl, by rw [List.take_zero, List.map_nil, part_nil]; exact R6.more s7, mono_row _ _ _ _ s7.keep hv6, upd_same⟩ (fun j σ H' _ ⟨_, _, _, _, h⟩ => .of h) ?_ ?_
        · rintro j x σ H8 H9 hj ⟨y10, rfl, RJ, hv8, hl8⟩ ⟨rfl, hx⟩
          rw [List.getElem?_map] at hx
          rw [List.length_map] at hj
          have hkj : kvs[j]? = some (kvs[j]'hj) := List.getElem?_eq_getElem hj
          rw [hkj] at hx
          have hx := (Option.some.inj hx).symm
          obtain ⟨z, hz1, ze, _⟩ := paired_get hk26 hkj
          have hx2 : x = V.int ((z.1 : Nat) : Int) := by rw [hx]; show kV kvs[j].1 = _; rw [ze]; rfl
          subst hx2
          have zm := List.mem_of_getElem? hz1
          obtain ⟨z1, z2, z3⟩ := S.ok z zm
          have hnd : z.1 ∉ (rs.take j).map (·.1) := by
            have nd := S.lad.nd
            have e : rs = rs.take j ++ rs.drop j := (List.take_append_drop j rs).symm
            have hlt : j < rs.length := (List.getElem?_eq_some_iff.mp hz1).1
            have hz2 : rs[j] = z := (List.getElem?_eq_some_iff.mp hz1).2
            rw [e, List.map_append, List.nodup_append] at nd
            intro q
            refine nd.2.2 z.1 q z.1 ?_ rfl
            rw [List.drop_eq_getElem_cons hlt, hz2]
            simp
          obtain ⟨kJ, hJ1, hJ2⟩ := RJ.dict
          have hpj : (part p k g ((rs.take j).map (·.1)) rs)[j]? = some z := by
            unfold part
            rw [List.getElem?_map, hz1]
            show some (if z.1 ∈ _ then _ else z) = some z
            rw [if_neg hnd]
          obtain ⟨kv, hkv, ke, hvv⟩ := paired_get2 hJ2 hpj
          obtain ⟨kk, vv⟩ := kv
          simp only at ke hvv
          subst ke
          have hval := val_at hJ2 (by rw [part_keys]; exact S.lad.nd) hkv
          have hJl := paired_len hJ2
          have hpl : (part p k g ((rs.take j).map (·.1)) rs).length = rs.length := by unfold part; rw [List.length_map]
          refine ⟨_, rfl, fun qd nqd => ⟨_, rfl, _, rfl, upd_same, [(Sum.inl ((k : Nat) : Int), v6)], rfl, by show 1 ≤ 15; decide, ?_⟩⟩
          rw [upd_upd]
          have s10 := same_new (o := .dK (mergeK [] [(Sum.inl ((k : Nat) : Int), v6)])) nqd
          refine ⟨_, rfl, _, rfl, dr, vv, rfl, .inl ⟨kJ, _, .inl (s10 _ _ hJ1), rfl, hval.symm⟩, ?_⟩
          refine ⟨qd, _, vv, z.2, [(k, g)], p, rfl, upd_same, ⟨[(Sum.inl ((k : Nat) : Int), v6)], rfl, .cons ⟨rfl, mono_row _ _ _ _ s10.keep hv8⟩ .nil⟩, by simp, mono_row _ _ _ _ s10.keep hvv, p0, pm, z3, by omega, by show 1 ≤ 1000; decide, fun y hy => by rw [List.mem_singleton.mp hy]; exact ⟨by rw [z2]; exact hk, by rw [z2]; exact hgl⟩, fun H11 v11 s11 hv11 => ?_⟩
          have sa := s10.trans s11
          refine ⟨_, rfl, _, rfl, dr, _, rfl, DPut.k (k := Sum.inl ((z.1 : Nat) : Int)) (sa _ _ hJ1) (Nat.lt_of_le_of_lt (by omega : kJ.length ≤ 1000) (by decide)), ?_⟩
          have hJ3 := kvR_mono (H' := H11) (fun _ _ h => sa _ _ h) hJ2
          have hput := put_map hJ3 hv11 (k := z.1) (by rw [part_keys]; exact List.mem_map.mpr ⟨z, zm, rfl⟩)
          rw [part_step S.lad.nd zm] at hput
          have et2 : (rs.take (j + 1)).map (·.1) = (rs.take j).map (·.1) ++ [z.1] := by rw [List.take_succ, hz1, List.map_append]; rfl
          refine ⟨_, rfl, ?_, ?_, ?_⟩
          · rw [et2]
            exact (RJ.more sa).setD hput
          · obtain ⟨t6, rfl, ht6⟩ := hv8
            exact ⟨t6, rfl, by rw [upd_ne (ne_of (sa _ _ ht6) (sa _ _ hJ1) (fun z => nomatch z))]; exact sa _ _ ht6⟩
          · rw [upd_ne ldr]
            exact sa _ _ hl8
        · rintro σ H8 ⟨y10, rfl, RJ, hv8, hl8⟩
          rw [List.length_map, hkl, List.take_length] at RJ
          obtain ⟨kJ, hJ1, hJ2⟩ := RJ.dict
          have hJl := paired_len hJ2
          have hpl : (part p k g (rs.map (·.1)) rs).length = rs.length := by unfold part; rw [List.length_map]
          refine ⟨_, rfl, _, rfl, _, rfl, dr, _, rfl, DPut.k (k := Sum.inl ((k : Nat) : Int)) hJ1 (Nat.lt_of_le_of_lt (by omega : kJ.length ≤ 1000) (by decide)), ?_⟩
          rw [putK_new _ (val_none hJ2 (by rw [part_keys]; exact kP))]
          have hfin : Paired (kvR H8) (kJ ++ [(Sum.inl ((k : Nat) : Int), v6)]) (putIn p rs k g) := by
            rw [← part_all]
            exact paired_app hJ2 (.cons ⟨rfl, hv8⟩ .nil)
          have RF := RJ.setD hfin
          obtain ⟨ns, hn1, hn2⟩ := RF.news
          refine ⟨_, rfl, .inl ⟨rfl, _, .of hn1⟩, _, rfl, nw, _, _, rfl, rfl, hn1, Nat.lt_of_le_of_lt (by rw [List.length_map]; omega : _ ≤ 1000) (by decide), ?_⟩
          obtain ⟨kF, hF1, hF2⟩ := RF.dict
          refine ⟨putIn p rs k g, _, _, _, _, _, _, rfl, ⟨same_own RF.same RF.n0, RF.d0, RF.n0, RF.ne, ⟨kF, by rw [upd_ne RF.ne]; exact hF1, ?_⟩, ⟨ns ++ [(i : Int)], by rw [upd_same, List.map_append]; rfl, by rw [List.length_append, List.length_singleton]; omega⟩⟩, by rw [etake]; exact St, by unfold putIn; rw [List.length_append, List.length_map, List.length_singleton]; omega⟩
          exact kvR_mono (fun t xs h => by rw [upd_ne (ne_of h hn1 (fun z => nomatch z))]; exact h) hF2
end
end S4

namespace S4
open PySem L2 TT MM
def keysI (rs : RG) : List Int := rs.map fun z => ((z.1 : Nat) : Int)
/-- the ladder of a room, as a list of rows -/
def IsLad (p : Int) (wd : Nat) (rows lad : List (List Int)) : Prop := ∃ (rs : RG) (ys : List Int), St1 p wd rs rows ∧ ys.Perm (keysI rs) ∧ Up ys ∧ lad = ys.map fun y => rowOf rs y.toNat
theorem keysI_nodup {rs : RG} (h : (rs.map (·.1)).Nodup) : (keysI rs).Nodup := by
  unfold keysI
  rw [List.nodup_iff_pairwise_ne] at *
  rw [List.pairwise_map] at *
  exact h.imp fun {a b} h e => h (by omega)
theorem keysI_mem {rs : RG} {y : Int} : y ∈ keysI rs ↔ ∃ i ∈ rs.map (·.1), y = ((i : Nat) : Int) := by
  unfold keysI
  rw [List.mem_map]
  constructor
  · rintro ⟨z, hz, rfl⟩
    exact ⟨z.1, List.mem_map.mpr ⟨z, hz, rfl⟩, rfl⟩
  · rintro ⟨i, hi, rfl⟩
    obtain ⟨z, hz, rfl⟩ := List.mem_map.mp hi
    exact ⟨z, hz, rfl⟩
theorem IsLad.only {p : Int} {wd : Nat} {rows rows' lad lad' : List (List Int)} (A : IsLad p wd rows lad) (B : IsLad p wd rows' lad') (p2 : 2 ≤ p) (h : Same2 p (fun v => ∃ l ∈ rows, v = vec l) (fun v => ∃ l ∈ rows', v = vec l)) : lad = lad' := by
  obtain ⟨rs, ys, S, hp, hu, rfl⟩ := A
  obtain ⟨rs', ys', S', hp', hu', rfl⟩ := B
  obtain ⟨k1, k2⟩ := S.only S' p2 h
  have e : ys = ys' := by
    refine up_same (hp.trans (List.Perm.trans ?_ hp'.symm)) hu hu'
    refine (List.perm_ext_iff_of_nodup (keysI_nodup S.lad.nd) (keysI_nodup S'.lad.nd)).mpr fun y => ?_
    rw [keysI_mem, keysI_mem]
    constructor
    · rintro ⟨i, hi, rfl⟩; exact ⟨i, (k1 i).mp hi, rfl⟩
    · rintro ⟨i, hi, rfl⟩; exact ⟨i, (k1 i).mpr hi, rfl⟩
  subst e
  refine List.map_congr_left fun y hy => ?_
  obtain ⟨i, hi, rfl⟩ := keysI_mem.mp (hp.mem_iff.mp hy)
  obtain ⟨z, hz, rfl⟩ := List.mem_map.mp hi
  rw [Int.toNat_natCast, rowOf_mem S.lad.nd hz, rowOf_mem S'.lad.nd (k2 z hz)]
theorem IsLad.rows {p : Int} {wd : Nat} {rows lad : List (List Int)} (A : IsLad p wd rows lad) : lad.length ≤ wd ∧ ∀ l ∈ lad, isRow l p wd := by
  obtain ⟨rs, ys, S, hp, hu, rfl⟩ := A
  refine ⟨?_, fun l hl => ?_⟩
  · rw [List.length_map, hp.length_eq]
    unfold keysI
    rw [List.length_map]
    exact S.len
  · obtain ⟨y, hy, rfl⟩ := List.mem_map.mp hl
    obtain ⟨i, hi, rfl⟩ := keysI_mem.mp (hp.mem_iff.mp hy)
    obtain ⟨z, hz, rfl⟩ := List.mem_map.mp hi
    rw [Int.toNat_natCast, rowOf_mem S.lad.nd hz]
    obtain ⟨_, b, c⟩ := S.ok z hz
    exact ⟨by omega, c⟩
/-- the ladder spans what the rows span -/
theorem IsLad.room {p : Int} {wd : Nat} {rows lad : List (List Int)} (A : IsLad p wd rows lad) : Same2 p (fun v => ∃ l ∈ lad, v = vec l) (fun v => ∃ l ∈ rows, v = vec l) := by
  obtain ⟨rs, ys, S, hp, hu, rfl⟩ := A
  refine Same2.trans (same2_of (fun v h => ?_) (fun v h => ?_)) S.room
  · obtain ⟨l, hl, rfl⟩ := h
    obtain ⟨y, hy, rfl⟩ := List.mem_map.mp hl
    obtain ⟨i, hi, rfl⟩ := keysI_mem.mp (hp.mem_iff.mp hy)
    rw [Int.toNat_natCast]
    exact .row ⟨i, hi, rfl⟩
  · obtain ⟨i, hi, rfl⟩ := h
    exact .row ⟨rowOf rs i, List.mem_map.mpr ⟨((i : Nat) : Int), hp.mem_iff.mpr (keysI_mem.mpr ⟨i, hi, rfl⟩), by rw [Int.toNat_natCast]⟩, rfl⟩
section
variable {P : Program} {w : World} {K : PySem.W.Frag} {mg : Str → Option Value} {base : Heap} {cT cS : Addr}
def spLadOf (K : PySem.W.Frag) : Sp := fun vs H Q _ => ∃ (a : Addr) (p : Int) (wd : Nat) (xs : List V) (rws : List (List Int)), vs = [.int p, .int (wd : Int), .ref a] ∧ SqS K H a xs ∧ Paired (rRow H) xs rws ∧ rws.length ≤ 1000 ∧ Prm p ∧ p ≤ 1000000 ∧ wd ≤ 1000 ∧ (wd < 64 ∨ rws.length < 64) ∧ (∀ r ∈ rws, isRow r p wd) ∧
  ∀ H' v lad, Same H H' → rTup rRow H' v lad → IsLad p wd rws lad → lad.length ≤ rws.length → Q v H'
theorem ok_lad_of (T : Tx K mg cT cS) {f : Addr} {fd : FuncData} (d : D K mg "ladder_of" s_ladder_of ["p", "wide", "rows"] f fd) : FnOk P w K mg base CX0 3 f fd ["p", "wide", "rows"] (spLadOf K) := by
  obtain ⟨f1, fd1, d1⟩ := T.d_rungs_of
  have G1 : FnOk P w K mg base CX0 2 f1 fd1 ["p", "wide", "rows"] (spRungs (K := K)) := ok_rungs T d1
  refine d.F.ok sc_ladder_of (fun vs H Q E h => ?_) (fun cdv A outer s H vs Q E hr h => ?_)
  · obtain ⟨a, p, wd, xs, rws, rfl, _⟩ := h
    rfl
  · obtain ⟨a, p, wd, xs, rws, rfl, hS, hp, hl, prm, pm, hwd, h64, hrw, q⟩ := h
    refine ⟨_, pss_cons (ps_set (i := 3) sc_ladder_of.nd rfl (.inr rfl) (pe_ix ix_tup (pe_call G1 hr rfl d1.m d1.F.kp d1.b .nil pass0 (pa_cons (pv 0) (pa_cons (pv 1) (pa_cons (pv 2) pa_nil)))) pe_int (fun _ _ => rfl)))
      (pss_one (ps_ret (pe_callTy call_tuple_of (by rfl) T.b_tuple (by decide +kernel) (pa_cons
        (pe_lc (own := [("place", 4)]) (g := gName 4) (tt := tYes) rfl sc_ladder_of.nd (pi_list (pe_callB (call_sortedDI rfl) (by rfl) T.b_sorted (by decide +kernel) (pa_cons (pv 3) pa_nil))) (blkOk_by (N := N_ladder_of) (sc := defScope s_ladder_of) (by decide +kernel))
          (fun _ _ _ _ _ => pg_name (i := 4) sc_ladder_of.nd rfl (Or.inl rfl)) (fun _ _ _ _ _ => pts_nil)
          (fun _ _ _ _ _ => pe_dget (hu_of hr) (pv 3) (pv 4) (fun _ _ => rfl))) pa_nil)))), ?_⟩
    refine ⟨_, rfl, _, rfl, _, rfl, a, p, wd, xs, rws, rfl, hS, hp, hl, prm, pm, hwd, hrw, fun H2 t dr nw rs s2 ht hdr ⟨kvs, hk1, hk2⟩ S cnt => ?_⟩
    refine ⟨t, _, _, _, rfl, rfl, .of ht, at_of (j := 0) rfl rfl, ?_⟩
    dsimp only [gName, tSeq]
    have hkl := paired_len hk2
    have hSl := S.len
    have keys : ∀ {kvs : List (L2.Key × V)} {rs : RG}, Paired (kvR H2) kvs rs → kvs.map (·.1) = (keysI rs).map Sum.inl := by
      intro kvs rs h
      induction h with
      | nil => rfl
      | @cons kv z kvs rs r t ih =>
        show kv.1 :: kvs.map (·.1) = Sum.inl ((z.1 : Nat) : Int) :: (keysI rs).map Sum.inl
        rw [ih, r.1]
    refine ⟨_, rfl, dr, kvs, keysI rs, rfl, .of hk1, keys hk2, by rw [show (keysI rs).length = rs.length by unfold keysI; rw [List.length_map]]; omega, fun ys p2 hperm hup np => ?_⟩
    have s3 := same_new (o := .lst (ys.map V.int)) np
    have hyl := hperm.length_eq
    have hkil : (keysI rs).length = rs.length := by unfold keysI; rw [List.length_map]
    refine ⟨p2, rfl, ⟨_, .of upd_same⟩, fun D hD => ?_⟩
    refine lc_fm (walk_list (xs := ys.map V.int)) rRow (fun i => ys[i]?.bind fun y => some (rowOf rs y.toNat)) hD (fun H' s' => .of (s' _ _ upd_same)) ?_ ?_
    · rintro i x H4 H5 hi pv ⟨rfl, hx⟩
      obtain ⟨y, hy, rfl⟩ := at_int hx
      rw [List.length_map] at hi
      obtain ⟨k, hk, rfl⟩ := keysI_mem.mp (hperm.mem_iff.mp (List.mem_of_getElem? hy))
      obtain ⟨z, hz, rfl⟩ := List.mem_map.mp hk
      obtain ⟨j, hj⟩ := List.getElem?_of_mem hz
      have sz := s3.trans pv.1
      obtain ⟨kv, hkv, ke, hvv⟩ := paired_get2 (kvR_mono (fun _ _ h => sz _ _ h) hk2) hj
      obtain ⟨kk, vv⟩ := kv
      simp only at ke hvv
      subst ke
      have hval := val_at hk2 S.lad.nd hkv
      refine ⟨rfl, _, rfl, _, rfl, dr, vv, rfl, .inl ⟨kvs, _, .inl (sz _ _ hk1), rfl, hval.symm⟩, ?_⟩
      refine fm_keep mono_row pv hD (by omega) (Same.refl _) (by rw [hy]; rfl) ?_
      rw [Int.toNat_natCast, rowOf_mem S.lad.nd hz]
      exact hvv
    · intro H4 zs s4 hD4 hp4
      rw [List.length_map, fm_some] at hp4
      refine ⟨D, _, rfl, .inl ⟨.of hD4, fun nt nnt => ?_⟩⟩
      have s5 := same_new (o := .tup zs) nnt
      exact q _ _ _ (((s2.trans s3).trans s4).trans s5) ⟨nt, zs, rfl, upd_same, paired_mono mono_row s5.keep hp4⟩ ⟨rs, ys, S, hperm, hup, rfl⟩ (by rw [List.length_map]; omega)
end
end S4

namespace S4
open PySem L2 TT MM
/-! ### clearing by rungs that are not cleared of one another -/
/-- a rung is 0 in the first places of those ahead, 1 in its own -/
structure Tri (p : Int) (wd : Nat) (rs : RG) : Prop where
  ok : ∀ z ∈ rs, z.1 < wd ∧ z.2.length = wd ∧ InB p z.2
  one : ∀ z ∈ rs, Cg p (vec z.2 z.1) 1
  tri : rs.Pairwise fun a b => Cg p (vec b.2 a.1) 0
section
variable {p : Int} {wd : Nat}
theorem Tri.tail {z : Nat × List Int} {rs : RG} (T : Tri p wd (z :: rs)) : Tri p wd rs := ⟨fun y h => T.ok y (by simp [h]), fun y h => T.one y (by simp [h]), (List.pairwise_cons.mp T.tri).2⟩
theorem clr_at : ∀ (rs : RG) (l : List Int) (x : Nat), (∀ z ∈ rs, z.2.length = l.length ∧ Cg p (vec z.2 x) 0) → Cg p (vec (clr p rs l) x) (vec l x)
  | [], l, x, _ => .refl _
  | z :: rs, l, x, h => by
    obtain ⟨h1, h2⟩ := h z (by simp)
    have ih := clr_at rs (clr1 p l z) x fun y hy => by
      obtain ⟨a, b⟩ := h y (by simp [hy])
      exact ⟨by rw [clr1_len]; exact a, b⟩
    have s := clr1_vec (p := p) h1 x
    have m := (Cg.refl (p := p) (vec l x)).sub ((Cg.refl (p := p) (vec l z.1)).mul h2)
    rw [Int.mul_zero, Int.sub_zero] at m
    exact ih.trans (s.trans m)
theorem Tri.clear {R : Vc → Prop} : ∀ (rs : RG) (l : List Int), Tri p wd rs → l.length = wd → (∀ z ∈ rs, Spn p R (vec z.2)) → Spn p R (fun x => vec l x - vec (clr p rs l) x) ∧ ∀ z ∈ rs, Cg p (vec (clr p rs l) z.1) 0
  | [], l, _, _, _ => ⟨.zero fun x => .of_eq (by show vec l x - vec l x = 0; omega), fun z h => (nomatch h)⟩
  | z :: rs, l, T, hl, hR => by
    have hz := T.ok z (by simp)
    have s : ∀ x, Cg p (vec (clr1 p l z) x) (vec l x - vec l z.1 * vec z.2 x) := fun x => clr1_vec (by rw [hz.2.1, hl]) x
    obtain ⟨a, c⟩ := Tri.clear rs (clr1 p l z) T.tail (by rw [clr1_len]; exact hl) fun y hy => hR y (by simp [hy])
    have e : clr p (z :: rs) l = clr p rs (clr1 p l z) := rfl
    rw [e]
    refine ⟨.plus (vec l z.1) a (hR z (by simp)) fun x => ?_, fun y hy => ?_⟩
    · have h4 := ((s x).symm.add (Cg.refl (p := p) (vec l z.1 * vec z.2 x))).sub (Cg.refl (p := p) (vec (clr p rs (clr1 p l z)) x))
      refine ((Cg.of_eq ?_).trans h4).trans (.of_eq ?_) <;> omega
    · rcases List.mem_cons.mp hy with rfl | hy
      · have own : Cg p (vec (clr1 p l y) y.1) 0 := by
          have := (Cg.refl (p := p) (vec l y.1)).sub ((Cg.refl (p := p) (vec l y.1)).mul (T.one y (by simp)))
          rw [Int.mul_one, Int.sub_self] at this
          exact (s y.1).trans this
        refine (clr_at rs (clr1 p l y) y.1 fun z hz2 => ⟨?_, (List.pairwise_cons.mp T.tri).1 z hz2⟩).trans own
        rw [clr1_len, hl]
        exact (T.ok z (by simp [hz2])).2.1
      · exact c y hy
/-- the state of the short going: as many rungs, in the same places, as the ladder's going has -/
structure St2 (p : Int) (wd : Nat) (rs : RG) (rows : List (List Int)) : Prop where
  T : Tri p wd rs
  room : ∀ z ∈ rs, Spn p (fun v => ∃ l ∈ rows, v = vec l) (vec z.2)
  twin : ∃ rs', St1 p wd rs' rows ∧ rs'.map (·.1) = rs.map (·.1)
theorem St2.nil (p : Int) (wd : Nat) : St2 p wd [] [] := ⟨⟨fun z h => (nomatch h), fun z h => (nomatch h), .nil⟩, fun z h => (nomatch h), [], St1.nil p wd, rfl⟩
theorem eq_of_cg {a b : List Int} (p0 : 0 < p) (hl : a.length = b.length) (ha : InB p a) (hb : InB p b) (h : ∀ x, Cg p (vec a x) (vec b x)) : a = b := by
  apply List.ext_getElem hl
  intro x h1 h2
  have c1 := getD_in p0 ha x
  have c2 := getD_in p0 hb x
  have := (h x).eq c1.1 c1.2 c2.1 c2.2
  unfold vec at this
  rwa [getD_at (List.getElem?_eq_getElem h1), getD_at (List.getElem?_eq_getElem h2)] at this
variable {rs : RG} {rows : List (List Int)} {row : List Int}
theorem St2.same (S : St2 p wd rs rows) (p2 : 2 ≤ p) (hl : row.length = wd) (hin : InB p row) {rs' : RG} (S' : St1 p wd rs' rows) (hk : rs'.map (·.1) = rs.map (·.1)) : clr p rs row = clr p rs' row := by
  have p0 : 0 < p := by omega
  obtain ⟨a, b⟩ := S.T.clear rs row hl S.room
  obtain ⟨a', b'⟩ := S'.clear hl
  have d : Spn p (rungs (rs'.map (·.1)) (rv rs')) (fun x => vec (clr p rs row) x - vec (clr p rs' row) x) := by
    refine .plus (-1) a' ((S'.room _).mpr a) fun x => .of_eq ?_
    omega
  refine eq_of_cg p0 (by rw [clr_len, clr_len]) (clr_in p0 _ hin) (clr_in p0 _ hin) fun x => ?_
  have z := S'.lad.zero d (fun i hi => by
    have h2 := b' i hi
    rw [hk] at hi
    obtain ⟨y, hy, rfl⟩ := List.mem_map.mp hi
    have := (b y hy).sub h2
    rwa [Int.sub_zero] at this) x
  have := z.add (Cg.refl (p := p) (vec (clr p rs' row) x))
  refine ((Cg.of_eq ?_).trans this).trans (.of_eq ?_) <;> omega
theorem span_more {v : Vc} (h : Spn p (fun v => ∃ l ∈ rows, v = vec l) v) : Spn p (fun v => ∃ l ∈ rows ++ [row], v = vec l) v := h.mono fun r ⟨l, hl, e⟩ => ⟨l, List.mem_append_left _ hl, e⟩
theorem St2.skip (S : St2 p wd rs rows) (p2 : 2 ≤ p) (hl : row.length = wd) (hin : InB p row) (hz : ∀ x, x < wd → (clr p rs row).getD x 0 = 0) : St2 p wd rs (rows ++ [row]) := by
  obtain ⟨rs', S', hk⟩ := S.twin
  have e := S.same p2 hl hin S' hk
  exact ⟨S.T, fun z h => span_more (S.room z h), rs', S'.skip hl (by rw [← e]; exact hz), hk⟩
theorem St2.put (S : St2 p wd rs rows) (p2 : 2 ≤ p) (hl : row.length = wd) (hin : InB p row) {k : Nat} {u : Int} (hk : k < wd) (h0 : (clr p rs row).getD k 0 ≠ 0) (hz : ∀ x, x < k → (clr p rs row).getD x 0 = 0)
    (hu : Cg p (u * (clr p rs row).getD k 0) 1) : k ∉ rs.map (·.1) ∧ St2 p wd (rs ++ [(k, mulL p u (clr p rs row))]) (rows ++ [row]) := by
  have p0 : 0 < p := by omega
  obtain ⟨rs', S', hkk⟩ := S.twin
  have e := S.same p2 hl hin S' hkk
  have St := S'.put (u := u) p2 hl hin hk (by rw [← e]; exact h0) (by rw [← e]; exact hz) (by rw [← e]; exact hu)
  obtain ⟨a, b⟩ := S.T.clear rs row hl S.room
  have kP : k ∉ rs.map (·.1) := fun q => by
    obtain ⟨z, hz1, rfl⟩ := List.mem_map.mp q
    have := b z hz1
    have c := getD_in p0 (clr_in p0 rs hin) z.1
    exact h0 (this.zero_of c.1 c.2)
  refine ⟨kP, ⟨⟨fun z h => ?_, fun z h => ?_, ?_⟩, fun z h => ?_, _, St, ?_⟩⟩
  · rcases List.mem_append.mp h with h | h
    · exact S.T.ok z h
    · rw [List.mem_singleton.mp h]
      refine ⟨hk, ?_, fun x hx => ?_⟩
      · show (mulL p u (clr p rs row)).length = wd
        unfold mulL
        rw [List.length_map, clr_len]
        exact hl
      · obtain ⟨y, _, rfl⟩ := List.mem_map.mp hx
        exact mod_b p0
  · rcases List.mem_append.mp h with h | h
    · exact S.T.one z h
    · rw [List.mem_singleton.mp h]
      exact (mulL_vec k).trans hu
  · rw [List.pairwise_append]
    refine ⟨S.T.tri, List.pairwise_singleton _ _, fun y hy z hz2 => ?_⟩
    rw [List.mem_singleton.mp hz2]
    have := (Cg.refl (p := p) u).mul (b y hy)
    rw [Int.mul_zero] at this
    exact (mulL_vec y.1).trans this
  · rcases List.mem_append.mp h with h | h
    · exact span_more (S.room z h)
    · rw [List.mem_singleton.mp h]
      have hr : Spn p (fun v => ∃ l ∈ rows ++ [row], v = vec l) (vec (clr p rs row)) := .plus (-1) (.row ⟨row, by simp, rfl⟩) (span_more a) fun x => .of_eq (by omega)
      exact .plus u (.zero (v := fun _ => 0) fun _ => .refl 0) hr fun x => (mulL_vec x).trans (.of_eq (by omega))
  · rw [putIn_keys, hkk, List.map_append]
    rfl
end
/-- how many there are is the rank -/
theorem IsLad.len {p : Int} {wd : Nat} {rows lad : List (List Int)} {rs' : RG} (A : IsLad p wd rows lad) (S' : St1 p wd rs' rows) (p2 : 2 ≤ p) : lad.length = rs'.length := by
  obtain ⟨rs, ys, S, hp, hu, rfl⟩ := A
  obtain ⟨k1, _⟩ := S.only S' p2 fun v => Iff.rfl
  have h1 := ((List.perm_ext_iff_of_nodup S.lad.nd S'.lad.nd).mpr k1).length_eq
  rw [List.length_map, List.length_map] at h1
  rw [List.length_map, hp.length_eq]
  unfold keysI
  rw [List.length_map]
  exact h1
theorem St2.len {p : Int} {wd : Nat} {rs : RG} {rows lad : List (List Int)} (S : St2 p wd rs rows) (p2 : 2 ≤ p) (A : IsLad p wd rows lad) : lad.length = rs.length := by
  obtain ⟨rs', S', hk⟩ := S.twin
  have := congrArg List.length hk
  rw [List.length_map, List.length_map] at this
  rw [A.len S' p2, this]
end S4

namespace S4
open PySem L2 TT MM
section
variable {K : PySem.W.Frag}
theorem kit_tl : PySem.W.kitOne K (.type "tuple") (.type "list") = some false := kit_ty (by decide +kernel)
theorem kitB_l : PySem.W.kitAny K (.type "list") [.type "list", .type "tuple"] = some true := by unfold PySem.W.kitAny; rw [kit_ll]
theorem kitB_t : PySem.W.kitAny K (.type "tuple") [.type "list", .type "tuple"] = some true := by
  unfold PySem.W.kitAny
  rw [kit_tl]
  show PySem.W.kitAny K (.type "tuple") [.type "tuple"] = some true
  unfold PySem.W.kitAny
  rw [kit_tt]
end
theorem NoDiv.prm {p : Int} (h : NoDiv p) : Prm p := ⟨h.1, h.2.2⟩
section
variable {P : Program} {w : World} {K : PySem.W.Frag} {mg : Str → Option Value} {base : Heap} {cT cS : Addr}
def spEach (K : PySem.W.Frag) : Sp := fun vs H Q _ => ∃ (a : Addr) (p : Int) (wd : Nat) (xs : List V) (rws : List (List Int)), vs = [.int p, .int (wd : Int), .ref a] ∧ SqS K H a xs ∧ Paired (rRow H) xs rws ∧ wd ≤ 1000 ∧ (∀ r ∈ rws, isRow r p wd) ∧ ∀ H', Same H H' → Q .non H'
theorem ok_each (T : Tx K mg cT cS) {f : Addr} {fd : FuncData} (d : D K mg "check_each" s_check_each ["p", "wide", "rows"] f fd) : FnOk P w K mg base CX0 4 f fd ["p", "wide", "rows"] (spEach K) := by
  obtain ⟨f1, fd1, d1⟩ := T.d_is_row
  have G1 : FnOk P w K mg base CX0 3 f1 fd1 ["thing", "p", "wide"] spIsRow := ok_is_row T d1
  refine d.F.ok sc_check_each (fun vs H Q E h => ?_) (fun cdv A outer s H vs Q E hr h => ?_)
  · obtain ⟨a, p, wd, xs, rws, rfl, _⟩ := h
    rfl
  · obtain ⟨a, p, wd, xs, rws, rfl, hS, hp, hwd, hrw, q⟩ := h
    refine ⟨_, pss_one (ps_for PassesOwn.never rfl (pi_or (pi_enum (by rfl) T.b_enumerate (pa_cons (pv 2) pa_nil)) (pi_enumT (by rfl) T.b_enumerate (pa_cons (pv 2) pa_nil))) (pg_tup rfl (pgs_cons (pg_name (i := 3) sc_check_each.nd rfl (.inl rfl)) (pgs_cons (pg_name (i := 4) sc_check_each.nd rfl (.inl rfl)) pgs_nil)))
        (pss_one (ps_if (pt_not (pt_val (pe_call G1 hr rfl d1.m d1.F.kp d1.b .nil pass0 (pa_cons (pv 4) (pa_cons (pv 0) (pa_cons (pv 1) pa_nil)))))) pss_never pss_nil))), ?_⟩
    apply twice
    · intro hs
      apply twice
      · intro hd
        rcases hS with h | h
        · exact .inl ⟨_, rfl, a, xs, rfl, .of h, for_it (walk_enum (xs := xs)) (fun i σ H' => Same H H' ∧ ∃ x3 x4, σ = [some (.int p), some (.int (wd : Int)), some (.ref a), x3, x4]) ⟨.refl _, none, none, rfl⟩ (fun i σ H' _ q => .of (q.1 _ _ h)) hs hd⟩
        · exact .inr ⟨_, rfl, a, xs, rfl, .of h, for_it (walk_enumT (xs := xs)) (fun i σ H' => Same H H' ∧ ∃ x3 x4, σ = [some (.int p), some (.int (wd : Int)), some (.ref a), x3, x4]) ⟨.refl _, none, none, rfl⟩ (fun i σ H' _ q => .of (q.1 _ _ h)) hs hd⟩
      · rintro σ H2 ⟨s2, x3, x4, rfl⟩
        exact q _ s2
    · rintro i x σ H2 H3 hi ⟨s2, x3, x4, rfl⟩ ⟨tz, u1, u2, rfl, nz, rfl, e1, e2⟩
      cases (Option.some.inj e1)
      have s3 := same_new (o := .tup [V.int (i : Nat), u2]) nz
      obtain ⟨row, hrow, hrr⟩ := paired_get (paired_mono mono_row (s2.trans s3).keep hp) e2
      have hir := hrw row (List.mem_of_getElem? hrow)
      refine ⟨tz, _, rfl, .of upd_same, rfl, _, _, rfl, _, _, rfl, rfl, ?_⟩
      refine ⟨_, rfl, _, rfl, _, rfl, u2, row, p, wd, rfl, hrr, by have := hir.1; omega, hir, fun H4 s4 => ⟨_, rfl, iteF ⟨(s2.trans s3).trans s4, _, _, rfl⟩⟩⟩
def spClk : Sp := fun vs H Q _ => ∃ (n : Int), vs = [.int n] ∧ NoDiv n ∧ Q .non H
theorem ok_check_clock (T : Tx K mg cT cS) {f : Addr} {fd : FuncData} (d : D K mg "check_clock" s_check_clock ["p"] f fd) : FnOk P w K mg base CX0 3 f fd ["p"] spClk := by
  obtain ⟨f1, fd1, d1⟩ := T.d_is_clock
  have G1 : FnOk P w K mg base CX0 2 f1 fd1 ["thing"] spIsClock := ok_is_clock T d1
  refine d.F.ok sc_check_clock (fun vs H Q E h => ?_) (fun cdv A outer s H vs Q E hr h => ?_)
  · obtain ⟨n, rfl, _⟩ := h
    rfl
  · obtain ⟨n, rfl, nd, q⟩ := h
    exact ⟨_, pss_one (ps_if (pt_not (pt_val (pe_call G1 hr rfl d1.m d1.F.kp d1.b .nil pass0 (pa_cons (pv 0) pa_nil)))) pss_never pss_nil), ⟨_, rfl, n, rfl, nd, _, rfl, iteF q⟩⟩
def spRowsC (K : PySem.W.Frag) : Sp := fun vs H Q _ => ∃ (a : Addr) (p : Int) (wd : Nat) (xs : List V) (rws : List (List Int)), vs = [.int p, .int (wd : Int), .ref a] ∧ SqS K H a xs ∧ Paired (rRow H) xs rws ∧ rws.length ≤ 200 ∧ NoDiv p ∧ wd ≤ 200 ∧ (∀ r ∈ rws, isRow r p wd) ∧ ∀ H', Same H H' → Q .non H'
theorem ok_check_rows (T : Tx K mg cT cS) {f : Addr} {fd : FuncData} (d : D K mg "check_rows" s_check_rows ["p", "wide", "rows"] f fd) : FnOk P w K mg base CX0 5 f fd ["p", "wide", "rows"] (spRowsC K) := by
  obtain ⟨f1, fd1, d1⟩ := T.d_check_clock
  have G1 : FnOk P w K mg base CX0 3 f1 fd1 ["p"] spClk := ok_check_clock T d1
  obtain ⟨f2, fd2, d2⟩ := T.d_is_below
  have G2 : FnOk P w K mg base CX0 2 f2 fd2 ["thing", "end"] spIsBelow := ok_is_below T d2
  obtain ⟨f3, fd3, d3⟩ := T.d_check_each
  have G3 : FnOk P w K mg base CX0 4 f3 fd3 ["p", "wide", "rows"] (spEach K) := ok_each T d3
  obtain ⟨k1, hM1⟩ := T.c_MOST_WIDE
  obtain ⟨k2, hM2⟩ := T.c_MOST_ROWS
  refine d.F.ok sc_check_rows (fun vs H Q E h => ?_) (fun cdv A outer s H vs Q E hr h => ?_)
  · obtain ⟨a, p, wd, xs, rws, rfl, _⟩ := h
    rfl
  · obtain ⟨a, p, wd, xs, rws, rfl, hS, hp, hl, nd, hwd, hrw, q⟩ := h
    have hlen := paired_len hp
    refine ⟨_, pss_cons (ps_expr (pe_call G1 (hr.mono (by decide)) rfl d1.m d1.F.kp d1.b .nil pass0 (pa_cons (pv 0) pa_nil)))
      (pss_cons (ps_if (pt_not (pt_val (pe_call G2 (hr.mono (by decide)) rfl d2.m d2.F.kp d2.b .nil pass0 (pa_cons (pv 1) (pa_cons (pe_op op_add (pe_glob (v := .int 200) rfl hM1 ⟨_, rfl⟩) pe_int) pa_nil))))) pss_never pss_nil)
      (pss_cons (ps_if (PW.pt (pw_or (pt_not (pt_val (pe_callB call_isiT (by rfl) T.b_isinstance (by decide +kernel) (pa_cons (pv 2) (pa_cons (pe_tup (pa_cons (ty_list T.b_list) (pa_cons (ty_tuple T.b_tuple) pa_nil))) pa_nil)))))
        (pw_or1 (pt_cmpR op_gt (pe_callB call_len_seq (by rfl) T.b_len PySem.boot_len (pa_cons (pv 2) pa_nil)) (pe_glob (v := .int 200) rfl hM2 ⟨_, rfl⟩) (nomark _))))) pss_never pss_nil)
      (pss_one (ps_expr (pe_call G3 hr rfl d3.m d3.F.kp d3.b .nil pass0 (pa_cons (pv 0) (pa_cons (pv 1) (pa_cons (pv 2) pa_nil)))))))), ?_⟩
    refine ⟨_, rfl, p, rfl, nd, ?_⟩
    refine ⟨_, rfl, _, _, rfl, rfl, _, _, rfl, ?_⟩
    rw [decide_eq_true ⟨by omega, by omega⟩]
    refine ⟨_, rfl, iteF ?_⟩
    refine ⟨_, rfl, by show 2 ≤ sizeLine; decide, fun tt ntt => ?_⟩
    have s1 := same_new (o := .tup [V.ty "list", V.ty "tuple"]) ntt
    have hS1 := hS.same s1
    have rest : ∀ (G : Prop), (¬ ((200 : Int) < ((xs.length : Nat) : Int)) → G) → G := fun G h => h (by omega)
    rcases hS1 with h | h
    · refine ⟨_, tt, _, _, _, _, rfl, upd_same, .cons (.ty _) (.cons (.ty _) .nil), .base (.lst h), kitB_l, _, rfl, iteF ⟨_, rfl, _, _, rfl, .inl (.of h), _, _, rfl, rfl, _, rfl, ?_⟩⟩
      rw [decide_eq_false (by omega)]
      exact iteF ⟨_, rfl, _, rfl, _, rfl, a, p, wd, xs, rws, rfl, .inl h, paired_mono mono_row s1.keep hp, by omega, hrw, fun H' s' => q _ (s1.trans s')⟩
    · refine ⟨_, tt, _, _, _, _, rfl, upd_same, .cons (.ty _) (.cons (.ty _) .nil), .base (.tup h), kitB_t, _, rfl, iteF ⟨_, rfl, _, _, rfl, .inr (.of h), _, _, rfl, rfl, _, rfl, ?_⟩⟩
      rw [decide_eq_false (by omega)]
      exact iteF ⟨_, rfl, _, rfl, _, rfl, a, p, wd, xs, rws, rfl, .inr h, paired_mono mono_row s1.keep hp, by omega, hrw, fun H' s' => q _ (s1.trans s')⟩
def spLadder (K : PySem.W.Frag) : Sp := fun vs H Q _ => ∃ (a : Addr) (p : Int) (wd : Nat) (xs : List V) (rws : List (List Int)), vs = [.int p, .int (wd : Int), .ref a] ∧ SqS K H a xs ∧ Paired (rRow H) xs rws ∧ rws.length ≤ 200 ∧ NoDiv p ∧ wd ≤ 200 ∧ (wd < 64 ∨ rws.length < 64) ∧ (∀ r ∈ rws, isRow r p wd) ∧
  ∀ H' v lad, Same H H' → rTup rRow H' v lad → IsLad p wd rws lad → lad.length ≤ rws.length → Q v H'
theorem ok_ladder (T : Tx K mg cT cS) {f : Addr} {fd : FuncData} (d : D K mg "ladder" s_ladder ["p", "wide", "rows"] f fd) : FnOk P w K mg base CX0 6 f fd ["p", "wide", "rows"] (spLadder K) := by
  obtain ⟨f1, fd1, d1⟩ := T.d_check_rows
  have G1 : FnOk P w K mg base CX0 5 f1 fd1 ["p", "wide", "rows"] (spRowsC K) := ok_check_rows T d1
  obtain ⟨f2, fd2, d2⟩ := T.d_ladder_of
  have G2 : FnOk P w K mg base CX0 3 f2 fd2 ["p", "wide", "rows"] (spLadOf K) := ok_lad_of T d2
  refine d.F.ok sc_ladder (fun vs H Q E h => ?_) (fun cdv A outer s H vs Q E hr h => ?_)
  · obtain ⟨a, p, wd, xs, rws, rfl, _⟩ := h
    rfl
  · obtain ⟨a, p, wd, xs, rws, rfl, hS, hp, hl, nd, hwd, h64, hrw, q⟩ := h
    refine ⟨_, pss_cons (ps_expr (pe_call G1 hr rfl d1.m d1.F.kp d1.b .nil pass0 (pa_cons (pv 0) (pa_cons (pv 1) (pa_cons (pv 2) pa_nil)))))
      (pss_one (ps_ret (pe_call G2 (hr.mono (by decide)) rfl d2.m d2.F.kp d2.b .nil pass0 (pa_cons (pv 0) (pa_cons (pv 1) (pa_cons (pv 2) pa_nil)))))), ?_⟩
    refine ⟨_, rfl, _, rfl, _, rfl, a, p, wd, xs, rws, rfl, hS, hp, hl, nd, hwd, hrw, fun H2 s2 => ?_⟩
    exact ⟨_, rfl, _, rfl, _, rfl, a, p, wd, xs, rws, rfl, hS.same s2, paired_mono mono_row s2.keep hp, by omega, nd.prm, nd.2.1, by omega, h64, hrw, fun H' v lad s' => q H' v lad (s2.trans s')⟩
end
end S4

/-! zip of two, each a list or a tuple -/
namespace TT
open PySem PySem.Spec PyProof.Rows L2
def SqK : Bool → PySem.W.Frag → Hp → Addr → List V → Prop
  | true, K, H, a, xs => SqL K H a xs
  | false, K, H, a, xs => SqT K H a xs
def ItO : Bool → Heap → Addr → Addr → Nat → Prop
  | true, h, it, a, i => h.IsListIter it a i
  | false, h, it, a, i => h.IsTupleIter it a i
def SeO : Bool → Heap → Addr → Array Value → Prop
  | true, h, a, xs => h.IsList a xs
  | false, h, a, xs => h.IsTuple a xs
theorem ItO.obj {b : Bool} {h : Heap} {it a : Addr} {i : Nat} (x : ItO b h it a i) : ∃ o, h.get? it = some o ∧ ∀ v, o.data ≠ .cell v := by
  cases b <;> (obtain ⟨o, e, _, d⟩ := x; exact ⟨o, e, fun v q => by rw [d] at q; cases q⟩)
theorem ItO.at {b : Bool} {h h' : Heap} {it a : Addr} {i : Nat} (x : ItO b h it a i) (k : ∀ o, h.get? it = some o → h'.get? it = some o) : ItO b h' it a i := by
  cases b
  · exact Heap.IsTupleIter.at (show h.IsTupleIter it a i from x) k
  · exact Heap.IsListIter.at (show h.IsListIter it a i from x) k
theorem drawsK {prog : Program} {w : World} {A : Around} (hh : A.handled = none) (b : Bool) (it a : Addr) (hne : a ≠ it) (items : Array Value) :
    Draws prog w A it [it, a] items.size (fun i v => items[i]? = some v) (fun i h => ItO b h it a i ∧ SeO b h a items) := by
  cases b
  · exact Draws.tuple hh it a hne items
  · exact Draws.list hh it a hne items
section
variable {X : Cx} {pins : List (Addr × Obj)} {σ : L2.St} {H : Hp} {s : Shared} {a : Addr} {xs ys : List V} {b : Bool}
theorem seqK (I : L2.Inv X pins σ H s) (h : SqK b X.K H a xs) : ∃ its : List Value, L2.Vals xs its ∧ SeO b s.heap a its.toArray ∧ a < s.heap.objs.size := by
  cases b
  · obtain ⟨its, r, p, _⟩ := I.tuple h
    exact ⟨its, r, p, p.lt⟩
  · obtain ⟨its, r, p, _⟩ := I.list h
    exact ⟨its, r, p.isList, p.lt⟩
theorem injK (I : L2.Inv X pins σ H s) (h : SqK b X.K H a xs) (h' : SqK b X.K H a ys) : xs = ys := by
  cases b
  · exact I.tuple_inj h h'
  · exact I.list_inj h h'
end
def ItzM (b1 b2 : Bool) (K : PySem.W.Frag) (a b : Addr) : It :=
  ⟨fun i H => ∃ (xs ys : List V) (x y : V), SqK b1 K H a xs ∧ SqK b2 K H b ys ∧ xs[i]? = some x ∧ ys[i]? = some y,
    fun i H v H' => ∃ T x y, v = .ref T ∧ H T = none ∧ H' = upd H T (.tup [x, y]) ∧ (∀ xs, SqK b1 K H a xs → xs[i]? = some x) ∧ ∀ ys, SqK b2 K H b ys → ys[i]? = some y,
    fun i H => ∃ xs ys : List V, SqK b1 K H a xs ∧ SqK b2 K H b ys ∧ i = min xs.length ys.length⟩
theorem turn_zipM {P : Program} {w : World} {K : PySem.W.Frag} {elts : List Expr} {kk : Nat} {tpos : Pos} {b1 b2 : Bool} {a b z TI TO i1 i2 : Addr} (D : ZipSep2 z TI TO i1 i2 [i1, a] [i2, b]) (ha : a ≠ i1) (hb : b ≠ i2) :
    Turn P w K (.Tuple elts kk tpos) (ItzM b1 b2 K a b) [z, TI, TO, i1, i2] z (fun i h => IsZip h z TI TO .none ∧ IsTupOf2 h TI (.ref i1) (.ref i2) ∧ (∃ x y, IsTupOf2 h TO x y) ∧ ItO b1 h i1 a i ∧ ItO b2 h i2 b i) where
  mem := by simp
  obj := fun i h st c hc => by
    obtain ⟨hz, hTI, ⟨x, y, hTO⟩, h1, h2⟩ := st
    have e' : c = z ∨ c = TI ∨ c = TO ∨ c = i1 ∨ c = i2 := by simpa using hc
    rcases e' with q | q | q | q | q
    · rw [q]; exact ⟨_, hz, fun v q => nomatch q⟩
    · rw [q]; exact ⟨_, hTI, fun v q => nomatch q⟩
    · rw [q]; exact ⟨_, hTO, fun v q => nomatch q⟩
    · rw [q]; exact h1.obj
    · rw [q]; exact h2.obj
  keep := fun i h h' st k => by
    obtain ⟨hz, hTI, ⟨x, y, hTO⟩, h1, h2⟩ := st
    exact ⟨k z (by simp) _ hz, k TI (by simp) _ hTI, ⟨x, y, k TO (by simp) _ hTO⟩, h1.at fun o q => k i1 (by simp) o q, h2.at fun o q => k i2 (by simp) o q⟩
  item := by
    intro X hP hw hK hc i pins s σ H E I hf st hg
    subst hP hw hK
    obtain ⟨hz, hTI, ⟨x0, y0, hTO⟩, h1, h2⟩ := st
    obtain ⟨xs, ys, x, y, hqx, hqy, hx, hy⟩ := hg
    obtain ⟨its, rv, p, _⟩ := seqK I hqx
    obtain ⟨its2, rv2, p2, _⟩ := seqK I hqy
    obtain ⟨u, hu, ru⟩ := rv.get hx
    obtain ⟨u2, hu2, ru2⟩ := rv2.get hy
    have hzl : z < s.heap.objs.size := Heap.lt_size hz
    have lt1 : i < its.toArray.size := by rw [List.size_toArray]; exact (List.getElem?_eq_some_iff.mp hu).1
    have lt2 : i < its2.toArray.size := by rw [List.size_toArray]; exact (List.getElem?_eq_some_iff.mp hu2).1
    refine wpAny_pyNext_zipD2_item D (drawsK (A := X.A.in1) (I.ok.hd hc) b1 i1 a ha its.toArray) (drawsK (A := X.A.in1) (I.ok.hd hc) b2 i2 b hb its2.toArray) hz hTI hTO ⟨h1, p⟩ ⟨h2, p2⟩ lt1 lt2 fun v1 v2 h' tk g1 g2 z' TO' d1 d2 hT hsz hk => ?_
    have e1 : v1 = u := by
      have q : its.toArray[i]? = some v1 := g1
      rw [show its.toArray[i]? = its[i]? by simp, hu] at q
      exact (Option.some.inj q).symm
    have e2 : v2 = u2 := by
      have q : its2.toArray[i]? = some v2 := g2
      rw [show its2.toArray[i]? = its2[i]? by simp, hu2] at q
      exact (Option.some.inj q).symm
    subst e1 e2
    refine ⟨_, rfl, wpAny_letOwnedTupleGo_zip (s := { s with heap := h', toks := tk }) z' fun h'' z'' sb => ?_⟩
    have hT2 : h''.get? s.heap.objs.size = some { cls := .type "tuple", data := .seq #[v1, v2] } := (sb.2 _ (Nat.ne_of_gt hzl)).trans hT
    have new : ObjOk X.prog X.w (upd H s.heap.objs.size (.tup [x, y])) h'' s.heap.objs.size (.tup [x, y]) :=
      ⟨by show 2 ≤ sizeLine; decide, [v1, v2], .cons ru (.cons ru2 .nil), ⟨_, hT2, rfl, _, rfl⟩⟩
    have I1 : L2.Inv X pins σ (upd H s.heap.objs.size (.tup [x, y])) { s with heap := h'', toks := tk } :=
      I.turnedNew (t' := tk) (ch := [z, TI, TO, i1, i2]) (fun c o hb q => (sb.2 c (fun q' => hb (by simp [q']))).trans (hk c o (fun q' => hb (by simp [q'])) (fun q' => hb (by simp [q'])) (fun q' => hb (by simp [q'])) (fun q' => hb (by simp [q'])) q)) hf (Nat.le_refl _) new
    refine ⟨.ref s.heap.objs.size, _, I1, rfl, ⟨_, x, y, rfl, I.hok.fresh (Nat.le_refl _), rfl, fun l hl => by rw [injK I hl hqx]; exact hx, fun l hl => by rw [injK I hl hqy]; exact hy⟩, ⟨z'', ?_, ⟨v1, v2, ?_⟩, ?_, ?_⟩, fun c hcm => ?_⟩
    · exact (sb.2 _ D.TIz).trans (hk _ _ D.TIz D.TITO D.TIi1 D.TIi2 hTI)
    · exact (sb.2 _ D.TOz).trans TO'
    · exact d1.1.at fun o q => (sb.2 _ D.zi1.symm).trans q
    · exact d2.1.at fun o q => (sb.2 _ D.zi2.symm).trans q
    · have hlt : c < s.heap.objs.size := by
        have e' : c = z ∨ c = TI ∨ c = TO ∨ c = i1 ∨ c = i2 := by simpa using hcm
        rcases e' with q | q | q | q | q
        · rw [q]; exact hzl
        · rw [q]; exact Heap.lt_size hTI
        · rw [q]; exact Heap.lt_size hTO
        · rw [q]; obtain ⟨_, e1, _⟩ := h1.obj; exact Heap.lt_size e1
        · rw [q]; obtain ⟨_, e2, _⟩ := h2.obj; exact Heap.lt_size e2
      rw [upd_ne (Nat.ne_of_lt hlt)]
      exact (hf c hcm).1
  done := by
    intro X hP hw hK hc i pins s σ H E I hf st hg
    subst hP hw hK
    obtain ⟨hz, hTI, ⟨x0, y0, hTO⟩, h1, h2⟩ := st
    obtain ⟨xs, ys, hqx, hqy, hend⟩ := hg
    obtain ⟨its, rv, p, _⟩ := seqK I hqx
    obtain ⟨its2, rv2, p2, _⟩ := seqK I hqy
    have l1 := rv.length
    have l2 := rv2.length
    exact wpAny_pyNext_zipD2_end D (drawsK (A := X.A.in1) (I.ok.hd hc) b1 i1 a ha its.toArray) (drawsK (A := X.A.in1) (I.ok.hd hc) b2 i2 b hb its2.toArray) hz hTI hTO ⟨h1, p⟩ ⟨h2, p2⟩ (by rw [List.size_toArray]; omega) (by rw [List.size_toArray]; omega) (by rw [List.size_toArray, List.size_toArray]; omega)
      fun h' tk hk => ⟨rfl, I.turnedL (t' := tk) (ch := [z, TI, TO, i1, i2]) (fun c o hb q => hk c o (fun q' => hb (by simp [q'])) (fun q' => hb (by simp [q'])) (fun q' => hb (by simp [q'])) (fun q' => hb (by simp [q'])) q) hf⟩
  self := fun A i s Q E st h => wpAny_pyIter_zip st.1 h
def itObj (b : Bool) (a : Addr) : Obj := match b with
  | true => { cls := .type "list_iterator", data := .fields #[.ref a, .int 0 0] }
  | false => { cls := .type "tuple_iterator", data := .fields #[.ref a, .int 0 0] }
theorem beginsK (b : Bool) (a : Addr) (items : Array Value) : Begins (.ref a) (itObj b a) fun h => SeO b h a items := by
  cases b
  · exact begins_tuple a items
  · exact begins_list a items
theorem itK {b : Bool} {h : Heap} {it a : Addr} (e : h.get? it = some (itObj b a)) : ItO b h it a 0 := by
  cases b
  · exact ⟨_, e, rfl, rfl⟩
  · exact ⟨_, e, rfl, rfl⟩
def iZipM (K : PySem.W.Frag) (ta : TA) : TI := fun σ H R => ta σ H fun vs H1 => ∃ a b xs ys b1 b2, vs = [.ref a, .ref b] ∧ SqK b1 K H1 a xs ∧ SqK b2 K H1 b ys ∧ R (ItzM b1 b2 K a b) H1
theorem pi_zipM {X : Cx} {e e2 : Expr} {ta : TA} {p pos tpos : Pos} {elts : List Expr} {kk : Nat} (hg : Gl X "zip") (hm : X.mg "zip" = none) (ha : PA X [e, e2] ta)
    (hs : starEach [e, e2] X.env = (false, eval e X.env) :: starEach [e2] X.env := by rfl) (hpl : (backTo pos (starEach [e2] X.env)).any (·.1) = false := by rfl) :
    PI X (.Tuple elts kk tpos) (.Call (.Name "zip" p) [e, e2] [] pos) (iZipM X.K ta) := by
  refine ⟨fun pins s σ H R I h => ?_⟩
  refine Call_ (ld_blt I hg hm PyProof.Rows.boot_zip (PyProof.Rows.callWith_type1 (thn (ha.run pos pins s σ H _ I h) fun us s1 ⟨vs, H1, I1, r1, q1⟩ => ?_) hs hpl))
  obtain ⟨a, b, xs, ys, b1, b2, ex, hqx, hqy, q⟩ := q1
  subst ex
  cases r1 with
  | cons r rr =>
    cases rr with
    | cons r' rr =>
      cases rr
      cases r
      cases r'
      have fresh5 : ∀ c, c ∈ [s1.heap.objs.size + 4, s1.heap.objs.size + 2, s1.heap.objs.size + 3, s1.heap.objs.size, s1.heap.objs.size + 1] → FpOk X pins H1 c := fun c hcm => by
        have e' : c = s1.heap.objs.size + 4 ∨ c = s1.heap.objs.size + 2 ∨ c = s1.heap.objs.size + 3 ∨ c = s1.heap.objs.size ∨ c = s1.heap.objs.size + 1 := by simpa using hcm
        have hle : s1.heap.objs.size ≤ c := by
          rcases e' with z | z | z | z | z
          · rw [z]; exact Nat.le_add_right _ _
          · rw [z]; exact Nat.le_add_right _ _
          · rw [z]; exact Nat.le_add_right _ _
          · rw [z]; exact Nat.le_refl _
          · rw [z]; exact Nat.le_add_right _ _
        exact I1.fpOk hle (I1.hok.fresh hle)
      obtain ⟨its, rv, p1, l1⟩ := seqK I1 hqx
      obtain ⟨its2, rv2, p2, l2⟩ := seqK I1 hqy
      refine zip_begins2 (beginsK b1 a its.toArray) (beginsK b2 b its2.toArray) p1 p2 fun h' hz hTI hTO h1 h2 hsz hk => wpAny_pyIter_zip hz ?_
      have I2 : L2.Inv X pins σ H1 { s1 with heap := h' } := I1.kept (t' := s1.toks) hk
      exact ⟨s1.heap.objs.size + 4, [s1.heap.objs.size + 4, s1.heap.objs.size + 2, s1.heap.objs.size + 3, s1.heap.objs.size, s1.heap.objs.size + 1], _, _, H1, rfl, I2,
        turn_zipM (zip_sep2 (fun c hc => by rw [List.mem_singleton.mp hc]; exact l1) (fun c hc => by rw [List.mem_singleton.mp hc]; exact l2)) (Nat.ne_of_lt l1) (Nat.ne_of_lt (Nat.lt_succ_of_lt l2)), ⟨hz, hTI, ⟨_, _, hTO⟩, itK h1, itK h2⟩, fresh5, q⟩
theorem walk_zipM {K : PySem.W.Frag} {a b : Addr} {b1 b2 : Bool} {xs ys : List V} {n : Nat} (hn : n = min xs.length ys.length) : Walk (ItzM b1 b2 K a b) n (fun H => SqK b1 K H a xs ∧ SqK b2 K H b ys) (YPair (fun i => xs[i]?) (fun i => ys[i]?)) := by
  subst hn
  refine ⟨fun i _ hi q => ?_, fun _ q => ⟨xs, ys, q.1, q.2, rfl⟩, fun i H v H' _ q y => ?_⟩
  · have h1 : i < xs.length := by omega
    have h2 : i < ys.length := by omega
    exact ⟨xs, ys, xs[i], ys[i], q.1, q.2, by simp [h1], by simp [h2]⟩
  · obtain ⟨T, x, z, h1, h2, h3, h4, h5⟩ := y
    exact ⟨T, x, z, h1, h2, h3, h4 xs q.1, h5 ys q.2⟩
end TT

/-! any(t), t a tuple of ints -/
namespace TT
open PySem PySem.Spec PyProof.Rows L2
def rAnyTI (K : PySem.W.Frag) : List V → Hp → VK → Prop := fun vs H Q => ∃ (a : Addr) (ns : List Int), vs = [V.ref a] ∧ SqT K H a (ns.map V.int) ∧ Q (.bl (ns.any fun n => n != 0)) H
theorem truth_ints {prog : Program} {w : World} {A : Around} {ns : List Int} {its : List Value} (h : Vals (ns.map V.int) its) : TruthOf prog w A (fun i v => its.toArray[i]? = some v) fun i => ns.getD i 0 != 0 := by
  intro i v s Q E hi q
  have hi : its[i]? = some v := by simpa using hi
  have hl := h.length
  rw [List.length_map] at hl
  have hlt := (List.getElem?_eq_some_iff.mp hi).1
  have hn : ns[i]? = some (ns[i]'(by omega)) := List.getElem?_eq_getElem _
  obtain ⟨u, hu, ru⟩ := h.get (show (ns.map V.int)[i]? = some (V.int (ns[i]'(by omega))) by rw [List.getElem?_map, hn]; rfl)
  rw [hi] at hu
  cases (Option.some.inj hu)
  obtain ⟨t, e⟩ := ru
  rw [e]
  refine PyProof.Rows.truthy_int ?_
  have : ns.getD i 0 = ns[i]'(by omega) := by rw [List.getD_eq_getElem?_getD, hn]; rfl
  simp only [this] at q
  exact q
theorem any_rangeI (ns : List Int) : ((List.range ns.length).any fun i => ns.getD i 0 != 0) = ns.any fun n => n != 0 := by
  rw [Bool.eq_iff_iff, List.any_eq_true, List.any_eq_true]
  constructor
  · rintro ⟨i, hi, h⟩
    have hi := List.mem_range.mp hi
    have e : ns.getD i 0 = ns[i]'hi := by rw [List.getD_eq_getElem?_getD, List.getElem?_eq_getElem hi]; rfl
    exact ⟨_, List.getElem_mem hi, by rw [← e]; exact h⟩
  · rintro ⟨x, hx, h⟩
    obtain ⟨i, hi, rfl⟩ := List.getElem_of_mem hx
    refine ⟨i, List.mem_range.mpr hi, ?_⟩
    have e : ns.getD i 0 = ns[i]'hi := by rw [List.getD_eq_getElem?_getD, List.getElem?_eq_getElem hi]; rfl
    rw [e]
    exact h
theorem cr_anyTI {X : Cx} (hc : X.calm = true) : CallR X (.builtin "any") (rAnyTI X.K) := by
  intro pins s σ H vs us Q I r h
  obtain ⟨a, ns, rfl, hs, q⟩ := h
  obtain ⟨its, rv, hl, _⟩ := I.tuple hs
  rw [Vals.ref1 r]
  obtain ⟨o, ho, hcl, n, hd⟩ := id hl
  have hlt := Heap.lt_size ho
  have hlen := rv.length
  rw [List.length_map] at hlen
  refine call_any_walk (iter_tuple hl ⟨s.heap.objs.size, [s.heap.objs.size, a], [s.heap.objs.size], its.toArray.size, _, _, _, rfl, Walks.tuple (prog := X.prog) (w := X.w) (A := X.A.in1) (I.ok.hd hc) s.heap.objs.size a (Nat.ne_of_lt hlt) its.toArray,
    ⟨⟨{ cls := .type "tuple_iterator", data := .fields #[.ref a, .int 0 0] }, by simp [Heap.get?, Heap.push], rfl, rfl⟩, ⟨o, Heap.get?_push_of_some _ ho, hcl, n, hd⟩⟩, truth_ints rv, fun h' tk hk => ?_⟩)
  rw [List.size_toArray, ← hlen, any_rangeI]
  refine ⟨.bl _, H, I.kept fun b o eo => hk b o (fun hm => absurd (Heap.lt_size eo) (by rw [List.mem_singleton.mp hm]; exact Nat.lt_irrefl _)) (Heap.get?_push_of_some _ eo), rfl, q⟩
theorem anyTIK {X : Cx} {K : PySem.W.Frag} (h : X.K = K) (hc : X.calm = true) : CallR X (.builtin "any") (rAnyTI K) := h ▸ cr_anyTI hc
end TT
namespace S4
open PySem L2 TT
theorem catK {X : Cx} {K : PySem.W.Frag} (h : X.K = K) : OpR X (binaryOp .Add) (rCatA K) := h ▸ op_catA
theorem repK {X : Cx} {K : PySem.W.Frag} (h : X.K = K) : OpR X (binaryOp .Mult) (rRepA K) := h ▸ op_repA
theorem slK {X : Cx} {K : PySem.W.Frag} (h : X.K = K) : SlR X (rSlA K) := h ▸ sl_tupA
end S4

/-! any(a), a a list of ints -/
namespace TT
open PySem PySem.Spec PyProof.Rows L2
def rAnyLI (K : PySem.W.Frag) : List V → Hp → VK → Prop := fun vs H Q => ∃ (a : Addr) (ns : List Int), vs = [V.ref a] ∧ SqL K H a (ns.map V.int) ∧ Q (.bl (ns.any fun n => n != 0)) H
theorem cr_anyLI {X : Cx} (hc : X.calm = true) : CallR X (.builtin "any") (rAnyLI X.K) := by
  intro pins s σ H vs us Q I r h
  obtain ⟨a, ns, rfl, hs, q⟩ := h
  obtain ⟨its, rv, hl, _⟩ := I.list hs
  rw [Vals.ref1 r]
  have hlen := rv.length
  rw [List.length_map] at hlen
  refine call_any_walk (iter_any hl.isList fun s₂ e2 st hne => ?_)
  subst e2
  refine ⟨_, _, _, _, _, _, _, rfl, Walks.list (A := X.A.in1) (I.ok.hd hc) _ a hne its.toArray, st, truth_ints rv, fun h' tk hk => ?_⟩
  refine ⟨.bl _, H, I.kept fun b o eo => hk b o (fun hmem => ?_) (Heap.get?_push_of_some _ eo), ?_, q⟩
  · rcases List.mem_cons.mp hmem with e1 | hmem
    · exact absurd (e1 ▸ Heap.lt_size eo) (Nat.lt_irrefl _)
    · cases hmem
  · show Value.bool _ = Value.bool _
    rw [← any_rangeI, List.size_toArray, hlen]
theorem anyLIK {X : Cx} {K : PySem.W.Frag} (h : X.K = K) (hc : X.calm = true) : CallR X (.builtin "any") (rAnyLI K) := h ▸ cr_anyLI hc
theorem anyLK {X : Cx} {K : PySem.W.Frag} (h : X.K = K) (hc : X.calm = true) : CallR X (.builtin "any") (rAny K) := h ▸ cr_any hc
theorem piLK {X : Cx} {K : PySem.W.Frag} {tg l : Expr} {tl : TE} (hh : X.K = K) (hl : PI X tg l (iList X.K tl)) : PI X tg l (iList K tl) := hh ▸ hl
end TT

/-! calls of what an expression tells; == of the same objects -/
namespace EE
open PySem PySem.Spec PyProof.Rows L2
section
variable {X : Cx} {CX : CXT} {k : Nat} {S : Addr → Option Sp} {E : L2.St → XK} {pos : Pos} {e fe : Expr} {es : List Expr} {tf : TE} {t : TA}
theorem pe_callF (hf : PE X fe tf) (A : ∀ f sp, S f = some sp → HeldS X CX k f sp) (hr : Room k X.A) (hx : ∀ σ, PassesAt CX X σ (E σ)) (ha : PA X (e :: es) t)
    (ht : eval (.Call fe (e :: es) [] pos) X.env = (do callWith pos (← eval fe X.env) [] (backTo pos (starEach (e :: es) X.env)) (backToKw pos (keywordEach [] X.env))) := by rfl)
    (he : starEach (e :: es) X.env = (false, eval e X.env) :: starEach es X.env := by rfl) (hpl : (backTo pos (starEach es X.env)).any (·.1) = false := by rfl) : PE X (.Call fe (e :: es) [] pos) (tCallF S E tf t) := by
  refine ⟨fun pins s σ H Q I h => ?_⟩
  refine Call_ (thn (hf.run pins s σ H _ I h) fun u s1 ⟨y, H1, I1, ry, f, sp, ey, hS, q⟩ => ?_) ht
  subst ey
  obtain rfl : u = Value.ref f := ry
  obtain ⟨fd, ps, F, hk, hb⟩ := (A f sp hS).ex
  refine PySem.W.callWith_K (h₀ := X.base) I.ok.mod.kin hk (thn (ha.run pos pins s1 σ H1 _ I1 q) fun us s2 ⟨vs, H2, I2, r, q2⟩ => ⟨I2.kIn, ?_⟩) he hpl
  exact run_fnS F hr hb (hx σ) I2 r q2
end
def DSame : Eqv := fun x y _ => ∃ a, x = .ref a ∧ y = .ref a
theorem mon_same : Mon DSame := fun _ _ _ _ _ d => d
theorem eqG_same {X : Cx} : EqG X 0 DSame := by
  intro A pins s σ H x y u v sb I rx ry d
  obtain ⟨a, rfl, rfl⟩ := d
  cases rx
  cases ry
  exact SeqAt.EqAt.same (A := A) (s := s) (.ref a) X.prog X.w X.xe _ ⟨rfl, H, I, Ext.rfl'⟩
theorem op_eqSame {X : Cx} (hr : Room 1 X.A) : OpR X (compareOp .Eq) (rEqG (DTup X.K DSame)) := op_eqG (rcG_tup mon_same eqG_same) hr
theorem XfC.of {K : PySem.W.Frag} {C : Addr} (e : ExcC K C) : XfC K C := ⟨e.hg, e.hk, e.hs, e.hd⟩
end EE

namespace S4
open PySem L2 TT MM EE
/-! ### rows that are 1 in one place alone -/
theorem vec_zero (n x : Nat) : vec (List.replicate n 0) x = 0 := by
  unfold vec
  rw [List.getD_eq_getElem?_getD]
  cases e : (List.replicate n (0 : Int))[x]? with
  | none => rfl
  | some y => exact (List.mem_replicate.mp (List.mem_of_getElem? e)).2
theorem cat_rows {K : PySem.W.Frag} {H : Hp} {u v : V} {l m : List Int} {Q : V → Hp → Prop} (hu : rRow H u l) (hv : rRow H v m) (hz : l.length + m.length ≤ 100000) (q : ∀ H' w, Same H H' → rRow H' w (l ++ m) → Q w H') : rCatA K u v H Q := by
  obtain ⟨a, rfl, ha⟩ := hu
  obtain ⟨b, rfl, hb⟩ := hv
  refine ⟨a, b, _, _, rfl, rfl, .of ha, .of hb, by rw [List.length_map, List.length_map]; exact Nat.le_trans hz (by decide), fun e => ?_, fun _ e => ?_, fun _ _ p np => ?_⟩
  · refine q H _ (.refl _) ⟨b, rfl, ?_⟩
    rw [List.map_eq_nil_iff.mp e]
    exact hb
  · refine q H _ (.refl _) ⟨a, rfl, ?_⟩
    rw [List.map_eq_nil_iff.mp e, List.append_nil]
    exact ha
  · exact q _ _ (same_new np) ⟨p, rfl, by rw [upd_same, List.map_append]⟩
/-- the row that is 1 in a place alone -/
def uRow (n i : Nat) : List Int := List.replicate i 0 ++ [1] ++ List.replicate (n - i - 1) 0
theorem uRow_len {n i : Nat} (h : i < n) : (uRow n i).length = n := by
  unfold uRow
  rw [List.length_append, List.length_append, List.length_replicate, List.length_replicate, List.length_singleton]
  omega
theorem rep_getD (k x : Nat) : (List.replicate k (0 : Int)).getD x 0 = 0 := vec_zero k x
theorem uRow_at {n i : Nat} (x : Nat) : (uRow n i).getD x 0 = if x = i then 1 else 0 := by
  unfold uRow
  rw [List.append_assoc, List.getD_eq_getElem?_getD]
  by_cases h : x < i
  · rw [List.getElem?_append_left (by rw [List.length_replicate]; exact h), ← List.getD_eq_getElem?_getD, rep_getD, if_neg (by omega)]
  · rw [List.getElem?_append_right (by rw [List.length_replicate]; omega), List.length_replicate]
    by_cases e : x = i
    · subst e
      rw [Nat.sub_self, if_pos rfl]
      rfl
    · obtain ⟨y, hy⟩ : ∃ y, x - i = y + 1 := ⟨x - i - 1, by omega⟩
      rw [hy, if_neg e]
      show ((List.replicate (n - i - 1) (0 : Int))[y]?).getD 0 = 0
      rw [← List.getD_eq_getElem?_getD, rep_getD]
def uRows (n : Nat) : List (List Int) := (List.range n).map (uRow n)
section
variable {P : Program} {w : World} {K : PySem.W.Frag} {mg : Str → Option Value} {base : Heap} {cT cS : Addr}
def spUnits : Sp := fun vs H Q _ => ∃ (n : Nat), vs = [.int (n : Int)] ∧ n ≤ 1000 ∧ ∀ H' a xs, Same H H' → H a = none → H' a = some (.lst xs) → Paired (rRow H') xs (uRows n) → Q (.ref a) H'
theorem ok_units (T : Tx K mg cT cS) {f : Addr} {fd : FuncData} (d : D K mg "unit_rows" s_unit_rows ["wide"] f fd) : FnOk P w K mg base CX0 1 f fd ["wide"] spUnits := by
  refine d.F.ok sc_unit_rows (fun vs H Q E h => ?_) (fun cdv A outer s H vs Q E hr h => ?_)
  · obtain ⟨n, rfl, _⟩ := h
    rfl
  · obtain ⟨n, rfl, hn, q⟩ := h
    refine ⟨_, pss_one (ps_ret (pe_lc (own := [("place", 1)]) (g := gName 1) (tt := tYes) rfl sc_unit_rows.nd (pi_range1 rfl T.b_range (pa_cons (pv 0) pa_nil)) (blkOk_by (N := N_unit_rows) (sc := defScope s_unit_rows) (by decide +kernel))
          (fun _ _ _ _ _ => pg_name (i := 1) sc_unit_rows.nd rfl (Or.inl rfl)) (fun _ _ _ _ _ => pts_nil)
          (fun _ _ _ _ _ => pe_op (catK (K := K) rfl) (pe_op (catK (K := K) rfl) (pe_op (repK (K := K) rfl) (pe_tup (pa_cons pe_int pa_nil)) (pv 1)) (pe_tup (pa_cons pe_int pa_nil))) (pe_op (repK (K := K) rfl) (pe_tup (pa_cons pe_int pa_nil)) (pe_op op_sub (pe_op op_sub (pv 0) (pv 1)) pe_int))))), ?_⟩
    refine ⟨_, rfl, _, rfl, by omega, by omega, fun D hD => ?_⟩
    refine lc_fm (walk_range (lo := 0) (n := ((n : Nat) : Int).toNat)) rRow (fun i => some (uRow n i)) hD (fun _ _ => trivial) ?_ ?_
    · rintro i x H2 H3 hi pv ⟨rfl, rfl⟩
      rw [Int.toNat_natCast] at hi
      refine ⟨rfl, by show 1 ≤ sizeLine; decide, fun t nt => ⟨_, rfl, ?_⟩⟩
      show rRepA K (.ref t) (.int (0 + (i : Int))) _ _
      rw [Int.zero_add]
      refine zeros upd_same (by omega) fun H4 v4 s4 h4 => ?_
      have s04 := (same_new (o := .tup [V.int 0]) nt).trans s4
      refine ⟨by show 1 ≤ sizeLine; decide, fun t1 nt1 => ?_⟩
      have s5 := same_new (o := .tup [V.int 1]) nt1
      refine cat_rows (m := [1]) (mono_row _ _ _ _ s5.keep h4) ⟨t1, rfl, upd_same⟩ (by rw [List.length_replicate]; show i + 1 ≤ 100000; omega) fun H6 v6 s6 h6 => ?_
      have s06 := (s04.trans s5).trans s6
      refine ⟨by show 1 ≤ sizeLine; decide, fun t2 nt2 => ⟨_, rfl, _, rfl, _, _, rfl, rfl, _, _, rfl, rfl, ?_⟩⟩
      have s7 := same_new (o := .tup [V.int 0]) nt2
      have e : (n : Int) - (0 + (i : Int)) - 1 = ((n - i - 1 : Nat) : Int) := by omega
      show rRepA K (.ref t2) (.int ((n : Int) - (0 + (i : Int)) - 1)) _ _
      rw [e]
      refine zeros upd_same (by omega) fun H8 v8 s8 h8 => ?_
      have s78 := s7.trans s8
      refine cat_rows (mono_row _ _ _ _ s78.keep h6) h8 (by rw [List.length_append, List.length_replicate, List.length_replicate, List.length_singleton]; omega) fun H9 v9 s9 h9 => ?_
      exact fm_keep mono_row pv hD (by omega) ((s06.trans s78).trans s9) rfl h9
    · intro H2 ys s2 hD2 hp2
      rw [fm_all, Int.toNat_natCast] at hp2
      exact q _ D ys s2 hD hD2 hp2
end
end S4

namespace S4
open PySem L2 TT MM
section
variable {P : Program} {w : World} {K : PySem.W.Frag} {mg : Str → Option Value} {base : Heap} {cT cS : Addr}
/-! ### the rank -/
def spRankOf (K : PySem.W.Frag) : Sp := fun vs H Q _ => ∃ (a : Addr) (p : Int) (wd : Nat) (xs : List V) (rws : List (List Int)), vs = [.int p, .int (wd : Int), .ref a] ∧ SqS K H a xs ∧ Paired (rRow H) xs rws ∧ rws.length ≤ 1000 ∧ Prm p ∧ p ≤ 1000000 ∧ wd ≤ 1000 ∧ (∀ r ∈ rws, isRow r p wd) ∧
  ∀ H' (n : Nat), Same H H' → n ≤ wd → (∀ lad, IsLad p wd rws lad → lad.length = n) → Q (.int (n : Int)) H'
def spWiden (K : PySem.W.Frag) : Sp := fun vs H Q _ => ∃ (H0 : Hp) (a dr : Addr) (p : Int) (wd : Nat) (xs : List V) (rws : List (List Int)), vs = [.int p, .int (wd : Int), .ref dr, .ref a] ∧ Same H0 H ∧ H0 dr = none ∧ H dr = some (.dK []) ∧ SqS K H0 a xs ∧ Paired (rRow H0) xs rws ∧ rws.length ≤ 1000 ∧ Prm p ∧ p ≤ 1000000 ∧ wd ≤ 1000 ∧ (∀ r ∈ rws, isRow r p wd) ∧
  ∀ H' kvs rs, Same H0 H' → H' dr = some (.dK kvs) → Paired (kvR H') kvs rs → St2 p wd rs rws → Q (.ref dr) H'
theorem ok_widened (T : Tx K mg cT cS) {f : Addr} {fd : FuncData} (d : D K mg "widened" s_widened ["p", "wide", "rungs", "rows"] f fd) : FnOk P w K mg base CX0 2 f fd ["p", "wide", "rungs", "rows"] (spWiden K) := by
  obtain ⟨f1, fd1, d1⟩ := T.d_cleared
  have G1 : FnOk P w K mg base CX0 1 f1 fd1 ["p", "rungs", "row"] spCleared := ok_cleared T d1
  obtain ⟨f2, fd2, d2⟩ := T.d_first_place
  have G2 : FnOk P w K mg base CX0 1 f2 fd2 ["row", "wide"] spFirst := ok_first T d2
  obtain ⟨f3, fd3, d3⟩ := T.d_multiplied
  have G3 : FnOk P w K mg base CX0 1 f3 fd3 ["p", "factor", "row"] spMult := ok_mult T d3
  obtain ⟨f4, fd4, d4⟩ := T.d_inverse
  have G4 : FnOk P w K mg base CX0 1 f4 fd4 ["p", "value"] spInverse := ok_inverse T d4
  refine d.F.ok sc_widened (fun vs H Q E h => ?_) (fun cdv A outer s H vs Q E hr h => ?_)
  · obtain ⟨H0, a, dr, p, wd, xs, rws, rfl, _⟩ := h
    rfl
  · obtain ⟨H0, a, dr, p, wd, xs, rws, rfl, s1, hdr, hdd, hS, hp, hl, prm, pm, hwd, hrw, q⟩ := h
    have p2 := prm.1
    have p0 : 0 < p := by omega
    have hlen := paired_len hp
    refine ⟨_, pss_cons (ps_for PassesOwn.never rfl (pi_or (pi_list (pv 3)) (pi_tup (pv 3))) (pg_name (i := 4) sc_widened.nd rfl (Or.inl rfl))
        (pss_cons (ps_set (i := 5) sc_widened.nd rfl (.inl rfl) (pe_call G1 hr rfl d1.m d1.F.kp d1.b .nil pass0 (pa_cons (pv 0) (pa_cons (pv 2) (pa_cons (pv 4) pa_nil)))))
        (pss_cons (ps_set (i := 6) sc_widened.nd rfl (.inl rfl) (pe_call G2 hr rfl d2.m d2.F.kp d2.b .nil pass0 (pa_cons (pv 5) (pa_cons (pv 1) pa_nil))))
        (pss_one (ps_if (pt_cmp (pc_notN (pv 6)))
          (pss_one (ps_dput (hu_of hr) (pv 2) (pv 6) (pe_call G3 hr rfl d3.m d3.F.kp d3.b .nil pass0 (pa_cons (pv 0) (pa_cons (pe_call G4 hr rfl d4.m d4.F.kp d4.b .nil pass0 (pa_cons (pv 0) (pa_cons (pe_ix ix_tup (pv 5) (pv 6) (fun _ _ => rfl)) pa_nil))) (pa_cons (pv 5) pa_nil)))) rfl)) pss_nil)))))
      (pss_one (ps_ret (pv 2))), ?_⟩
    dsimp only [gName, tSeq]
    have P0 : ∃ rs kvs x4 x5 x6, [some (V.int p), some (V.int (wd : Int)), some (V.ref dr), some (V.ref a), none, none, none] = [some (V.int p), some (V.int (wd : Int)), some (V.ref dr), some (V.ref a), x4, x5, x6] ∧ Same H0 H ∧ H dr = some (.dK kvs) ∧ Paired (kvR H) kvs rs ∧ St2 p wd rs (rws.take 0) :=
      ⟨[], [], none, none, none, rfl, s1, hdd, .nil, by rw [List.take_zero]; exact St2.nil p wd⟩
    apply twice
    · intro hs
      apply twice
      · intro hd
        rcases hS with h | h
        · exact .inl ⟨_, rfl, a, rfl, ⟨_, .of (s1 _ _ h)⟩, for_it (walk_list (xs := xs)) (fun i σ H' => ∃ rs kvs x4 x5 x6, σ = [some (V.int p), some (V.int (wd : Int)), some (V.ref dr), some (V.ref a), x4, x5, x6] ∧ Same H0 H' ∧ H' dr = some (.dK kvs) ∧ Paired (kvR H') kvs rs ∧ St2 p wd rs (rws.take i)) P0 (fun i σ H' _ q => .of (let ⟨_, _, _, _, _, _, z, _⟩ := q; z _ _ h)) hs hd⟩
        · exact .inr ⟨_, rfl, a, rfl, ⟨_, .of (s1 _ _ h)⟩, for_it (walk_tup (xs := xs)) (fun i σ H' => ∃ rs kvs x4 x5 x6, σ = [some (V.int p), some (V.int (wd : Int)), some (V.ref dr), some (V.ref a), x4, x5, x6] ∧ Same H0 H' ∧ H' dr = some (.dK kvs) ∧ Paired (kvR H') kvs rs ∧ St2 p wd rs (rws.take i)) P0 (fun i σ H' _ q => .of (let ⟨_, _, _, _, _, _, z, _⟩ := q; z _ _ h)) hs hd⟩
      · rintro σ H2 ⟨rs, kvs, x4, x5, x6, rfl, s2, hk1, hk2, S⟩
        rw [hlen, List.take_length] at S
        exact ⟨_, rfl, q H2 kvs rs s2 hk1 hk2 S⟩
    · rintro i x σ H2 H3 hi ⟨rs, kvs, x4, x5, x6, rfl, s2, hk1, hk2, S⟩ ⟨rfl, hx⟩
      obtain ⟨row, hrow, hrr⟩ := paired_get (paired_mono mono_row s2.keep hp) hx
      have hir := hrw row (List.mem_of_getElem? hrow)
      have hrl : row.length = wd := by have := hir.1; omega
      have etake : rws.take (i + 1) = rws.take i ++ [row] := by rw [List.take_succ, hrow]; rfl
      obtain ⟨rs', S', hkk⟩ := S.twin
      have e1 := congrArg List.length hkk
      rw [List.length_map, List.length_map] at e1
      have e2 := S'.len
      have nd : (rs.map (·.1)).Nodup := by rw [← hkk]; exact S'.lad.nd
      refine ⟨_, rfl, _, rfl, _, rfl, dr, .dK kvs, x, row, rs, p, rfl, hk1, ⟨kvs, rfl, hk2⟩, nd, hrr, p0, pm, hir.2, by omega, by omega, fun z hz => by have := S.T.ok z hz; exact ⟨by omega, by omega⟩, fun H4 v4 s4 hv4 => ?_⟩
      dsimp only [gName, tSeq]
      have cl := clr_len p rs row
      refine ⟨_, rfl, _, rfl, v4, clr p rs row, wd, rfl, hv4, by omega, by omega, fun hz => ?_, fun k hk h0 hz => ?_⟩
      · dsimp only [gName, tSeq]
        refine ⟨_, rfl, _, rfl, ?_⟩
        rw [decide_eq_true rfl]
        refine iteF ⟨rs, kvs, _, _, _, rfl, s2.trans s4, s4 _ _ hk1, kvR_mono (fun _ _ h => s4 _ _ h) hk2, ?_⟩
        rw [etake]
        exact S.skip p2 hrl hir.2 hz
      · dsimp only [gName, tSeq]
        refine ⟨_, rfl, _, rfl, ?_⟩
        rw [decide_eq_false (fun e => nomatch e)]
        refine iteT ?_
        have hri := clr_in p0 rs hir.2
        have hb := getD_in p0 hri k
        have hkq : (clr p rs row)[k]? = some ((clr p rs row)[k]'(by omega)) := List.getElem?_eq_getElem (by omega)
        have hkg := getD_at (d := (0 : Int)) hkq
        obtain ⟨t4, rfl, ht4⟩ := hv4
        refine ⟨_, rfl, _, rfl, _, rfl, _, rfl, t4, _, _, _, rfl, rfl, .of ht4, atI_nat (int_at hkq), ?_⟩
        rw [← hkg]
        refine ⟨p, _, rfl, pm, by omega, by omega, prm.gcd (by omega) (by omega), fun u u0 u1 hu H5 s5 => ?_⟩
        refine ⟨_, rfl, .ref t4, clr p rs row, p, u, rfl, ⟨t4, rfl, s5.keep.tup ht4⟩, p0, ⟨by omega, by omega⟩, by omega, fun H6 v6 s6 hv6 => ?_⟩
        have s46 := (s4.trans s5).trans s6
        obtain ⟨kP, St⟩ := S.put (u := u) p2 hrl hir.2 hk h0 hz hu
        have hk6 := s46 _ _ hk1
        have hk26 := kvR_mono (H' := H6) (fun _ _ h => s46 _ _ h) hk2
        have hkl := paired_len hk26
        refine ⟨_, rfl, _, rfl, dr, _, rfl, DPut.k (k := Sum.inl ((k : Nat) : Int)) hk6 (Nat.lt_of_le_of_lt (by omega : kvs.length ≤ 1000) (by decide)), ?_⟩
        rw [putK_new _ (val_none hk26 kP)]
        refine ⟨rs ++ [(k, mulL p u (clr p rs row))], kvs ++ [(Sum.inl ((k : Nat) : Int), v6)], _, _, _, rfl, same_own (s2.trans s46) hdr, upd_same, kvR_mono (fun t xs h => by rw [upd_ne (ne_of h hk6 (fun z => nomatch z))]; exact h) (paired_app hk26 (.cons ⟨rfl, hv6⟩ .nil)), ?_⟩
        rw [etake]
        exact St
theorem ok_rank_of (T : Tx K mg cT cS) {f : Addr} {fd : FuncData} (d : D K mg "rank_of" s_rank_of ["p", "wide", "rows"] f fd) : FnOk P w K mg base CX0 3 f fd ["p", "wide", "rows"] (spRankOf K) := by
  obtain ⟨f1, fd1, d1⟩ := T.d_widened
  have G1 : FnOk P w K mg base CX0 2 f1 fd1 ["p", "wide", "rungs", "rows"] (spWiden K) := ok_widened T d1
  refine d.F.ok sc_rank_of (fun vs H Q E h => ?_) (fun cdv A outer s H vs Q E hr h => ?_)
  · obtain ⟨a, p, wd, xs, rws, rfl, _⟩ := h
    rfl
  · obtain ⟨a, p, wd, xs, rws, rfl, hS, hp, hl, prm, pm, hwd, hrw, q⟩ := h
    refine ⟨_, pss_one (ps_ret (pe_callB call_lenD (by rfl) T.b_len PySem.boot_len (pa_cons (pe_call G1 hr rfl d1.m d1.F.kp d1.b .nil pass0 (pa_cons (pv 0) (pa_cons (pv 1) (pa_cons pe_dnewK (pa_cons (pv 2) pa_nil))))) pa_nil))), ?_⟩
    refine ⟨_, rfl, _, rfl, fun dr hdr => ⟨_, rfl, H, a, dr, p, wd, xs, rws, rfl, same_new hdr, hdr, upd_same, hS, hp, hl, prm, pm, hwd, hrw, fun H2 kvs rs s2 hk1 hk2 S => ?_⟩⟩
    obtain ⟨rs', S', hk⟩ := S.twin
    have e1 := congrArg List.length hk
    rw [List.length_map, List.length_map] at e1
    have e2 := S'.len
    refine ⟨dr, kvs, rfl, hk1, ?_⟩
    rw [paired_len hk2]
    exact q H2 rs.length s2 (by omega) fun lad A => S.len prm.1 A
def spRank (K : PySem.W.Frag) : Sp := fun vs H Q _ => ∃ (a : Addr) (p : Int) (wd : Nat) (xs : List V) (rws : List (List Int)), vs = [.int p, .int (wd : Int), .ref a] ∧ SqS K H a xs ∧ Paired (rRow H) xs rws ∧ rws.length ≤ 200 ∧ NoDiv p ∧ wd ≤ 200 ∧ (∀ r ∈ rws, isRow r p wd) ∧
  ∀ H' (n : Nat), Same H H' → n ≤ wd → (∀ lad, IsLad p wd rws lad → lad.length = n) → Q (.int (n : Int)) H'
theorem ok_rank (T : Tx K mg cT cS) {f : Addr} {fd : FuncData} (d : D K mg "rank" s_rank ["p", "wide", "rows"] f fd) : FnOk P w K mg base CX0 6 f fd ["p", "wide", "rows"] (spRank K) := by
  obtain ⟨f1, fd1, d1⟩ := T.d_check_rows
  have G1 : FnOk P w K mg base CX0 5 f1 fd1 ["p", "wide", "rows"] (spRowsC K) := ok_check_rows T d1
  obtain ⟨f2, fd2, d2⟩ := T.d_rank_of
  have G2 : FnOk P w K mg base CX0 3 f2 fd2 ["p", "wide", "rows"] (spRankOf K) := ok_rank_of T d2
  refine d.F.ok sc_rank (fun vs H Q E h => ?_) (fun cdv A outer s H vs Q E hr h => ?_)
  · obtain ⟨a, p, wd, xs, rws, rfl, _⟩ := h
    rfl
  · obtain ⟨a, p, wd, xs, rws, rfl, hS, hp, hl, nd, hwd, hrw, q⟩ := h
    refine ⟨_, pss_cons (ps_expr (pe_call G1 hr rfl d1.m d1.F.kp d1.b .nil pass0 (pa_cons (pv 0) (pa_cons (pv 1) (pa_cons (pv 2) pa_nil)))))
      (pss_one (ps_ret (pe_call G2 (hr.mono (by decide)) rfl d2.m d2.F.kp d2.b .nil pass0 (pa_cons (pv 0) (pa_cons (pv 1) (pa_cons (pv 2) pa_nil)))))), ?_⟩
    refine ⟨_, rfl, _, rfl, _, rfl, a, p, wd, xs, rws, rfl, hS, hp, hl, nd, hwd, hrw, fun H2 s2 => ?_⟩
    exact ⟨_, rfl, _, rfl, _, rfl, a, p, wd, xs, rws, rfl, hS.same s2, paired_mono mono_row s2.keep hp, by omega, nd.prm, nd.2.1, by omega, hrw, fun H' n s' => q H' n (s2.trans s')⟩
end

end S4

namespace S4
open PySem L2 TT MM
theorem sum_sub {f : Int → Nat} : ∀ (posts U : List Int), posts.Nodup → (∀ x ∈ posts, x ∈ U) → (posts.map f).sum ≤ (U.map f).sum
  | [], U, _, _ => Nat.zero_le _
  | x :: posts, U, nd, h => by
    have hx := h x (by simp)
    have pm := (List.perm_cons_erase hx).map f
    have nd' := List.nodup_cons.mp nd
    have := sum_sub (f := f) posts (U.erase x) nd'.2 fun y hy => (List.mem_erase_of_ne (fun e => nd'.1 (by rw [← e]; exact hy))).mpr (h y (by simp [hy]))
    rw [pm.sum_nat, List.map_cons, List.map_cons, List.sum_cons, List.sum_cons]
    omega
theorem toNat_sum : ∀ (l : List Int), (∀ x ∈ l, 0 ≤ x) → (((l.map Int.toNat).sum : Nat) : Int) = l.sum
  | [], _ => rfl
  | x :: l, h => by
    have h0 := h x (by simp)
    rw [List.map_cons, List.sum_cons, List.sum_cons, ← toNat_sum l fun y hy => h y (by simp [hy])]
    omega
theorem numsL_le {holds : List Int} {n : Nat} (oh : CountsOk holds n) {posts : List Int} (nd : posts.Nodup) (hin : ∀ x ∈ posts, x ∈ rng n) : (numsL holds posts).length ≤ 60 := by
  have e1 : (numsL holds posts).length = (posts.map fun q => (holds.getD q.toNat 0).toNat).sum := by
    unfold numsL
    rw [List.length_flatMap]
    congr 1
    refine List.map_congr_left fun q _ => ?_
    unfold heldL
    rw [List.length_map, List.length_range]
  have e2 := sum_sub (f := fun q => (holds.getD q.toNat 0).toNat) posts (rng n) nd hin
  have e3 : (rng n).map (fun q => (holds.getD q.toNat 0).toNat) = holds.map Int.toNat := by
    apply List.ext_getElem
    · rw [List.length_map, List.length_map, rng_len, oh.len]
    · intro i h1 h2
      rw [List.length_map] at h2
      rw [List.getElem_map, List.getElem_map]
      have : (rng n)[i]'(by rw [rng_len]; have := oh.len; omega) = (i : Int) := by
        unfold rng
        rw [List.getElem_map, List.getElem_range]
      rw [this, Int.toNat_natCast, getD_at (List.getElem?_eq_getElem h2)]
  rw [e3] at e2
  have e4 := toNat_sum holds fun x hx => (oh.b x hx).1
  have e5 := oh.s
  omega
/-- the two sides of a way, as lists -/
structure Sides (S : SD) (n : Nat) (z : Int × Int) (near far : List Int) : Prop where
  nu : Up near
  nn : near.Nodup
  nm : ∀ x, x ∈ near ↔ Rch S.ties (some z.2) z.1 x
  fu : Up far
  fn : far.Nodup
  fm : ∀ x, x ∈ far ↔ Rch S.ties (some z.1) z.2 x
  ni : ∀ x ∈ near, x ∈ rng n
  fi : ∀ x ∈ far, x ∈ rng n
theorem farL_len {S : SD} {n : Nat} (ok : WantsOk S.p S.holds.sum n S.wants) (n24 : n ≤ 24) {far : List Int} (nd : far.Nodup) (hin : ∀ x ∈ far, x ∈ rng n) : (farL S.wants far).length ≤ 192 := by
  have h : ∀ l : List Int, (∀ x ∈ l, x ∈ rng n) → (farL S.wants l).length ≤ 8 * l.length := by
    intro l
    induction l with
    | nil => intro _; simp [farL]
    | cons c l ih =>
      intro hl
      have hc := rng_mem.mp (hl c (by simp))
      have hlw := ok.len
      have h8 : (S.wants.getD c.toNat []).length ≤ 8 := by
        rw [getD_at (List.getElem?_eq_getElem (by omega))]
        exact (ok.b _ (List.getElem_mem _)).1
      have := ih fun x hx => hl x (by simp [hx])
      show (((List.range (S.wants.getD c.toNat []).length).map fun (k : Nat) => (c, (k : Int))) ++ farL S.wants l).length ≤ _
      rw [List.length_append, List.length_map, List.length_range, List.length_cons]
      omega
  have := h far hin
  have := nodup_len nd hin
  rw [rng_len] at this
  omega
theorem block_rows {S : SD} {n : Nat} (ok : SheetOk S n) {near far : List Int} (hn : ∀ x ∈ near, x ∈ rng n) (hf : ∀ x ∈ far, x ∈ rng n) : ∀ r ∈ blockL S near far, isRow r S.p ((numsL S.holds near).length : Nat) := fun r hr => by
  obtain ⟨z, hz, rfl⟩ := List.mem_map.mp hr
  obtain ⟨h1, h2, h3⟩ := farL_in hz
  have hz1 := rng_mem.mp (hf _ h1)
  have hlw := ok.wants.len
  have e1 := getD_at (d := []) (List.getElem?_eq_getElem (l := S.wants) (i := z.1.toNat) (by omega))
  rw [e1] at h3
  have hw := (ok.wants.b _ (List.getElem_mem (l := S.wants) (n := z.1.toNat) (by omega))).2 _ (List.getElem_mem (l := S.wants[z.1.toNat]'(by omega)) (n := z.2.toNat) (by omega))
  have e2 := getD_at (d := []) (List.getElem?_eq_getElem (l := S.wants[z.1.toNat]'(by omega)) (i := z.2.toNat) (by omega))
  rw [e1, e2]
  refine ⟨by unfold cutL; rw [List.length_map], fun x hx => ?_⟩
  obtain ⟨i, hi, rfl⟩ := List.mem_map.mp hx
  exact getD_in (by have := ok.clock.prm.1; omega) hw.2 _
section
variable {P : Program} {w : World} {K : PySem.W.Frag} {mg : Str → Option Value} {base : Heap} {cT cS : Addr}
def spToll (cT cS : Addr) : Sp := fun vs H Q _ => ∃ (u v : V) (S : SD) (z : Int × Int) (n : Nat), vs = [u, v] ∧ rSheet cT cS H u S ∧ rPI H v z ∧ SheetOk S n ∧ WayOk S n z ∧
  ∀ H' k near far, Same H H' → Sides S n z near far → (∀ lad, IsLad S.p (numsL S.holds near).length (blockL S near far) lad → lad.length = k) → k ≤ 60 → Q (.int (k : Nat)) H'
end
end S4

/-! KERNEL: sorted(e, key=lambda x: body) -/
namespace SKx
open PySem PySem.Spec PyProof.Rows L2 LamX NdefX
section
variable {P : Program} {w : World} {K : PySem.W.Frag} {mg : Str → Option Value} {base : Heap}
/-- a lambda with one parameter is called -/
theorem act1 {N fr : List Str} {x name : Str} {F : NF} {f : Addr} {k : Nat} {params : Arguments} {body : Expr} {pm ctv : Value}
    {A : Around} {outer : List Env} {s : Shared} {H : Hp} {u : Value} {v : V} {ws : List (Option V)} {Q : VK} {t : TE} {E : XK}
    (S : NScope N [x] fr F.scope)
    (hf : s.heap.get? f = some (PySem.W.kla_obj name F.qual params body F.scope F.cl pm F.c ctv))
    (hc : H F.c = some (LamX.CodeO F.c F.qual))
    (hb : ∀ us : List Value, us.length = 1 → bindArgs (PySem.W.kla_fn name F.qual params body F.scope F.cl pm (.ref F.c) ctv) { pos := us } = pure ([x].zip us))
    (hr : Room (k + 1) A) (e0 : Env0 P w K mg base A outer s H) (C : CellsAt F.cl fr ws s.heap H) (r : L2.RelV v u)
    (hbody : Room k (A.deeper (envF F f s.heap.objs.size)) → PE (ncx CX0 P w K mg base N F f A outer s H E) body t)
    (q : t (startF N [v] ws) H Q) : codeAny (model P w) A (Code.call (.ref f) { pos := [u] }) (CR CX0 outer P w H s Q E) s := by
  have lim := Heap.NoLimit.keeps e0.mod.nolimit fun b o e => (e0.bs b o e).1
  refine PySem.W.kla_callFunE (Room.depth hr) hf rfl S.co S.gen rfl (codeO_at e0.hok hc) ?_
  rw [hb [u] rfl]
  refine wpAny_pure (wpAny_newFunctionEnv S.nocell (fun y hy => ?_) (fun h₁ hns hsb => ⟨Heap.NoLimit.fresh lim _ hsb, ?_⟩) S.kind)
  · obtain rfl : y = (x, u) := by simpa using hy
    exact S.par x (by simp)
  · have kp := fun b o (e : s.heap.get? b = some o) => Heap.SameBut.extBut hsb b o (Nat.ne_of_lt (Heap.lt_size e)) (Heap.get?_push_of_some _ e)
    have I := inv_startN (CX := CX0) (E := E) (f := f) (tk := s.toks + ([x].zip [u]).length) S hr.hd e0 rfl (.cons r .nil) C hns kp
    refine PySem.W.kla_codeExpr (wpAny_mono ((hbody (Room.deeper hr _)).run [] _ _ _ Q I q) (fun v' s' hq => ?_) (fun e s' hq => hq))
    obtain ⟨w', H', J, rv, hQ⟩ := hq
    exact ⟨w', H', J.os, J.bare, J.base, J.hok, rv, hQ⟩
theorem room_in1 {k : Nat} {A : Around} (h : Room (k + 1) A) : Room k A.in1.in1 := by
  refine ⟨h.hd, ?_, ?_⟩
  · have := h.dp
    show A.depth + 3 * k + 5 < recursionLimit
    omega
  · have := h.un
    show A.units + 1 + 1 + 16 * k + 200 < cLine
    omega
theorem call1 {X : Cx} {pins : List (Addr × Obj)} {σ : L2.St} {N fr : List Str} {x name : Str} {F : NF} {f : Addr} {k : Nat} {params : Arguments} {body : Expr} {pm ctv : Value}
    {s : Shared} {H : Hp} {u : Value} {v : V} {ws : List (Option V)} {Q : VK} {t : TE}
    (I : L2.Inv X pins σ H s) (S : NScope N [x] fr F.scope)
    (hf : s.heap.get? f = some (PySem.W.kla_obj name F.qual params body F.scope F.cl pm F.c ctv))
    (hc : H F.c = some (LamX.CodeO F.c F.qual))
    (hb : ∀ us : List Value, us.length = 1 → bindArgs (PySem.W.kla_fn name F.qual params body F.scope F.cl pm (.ref F.c) ctv) { pos := us } = pure ([x].zip us))
    (hr : Room (k + 2) X.A) (C : CellsAt F.cl fr ws s.heap H) (r : L2.RelV v u)
    (hbody : Room k (X.A.in1.in1.deeper (envF F f s.heap.objs.size)) → PE (ncx CX0 X.prog X.w X.K X.mg X.base N F f X.A.in1.in1 X.stack s H fun _ _ _ => False) body t)
    (q : t (startF N [v] ws) H Q) : wpAny (model X.prog X.w) X.A.in1.in1 (call (.ref f) [u]) (EP X pins σ Q) (fun _ _ => False) s := by
  have e0 := I.env0
  have e1 : Env0 X.prog X.w X.K X.mg X.base X.A.in1.in1 X.stack s H := ⟨e0.frames, e0.mod, e0.bs, e0.bsz, e0.funs, e0.frf, e0.hok, e0.bare⟩
  refine wpAny_call (codeAny_mono (act1 S hf hc hb (room_in1 hr) e1 C r hbody q) fun r' s' hq => ?_)
  cases r' with
  | error e => exact hq
  | ok fl =>
    cases fl with
    | ret v => exact Inv.after I hq
    | _ => exact hq.elim
end
/-! ### what a key is -/
structure KeyR (K : PySem.W.Frag) {κ : Type} (R : Hp → V → κ → Prop) (cv : κ → PyData) : Prop where
  mono : ∀ {H H' : Hp} {v : V} {k : κ}, L2.Same H H' → R H v k → R H' v k
  reads : ∀ {X : Cx} {pins : List (Addr × Obj)} {σ : L2.St} {H : Hp} {s : Shared} {v : V} {k : κ} {u : Value}, X.K = K → L2.Inv X pins σ H s → R H v k → L2.RelV v u → Reads s.heap u (cv k) []
  alike : ∀ k k' : κ, PySem.W.alike (cv k) (cv k') = true
  sortable : ∀ ks : List κ, PySem.W.Sortable (ks.map cv)
  depth : ∀ k : κ, (cv k).depth ≤ 5
/-! ### the state while it is sorted -/
theorem fp_pin {X : Cx} {pins : List (Addr × Obj)} {σ : L2.St} {H : Hp} {s : Shared} (I : L2.Inv X pins σ H s) {pl : List (Addr × Obj)}
    (h : ∀ p ∈ pl, FpOk X pins H p.1 ∧ s.heap.get? p.1 = some p.2 ∧ ∀ v : Option Value, p.2.data ≠ Data.cell v) : L2.Inv X (pins ++ pl) σ H s := by
  refine I.pins_of fun p hp => ?_
  rcases List.mem_append.mp hp with hp | hp
  · exact I.pin p (List.mem_append.mpr (.inr hp))
  · obtain ⟨⟨f1, f2, f3, _⟩, g, c⟩ := h p hp
    exact ⟨g, f1, f2, f3, c⟩
theorem un_same {H : Hp} {fs ch : List Addr} {h h' : Heap} (hk : ∀ b o, b ∉ ch → h.get? b = some o → h'.get? b = some o) : Un fs ch H H h h' :=
  ⟨fun b o e _ _ c => hk b o c e, fun b o e _ _ c => ⟨o.slots, hk b o c e⟩, fun _ _ _ n _ => n, fun b o e c => ⟨o, hk b o c e⟩, fun _ _ e => e, fun _ _ _ e => e, fun _ ps e => ⟨#[], by rw [Array.append_empty]; exact e⟩⟩
theorem ch_ok {X : Cx} {pins : List (Addr × Obj)} {H : Hp} {ch : List Addr} (h : ∀ b ∈ ch, FpOk X pins H b) : ∀ b ∈ ch, (b ∈ X.ex ∨ X.s_0.heap.objs.size ≤ b) ∧ b ≠ X.env.locals ∧ (∀ (x : Str) (c : Addr), List.lookup x X.env.cells = some c → c ≠ b) ∧ ∀ p : Addr × Obj, p ∈ X.pn ++ pins → p.1 ≠ b :=
  fun b hb => let ⟨_, f2, _, f4, f5, f6⟩ := h b hb; ⟨f4, f2, f5, f6⟩
/-- objects that the state says nothing of may change -/
theorem inv_free {X : Cx} {pins : List (Addr × Obj)} {σ : L2.St} {H : Hp} {s : Shared} (I : L2.Inv X pins σ H s) {ch : List Addr} {h' : Heap} {t' : Nat}
    (hc : ∀ b ∈ ch, FpOk X pins H b) (hk : ∀ b o, b ∉ ch → s.heap.get? b = some o → h'.get? b = some o) :
    L2.Inv X pins σ H { heap := h', gens := s.gens, drawn := s.drawn, toks := t', os := s.os } := by
  refine I.call (un_same hk) (fun b o e => ?_) I.bare (ch_ok hc)
  refine ObjOk.stay (I.hok b o e) (fun b' u hb' e' => hk b' u (fun hm => ?_) e') (fun _ z => z) (fun _ _ z => z)
  rcases hb' with rfl | hb'
  · rw [(hc _ hm).1] at e; cases e
  · rw [(hc _ hm).1] at hb'; cases hb'
/-- a list that is there is taken up -/
theorem inv_adopt {X : Cx} {pins : List (Addr × Obj)} {σ : L2.St} {H : Hp} {s : Shared} (I : L2.Inv X pins σ H s) {a : Addr} {ys : List V} {its : List Value} {n : Nat}
    (hc : FpOk X pins H a) (ho : s.heap.get? a = some (seqObj "list" its.toArray n)) (hv : Vals ys its) (hl : ys.length ≤ sizeLine) : L2.Inv X pins σ (upd H a (.lst ys)) s := by
  have hn := hc.1
  have ne : ∀ {b : Addr} {o : HO}, H b = some o → b ≠ a := fun e z => by subst z; rw [hn] at e; cases e
  have un : Un (frs X.stack) [a] H (upd H a (.lst ys)) s.heap s.heap :=
    ⟨fun _ _ e _ _ _ => e, fun b o e _ _ _ => ⟨o.slots, e⟩, fun b o _ n c => by rw [upd_ne (fun z => c (by simp [z]))]; exact n, fun b o e _ => ⟨o, e⟩, fun b xs e => by rw [upd_ne (ne e)]; exact e, fun b o u e => by rw [upd_ne (ne e)]; exact e, fun b ps e => ⟨#[], by rw [Array.append_empty, upd_ne (ne e)]; exact e⟩⟩
  refine I.call' rfl un (fun b o e => ?_) I.bare (ch_ok fun b hb => by rw [List.mem_singleton.mp hb]; exact hc)
  by_cases z : b = a
  · subst z
    rw [upd_same] at e
    cases e
    unfold ObjOk
    exact ⟨hl, its, n, hv, ho⟩
  · rw [upd_ne z] at e
    exact ObjOk.stay (I.hok b o e) (fun b' u _ e' => e') (fun b' e' => by rw [upd_ne (ne e')]; exact e') (fun b' xs e' => by rw [upd_ne (ne e')]; exact e')
/-- a heap without one object -/
def without (h : Heap) (a : Addr) : Heap := { h with objs := h.objs.setIfInBounds a { cls := .none, data := .freed } }
theorem without_none (h : Heap) (a : Addr) : (without h a).get? a = none := by
  unfold without Heap.get?
  show (match (h.objs.setIfInBounds a _)[a]? with | some { cls := cls, dict := dict, data := Data.freed, slots := slots } => none | o => o) = none
  rw [Array.getElem?_setIfInBounds]
  by_cases hl : a < h.objs.size
  · rw [if_pos rfl, if_pos hl]
  · rw [if_pos rfl, if_neg hl]
theorem without_ne {h : Heap} {a b : Addr} (hb : b ≠ a) : (without h a).get? b = h.get? b := by
  unfold without Heap.get?
  show (match (h.objs.setIfInBounds a _)[b]? with | some { cls := cls, dict := dict, data := Data.freed, slots := slots } => none | o => o) = _
  rw [Array.getElem?_setIfInBounds, if_neg (fun z => hb z.symm)]
  rfl
/-- what is asked of the key -/
def Turn1 (X : Cx) (pins : List (Addr × Obj)) (σ : L2.St) {κ : Type} (R : Hp → V → κ → Prop) (H0 : Hp) (f : Value) (x : V) (k : κ) : Prop :=
  ∀ (pl : List (Addr × Obj)) (H : Hp) (s : Shared) (u : Value), L2.Inv X (pins ++ pl) σ H s → L2.Same H0 H → L2.RelV x u →
    wpAny (model X.prog X.w) X.A.in1.in1 (call f [u]) (EP X (pins ++ pl) σ fun y H' => L2.Same H H' ∧ R H' y k) (fun _ _ => False) s
def Keys {κ : Type} (R : Hp → V → κ → Prop) (H : Hp) : List Value → List κ → Prop := PySem.W.EachIs fun u k => ∃ y, L2.RelV y u ∧ R H y k
theorem fp_up {X : Cx} {pins : List (Addr × Obj)} {H H' : Hp} {a : Addr} (h : FpOk X pins H a) (h' : H' a = none) : FpOk X pins H' a := ⟨h', h.2⟩
theorem rel_get {xs : List V} {vs : List Value} (h : Vals xs vs) {j : Nat} {u : Value} (hu : vs[j]? = some u) : ∃ x, xs[j]? = some x ∧ L2.RelV x u := by
  induction h generalizing j with
  | nil => simp at hu
  | cons r _ ih =>
    cases j with
    | zero => simp at hu; subst hu; exact ⟨_, rfl, r⟩
    | succ j => simp at hu; obtain ⟨x, e, r⟩ := ih hu; exact ⟨x, by simpa using e, r⟩
theorem each_map {α κ : Type} {R : α → κ → Prop} {R' : α → PyData → Prop} {cv : κ → PyData} (h : ∀ a k, R a k → R' a (cv k)) : ∀ {as : List α} {ks : List κ}, PySem.W.EachIs R as ks → PySem.W.EachIs R' as (ks.map cv)
  | _, _, .nil => .nil
  | _, _, .cons r t => .cons (h _ _ r) (each_map h t)
theorem all_alike {κ : Type} {cv : κ → PyData} (h : ∀ k k' : κ, PySem.W.alike (cv k) (cv k') = true) (ks : List κ) : PySem.W.AllAlike (ks.map cv) := fun d hd d' hd' => by
  obtain ⟨k, _, rfl⟩ := List.mem_map.mp hd
  obtain ⟨k', _, rfl⟩ := List.mem_map.mp hd'
  exact h k k'
theorem key_rest {X : Cx} {pins : List (Addr × Obj)} {σ : L2.St} {κ : Type} {R : Hp → V → κ → Prop} {cv : κ → PyData} (KR : KeyR X.K R cv) {H : Hp} {s : Shared}
    {a kS : Addr} {xs : List V} {vs : List Value} {ks : List κ} {e1 : Nat} {f : Value} {Pd : PySem.Fin → Shared → Prop} {E : Value → Shared → Prop}
    (hr : X.A.units + 200 < cLine)
    (I : L2.Inv X pins σ H s) (hS : FpOk X pins H kS) (hA : FpOk X pins H a) (hka : kS ≠ a)
    (nk : s.heap.get? kS = some (seqObj "list" #[] 0)) (na : s.heap.get? a = some (seqObj "list" #[] e1))
    (hv : Vals xs vs) (hlen : ks.length = vs.length) (hZ : vs.length ≤ sizeLine)
    (turn : ∀ (i : Nat) (x : V) (k : κ), xs[i]? = some x → ks[i]? = some k → Turn1 X pins σ R H f x k)
    (h : ∀ H' s' out c, L2.Inv X pins σ H' s' → L2.Same H H' → FpOk X pins H' a → s'.heap.get? a = some (seqObj "list" out.toArray c) → PySem.W.KeyedOut false (ks.map cv) vs out → Pd (Fin.done (Flow.ret Value.none)) s') :
    wpAny (model X.prog X.w) X.A.in1.in1 (ksk_rest a f false vs.toArray e1 (.ref kS)) Pd E s := by
  unfold ksk_rest
  refine wpAny_bind (wpAny_rule ?_)
  rw [List.forIn_toArray]
  refine wpAny_bind (ksk_fold (fun j s' => ∃ H' kA e, L2.Inv X pins σ H' s' ∧ L2.Same H H' ∧ s'.heap.get? kS = some (seqObj "list" kA e) ∧ s'.heap.get? a = some (seqObj "list" #[] e1) ∧ FpOk X pins H' kS ∧ FpOk X pins H' a ∧ Keys R H' kA.toList (ks.take j)) vs 0 s
    ⟨H, #[], 0, I, L2.Same.refl H, nk, na, hS, hA, .nil⟩ ?_ ?_)
  · rintro j u s' hu ⟨H1, kA, e, I1, x1, nk1, na1, hS1, hA1, hK⟩
    rw [Nat.zero_add] at hK ⊢
    obtain ⟨x, hx, ru⟩ := rel_get hv hu
    have hj := (List.getElem?_eq_some_iff.mp hu).1
    obtain ⟨k, hk⟩ : ∃ k, ks[j]? = some k := ⟨_, List.getElem?_eq_getElem (by omega)⟩
    have I2 := fp_pin I1 (pl := [(a, seqObj "list" #[] e1), (kS, seqObj "list" kA e)]) fun p hp => by
      simp only [List.mem_cons, List.not_mem_nil, or_false] at hp
      rcases hp with rfl | rfl
      · exact ⟨hA1, na1, fun v z => nomatch z⟩
      · exact ⟨hS1, nk1, fun v z => nomatch z⟩
    refine wpAny_bind (wpAny_attempt (wpAny_mono (turn j x k hx hk _ H1 s' u I2 x1 ru) (fun v s2 hq => ?_) fun _ _ z => z.elim))
    obtain ⟨y, H2, I3, ry, x2, hR⟩ := hq
    have pa := I3.pin (a, seqObj "list" #[] e1) (by simp)
    have pk := I3.pin (kS, seqObj "list" kA e) (by simp)
    have I4 := I3.unpinned
    have hkl : kA.size ≤ vs.length := by
      have := hK.length
      rw [List.length_take, Array.length_toList] at this
      omega
    refine wpAny_bind (listUpdate_at pk.1 rfl ?_ (Nat.le_trans hkl hZ) (Nat.le_trans (Nat.le_of_eq (Array.size_push v)) (Nat.succ_le_succ (Nat.le_trans hkl hZ))))
    refine wpAny_pure ⟨rfl, H2, kA.push v, _, ?_, x1.trans x2, get?_update_seq pk.1 _, ?_, fp_up hS1 pk.2.1, fp_up hA1 pa.2.1, ?_⟩
    · refine inv_free I4 (ch := [kS]) (fun b hb => by rw [List.mem_singleton.mp hb]; exact fp_up hS1 pk.2.1) fun b o hb e => ?_
      rw [(Heap.SameBut.update s2.heap kS _).2 b (fun z => hb (by simp [z]))]
      exact e
    · rw [(Heap.SameBut.update s2.heap kS _).2 a (fun z => hka z.symm)]
      exact pa.1
    · rw [Array.toList_push, List.take_add_one, hk]
      exact PySem.W.each_snoc ⟨y, ry, hR⟩ (hK.mono fun u k ⟨y, r, q⟩ => ⟨y, r, KR.mono x2 q⟩)
  · rintro s' ⟨H1, kA, e, I1, x1, nk1, na1, hS1, hA1, hK⟩
    rw [Nat.zero_add, List.take_of_length_le (by omega)] at hK
    have hsz : kA.size = vs.length := by
      have := hK.length
      rw [Array.length_toList] at this
      omega
    have hk' : PySem.W.EachIs (fun v d => ∃ as, Reads s'.heap v d as) kA.toList (ks.map cv) := each_map (fun u k ⟨y, r, q⟩ => ⟨[], KR.reads rfl I1 q r⟩) hK
    have hal := all_alike KR.alike ks
    refine wpAny_bind (listItems_at nk1 rfl ?_)
    refine PySem.W.keyH_end (h₁ := without s'.heap kS) (fun b o hb e => ?_) (without_none _ _) nk1 na1 hka (PySem.W.SortsAt.data hk' hal (KR.sortable ks) fun d hd => ?_) hsz hZ fun h3 tk3 c k3 n3 => ?_
    · by_cases hk : b = kS
      · subst hk; rw [without_none] at e; cases e
      · rw [without_ne hk] at e; exact e
    · obtain ⟨k, _, rfl⟩ := List.mem_map.mp hd
      have := KR.depth k
      show X.A.units + 1 + 1 + _ < cLine
      omega
    · refine h H1 _ _ c (inv_free I1 (ch := [a, kS]) (fun b hb => ?_) fun b o hb e => ?_) x1 hA1 n3 ⟨s'.heap, kA.toList, hal, rfl, hk'⟩
      · simp only [List.mem_cons, List.not_mem_nil, or_false] at hb
        rcases hb with rfl | rfl
        · exact hA1
        · exact hS1
      · exact k3 b o (fun z => hb (by simp [z])) (by rw [without_ne (fun z => hb (by simp [z]))]; exact e)
theorem key_tree {X : Cx} {pins : List (Addr × Obj)} {σ : L2.St} {κ : Type} {R : Hp → V → κ → Prop} {cv : κ → PyData} (KR : KeyR X.K R cv) {H : Hp} {s : Shared}
    {a : Addr} {xs : List V} {vs : List Value} {ks : List κ} {n : Nat} {f : Value} {Pd : PySem.Fin → Shared → Prop} {E : Value → Shared → Prop}
    (hr : X.A.units + 200 < cLine) (I : L2.Inv X pins σ H s) (hA : FpOk X pins H a) (na : s.heap.get? a = some (seqObj "list" vs.toArray n))
    (hv : Vals xs vs) (hlen : ks.length = vs.length) (hZ : vs.length ≤ sizeLine)
    (turn : ∀ (i : Nat) (x : V) (k : κ), xs[i]? = some x → ks[i]? = some k → Turn1 X pins σ R H f x k)
    (h : ∀ H' s' out c, L2.Inv X pins σ H' s' → L2.Same H H' → FpOk X pins H' a → s'.heap.get? a = some (seqObj "list" out.toArray c) → PySem.W.KeyedOut false (ks.map cv) vs out → Pd (Fin.done (Flow.ret Value.none)) s') :
    wpAny (model X.prog X.w) X.A.in1.in1 (ksk_tree a f false) Pd E s := by
  have ha := Heap.lt_size na
  have hn := hA.1
  obtain ⟨e1, ho1⟩ : ∃ e1, (s.heap.update a (Obj.mapSeq fun _ => #[])).get? a = some (seqObj "list" #[] e1) := ⟨_, get?_update_seq na fun _ => #[]⟩
  have hkS : ((s.heap.update a (Obj.mapSeq fun _ => #[])).push (seqObj "tuple" vs.toArray 0)).objs.size = s.heap.objs.size + 1 := by
    rw [size_push', Heap.size_update]
  unfold ksk_tree
  refine wpAny_bind (listItems_at na rfl (wpAny_bind (listUpdate_at na rfl (wpAny_bind (seqEpoch_at ho1 rfl (wpAny_bind (wpAny_newTuple (wpAny_bind (wpAny_newList (wpAny_holding ?_) (Nat.zero_le sizeLine))) hZ)))) (Nat.le_trans (Nat.le_of_eq List.size_toArray) hZ) (Nat.zero_le (sizeLine + 1)))))
  have I1 := inv_free I (ch := [a]) (h' := ((s.heap.update a (Obj.mapSeq fun _ => #[])).push (seqObj "tuple" vs.toArray 0)).push (seqObj "list" #[] 0)) (t' := s.toks) (fun b hb => by rw [List.mem_singleton.mp hb]; exact hA) fun b o hb e => by
    refine Heap.get?_push_of_some _ (Heap.get?_push_of_some _ ?_)
    rw [(Heap.SameBut.update s.heap a _).2 b (fun z => hb (by simp [z]))]
    exact e
  have hS : FpOk X pins H (s.heap.objs.size + 1) := I.fpOk (Nat.le_succ _) (I.hok.fresh (Nat.le_succ _))
  refine key_rest KR hr I1 (kS := _) ?_ hA ?_ ?_ ?_ hv hlen hZ turn h
  · show FpOk X pins H ((s.heap.update a (Obj.mapSeq fun _ => #[])).push (seqObj "tuple" vs.toArray 0)).objs.size
    rw [hkS]; exact hS
  · show ((s.heap.update a (Obj.mapSeq fun _ => #[])).push (seqObj "tuple" vs.toArray 0)).objs.size ≠ a
    rw [hkS]; exact Nat.ne_of_gt (Nat.lt_succ_of_lt ha)
  · exact Heap.get?_push_size _ rfl
  · exact Heap.get?_push_of_some _ (Heap.get?_push_of_some _ ho1)
theorem each_zip {κ : Type} : ∀ {xs : List V} {vs : List Value} {ks : List κ}, Vals xs vs → ks.length = vs.length → PySem.W.EachIs (fun (u : Value) (p : V × κ) => L2.RelV p.1 u) vs (xs.zip ks)
  | _, _, [], .nil, _ => .nil
  | _, _, k :: ks, .cons r t, h => .cons r (each_zip t (by simpa using h))
theorem each_vals {κ : Type} : ∀ {vs : List Value} {zs : List (V × κ)}, PySem.W.EachIs (fun (u : Value) (p : V × κ) => L2.RelV p.1 u) vs zs → Vals (zs.map (·.1)) vs
  | _, _, .nil => .nil
  | _, _, .cons r t => .cons r (each_vals t)
theorem zip_keys {κ : Type} {cv : κ → PyData} : ∀ {xs : List V} {ks : List κ}, ks.length = xs.length → (xs.zip ks).map (fun p : V × κ => cv p.2) = ks.map cv
  | [], [], _ => rfl
  | x :: xs, k :: ks, h => by rw [List.zip_cons_cons, List.map_cons, List.map_cons, zip_keys (by simpa using h)]
theorem sorted_key {X : Cx} {pins : List (Addr × Obj)} {σ : L2.St} {κ : Type} {R : Hp → V → κ → Prop} {cv : κ → PyData} (KR : KeyR X.K R cv) {H : Hp} {s : Shared}
    {l : Addr} {xs : List V} {ks : List κ} {f : Addr} {Q : VK}
    (hr : X.A.units + 200 < cLine) (I : L2.Inv X pins σ H s) (hS : SqL X.K H l xs) (hlen : ks.length = xs.length)
    (turn : ∀ (i : Nat) (x : V) (k : κ), xs[i]? = some x → ks[i]? = some k → Turn1 X pins σ R H (.ref f) x k)
    (h : ∀ H' a ys, L2.Same H H' → H a = none → H' a = some (.lst ys) → (∃ zs : List (V × κ), zs.Perm (xs.zip ks) ∧ zs.Pairwise (fun p q => PySem.W.dataLe false (fun p : V × κ => cv p.2) p q = true) ∧ ys = zs.map (·.1)) → Q (.ref a) H') :
    wpAny (model X.prog X.w) X.A (call (.builtin "sorted") [.ref l] [(Str.ofString "key", .ref f)]) (EP X pins σ Q) X.xe s := by
  obtain ⟨its, hv, ⟨o, n, ho, hcl, _, hdt⟩, hl⟩ := I.list hS
  have hlv := hv.length
  refine PySem.W.sorted_of_sort ⟨o, ho, hcl, n, hdt⟩ (by omega) rfl (fun _ => rfl) fun E' => ?_
  rw [ksk_t1]
  have I1 : L2.Inv X pins σ H { heap := PySem.W.copyHeap s.heap its, gens := s.gens, drawn := s.drawn, toks := s.toks, os := s.os } := I.kept fun b u e => PySem.W.copyHeap_old e
  have fresh := I.hok.fresh (Nat.le_succ s.heap.objs.size)
  have hA : FpOk X pins H (s.heap.objs.size + 1) := I.fpOk (Nat.le_succ _) fresh
  refine key_tree KR hr I1 hA (PySem.W.copyHeap_at s.heap its) hv (by omega) (by omega) turn fun H' s' out c I2 x2 hA2 n2 ko => ⟨rfl, ?_⟩
  rw [← zip_keys (xs := xs) hlen] at ko
  have ee := PySem.W.keyedOut_each (fun p : V × κ => cv p.2) ko (each_zip hv (by omega))
  have hp := List.mergeSort_perm (xs.zip ks) (PySem.W.dataLe false fun p : V × κ => cv p.2)
  have hl2 : (((xs.zip ks).mergeSort (PySem.W.dataLe false fun p : V × κ => cv p.2)).map (·.1)).length ≤ sizeLine := by
    rw [List.length_map, hp.length_eq, List.length_zip]; omega
  refine ⟨.ref (s.heap.objs.size + 1), _, inv_adopt I2 hA2 n2 (each_vals ee) hl2, rfl, h _ _ _ (fun b o e => ?_) fresh upd_same ⟨_, hp, PySem.W.sort_pairwise (PySem.W.sortLe_total _ _ _) _, rfl⟩⟩
  rw [upd_ne (fun z => by subst z; rw [fresh] at e; cases e)]
  exact x2 b o e
/-! ### the rule -/
def lamNF (X : Cx) (params : Arguments) (scope : Scope) (c' : Addr) : NF := ⟨Str.ofString "<lambda>", X.env.qual ++ Str.ofString "<lambda>", params, [], scope, cloFrom X.env.cells scope.names [], c'⟩
def tSortK (K : PySem.W.Frag) (N : List Str) (js : List Nat) (TL : List (Addr × Str)) {κ : Type} (R : Hp → V → κ → Prop) (cv : κ → PyData) (ta : TA) (tb : TE) : TE := fun σ H Q =>
  ta σ H fun vs H1 => ∃ l xs, ∃ ks : List κ, vs = [.ref l] ∧ SqL K H1 l xs ∧ ks.length = xs.length ∧ Tabs TL H1 ∧
    (∀ H2, ExtN H1 H2 → ∀ (i : Nat) (x : V) (k : κ), xs[i]? = some x → ks[i]? = some k → tb (startF N [x] (js.map (NdefX.slotAt σ))) H2 fun y H3 => L2.Same H2 H3 ∧ R H3 y k) ∧
    ∀ H2 H3 a ys, ExtN H1 H2 → Tabs TL H2 → L2.Same H2 H3 → H2 a = none → H3 a = some (.lst ys) → (∃ zs : List (V × κ), zs.Perm (xs.zip ks) ∧ zs.Pairwise (fun p q => PySem.W.dataLe false (fun p : V × κ => cv p.2) p q = true) ∧ ys = zs.map (·.1)) → Q (.ref a) H3
theorem pe_sortK {X : Cx} {e : Expr} {ta : TA} {tb : TE} {params : Arguments} {body : Expr} {scope : Scope} {p pos kpos lpos : Pos} {TL : List (Addr × Str)} {c Pc : Addr} {N fr : List Str} {y : Str} {js : List Nat} {k : Nat}
    {κ : Type} {K : PySem.W.Frag} {R : Hp → V → κ → Prop} {cv : κ → PyData} (KR : KeyR K R cv) (hK : X.K = K)
    (hg : Gl X (Str.ofString "sorted")) (hm : X.mg (Str.ofString "sorted") = none) (hv : bootBuiltins (Str.ofString "sorted") = some (.builtin "sorted")) (ha : PA X [e] ta)
    (TB : TabB X.base X.mg c Pc) (hcode : X.env.code = .ref c) (hmT : (Pc, X.env.qual ++ Str.ofString "<lambda>") ∈ TL) (hu : ∀ p ∈ TL, p.1 = Pc → p.2 = X.env.qual ++ Str.ofString "<lambda>")
    (hdef : defaultsOf params X.env = ([], []))
    (hfree : X.Ok → ∀ y : Str × NameKind, y ∈ scope.names → y.2 = .free → ∃ c, List.lookup y.1 X.env.cells = some c)
    (S : NScope N [y] fr scope) (cp : X.Ok → Caps X (cloFrom X.env.cells scope.names []) fr js)
    (hb : ∀ (q : Str) (cl : List (Str × Addr)) (pm cdv ctv : Value) (us : List Value), us.length = 1 → bindArgs (PySem.W.kla_fn (Str.ofString "<lambda>") q params body scope cl pm cdv ctv) { pos := us } = pure ([y].zip us))
    (hr : Room (k + 2) X.A)
    (hbody : ∀ (f c' : Addr) (s : Shared) (H : Hp), Room k (X.A.in1.in1.deeper (envF (lamNF X params scope c') f s.heap.objs.size)) → PE (ncx CX0 X.prog X.w X.K X.mg X.base N (lamNF X params scope c') f X.A.in1.in1 X.stack s H fun _ _ _ => False) body tb)
    (he : backTo pos (starEach [e] X.env) = (false, eval e X.env) :: backTo pos (starEach [] X.env) := by rfl)
    (hpl : ((backTo pos (starEach [e] X.env)).any fun x => x.1) = false := by rfl) :
    PE X ((Expr.Name (Str.ofString "sorted") p).Call [e] [⟨some (Str.ofString "key"), .Lambda params body scope lpos, kpos⟩] pos) (tSortK K N js TL R cv ta tb) := by
  subst hK
  refine ⟨fun pins s σ H Q I h => wpAny_Call_Name_kw (ld_blt I hg hm hv (callWith_kw ?_ he hpl rfl rfl) (by decide) (by decide))⟩
  refine thn (ha.run pos pins s σ H _ I h) ?_
  rintro us s1 ⟨vs, H1, I1, r1, l, xs, ks, rfl, hS, hlen, hT, hturn, hq⟩
  obtain ⟨u, hu1, rfl⟩ : ∃ u, L2.RelV (.ref l) u ∧ us = [u] := by
    cases r1 with | cons r t => cases t; exact ⟨_, r, rfl⟩
  have hul : u = .ref l := hu1
  subst hul
  show wpAny (model X.prog X.w) X.A (evalAll [do let v ← eval (.Lambda params body scope lpos) X.env; standAt pos; pure v]) _ X.xe s1
  refine wpAny_evalAll_cons (wpAny_bind ?_)
  refine lam_make2 I1 TB hcode hmT hu hT hdef (hfree I1.ok) fun f c' pm ctv H2 s2 I2 x2 hT2 hf hfn hfs hc2 => ?_
  refine wpAny_bind (wpAny_standAt (wpAny_pure (wpAny_pure ?_)))
  show wpAny (model X.prog X.w) X.A (call (.builtin "sorted") [.ref l] [(Str.ofString "key", .ref f)]) (EP X pins σ Q) X.xe s2
  have hfl : f ≠ X.env.locals := fun z => by
    subst z
    obtain ⟨m, ⟨o, es, ep, h1, h2, _⟩, _⟩ := I2.loc
    rw [hf] at h1
    cases h1
    cases h2
  have hfX : f ∉ X.fs := fun z => hfs (by
    rcases I2.ok.stk with e | ⟨e, _⟩
    · rw [e]; exact z
    · rw [e]
      change f ∈ frs X.outer at z
      unfold frs at z ⊢
      rw [List.filterMap_cons]
      split
      · exact z
      · exact List.mem_cons_of_mem _ z)
  have I3 : L2.Inv X (pins ++ [(f, PySem.W.kla_obj (Str.ofString "<lambda>") (X.env.qual ++ Str.ofString "<lambda>") params body scope (cloFrom X.env.cells scope.names []) pm c' ctv)]) σ H2 s2 := by
    refine I2.pins_of fun q hq => ?_
    rcases List.mem_append.mp hq with hq | hq
    · exact I2.pin q (List.mem_append.mpr (.inr hq))
    · rw [List.mem_singleton.mp hq]
      exact ⟨hf, hfn, hfl, hfX, fun v z => nomatch z⟩
  have hxs : xs.length = ks.length := hlen.symm
  refine wpAny_mono (sorted_key (Q := Q) KR (by have := hr.un; omega) I3 (l := l) (xs := xs) (ks := ks) ?_ hlen (fun i x k hx hk => ?_) fun H3 a ys s3 ha3 hys hz => ?_) (fun v s' hq' => ?_) fun _ _ z => z
  · rcases hS with (h | ⟨o, h⟩) | h
    · exact .inl (.inl (x2 _ _ h fun _ z => nomatch z))
    · exact .inl (.inr ⟨o, x2 _ _ h fun _ z => nomatch z⟩)
    · exact .inr h
  · intro pl H3 s3 u I4 s4 ru
    have hf3 := (I4.pin _ (List.mem_append.mpr (.inr (List.mem_append.mpr (.inl (List.mem_append.mpr (.inr (List.mem_singleton.mpr rfl)))))))).1
    refine call1 (F := lamNF X params scope c') I4 S hf3 (s4 _ _ hc2) (fun us hl => hb _ _ _ _ _ us hl) hr (cells_of I4 (cp I4.ok)) ru (hbody f c' s3 H3) ?_
    exact hturn H3 (fun b o e n => s4 _ _ (x2 b o e n)) i x k hx hk
  · exact hq H2 H3 a ys x2 hT2 s3 ha3 hys hz
  · obtain ⟨y, H', J, ry, hQ⟩ := hq'
    exact ⟨y, H', J.unpinned, ry, hQ⟩
end SKx

/-! defs that make lambdas; what stays behind them -/
namespace S4
open PySem L2 TT MM LamX
structure KeepN (H H' : Hp) : Prop where
  tup : ∀ {t : Addr} {xs : List V}, H t = some (.tup xs) → H' t = some (.tup xs)
  ins : ∀ {t C dx : Addr} {xs : List (Str × V)}, H t = some (.ins C dx xs) → H' t = some (.ins C dx xs)
theorem KeepN.refl (H : Hp) : KeepN H H := ⟨fun h => h, fun h => h⟩
theorem KeepN.trans {H H1 H2 : Hp} (a : KeepN H H1) (b : KeepN H1 H2) : KeepN H H2 := ⟨fun h => b.tup (a.tup h), fun h => b.ins (a.ins h)⟩
theorem _root_.TT.Keep.n {H H' : Hp} (k : Keep H H') : KeepN H H' := ⟨fun h => k.tup h, fun h => k.ins h⟩
theorem _root_.LamX.ExtN.keep {H H' : Hp} (u : ExtN H H') : KeepN H H' := ⟨fun h => u _ _ h (fun _ q => nomatch q), fun h => u _ _ h (fun _ q => nomatch q)⟩
theorem _root_.L2.Same.extN {H H' : Hp} (s : Same H H') : ExtN H H' := fun x o h _ => s x o h
theorem _root_.LamX.ExtN.lst {H H' : Hp} (u : ExtN H H') {a : Addr} {xs : List V} (h : H a = some (.lst xs)) : H' a = some (.lst xs) := u _ _ h fun _ q => nomatch q
theorem _root_.LamX.ExtN.dT {H H' : Hp} (u : ExtN H H') {a : Addr} {xs : List (List L2.Key × V)} (h : H a = some (.dT xs)) : H' a = some (.dT xs) := u _ _ h fun _ q => nomatch q
theorem Tabs.same {TL : List (Addr × Str)} {H H' : Hp} (t : Tabs TL H) (s : Same H H') : Tabs TL H' := t.ext s
/-! ### data behind lambdas -/
def MonoN {α : Type} (R : Rp α) : Prop := ∀ H H' v x, KeepN H H' → R H v x → R H' v x
theorem MonoN.m {α : Type} {R : Rp α} (m : MonoN R) : Mono R := fun H H' v x k h => m H H' v x k.n h
theorem monoN_int : MonoN rInt := fun _ _ _ _ _ h => h
theorem monoN_row : MonoN rRow := fun _ _ _ _ k ⟨t, e, h⟩ => ⟨t, e, k.tup h⟩
theorem monoN_pi : MonoN rPI := fun _ _ _ _ k ⟨t, e, h⟩ => ⟨t, e, k.tup h⟩
theorem pairedN {α : Type} {R : Rp α} (m : MonoN R) {H H' : Hp} (k : KeepN H H') {xs : List V} {l : List α} (p : Paired (R H) xs l) : Paired (R H') xs l := Paired.mapP p fun _ _ h => m _ _ _ _ k h
theorem monoN_tup {α : Type} {R : Rp α} (m : MonoN R) : MonoN (rTup R) := fun _ _ _ _ k ⟨t, xs, e, h, p⟩ => ⟨t, xs, e, k.tup h, pairedN m k p⟩
theorem monoN_tree (cT : Addr) : MonoN (rTree cT) := fun _ _ _ _ k ⟨a, dx, t, xs, e, h1, h2, h3⟩ => ⟨a, dx, t, xs, e, k.ins h1, k.tup h2, pairedN monoN_pi k h3⟩
theorem monoN_sheet (cT cS : Addr) : MonoN (rSheet cT cS) := fun _ _ _ _ k ⟨a, dx, tr, th, tw, e, h1, h2, h3, h4⟩ => ⟨a, dx, tr, th, tw, e, k.ins h1, monoN_tree cT _ _ _ _ k h2, monoN_row _ _ _ _ k h3, monoN_tup (monoN_tup monoN_row) _ _ _ _ k h4⟩
/-! ### a def that makes lambdas -/
structure LamD (mg : Str → Option Value) (base : Heap) (x : Str) (fd : FuncData) (c P : Addr) (TL : List (Addr × Str)) : Prop where
  code : fd.code = .ref c
  tb : TabB base mg c P
  mem : (P, x ++ ".<locals>." ++ "<lambda>") ∈ TL
  un : ∀ p ∈ TL, p.1 = P → p.2 = x ++ ".<locals>." ++ "<lambda>"
section
variable {P : Program} {w : World} {K : PySem.W.Frag} {mg : Str → Option Value} {base : Heap}
theorem _root_.L2.Fun.okT {x : Str} {st : Stmt} {f c : Addr} {fd : FuncData} {N ps : List Str} {k : Nat} {sp : Sp} (F : Fun K x x st f fd) (hc : fd.code = .ref c) (S : FnScope N ps (defScope st)) (len : ∀ vs H Q E, sp vs H Q E → vs.length = ps.length)
    (hbody : ∀ (A : Around) (outer : List Env) (s : Shared) (H : Hp) (vs : List V) (Q : VK) (E : XK), Room k (A.deeper (PyProof.Rows.envOfC x (defScope st) s.heap.objs.size f (.ref c))) → sp vs H Q E →
      ∃ t, PSs (cxOf CX0 P w K mg base N x (defScope st) f (.ref c) A outer s H E).nox (defBody st) t ∧ t { nx := fun _ H' => Q .non H', rt := Q } (start N vs) H) : FnOk P w K mg base CX0 (k + 1) f fd ps sp := by
  obtain ⟨oc, od, kV, doc, pm, an, cdv, ct, osl, rfl, lk, hcd⟩ := F.ex
  have e : cdv = .ref c := hc
  subst e
  refine fn_of lk hcd S len fun A outer s H vs Q E hr hsp => ?_
  obtain ⟨t, h, q⟩ := hbody A outer s H vs Q E hr hsp
  exact ⟨t, h.nox, q⟩
end
/-! ### keys that are a number and a way -/
def rKey (K : PySem.W.Frag) (H : Hp) (v : V) (k : Int × (Int × Int)) : Prop := ∃ t w, v = .ref t ∧ SqT K H t [.int k.1, .ref w] ∧ SqT K H w [.int k.2.1, .int k.2.2]
def cvKey (k : Int × (Int × Int)) : PyData := .tuple [.int k.1, .tuple [.int k.2.1, .int k.2.2]]
theorem keyR (K : PySem.W.Frag) : SKx.KeyR K (rKey K) cvKey where
  mono := fun {H H' v k} s h => by
    have up : ∀ {a : Addr} {xs : List V}, SqT K H a xs → SqT K H' a xs := fun {a xs} h => by
      rcases h with (h | ⟨o, h⟩) | h
      · exact .inl (.inl (s _ _ h))
      · exact .inl (.inr ⟨o, s _ _ h⟩)
      · exact .inr h
    obtain ⟨t, w, e, h1, h2⟩ := h
    exact ⟨t, w, e, up h1, up h2⟩
  reads := fun {X pins σ H s v k u} hK I h r => by
    subst hK
    obtain ⟨t, w, rfl, h1, h2⟩ := h
    obtain ⟨i1, v1, ⟨o1, g1, c1, n1, d1⟩, _⟩ := I.tuple h1
    obtain ⟨i2, v2, ⟨o2, g2, c2, n2, d2⟩, _⟩ := I.tuple h2
    have hr : u = .ref t := r
    subst hr
    cases v1 with
    | cons a1 b1 =>
      cases b1 with
      | cons a2 b2 =>
        cases b2
        cases v2 with
        | cons a3 b3 =>
          cases b3 with
          | cons a4 b4 =>
            cases b4
            obtain ⟨t1, rfl⟩ := a1
            obtain ⟨t3, rfl⟩ := a3
            obtain ⟨t4, rfl⟩ := a4
            have e2 := a2
            subst e2
            exact .tuple g1 c1 d1 (.cons (.int _ _) (.cons (.tuple g2 c2 d2 (.cons (.int _ _) (.cons (.int _ _) .nil))) .nil))
  alike := fun k k' => rfl
  sortable := fun ks => .inl fun d hd => by
    obtain ⟨k, _, rfl⟩ := List.mem_map.mp hd
    exact ⟨_, _, rfl⟩
  depth := fun k => by
    show (cvKey k).depth ≤ 5
    exact (show (cvKey k).depth = 2 from rfl) ▸ (by decide)
end S4

namespace S4
open PySem L2 TT
/-! ### any things -/
def Flat : V → Prop
  | .non => True
  | .bl _ => True
  | .int _ => True
  | .str _ => True
  | _ => False
/-- a thing of which is known what it is, n deep -/
def Th0 (g : Addr) (H : Hp) (v : V) : Prop := Flat v ∨ ∃ a, v = .ref a ∧ a ≠ g ∧ ((∃ xs, H a = some (.tup xs) ∧ xs.length ≤ 1000) ∨ (∃ xs, H a = some (.lst xs)) ∨ ∃ kvs, H a = some (.dK kvs))
def Th (g : Addr) (H : Hp) : Nat → V → Prop
  | 0, v => Th0 g H v
  | n + 1, v => Th0 g H v ∧ ∀ a xs, v = .ref a → H a = some (.tup xs) → ∀ x ∈ xs, Th g H n x
theorem Th.zero {g : Addr} {H : Hp} : ∀ {n : Nat} {v : V}, Th g H n v → Th g H 0 v
  | 0, _, h => h
  | _ + 1, _, h => h.1
def tupOf (H : Hp) : V → Option (List V)
  | .ref a => match H a with
    | some (.tup xs) => some xs
    | _ => none
  | _ => none
theorem tupOf_at {H : Hp} {a : Addr} {xs : List V} (h : H a = some (.tup xs)) : tupOf H (.ref a) = some xs := by unfold tupOf; simp only [h]
theorem tupOf_some {H : Hp} {v : V} {xs : List V} (h : tupOf H v = some xs) : ∃ a, v = .ref a ∧ H a = some (.tup xs) := by
  unfold tupOf at h
  cases v with
  | ref a =>
    refine ⟨a, rfl, ?_⟩
    simp only at h
    cases e : H a with
    | none => rw [e] at h; cases h
    | some o =>
      rw [e] at h
      cases o <;> first | (cases h; rfl) | cases h
  | _ => cases h
theorem Th.tupOf {g : Addr} {H H' : Hp} {n : Nat} {v : V} (t : Th g H n v) (b : But g H H') : tupOf H' v = S4.tupOf H v := by
  rcases t.zero with f | ⟨a, rfl, na, ⟨xs, h, _⟩ | ⟨xs, h⟩ | ⟨kvs, h⟩⟩
  · cases v <;> first | rfl | exact f.elim
  · rw [tupOf_at h, tupOf_at (b _ _ na h)]
  · unfold S4.tupOf; simp only [h, b _ _ na h]
  · unfold S4.tupOf; simp only [h, b _ _ na h]
theorem Th.but {g : Addr} {H H' : Hp} (b : But g H H') : ∀ {n : Nat} {v : V}, Th g H n v → Th g H' n v
  | 0, v, h => by
    rcases h with f | ⟨a, rfl, na, h⟩
    · exact .inl f
    · refine .inr ⟨a, rfl, na, ?_⟩
      rcases h with ⟨xs, h, l⟩ | ⟨xs, h⟩ | ⟨kvs, h⟩
      · exact .inl ⟨xs, b _ _ na h, l⟩
      · exact .inr (.inl ⟨xs, b _ _ na h⟩)
      · exact .inr (.inr ⟨kvs, b _ _ na h⟩)
  | n + 1, v, h => by
    refine ⟨Th.but (n := 0) b h.1, fun a xs e hx x hm => ?_⟩
    have e1 := Th.tupOf h b
    subst e
    rw [tupOf_at hx] at e1
    obtain ⟨a', e2, h2⟩ := tupOf_some e1.symm
    cases e2
    exact Th.but b (h.2 a xs rfl h2 x hm)
theorem Th.same {g : Addr} {H H' : Hp} {n : Nat} {v : V} (s : Same H H') (h : Th g H n v) : Th g H' n v := h.but (s.but g)
theorem Th.mem {g : Addr} {H : Hp} {n : Nat} {v : V} {xs : List V} (h : Th g H (n + 1) v) (e : S4.tupOf H v = some xs) : ∀ x ∈ xs, Th g H n x := by
  obtain ⟨a, rfl, ha⟩ := tupOf_some e
  exact h.2 a xs rfl ha
theorem Th.len {g : Addr} {H : Hp} {n : Nat} {v : V} {xs : List V} (h : Th g H n v) (e : S4.tupOf H v = some xs) : xs.length ≤ 1000 := by
  obtain ⟨a, rfl, ha⟩ := tupOf_some e
  rcases h.zero with f | ⟨a', e', _, ⟨ys, h, l⟩ | ⟨ys, h⟩ | ⟨kvs, h⟩⟩
  · exact f.elim
  · cases e'; rw [h] at ha; cases ha; exact l
  · cases e'; rw [h] at ha; cases ha
  · cases e'; rw [h] at ha; cases ha
theorem Th.less {g : Addr} {H : Hp} : ∀ {n : Nat} {v : V}, Th g H (n + 1) v → Th g H n v
  | 0, _, h => h.1
  | _ + 1, _, h => ⟨h.1, fun a xs e hx x hm => (h.2 a xs e hx x hm).less⟩
theorem Th.flat {g : Addr} {H : Hp} {v : V} (h : Flat v) : ∀ n : Nat, Th g H n v
  | 0 => .inl h
  | n + 1 => ⟨.inl h, fun a xs e => by subst e; exact h.elim⟩
theorem Th.tup {g : Addr} {H : Hp} {a : Addr} {xs : List V} {n : Nat} (h : H a = some (.tup xs)) (na : a ≠ g) (hl : xs.length ≤ 1000) (hx : ∀ x ∈ xs, Th g H n x) : Th g H (n + 1) (.ref a) :=
  ⟨.inr ⟨a, rfl, na, .inl ⟨xs, h, hl⟩⟩, fun a' ys e hy => by cases e; rw [h] at hy; cases hy; exact hx⟩
theorem Th.tup0 {g : Addr} {H : Hp} {a : Addr} {xs : List V} (h : H a = some (.tup xs)) (na : a ≠ g) (hl : xs.length ≤ 1000) : Th g H 0 (.ref a) := .inr ⟨a, rfl, na, .inl ⟨xs, h, hl⟩⟩
theorem Th.lst {g : Addr} {H : Hp} {a : Addr} {xs : List V} (h : H a = some (.lst xs)) (na : a ≠ g) : ∀ n : Nat, Th g H n (.ref a)
  | 0 => .inr ⟨a, rfl, na, .inr (.inl ⟨xs, h⟩)⟩
  | n + 1 => ⟨.inr ⟨a, rfl, na, .inr (.inl ⟨xs, h⟩)⟩, fun a' ys e hy => by cases e; rw [h] at hy; cases hy⟩
theorem Th.dct {g : Addr} {H : Hp} {a : Addr} {xs : List (Key × V)} (h : H a = some (.dK xs)) (na : a ≠ g) : ∀ n : Nat, Th g H n (.ref a)
  | 0 => .inr ⟨a, rfl, na, .inr (.inr ⟨xs, h⟩)⟩
  | n + 1 => ⟨.inr ⟨a, rfl, na, .inr (.inr ⟨xs, h⟩)⟩, fun a' ys e hy => by cases e; rw [h] at hy; cases hy⟩
/-! its kind -/
def isTupB (H : Hp) (v : V) : Bool := (tupOf H v).isSome
def isLstB (H : Hp) : V → Bool
  | .ref a => match H a with
    | some (.lst _) => true
    | _ => false
  | _ => false
def isIntB : V → Bool
  | .int _ => true
  | .bl _ => true
  | _ => false
def isBlB : V → Bool
  | .bl _ => true
  | _ => false
theorem Th.kind {g : Addr} {H : Hp} {n : Nat} {v : V} (h : Th g H n v) (K : PySem.W.Frag) : ∃ t, TyX K H v t ∧ PySem.W.kitOne K t (.type "tuple") = some (isTupB H v) ∧ PySem.W.kitOne K t (.type "int") = some (isIntB v) ∧ PySem.W.kitOne K t (.type "bool") = some (isBlB v) ∧
    PySem.W.kitOne K t (.type "list") = some (isLstB H v) := by
  rcases h.zero with f | ⟨a, rfl, na, ⟨xs, h, _⟩ | ⟨xs, h⟩ | ⟨kvs, h⟩⟩
  · cases v with
    | non => exact ⟨_, .base .non, kit_ty (r := false) (by decide +kernel), kit_ty (r := false) (by decide +kernel), kit_ty (r := false) (by decide +kernel), kit_ty (r := false) (by decide +kernel)⟩
    | bl b => exact ⟨_, .base (.bl b), kit_ty (r := false) (by decide +kernel), kit_ty (r := true) (by decide +kernel), kit_ty (r := true) (by decide +kernel), kit_ty (r := false) (by decide +kernel)⟩
    | int b => exact ⟨_, .base (.int b), kit_ty (r := false) (by decide +kernel), kit_ty (r := true) (by decide +kernel), kit_ty (r := false) (by decide +kernel), kit_ty (r := false) (by decide +kernel)⟩
    | str b => exact ⟨_, .base (.str b), kit_ty (r := false) (by decide +kernel), kit_ty (r := false) (by decide +kernel), kit_ty (r := false) (by decide +kernel), kit_ty (r := false) (by decide +kernel)⟩
    | _ => exact f.elim
  · have e1 : isTupB H (.ref a) = true := by unfold isTupB; rw [tupOf_at h]; rfl
    have e2 : isLstB H (.ref a) = false := by unfold isLstB; simp only [h]
    rw [e1, e2]
    exact ⟨_, .base (.tup h), kit_ty (r := true) (by decide +kernel), kit_ty (r := false) (by decide +kernel), kit_ty (r := false) (by decide +kernel), kit_ty (r := false) (by decide +kernel)⟩
  · have e1 : isTupB H (.ref a) = false := by unfold isTupB S4.tupOf; simp only [h]; rfl
    have e2 : isLstB H (.ref a) = true := by unfold isLstB; simp only [h]
    rw [e1, e2]
    exact ⟨_, .base (.lst h), kit_ty (r := false) (by decide +kernel), kit_ty (r := false) (by decide +kernel), kit_ty (r := false) (by decide +kernel), kit_ty (r := true) (by decide +kernel)⟩
  · have e1 : isTupB H (.ref a) = false := by unfold isTupB S4.tupOf; simp only [h]; rfl
    have e2 : isLstB H (.ref a) = false := by unfold isLstB; simp only [h]
    rw [e1, e2]
    exact ⟨_, .base (.dK h), kit_ty (r := false) (by decide +kernel), kit_ty (r := false) (by decide +kernel), kit_ty (r := false) (by decide +kernel), kit_ty (r := false) (by decide +kernel)⟩
/-! what the checks tell -/
def isI : V → Bool
  | .int _ => true
  | _ => false
def below (v : V) (e : Int) : Bool := match v with
  | .int n => decide (0 ≤ n ∧ n < e)
  | _ => false
theorem below_int {v : V} {e : Int} (h : below v e = true) : ∃ n, v = .int n ∧ 0 ≤ n ∧ n < e := by
  cases v with
  | int n => exact ⟨n, rfl, (of_decide_eq_true h).1, (of_decide_eq_true h).2⟩
  | _ => cases h
def pairB (H : Hp) (v : V) : Bool := match tupOf H v with
  | some xs => decide (xs.length = 2)
  | none => false
theorem isI_eq (v : V) : isI v = (isIntB v && !isBlB v) := by cases v <;> rfl
/-- all of some, told by a list of flags -/
theorem all_fm {α : Type} {l : List α} {f : α → Bool} : ((List.range l.length).filterMap fun i => l[i]?.bind fun x => some (f x)).all id = l.all f := by
  rw [fm_list]
  induction l with
  | nil => rfl
  | cons a l ih => rw [List.filterMap_cons]; simp only; rw [List.all_cons, List.all_cons, ih]; rfl
section
variable {P : Program} {w : World} {K : PySem.W.Frag} {mg : Str → Option Value} {base : Heap} {cT cS : Addr}
def spIsIntegerT : Sp := fun vs H Q _ => ∃ (g : Addr) (v : V), vs = [v] ∧ Th g H 0 v ∧ Q (.bl (isI v)) H
theorem ok_is_integerT (T : Tx K mg cT cS) {f : Addr} {fd : FuncData} (d : D K mg "is_integer" s_is_integer ["thing"] f fd) : FnOk P w K mg base CX0 1 f fd ["thing"] spIsIntegerT := by
  refine d.F.ok sc_is_integer (fun vs H Q E h => ?_) (fun cdv A outer s H vs Q E hr h => ?_)
  · obtain ⟨g, n, rfl, _⟩ := h
    rfl
  · obtain ⟨g, v, rfl, th, q⟩ := h
    obtain ⟨t, ty, _, k1, k2, _⟩ := th.kind K
    refine ⟨_, pss_one (ps_ret (pe_and (pe_callB call_isi (by rfl) T.b_isinstance (by decide +kernel) (pa_cons (pv 0) (pa_cons (ty_int T.b_int) pa_nil)))
      (pe_one (pe_not (pe_callB call_isi (by rfl) T.b_isinstance (by decide +kernel) (pa_cons (pv 0) (pa_cons (ty_bool T.b_bool) pa_nil))))))), ?_⟩
    rw [isI_eq] at q
    refine ⟨_, rfl, _, _, _, _, _, rfl, .ty _, ty, k1, _, rfl, ?_⟩
    cases e : isIntB v with
    | false => rw [e] at q; exact iteF q
    | true => rw [e] at q; exact iteT ⟨_, rfl, _, _, _, _, _, rfl, .ty _, ty, k2, _, rfl, q⟩
def spIsBelowT : Sp := fun vs H Q _ => ∃ (g : Addr) (v : V) (e : Int), vs = [v, .int e] ∧ Th g H 0 v ∧ Q (.bl (below v e)) H
theorem ok_is_belowT (T : Tx K mg cT cS) {f : Addr} {fd : FuncData} (d : D K mg "is_below" s_is_below ["thing", "end"] f fd) : FnOk P w K mg base CX0 2 f fd ["thing", "end"] spIsBelowT := by
  obtain ⟨f1, fd1, d1⟩ := T.d_is_integer
  have G1 : FnOk P w K mg base CX0 1 f1 fd1 ["thing"] spIsIntegerT := ok_is_integerT T d1
  refine d.F.ok sc_is_below (fun vs H Q E h => ?_) (fun cdv A outer s H vs Q E hr h => ?_)
  · obtain ⟨g, n, e, rfl, _⟩ := h
    rfl
  · obtain ⟨g, v, e, rfl, th, q⟩ := h
    refine ⟨_, pss_one (ps_ret (pe_and (pe_call G1 hr rfl d1.m d1.F.kp d1.b .nil pass0 (pa_cons (pv 0) pa_nil)) (pe_one (pe_chain op_le op_lt pe_int (pv 0) (pv 1))))), ?_⟩
    refine ⟨_, rfl, g, v, rfl, th, _, rfl, ?_⟩
    cases hv : isI v with
    | false =>
      have : below v e = false := by cases v <;> first | rfl | cases hv
      rw [this] at q
      exact iteF q
    | true =>
      obtain ⟨n, rfl⟩ : ∃ n, v = .int n := by cases v <;> first | exact ⟨_, rfl⟩ | cases hv
      refine iteT ⟨_, rfl, _, _, rfl, rfl, _, rfl, ?_⟩
      by_cases h0 : 0 ≤ n
      · rw [decide_eq_true h0]
        refine iteT ⟨_, rfl, _, _, rfl, rfl, ?_⟩
        have : below (.int n) e = decide (n < e) := by unfold below; simp [h0]
        rw [this] at q
        exact q
      · rw [decide_eq_false h0]
        have : below (.int n) e = false := by unfold below; simp [h0]
        rw [this] at q
        exact iteF q
def spIsPairT : Sp := fun vs H Q _ => ∃ (g : Addr) (v : V), vs = [v] ∧ Th g H 0 v ∧ Q (.bl (pairB H v)) H
end
end S4

namespace S4
open PySem L2 TT MM EE
theorem iteT' {b : Bool} {p q : Prop} (h : b = true) (x : p) : if b = true then p else q := by rw [if_pos h]; exact x
theorem iteF' {b : Bool} {p q : Prop} (h : b = false) (x : q) : if b = true then p else q := by rw [h]; exact x
theorem twice2 {α : Type} {R : Hp → Prop} {G : Prop} (C : Hp → α → Prop) (h : (∀ HX cs, C HX cs → R HX) → G) (y : ∀ HX cs, C HX cs → R HX) : G := h y
theorem tupOf_lst {H : Hp} {a : Addr} {xs : List V} (h : H a = some (.lst xs)) : tupOf H (.ref a) = none := by unfold tupOf; simp only [h]
def rowB (p wd : Int) (H : Hp) (v : V) : Bool := match tupOf H v with
  | some xs => decide ((xs.length : Int) = wd) && xs.all fun x => below x p
  | none => false
def intOf : V → Int
  | .int n => n
  | _ => 0
theorem rowB_some {p wd : Int} {H : Hp} {v : V} (h : rowB p wd H v = true) : ∃ a l, v = .ref a ∧ H a = some (.tup (l.map V.int)) ∧ isRow l p wd := by
  unfold rowB at h
  cases e : tupOf H v with
  | none => rw [e] at h; cases h
  | some xs =>
    rw [e] at h
    obtain ⟨a, rfl, ha⟩ := tupOf_some e
    simp only [Bool.and_eq_true, decide_eq_true_iff, List.all_eq_true] at h
    obtain ⟨h1, h2⟩ := h
    have hx : xs = (xs.map intOf).map V.int := by
      rw [List.map_map]
      refine (List.map_id xs).symm.trans (List.map_congr_left fun x hx => ?_)
      obtain ⟨n, rfl, _⟩ := below_int (h2 x hx)
      rfl
    refine ⟨a, xs.map intOf, rfl, by rw [← hx]; exact ha, by rw [List.length_map]; exact h1, fun y hy => ?_⟩
    obtain ⟨x, hx, rfl⟩ := List.mem_map.mp hy
    obtain ⟨n, rfl, h3⟩ := below_int (h2 x hx)
    exact h3
theorem rowB_row {p wd : Int} {H : Hp} {a : Addr} {l : List Int} (h : H a = some (.tup (l.map V.int))) : rowB p wd H (.ref a) = (decide ((l.length : Int) = wd) && l.all fun x => decide (0 ≤ x ∧ x < p)) := by
  unfold rowB
  rw [tupOf_at h]
  show (decide (((l.map V.int).length : Int) = wd) && _) = _
  rw [List.length_map, List.all_map]
  rfl
theorem rowB_but {g : Addr} {H H' : Hp} (b : But g H H') {n : Nat} {v : V} (h : Th g H n v) (p wd : Int) : rowB p wd H' v = rowB p wd H v := by unfold rowB; rw [h.tupOf b]
theorem int_map (l : List Int) : (l.map V.int).map intOf = l := by rw [List.map_map]; exact (List.map_congr_left fun _ _ => rfl).trans (List.map_id l)
section
variable {P : Program} {w : World} {K : PySem.W.Frag} {mg : Str → Option Value} {base : Heap} {cT cS : Addr}
def spIsRowT : Sp := fun vs H Q _ => ∃ (g : Addr) (v : V) (p wd : Int), vs = [v, .int p, .int wd] ∧ Th g H 1 v ∧ ∀ H', Same H H' → Q (.bl (rowB p wd H v)) H'
theorem ok_is_rowT (T : Tx K mg cT cS) {f : Addr} {fd : FuncData} (d : D K mg "is_row" s_is_row ["thing", "p", "wide"] f fd) : FnOk P w K mg base CX0 3 f fd ["thing", "p", "wide"] spIsRowT := by
  obtain ⟨f1, fd1, d1⟩ := T.d_is_below
  have G1 := ok_is_belowT (P := P) (w := w) (base := base) T d1
  refine d.F.ok sc_is_row (fun vs H Q E h => ?_) (fun cdv A outer s H vs Q E hr h => ?_)
  · obtain ⟨g, v, p, wd, rfl, _⟩ := h
    rfl
  · obtain ⟨g, v, p, wd, rfl, th, q⟩ := h
    refine ⟨_, pss_cons (ps_if (PW.pt (pw_or (pt_not (pt_val (pe_callB call_isi (by rfl) T.b_isinstance (by decide +kernel) (pa_cons (pv 0) (pa_cons (ty_tuple T.b_tuple) pa_nil))))) (pw_or1 (pt_cmpR op_ne (pe_callB call_len_seq (by rfl) T.b_len PySem.boot_len (pa_cons (pv 0) pa_nil)) (pv 2) (nomark _))))) (pss_one (ps_ret pe_bl)) pss_nil)
      (pss_one (ps_ret (pe_callB (cr_all rfl) (by rfl) T.b_all (by decide +kernel) (pa_cons (pe_lc (own := [("value", 3)]) (g := (gName 3)) (tt := tYes) rfl sc_is_row.nd (pi_tup (pv 0)) (blkOk_by (N := N_is_row) (sc := defScope s_is_row) (by decide +kernel)) (fun _ _ _ _ _ => (pg_name (i := 3) sc_is_row.nd rfl (Or.inl rfl))) (fun _ _ _ _ _ => pts_nil)
            (fun _ _ _ _ _ => (pe_call G1 (hr.mono (by decide)) rfl d1.m d1.F.kp d1.b .nil pass0 (pa_cons (pv 3) (pa_cons (pv 1) pa_nil))))) pa_nil)))), ?_⟩
    obtain ⟨t, ty, k0, _, _, _⟩ := th.kind K
    refine ⟨_, rfl, _, _, _, _, _, rfl, .ty _, ty, k0, _, rfl, ?_⟩
    unfold rowB at q
    unfold isTupB
    cases e : tupOf H v with
    | none => rw [e] at q; exact iteT (q _ (.refl _))
    | some xs =>
      rw [e] at q
      have hm := th.mem e
      have hl := th.len e
      obtain ⟨a, rfl, ha⟩ := tupOf_some e
      refine iteF ⟨_, rfl, _, _, rfl, .inr (.of ha), _, rfl, rfl, _, rfl, ?_⟩
      by_cases h40 : (xs.length : Int) = wd
      · simp only [decide_eq_true h40, Bool.true_and] at q
        refine iteF' (by rw [h40]; simp) ?_
        refine ⟨_, rfl, a, rfl, ⟨_, .of ha⟩, fun D hD => ?_⟩
        refine lc_fm (walk_tup (xs := xs)) rBl (fun i => xs[i]?.bind fun x => some (below x p)) hD (fun H' s' => .of (s'.keep.tup ha)) ?_ ?_
        · rintro i x H2 H3 hi pv ⟨rfl, hx⟩
          have hxm := List.mem_of_getElem? hx
          refine ⟨rfl, _, rfl, _, rfl, g, x, _, rfl, (hm x hxm).same pv.1, ?_⟩
          exact fm_keep mono_bl pv hD (by omega) (Same.refl _) (by rw [hx]; rfl) rfl
        · intro H2 ys s2 hD2 hp
          have := paired_bl hp
          subst this
          refine ⟨_, _, rfl, .of hD2, ?_⟩
          rw [all_fm]
          exact q _ s2
      · simp only [decide_eq_false h40, Bool.false_and] at q
        exact iteT' (by simpa using h40) (q _ (.refl _))
end
end S4

namespace S4
open PySem L2 TT MM
/-! ### any thing at all: a number, a flag, None, a text -/
def Odd (v : V) (b : Bool) : Prop := (∃ n, v = .int n ∧ b = true) ∨ (∃ x, v = .bl x ∧ b = false) ∨ (v = .non ∧ b = false) ∨ (∃ x, v = .str x ∧ b = false)
section
variable {K : PySem.W.Frag}
theorem kit_bi : PySem.W.kitOne K (.type "bool") (.type "int") = some true := kit_ty (by decide +kernel)
theorem kit_bb : PySem.W.kitOne K (.type "bool") (.type "bool") = some true := kit_ty (by decide +kernel)
theorem kit_ni : PySem.W.kitOne K (.type "NoneType") (.type "int") = some false := kit_ty (by decide +kernel)
theorem kit_si : PySem.W.kitOne K (.type "str") (.type "int") = some false := kit_ty (by decide +kernel)
end
section
variable {P : Program} {w : World} {K : PySem.W.Frag} {mg : Str → Option Value} {base : Heap} {cT cS : Addr}
def spIntB : Sp := fun vs H Q _ => ∃ (v : V) (b : Bool), vs = [v] ∧ Odd v b ∧ Q (.bl b) H
theorem ok_intB (T : Tx K mg cT cS) {f : Addr} {fd : FuncData} (d : D K mg "is_integer" s_is_integer ["thing"] f fd) : FnOk P w K mg base CX0 1 f fd ["thing"] spIntB := by
  refine d.F.ok sc_is_integer (fun vs H Q E h => ?_) (fun cdv A outer s H vs Q E hr h => ?_)
  · obtain ⟨v, b, rfl, _⟩ := h
    rfl
  · obtain ⟨v, b, rfl, hv, q⟩ := h
    refine ⟨_, pss_one (ps_ret (pe_and (pe_callB call_isi (by rfl) T.b_isinstance (by decide +kernel) (pa_cons (pv 0) (pa_cons (ty_int T.b_int) pa_nil)))
      (pe_one (pe_not (pe_callB call_isi (by rfl) T.b_isinstance (by decide +kernel) (pa_cons (pv 0) (pa_cons (ty_bool T.b_bool) pa_nil))))))), ?_⟩
    rcases hv with ⟨n, rfl, rfl⟩ | ⟨x, rfl, rfl⟩ | ⟨rfl, rfl⟩ | ⟨x, rfl, rfl⟩
    · exact ⟨_, rfl, _, _, _, _, _, rfl, .ty _, .base (.int _), kit_ii, _, rfl, iteT ⟨_, rfl, _, _, _, _, _, rfl, .ty _, .base (.int _), kit_ib, _, rfl, q⟩⟩
    · exact ⟨_, rfl, _, _, _, _, _, rfl, .ty _, .base (.bl _), kit_bi, _, rfl, iteT ⟨_, rfl, _, _, _, _, _, rfl, .ty _, .base (.bl _), kit_bb, _, rfl, q⟩⟩
    · exact ⟨_, rfl, _, _, _, _, _, rfl, .ty _, .base .non, kit_ni, _, rfl, iteF q⟩
    · exact ⟨_, rfl, _, _, _, _, _, rfl, .ty _, .base (.str _), kit_si, _, rfl, iteF q⟩
def spClkB : Sp := fun vs H Q _ => ∃ (v : V) (b : Bool), vs = [v] ∧ Odd v b ∧ ∀ t : Bool, (t = true ↔ ∃ n, v = .int n ∧ NoDiv n) → Q (.bl t) H
theorem ok_clkB (T : Tx K mg cT cS) {f : Addr} {fd : FuncData} (d : D K mg "is_clock" s_is_clock ["thing"] f fd) : FnOk P w K mg base CX0 2 f fd ["thing"] spClkB := by
  obtain ⟨f1, fd1, d1⟩ := T.d_is_integer
  have G1 : FnOk P w K mg base CX0 1 f1 fd1 ["thing"] spIntB := ok_intB T d1
  obtain ⟨tk, hM⟩ := T.c_MOST_HOURS
  refine d.F.ok sc_is_clock (fun vs H Q E h => ?_) (fun cdv A outer s H vs Q E hr h => ?_)
  · obtain ⟨v, b, rfl, _⟩ := h
    rfl
  · obtain ⟨v, b, rfl, hv, q⟩ := h
    refine ⟨_, pss_cons (ps_if (PW.pt (pw_or (pt_not (pt_val (pe_call G1 hr rfl d1.m d1.F.kp d1.b .nil pass0 (pa_cons (pv 0) pa_nil))))
        (pw_or1 (pt_not (pt_chain op_le op_le pe_int (pv 0) (pe_glob (v := .int 1000000) rfl hM ⟨_, rfl⟩)))))) (pss_one (ps_ret pe_bl)) pss_nil)
      (pss_cons (ps_set (i := 1) sc_is_clock.nd rfl (.inl rfl) pe_int)
      (pss_cons (ps_while PassesOwn.never (pt_cmpR op_le (pe_op op_mul (pv 1) (pv 1)) (pv 0) (nomark _))
        (pss_cons (ps_if (pt_cmpR op_eq (pe_op op_mod (pv 0) (pv 1)) pe_int (nomark _)) (pss_one (ps_ret pe_bl)) pss_nil)
          (pss_one (ps_aug (i := 1) sc_is_clock.nd rfl (.inl rfl) pe_int ip_add))))
      (pss_one (ps_ret pe_bl)))), ?_⟩
    have hodd := hv
    rcases hv with ⟨n, rfl, rfl⟩ | h
    · have no : ¬ NoDiv n → Q (.bl false) H := fun h => q false ⟨fun e => (by cases e), fun ⟨m, e, hm⟩ => absurd (by cases e; exact hm) h⟩
      refine ⟨_, rfl, .int n, true, rfl, hodd, _, rfl, iteF ?_⟩
      refine ⟨_, rfl, _, _, rfl, rfl, _, rfl, ?_⟩
      by_cases n2 : 2 ≤ n
      · rw [decide_eq_true n2]
        refine iteT ⟨_, _, rfl, rfl, _, rfl, ?_⟩
        by_cases n6 : n ≤ 1000000
        · rw [decide_eq_true n6]
          refine iteF ?_
          refine while_by (fun σ H' => H' = H ∧ ∃ k : Int, σ = [some (.int n), some (.int k)] ∧ 2 ≤ k ∧ k ≤ 1001 ∧ ∀ j : Int, 2 ≤ j → j < k → j * j ≤ n → n % j ≠ 0) (fun σ _ => match σ with | [_, some (.int k)] => (2000 - k).toNat | _ => 0) ⟨rfl, 2, rfl, by decide, by decide, fun j a b => by omega⟩ ?_ ?_
          · rintro σ H' ⟨rfl, k, rfl, k2, k3, hj⟩
            refine ⟨_, rfl, _, rfl, _, _, rfl, rfl, .inl ⟨by omega, by omega⟩, _, rfl, _, _, rfl, rfl, _, rfl, ?_⟩
            by_cases hk : k * k ≤ n
            · rw [decide_eq_true hk]
              refine iteT ?_
              refine ⟨_, rfl, _, rfl, _, _, rfl, rfl, by omega, rfl, _, rfl, ?_⟩
              by_cases hz : n % k = 0
              · rw [decide_eq_true (congrArg V.int hz)]
                exact iteT (no fun h => h.2.2 k k2 hk hz)
              · rw [decide_eq_false (fun e => hz (V.int.inj e))]
                refine iteF ⟨_, rfl, _, _, rfl, rfl, ⟨rfl, k + 1, rfl, by omega, ?_, fun j a b c => ?_⟩, ?_⟩
                · have := sq_small k2 (Int.le_trans hk n6)
                  omega
                · by_cases e : j = k
                  · rw [e]; exact hz
                  · exact hj j a (by omega) c
                · show (2000 - (k + 1)).toNat < (2000 - k).toNat
                  omega
            · rw [decide_eq_false hk]
              refine iteF (q true ⟨fun _ => ⟨n, rfl, n2, n6, fun j a c => ?_⟩, fun _ => rfl⟩)
              by_cases e : j < k
              · exact hj j a e c
              · exfalso
                have h1 : k * k ≤ j * j := Int.mul_le_mul (by omega) (by omega) (by omega) (by omega)
                omega
          · rintro σ H' Q1 Q2 i ⟨v, e1, v2, e2, a, b, e3, e4, c, v3, e5, a1, b1, e6, e7, k, e8, h⟩
            exact ⟨v, e1, v2, e2, a, b, e3, e4, c, v3, e5, a1, b1, e6, e7, k, e8, i _ _ h⟩
        · rw [decide_eq_false n6]
          exact iteT (no fun h => n6 h.2.1)
      · rw [decide_eq_false n2]
        exact iteF ⟨_, rfl, iteT (no fun h => n2 h.1)⟩
    · have hb : b = false := by rcases h with ⟨_, _, e⟩ | ⟨_, e⟩ | ⟨_, _, e⟩ <;> exact e
      have hni : ∀ n, v ≠ .int n := fun n e => by
        rcases h with ⟨_, e2, _⟩ | ⟨e2, _⟩ | ⟨_, e2, _⟩ <;> rw [e2] at e <;> cases e
      subst hb
      exact ⟨_, rfl, v, false, rfl, hodd, _, rfl, iteT (q false ⟨fun e => (by cases e), fun ⟨n, e, _⟩ => absurd e (hni n)⟩)⟩
end
end S4

namespace S4
open PySem L2 TT MM
section
variable {P : Program} {w : World} {K : PySem.W.Frag} {mg : Str → Option Value} {base : Heap} {cT cS : Addr}
def spLInt : Sp := fun vs H Q _ => ∃ (v : V) (b : Bool) (lo hi : Int), vs = [v, .int lo, .int hi] ∧ Odd v b ∧ ∀ t : Bool, (t = true ↔ ∃ n, v = .int n ∧ lo ≤ n ∧ n ≤ hi) → Q (.bl t) H
theorem ok_lint (T : Tx K mg cT cS) {f : Addr} {fd : FuncData} (d : D K mg "_law_int" s_law_int ["thing", "least", "most"] f fd) : FnOk P w K mg base CX0 1 f fd ["thing", "least", "most"] spLInt := by
  refine d.F.ok sc_law_int (fun vs H Q E h => ?_) (fun cdv A outer s H vs Q E hr h => ?_)
  · obtain ⟨v, b, lo, hi, rfl, _⟩ := h
    rfl
  · obtain ⟨v, b, lo, hi, rfl, hv, q⟩ := h
    refine ⟨_, pss_one (ps_ret (pe_and (pe_callB call_isi (by rfl) T.b_isinstance (by decide +kernel) (pa_cons (pv 0) (pa_cons (ty_int T.b_int) pa_nil)))
      (pe_and (pe_not (pe_callB call_isi (by rfl) T.b_isinstance (by decide +kernel) (pa_cons (pv 0) (pa_cons (ty_bool T.b_bool) pa_nil))))
        (pe_one (pe_chain op_le op_le (pv 1) (pv 0) (pv 2)))))), ?_⟩
    rcases hv with ⟨n, rfl, rfl⟩ | ⟨x, rfl, rfl⟩ | ⟨rfl, rfl⟩ | ⟨x, rfl, rfl⟩
    · refine ⟨_, rfl, _, _, _, _, _, rfl, .ty _, .base (.int _), kit_ii, _, rfl, iteT ⟨_, rfl, _, _, _, _, _, rfl, .ty _, .base (.int _), kit_ib, _, rfl, _, rfl, iteT ⟨_, rfl, _, rfl, _, _, rfl, rfl, _, rfl, ?_⟩⟩⟩
      by_cases h1 : lo ≤ n
      · rw [decide_eq_true h1]
        refine iteT ⟨_, rfl, _, _, rfl, rfl, ?_⟩
        exact q (decide (n ≤ hi)) ⟨fun e => ⟨n, rfl, h1, of_decide_eq_true e⟩, fun ⟨m, e, _, h⟩ => decide_eq_true (by cases e; exact h)⟩
      · rw [decide_eq_false h1]
        exact iteF (q false ⟨fun e => (by cases e), fun ⟨m, e, h, _⟩ => absurd (by cases e; exact h) h1⟩)
    · exact ⟨_, rfl, _, _, _, _, _, rfl, .ty _, .base (.bl _), kit_bi, _, rfl, iteT ⟨_, rfl, _, _, _, _, _, rfl, .ty _, .base (.bl _), kit_bb, _, rfl, _, rfl, iteF (q false ⟨fun e => (by cases e), fun ⟨m, e, _⟩ => (by cases e)⟩)⟩⟩
    · exact ⟨_, rfl, _, _, _, _, _, rfl, .ty _, .base .non, kit_ni, _, rfl, iteF (q false ⟨fun e => (by cases e), fun ⟨m, e, _⟩ => (by cases e)⟩)⟩
    · exact ⟨_, rfl, _, _, _, _, _, rfl, .ty _, .base (.str _), kit_si, _, rfl, iteF (q false ⟨fun e => (by cases e), fun ⟨m, e, _⟩ => (by cases e)⟩)⟩
theorem ok_prime (T : Tx K mg cT cS) {f : Addr} {fd : FuncData} (d : D K mg "_law_is_prime" s_law_is_prime ["thing"] f fd) : FnOk P w K mg base CX0 2 f fd ["thing"] spClkB := by
  obtain ⟨f1, fd1, d1⟩ := T.d_law_int
  have G1 : FnOk P w K mg base CX0 1 f1 fd1 ["thing", "least", "most"] spLInt := ok_lint T d1
  refine d.F.ok sc_law_is_prime (fun vs H Q E h => ?_) (fun cdv A outer s H vs Q E hr h => ?_)
  · obtain ⟨v, b, rfl, _⟩ := h
    rfl
  · obtain ⟨v, b, rfl, hv, q⟩ := h
    refine ⟨_, pss_cons (ps_if (pt_not (pt_val (pe_call G1 hr rfl d1.m d1.F.kp d1.b .nil pass0 (pa_cons (pv 0) (pa_cons pe_int (pa_cons (pe_op op_pow pe_int pe_int) pa_nil)))))) (pss_one (ps_ret pe_bl)) pss_nil)
      (pss_cons (ps_for PassesOwn.never rfl (pi_range2 rfl T.b_range (pa_cons pe_int (pa_cons pe_int pa_nil))) (pg_name (i := 1) sc_law_is_prime.nd rfl (Or.inl rfl))
        (pss_one (ps_if (PW.pt (pw_and (pt_cmpR op_le (pe_op op_mul (pv 1) (pv 1)) (pv 0) (nomark _)) (pw_and1 (pt_cmpR op_eq (pe_op op_mod (pe_callTy call_int1 (by rfl) T.b_int (by decide +kernel) (pa_cons (pv 0) pa_nil)) (pv 1)) pe_int (nomark _))))) (pss_one (ps_ret pe_bl)) pss_nil)))
      (pss_one (ps_ret pe_bl))), ?_⟩
    refine ⟨_, rfl, _, _, rfl, rfl, ⟨by decide, by decide, by decide⟩, v, b, 2, 1000000, rfl, hv, fun t ht => ⟨_, rfl, ?_⟩⟩
    cases t with
    | false =>
      refine iteT (q false ⟨fun e => (by cases e), fun ⟨n, e, h⟩ => ?_⟩)
      have := ht.mpr ⟨n, e, h.1, h.2.1⟩
      cases this
    | true =>
      obtain ⟨n, rfl, n2, n6⟩ := ht.mp rfl
      refine iteF ⟨_, _, rfl, ⟨by decide, by decide, by decide, by decide⟩, ?_⟩
      refine for_it (walk_range (lo := 2) (n := ((1001 : Int) - 2).toNat)) (fun i σ H' => H' = H ∧ ∃ x, σ = [some (.int n), x] ∧ ∀ j : Int, 2 ≤ j → j < 2 + (i : Int) → j * j ≤ n → n % j ≠ 0) ⟨rfl, none, rfl, fun j a b => by omega⟩ (fun i σ H' _ h => trivial) ?_ ?_
      · rintro i x σ H2 H3 hi ⟨rfl, y, rfl, hj⟩ ⟨rfl, rfl⟩
        have hi2 : i < 999 := hi
        refine ⟨_, rfl, _, rfl, _, _, rfl, rfl, .inl ⟨by omega, by omega⟩, _, rfl, _, _, rfl, rfl, _, rfl, ?_⟩
        have keep : (¬ ((2 + (i : Int)) * (2 + (i : Int)) ≤ n ∧ n % (2 + (i : Int)) = 0)) → ∀ j : Int, 2 ≤ j → j < 2 + ((i + 1 : Nat) : Int) → j * j ≤ n → n % j ≠ 0 := fun h j a b c => by
          by_cases e : j = 2 + (i : Int)
          · subst e; exact fun z => h ⟨c, z⟩
          · exact hj j a (by omega) c
        by_cases hk : (2 + (i : Int)) * (2 + (i : Int)) ≤ n
        · rw [decide_eq_true hk]
          refine iteT ⟨_, rfl, .inl ⟨n, rfl, _, rfl, _, _, rfl, rfl, by omega, rfl, _, rfl, ?_⟩⟩
          by_cases hz : n % (2 + (i : Int)) = 0
          · rw [decide_eq_true (congrArg V.int hz)]
            exact iteT (q false ⟨fun e => (by cases e), fun ⟨m, e, h⟩ => absurd hz (by cases e; exact h.2.2 _ (by omega) hk)⟩)
          · rw [decide_eq_false (fun e => hz (V.int.inj e))]
            exact iteF ⟨rfl, _, rfl, keep fun h => hz h.2⟩
        · rw [decide_eq_false hk]
          exact iteF ⟨rfl, _, rfl, keep fun h => hk h.1⟩
      · rintro σ H2 ⟨rfl, y, rfl, hj⟩
        refine q true ⟨fun _ => ⟨n, rfl, n2, n6, fun j a c => ?_⟩, fun _ => rfl⟩
        have := sq_small a (Int.le_trans c n6)
        exact hj j a (by have : ((1001 : Int) - 2).toNat = 999 := rfl; omega) c
end
end S4

namespace S4
open PySem L2 TT MM
/-! ### clocks and primes of any things -/
theorem FnOk_or {P : Program} {w : World} {K : PySem.W.Frag} {mg : Str → Option Value} {base : Heap} {CX : CXT} {k : Nat} {f : Addr} {fd : FuncData} {ps : List Str} {a b : Sp} (A : FnOk P w K mg base CX k f fd ps a) (B : FnOk P w K mg base CX k f fd ps b) : FnOk P w K mg base CX k f fd ps (fun vs H Q E => a vs H Q E ∨ b vs H Q E) :=
  ⟨fun vs H Q E h => h.elim (A.len vs H Q E) (B.len vs H Q E), fun A' outer s H args us vs Q E hr he hb hv h => h.elim (A.run A' outer s H args us vs Q E hr he hb hv) (B.run A' outer s H args us vs Q E hr he hb hv)⟩
noncomputable def clkB : V → Bool
  | .int n => @decide (NoDiv n) (Classical.propDecidable _)
  | _ => false
theorem clk_iff {v : V} : clkB v = true ↔ ∃ n, v = .int n ∧ NoDiv n := by
  cases v with
  | int n => exact ⟨fun h => ⟨n, rfl, @of_decide_eq_true _ (Classical.propDecidable _) h⟩, fun ⟨m, e, h⟩ => by cases e; exact @decide_eq_true _ (Classical.propDecidable _) h⟩
  | _ => exact ⟨fun h => (by cases h), fun ⟨m, e, _⟩ => (by cases e)⟩
theorem clk_of {v : V} {t : Bool} (h : t = true ↔ ∃ n, v = .int n ∧ NoDiv n) : t = clkB v := by rw [Bool.eq_iff_iff, h, clk_iff]
theorem flat_odd {v : V} (h : Flat v) : ∃ b, Odd v b := by
  cases v with
  | int n => exact ⟨_, .inl ⟨n, rfl, rfl⟩⟩
  | bl n => exact ⟨_, .inr (.inl ⟨n, rfl, rfl⟩)⟩
  | non => exact ⟨_, .inr (.inr (.inl ⟨rfl, rfl⟩))⟩
  | str n => exact ⟨_, .inr (.inr (.inr ⟨n, rfl, rfl⟩))⟩
  | _ => exact h.elim
section
variable {P : Program} {w : World} {K : PySem.W.Frag} {mg : Str → Option Value} {base : Heap} {cT cS : Addr}
def spClkR : Sp := fun vs H Q _ => ∃ (g : Addr) (a : Addr), vs = [.ref a] ∧ Th g H 0 (.ref a) ∧ Q (.bl false) H
theorem ok_clkR (T : Tx K mg cT cS) {f : Addr} {fd : FuncData} (d : D K mg "is_clock" s_is_clock ["thing"] f fd) : FnOk P w K mg base CX0 2 f fd ["thing"] spClkR := by
  obtain ⟨f1, fd1, d1⟩ := T.d_is_integer
  have G1 := ok_is_integerT (P := P) (w := w) (base := base) T d1
  obtain ⟨tk_MOST_HOURS, h_MOST_HOURS⟩ := T.c_MOST_HOURS
  refine d.F.ok sc_is_clock (fun vs H Q E h => ?_) (fun cdv A outer s H vs Q E hr h => ?_)
  · obtain ⟨g, a, rfl, _⟩ := h
    rfl
  · obtain ⟨g, a, rfl, th, q⟩ := h
    refine ⟨_, pss_cons (ps_if (PW.pt (pw_or (pt_not (pt_val (pe_call G1 (hr.mono (by decide)) rfl d1.m d1.F.kp d1.b .nil pass0 (pa_cons (pv 0) pa_nil)))) (pw_or1 (pt_not (pt_chain op_le op_le pe_int (pv 0) (pe_glob (v := .int 1000000) rfl h_MOST_HOURS ⟨_, rfl⟩)))))) (pss_one (ps_ret pe_bl)) pss_nil)
      (pss_cons (ps_set (i := 1) sc_is_clock.nd rfl (.inl rfl) pe_int)
      (pss_cons (ps_while PassesOwn.never (pt_cmpR op_le (pe_op op_mul (pv 1) (pv 1)) (pv 0) (nomark _))
        (pss_cons (ps_if (pt_cmpR op_eq (pe_op op_mod (pv 0) (pv 1)) pe_int (nomark _)) (pss_one (ps_ret pe_bl)) pss_nil)
      (pss_one (ps_aug (i := 1) sc_is_clock.nd rfl (.inl rfl) pe_int ip_add))))
      (pss_one (ps_ret pe_bl)))), ?_⟩
    exact ⟨_, rfl, g, .ref a, rfl, th, _, rfl, iteT q⟩
def spIsClockT : Sp := fun vs H Q _ => ∃ (g : Addr) (v : V), vs = [v] ∧ Th g H 0 v ∧ Q (.bl (clkB v)) H
theorem ok_is_clockT (T : Tx K mg cT cS) {f : Addr} {fd : FuncData} (d : D K mg "is_clock" s_is_clock ["thing"] f fd) : FnOk P w K mg base CX0 2 f fd ["thing"] spIsClockT := by
  refine (FnOk_or (ok_clkB (P := P) (w := w) (base := base) T d) (ok_clkR T d)).imp fun vs H Q E ⟨g, v, e, th, q⟩ => ?_
  rcases th.zero with h | ⟨a, rfl, _⟩
  · obtain ⟨b, hb⟩ := flat_odd h
    exact .inl ⟨v, b, e, hb, fun t ht => by rw [clk_of ht]; exact q⟩
  · exact .inr ⟨g, a, e, th, q⟩
/-! ### the law's own -/
def intB (lo hi : Int) : V → Bool
  | .int n => decide (lo ≤ n) && decide (n ≤ hi)
  | _ => false
def spLIntT : Sp := fun vs H Q _ => ∃ (g : Addr) (v : V) (lo hi : Int), vs = [v, .int lo, .int hi] ∧ Th g H 0 v ∧ Q (.bl (intB lo hi v)) H
theorem ok_lintT (T : Tx K mg cT cS) {f : Addr} {fd : FuncData} (d : D K mg "_law_int" s_law_int ["thing", "least", "most"] f fd) : FnOk P w K mg base CX0 1 f fd ["thing", "least", "most"] spLIntT := by
  refine d.F.ok sc_law_int (fun vs H Q E h => ?_) (fun cdv A outer s H vs Q E hr h => ?_)
  · obtain ⟨g, v, lo, hi, rfl, _⟩ := h
    rfl
  · obtain ⟨g, v, lo, hi, rfl, th, q⟩ := h
    refine ⟨_, pss_one (ps_ret (pe_and (pe_callB call_isi (by rfl) T.b_isinstance (by decide +kernel) (pa_cons (pv 0) (pa_cons (ty_int T.b_int) pa_nil))) (pe_and (pe_not (pe_callB call_isi (by rfl) T.b_isinstance (by decide +kernel) (pa_cons (pv 0) (pa_cons (ty_bool T.b_bool) pa_nil)))) (pe_one (pe_chain op_le op_le (pv 1) (pv 0) (pv 2)))))), ?_⟩
    obtain ⟨t, ty, _, k1, k2, _⟩ := th.kind K
    refine ⟨_, rfl, _, _, _, _, _, rfl, .ty _, ty, k1, _, rfl, ?_⟩
    cases v with
    | int n =>
      refine iteT ⟨_, rfl, _, _, _, _, _, rfl, .ty _, ty, k2, _, rfl, _, rfl, iteT ⟨_, rfl, _, rfl, _, _, rfl, rfl, _, rfl, ?_⟩⟩
      have q : Q (.bl (decide (lo ≤ n) && decide (n ≤ hi))) H := q
      by_cases h1 : lo ≤ n
      · rw [decide_eq_true h1] at q ⊢
        exact iteT ⟨_, rfl, _, _, rfl, rfl, q⟩
      · rw [decide_eq_false h1] at q ⊢
        exact iteF q
    | bl n => exact iteT ⟨_, rfl, _, _, _, _, _, rfl, .ty _, ty, k2, _, rfl, _, rfl, iteF q⟩
    | _ => exact iteF q
def spLPrimeR : Sp := fun vs H Q _ => ∃ (g : Addr) (a : Addr), vs = [.ref a] ∧ Th g H 0 (.ref a) ∧ Q (.bl false) H
theorem ok_lprimeR (T : Tx K mg cT cS) {f : Addr} {fd : FuncData} (d : D K mg "_law_is_prime" s_law_is_prime ["thing"] f fd) : FnOk P w K mg base CX0 2 f fd ["thing"] spLPrimeR := by
  obtain ⟨f1, fd1, d1⟩ := T.d_law_int
  have G1 := ok_lintT (P := P) (w := w) (base := base) T d1
  refine d.F.ok sc_law_is_prime (fun vs H Q E h => ?_) (fun cdv A outer s H vs Q E hr h => ?_)
  · obtain ⟨g, a, rfl, _⟩ := h
    rfl
  · obtain ⟨g, a, rfl, th, q⟩ := h
    refine ⟨_, pss_cons (ps_if (pt_not (pt_val (pe_call G1 (hr.mono (by decide)) rfl d1.m d1.F.kp d1.b .nil pass0 (pa_cons (pv 0) (pa_cons pe_int (pa_cons (pe_op op_pow pe_int pe_int) pa_nil)))))) (pss_one (ps_ret pe_bl)) pss_nil)
      (pss_cons (ps_for PassesOwn.never rfl (pi_range2 rfl T.b_range (pa_cons pe_int (pa_cons pe_int pa_nil))) (pg_name (i := 1) sc_law_is_prime.nd rfl (.inl rfl))
        (pss_one (ps_if (PW.pt (pw_and (pt_cmpR op_le (pe_op op_mul (pv 1) (pv 1)) (pv 0) (nomark _)) (pw_and1 (pt_cmpR op_eq (pe_op op_mod (pe_callTy call_int1 (by rfl) T.b_int (by decide +kernel) (pa_cons (pv 0) pa_nil)) (pv 1)) pe_int (nomark _))))) (pss_one (ps_ret pe_bl)) pss_nil)))
      (pss_one (ps_ret pe_bl))), ?_⟩
    exact ⟨_, rfl, _, _, rfl, rfl, ⟨by decide, by decide, by decide⟩, g, .ref a, 2, 1000000, rfl, th, _, rfl, iteT q⟩
def spLPrimeT : Sp := fun vs H Q _ => ∃ (g : Addr) (v : V), vs = [v] ∧ Th g H 0 v ∧ Q (.bl (clkB v)) H
theorem ok_lprimeT (T : Tx K mg cT cS) {f : Addr} {fd : FuncData} (d : D K mg "_law_is_prime" s_law_is_prime ["thing"] f fd) : FnOk P w K mg base CX0 2 f fd ["thing"] spLPrimeT := by
  refine (FnOk_or (ok_prime (P := P) (w := w) (base := base) T d) (ok_lprimeR T d)).imp fun vs H Q E ⟨g, v, e, th, q⟩ => ?_
  rcases th.zero with h | ⟨a, rfl, _⟩
  · obtain ⟨b, hb⟩ := flat_odd h
    exact .inl ⟨v, b, e, hb, fun t ht => by rw [clk_of ht]; exact q⟩
  · exact .inr ⟨g, a, e, th, q⟩
end
end S4

namespace S4
open PySem L2 TT MM
section
variable {P : Program} {w : World} {K : PySem.W.Frag} {mg : Str → Option Value} {base : Heap} {cT cS : Addr}
/-! ### the check's own going: rows less so many times another, with their values -/
def spLessV : Sp := fun vs H Q _ => ∃ (u v : V) (p m : Int) (r1 r2 : List Int), vs = [.int p, u, v, .int m] ∧ 0 < p ∧ (-(2 ^ 64) < m ∧ m < 2 ^ 64) ∧ rRow H u r1 ∧ rRow H v r2 ∧ r1.length = r2.length ∧ r1.length ≤ 1000 ∧
  ∀ H' v', Same H H' → rRow H' v' (lessL p r1 r2 m) → Q v' H'
theorem ok_lessV (T : Tx K mg cT cS) {f : Addr} {fd : FuncData} (d : D K mg "_law_less" s_law_less ["p", "row", "other", "many"] f fd) : FnOk P w K mg base CX0 1 f fd ["p", "row", "other", "many"] spLessV := by
  refine d.F.ok sc_law_less (fun vs H Q E h => ?_) (fun cdv A outer s H vs Q E hr h => ?_)
  · obtain ⟨u, v, p, m, r1, r2, rfl, _⟩ := h
    rfl
  · obtain ⟨u, v, p, m, r1, r2, rfl, p0, hm, ⟨t1, rfl, h1⟩, ⟨t2, rfl, h2⟩, he, hl, q⟩ := h
    refine ⟨_, pss_one (ps_ret (pe_callTy call_tuple_of (by rfl) T.b_tuple (by decide +kernel) (pa_cons
        (pe_lc (own := [("one", 4), ("two", 5)]) (g := gTup K 2 (gCons (gName 4) (gCons (gName 5) gNil))) (tt := tYes) rfl sc_law_less.nd (RZ.pi_zipA (by rfl) T.b_zip (pa_cons (pv 1) (pa_cons (pv 2) pa_nil))) (blkOk_by (N := N_law_less) (sc := defScope s_law_less) (by decide +kernel))
                (fun _ _ _ _ _ => pgT rfl rfl (pgs_cons (pg_name (i := 4) sc_law_less.nd rfl (Or.inl rfl)) (pgs_cons (pg_name (i := 5) sc_law_less.nd rfl (Or.inl rfl)) pgs_nil))) (fun _ _ _ _ _ => pts_nil)
                (fun _ _ _ _ _ => pe_op op_mod (pe_callTy call_int1 (by rfl) T.b_int (by decide +kernel) (pa_cons (pe_op op_sub (pv 4) (pe_op op_mul (pv 3) (pv 5))) pa_nil)) (pv 0))) pa_nil))), ?_⟩
    refine ⟨_, rfl, _, rfl, t1, t2, _, _, rfl, .inr ⟨.of h1, .of h2, fun D hD => ?_⟩⟩
    refine lc_fm (walk_zipT (n := r1.length) (by rw [List.length_map, List.length_map]; omega)) rInt (fun i => some ((r1.getD i 0 - m * r2.getD i 0) % p)) hD (fun H' s' => ⟨.of (s'.keep.tup h1), .of (s'.keep.tup h2)⟩) ?_ ?_
    · rintro i x H2 H3 hi pv ⟨tz, u1, u2, rfl, nz, rfl, e1, e2⟩
      obtain ⟨a, ha, rfl⟩ := at_int e1
      obtain ⟨b, hb, rfl⟩ := at_int e2
      refine ⟨tz, _, rfl, .of upd_same, rfl, _, _, rfl, _, _, rfl, rfl, rfl, ?_⟩
      refine ⟨_, rfl, _, rfl, _, rfl, _, _, rfl, rfl, .inl hm, _, _, rfl, rfl, .inl ⟨_, rfl, _, rfl, _, _, rfl, rfl, p0, ?_⟩⟩
      exact fm_keep mono_int pv hD (by omega) (same_new nz) rfl (by rw [getD_at ha, getD_at hb]; rfl)
    · intro H2 ys s2 hD2 hp2
      rw [fm_all] at hp2
      have := paired_int hp2
      subst this
      exact ⟨D, _, rfl, .inl ⟨.of hD2, fun t nt => q _ _ (s2.trans (same_new nt)) ⟨t, rfl, upd_same⟩⟩⟩
theorem pow_even (m : Int) (q : Nat) : m ^ (2 * q) = (m * m) ^ q := by
  induction q with
  | zero => rw [Nat.mul_zero, Int.pow_zero, Int.pow_zero]
  | succ q ih =>
    have e : 2 * (q + 1) = 2 * q + 1 + 1 := by omega
    rw [e, Int.pow_succ, Int.pow_succ, Int.pow_succ, ih, Int.mul_assoc]
theorem cgPow {p a b : Int} (h : Cg p a b) : ∀ n : Nat, Cg p (a ^ n) (b ^ n)
  | 0 => by rw [Int.pow_zero, Int.pow_zero]; exact .refl 1
  | n + 1 => by rw [Int.pow_succ, Int.pow_succ]; exact (cgPow h n).mul h
def spTurn : Sp := fun vs H Q _ => ∃ (p v : Int), vs = [.int p, .int v] ∧ Prm p ∧ p ≤ 1000000 ∧ 0 < v ∧ v < p ∧ ∀ u, 0 ≤ u → u < p → Cg p (u * v) 1 → Q (.int u) H
end
end S4

namespace S4
open PySem L2 TT MM
/-! ### the ladder by its places from the left -/
structure LI (p : Int) (wd : Nat) (rows : List (List Int)) (c : Nat) (F : RG) (left : List (List Int)) : Prop where
  lad : Lad p (F.map (·.1)) (rv F)
  ok : ∀ z ∈ F, z.1 < c ∧ z.2.length = wd ∧ InB p z.2
  asc : (F.map (·.1)).Pairwise (· < ·)
  lf : ∀ l ∈ left, isRow l p wd
  lz : ∀ l ∈ left, ∀ x, x < c → l.getD x 0 = 0
  room : Same2 p (fun v => rungs (F.map (·.1)) (rv F) v ∨ ∃ l ∈ left, v = vec l) (fun v => ∃ l ∈ rows, v = vec l)
  cnt : F.length + left.length ≤ rows.length
section
variable {p : Int} {wd c : Nat} {rows left : List (List Int)} {F : RG}
theorem LI.start (h : ∀ r ∈ rows, isRow r p wd) : LI p wd rows 0 [] rows :=
  ⟨Lad.nil p _, fun z h => (nomatch h), .nil, h, fun _ _ x hx => absurd hx (Nat.not_lt_zero x), same2_of (fun v q => by
    rcases q with ⟨i, hi, _⟩ | q
    · cases hi
    · exact .row q) (fun v q => .row (.inr q)), by simp⟩
theorem LI.skip (L : LI p wd rows c F left) (hz : ∀ l ∈ left, l.getD c 0 = 0) : LI p wd rows (c + 1) F left :=
  ⟨L.lad, fun z h => by have := L.ok z h; exact ⟨by omega, this.2⟩, L.asc, L.lf, fun l hl x hx => by
    by_cases e : x = c
    · subst e; exact hz l hl
    · exact L.lz l hl x (by omega), L.room, L.cnt⟩
theorem LI.put (L : LI p wd rows c F left) (p2 : 2 ≤ p) {k : Nat} {head : List Int} (hk : left[k]? = some head) {u : Int} (hc : c < wd) (h0 : head.getD c 0 ≠ 0) (hu : Cg p (u * head.getD c 0) 1) :
    LI p wd rows (c + 1) (putIn p F c (mulL p u head)) ((left.eraseIdx k).map fun l => clr1 p l (c, mulL p u head)) := by
  have p0 : 0 < p := by omega
  have hm := List.mem_of_getElem? hk
  have hl := L.lf head hm
  have hhl : head.length = wd := by have := hl.1; omega
  have hkl : k < left.length := (List.getElem?_eq_some_iff.mp hk).1
  have hke : left[k] = head := (List.getElem?_eq_some_iff.mp hk).2
  generalize hg : mulL p u head = g
  have hgl : g.length = wd := by rw [← hg]; unfold mulL; rw [List.length_map]; exact hhl
  have hgi : InB p g := by
    rw [← hg]
    intro x hx
    obtain ⟨y, _, rfl⟩ := List.mem_map.mp hx
    exact mod_b p0
  have hgv : ∀ x, Cg p (vec g x) (u * vec head x) := fun x => by rw [← hg]; exact mulL_vec x
  have below : ∀ x, x < c → Cg p (vec g x) 0 := fun x hx => by
    have e : vec head x = 0 := L.lz head hm x hx
    have := hgv x
    rwa [e, Int.mul_zero] at this
  have g1 : Cg p (vec g c) 1 := (hgv c).trans hu
  have cP : c ∉ F.map (·.1) := fun q => by
    obtain ⟨z, hz, e⟩ := List.mem_map.mp q
    have := (L.ok z hz).1
    omega
  have nd : ((putIn p F c g).map (·.1)).Nodup := by
    rw [putIn_keys, List.nodup_append]
    exact ⟨L.lad.nd, by simp, fun a ha b hb e => cP (by rw [← List.mem_singleton.mp hb, ← e]; exact ha)⟩
  have hq : ∀ x, Cg p (rv (putIn p F c g) c x) (vec g x) := fun x => by
    unfold rv
    rw [rowOf_mem (z := (c, g)) nd (by unfold putIn; simp)]
    exact .refl _
  have ho : ∀ i ∈ F.map (·.1), ∀ x, Cg p (rv (putIn p F c g) i x) (rv F i x - rv F i c * vec g x) := fun i hi x => by
    obtain ⟨z, hz1, rfl⟩ := List.mem_map.mp hi
    unfold rv
    rw [rowOf_mem (z := (z.1, clr p [(c, g)] z.2)) nd (by unfold putIn; exact List.mem_append_left _ (List.mem_map.mpr ⟨z, hz1, rfl⟩)), rowOf_mem L.lad.nd hz1]
    exact clr1_vec (z := (c, g)) (by rw [(L.ok z hz1).2.1]; exact hgl) x
  have gi : ∀ i ∈ F.map (·.1), Cg p (vec g i) 0 := fun i hi => by
    obtain ⟨z, hz, rfl⟩ := List.mem_map.mp hi
    exact below z.1 (L.ok z hz).1
  have hsp := L.lad.moreSpan (g := vec g) (k := c) hq ho
  have memE : ∀ l ∈ left.eraseIdx k, l ∈ left := fun l h => List.mem_of_mem_eraseIdx h
  have lr : ∀ l ∈ left, ∀ x, Cg p (vec (clr1 p l (c, g)) x) (vec l x - vec l c * vec g x) := fun l h x => clr1_vec (z := (c, g)) (by have := (L.lf l h).1; show g.length = _; omega) x
  refine ⟨?_, fun z hz => ?_, ?_, fun l hl2 => ?_, fun l hl2 x hx => ?_, ?_, ?_⟩
  · rw [putIn_keys]
    exact L.lad.more cP g1 gi below hq ho
  · rcases List.mem_append.mp hz with h | h
    · obtain ⟨y, hy, rfl⟩ := List.mem_map.mp h
      obtain ⟨b1, b2, b3⟩ := L.ok y hy
      exact ⟨by show y.1 < c + 1; omega, by show (clr p _ y.2).length = wd; rw [clr_len]; exact b2, clr_in p0 _ b3⟩
    · rw [List.mem_singleton.mp h]
      exact ⟨Nat.lt_succ_self _, hgl, hgi⟩
  · rw [putIn_keys, List.pairwise_append]
    refine ⟨L.asc, List.pairwise_singleton _ _, fun a ha b hb => ?_⟩
    rw [List.mem_singleton.mp hb]
    obtain ⟨z, hz, rfl⟩ := List.mem_map.mp ha
    exact (L.ok z hz).1
  · obtain ⟨y, hy, rfl⟩ := List.mem_map.mp hl2
    have hy2 := L.lf y (memE y hy)
    exact ⟨by rw [clr1_len]; exact hy2.1, clr1_in p0 hy2.2 _⟩
  · obtain ⟨y, hy, rfl⟩ := List.mem_map.mp hl2
    have hy2 := L.lf y (memE y hy)
    have hin := getD_in p0 (clr1_in p0 hy2.2 (c, g)) x
    refine Cg.zero_of (p := p) ?_ hin.1 hin.2
    refine (lr y (memE y hy) x).trans ?_
    by_cases e : x = c
    · subst e
      have := (Cg.refl (p := p) (vec y x)).sub ((Cg.refl (p := p) (vec y x)).mul g1)
      rwa [Int.mul_one, Int.sub_self] at this
    · have e0 : vec y x = 0 := L.lz y (memE y hy) x (by omega)
      have := (Cg.refl (p := p) (vec y x)).sub ((Cg.refl (p := p) (vec y c)).mul (below x (by omega)))
      rw [Int.mul_zero, e0] at this
      rw [e0]
      exact this
  · rw [putIn_keys]
    refine Same2.trans (same2_of (fun v h => ?_) (fun v h => ?_)) L.room
    · have hgs : Spn p (fun v => rungs (F.map (·.1)) (rv F) v ∨ ∃ l ∈ left, v = vec l) (vec g) := .plus u (.zero (v := fun _ => 0) fun _ => .refl 0) (.row (.inr ⟨head, hm, rfl⟩)) fun x => (hgv x).trans (.of_eq (by omega))
      rcases h with h | ⟨l, hl2, rfl⟩
      · refine ((hsp v).mp (.row h)).sub fun r hr => ?_
        rcases hr with hr | rfl
        · exact .row (.inl hr)
        · exact hgs
      · obtain ⟨y, hy, rfl⟩ := List.mem_map.mp hl2
        refine .plus (-(vec y c)) (.row (.inr ⟨y, memE y hy, rfl⟩)) hgs fun x => (lr y (memE y hy) x).trans (.of_eq ?_)
        rw [Int.neg_mul]
        omega
    · have hgs : Spn p (fun v => rungs (F.map (·.1) ++ [c]) (rv (putIn p F c g)) v ∨ ∃ l ∈ (left.eraseIdx k).map (fun l => clr1 p l (c, g)), v = vec l) (vec g) := ((hsp _).mpr (.row (.inr rfl))).mono fun _ q => .inl q
      rcases h with h | ⟨l, hl2, rfl⟩
      · exact ((hsp v).mpr (.row (.inl h))).mono fun _ q => .inl q
      · rcases List.mem_cons.mp ((erase_perm hkl).symm.mem_iff.mp hl2) with e | h
        · rw [e, hke]
          refine .plus (head.getD c 0) (.zero (v := fun _ => 0) fun _ => .refl 0) hgs fun x => ?_
          have h1 := (Cg.refl (p := p) (head.getD c 0)).mul (hgv x)
          have h2 := hu.mul (Cg.refl (p := p) (vec head x))
          rw [Int.one_mul] at h2
          have h3 : Cg p (head.getD c 0 * vec g x) (vec head x) := by
            refine h1.trans ((Cg.of_eq ?_).trans h2)
            rw [← Int.mul_assoc, Int.mul_comm (head.getD c 0) u]
          exact h3.symm.trans (.of_eq (by omega))
        · refine .plus (vec l c) (.row (.inr ⟨_, List.mem_map.mpr ⟨l, h, rfl⟩, rfl⟩)) hgs fun x => ?_
          have := (lr l hl2 x).add (Cg.refl (p := p) (vec l c * vec g x))
          refine (this.trans (.of_eq ?_)).symm
          omega
  · have e1 := List.length_eraseIdx_of_lt hkl
    have e2 := L.cnt
    unfold putIn
    rw [List.length_append, List.length_map, List.length_map, e1, List.length_singleton]
    omega
/-- at the end it is the ladder -/
theorem LI.fin (L : LI p wd rows wd F left) : IsLad p wd rows (F.map (·.2)) := by
  refine ⟨F, keysI F, ⟨L.lad, fun z hz => L.ok z hz, ?_⟩, .refl _, ?_, ?_⟩
  · refine Same2.trans (same2_of (fun v h => .row (.inl h)) (fun v h => ?_)) L.room
    rcases h with h | ⟨l, hl, rfl⟩
    · exact .row h
    · refine .zero fun x => .of_eq ?_
      by_cases hx : x < wd
      · exact L.lz l hl x hx
      · exact vec_over (by have := (L.lf l hl).1; omega)
  · unfold Up keysI
    rw [List.pairwise_map]
    have := L.asc
    rw [List.pairwise_map] at this
    exact this.imp fun {a b} h => by omega
  · unfold keysI
    rw [List.map_map]
    refine List.map_congr_left fun z hz => ?_
    show z.2 = rowOf F (((z.1 : Nat) : Int)).toNat
    rw [Int.toNat_natCast, rowOf_mem L.lad.nd hz]
end
end S4

namespace S4
open PySem L2 TT MM
theorem paired_drop {α β : Type} {F : α → β → Prop} : ∀ {xs : List α} {l : List β} (k : Nat), Paired F xs l → Paired F (xs.drop k) (l.drop k)
  | _, _, 0, h => h
  | _, _, k + 1, .nil => .nil
  | _, _, k + 1, .cons r t => paired_drop k t
def atF (left : List (List Int)) (c : Nat) (i : Nat) : Option Int := left[i]?.bind fun row => if row.getD c 0 = 0 then none else some ((i : Nat) : Int)
theorem atF_none {left : List (List Int)} {c : Nat} (h : (List.range left.length).filterMap (atF left c) = []) : ∀ l ∈ left, l.getD c 0 = 0 := fun l hl => by
  obtain ⟨i, hi⟩ := List.getElem?_of_mem hl
  have hlt := (List.getElem?_eq_some_iff.mp hi).1
  by_cases e : l.getD c 0 = 0
  · exact e
  · exfalso
    have : ((i : Nat) : Int) ∈ (List.range left.length).filterMap (atF left c) := List.mem_filterMap.mpr ⟨i, List.mem_range.mpr hlt, by unfold atF; rw [hi]; exact if_neg e⟩
    rw [h] at this
    cases this
theorem atF_some {left : List (List Int)} {c : Nat} {x : Int} (h : x ∈ (List.range left.length).filterMap (atF left c)) : ∃ (i : Nat) (row : List Int), x = ((i : Nat) : Int) ∧ left[i]? = some row ∧ row.getD c 0 ≠ 0 := by
  obtain ⟨i, hi, e⟩ := List.mem_filterMap.mp h
  have hlt := List.mem_range.mp hi
  have hr : left[i]? = some left[i] := List.getElem?_eq_getElem hlt
  unfold atF at e
  rw [hr] at e
  have e : (if left[i].getD c 0 = 0 then none else some ((i : Nat) : Int)) = some x := e
  by_cases h0 : left[i].getD c 0 = 0
  · rw [if_pos h0] at e; cases e
  · rw [if_neg h0] at e
    exact ⟨i, left[i], (Option.some.inj e).symm, hr, h0⟩
section
variable {P : Program} {w : World} {K : PySem.W.Frag} {mg : Str → Option Value} {base : Heap} {cT cS : Addr}
def spLLad (K : PySem.W.Frag) : Sp := fun vs H Q _ => ∃ (a : Addr) (p : Int) (wd : Nat) (xs : List V) (rws : List (List Int)), vs = [.int p, .int (wd : Int), .ref a] ∧ H a = some (.lst xs) ∧ Paired (rRow H) xs rws ∧ rws.length ≤ 400 ∧ Prm p ∧ p ≤ 1000000 ∧ wd ≤ 400 ∧ (∀ r ∈ rws, isRow r p wd) ∧
  ∀ H' v lad, Same H H' → rTup rRow H' v lad → IsLad p wd rws lad → Q v H'
end
end S4

namespace S4
open PySem L2 TT MM
def rowsS (rws : List (List Int)) : Vc → Prop := fun v => ∃ l ∈ rws, v = vec l
section
variable {P : Program} {w : World} {K : PySem.W.Frag} {mg : Str → Option Value} {base : Heap} {cT cS : Addr}
def spSummedV : Sp := fun vs H Q _ => ∃ (a b : Addr) (p : Int) (wd : Nat) (xs : List V) (rws : List (List Int)) (ms : List Int), vs = [.int p, .int (wd : Int), .ref a, .ref b] ∧ 0 < p ∧ wd ≤ 1000 ∧ H a = some (.lst xs) ∧ Paired (rRow H) xs rws ∧ (∀ r ∈ rws, r.length = wd) ∧
  H b = some (.lst (ms.map V.int)) ∧ (∀ m ∈ ms, -(2 ^ 63) < m ∧ m < 2 ^ 63) ∧ ∀ H' v' l, Same H H' → rRow H' v' l → isRow l p wd → Spn p (rowsS rws) (vec l) → Q v' H'
theorem ok_summedV (T : Tx K mg cT cS) {f : Addr} {fd : FuncData} (d : D K mg "_law_summed" s_law_summed ["p", "wide", "rows", "many"] f fd) : FnOk P w K mg base CX0 2 f fd ["p", "wide", "rows", "many"] spSummedV := by
  obtain ⟨f1, fd1, d1⟩ := T.d_law_less
  have G1 : FnOk P w K mg base CX0 1 f1 fd1 ["p", "row", "other", "many"] spLessV := ok_lessV T d1
  refine d.F.ok sc_law_summed (fun vs H Q E h => ?_) (fun cdv A outer s H vs Q E hr h => ?_)
  · obtain ⟨a, b, p, wd, xs, rws, ms, rfl, _⟩ := h
    rfl
  · obtain ⟨a, b, p, wd, xs, rws, ms, rfl, p0, hw, ha, hp, hrw, hb, hms, q⟩ := h
    refine ⟨_, pss_cons (ps_set (i := 4) sc_law_summed.nd rfl (.inl rfl) (pe_op op_repA (pe_tup (pa_cons pe_int pa_nil)) (pv 1)))
      (pss_cons (ps_for PassesOwn.never rfl (pi_zip (by rfl) T.b_zip (pa_cons (pv 2) (pa_cons (pv 3) pa_nil))) (pg_tup rfl (pgs_cons (pg_name (i := 5) sc_law_summed.nd rfl (.inl rfl)) (pgs_cons (pg_name (i := 6) sc_law_summed.nd rfl (.inl rfl)) pgs_nil)))
        (pss_one (ps_set (i := 4) sc_law_summed.nd rfl (.inl rfl) (pe_ifExp (pt_cmpR op_ne (pv 6) pe_int (nomark _)) (pe_call G1 hr rfl d1.m d1.F.kp d1.b .nil pass0 (pa_cons (pv 0) (pa_cons (pv 4) (pa_cons (pv 5) (pa_cons (pe_un un_neg (pv 6)) pa_nil))))) (pv 4)))))
      (pss_one (ps_ret (pv 4)))), ?_⟩
    refine ⟨by show 1 ≤ sizeLine; decide, fun t nt => ⟨_, rfl, ?_⟩⟩
    refine zeros upd_same hw fun H2 v2 s2 hrow2 => ?_
    have s02 := (same_new nt).trans s2
    dsimp only [gName, tSeq]
    refine ⟨_, rfl, _, rfl, a, b, _, _, rfl, .of (s02 _ _ ha), .of (s02 _ _ hb), ?_⟩
    refine for_it (walk_zip (n := min xs.length (ms.map V.int).length) rfl) (fun i σ H' => Same H H' ∧ ∃ (v : V) (l : List Int) (x y : Option V), σ = [some (.int p), some (.int (wd : Int)), some (.ref a), some (.ref b), some v, x, y] ∧ rRow H' v l ∧ isRow l p wd ∧ Spn p (rowsS rws) (vec l))
      ⟨s02, v2, _, none, none, rfl, hrow2, isRow_zeros p0 wd, .zero fun x => .of_eq (vec_zero wd x)⟩ (fun i σ H' _ h => ⟨.of (h.1 _ _ ha), .of (h.1 _ _ hb)⟩) ?_ ?_
    · rintro i x σ H3 H4 hi ⟨s3, v, l, x1, x2, rfl, hrow, hir, hsp⟩ ⟨tz, u1, u2, rfl, nz, rfl, e1, e2⟩
      have s4 := same_new (o := .tup [u1, u2]) nz
      obtain ⟨r, hr1, hrr⟩ := paired_get (paired_mono mono_row (s3.trans s4).keep hp) e1
      obtain ⟨m, hm, rfl⟩ := at_int e2
      have hmb := hms m (List.mem_of_getElem? hm)
      have hrl := hrw r (List.mem_of_getElem? hr1)
      have hll := hir.1
      refine ⟨tz, _, rfl, .of upd_same, rfl, _, _, rfl, _, _, rfl, rfl, ?_⟩
      refine ⟨_, rfl, rfl, _, rfl, ?_⟩
      by_cases hz : m = 0
      · subst hz
        rw [decide_eq_true rfl]
        exact iteF ⟨_, rfl, s3.trans s4, v, l, _, _, rfl, mono_row _ _ _ _ s4.keep hrow, hir, hsp⟩
      · rw [decide_eq_false (fun e => hz (V.int.inj e))]
        refine iteT ⟨_, rfl, _, rfl, _, rfl, _, rfl, m, rfl, v, u1, p, -m, l, r, rfl, p0, ⟨by omega, by omega⟩, mono_row _ _ _ _ s4.keep hrow, hrr, by omega, by omega, fun H5 v5 s5 hrow5 => ?_⟩
        exact ⟨(s3.trans s4).trans s5, v5, _, _, _, rfl, hrow5, ⟨by rw [lessL_len]; exact hir.1, lessL_in p0 _ _ _⟩, .plus m hsp (.row ⟨r, List.mem_of_getElem? hr1, rfl⟩) fun x => (lessL_vec (by omega) _ x).trans (.of_eq (by rw [Int.neg_mul]; omega))⟩
    · rintro σ H3 ⟨s3, v, l, x1, x2, rfl, hrow, hir, hsp⟩
      exact ⟨_, rfl, q _ _ l s3 hrow hir hsp⟩
end
end S4

/-! determinants along first columns, modulo a number -/
namespace MM
/-- the sum of what the rows, one left out each time, tell, with signs in turn -/
def alt (D : List (List Int) → Int) : List (List Int) → List (List Int) → Int
  | _, [] => 0
  | pre, r :: post => r.headD 0 * D (pre ++ post) - alt D (pre ++ [r]) post
def det : Nat → List (List Int) → Int
  | 0, _ => 1
  | n + 1, rows => alt (fun l => det n (l.map List.tail)) [] rows
/-- rows alike place by place -/
def RC (p : Int) (a b : List Int) : Prop := ∀ x, Cg p (a.getD x 0) (b.getD x 0)
inductive RsC (p : Int) : List (List Int) → List (List Int) → Prop
  | nil : RsC p [] []
  | cons {a b : List Int} {l m : List (List Int)} : RC p a b → RsC p l m → RsC p (a :: l) (b :: m)
theorem RC.refl (p : Int) (a : List Int) : RC p a a := fun x => .refl _
theorem RsC.refl (p : Int) : ∀ l : List (List Int), RsC p l l
  | [] => .nil
  | a :: l => .cons (.refl p a) (.refl p l)
theorem headD_getD (a : List Int) : a.headD 0 = a.getD 0 0 := by cases a <;> rfl
theorem getD_tail (a : List Int) (x : Nat) : a.tail.getD x 0 = a.getD (x + 1) 0 := by cases a <;> rfl
theorem RC.head {p : Int} {a b : List Int} (h : RC p a b) : Cg p (a.headD 0) (b.headD 0) := by rw [headD_getD, headD_getD]; exact h 0
theorem RC.tail {p : Int} {a b : List Int} (h : RC p a b) : RC p a.tail b.tail := fun x => by rw [getD_tail, getD_tail]; exact h (x + 1)
theorem RsC.app {p : Int} : ∀ {l m l' m' : List (List Int)}, RsC p l m → RsC p l' m' → RsC p (l ++ l') (m ++ m')
  | _, _, _, _, .nil, h => h
  | _, _, _, _, .cons r t, h => .cons r (t.app h)
theorem RsC.tails {p : Int} : ∀ {l m : List (List Int)}, RsC p l m → RsC p (l.map List.tail) (m.map List.tail)
  | _, _, .nil => .nil
  | _, _, .cons r t => .cons r.tail t.tails
theorem alt_cg {p : Int} {D D' : List (List Int) → Int} (hD : ∀ l m, RsC p l m → Cg p (D l) (D' m)) : ∀ {post post' pre pre' : List (List Int)}, RsC p pre pre' → RsC p post post' → Cg p (alt D pre post) (alt D' pre' post')
  | _, _, _, _, _, .nil => .refl 0
  | r :: post, r' :: post', pre, pre', hp, .cons hr ht => (hr.head.mul (hD _ _ (hp.app ht))).sub (alt_cg hD (hp.app (.cons hr .nil)) ht)
theorem det_cg {p : Int} : ∀ (n : Nat) {l m : List (List Int)}, RsC p l m → Cg p (det n l) (det n m)
  | 0, _, _, _ => .refl 1
  | n + 1, _, _, h => alt_cg (fun _ _ q => det_cg n q.tails) .nil h
/-! ### linear in each row -/
/-- w is u and c times v -/
def Comb (p : Int) (w u : List Int) (c : Int) (v : List Int) : Prop := ∀ x, Cg p (w.getD x 0) (u.getD x 0 + c * v.getD x 0)
theorem Comb.tail {p c : Int} {w u v : List Int} (h : Comb p w u c v) : Comb p w.tail u.tail c v.tail := fun x => by rw [getD_tail, getD_tail, getD_tail]; exact h (x + 1)
theorem alt_pre {p : Int} {N : Nat} {D : List (List Int) → Int} {c : Int} {u v w : List Int} (hD : ∀ a b, a.length + b.length + 1 = N → Cg p (D (a ++ w :: b)) (D (a ++ u :: b) + c * D (a ++ v :: b))) :
    ∀ (post a b : List (List Int)), a.length + b.length + post.length = N → Cg p (alt D (a ++ w :: b) post) (alt D (a ++ u :: b) post + c * alt D (a ++ v :: b) post)
  | [], _, _, _ => .of_eq (by show (0 : Int) = 0 + c * 0; rw [Int.mul_zero, Int.add_zero])
  | r :: post, a, b, hl => by
    rw [List.length_cons] at hl
    have h1 := hD a (b ++ post) (by rw [List.length_append]; omega)
    have h2 := alt_pre hD post a (b ++ [r]) (by rw [List.length_append, List.length_singleton]; omega)
    simp only [alt, List.append_assoc, List.cons_append] at h1 h2 ⊢
    refine (((Cg.refl (r.headD 0)).mul h1).sub h2).trans (.of_eq ?_)
    rw [Int.mul_add, Int.mul_sub, ← Int.mul_assoc (r.headD 0) c, Int.mul_comm (r.headD 0) c, Int.mul_assoc]
    omega
theorem alt_row {p : Int} {N : Nat} {D : List (List Int) → Int} {c : Int} {u v w : List Int} (hh : Cg p (w.headD 0) (u.headD 0 + c * v.headD 0)) (hD : ∀ a b, a.length + b.length + 1 = N → Cg p (D (a ++ w :: b)) (D (a ++ u :: b) + c * D (a ++ v :: b))) :
    ∀ (a b pre : List (List Int)), pre.length + a.length + b.length = N → Cg p (alt D pre (a ++ w :: b)) (alt D pre (a ++ u :: b) + c * alt D pre (a ++ v :: b))
  | [], b, pre, hl => by
    have h1 := alt_pre hD b pre [] (by simpa using hl)
    simp only [alt, List.nil_append]
    refine ((hh.mul (Cg.refl (D (pre ++ b)))).sub h1).trans (.of_eq ?_)
    rw [Int.add_mul, Int.mul_sub, Int.mul_assoc]
    omega
  | r :: a, b, pre, hl => by
    rw [List.length_cons] at hl
    have h1 := hD (pre ++ a) b (by rw [List.length_append]; omega)
    have h2 := alt_row hh hD a b (pre ++ [r]) (by rw [List.length_append, List.length_singleton]; omega)
    simp only [alt, List.append_assoc, List.cons_append] at h1 h2 ⊢
    refine (((Cg.refl (r.headD 0)).mul h1).sub h2).trans (.of_eq ?_)
    rw [Int.mul_add, Int.mul_sub, ← Int.mul_assoc (r.headD 0) c, Int.mul_comm (r.headD 0) c, Int.mul_assoc]
    omega
theorem det_lin {p c : Int} : ∀ (n : Nat) {w u v : List Int} (a b : List (List Int)), Comb p w u c v → a.length + b.length + 1 = n → Cg p (det n (a ++ w :: b)) (det n (a ++ u :: b) + c * det n (a ++ v :: b))
  | 0, _, _, _, _, _, _, hl => by omega
  | n + 1, w, u, v, a, b, h, hl => by
    refine alt_row (N := n) (by have := h 0; rwa [← headD_getD, ← headD_getD, ← headD_getD] at this) (fun a' b' hl' => ?_) a b [] (by rw [List.length_nil]; omega)
    rw [List.map_append, List.map_append, List.map_append, List.map_cons, List.map_cons, List.map_cons]
    exact det_lin n (a'.map List.tail) (b'.map List.tail) h.tail (by rw [List.length_map, List.length_map]; exact hl')
/-- a row of noughts -/
theorem det_nought {p : Int} {n : Nat} {z : List Int} {a b : List (List Int)} (hz : ∀ x, Cg p (z.getD x 0) 0) (hl : a.length + b.length + 1 = n) : Cg p (det n (a ++ z :: b)) 0 := by
  have h := det_lin (p := p) (c := 1) n a b (w := z) (u := z) (v := z) (fun x => by
    have := (hz x).add ((Cg.refl (p := p) (1 : Int)).mul (hz x))
    exact (hz x).trans (this.trans (.of_eq (by omega))).symm) hl
  have := h.sub (Cg.refl (p := p) (det n (a ++ z :: b)))
  exact ((Cg.of_eq (by omega)).trans (this.trans (.of_eq (by omega)))).symm.trans (.of_eq rfl) |>.symm.symm
/-! ### rows exchanged, rows alike -/
theorem swap_pre {p : Int} {N : Nat} {D : List (List Int) → Int} {x y : List Int} (hD : ∀ a b, a.length + b.length + 2 = N → Cg p (D (a ++ x :: y :: b)) (-(D (a ++ y :: x :: b)))) :
    ∀ (post a b : List (List Int)), a.length + b.length + 1 + post.length = N → Cg p (alt D (a ++ x :: y :: b) post) (-(alt D (a ++ y :: x :: b) post))
  | [], _, _, _ => .of_eq (by show (0 : Int) = -0; rfl)
  | r :: post, a, b, hl => by
    rw [List.length_cons] at hl
    have h1 := hD a (b ++ post) (by rw [List.length_append]; omega)
    have h2 := swap_pre hD post a (b ++ [r]) (by rw [List.length_append, List.length_singleton]; omega)
    simp only [alt, List.append_assoc, List.cons_append] at h1 h2 ⊢
    refine (((Cg.refl (r.headD 0)).mul h1).sub h2).trans (.of_eq ?_)
    rw [Int.mul_neg]
    omega
theorem alt_swap {p : Int} {N : Nat} {D : List (List Int) → Int} {x y : List Int} (hD : ∀ a b, a.length + b.length + 2 = N → Cg p (D (a ++ x :: y :: b)) (-(D (a ++ y :: x :: b)))) :
    ∀ (a b pre : List (List Int)), pre.length + a.length + b.length + 1 = N → Cg p (alt D pre (a ++ x :: y :: b)) (-(alt D pre (a ++ y :: x :: b)))
  | [], b, pre, hl => by
    have h1 := swap_pre hD b pre [] (by simp only [List.length_nil] at hl ⊢; omega)
    simp only [alt, List.nil_append, List.append_assoc, List.cons_append] at h1 ⊢
    have := (Cg.refl (p := p) (x.headD 0 * D (pre ++ y :: b) - y.headD 0 * D (pre ++ x :: b))).add h1
    refine ((Cg.of_eq ?_).trans this).trans (.of_eq ?_) <;> omega
  | r :: a, b, pre, hl => by
    rw [List.length_cons] at hl
    have h1 := hD (pre ++ a) b (by rw [List.length_append]; omega)
    have h2 := alt_swap hD a b (pre ++ [r]) (by rw [List.length_append, List.length_singleton]; omega)
    simp only [alt, List.append_assoc, List.cons_append] at h1 h2 ⊢
    refine (((Cg.refl (r.headD 0)).mul h1).sub h2).trans (.of_eq ?_)
    rw [Int.mul_neg]
    omega
theorem det_swap {p : Int} : ∀ (n : Nat) {x y : List Int} (a b : List (List Int)), a.length + b.length + 2 = n → Cg p (det n (a ++ x :: y :: b)) (-(det n (a ++ y :: x :: b)))
  | 0, _, _, _, _, hl => by omega
  | n + 1, x, y, a, b, hl => by
    refine alt_swap (N := n) (fun a' b' hl' => ?_) a b [] (by rw [List.length_nil]; omega)
    simp only [List.map_append, List.map_cons]
    exact det_swap n (a'.map List.tail) (b'.map List.tail) (by rw [List.length_map, List.length_map]; exact hl')
theorem same_pre {p : Int} {N : Nat} {D : List (List Int) → Int} {x : List Int} (hD : ∀ a b, a.length + b.length + 2 = N → Cg p (D (a ++ x :: x :: b)) 0) :
    ∀ (post a b : List (List Int)), a.length + b.length + 1 + post.length = N → Cg p (alt D (a ++ x :: x :: b) post) 0
  | [], _, _, _ => .refl 0
  | r :: post, a, b, hl => by
    rw [List.length_cons] at hl
    have h1 := hD a (b ++ post) (by rw [List.length_append]; omega)
    have h2 := same_pre hD post a (b ++ [r]) (by rw [List.length_append, List.length_singleton]; omega)
    simp only [alt, List.append_assoc, List.cons_append] at h1 h2 ⊢
    refine (((Cg.refl (r.headD 0)).mul h1).sub h2).trans (.of_eq ?_)
    rw [Int.mul_zero]
    omega
theorem alt_same {p : Int} {N : Nat} {D : List (List Int) → Int} {x : List Int} (hD : ∀ a b, a.length + b.length + 2 = N → Cg p (D (a ++ x :: x :: b)) 0) :
    ∀ (a b pre : List (List Int)), pre.length + a.length + b.length + 1 = N → Cg p (alt D pre (a ++ x :: x :: b)) 0
  | [], b, pre, hl => by
    have h1 := same_pre hD b pre [] (by simp only [List.length_nil] at hl ⊢; omega)
    simp only [alt, List.nil_append, List.append_assoc, List.cons_append] at h1 ⊢
    refine (Cg.of_eq ?_).trans h1
    omega
  | r :: a, b, pre, hl => by
    rw [List.length_cons] at hl
    have h1 := hD (pre ++ a) b (by rw [List.length_append]; omega)
    have h2 := alt_same hD a b (pre ++ [r]) (by rw [List.length_append, List.length_singleton]; omega)
    simp only [alt, List.append_assoc, List.cons_append] at h1 h2 ⊢
    refine (((Cg.refl (r.headD 0)).mul h1).sub h2).trans (.of_eq ?_)
    rw [Int.mul_zero]
    omega
theorem det_same {p : Int} : ∀ (n : Nat) {x : List Int} (a b : List (List Int)), a.length + b.length + 2 = n → Cg p (det n (a ++ x :: x :: b)) 0
  | 0, _, _, _, hl => by omega
  | n + 1, x, a, b, hl => by
    refine alt_same (N := n) (fun a' b' hl' => ?_) a b [] (by rw [List.length_nil]; omega)
    simp only [List.map_append, List.map_cons]
    exact det_same n (a'.map List.tail) (b'.map List.tail) (by rw [List.length_map, List.length_map]; exact hl')
/-! ### what rows may undergo -/
def sgn : Nat → Int
  | 0 => 1
  | k + 1 => -sgn k
structure RowF (p : Int) (n : Nat) (f : List (List Int) → Int) : Prop where
  cg : ∀ l m, RsC p l m → Cg p (f l) (f m)
  swap : ∀ x y a b, a.length + b.length + 2 = n → Cg p (f (a ++ x :: y :: b)) (-(f (a ++ y :: x :: b)))
  op : ∀ (x u w : List Int) (c : Int) a b, a.length + b.length + 2 = n → Comb p w u c x → Cg p (f (x :: a ++ w :: b)) (f (x :: a ++ u :: b))
  mul : ∀ (v w : List Int) (c : Int) b, b.length + 1 = n → (∀ x, Cg p (w.getD x 0) (c * v.getD x 0)) → Cg p (f (w :: b)) (c * f (v :: b))
  zero : ∀ (z : List Int) a b, a.length + b.length + 1 = n → (∀ x, Cg p (z.getD x 0) 0) → Cg p (f (a ++ z :: b)) 0
section
variable {p : Int} {n : Nat} {f : List (List Int) → Int}
theorem RowF.move (R : RowF p n f) : ∀ (mid a b : List (List Int)) (x : List Int), a.length + mid.length + b.length + 1 = n → Cg p (f (a ++ mid ++ x :: b)) (sgn mid.length * f (a ++ x :: mid ++ b))
  | [], a, b, x, _ => .of_eq (by show f (a ++ [] ++ x :: b) = 1 * f (a ++ [x] ++ b); rw [List.append_nil, Int.one_mul, List.append_assoc]; rfl)
  | m :: mid, a, b, x, hl => by
    rw [List.length_cons] at hl
    have h1 := R.move mid (a ++ [m]) b x (by rw [List.length_append, List.length_singleton]; omega)
    have h2 := R.swap m x a (mid ++ b) (by rw [List.length_append]; omega)
    simp only [List.append_assoc, List.cons_append, List.nil_append] at h1 h2 ⊢
    refine (h1.trans ((Cg.refl (sgn mid.length)).mul h2)).trans (.of_eq ?_)
    show sgn mid.length * -f _ = -sgn mid.length * f _
    rw [Int.mul_neg, Int.neg_mul]
/-- all other rows cleared by the first -/
theorem RowF.clear (R : RowF p n f) {x : List Int} {φ : List Int → List Int} {co : List Int → Int} (hφ : ∀ u, Comb p (φ u) u (co u) x) : ∀ (b a : List (List Int)), a.length + b.length + 1 = n → Cg p (f (x :: a ++ b.map φ)) (f (x :: a ++ b))
  | [], a, _ => .refl _
  | u :: b, a, hl => by
    rw [List.length_cons] at hl
    have h1 := R.clear hφ b (a ++ [φ u]) (by rw [List.length_append, List.length_singleton]; omega)
    have h2 := R.op x u (φ u) (co u) a b (by omega) (hφ u)
    simp only [List.append_assoc, List.cons_append, List.nil_append, List.map_cons] at h1 h2 ⊢
    exact h1.trans h2
theorem det_two {x : List Int} (a b mid : List (List Int)) (hl : a.length + mid.length + b.length + 2 = n) : Cg p (det n (a ++ x :: mid ++ x :: b)) 0 := by
  have mv : ∀ (mid a b : List (List Int)) (y : List Int), a.length + mid.length + b.length + 1 = n → Cg p (det n (a ++ mid ++ y :: b)) (sgn mid.length * det n (a ++ y :: mid ++ b)) := by
    intro mid
    induction mid with
    | nil => intro a b y _; exact .of_eq (by show det n (a ++ [] ++ y :: b) = 1 * det n (a ++ [y] ++ b); rw [List.append_nil, Int.one_mul, List.append_assoc]; rfl)
    | cons m mid ih =>
      intro a b y hl
      rw [List.length_cons] at hl
      have h1 := ih (a ++ [m]) b y (by rw [List.length_append, List.length_singleton]; omega)
      have h2 := det_swap (p := p) n (x := m) (y := y) a (mid ++ b) (by rw [List.length_append]; omega)
      simp only [List.append_assoc, List.cons_append, List.nil_append] at h1 h2 ⊢
      refine (h1.trans ((Cg.refl (sgn mid.length)).mul h2)).trans (.of_eq ?_)
      show sgn mid.length * -det n _ = -sgn mid.length * det n _
      rw [Int.mul_neg, Int.neg_mul]
  have h1 := mv mid (a ++ [x]) b x (by rw [List.length_append, List.length_singleton]; omega)
  have h2 := det_same (p := p) n (x := x) a (mid ++ b) (by rw [List.length_append]; omega)
  simp only [List.append_assoc, List.cons_append, List.nil_append] at h1 h2 ⊢
  refine (h1.trans ((Cg.refl (sgn mid.length)).mul h2)).trans (.of_eq ?_)
  rw [Int.mul_zero]
theorem det_rowF (p : Int) (n : Nat) : RowF p n (det n) := by
  refine ⟨fun l m h => det_cg n h, fun x y a b hl => det_swap n a b hl, fun x u w c a b hl h => ?_, fun v w c b hl h => ?_, fun z a b hl hz => det_nought hz hl⟩
  · have h1 := det_lin (p := p) n (x :: a) b h (by rw [List.length_cons]; omega)
    have h2 := det_two (p := p) (n := n) (x := x) [] b a (by rw [List.length_nil]; omega)
    refine (h1.trans ((Cg.refl (p := p) (det n (x :: a ++ u :: b))).add ((Cg.refl c).mul h2))).trans (.of_eq ?_)
    rw [Int.mul_zero, Int.add_zero]
  · have h1 := det_lin (p := p) (c := c) n [] b (w := w) (u := []) (v := v) (fun x => (h x).trans (.of_eq (by show c * v.getD x 0 = 0 + c * v.getD x 0; omega))) (by rw [List.length_nil]; omega)
    have h2 := det_nought (p := p) (n := n) (z := []) (a := []) (b := b) (fun x => .refl 0) (by rw [List.length_nil]; omega)
    simp only [List.nil_append] at h1 h2
    exact (h1.trans (h2.add (Cg.refl (p := p) (c * det n (v :: b))))).trans (.of_eq (by omega))
end
end MM

namespace MM
section
variable {p : Int}
theorem alt_heads {D : List (List Int) → Int} : ∀ (post pre : List (List Int)), (∀ l ∈ post, Cg p (l.headD 0) 0) → Cg p (alt D pre post) 0
  | [], _, _ => .refl 0
  | r :: post, pre, h => by
    have h1 := (h r (by simp)).mul (Cg.refl (p := p) (D (pre ++ post)))
    have h2 := alt_heads (D := D) post (pre ++ [r]) fun l hl => h l (by simp [hl])
    simp only [alt]
    refine (h1.sub h2).trans (.of_eq ?_)
    rw [Int.zero_mul]
    omega
/-- the first column is nought but ahead -/
theorem det_first {n : Nat} {r : List Int} {rs : List (List Int)} (h : ∀ l ∈ rs, Cg p (l.headD 0) 0) : Cg p (det (n + 1) (r :: rs)) (r.headD 0 * det n (rs.map List.tail)) := by
  have h1 := alt_heads (p := p) (D := fun l => det n (l.map List.tail)) rs [r] h
  have := (Cg.refl (p := p) (r.headD 0 * det n (rs.map List.tail))).sub h1
  refine (Cg.of_eq ?_).trans (this.trans (.of_eq (by omega)))
  rfl
theorem det_col {n : Nat} {rs : List (List Int)} (h : ∀ l ∈ rs, Cg p (l.headD 0) 0) : Cg p (det (n + 1) rs) 0 := alt_heads rs [] h
/-! ### along the first row -/
theorem alt_map {D D2 : List (List Int) → Int} {e : List Int} {s : Int} {φ : List Int → List Int} {N : Nat} (hD : ∀ l, l.length = N → Cg p (D (e :: l)) (s * D2 (l.map φ))) (hh : ∀ r, (φ r).headD 0 = r.headD 0) :
    ∀ (post a : List (List Int)), a.length + post.length = N + 1 → Cg p (alt D (e :: a) post) (s * alt D2 (a.map φ) (post.map φ))
  | [], _, _ => .of_eq (by show (0 : Int) = s * 0; rw [Int.mul_zero])
  | r :: post, a, hl => by
    rw [List.length_cons] at hl
    have h1 := hD (a ++ post) (by rw [List.length_append]; omega)
    cases post with
    | nil =>
      simp only [alt, List.cons_append, List.map_append, List.map_cons, List.map_nil] at h1 ⊢
      rw [hh]
      refine (((Cg.refl (r.headD 0)).mul h1).sub (.refl 0)).trans (.of_eq ?_)
      rw [Int.mul_sub, ← Int.mul_assoc, Int.mul_comm (r.headD 0) s, Int.mul_assoc, Int.mul_zero]
    | cons r2 post =>
      have h2 := alt_map hD hh (r2 :: post) (a ++ [r]) (by rw [List.length_append, List.length_singleton]; omega)
      rw [List.map_cons]
      show Cg p (r.headD 0 * D (e :: a ++ (r2 :: post)) - alt D (e :: a ++ [r]) (r2 :: post)) (s * ((φ r).headD 0 * D2 (a.map φ ++ (r2 :: post).map φ) - alt D2 (a.map φ ++ [φ r]) ((r2 :: post).map φ)))
      rw [hh]
      rw [List.map_append] at h1 h2
      refine (((Cg.refl (r.headD 0)).mul h1).sub h2).trans (.of_eq ?_)
      rw [Int.mul_sub, ← Int.mul_assoc, ← Int.mul_assoc, Int.mul_comm (r.headD 0) s]
      rfl
def IsUnit (p : Int) (e : List Int) (k : Nat) : Prop := ∀ x, Cg p (e.getD x 0) (if x = k then 1 else 0)
theorem det_unit : ∀ (n k : Nat) {e : List Int} {rs : List (List Int)}, rs.length = n → k ≤ n → IsUnit p e k → Cg p (det (n + 1) (e :: rs)) (sgn k * det n (rs.map fun r => r.eraseIdx k))
  | n, 0, e, rs, hl, _, he => by
    have h0 : Cg p (e.headD 0) 1 := by rw [headD_getD]; exact he 0
    have hz : ∀ (post a : List (List Int)), a.length + post.length = n → Cg p (alt (fun l => det n (l.map List.tail)) (e :: a) post) 0 := by
      intro post
      induction post with
      | nil => intro a _; exact .refl 0
      | cons r post ih =>
        intro a hl
        rw [List.length_cons] at hl
        have h1 : Cg p (det n ((e :: (a ++ post)).map List.tail)) 0 := by
          rw [List.map_cons]
          exact det_nought (a := []) (fun x => by rw [getD_tail]; exact (he (x + 1)).trans (.of_eq (if_neg (by omega)))) (by rw [List.length_map, List.length_append, List.length_nil]; omega)
        have h2 := ih (a ++ [r]) (by rw [List.length_append, List.length_singleton]; omega)
        have := ((Cg.refl (p := p) (r.headD 0)).mul h1).sub h2
        rw [Int.mul_zero] at this
        exact this
    have h1 := hz rs [] (by rw [List.length_nil]; omega)
    have e2 : (rs.map fun r => r.eraseIdx 0) = rs.map List.tail := List.map_congr_left fun r _ => by cases r <;> rfl
    rw [e2]
    have := (h0.mul (Cg.refl (p := p) (det n (rs.map List.tail)))).sub h1
    refine (Cg.of_eq ?_).trans (this.trans (.of_eq ?_))
    · rfl
    · show 1 * _ - 0 = 1 * _
      omega
  | 0, k + 1, _, _, _, h, _ => by omega
  | n + 1, k + 1, e, rs, hl, hk, he => by
    have h0 : Cg p (e.headD 0) 0 := by rw [headD_getD]; exact (he 0).trans (.of_eq (if_neg (by omega)))
    have het : IsUnit p e.tail k := fun x => by
      rw [getD_tail]
      refine (he (x + 1)).trans (.of_eq ?_)
      by_cases q : x = k
      · rw [if_pos q, if_pos (by omega)]
      · rw [if_neg q, if_neg (by omega)]
    have h1 := alt_map (p := p) (D := fun l => det (n + 1) (l.map List.tail)) (D2 := fun l => det n (l.map List.tail)) (e := e) (s := sgn k) (φ := fun r => r.eraseIdx (k + 1)) (N := n) (fun l hl => by
        have ih := det_unit n k (rs := l.map List.tail) (by rw [List.length_map]; exact hl) (by omega) het
        have e3 : ((l.map List.tail).map fun r => r.eraseIdx k) = (l.map fun r => r.eraseIdx (k + 1)).map List.tail := by
          rw [List.map_map, List.map_map]
          exact List.map_congr_left fun r _ => by cases r <;> rfl
        rw [e3] at ih
        exact ih) (fun r => by cases r <;> rfl) rs [] (by rw [List.length_nil]; omega)
    have := (h0.mul (Cg.refl (p := p) (det (n + 1) (rs.map List.tail)))).sub h1
    refine (Cg.of_eq ?_).trans (this.trans (.of_eq ?_))
    · rfl
    · show 0 * _ - sgn k * det (n + 1) _ = -sgn k * det (n + 1) _
      rw [Int.zero_mul, Int.neg_mul]
      show 0 - _ = -_
      omega
theorem getD_range {n x : Nat} {f : Nat → Int} : ((List.range n).map f).getD x 0 = if x < n then f x else 0 := by
  rw [List.getD_eq_getElem?_getD, List.getElem?_map]
  by_cases h : x < n
  · rw [List.getElem?_range h, if_pos h]; rfl
  · rw [List.getElem?_eq_none (by rw [List.length_range]; omega), if_neg h]; rfl
/-- the sum along the first row, as far as a place -/
def exS (n : Nat) (r : List Int) (rs : List (List Int)) : Nat → Int
  | 0 => 0
  | k + 1 => exS n r rs k + sgn k * r.getD k 0 * det n (rs.map fun l => l.eraseIdx k)
theorem det_row {n : Nat} {r : List Int} {rs : List (List Int)} (hl : rs.length = n) (hr : r.length = n + 1) : Cg p (det (n + 1) (r :: rs)) (exS n r rs (n + 1)) := by
  have step : ∀ k, k ≤ n + 1 → Cg p (det (n + 1) ((List.range (n + 1)).map (fun x => if x < k then r.getD x 0 else 0) :: rs)) (exS n r rs k) := by
    intro k
    induction k with
    | zero =>
      intro _
      refine det_nought (a := []) (fun x => .of_eq ?_) (by rw [List.length_nil]; omega)
      rw [getD_range]
      split
      · exact if_neg (by omega)
      · rfl
    | succ k ih =>
      intro hk
      have hu : IsUnit p ((List.range (n + 1)).map fun x => if x = k then (1 : Int) else 0) k := fun x => .of_eq (by
        rw [getD_range]
        by_cases q : x = k
        · rw [if_pos (by omega)]
        · rw [if_neg q]; split <;> rfl)
      have h1 := det_lin (p := p) (c := r.getD k 0) (n + 1) [] rs (w := (List.range (n + 1)).map (fun x => if x < k + 1 then r.getD x 0 else 0)) (u := (List.range (n + 1)).map (fun x => if x < k then r.getD x 0 else 0)) (v := (List.range (n + 1)).map fun x => if x = k then (1 : Int) else 0) (fun x => .of_eq (by
        rw [getD_range, getD_range, getD_range]
        by_cases q : x < n + 1
        · rw [if_pos q, if_pos q, if_pos q]
          by_cases q1 : x < k
          · rw [if_pos (by omega), if_pos q1, if_neg (by omega)]; omega
          · by_cases q2 : x = k
            · rw [if_pos (by omega), if_neg q1, if_pos q2, q2]; omega
            · rw [if_neg (by omega), if_neg q1, if_neg q2]; omega
        · rw [if_neg q, if_neg q, if_neg q]; omega)) (by rw [List.length_nil]; omega)
      have h2 := det_unit (p := p) n k hl (by omega) hu
      simp only [List.nil_append] at h1
      refine h1.trans (((ih (by omega)).add ((Cg.refl (r.getD k 0)).mul h2)).trans (.of_eq ?_))
      show _ = exS n r rs k + _
      rw [← Int.mul_assoc, Int.mul_comm (r.getD k 0)]
  have h := step (n + 1) (Nat.le_refl _)
  refine (det_cg (n + 1) (.cons (fun x => .of_eq ?_) (RsC.refl p rs))).trans h
  rw [getD_range]
  by_cases q : x < n + 1
  · rw [if_pos q, if_pos q]
  · rw [if_neg q, List.getD_eq_getElem?_getD, List.getElem?_eq_none (by omega)]; rfl
/-! ### triangles -/
theorem det_upper : ∀ (n : Nat) {rows : List (List Int)} {vs : List Int}, rows.length = n → vs.length = n → (∀ i, i < n → (∀ x, x < i → Cg p ((rows.getD i []).getD x 0) 0) ∧ Cg p ((rows.getD i []).getD i 0) (vs.getD i 0)) → Cg p (det n rows) (prodL vs)
  | 0, _, [], _, _, _ => .refl 1
  | n + 1, r :: rs, v :: vs, h1, h2, h => by
    have hd : ∀ l ∈ rs, Cg p (l.headD 0) 0 := fun l hl => by
      obtain ⟨i, hi⟩ := List.getElem?_of_mem hl
      have hlt := (List.getElem?_eq_some_iff.mp hi).1
      have := (h (i + 1) (by simp only [List.length_cons] at h1; omega)).1 0 (by omega)
      have e : rs.getD i [] = l := by rw [List.getD_eq_getElem?_getD, hi]; rfl
      rw [List.getD_cons_succ, e] at this
      rw [headD_getD]
      exact this
    have ih := det_upper n (rows := rs.map List.tail) (vs := vs) (by rw [List.length_map]; simpa using h1) (by simpa using h2) fun i hi => by
      have e : (rs.map List.tail).getD i [] = (rs.getD i []).tail := by
        rw [List.getD_eq_getElem?_getD, List.getElem?_map, List.getD_eq_getElem?_getD]
        cases rs[i]? <;> rfl
      obtain ⟨a, b⟩ := h (i + 1) (by omega)
      rw [List.getD_cons_succ] at a b
      rw [List.getD_cons_succ] at b
      refine ⟨fun x hx => ?_, ?_⟩
      · rw [e, getD_tail]; exact a (x + 1) (by omega)
      · rw [e, getD_tail]; exact b
    have h0 := (h 0 (by omega)).2
    have h0' : Cg p (r.headD 0) v := by rw [headD_getD]; exact h0
    exact (det_first hd).trans (h0'.mul ih)
theorem det_lower : ∀ (n : Nat) {rows : List (List Int)}, rows.length = n → (∀ i, i < n → (∀ x, i < x → Cg p ((rows.getD i []).getD x 0) 0) ∧ Cg p ((rows.getD i []).getD i 0) 1) → Cg p (det n rows) 1
  | 0, _, _, _ => .refl 1
  | n + 1, r :: rs, h1, h => by
    have hl : rs.length = n := by simpa using h1
    obtain ⟨a, b⟩ := h 0 (by omega)
    have hu : IsUnit p r 0 := fun x => by
      by_cases q : x = 0
      · subst q; rw [if_pos rfl]; exact b
      · rw [if_neg q]; exact a x (by omega)
    have e2 : (rs.map fun r => r.eraseIdx 0) = rs.map List.tail := List.map_congr_left fun r _ => by cases r <;> rfl
    have h2 := det_unit (p := p) n 0 hl (by omega) hu
    rw [e2] at h2
    have ih := det_lower n (rows := rs.map List.tail) (by rw [List.length_map]; exact hl) fun i hi => by
      have e : (rs.map List.tail).getD i [] = (rs.getD i []).tail := by
        rw [List.getD_eq_getElem?_getD, List.getElem?_map, List.getD_eq_getElem?_getD]
        cases rs[i]? <;> rfl
      obtain ⟨a, b⟩ := h (i + 1) (by omega)
      rw [List.getD_cons_succ] at a b
      refine ⟨fun x hx => ?_, ?_⟩
      · rw [e, getD_tail]; exact a (x + 1) (by omega)
      · rw [e, getD_tail]; exact b
    refine h2.trans (((Cg.refl (p := p) (sgn 0)).mul ih).trans (.of_eq ?_))
    show (1 : Int) * 1 = 1
    rfl
end
end MM

namespace S4
open PySem L2 TT MM
theorem sgn_sq : ∀ k : Nat, sgn k * sgn k = 1
  | 0 => rfl
  | k + 1 => by
    show -sgn k * -sgn k = 1
    rw [Int.neg_mul_neg]
    exact sgn_sq k
def unitL (n : Nat) : List (List Int) := (List.range n).map fun i => (List.range n).map fun x => if x = i then (1 : Int) else 0
/-- a row cleared, if it is long enough -/
noncomputable def phi (p : Int) (n c : Nat) (g u : List Int) : List Int := if u.length = n then clr1 p u (c, g) else u
theorem phi_comb {p : Int} {n c : Nat} {g : List Int} (hg : g.length = n) (u : List Int) : Comb p (phi p n c g u) u (if u.length = n then -(u.getD c 0) else 0) g := fun x => by
  unfold phi
  by_cases h : u.length = n
  · rw [if_pos h, if_pos h]
    refine (clr1_vec (z := (c, g)) (by rw [h]; exact hg) x).trans (.of_eq ?_)
    rw [Int.neg_mul]
    show u.getD x 0 - u.getD c 0 * g.getD x 0 = _
    omega
  · rw [if_neg h, if_neg h]
    exact .of_eq (by omega)
theorem phi_map {p : Int} {n c : Nat} {g : List Int} {l : List (List Int)} (h : ∀ u ∈ l, u.length = n) : l.map (phi p n c g) = l.map fun u => clr1 p u (c, g) := List.map_congr_left fun u hu => by unfold phi; rw [if_pos (h u hu)]
section
variable {p : Int} {n : Nat}
theorem erase_split {α : Type} {l : List α} {k : Nat} {x : α} (h : l[k]? = some x) : l = l.take k ++ x :: l.drop (k + 1) ∧ l.eraseIdx k = l.take k ++ l.drop (k + 1) ∧ (l.take k).length = k := by
  obtain ⟨hk, e⟩ := List.getElem?_eq_some_iff.mp h
  refine ⟨?_, List.eraseIdx_eq_take_drop_succ l k, by rw [List.length_take]; omega⟩
  rw [← e, ← List.drop_eq_getElem_cons hk, List.take_append_drop]
theorem dich_step (prm : Prm p) {rows left : List (List Int)} {F : RG} {c : Nat} (hc : c < n) (L : LI p n rows c F left) (hn : F.length + left.length = n) :
    ∃ F' left' s, LI p n rows (c + 1) F' left' ∧ F'.length + left'.length = n ∧ ∀ f, RowF p n f → Cg p (f (F.map (·.2) ++ left)) (s * f (F'.map (·.2) ++ left')) := by
  have p2 := prm.1
  have p0 : 0 < p := by omega
  by_cases hz : ∀ l ∈ left, l.getD c 0 = 0
  · exact ⟨F, left, 1, L.skip hz, hn, fun f _ => .of_eq (by omega)⟩
  · obtain ⟨head, hm, h0⟩ : ∃ l ∈ left, l.getD c 0 ≠ 0 := by
      refine Classical.byContradiction fun q => hz fun l hl => ?_
      exact Classical.byContradiction fun q2 => q ⟨l, hl, q2⟩
    obtain ⟨k, hk⟩ := List.getElem?_of_mem hm
    have hr := L.lf head hm
    have hb := getD_in p0 hr.2 c
    obtain ⟨u, hu⟩ := prm.inv (v := head.getD c 0) (by omega) (by omega)
    have P := L.put p2 hk hc h0 hu
    obtain ⟨e1, e2, e3⟩ := erase_split hk
    have hkl := (List.getElem?_eq_some_iff.mp hk).1
    have hel := List.length_eraseIdx_of_lt hkl
    have hgl : (mulL p u head).length = n := by unfold mulL; rw [List.length_map]; have := hr.1; omega
    have hFl : ∀ z ∈ F.map (·.2), z.length = n := fun z hz => by
      obtain ⟨y, hy, rfl⟩ := List.mem_map.mp hz
      exact (L.ok y hy).2.1
    have hll : ∀ z ∈ left, z.length = n := fun z hz => by have := (L.lf z hz).1; omega
    generalize hg : mulL p u head = g at P hgl
    refine ⟨putIn p F c g, _, sgn (F.length + k) * head.getD c 0 * sgn F.length, P, ?_, fun f R => ?_⟩
    · unfold putIn
      rw [List.length_append, List.length_map, List.length_map, hel, List.length_singleton]
      omega
    · have hFm : (putIn p F c g).map (·.2) = (F.map (·.2)).map (phi p n c g) ++ [g] := by
        unfold putIn
        rw [List.map_append, List.map_map, phi_map hFl, List.map_map]
        rfl
      have hlm : (left.eraseIdx k).map (fun l => clr1 p l (c, g)) = (left.take k ++ left.drop (k + 1)).map (phi p n c g) := by
        rw [← e2, phi_map fun z hz => hll z (List.mem_of_mem_eraseIdx hz)]
      rw [hFm, hlm]
      have lk : (left.drop (k + 1)).length = left.length - (k + 1) := List.length_drop ..
      -- the head to the front
      have m1 := R.move (F.map (·.2) ++ left.take k) [] (left.drop (k + 1)) head (by rw [List.length_append, List.length_map, e3, lk, List.length_nil]; omega)
      have s1 : (F.map (·.2)) ++ left = [] ++ (F.map (·.2) ++ left.take k) ++ head :: left.drop (k + 1) := by
        rw [List.nil_append, List.append_assoc]
        congr 1
      rw [← s1] at m1
      have hlen : (F.map (·.2) ++ left.take k).length = F.length + k := by rw [List.length_append, List.length_map, e3]
      rw [hlen] at m1
      -- divided
      have m2 := R.mul g head (head.getD c 0) ((F.map (·.2) ++ left.take k) ++ left.drop (k + 1)) (by rw [List.length_append, hlen, lk]; omega) fun x => by
        have h1 := (Cg.refl (p := p) (head.getD c 0)).mul (mulL_vec (p := p) (f := u) (l := head) x)
        have h2 := hu.mul (Cg.refl (p := p) (vec head x))
        rw [Int.one_mul] at h2
        rw [← hg]
        refine (h1.trans ((Cg.of_eq ?_).trans h2)).symm
        rw [← Int.mul_assoc, Int.mul_comm (head.getD c 0) u]
      -- cleared
      have m3 := R.clear (phi_comb (p := p) (c := c) hgl) ((F.map (·.2) ++ left.take k) ++ left.drop (k + 1)) [] (by rw [List.length_append, hlen, lk, List.length_nil]; omega)
      -- behind the others of the ladder
      have m4 := R.move ((F.map (·.2)).map (phi p n c g)) [] ((left.take k ++ left.drop (k + 1)).map (phi p n c g)) g (by rw [List.length_map, List.length_map, List.length_map, List.length_append, e3, lk, List.length_nil]; omega)
      rw [List.length_map, List.length_map] at m4
      simp only [List.nil_append, List.append_assoc, List.cons_append, List.map_append] at m1 m2 m3 m4 ⊢
      have m4' := ((Cg.refl (p := p) (sgn F.length)).mul m4)
      rw [← Int.mul_assoc, sgn_sq, Int.one_mul] at m4'
      have a1 := m3.symm.trans m4'.symm
      have a2 := m2.trans ((Cg.refl (p := p) (head.getD c 0)).mul a1)
      have a3 := m1.trans ((Cg.refl (p := p) (sgn (F.length + k))).mul a2)
      refine a3.trans (.of_eq ?_)
      rw [← Int.mul_assoc, ← Int.mul_assoc]
theorem asc_range : ∀ (n : Nat) (l : List Nat), l.length = n → l.Pairwise (· < ·) → (∀ i ∈ l, i < n) → l = List.range n := by
  have key : ∀ (l : List Nat) (b : Nat), l.Pairwise (· < ·) → (∀ i ∈ l, b ≤ i ∧ i < b + l.length) → l = (List.range l.length).map (b + ·) := by
    intro l
    induction l with
    | nil => intro b _ _; rfl
    | cons a l ih =>
      intro b hp h
      obtain ⟨h1, h2⟩ := List.pairwise_cons.mp hp
      have ha := h a (by simp)
      rw [List.length_cons] at ha h
      have hb : a = b := by
        rcases Nat.eq_or_lt_of_le ha.1 with e | hlt
        · exact e.symm
        · exfalso
          -- all items lie between a and the end: too many
          have : ∀ (m : List Nat) (x : Nat), m.Pairwise (· < ·) → (∀ i ∈ m, x < i ∧ i < b + (l.length + 1)) → m.length + x < b + (l.length + 1) ∨ m = [] := by
            intro m
            induction m with
            | nil => intro x _ _; exact .inr rfl
            | cons c m ihm =>
              intro x hm hb
              left
              obtain ⟨g1, g2⟩ := List.pairwise_cons.mp hm
              have hc := hb c (by simp)
              rcases ihm c g2 (fun i hi => ⟨g1 i hi, (hb i (by simp [hi])).2⟩) with q | q
              · rw [List.length_cons]; omega
              · rw [q]; simp; omega
          rcases this l a h2 (fun i hi => ⟨h1 i hi, (h i (by simp [hi])).2⟩) with q | q
          · omega
          · rw [q] at h ha; simp at ha; omega
      subst hb
      have e := ih (a + 1) h2 fun i hi => by
        have := h i (by simp [hi])
        have := h1 i hi
        omega
      rw [List.length_cons, List.range_succ_eq_map, List.map_cons, List.map_map]
      conv => lhs; rw [e]
      congr 1
      exact List.map_congr_left fun i _ => by show a + 1 + i = a + (i + 1); omega
  intro n l hl hp h
  have := key l 0 hp fun i hi => ⟨Nat.zero_le _, by have := h i hi; omega⟩
  rw [this, hl]
  conv => rhs; rw [← List.map_id (List.range n)]
  exact List.map_congr_left fun i _ => by show 0 + i = i; omega
theorem rsc_of {l m : List (List Int)} (hl : l.length = m.length) (h : ∀ i, i < l.length → RC p (l.getD i []) (m.getD i [])) : RsC p l m := by
  induction l generalizing m with
  | nil => cases m with | nil => exact .nil | cons _ _ => simp at hl
  | cons a l ih =>
    cases m with
    | nil => simp at hl
    | cons b m =>
      refine .cons (h 0 (by simp)) (ih (by simpa using hl) fun i hi => ?_)
      exact h (i + 1) (by simpa using hi)
/-- what rows may undergo leads to noughts, or to the units -/
theorem dich (prm : Prm p) {rows : List (List Int)} (hl : rows.length = n) (hr : ∀ r ∈ rows, isRow r p n) : (∀ f, RowF p n f → Cg p (f rows) 0) ∨ ∃ s, ∀ f, RowF p n f → Cg p (f rows) (s * f (unitL n)) := by
  have go : ∀ c, c ≤ n → ∃ F left s, LI p n rows c F left ∧ F.length + left.length = n ∧ ∀ f, RowF p n f → Cg p (f rows) (s * f (F.map (·.2) ++ left)) := by
    intro c
    induction c with
    | zero => intro _; exact ⟨[], rows, 1, LI.start hr, by simpa using hl, fun f _ => .of_eq (by show f rows = 1 * f ([] ++ rows); rw [List.nil_append, Int.one_mul])⟩
    | succ c ih =>
      intro hc
      obtain ⟨F, left, s, L, hn, h⟩ := ih (by omega)
      obtain ⟨F', left', s', L', hn', h'⟩ := dich_step prm (by omega) L hn
      exact ⟨F', left', s * s', L', hn', fun f R => (h f R).trans (((Cg.refl s).mul (h' f R)).trans (.of_eq (by rw [Int.mul_assoc])))⟩
  obtain ⟨F, left, s, L, hn, h⟩ := go n (Nat.le_refl _)
  cases left with
  | cons l left =>
    left
    intro f R
    have hz : ∀ x, Cg p (l.getD x 0) 0 := fun x => .of_eq (by
      by_cases hx : x < n
      · exact L.lz l (by simp) x hx
      · have := (L.lf l (by simp)).1
        exact vec_over (by omega))
    have := R.zero l (F.map (·.2)) left (by rw [List.length_map]; simp only [List.length_cons] at hn; omega) hz
    exact ((h f R).trans ((Cg.refl s).mul this)).trans (.of_eq (by rw [Int.mul_zero]))
  | nil =>
    right
    refine ⟨s, fun f R => ?_⟩
    have hk := asc_range n (F.map (·.1)) (by rw [List.length_map]; simpa using hn) L.asc fun i hi => by
      obtain ⟨z, hz, rfl⟩ := List.mem_map.mp hi
      exact (L.ok z hz).1
    have hFn : F.length = n := by simpa using hn
    refine (h f R).trans ((Cg.refl s).mul (R.cg _ _ (rsc_of ?_ fun i hi => ?_)))
    · rw [List.append_nil, List.length_map, hFn]
      unfold unitL
      rw [List.length_map, List.length_range]
    · rw [List.append_nil] at hi ⊢
      rw [List.length_map] at hi
      have hFi : F[i]? = some F[i] := List.getElem?_eq_getElem hi
      have e1 : (F.map (·.2)).getD i [] = F[i].2 := by rw [List.getD_eq_getElem?_getD, List.getElem?_map, hFi]; rfl
      have ek : F[i].1 = i := by
        have := congrArg (fun l : List Nat => l[i]?) hk
        simp only [List.getElem?_map, hFi] at this
        rw [List.getElem?_range (by omega)] at this
        exact Option.some.inj this
      have e2 : (unitL n).getD i [] = (List.range n).map fun x => if x = i then (1 : Int) else 0 := by
        unfold unitL
        rw [List.getD_eq_getElem?_getD, List.getElem?_map, List.getElem?_range (by omega)]
        rfl
      rw [e1, e2]
      have hmem : F[i] ∈ F := List.getElem_mem hi
      have rvi : rv F i = vec F[i].2 := by
        unfold rv
        have := rowOf_mem L.lad.nd hmem
        rw [ek] at this
        rw [this]
      intro x
      rw [getD_range]
      by_cases hx : x < n
      · rw [if_pos hx]
        by_cases e : x = i
        · subst e
          rw [if_pos rfl]
          have := L.lad.one x (by rw [hk]; exact List.mem_range.mpr hx)
          rw [rvi] at this
          exact this
        · rw [if_neg e]
          have := L.lad.off i (by rw [hk]; exact List.mem_range.mpr (by omega)) x (by rw [hk]; exact List.mem_range.mpr hx) e
          rw [rvi] at this
          exact this
      · rw [if_neg hx]
        exact .of_eq (vec_over (by rw [(L.ok _ hmem).2.1]; omega))
theorem det_unitL (n : Nat) : Cg p (det n (unitL n)) 1 := by
  refine det_lower n (by unfold unitL; rw [List.length_map, List.length_range]) fun i hi => ?_
  have e2 : (unitL n).getD i [] = (List.range n).map fun x => if x = i then (1 : Int) else 0 := by
    unfold unitL
    rw [List.getD_eq_getElem?_getD, List.getElem?_map, List.getElem?_range hi]
    rfl
  rw [e2]
  refine ⟨fun x hx => .of_eq ?_, .of_eq ?_⟩
  · rw [getD_range]
    split
    · exact if_neg (by omega)
    · rfl
  · rw [getD_range, if_pos hi, if_pos rfl]
end
end S4

namespace S4
open PySem L2 TT MM
theorem isRow_len {r : List Int} {p : Int} {wd : Nat} (h : isRow r p wd) : r.length = wd := by have := h.1; omega
/-! ### products -/
def dotC (r : List Int) (B : List (List Int)) (x : Nat) : Int := sumP (List.range B.length) fun j => r.getD j 0 * (B.getD j []).getD x 0
def mulV (n : Nat) (B : List (List Int)) (r : List Int) : List Int := (List.range n).map (dotC r B)
section
variable {p : Int} {n : Nat} {B : List (List Int)}
theorem mulV_at (r : List Int) (x : Nat) : (mulV n B r).getD x 0 = if x < n then dotC r B x else 0 := getD_range
theorem mulV_comb {w u v : List Int} {c : Int} (h : Comb p w u c v) : Comb p (mulV n B w) (mulV n B u) c (mulV n B v) := fun x => by
  rw [mulV_at, mulV_at, mulV_at]
  split
  · unfold dotC
    rw [← sumP_mul, ← sumP_add]
    refine sumP_cg fun j _ => ?_
    refine ((h j).mul (Cg.refl _)).trans (.of_eq ?_)
    rw [Int.add_mul, Int.mul_assoc]
  · exact .of_eq (by omega)
theorem mulV_cg {a b : List Int} (h : RC p a b) : RC p (mulV n B a) (mulV n B b) := fun x => by
  rw [mulV_at, mulV_at]
  split
  · exact sumP_cg fun j _ => (h j).mul (Cg.refl _)
  · exact .refl 0
theorem mulV_rsc : ∀ {l m : List (List Int)}, RsC p l m → RsC p (l.map (mulV n B)) (m.map (mulV n B))
  | _, _, .nil => .nil
  | _, _, .cons r t => .cons (mulV_cg r) (mulV_rsc t)
theorem mul_rowF : RowF p n (fun A => det n (A.map (mulV n B))) := by
  have R := det_rowF p n
  refine ⟨fun l m h => det_cg n (mulV_rsc h), fun x y a b hl => ?_, fun x u w c a b hl h => ?_, fun v w c b hl h => ?_, fun z a b hl hz => ?_⟩
  · simp only [List.map_append, List.map_cons]
    exact R.swap _ _ _ _ (by rw [List.length_map, List.length_map]; exact hl)
  · simp only [List.map_append, List.map_cons]
    exact R.op _ _ _ c _ _ (by rw [List.length_map, List.length_map]; exact hl) (mulV_comb h)
  · simp only [List.map_cons]
    refine R.mul _ _ c _ (by rw [List.length_map]; exact hl) fun x => ?_
    rw [mulV_at, mulV_at]
    split
    · unfold dotC
      rw [← sumP_mul]
      refine sumP_cg fun j _ => ((h j).mul (Cg.refl _)).trans (.of_eq (by rw [Int.mul_assoc]))
    · exact .of_eq (by rw [Int.mul_zero])
  · simp only [List.map_append, List.map_cons]
    refine R.zero _ _ _ (by rw [List.length_map, List.length_map]; exact hl) fun x => ?_
    rw [mulV_at]
    split
    · exact sumP_zero fun j _ => ((hz j).mul (Cg.refl _)).trans (.of_eq (by rw [Int.zero_mul]))
    · exact .refl 0
theorem unit_mulV (hB : B.length = n) (hb : ∀ b ∈ B, b.length = n) : RsC p ((unitL n).map (mulV n B)) B := by
  have ul : (unitL n).length = n := by unfold unitL; rw [List.length_map, List.length_range]
  refine rsc_of (by rw [List.length_map, ul, hB]) fun i hi => ?_
  rw [List.length_map, ul] at hi
  have e2 : ((unitL n).map (mulV n B)).getD i [] = mulV n B ((List.range n).map fun x => if x = i then (1 : Int) else 0) := by
    unfold unitL
    rw [List.getD_eq_getElem?_getD, List.getElem?_map, List.getElem?_map, List.getElem?_range hi]
    rfl
  rw [e2]
  intro x
  rw [mulV_at]
  split
  · unfold dotC
    refine (sumP_one (k := i) (by exact List.nodup_range) (List.mem_range.mpr (by omega)) fun j hj e => ?_).trans ?_
    · rw [getD_range, if_pos (by have := List.mem_range.mp hj; omega), if_neg e, Int.zero_mul]
      exact .refl 0
    · rw [getD_range, if_pos hi, if_pos rfl, Int.one_mul]
      exact .refl _
  · have hBi : B[i]? = some B[i] := List.getElem?_eq_getElem (by omega)
    have eB : B.getD i [] = B[i] := by rw [List.getD_eq_getElem?_getD, hBi]; rfl
    rw [eB]
    have := hb B[i] (List.getElem_mem _)
    exact .of_eq (vec_over (l := B[i]) (by omega)).symm
/-- determinants multiply -/
theorem det_mul (prm : Prm p) {A : List (List Int)} (hA : A.length = n) (ha : ∀ r ∈ A, isRow r p n) (hB : B.length = n) (hb : ∀ b ∈ B, b.length = n) : Cg p (det n (A.map (mulV n B))) (det n A * det n B) := by
  rcases dich prm hA ha with h | ⟨s, h⟩
  · have h1 := h _ (mul_rowF (B := B))
    have h2 := (h _ (det_rowF p n)).mul (Cg.refl (p := p) (det n B))
    rw [Int.zero_mul] at h2
    exact h1.trans h2.symm
  · have h1 := h _ (mul_rowF (B := B))
    have h2 := h _ (det_rowF p n)
    have h3 := det_unitL (p := p) n
    have h4 := det_cg (p := p) n (unit_mulV (p := p) hB hb)
    have h5 : Cg p (det n A) s := (h2.trans ((Cg.refl s).mul h3)).trans (.of_eq (by rw [Int.mul_one]))
    exact (h1.trans ((Cg.refl s).mul h4)).trans (h5.mul (Cg.refl (det n B))).symm
end
/-! ### the going by heads -/
theorem drop_at (q : List Int) (c i : Nat) : (q.drop c).getD i 0 = q.getD (c + i) 0 := by rw [List.getD_eq_getElem?_getD, List.getElem?_drop, List.getD_eq_getElem?_getD]
theorem less_drop {p : Int} {l r : List Int} {m : Int} {c : Nat} : (lessL p l r m).drop c = lessL p (l.drop c) (r.drop c) m := by
  apply List.ext_getElem?
  intro i
  unfold lessL
  rw [List.getElem?_drop, List.getElem?_map, List.getElem?_map]
  by_cases h : c + i < l.length
  · rw [List.getElem?_range h, List.getElem?_range (by rw [List.length_drop]; omega)]
    show some ((l.getD (c + i) 0 - m * r.getD (c + i) 0) % p) = some (((l.drop c).getD i 0 - m * (r.drop c).getD i 0) % p)
    rw [drop_at, drop_at]
  · rw [List.getElem?_eq_none (by rw [List.length_range]; omega), List.getElem?_eq_none (by rw [List.length_range, List.length_drop]; omega)]
    rfl
theorem clr1_drop {p : Int} {l g : List Int} {c : Nat} : (clr1 p l (c, g)).drop c = clr1 p (l.drop c) (0, g.drop c) := by
  unfold clr1
  rw [drop_at]
  show (if l.getD c 0 = 0 then l else lessL p l g (l.getD c 0)).drop c = if l.getD (c + 0) 0 = 0 then l.drop c else lessL p (l.drop c) (g.drop c) (l.getD (c + 0) 0)
  rw [Nat.add_zero]
  split
  · rfl
  · exact less_drop
section
variable {p : Int} {n c : Nat} {left : List (List Int)}
theorem elim_step (hc : c < n) (hl : left.length + c = n) (hr : ∀ l ∈ left, isRow l p n) {k : Nat} {head : List Int} (hk : left[k]? = some head) {u : Int} (hu : Cg p (u * head.getD c 0) 1) :
    Cg p (det (n - c) (left.map (List.drop c))) (sgn k * head.getD c 0 * det (n - (c + 1)) (((left.eraseIdx k).map fun l => clr1 p l (c, mulL p u head)).map (List.drop (c + 1)))) := by
  obtain ⟨e1, e2, e3⟩ := erase_split hk
  have hkl := (List.getElem?_eq_some_iff.mp hk).1
  obtain ⟨N, hN⟩ : ∃ N, n - c = N + 1 := ⟨n - c - 1, by omega⟩
  have hN2 : n - (c + 1) = N := by omega
  rw [hN, hN2]
  have hhl := isRow_len (hr head (List.mem_of_getElem? hk))
  generalize hg : mulL p u head = g
  have hgl : g.length = n := by rw [← hg]; unfold mulL; rw [List.length_map]; exact hhl
  have gv : ∀ x, Cg p (vec g x) (u * vec head x) := fun x => by rw [← hg]; exact mulL_vec x
  have R := det_rowF p (N + 1)
  have lk : (left.drop (k + 1)).length = left.length - (k + 1) := List.length_drop ..
  have m1 := R.move ((left.take k).map (List.drop c)) [] ((left.drop (k + 1)).map (List.drop c)) (head.drop c) (by rw [List.length_map, List.length_map, e3, lk, List.length_nil]; omega)
  have s1 : left.map (List.drop c) = [] ++ (left.take k).map (List.drop c) ++ head.drop c :: (left.drop (k + 1)).map (List.drop c) := by
    rw [List.nil_append, ← List.map_cons, ← List.map_append, ← e1]
  rw [← s1, List.length_map, e3] at m1
  have hco : ∀ v, Comb p (phi p (N + 1) 0 (g.drop c) v) v ((if v.length = N + 1 then -(v.getD 0 0) else 0) * u) (head.drop c) := fun v x => by
    have h1 := phi_comb (p := p) (n := N + 1) (c := 0) (g := g.drop c) (by rw [List.length_drop]; omega) v x
    refine h1.trans ((Cg.refl (p := p) (v.getD x 0)).add ?_)
    rw [drop_at, drop_at, Int.mul_assoc]
    exact (Cg.refl _).mul (gv (c + x))
  have m3 := R.clear hco ((left.take k).map (List.drop c) ++ (left.drop (k + 1)).map (List.drop c)) [] (by rw [List.length_append, List.length_map, List.length_map, e3, lk, List.length_nil]; omega)
  have hmap : ((left.take k).map (List.drop c) ++ (left.drop (k + 1)).map (List.drop c)).map (phi p (N + 1) 0 (g.drop c)) = ((left.eraseIdx k).map fun l => clr1 p l (c, g)).map (List.drop c) := by
    rw [← List.map_append, ← e2, phi_map fun v hv => by
      obtain ⟨y, hy, rfl⟩ := List.mem_map.mp hv
      rw [List.length_drop, isRow_len (hr y (List.mem_of_mem_eraseIdx hy))]
      exact hN, List.map_map, List.map_map]
    exact List.map_congr_left fun l _ => clr1_drop.symm
  rw [hmap] at m3
  have heads : ∀ l ∈ ((left.eraseIdx k).map fun l => clr1 p l (c, g)).map (List.drop c), Cg p (l.headD 0) 0 := fun l hl2 => by
    obtain ⟨y, hy, rfl⟩ := List.mem_map.mp hl2
    obtain ⟨z, hz, rfl⟩ := List.mem_map.mp hy
    rw [headD_getD, drop_at]
    have h1 := clr1_vec (p := p) (l := z) (z := (c, g)) (by rw [isRow_len (hr z (List.mem_of_mem_eraseIdx hz))]; exact hgl) c
    have h2 : Cg p (vec g c) 1 := (gv c).trans hu
    have h3 := (Cg.refl (p := p) (vec z c)).sub ((Cg.refl (p := p) (vec z c)).mul h2)
    rw [Int.mul_one, Int.sub_self] at h3
    exact h1.trans h3
  have m4 := det_first (p := p) (n := N) (r := head.drop c) heads
  have etail : ((((left.eraseIdx k).map fun l => clr1 p l (c, g)).map (List.drop c)).map List.tail) = ((left.eraseIdx k).map fun l => clr1 p l (c, g)).map (List.drop (c + 1)) := by
    rw [List.map_map]
    exact List.map_congr_left fun l _ => by show (l.drop c).tail = l.drop (c + 1); rw [List.tail_drop]
  rw [etail, headD_getD, drop_at, Nat.add_zero] at m4
  simp only [List.nil_append, List.append_assoc, List.cons_append] at m1 m3 m4 ⊢
  refine (m1.trans ((Cg.refl (sgn k)).mul (m3.symm.trans m4))).trans (.of_eq ?_)
  rw [Int.mul_assoc]
  rfl
theorem elim_none (hc : c < n) (h : ∀ l ∈ left, l.getD c 0 = 0) : Cg p (det (n - c) (left.map (List.drop c))) 0 := by
  obtain ⟨N, hN⟩ : ∃ N, n - c = N + 1 := ⟨n - c - 1, by omega⟩
  rw [hN]
  refine det_col fun l hl => ?_
  obtain ⟨y, hy, rfl⟩ := List.mem_map.mp hl
  rw [headD_getD, drop_at, Nat.add_zero]
  exact .of_eq (h y hy)
end
theorem sgn_mod : ∀ k : Nat, sgn k = if ((k : Int)) % 2 != 0 then -1 else 1
  | 0 => rfl
  | k + 1 => by
    show -sgn k = _
    rw [sgn_mod k]
    by_cases h : (k : Int) % 2 = 0
    · have h1 : ((k : Int) % 2 != 0) = false := by rw [h]; rfl
      have h2 : (((k + 1 : Nat) : Int) % 2 != 0) = true := by rw [bne_iff_ne]; omega
      rw [h1, h2]; rfl
    · have h1 : ((k : Int) % 2 != 0) = true := by rw [bne_iff_ne]; exact h
      have h2 : (((k + 1 : Nat) : Int) % 2 != 0) = false := by rw [bne_eq_false_iff_eq]; omega
      rw [h1, h2]; rfl
end S4

namespace S4
open PySem L2 TT MM
/-! ### longer rows: what stands behind the places goes along -/
def tr (wd : Nat) (rs : RG) : RG := rs.map fun z => (z.1, z.2.take wd)
theorem tr_keys (wd : Nat) (rs : RG) : (tr wd rs).map (·.1) = rs.map (·.1) := by unfold tr; rw [List.map_map]; rfl
theorem getD_take {l : List Int} {wd i : Nat} (h : i < wd) : (l.take wd).getD i 0 = l.getD i 0 := by
  rw [List.getD_eq_getElem?_getD, List.getElem?_take, if_pos h, List.getD_eq_getElem?_getD]
theorem less_take {p : Int} {l r : List Int} {m : Int} {wd : Nat} : (lessL p l r m).take wd = lessL p (l.take wd) (r.take wd) m := by
  unfold lessL
  rw [← List.map_take, List.take_range, List.length_take]
  refine List.map_congr_left fun i hi => ?_
  have hi := List.mem_range.mp hi
  rw [getD_take (by omega), getD_take (by omega)]
theorem clr1_take {p : Int} {l : List Int} {z : Nat × List Int} {wd : Nat} (h : z.1 < wd) : (clr1 p l z).take wd = clr1 p (l.take wd) (z.1, z.2.take wd) := by
  unfold clr1
  rw [getD_take h]
  split
  · rfl
  · exact less_take
theorem clr_take {p : Int} {wd : Nat} : ∀ (rs : RG) (l : List Int), (∀ z ∈ rs, z.1 < wd) → (clr p rs l).take wd = clr p (tr wd rs) (l.take wd)
  | [], _, _ => rfl
  | z :: rs, l, h => by
    show (clr p rs (clr1 p l z)).take wd = clr p (tr wd rs) (clr1 p (l.take wd) (z.1, z.2.take wd))
    rw [clr_take rs _ fun y hy => h y (by simp [hy]), clr1_take (h z (by simp))]
theorem mul_take {p u : Int} {l : List Int} {wd : Nat} : (mulL p u l).take wd = mulL p u (l.take wd) := by unfold mulL; rw [List.map_take]
theorem putIn_tr {p : Int} {wd k : Nat} {rs : RG} {g : List Int} (hk : k < wd) : tr wd (putIn p rs k g) = putIn p (tr wd rs) k (g.take wd) := by
  unfold tr putIn
  rw [List.map_append, List.map_map, List.map_map]
  congr 1
  refine List.map_congr_left fun z _ => ?_
  show (z.1, (clr1 p z.2 (k, g)).take wd) = (z.1, clr1 p (z.2.take wd) (k, g.take wd))
  rw [clr1_take hk]
theorem clr_span {p : Int} {R : Vc → Prop} : ∀ (rs : RG) (l : List Int), (∀ z ∈ rs, Spn p R (vec z.2) ∧ z.2.length = l.length) → Spn p R (fun x => vec l x - vec (clr p rs l) x)
  | [], l, _ => .zero fun x => .of_eq (by show vec l x - vec l x = 0; omega)
  | z :: rs, l, h => by
    obtain ⟨h1, h2⟩ := h z (by simp)
    have s : ∀ x, Cg p (vec (clr1 p l z) x) (vec l x - vec l z.1 * vec z.2 x) := fun x => clr1_vec h2 x
    have a := clr_span rs (clr1 p l z) fun y hy => by
      obtain ⟨b, c⟩ := h y (by simp [hy])
      exact ⟨b, by rw [clr1_len]; exact c⟩
    have e : clr p (z :: rs) l = clr p rs (clr1 p l z) := rfl
    rw [e]
    refine .plus (vec l z.1) a h1 fun x => ?_
    have h4 := ((s x).symm.add (Cg.refl (p := p) (vec l z.1 * vec z.2 x))).sub (Cg.refl (p := p) (vec (clr p rs (clr1 p l z)) x))
    refine ((Cg.of_eq ?_).trans h4).trans (.of_eq ?_) <;> omega
def inRows (rows : List (List Int)) : Vc → Prop := fun v => ∃ l ∈ rows, v = vec l
theorem in_more {p : Int} {rows : List (List Int)} {row : List Int} {v : Vc} (h : Spn p (inRows rows) v) : Spn p (inRows (rows ++ [row])) v := h.mono fun r ⟨l, hl, e⟩ => ⟨l, List.mem_append_left _ hl, e⟩
structure St1W (p : Int) (wd W : Nat) (rs : RG) (rows : List (List Int)) : Prop where
  st : St1 p wd (tr wd rs) (rows.map (List.take wd))
  ok : ∀ z ∈ rs, z.1 < wd ∧ z.2.length = W ∧ InB p z.2
  room : ∀ z ∈ rs, Spn p (inRows rows) (vec z.2)
section
variable {p : Int} {wd W : Nat} {rs : RG} {rows : List (List Int)} {row : List Int}
theorem St1W.nil (p : Int) (wd W : Nat) : St1W p wd W [] [] := ⟨St1.nil p wd, fun z h => (nomatch h), fun z h => (nomatch h)⟩
theorem St1W.nd (S : St1W p wd W rs rows) : (rs.map (·.1)).Nodup := by rw [← tr_keys wd]; exact S.st.lad.nd
theorem St1W.len (S : St1W p wd W rs rows) : rs.length ≤ wd := by
  have := S.st.len
  unfold tr at this
  rwa [List.length_map] at this
theorem St1W.clrT (S : St1W p wd W rs rows) (l : List Int) : (clr p rs l).take wd = clr p (tr wd rs) (l.take wd) := clr_take rs l fun z hz => (S.ok z hz).1
theorem St1W.rest (S : St1W p wd W rs rows) (hl : row.length = W) : Spn p (inRows rows) (fun x => vec row x - vec (clr p rs row) x) := clr_span rs row fun z hz => ⟨S.room z hz, by rw [(S.ok z hz).2.1, hl]⟩
theorem St1W.restD (S : St1W p wd W rs rows) {x : Nat} (hx : x < wd) : (clr p (tr wd rs) (row.take wd)).getD x 0 = (clr p rs row).getD x 0 := by rw [← S.clrT, getD_take hx]
theorem St1W.skip (S : St1W p wd W rs rows) (hw : wd ≤ W) (hl : row.length = W) (hz : ∀ x, x < wd → (clr p rs row).getD x 0 = 0) : St1W p wd W rs (rows ++ [row]) ∧ Spn p (inRows (rows.map (List.take wd))) (vec (row.take wd)) := by
  have htl : (row.take wd).length = wd := by rw [List.length_take]; omega
  have h0 : ∀ x, x < wd → (clr p (tr wd rs) (row.take wd)).getD x 0 = 0 := fun x hx => by rw [S.restD hx]; exact hz x hx
  refine ⟨⟨?_, S.ok, fun z h => in_more (S.room z h)⟩, ?_⟩
  · rw [List.map_append]
    exact S.st.skip htl h0
  · obtain ⟨a, _⟩ := S.st.clear htl
    refine ((S.st.room _).mp a).cg fun x => ?_
    have e : vec (clr p (tr wd rs) (row.take wd)) x = 0 := by
      by_cases hx : x < wd
      · exact h0 x hx
      · exact vec_over (by rw [clr_len]; omega)
    rw [e, Int.sub_zero]
    exact .refl _
theorem St1W.put (S : St1W p wd W rs rows) (hw : wd ≤ W) (p2 : 2 ≤ p) (hl : row.length = W) (hin : InB p row) {k : Nat} {u : Int} (hk : k < wd) (h0 : (clr p rs row).getD k 0 ≠ 0) (hz : ∀ x, x < k → (clr p rs row).getD x 0 = 0)
    (hu : Cg p (u * (clr p rs row).getD k 0) 1) : St1W p wd W (putIn p rs k (mulL p u (clr p rs row))) (rows ++ [row]) ∧ ¬ Spn p (inRows (rows.map (List.take wd))) (vec (row.take wd)) := by
  have p0 : 0 < p := by omega
  have htl : (row.take wd).length = wd := by rw [List.length_take]; omega
  have hti : InB p (row.take wd) := fun x hx => hin x (List.mem_of_mem_take hx)
  have hcl : (clr p rs row).length = W := by rw [clr_len]; exact hl
  have gl : (mulL p u (clr p rs row)).length = W := by unfold mulL; rw [List.length_map]; exact hcl
  have gi : InB p (mulL p u (clr p rs row)) := fun x hx => by
    obtain ⟨y, _, rfl⟩ := List.mem_map.mp hx
    exact mod_b p0
  have hr : Spn p (inRows (rows ++ [row])) (vec (clr p rs row)) := .plus (-1) (.row ⟨row, by simp, rfl⟩) (in_more (S.rest hl)) fun x => .of_eq (by omega)
  have hg : Spn p (inRows (rows ++ [row])) (vec (mulL p u (clr p rs row))) := .plus u (.zero (v := fun _ => 0) fun _ => .refl 0) hr fun x => (mulL_vec x).trans (.of_eq (by omega))
  refine ⟨⟨?_, fun z h => ?_, fun z h => ?_⟩, fun hs => ?_⟩
  · rw [putIn_tr hk, mul_take, S.clrT, List.map_append]
    exact S.st.put p2 htl hti hk (by rw [S.restD hk]; exact h0) (fun x hx => by rw [S.restD (by omega)]; exact hz x hx) (by rw [S.restD hk]; exact hu)
  · rcases List.mem_append.mp h with h | h
    · obtain ⟨y, hy, rfl⟩ := List.mem_map.mp h
      obtain ⟨b1, b2, b3⟩ := S.ok y hy
      exact ⟨b1, by show (clr p _ y.2).length = W; rw [clr_len]; exact b2, clr_in p0 _ b3⟩
    · rw [List.mem_singleton.mp h]
      exact ⟨hk, gl, gi⟩
  · rcases List.mem_append.mp h with h | h
    · obtain ⟨y, hy, rfl⟩ := List.mem_map.mp h
      refine .plus (-(vec y.2 k)) (in_more (S.room y hy)) hg fun x => ?_
      refine (clr1_vec (z := (k, mulL p u (clr p rs row))) (by rw [(S.ok y hy).2.1]; exact gl) x).trans (.of_eq ?_)
      rw [Int.neg_mul]
      show _ - vec y.2 k * vec (mulL p u (clr p rs row)) x = _
      omega
    · rw [List.mem_singleton.mp h]
      exact hg
  · obtain ⟨a, b⟩ := S.st.clear htl
    have hd : Spn p (rungs ((tr wd rs).map (·.1)) (rv (tr wd rs))) (vec (clr p (tr wd rs) (row.take wd))) := .plus (-1) ((S.st.room _).mpr hs) a fun x => .of_eq (by omega)
    have := S.st.lad.zero hd b k
    have e : vec (clr p (tr wd rs) (row.take wd)) k = (clr p rs row).getD k 0 := S.restD hk
    rw [e] at this
    have c := getD_in p0 (clr_in p0 rs hin) k
    exact h0 (this.zero_of c.1 c.2)
end
/-- the numbers of the rows that those ahead do not span -/
noncomputable def nwL (p : Int) (wd : Nat) (rows : List (List Int)) : Nat → List Nat
  | 0 => []
  | i + 1 => nwL p wd rows i ++ (open Classical in if Spn p (inRows ((rows.take i).map (List.take wd))) (vec ((rows.getD i []).take wd)) then [] else [i])
theorem nwL_len (p : Int) (wd : Nat) (rows : List (List Int)) : ∀ i, (nwL p wd rows i).length ≤ i
  | 0 => Nat.le_refl _
  | i + 1 => by
    have := nwL_len p wd rows i
    unfold nwL
    rw [List.length_append]
    split
    · show _ + 0 ≤ _; omega
    · show _ + 1 ≤ _; omega
theorem nwL_in {p : Int} {wd : Nat} {rows : List (List Int)} {i : Nat} (h : Spn p (inRows ((rows.take i).map (List.take wd))) (vec ((rows.getD i []).take wd))) : nwL p wd rows (i + 1) = nwL p wd rows i := by
  rw [nwL, if_pos h, List.append_nil]
theorem nwL_out {p : Int} {wd : Nat} {rows : List (List Int)} {i : Nat} (h : ¬ Spn p (inRows ((rows.take i).map (List.take wd))) (vec ((rows.getD i []).take wd))) : nwL p wd rows (i + 1) = nwL p wd rows i ++ [i] := by
  rw [nwL, if_neg h]
end S4

namespace S4
open PySem L2 TT MM
structure RGSW (H0 : Hp) (dr nw : Addr) (rs : RG) (ns : List Nat) (H : Hp) : Prop where
  same : Same H0 H
  d0 : H0 dr = none
  n0 : H0 nw = none
  ne : dr ≠ nw
  dict : ∃ kvs, H dr = some (.dK kvs) ∧ Paired (kvR H) kvs rs
  news : H nw = some (.lst (ns.map fun k => V.int (k : Nat)))
theorem RGSW.more {H0 : Hp} {dr nw : Addr} {rs : RG} {ns : List Nat} {H H' : Hp} (R : RGSW H0 dr nw rs ns H) (s : Same H H') : RGSW H0 dr nw rs ns H' :=
  ⟨R.same.trans s, R.d0, R.n0, R.ne, let ⟨kvs, a, b⟩ := R.dict; ⟨kvs, s _ _ a, kvR_mono (fun _ _ h => s _ _ h) b⟩, s _ _ R.news⟩
theorem RGSW.setD {H0 : Hp} {dr nw : Addr} {rs rs' : RG} {ns : List Nat} {H : Hp} (R : RGSW H0 dr nw rs ns H) {kvs : List (L2.Key × V)} (h : Paired (kvR H) kvs rs') : RGSW H0 dr nw rs' ns (upd H dr (.dK kvs)) := by
  obtain ⟨kv0, a, b⟩ := R.dict
  exact ⟨same_own R.same R.d0, R.d0, R.n0, R.ne, ⟨kvs, upd_same, kvR_mono (fun t xs h => by rw [upd_ne (ne_of h a (fun z => nomatch z))]; exact h) h⟩, by rw [upd_ne R.ne.symm]; exact R.news⟩
section
variable {P : Program} {w : World} {K : PySem.W.Frag} {mg : Str → Option Value} {base : Heap} {cT cS : Addr}
def spRungsW : Sp := fun vs H Q _ => ∃ (a : Addr) (p : Int) (wd W : Nat) (xs : List V) (rws : List (List Int)), vs = [.int p, .int (wd : Int), .ref a] ∧ SqS K H a xs ∧ Paired (rRow H) xs rws ∧ rws.length ≤ 1000 ∧ Prm p ∧ p ≤ 1000000 ∧ wd ≤ W ∧ W ≤ 1000 ∧ (∀ r ∈ rws, isRow r p W) ∧
  ∀ H' t dr nw rs, Same H H' → H' t = some (.tup [.ref dr, .ref nw]) → H dr = none → H nw = none → (∃ kvs, H' dr = some (.dK kvs) ∧ Paired (kvR H') kvs rs) → H' nw = some (.lst ((nwL p wd rws rws.length).map fun k => V.int (k : Nat))) → St1W p wd W rs rws → rs.length ≤ rws.length → Q (.ref t) H'
theorem ok_rungsW (T : Tx K mg cT cS) {f : Addr} {fd : FuncData} (d : D K mg "rungs_of" s_rungs_of ["p", "wide", "rows"] f fd) : FnOk P w K mg base CX0 2 f fd ["p", "wide", "rows"] (spRungsW (K := K)) := by
  obtain ⟨f1, fd1, d1⟩ := T.d_cleared
  have G1 : FnOk P w K mg base CX0 1 f1 fd1 ["p", "rungs", "row"] spCleared := ok_cleared T d1
  obtain ⟨f2, fd2, d2⟩ := T.d_first_place
  have G2 : FnOk P w K mg base CX0 1 f2 fd2 ["row", "wide"] spFirst := ok_first T d2
  obtain ⟨f3, fd3, d3⟩ := T.d_multiplied
  have G3 : FnOk P w K mg base CX0 1 f3 fd3 ["p", "factor", "row"] spMult := ok_mult T d3
  obtain ⟨f4, fd4, d4⟩ := T.d_inverse
  have G4 : FnOk P w K mg base CX0 1 f4 fd4 ["p", "value"] spInverse := ok_inverse T d4
  refine d.F.ok sc_rungs_of (fun vs H Q E h => ?_) (fun cdv A outer s H vs Q E hr h => ?_)
  · obtain ⟨a, p, wd, W, xs, rws, rfl, _⟩ := h
    rfl
  · obtain ⟨a, p, wd, W, xs, rws, rfl, hS, hp, hl, prm, pm, hwW, hwd, hrw, q⟩ := h
    have p2 := prm.1
    have hlen := paired_len hp
    refine ⟨_, pss_cons (ps_set (i := 3) sc_rungs_of.nd rfl (.inl rfl) pe_dnewK)
      (pss_cons (ps_set (i := 4) sc_rungs_of.nd rfl (.inl rfl) (pe_lst pa_nil))
      (pss_cons (ps_for PassesOwn.never rfl (pi_or (pi_enum (by rfl) T.b_enumerate (pa_cons (pv 2) pa_nil)) (pi_enumT (by rfl) T.b_enumerate (pa_cons (pv 2) pa_nil))) (pg_tup rfl (pgs_cons (pg_name (i := 5) sc_rungs_of.nd rfl (.inl rfl)) (pgs_cons (pg_name (i := 6) sc_rungs_of.nd rfl (.inl rfl)) pgs_nil)))
        (pss_cons (ps_set (i := 7) sc_rungs_of.nd rfl (.inl rfl) (pe_call G1 hr rfl d1.m d1.F.kp d1.b .nil pass0 (pa_cons (pv 0) (pa_cons (pv 3) (pa_cons (pv 6) pa_nil)))))
        (pss_cons (ps_set (i := 8) sc_rungs_of.nd rfl (.inl rfl) (pe_call G2 hr rfl d2.m d2.F.kp d2.b .nil pass0 (pa_cons (pv 7) (pa_cons (pv 1) pa_nil))))
        (pss_cons (ps_if (pt_cmp (pc_isN (pv 8))) (pss_one ps_continue) pss_nil)
        (pss_cons (ps_set (i := 9) sc_rungs_of.nd rfl (.inl rfl) (pe_call G3 hr rfl d3.m d3.F.kp d3.b .nil pass0 (pa_cons (pv 0) (pa_cons (pe_call G4 hr rfl d4.m d4.F.kp d4.b .nil pass0 (pa_cons (pv 0) (pa_cons (pe_ix ix_tup (pv 7) (pv 8) (fun _ _ => rfl)) pa_nil))) (pa_cons (pv 7) pa_nil)))))
        (pss_cons (ps_for PassesOwn.never rfl (pi_list (pe_callTy (call_listD rfl) (by rfl) T.b_list (by decide +kernel) (pa_cons (pv 3) pa_nil))) (pg_name (i := 10) sc_rungs_of.nd rfl (Or.inl rfl))
          (pss_one (ps_dput (hu_of hr) (pv 3) (pv 10) (pe_call G1 hr rfl d1.m d1.F.kp d1.b .nil pass0 (pa_cons (pv 0) (pa_cons (pe_disp (pps_cons (pv 8) (pv 9) pps_nil) (by rfl) (by rfl) (fun z => by cases z) (by decide)) (pa_cons (pe_dget (hu_of hr) (pv 3) (pv 10) (fun _ _ => rfl)) pa_nil)))) rfl)))
        (pss_cons (ps_dput (hu_of hr) (pv 3) (pv 8) (pv 9) rfl)
        (pss_one (ps_expr (pe_bm PySem.F.plainAttrs_list PySem.F.slot_list_append PySem.F.type_list_append mt_append (pv 4) (pa_cons (pv 5) pa_nil)))))))))))
      (pss_one (ps_ret (pe_tup (pa_cons (pv 3) (pa_cons (pv 4) pa_nil))))))), ?_⟩
    intro dr hdr
    dsimp only [gName, tSeq]
    refine ⟨by show 0 ≤ sizeLine; decide, fun nw hnw => ?_⟩
    have hne : dr ≠ nw := fun e => by subst e; rw [upd_same] at hnw; cases hnw
    have s1 := same_new (o := .dK []) hdr
    have s2 := same_new (o := .lst []) hnw
    have R0 : RGSW H dr nw [] [] (upd (upd H dr (.dK [])) nw (.lst [])) := ⟨s1.trans s2, hdr, s1.free hnw, hne, ⟨[], s2 _ _ upd_same, .nil⟩, upd_same⟩
    dsimp only [gName, tSeq]
    have P0 : ∃ rs x5 x6 x7 x8 x9 x10, [some (V.int p), some (V.int (wd : Int)), some (V.ref a), some (V.ref dr), some (V.ref nw), none, none, none, none, none, none] = [some (V.int p), some (V.int (wd : Int)), some (V.ref a), some (V.ref dr), some (V.ref nw), x5, x6, x7, x8, x9, x10] ∧ RGSW H dr nw rs (nwL p wd rws 0) (upd (upd H dr (.dK [])) nw (.lst [])) ∧ St1W p wd W rs (rws.take 0) ∧ rs.length ≤ 0 :=
      ⟨[], none, none, none, none, none, none, rfl, R0, by rw [List.take_zero]; exact St1W.nil p wd W, Nat.le_refl _⟩
    apply twice
    · intro hs
      apply twice
      · intro hd
        rcases hS with h | h
        · exact .inl ⟨_, rfl, a, xs, rfl, .of ((s1.trans s2) _ _ h), for_it (walk_enum (xs := xs)) (fun i σ H' => ∃ rs x5 x6 x7 x8 x9 x10, σ = [some (.int p), some (.int (wd : Int)), some (.ref a), some (.ref dr), some (.ref nw), x5, x6, x7, x8, x9, x10] ∧ RGSW H dr nw rs (nwL p wd rws i) H' ∧ St1W p wd W rs (rws.take i) ∧ rs.length ≤ i) P0 (fun i σ H' _ q => .of (let ⟨_, _, _, _, _, _, _, _, R, _, _⟩ := q; R.same _ _ h)) hs hd⟩
        · exact .inr ⟨_, rfl, a, xs, rfl, .of ((s1.trans s2) _ _ h), for_it (walk_enumT (xs := xs)) (fun i σ H' => ∃ rs x5 x6 x7 x8 x9 x10, σ = [some (.int p), some (.int (wd : Int)), some (.ref a), some (.ref dr), some (.ref nw), x5, x6, x7, x8, x9, x10] ∧ RGSW H dr nw rs (nwL p wd rws i) H' ∧ St1W p wd W rs (rws.take i) ∧ rs.length ≤ i) P0 (fun i σ H' _ q => .of (let ⟨_, _, _, _, _, _, _, _, R, _, _⟩ := q; R.same _ _ h)) hs hd⟩
      · rintro σ H2 ⟨rs, x5, x6, x7, x8, x9, x10, rfl, R, S, cnt⟩
        rw [hlen] at R
        rw [hlen, List.take_length] at S
        refine ⟨_, rfl, _, rfl, by show 2 ≤ sizeLine; decide, fun t nt => ?_⟩
        have s3 := same_new (o := .tup [V.ref dr, V.ref nw]) nt
        obtain ⟨kvs, hk1, hk2⟩ := R.dict
        exact q _ t dr nw rs (R.same.trans s3) upd_same hdr R.n0 ⟨kvs, s3 _ _ hk1, kvR_mono (fun _ _ h => s3 _ _ h) hk2⟩ (s3 _ _ R.news) S (by omega)
    · rintro i x σ H2 H3 hi ⟨rs, x5, x6, x7, x8, x9, x10, rfl, R2, S, cnt⟩ ⟨tz, u1, u2, rfl, nz, rfl, e1, e2⟩
      cases (Option.some.inj e1)
      have s3 := same_new (o := .tup [V.int (i : Nat), u2]) nz
      have R := R2.more s3
      obtain ⟨row, hrow, hrr⟩ := paired_get (paired_mono mono_row (R.same).keep hp) e2
      have hir := hrw row (List.mem_of_getElem? hrow)
      have hrl : row.length = W := by have := hir.1; omega
      have erow : rws.getD i [] = row := by rw [List.getD_eq_getElem?_getD, hrow]; rfl
      have hnl := nwL_len p wd rws i
      have etake : rws.take (i + 1) = rws.take i ++ [row] := by rw [List.take_succ, hrow]; rfl
      have hrsl := S.len
      refine ⟨tz, _, rfl, .of upd_same, rfl, _, _, rfl, _, _, rfl, rfl, ?_⟩
      obtain ⟨kvs, hk1, hk2⟩ := R.dict
      refine ⟨_, rfl, _, rfl, _, rfl, dr, .dK kvs, u2, row, rs, p, rfl, hk1, ⟨kvs, rfl, hk2⟩, S.nd, hrr, by omega, pm, hir.2, by omega, by omega, fun z hz => by have := S.ok z hz; exact ⟨by omega, by omega⟩, fun H4 v4 s4 hv4 => ?_⟩
      dsimp only [gName, tSeq]
      have cl := clr_len p rs row
      refine ⟨_, rfl, _, rfl, v4, clr p rs row, wd, rfl, hv4, by omega, by omega, fun hz => ?_, fun k hk h0 hz => ?_⟩
      · dsimp only [gName, tSeq]
        refine ⟨_, rfl, _, rfl, ?_⟩
        have R4 := R.more s4
        rw [decide_eq_true rfl]
        obtain ⟨Sk, Sp⟩ := S.skip hwW hrl hz
        refine iteT ⟨rs, _, _, _, _, _, _, rfl, ?_, ?_, by omega⟩
        · rw [nwL_in (by rw [erow]; exact Sp)]
          exact R4
        · rw [etake]
          exact Sk
      · dsimp only [gName, tSeq]
        refine ⟨_, rfl, _, rfl, ?_⟩
        rw [decide_eq_false (fun e => nomatch e)]
        refine iteF ?_
        have p0 : 0 < p := by omega
        have hri := clr_in p0 rs hir.2
        have hb := getD_in p0 hri k
        have hkk : (clr p rs row)[k]? = some ((clr p rs row)[k]'(by omega)) := List.getElem?_eq_getElem (by omega)
        have hkg := getD_at (d := (0 : Int)) hkk
        obtain ⟨t4, rfl, ht4⟩ := hv4
        refine ⟨_, rfl, _, rfl, _, rfl, _, rfl, t4, _, _, _, rfl, rfl, .of ht4, atI_nat (int_at hkk), ?_⟩
        rw [← hkg]
        refine ⟨p, _, rfl, pm, by omega, by omega, prm.gcd (by omega) (by omega), fun u u0 u1 hu H5 s5 => ?_⟩
        refine ⟨_, rfl, .ref t4, clr p rs row, p, u, rfl, ⟨t4, rfl, s5.keep.tup ht4⟩, p0, ⟨by omega, by omega⟩, by omega, fun H6 v6 s6 hv6 => ?_⟩
        have s46 := (s4.trans s5).trans s6
        have R6 := R.more s46
        obtain ⟨St, Sn⟩ := S.put (u := u) hwW p2 hrl hir.2 hk h0 hz hu
        generalize hg : mulL p u (clr p rs row) = g at hv6 St
        have hgl : g.length = W := by rw [← hg]; unfold mulL; rw [List.length_map]; omega
        have hgi : InB p g := by
          rw [← hg]
          intro x hx
          obtain ⟨y, _, rfl⟩ := List.mem_map.mp hx
          exact mod_b p0
        have kP : k ∉ rs.map (·.1) := by
          have := St.nd
          rw [putIn_keys, List.nodup_append] at this
          exact fun q => this.2.2 k q k (by simp) rfl
        dsimp only [gName, tSeq]
        have hk6 := s46 _ _ hk1
        have hk26 := kvR_mono (H' := H6) (fun _ _ h => s46 _ _ h) hk2
        have hkl := paired_len hk26
        refine ⟨_, rfl, dr, kvs, rfl, .inl hk6, fun lk nlk => ⟨lk, rfl, ⟨_, .of upd_same⟩, ?_⟩⟩
        have s7 := same_new (o := .lst (kvs.map fun kv => kV kv.1)) nlk
        have ldr : lk ≠ dr := fun e => by subst e; rw [hk6] at nlk; cases nlk
        refine for_it (walk_list (xs := kvs.map fun kv => kV kv.1)) (fun j σ H' => ∃ x10, σ = [some (.int p), some (.int (wd : Int)), some (.ref a), some (.ref dr), some (.ref nw), some (.int (i : Nat)), some u2, some (.ref t4), some (.int (k : Nat)), some v6, x10] ∧
          RGSW H dr nw (part p k g ((rs.take j).map (·.1)) rs) (nwL p wd rws i) H' ∧ rRow H' v6 g ∧ H' lk = some (.lst (kvs.map fun kv => kV kv.1)))
          ⟨x10, rfl, by rw [List.take_zero, List.map_nil, part_nil]; exact R6.more s7, mono_row _ _ _ _ s7.keep hv6, upd_same⟩ (fun j σ H' _ ⟨_, _, _, _, h⟩ => .of h) ?_ ?_
        · rintro j x σ H8 H9 hj ⟨y10, rfl, RJ, hv8, hl8⟩ ⟨rfl, hx⟩
          rw [List.getElem?_map] at hx
          rw [List.length_map] at hj
          have hkj : kvs[j]? = some (kvs[j]'hj) := List.getElem?_eq_getElem hj
          rw [hkj] at hx
          have hx := (Option.some.inj hx).symm
          obtain ⟨z, hz1, ze, _⟩ := paired_get hk26 hkj
          have hx2 : x = V.int ((z.1 : Nat) : Int) := by rw [hx]; show kV kvs[j].1 = _; rw [ze]; rfl
          subst hx2
          have zm := List.mem_of_getElem? hz1
          obtain ⟨z1, z2, z3⟩ := S.ok z zm
          have hnd : z.1 ∉ (rs.take j).map (·.1) := by
            have nd := S.nd
            have e : rs = rs.take j ++ rs.drop j := (List.take_append_drop j rs).symm
            have hlt : j < rs.length := (List.getElem?_eq_some_iff.mp hz1).1
            have hz2 : rs[j] = z := (List.getElem?_eq_some_iff.mp hz1).2
            rw [e, List.map_append, List.nodup_append] at nd
            intro q
            refine nd.2.2 z.1 q z.1 ?_ rfl
            rw [List.drop_eq_getElem_cons hlt, hz2]
            simp
          obtain ⟨kJ, hJ1, hJ2⟩ := RJ.dict
          have hpj : (part p k g ((rs.take j).map (·.1)) rs)[j]? = some z := by
            unfold part
            rw [List.getElem?_map, hz1]
            show some (if z.1 ∈ _ then _ else z) = some z
            rw [if_neg hnd]
          obtain ⟨kv, hkv, ke, hvv⟩ := paired_get2 hJ2 hpj
          obtain ⟨kk, vv⟩ := kv
          simp only at ke hvv
          subst ke
          have hval := val_at hJ2 (by rw [part_keys]; exact S.nd) hkv
          have hJl := paired_len hJ2
          have hpl : (part p k g ((rs.take j).map (·.1)) rs).length = rs.length := by unfold part; rw [List.length_map]
          refine ⟨_, rfl, fun qd nqd => ⟨_, rfl, _, rfl, upd_same, [(Sum.inl ((k : Nat) : Int), v6)], rfl, by show 1 ≤ 15; decide, ?_⟩⟩
          rw [upd_upd]
          have s10 := same_new (o := .dK (mergeK [] [(Sum.inl ((k : Nat) : Int), v6)])) nqd
          refine ⟨_, rfl, _, rfl, dr, vv, rfl, .inl ⟨kJ, _, .inl (s10 _ _ hJ1), rfl, hval.symm⟩, ?_⟩
          refine ⟨qd, _, vv, z.2, [(k, g)], p, rfl, upd_same, ⟨[(Sum.inl ((k : Nat) : Int), v6)], rfl, .cons ⟨rfl, mono_row _ _ _ _ s10.keep hv8⟩ .nil⟩, by simp, mono_row _ _ _ _ s10.keep hvv, p0, pm, z3, by omega, by show 1 ≤ 1000; decide, fun y hy => by rw [List.mem_singleton.mp hy]; exact ⟨by rw [z2]; show k < W; omega, by rw [z2]; exact hgl⟩, fun H11 v11 s11 hv11 => ?_⟩
          have sa := s10.trans s11
          refine ⟨_, rfl, _, rfl, dr, _, rfl, DPut.k (k := Sum.inl ((z.1 : Nat) : Int)) (sa _ _ hJ1) (Nat.lt_of_le_of_lt (by omega : kJ.length ≤ 1000) (by decide)), ?_⟩
          have hJ3 := kvR_mono (H' := H11) (fun _ _ h => sa _ _ h) hJ2
          have hput := put_map hJ3 hv11 (k := z.1) (by rw [part_keys]; exact List.mem_map.mpr ⟨z, zm, rfl⟩)
          rw [part_step S.nd zm] at hput
          have et2 : (rs.take (j + 1)).map (·.1) = (rs.take j).map (·.1) ++ [z.1] := by rw [List.take_succ, hz1, List.map_append]; rfl
          refine ⟨_, rfl, ?_, ?_, ?_⟩
          · rw [et2]
            exact (RJ.more sa).setD hput
          · obtain ⟨t6, rfl, ht6⟩ := hv8
            exact ⟨t6, rfl, by rw [upd_ne (ne_of (sa _ _ ht6) (sa _ _ hJ1) (fun z => nomatch z))]; exact sa _ _ ht6⟩
          · rw [upd_ne ldr]
            exact sa _ _ hl8
        · rintro σ H8 ⟨y10, rfl, RJ, hv8, hl8⟩
          rw [List.length_map, hkl, List.take_length] at RJ
          obtain ⟨kJ, hJ1, hJ2⟩ := RJ.dict
          have hJl := paired_len hJ2
          have hpl : (part p k g (rs.map (·.1)) rs).length = rs.length := by unfold part; rw [List.length_map]
          refine ⟨_, rfl, _, rfl, _, rfl, dr, _, rfl, DPut.k (k := Sum.inl ((k : Nat) : Int)) hJ1 (Nat.lt_of_le_of_lt (by omega : kJ.length ≤ 1000) (by decide)), ?_⟩
          rw [putK_new _ (val_none hJ2 (by rw [part_keys]; exact kP))]
          have hfin : Paired (kvR H8) (kJ ++ [(Sum.inl ((k : Nat) : Int), v6)]) (putIn p rs k g) := by
            rw [← part_all]
            exact paired_app hJ2 (.cons ⟨rfl, hv8⟩ .nil)
          have RF := RJ.setD hfin
          have hn1 := RF.news
          refine ⟨_, rfl, .inl ⟨rfl, _, .of hn1⟩, _, rfl, nw, _, _, rfl, rfl, hn1, Nat.lt_of_le_of_lt (by rw [List.length_map]; omega : _ ≤ 1000) (by decide), ?_⟩
          obtain ⟨kF, hF1, hF2⟩ := RF.dict
          refine ⟨putIn p rs k g, _, _, _, _, _, _, rfl, ⟨same_own RF.same RF.n0, RF.d0, RF.n0, RF.ne, ⟨kF, by rw [upd_ne RF.ne]; exact hF1, ?_⟩, by rw [upd_same, nwL_out (by rw [erow]; exact Sn), List.map_append]; rfl⟩, by rw [etake]; exact St, by unfold putIn; rw [List.length_append, List.length_map, List.length_singleton]; omega⟩
          exact kvR_mono (fun t xs h => by rw [upd_ne (ne_of h hn1 (fun z => nomatch z))]; exact h) hF2
end
end S4

namespace S4
open PySem L2 TT MM
section
variable {P : Program} {w : World} {K : PySem.W.Frag} {mg : Str → Option Value} {base : Heap} {cT cS : Addr}
def spFirstRow : Sp := fun vs H Q _ => ∃ (a : Addr) (c : Nat) (xs : List V) (rws : List (List Int)), vs = [.ref a, .int (c : Int)] ∧ H a = some (.lst xs) ∧ Paired (rRow H) xs rws ∧ (∀ l ∈ rws, c < l.length) ∧
  ((∀ l ∈ rws, l.getD c 0 = 0) → ∀ H', Same H H' → Q .non H') ∧ (∀ (k : Nat) head, rws[k]? = some head → head.getD c 0 ≠ 0 → ∀ H', Same H H' → Q (.int (k : Int)) H')
theorem ok_first_row (T : Tx K mg cT cS) {f : Addr} {fd : FuncData} (d : D K mg "first_row" s_first_row ["rows", "place"] f fd) : FnOk P w K mg base CX0 1 f fd ["rows", "place"] spFirstRow := by
  refine d.F.ok sc_first_row (fun vs H Q E h => ?_) (fun cdv A outer s H vs Q E hr h => ?_)
  · obtain ⟨a, c, xs, rws, rfl, _⟩ := h
    rfl
  · obtain ⟨a, c, xs, rws, rfl, ha, hp, hc, q1, q2⟩ := h
    refine ⟨_, pss_cons (ps_for PassesOwn.never rfl (pi_enum (by rfl) T.b_enumerate (pa_cons (pv 0) pa_nil)) (pg_tup rfl (pgs_cons (pg_name (i := 2) sc_first_row.nd rfl (.inl rfl)) (pgs_cons (pg_name (i := 3) sc_first_row.nd rfl (.inl rfl)) pgs_nil)))
        (pss_one (ps_if (pt_truth (pe_ix ix_tup (pv 3) (pv 1) (fun _ _ => rfl)) (by intro _; rfl)) (pss_one (ps_ret (pv 2))) pss_nil)))
      (pss_one (ps_ret pe_non)), ?_⟩
    have hlen := paired_len hp
    refine ⟨_, rfl, a, xs, rfl, .of ha, ?_⟩
    refine for_it (walk_enum (xs := xs)) (fun i σ H' => Same H H' ∧ (∀ l ∈ rws.take i, l.getD c 0 = 0) ∧ ∃ x2 x3, σ = [some (.ref a), some (.int (c : Int)), x2, x3]) ⟨.refl _, (fun l h => by rw [List.take_zero] at h; cases h), none, none, rfl⟩ (fun i σ H' _ h => .of (h.1 _ _ ha)) ?_ ?_
    · rintro i x σ H2 H3 hi ⟨s2, hz, x2, x3, rfl⟩ ⟨tz, u1, u2, rfl, nz, rfl, e1, e2⟩
      cases (Option.some.inj e1)
      have s3 := same_new (o := .tup [V.int (i : Nat), u2]) nz
      obtain ⟨row, hrow, t, rfl, ht⟩ := paired_get (paired_mono mono_row (s2.trans s3).keep hp) e2
      have hm := List.mem_of_getElem? hrow
      have hcl := hc row hm
      have hx : row[c]? = some row[c] := List.getElem?_eq_getElem hcl
      have eg : row.getD c 0 = row[c] := getD_at hx
      refine ⟨tz, _, rfl, .of upd_same, rfl, _, _, rfl, _, _, rfl, rfl, ?_⟩
      refine ⟨_, rfl, _, rfl, t, _, _, V.int row[c], rfl, rfl, .of ht, atI_nat (int_at hx), _, rfl, ?_⟩
      by_cases h0 : row[c] = 0
      · rw [h0]
        refine iteF ⟨s2.trans s3, fun l hl => ?_, _, _, rfl⟩
        rw [List.take_succ, hrow] at hl
        rcases List.mem_append.mp hl with h | h
        · exact hz l h
        · rw [List.mem_singleton.mp h, eg]; exact h0
      · have hb : (row[c] != 0) = true := by rw [bne_iff_ne]; exact h0
        rw [hb]
        exact iteT ⟨_, rfl, q2 i row hrow (by rw [eg]; exact h0) _ (s2.trans s3)⟩
    · rintro σ H2 ⟨s2, hz, x2, x3, rfl⟩
      rw [hlen, List.take_length] at hz
      exact q1 hz _ s2
def spCheckRow : Sp := fun vs H Q _ => ∃ (v : V) (l : List Int) (p wd : Int), vs = [.int p, .int wd, v] ∧ rRow H v l ∧ l.length ≤ 100000 ∧ isRow l p wd ∧ ∀ H', Same H H' → Q .non H'
theorem ok_check_row (T : Tx K mg cT cS) {f : Addr} {fd : FuncData} (d : D K mg "check_row" s_check_row ["p", "wide", "row"] f fd) : FnOk P w K mg base CX0 4 f fd ["p", "wide", "row"] spCheckRow := by
  obtain ⟨f1, fd1, d1⟩ := T.d_is_row
  have G1 : FnOk P w K mg base CX0 3 f1 fd1 ["thing", "p", "wide"] spIsRow := ok_is_row T d1
  refine d.F.ok sc_check_row (fun vs H Q E h => ?_) (fun cdv A outer s H vs Q E hr h => ?_)
  · obtain ⟨v, l, p, wd, rfl, _⟩ := h
    rfl
  · obtain ⟨v, l, p, wd, rfl, hv, hl, hir, q⟩ := h
    exact ⟨_, pss_one (ps_if (pt_not (pt_val (pe_call G1 hr rfl d1.m d1.F.kp d1.b .nil pass0 (pa_cons (pv 2) (pa_cons (pv 0) (pa_cons (pv 1) pa_nil)))))) pss_never pss_nil),
      ⟨_, rfl, _, rfl, _, rfl, v, l, p, wd, rfl, hv, hl, hir, fun H2 s2 => ⟨_, rfl, iteF (q _ s2)⟩⟩⟩
/-! ### mixtures -/
/-- how many times each row goes into one -/
def IsMix (p : Int) (wd : Nat) (rws : List (List Int)) (row l : List Int) : Prop := l.length = rws.length ∧ InB p l ∧ ∀ x, x < wd → Cg p (row.getD x 0) (dotC l rws x)
/-- the rows with their marks -/
def withMarks (rws : List (List Int)) : List (List Int) := (List.range rws.length).map fun i => rws.getD i [] ++ uRow rws.length i
def spMixs (K : PySem.W.Frag) : Sp := fun vs H Q _ => ∃ (a b : Addr) (p : Int) (wd : Nat) (xs : List V) (rws : List (List Int)) (u : V) (row : List Int), vs = [.int p, .int (wd : Int), .ref a, .ref b] ∧ SqS K H a xs ∧ Paired (rRow H) xs rws ∧ rws.length ≤ 400 ∧ Prm p ∧ p ≤ 1000000 ∧ wd ≤ 400 ∧ (∀ r ∈ rws, isRow r p wd) ∧
  H b = some (.lst [u]) ∧ rRow H u row ∧ isRow row p wd ∧ ∀ H' c v, Same H H' → H' c = some (.lst [v]) → ((v = .non ∧ ¬ Spn p (inRows rws) (vec row)) ∨ (Spn p (inRows rws) (vec row) ∧ ∃ l, rRow H' v l ∧ IsMix p wd rws row l)) → Q (.ref c) H'
end
end S4

namespace S4
open PySem L2 TT MM
theorem SqS.or {K : PySem.W.Frag} {H : Hp} {a : Addr} {xs : List V} (h : SqS K H a xs) : SqL K H a xs ∨ SqT K H a xs := h.elim (fun h => .inl (.of h)) fun h => .inr (.of h)
theorem SqS.kd {K : PySem.W.Frag} {H : Hp} {a : Addr} {xs : List V} (h : SqS K H a xs) : ∃ b, SqK b K H a xs ∧ ∀ H', Same H H' → SqK b K H' a xs := h.elim (fun h => ⟨true, .of h, fun H' s => .of (s _ _ h)⟩) fun h => ⟨false, .of h, fun H' s => .of (s _ _ h)⟩
theorem slice_from {K : PySem.W.Frag} {H : Hp} {a : Addr} {xs : List V} {k : Nat} {Q : VK} (h : H a = some (.tup xs)) (hk : k ≤ xs.length) (q : ∀ H' p, Same H H' → H' p = some (.tup (xs.drop k)) → Q (.ref p) H') : rSlA K (.ref a) (some (k : Int)) none H Q := by
  have ec : cutV xs (some (k : Int)) none = xs.drop k := by
    unfold cutV
    rw [HT.sIx_none, HT.sIx_nat, Nat.min_eq_left hk, List.take_of_length_le (by rw [List.length_drop]; omega)]
  refine ⟨a, xs, rfl, .of h, fun e => q H a (.refl _) ?_, fun _ p np => ?_⟩
  · rw [HT.sIx_nat, Nat.min_eq_left hk] at e
    have e1 := e.1
    rw [e1, List.drop_zero]
    exact h
  · rw [ec]
    exact q _ p (same_new np) upd_same
/-! ### marks -/
theorem marks_at {rws : List (List Int)} {i : Nat} (h : i < rws.length) : (withMarks rws)[i]? = some (rws.getD i [] ++ uRow rws.length i) := by
  unfold withMarks
  rw [List.getElem?_map, List.getElem?_range h]
  rfl
theorem marks_len (rws : List (List Int)) : (withMarks rws).length = rws.length := by unfold withMarks; rw [List.length_map, List.length_range]
section
variable {p : Int} {wd : Nat} {rws : List (List Int)}
theorem getD_mem {i : Nat} (h : i < rws.length) : rws.getD i [] ∈ rws ∧ rws[i]? = some (rws.getD i []) := by
  have e : rws[i]? = some rws[i] := List.getElem?_eq_getElem h
  have e2 : rws.getD i [] = rws[i] := by rw [List.getD_eq_getElem?_getD, e]; rfl
  rw [e2]
  exact ⟨List.getElem_mem h, e⟩
theorem marks_row (p2 : 2 ≤ p) (hr : ∀ r ∈ rws, isRow r p wd) : ∀ r ∈ withMarks rws, isRow r p ((wd + rws.length : Nat) : Int) := fun r hr2 => by
  unfold withMarks at hr2
  obtain ⟨i, hi, rfl⟩ := List.mem_map.mp hr2
  have hi := List.mem_range.mp hi
  have h1 := hr _ (getD_mem hi).1
  refine ⟨by rw [List.length_append, isRow_len h1, uRow_len hi], fun v hv => ?_⟩
  rcases List.mem_append.mp hv with h | h
  · exact h1.2 v h
  · unfold uRow at h
    simp only [List.mem_append, List.mem_replicate, List.mem_singleton] at h
    rcases h with (⟨_, rfl⟩ | rfl) | ⟨_, rfl⟩ <;> omega
theorem app_at {a b : List Int} {x : Nat} : (a ++ b).getD x 0 = if x < a.length then a.getD x 0 else b.getD (x - a.length) 0 := by
  rw [List.getD_eq_getElem?_getD]
  split
  · rename_i h; rw [List.getElem?_append_left h, ← List.getD_eq_getElem?_getD]
  · rename_i h; rw [List.getElem?_append_right (by omega), ← List.getD_eq_getElem?_getD]
theorem marks_take (hr : ∀ r ∈ rws, isRow r p wd) : (withMarks rws).map (List.take wd) = rws := by
  apply List.ext_getElem?
  intro i
  rw [List.getElem?_map]
  by_cases h : i < rws.length
  · rw [marks_at h, (getD_mem h).2]
    show some _ = some _
    rw [List.take_left' (isRow_len (hr _ (getD_mem h).1))]
  · rw [List.getElem?_eq_none (by rw [marks_len]; omega), List.getElem?_eq_none (by omega)]
    rfl
/-- the marks tell how a row is made -/
theorem marks_rel (hr : ∀ r ∈ rws, isRow r p wd) {v : Vc} (h : Spn p (inRows (withMarks rws)) v) : ∀ x, x < wd → Cg p (v x) (sumP (List.range rws.length) fun j => v (wd + j) * (rws.getD j []).getD x 0) := by
  induction h with
  | @zero v h =>
    intro x _
    refine (h x).trans (sumP_zero fun j _ => ?_).symm
    have := (h (wd + j)).mul (Cg.refl (p := p) ((rws.getD j []).getD x 0))
    rwa [Int.zero_mul] at this
  | @add u r v c hu hm h ih =>
    intro x hx
    obtain ⟨l, hl, rfl⟩ := hm
    unfold withMarks at hl
    obtain ⟨i, hi, rfl⟩ := List.mem_map.mp hl
    have hi := List.mem_range.mp hi
    have hil := isRow_len (hr _ (getD_mem hi).1)
    have e1 : vec (rws.getD i [] ++ uRow rws.length i) x = (rws.getD i []).getD x 0 := by unfold vec; rw [app_at, if_pos (by omega)]
    have e2 : ∀ j, vec (rws.getD i [] ++ uRow rws.length i) (wd + j) = if j = i then 1 else 0 := fun j => by
      unfold vec
      rw [app_at, if_neg (by omega), uRow_at, hil]
      by_cases q : j = i
      · rw [if_pos q, if_pos (by omega)]
      · rw [if_neg q, if_neg (by omega)]
    have h1 : Cg p (sumP (List.range rws.length) fun j => v (wd + j) * (rws.getD j []).getD x 0) (sumP (List.range rws.length) fun j => u (wd + j) * (rws.getD j []).getD x 0 + c * ((if j = i then 1 else 0) * (rws.getD j []).getD x 0)) := sumP_cg fun j _ => by
      have := (h (wd + j)).mul (Cg.refl (p := p) ((rws.getD j []).getD x 0))
      rw [e2] at this
      refine this.trans (.of_eq ?_)
      rw [Int.add_mul, Int.mul_assoc]
    rw [sumP_add, sumP_mul] at h1
    have h2 : Cg p (sumP (List.range rws.length) fun j => (if j = i then 1 else 0) * (rws.getD j []).getD x 0) ((rws.getD i []).getD x 0) := by
      refine (sumP_one (k := i) List.nodup_range (List.mem_range.mpr hi) fun j _ e => ?_).trans ?_
      · rw [if_neg e, Int.zero_mul]; exact .refl 0
      · rw [if_pos rfl, Int.one_mul]; exact .refl _
    have h3 := (h x)
    rw [e1] at h3
    exact h3.trans (((ih x hx).add ((Cg.refl c).mul h2.symm)).trans h1.symm)
theorem zrow_take {row : List Int} (hw : row.length = wd) (m : Nat) : (row ++ List.replicate m 0).take wd = row := List.take_left' hw
theorem mix_of (p2 : 2 ≤ p) (hr : ∀ r ∈ rws, isRow r p wd) {row : List Int} (hrow : isRow row p wd) {rs : RG} (S : St1W p wd (wd + rws.length) rs (withMarks rws)) (hz : ∀ x, x < wd → (clr p rs (row ++ List.replicate rws.length 0)).getD x 0 = 0) :
    Spn p (inRows rws) (vec row) ∧ IsMix p wd rws row (((clr p rs (row ++ List.replicate rws.length 0)).drop wd).map fun v => -v % p) := by
  have hl := isRow_len hrow
  have hrl : (row ++ List.replicate rws.length 0).length = wd + rws.length := by rw [List.length_append, List.length_replicate, hl]
  obtain ⟨_, sp⟩ := S.skip (by omega) hrl hz
  rw [marks_take hr, zrow_take hl] at sp
  refine ⟨sp, ?_, fun y hy => ?_, fun x hx => ?_⟩
  · rw [List.length_map, List.length_drop, clr_len, hrl]; omega
  · obtain ⟨z, _, rfl⟩ := List.mem_map.mp hy
    exact mod_b (by omega)
  · have h1 := marks_rel hr (S.rest hrl) x hx
    have e1 : vec (row ++ List.replicate rws.length 0) x = row.getD x 0 := by unfold vec; rw [app_at, if_pos (by omega)]
    have e2 : vec (clr p rs (row ++ List.replicate rws.length 0)) x = 0 := hz x hx
    rw [e1, e2, Int.sub_zero] at h1
    refine h1.trans (sumP_cg fun j hj => ?_)
    have hj := List.mem_range.mp hj
    refine Cg.mul ?_ (.refl _)
    have e3 : vec (row ++ List.replicate rws.length 0) (wd + j) = 0 := by unfold vec; rw [app_at, if_neg (by omega), rep_getD]
    have e4 : (((clr p rs (row ++ List.replicate rws.length 0)).drop wd).map fun v => -v % p).getD j 0 = (-(clr p rs (row ++ List.replicate rws.length 0)).getD (wd + j) 0) % p := by
      rw [List.getD_eq_getElem?_getD, List.getElem?_map, List.getElem?_drop]
      have hlt : wd + j < (clr p rs (row ++ List.replicate rws.length 0)).length := by rw [clr_len, hrl]; omega
      rw [List.getElem?_eq_getElem hlt, List.getD_eq_getElem?_getD, List.getElem?_eq_getElem hlt]
      rfl
    rw [e3, e4]
    refine (Cg.of_eq ?_).trans (Cg.mod _).symm
    show 0 - (clr p rs (row ++ List.replicate rws.length 0)).getD (wd + j) 0 = _
    omega
theorem mix_no (prm : Prm p) (hr : ∀ r ∈ rws, isRow r p wd) {row : List Int} (hrow : isRow row p wd) {rs : RG} (S : St1W p wd (wd + rws.length) rs (withMarks rws)) {k : Nat} (hk : k < wd) (h0 : (clr p rs (row ++ List.replicate rws.length 0)).getD k 0 ≠ 0)
    (hz : ∀ x, x < k → (clr p rs (row ++ List.replicate rws.length 0)).getD x 0 = 0) : ¬ Spn p (inRows rws) (vec row) := by
  have p2 := prm.1
  have hl := isRow_len hrow
  have hrl : (row ++ List.replicate rws.length 0).length = wd + rws.length := by rw [List.length_append, List.length_replicate, hl]
  have hin : InB p (row ++ List.replicate rws.length 0) := fun v hv => by
    rcases List.mem_append.mp hv with h | h
    · exact hrow.2 v h
    · rw [(List.mem_replicate.mp h).2]; omega
  have hb := getD_in (by omega) (clr_in (by omega) rs hin) k
  obtain ⟨u, hu⟩ := prm.inv (v := (clr p rs (row ++ List.replicate rws.length 0)).getD k 0) (by omega) (by omega)
  obtain ⟨_, sn⟩ := S.put (by omega) p2 hrl hin hk h0 hz hu
  rwa [marks_take hr, zrow_take hl] at sn
end
section
variable {P : Program} {w : World} {K : PySem.W.Frag} {mg : Str → Option Value} {base : Heap} {cT cS : Addr}
theorem ok_mixs (T : Tx K mg cT cS) {f : Addr} {fd : FuncData} (d : D K mg "mixtures" s_mixtures ["p", "wide", "rows", "made"] f fd) : FnOk P w K mg base CX0 3 f fd ["p", "wide", "rows", "made"] (spMixs K) := by
  obtain ⟨f1, fd1, d1⟩ := T.d_unit_rows
  have G1 : FnOk P w K mg base CX0 1 f1 fd1 ["wide"] spUnits := ok_units T d1
  obtain ⟨f2, fd2, d2⟩ := T.d_rungs_of
  have G2 : FnOk P w K mg base CX0 2 f2 fd2 ["p", "wide", "rows"] (spRungsW (K := K)) := ok_rungsW T d2
  obtain ⟨f3, fd3, d3⟩ := T.d_cleared
  have G3 : FnOk P w K mg base CX0 1 f3 fd3 ["p", "rungs", "row"] spCleared := ok_cleared T d3
  obtain ⟨f4, fd4, d4⟩ := T.d_first_place
  have G4 : FnOk P w K mg base CX0 1 f4 fd4 ["row", "wide"] spFirst := ok_first T d4
  refine d.F.ok sc_mixtures (fun vs H Q E h => ?_) (fun cdv A outer s H vs Q E hr h => ?_)
  · obtain ⟨a, b, p, wd, xs, rws, u, row, rfl, _⟩ := h
    rfl
  · obtain ⟨a, b, p, wd, xs, rws, u, row, rfl, hS, hp, hl, prm, pm, hwd, hrw, hb, hu, hrow, q⟩ := h
    have p2 := prm.1
    have p0 : 0 < p := by omega
    have hlen := paired_len hp
    refine ⟨_, pss_cons (ps_set (i := 4) sc_mixtures.nd rfl (.inl rfl) (pe_call G1 (hr.mono (by decide)) rfl d1.m d1.F.kp d1.b .nil pass0 (pa_cons (pe_callB call_len_seq (by rfl) T.b_len PySem.boot_len (pa_cons (pv 2) pa_nil)) pa_nil)))
      (pss_cons (ps_set (i := 6) sc_mixtures.nd rfl (.inl rfl) (pe_ix ix_tup (pe_call G2 hr rfl d2.m d2.F.kp d2.b .nil pass0 (pa_cons (pv 0) (pa_cons (pv 1) (pa_cons
          (pe_lc (own := [("row", 5), ("mark", 10)]) (g := gTup K 2 (gCons (gName 5) (gCons (gName 10) gNil))) (tt := tYes) rfl sc_mixtures.nd (pi_zipM (by rfl) T.b_zip (pa_cons (pv 2) (pa_cons (pv 4) pa_nil))) (blkOk_by (N := N_mixtures) (sc := defScope s_mixtures) (by decide +kernel))
            (fun _ _ _ _ _ => pgT rfl rfl (pgs_cons (pg_name (i := 5) sc_mixtures.nd rfl (Or.inl rfl)) (pgs_cons (pg_name (i := 10) sc_mixtures.nd rfl (Or.inl rfl)) pgs_nil))) (fun _ _ _ _ _ => pts_nil)
            (fun _ _ _ _ _ => pe_op (catK (K := K) rfl) (pv 5) (pv 10))) pa_nil)))) pe_int (fun _ _ => rfl)))
      (pss_cons (ps_set (i := 7) sc_mixtures.nd rfl (.inl rfl) (pe_lst pa_nil))
      (pss_cons (ps_for PassesOwn.never rfl (pi_list (pv 3)) (pg_name (i := 5) sc_mixtures.nd rfl (Or.inl rfl))
        (pss_cons (ps_set (i := 8) sc_mixtures.nd rfl (.inl rfl) (pe_call G3 (hr.mono (by decide)) rfl d3.m d3.F.kp d3.b .nil pass0 (pa_cons (pv 0) (pa_cons (pv 6) (pa_cons (pe_op op_catA (pv 5) (pe_op op_repA (pe_tup (pa_cons pe_int pa_nil)) (pe_callB call_len_seq (by rfl) T.b_len PySem.boot_len (pa_cons (pv 2) pa_nil)))) pa_nil)))))
        (pss_cons (ps_set (i := 9) sc_mixtures.nd rfl (.inl rfl) (pe_cmp (pc_isN (pe_call G4 (hr.mono (by decide)) rfl d4.m d4.F.kp d4.b .nil pass0 (pa_cons (pv 8) (pa_cons (pv 1) pa_nil))))))
        (pss_one (ps_expr (pe_bm PySem.F.plainAttrs_list PySem.F.slot_list_append PySem.F.type_list_append mt_append (pv 7) (pa_cons
          (pe_ifExp (pt_val (pv 9)) (pe_callTy call_tuple_of (by rfl) T.b_tuple (by decide +kernel) (pa_cons
            (pe_lc (own := [("value", 11)]) (g := gName 11) (tt := tYes) rfl sc_mixtures.nd (pi_tup (pe_slice sl_tupA (pv 8) (po_some (pv 1)) po_none)) (blkOk_by (N := N_mixtures) (sc := defScope s_mixtures) (by decide +kernel)) (fun _ _ _ _ _ => pg_name (i := 11) sc_mixtures.nd rfl (Or.inl rfl)) (fun _ _ _ _ _ => pts_nil)
              (fun _ _ _ _ _ => pe_op op_mod (pe_un un_neg (pv 11)) (pv 0))) pa_nil)) pe_non) pa_nil)))))))
      (pss_one (ps_ret (pv 7)))))), ?_⟩
    have hWl : (withMarks rws).length = rws.length := marks_len rws
    have mrow := marks_row p2 hrw
    obtain ⟨kb, hkb, hkbS⟩ := hS.kd
    refine ⟨_, rfl, a, _, rfl, hS.or, xs.length, rfl, by omega, fun H2 ma ms s2 _ hma hpm => ?_⟩
    rw [hlen] at hpm
    dsimp only [gName, tSeq]
    have hml := paired_len hpm
    have hul : (uRows rws.length).length = rws.length := by unfold uRows; rw [List.length_map, List.length_range]
    refine ⟨_, rfl, _, rfl, _, rfl, _, rfl, a, ma, xs, ms, kb, true, rfl, hkbS _ s2, .of hma, fun D hD => ?_⟩
    refine lc_fm (walk_zipM (n := rws.length) (by omega)) rRow (fun i => some (rws.getD i [] ++ uRow rws.length i)) hD (fun H' s' => ⟨hkbS _ (s2.trans s'), .of (s' _ _ hma)⟩) ?_ ?_
    · rintro i x H3 H4 hi pv ⟨tz, u1, u2, rfl, nz, rfl, e1, e2⟩
      have s4 := same_new (o := .tup [u1, u2]) nz
      have s14 := pv.1.trans s4
      obtain ⟨r1, hr1, hv1⟩ := paired_get (paired_mono mono_row (s2.trans s14).keep hp) e1
      obtain ⟨r2, hr2, hv2⟩ := paired_get (paired_mono mono_row s14.keep hpm) e2
      have er1 : rws.getD i [] = r1 := by rw [List.getD_eq_getElem?_getD, hr1]; rfl
      have er2 : r2 = uRow rws.length i := by
        unfold uRows at hr2
        rw [List.getElem?_map, List.getElem?_range hi] at hr2
        exact (Option.some.inj hr2).symm
      subst er2
      have l1 := isRow_len (hrw r1 (List.mem_of_getElem? hr1))
      refine ⟨tz, _, rfl, .of upd_same, rfl, _, _, rfl, _, _, rfl, rfl, rfl, _, rfl, _, rfl, ?_⟩
      refine cat_rows hv1 hv2 (by rw [uRow_len hi]; omega) fun H9 v9 s9 h9 => ?_
      exact fm_keep mono_row pv hD (by omega) (s4.trans s9) (by rw [er1]) h9
    intro H3 ys s3 hD3 hp3
    rw [fm_all] at hp3
    have hp3' : Paired (rRow H3) ys (withMarks rws) := hp3
    refine ⟨D, p, wd, wd + rws.length, ys, withMarks rws, rfl, .inl hD3, hp3', by omega, prm, pm, by omega, by omega, mrow, fun H5 t dr nw rs s5 ht hdr hnw ⟨kvs, hk1, hk2⟩ _ S cnt => ?_⟩
    refine ⟨t, _, _, _, rfl, rfl, .of ht, at_of (j := 0) rfl rfl, ?_⟩
    dsimp only [gName, tSeq]
    refine ⟨by show 0 ≤ sizeLine; decide, fun fo nfo => ?_⟩
    have s6 := same_new (o := .lst []) nfo
    have s05 := (s2.trans s3).trans s5
    have s06 := s05.trans s6
    have nfo0 := s05.free nfo
    have hne : fo ≠ dr := fun e => by subst e; rw [hk1] at nfo; cases nfo
    have hrwl : (row ++ List.replicate rws.length 0).length = wd + rws.length := by rw [List.length_append, List.length_replicate, isRow_len hrow]
    have hrin : InB p (row ++ List.replicate rws.length 0) := fun v hv => by
      rcases List.mem_append.mp hv with h | h
      · exact hrow.2 v h
      · rw [(List.mem_replicate.mp h).2]; omega
    have hSl := S.len
    dsimp only [gName, tSeq]
    refine ⟨_, rfl, b, rfl, ⟨_, .of (s06 _ _ hb)⟩, ?_⟩
    refine for_it (walk_list (xs := [u])) (fun i σ H' => Same H H' ∧ (∃ x5 x8 x9, σ = [some (.int p), some (.int (wd : Int)), some (.ref a), some (.ref b), some (.ref ma), x5, some (.ref dr), some (.ref fo), x8, x9, none, none]) ∧ (i = 0 → H' fo = some (.lst []) ∧ H' dr = some (.dK kvs) ∧ Paired (kvR H') kvs rs) ∧
        (i ≠ 0 → ∃ v, H' fo = some (.lst [v]) ∧ ((v = .non ∧ ¬ Spn p (inRows rws) (vec row)) ∨ (Spn p (inRows rws) (vec row) ∧ ∃ l, rRow H' v l ∧ IsMix p wd rws row l))))
      ⟨s06, ⟨none, none, none, rfl⟩, fun _ => ⟨upd_same, s6 _ _ hk1, kvR_mono (fun _ _ h => s6 _ _ h) hk2⟩, fun h => absurd rfl h⟩ (fun i σ H' _ h => .of (h.1 _ _ hb)) ?_ ?_
    · rintro i x σ H7 H8 hi ⟨s7, ⟨x5, x8, x9, rfl⟩, h0, _⟩ ⟨rfl, hx⟩
      have hi0 : i = 0 := by have : i < 1 := hi; omega
      subst hi0
      cases (Option.some.inj hx)
      obtain ⟨hfo7, hdr7, hkv7⟩ := h0 rfl
      have hu7 := mono_row _ _ _ _ s7.keep hu
      refine ⟨_, rfl, _, rfl, _, rfl, by show 1 ≤ sizeLine; decide, fun tq ntq => ?_⟩
      have s8 := same_new (o := .tup [V.int 0]) ntq
      refine ⟨_, rfl, a, _, rfl, (hS.same (s7.trans s8)).or, ?_⟩
      rw [hlen]
      refine zeros upd_same (by omega) fun H9 v9 s9 h9 => ?_
      refine cat_rows (mono_row _ _ _ _ (s8.trans s9).keep hu7) h9 (by rw [isRow_len hrow, List.length_replicate]; omega) fun H10 v10 s10 h10 => ?_
      have s710 := (s8.trans s9).trans s10
      refine ⟨dr, .dK kvs, v10, _, rs, p, rfl, s710 _ _ hdr7, ⟨kvs, rfl, kvR_mono (fun _ _ h => s710 _ _ h) hkv7⟩, S.nd, h10, p0, pm, hrin, by omega, by omega, fun z hz => by have := S.ok z hz; exact ⟨by omega, by omega⟩, fun H11 v11 s11 h11 => ?_⟩
      have s711 := s710.trans s11
      have hfo11 := s711 _ _ hfo7
      have cl := clr_len p rs (row ++ List.replicate rws.length 0)
      dsimp only [gName, tSeq]
      have fin : ∀ (H' : Hp) (v : V), Same H8 H' → ((v = .non ∧ ¬ Spn p (inRows rws) (vec row)) ∨ (Spn p (inRows rws) (vec row) ∧ ∃ l, rRow H' v l ∧ IsMix p wd rws row l)) → Same H (upd H' fo (.lst ([] ++ [v]))) ∧ ((0 + 1 ≠ 0) → ∃ v', (upd H' fo (.lst ([] ++ [v]))) fo = some (.lst [v']) ∧ ((v' = .non ∧ ¬ Spn p (inRows rws) (vec row)) ∨ (Spn p (inRows rws) (vec row) ∧ ∃ l, rRow (upd H' fo (.lst ([] ++ [v]))) v' l ∧ IsMix p wd rws row l))) := by
        intro H' v s' hres
        have hfo' := s' _ _ hfo7
        refine ⟨same_own (s7.trans s') nfo0, fun _ => ⟨v, upd_same, ?_⟩⟩
        rcases hres with h | ⟨h1, l, h2, h3⟩
        · exact .inl h
        · exact .inr ⟨h1, l, mono_row _ _ _ _ (keep_lst hfo') h2, h3⟩
      refine ⟨_, rfl, _, rfl, v11, _, wd, rfl, h11, by omega, by omega, fun hz => ?_, fun k hk hk0 hz => ?_⟩
      · dsimp only [gName, tSeq]
        rw [decide_eq_true rfl]
        obtain ⟨sp, mix⟩ := mix_of p2 hrw hrow S hz
        obtain ⟨t11, rfl, ht11⟩ := h11
        refine ⟨_, rfl, .inl ⟨rfl, _, .of hfo11⟩, _, rfl, _, rfl, iteT ⟨_, rfl, _, rfl, (wd : Int), rfl, ?_⟩⟩
        dsimp only [tNoPart]
        refine slice_from ht11 (by rw [List.length_map]; omega) fun H12 t12 s12 h12 => ⟨t12, rfl, ⟨_, .of h12⟩, fun D2 hD2 => ?_⟩
        rw [← List.map_drop] at h12
        refine lc_fm (walk_tup (xs := ((clr p rs (row ++ List.replicate rws.length 0)).drop wd).map V.int)) rInt (fun i => ((clr p rs (row ++ List.replicate rws.length 0)).drop wd)[i]?.bind fun x => some (-x % p)) hD2 (fun H' s' => .of (s'.keep.tup h12)) ?_ ?_
        · rintro i x H13 H14 hi pv ⟨rfl, hx⟩
          obtain ⟨j, hj, rfl⟩ := at_int hx
          rw [List.length_map, List.length_drop] at hi
          refine ⟨rfl, _, rfl, j, rfl, _, rfl, _, _, rfl, rfl, p0, ?_⟩
          exact fm_keep mono_int pv hD2 (by omega) (Same.refl _) (by rw [hj]; rfl) rfl
        · intro H13 zs s13 hD13 hp13
          rw [List.length_map, fm_some] at hp13
          have := paired_int hp13
          subst this
          refine ⟨D2, _, rfl, .inl ⟨.of hD13, fun nt nnt => ?_⟩⟩
          have s14 := (s12.trans s13).trans (same_new (o := .tup ((((clr p rs (row ++ List.replicate rws.length 0)).drop wd).map fun x => -x % p).map V.int)) nnt)
          obtain ⟨g1, g2⟩ := fin _ (.ref nt) (s711.trans s14) (.inr ⟨sp, _, ⟨nt, rfl, upd_same⟩, mix⟩)
          refine ⟨fo, [], _, rfl, rfl, s14 _ _ hfo11, by show 0 < sizeLine; decide, ?_⟩
          exact ⟨g1, ⟨_, _, _, rfl⟩, fun h => absurd h (by omega), g2⟩
      · dsimp only [gName, tSeq]
        rw [decide_eq_false (fun e => nomatch e)]
        have no := mix_no prm hrw hrow S hk hk0 hz
        obtain ⟨g1, g2⟩ := fin _ .non s711 (.inl ⟨rfl, no⟩)
        refine ⟨_, rfl, .inl ⟨rfl, _, .of hfo11⟩, _, rfl, _, rfl, iteF ⟨fo, [], _, rfl, rfl, hfo11, by show 0 < sizeLine; decide, ?_⟩⟩
        exact ⟨g1, ⟨_, _, _, rfl⟩, fun h => absurd h (by omega), g2⟩
    · rintro σ H7 ⟨s7, ⟨x5, x8, x9, rfl⟩, _, h1⟩
      obtain ⟨v, hfo, hres⟩ := h1 (by show (1 : Nat) ≠ 0; decide)
      exact ⟨_, rfl, q _ fo v s7 hfo hres⟩
def spMixture (K : PySem.W.Frag) : Sp := fun vs H Q _ => ∃ (a : Addr) (p : Int) (wd : Nat) (xs : List V) (rws : List (List Int)) (u : V) (row : List Int), vs = [.int p, .int (wd : Int), .ref a, u] ∧ SqS K H a xs ∧ Paired (rRow H) xs rws ∧ rws.length ≤ 200 ∧ NoDiv p ∧ wd ≤ 200 ∧ (∀ r ∈ rws, isRow r p wd) ∧
  rRow H u row ∧ isRow row p wd ∧ ∀ H' v, Same H H' → ((v = .non ∧ ¬ Spn p (inRows rws) (vec row)) ∨ (Spn p (inRows rws) (vec row) ∧ ∃ l, rRow H' v l ∧ IsMix p wd rws row l)) → Q v H'
theorem ok_mixture (T : Tx K mg cT cS) {f : Addr} {fd : FuncData} (d : D K mg "mixture" s_mixture ["p", "wide", "rows", "row"] f fd) : FnOk P w K mg base CX0 6 f fd ["p", "wide", "rows", "row"] (spMixture K) := by
  obtain ⟨f1, fd1, d1⟩ := T.d_check_rows
  have G1 : FnOk P w K mg base CX0 5 f1 fd1 ["p", "wide", "rows"] (spRowsC K) := ok_check_rows T d1
  obtain ⟨f2, fd2, d2⟩ := T.d_check_row
  have G2 : FnOk P w K mg base CX0 4 f2 fd2 ["p", "wide", "row"] spCheckRow := ok_check_row T d2
  obtain ⟨f3, fd3, d3⟩ := T.d_mixtures
  have G3 : FnOk P w K mg base CX0 3 f3 fd3 ["p", "wide", "rows", "made"] (spMixs K) := ok_mixs T d3
  refine d.F.ok sc_mixture (fun vs H Q E h => ?_) (fun cdv A outer s H vs Q E hr h => ?_)
  · obtain ⟨a, p, wd, xs, rws, u, row, rfl, _⟩ := h
    rfl
  · obtain ⟨a, p, wd, xs, rws, u, row, rfl, hS, hp, hl, nd, hwd, hrw, hu, hrow, q⟩ := h
    refine ⟨_, pss_cons (ps_expr (pe_call G1 hr rfl d1.m d1.F.kp d1.b .nil pass0 (pa_cons (pv 0) (pa_cons (pv 1) (pa_cons (pv 2) pa_nil)))))
      (pss_cons (ps_expr (pe_call G2 (hr.mono (by decide)) rfl d2.m d2.F.kp d2.b .nil pass0 (pa_cons (pv 0) (pa_cons (pv 1) (pa_cons (pv 3) pa_nil)))))
      (pss_one (ps_ret (pe_ix ix_list (pe_call G3 (hr.mono (by decide)) rfl d3.m d3.F.kp d3.b .nil pass0 (pa_cons (pv 0) (pa_cons (pv 1) (pa_cons (pv 2) (pa_cons (pe_lst (pa_cons (pv 3) pa_nil)) pa_nil))))) pe_int (fun _ _ => rfl))))), ?_⟩
    refine ⟨_, rfl, _, rfl, _, rfl, a, p, wd, xs, rws, rfl, hS, hp, hl, nd, hwd, hrw, fun H2 s2 => ?_⟩
    refine ⟨_, rfl, _, rfl, _, rfl, u, row, p, wd, rfl, mono_row _ _ _ _ s2.keep hu, by have := isRow_len hrow; omega, hrow, fun H3 s3 => ?_⟩
    have s23 := s2.trans s3
    refine ⟨_, rfl, _, rfl, _, rfl, _, rfl, by show 1 ≤ sizeLine; decide, fun b nb => ?_⟩
    have s4 := s23.trans (same_new (o := .lst [u]) nb)
    refine ⟨a, b, p, wd, xs, rws, u, row, rfl, hS.same s4, paired_mono mono_row s4.keep hp, by omega, nd.prm, nd.2.1, by omega, hrw, upd_same, mono_row _ _ _ _ s4.keep hu, hrow, fun H5 c v s5 hc hres => ?_⟩
    exact ⟨c, [v], _, _, rfl, rfl, .of hc, at_of (j := 0) rfl rfl, q H5 v (s4.trans s5) hres⟩
end
end S4

namespace S4
open PySem L2 TT MM
theorem ixN_nat {n j : Nat} (h : j < n) : ixN n (j : Int) = some j := by
  unfold ixN
  rw [if_pos (by omega), if_pos (by omega), Int.toNat_natCast]
theorem paired_set {α β : Type} {F : α → β → Prop} : ∀ {xs : List α} {l : List β} (k : Nat) {x : α} {y : β}, Paired F xs l → F x y → Paired F (xs.set k x) (l.set k y)
  | _, _, _, _, _, .nil, _ => .nil
  | _, _, 0, _, _, .cons r t, h => .cons h t
  | _, _, k + 1, _, _, .cons r t, h => .cons r (paired_set k t h)
/-! ### partings -/
def dotW (wd : Nat) (y : List Int) (v : Vc) : Int := sumP (List.range wd) fun x => y.getD x 0 * v x
section
variable {p : Int} {wd : Nat} {y : List Int}
theorem dot_spn {R : Vc → Prop} (h : ∀ r, R r → Cg p (dotW wd y r) 0) {v : Vc} (hv : Spn p R v) : Cg p (dotW wd y v) 0 := by
  induction hv with
  | @zero v h0 =>
    refine sumP_zero fun x _ => ?_
    have := (Cg.refl (p := p) (y.getD x 0)).mul (h0 x)
    rwa [Int.mul_zero] at this
  | @add u r v c hu hr h0 ih =>
    have h1 : Cg p (dotW wd y v) (sumP (List.range wd) fun x => y.getD x 0 * u x + c * (y.getD x 0 * r x)) := sumP_cg fun x _ => by
      refine ((Cg.refl (p := p) (y.getD x 0)).mul (h0 x)).trans (.of_eq ?_)
      rw [Int.mul_add, ← Int.mul_assoc, ← Int.mul_assoc, Int.mul_comm c]
    rw [sumP_add, sumP_mul] at h1
    have h2 := ih.add ((Cg.refl c).mul (h r hr))
    rw [Int.mul_zero, Int.add_zero] at h2
    exact h1.trans h2
theorem dot_sub (u v : Vc) : dotW wd y (fun x => u x - v x) = dotW wd y u - dotW wd y v := by
  unfold dotW
  have : ∀ P : List Nat, sumP P (fun x => y.getD x 0 * (u x - v x)) = sumP P (fun x => y.getD x 0 * u x) - sumP P (fun x => y.getD x 0 * v x) := by
    intro P
    induction P with
    | nil => rfl
    | cons i P ih => rw [sumP_cons, sumP_cons, sumP_cons, ih, Int.mul_sub]; omega
  exact this _
/-- the parts, as far as some rungs have been looked at -/
def partL (p : Int) (wd : Nat) (k : Nat) (fac : Int) (rs : RG) (D : List Nat) : List Int := (List.range wd).map fun x => if x = k then fac else if x ∈ D then (-fac * (rowOf rs x).getD k 0) % p else 0
theorem partL_at {k : Nat} {fac : Int} {rs : RG} {D : List Nat} (x : Nat) : (partL p wd k fac rs D).getD x 0 = if x < wd then (if x = k then fac else if x ∈ D then (-fac * (rowOf rs x).getD k 0) % p else 0) else 0 := getD_range
theorem partL_len {k : Nat} {fac : Int} {rs : RG} {D : List Nat} : (partL p wd k fac rs D).length = wd := by unfold partL; rw [List.length_map, List.length_range]
theorem partL_set {k : Nat} {fac : Int} {rs : RG} {D : List Nat} {j : Nat} (hj : j < wd) (hk : j ≠ k) : (partL p wd k fac rs D).set j ((-fac * (rowOf rs j).getD k 0) % p) = partL p wd k fac rs (D ++ [j]) := by
  apply List.ext_getElem?
  intro x
  by_cases hx : x < wd
  · by_cases e : j = x
    · subst e
      rw [List.getElem?_set_self (by rw [partL_len]; exact hj)]
      unfold partL
      rw [List.getElem?_map, List.getElem?_range hx]
      show some _ = some (if j = k then fac else if j ∈ D ++ [j] then (-fac * (rowOf rs j).getD k 0) % p else 0)
      rw [if_neg hk, if_pos (by simp)]
    · rw [List.getElem?_set_ne e]
      unfold partL
      rw [List.getElem?_map, List.getElem?_map, List.getElem?_range hx]
      show some (if x = k then fac else if x ∈ D then (-fac * (rowOf rs x).getD k 0) % p else 0) = some (if x = k then fac else if x ∈ D ++ [j] then (-fac * (rowOf rs x).getD k 0) % p else 0)
      have : x ∈ D ++ [j] ↔ x ∈ D := by
        rw [List.mem_append, List.mem_singleton]
        exact ⟨fun h => h.elim id fun q => absurd q.symm e, .inl⟩
      simp only [this]
  · rw [List.getElem?_eq_none (by rw [List.length_set, partL_len]; omega), List.getElem?_eq_none (by rw [partL_len]; omega)]
/-- it parts the row from the rows -/
theorem part_ok (p2 : 2 ≤ p) {rs : RG} {rows : List (List Int)} {row : List Int} (S : St1 p wd rs rows) (hl : row.length = wd) (hin : InB p row) {k : Nat} {fac : Int} (hk : k < wd) (f0 : 0 ≤ fac ∧ fac < p) (kP : k ∉ rs.map (·.1)) (hu : Cg p (fac * (clr p rs row).getD k 0) 1) :
    isRow (partL p wd k fac rs (rs.map (·.1))) p wd ∧ (∀ l ∈ rows, Cg p (dotW wd (partL p wd k fac rs (rs.map (·.1))) (vec l)) 0) ∧ Cg p (dotW wd (partL p wd k fac rs (rs.map (·.1))) (vec row)) 1 := by
  obtain ⟨a, c⟩ := S.clear hl
  have nd := S.lad.nd
  have rungs0 : ∀ r, rungs (rs.map (·.1)) (rv rs) r → Cg p (dotW wd (partL p wd k fac rs (rs.map (·.1))) r) 0 := by
    rintro r ⟨i, hi, rfl⟩
    have hiw : i < wd := by
      obtain ⟨z, hz, rfl⟩ := List.mem_map.mp hi
      exact (S.ok z hz).1
    have hik : i ≠ k := fun e => kP (e ▸ hi)
    -- only the places i and k count
    have h1 : Cg p (dotW wd (partL p wd k fac rs (rs.map (·.1))) (rv rs i)) (sumP (List.range wd) fun x => (if x = k then fac * rv rs i k else 0) + if x = i then -fac * rv rs i k else 0) := by
      refine sumP_cg fun x hx => ?_
      have hx := List.mem_range.mp hx
      rw [partL_at, if_pos hx]
      by_cases e : x = k
      · subst e
        rw [if_pos rfl, if_pos rfl, if_neg (fun q => hik q.symm), Int.add_zero]
        exact .refl _
      · rw [if_neg e, if_neg e, Int.zero_add]
        by_cases hm : x ∈ rs.map (·.1)
        · rw [if_pos hm]
          by_cases ei : x = i
          · subst ei
            rw [if_pos rfl]
            have := (Cg.mod (p := p) (-fac * (rowOf rs x).getD k 0)).mul (S.lad.one x hi)
            rw [Int.mul_one] at this
            exact this
          · rw [if_neg ei]
            have := (Cg.refl (p := p) ((-fac * (rowOf rs x).getD k 0) % p)).mul (S.lad.off i hi x hm ei)
            rwa [Int.mul_zero] at this
        · rw [if_neg hm, Int.zero_mul, if_neg (fun q : x = i => hm (by rw [q]; exact hi))]
          exact .refl 0
    rw [sumP_add] at h1
    have h2 : Cg p (sumP (List.range wd) fun x => if x = k then fac * rv rs i k else 0) (fac * rv rs i k) := by
      refine (sumP_one (k := k) List.nodup_range (List.mem_range.mpr hk) fun j _ e => by rw [if_neg e]; exact .refl 0).trans ?_
      rw [if_pos rfl]; exact .refl _
    have h3 : Cg p (sumP (List.range wd) fun x => if x = i then -fac * rv rs i k else 0) (-fac * rv rs i k) := by
      refine (sumP_one (k := i) List.nodup_range (List.mem_range.mpr hiw) fun j _ e => by rw [if_neg e]; exact .refl 0).trans ?_
      rw [if_pos rfl]; exact .refl _
    refine h1.trans ((h2.add h3).trans (.of_eq ?_))
    rw [Int.neg_mul]
    omega
  have room0 : ∀ v, Spn p (rungs (rs.map (·.1)) (rv rs)) v → Cg p (dotW wd (partL p wd k fac rs (rs.map (·.1))) v) 0 := fun v hv => dot_spn rungs0 hv
  refine ⟨⟨by rw [partL_len], fun v hv => ?_⟩, fun l hl2 => room0 _ ((S.room _).mpr (.row ⟨l, hl2, rfl⟩)), ?_⟩
  · unfold partL at hv
    obtain ⟨x, _, rfl⟩ := List.mem_map.mp hv
    split
    · exact f0
    · split
      · exact mod_b (by omega)
      · omega
  · have h1 := room0 _ a
    rw [dot_sub] at h1
    have h2 : Cg p (dotW wd (partL p wd k fac rs (rs.map (·.1))) (vec (clr p rs row))) 1 := by
      refine (sumP_one (k := k) List.nodup_range (List.mem_range.mpr hk) fun x hx e => ?_).trans ?_
      · have hx := List.mem_range.mp hx
        rw [partL_at, if_pos hx, if_neg e]
        by_cases hm : x ∈ rs.map (·.1)
        · have := (Cg.refl (p := p) (if x ∈ rs.map (·.1) then (-fac * (rowOf rs x).getD k 0) % p else 0)).mul (c x hm)
          rwa [Int.mul_zero] at this
        · rw [if_neg hm, Int.zero_mul]; exact .refl 0
      · rw [partL_at, if_pos hk, if_pos rfl]
        exact hu
    have h3 := h1.add h2
    refine ((Cg.of_eq ?_).trans h3).trans (.of_eq (by omega))
    omega
end
/-- rows as long as wide -/
theorem St1W.st1 {p : Int} {wd : Nat} {rs : RG} {rows : List (List Int)} (S : St1W p wd wd rs rows) (hr : ∀ r ∈ rows, r.length = wd) : St1 p wd rs rows := by
  have e1 : tr wd rs = rs := by
    unfold tr
    conv => rhs; rw [← List.map_id rs]
    refine List.map_congr_left fun z hz => ?_
    show (z.1, z.2.take wd) = z
    rw [List.take_of_length_le (by have := (S.ok z hz).2.1; omega)]
  have e2 : rows.map (List.take wd) = rows := by
    conv => rhs; rw [← List.map_id rows]
    exact List.map_congr_left fun z hz => List.take_of_length_le (by have := hr z hz; omega)
  have := S.st
  rwa [e1, e2] at this
section
variable {P : Program} {w : World} {K : PySem.W.Frag} {mg : Str → Option Value} {base : Heap} {cT cS : Addr}
def spParting (K : PySem.W.Frag) : Sp := fun vs H Q _ => ∃ (a : Addr) (p : Int) (wd : Nat) (xs : List V) (rws : List (List Int)) (u : V) (row : List Int), vs = [.int p, .int (wd : Int), .ref a, u] ∧ SqS K H a xs ∧ Paired (rRow H) xs rws ∧ rws.length ≤ 200 ∧ NoDiv p ∧ wd ≤ 200 ∧ (∀ r ∈ rws, isRow r p wd) ∧
  rRow H u row ∧ isRow row p wd ∧ ∀ H' v, Same H H' → ((v = .non ∧ Spn p (inRows rws) (vec row)) ∨ (¬ Spn p (inRows rws) (vec row) ∧ ∃ l, rRow H' v l ∧ isRow l p wd ∧ (∀ r ∈ rws, Cg p (dotW wd l (vec r)) 0) ∧ Cg p (dotW wd l (vec row)) 1)) → Q v H'
theorem ok_parting (T : Tx K mg cT cS) {f : Addr} {fd : FuncData} (d : D K mg "parting" s_parting ["p", "wide", "rows", "row"] f fd) : FnOk P w K mg base CX0 6 f fd ["p", "wide", "rows", "row"] (spParting K) := by
  obtain ⟨f1, fd1, d1⟩ := T.d_check_rows
  have G1 : FnOk P w K mg base CX0 5 f1 fd1 ["p", "wide", "rows"] (spRowsC K) := ok_check_rows T d1
  obtain ⟨f2, fd2, d2⟩ := T.d_check_row
  have G2 : FnOk P w K mg base CX0 4 f2 fd2 ["p", "wide", "row"] spCheckRow := ok_check_row T d2
  obtain ⟨f3, fd3, d3⟩ := T.d_rungs_of
  have G3 : FnOk P w K mg base CX0 2 f3 fd3 ["p", "wide", "rows"] (spRungsW (K := K)) := ok_rungsW T d3
  obtain ⟨f4, fd4, d4⟩ := T.d_cleared
  have G4 : FnOk P w K mg base CX0 1 f4 fd4 ["p", "rungs", "row"] spCleared := ok_cleared T d4
  obtain ⟨f5, fd5, d5⟩ := T.d_first_place
  have G5 : FnOk P w K mg base CX0 1 f5 fd5 ["row", "wide"] spFirst := ok_first T d5
  obtain ⟨f6, fd6, d6⟩ := T.d_inverse
  have G6 : FnOk P w K mg base CX0 1 f6 fd6 ["p", "value"] spInverse := ok_inverse T d6
  refine d.F.ok sc_parting (fun vs H Q E h => ?_) (fun cdv A outer s H vs Q E hr h => ?_)
  · obtain ⟨a, p, wd, xs, rws, u, row, rfl, _⟩ := h
    rfl
  · obtain ⟨a, p, wd, xs, rws, u, row, rfl, hS, hp, hl, nd, hwd, hrw, hu, hrow, q⟩ := h
    have prm := nd.prm
    have p2 := prm.1
    have p0 : 0 < p := by omega
    have pm := nd.2.1
    refine ⟨_, pss_cons (ps_expr (pe_call G1 hr rfl d1.m d1.F.kp d1.b .nil pass0 (pa_cons (pv 0) (pa_cons (pv 1) (pa_cons (pv 2) pa_nil)))))
      (pss_cons (ps_expr (pe_call G2 (hr.mono (by decide)) rfl d2.m d2.F.kp d2.b .nil pass0 (pa_cons (pv 0) (pa_cons (pv 1) (pa_cons (pv 3) pa_nil)))))
      (pss_cons (ps_set (i := 4) sc_parting.nd rfl (.inl rfl) (pe_ix ix_tup (pe_call G3 (hr.mono (by decide)) rfl d3.m d3.F.kp d3.b .nil pass0 (pa_cons (pv 0) (pa_cons (pv 1) (pa_cons (pv 2) pa_nil)))) pe_int (fun _ _ => rfl)))
      (pss_cons (ps_set (i := 5) sc_parting.nd rfl (.inl rfl) (pe_call G4 (hr.mono (by decide)) rfl d4.m d4.F.kp d4.b .nil pass0 (pa_cons (pv 0) (pa_cons (pv 4) (pa_cons (pv 3) pa_nil)))))
      (pss_cons (ps_set (i := 6) sc_parting.nd rfl (.inl rfl) (pe_call G5 (hr.mono (by decide)) rfl d5.m d5.F.kp d5.b .nil pass0 (pa_cons (pv 5) (pa_cons (pv 1) pa_nil))))
      (pss_cons (ps_if (pt_cmp (pc_isN (pv 6))) (pss_one (ps_ret pe_non)) pss_nil)
      (pss_cons (ps_set (i := 7) sc_parting.nd rfl (.inl rfl) (pe_call G6 (hr.mono (by decide)) rfl d6.m d6.F.kp d6.b .nil pass0 (pa_cons (pv 0) (pa_cons (pe_ix ix_tup (pv 5) (pv 6) (fun _ _ => rfl)) pa_nil))))
      (pss_cons (ps_set (i := 8) sc_parting.nd rfl (.inl rfl) (pe_op op_rep (pe_lst (pa_cons pe_int pa_nil)) (pv 1)))
      (pss_cons (ps_asg (pv 7) (pg_sub (pv 8) (pv 6) set_list))
      (pss_cons (ps_lock (ps_for PassesOwn.never rfl (pi_keys (pv 4)) (pg_name (i := 9) sc_parting.nd rfl (Or.inl rfl))
        (pss_one (ps_asg (pe_op op_mod (pe_op op_mul (pe_un un_neg (pv 7)) (pe_ix ix_tup (pe_dget (hu_of hr) (pv 4) (pv 9) (fun _ _ => rfl)) (pv 6) (fun _ _ => rfl))) (pv 0)) (pg_sub (pv 8) (pv 9) set_list)))))
      (pss_one (ps_ret (pe_callTy call_tuple_of (by rfl) T.b_tuple (by decide +kernel) (pa_cons (pv 8) pa_nil))))))))))))), ?_⟩
    refine ⟨_, rfl, _, rfl, _, rfl, a, p, wd, xs, rws, rfl, hS, hp, hl, nd, hwd, hrw, fun H2 s2 => ?_⟩
    have hrl := isRow_len hrow
    refine ⟨_, rfl, _, rfl, _, rfl, u, row, p, wd, rfl, mono_row _ _ _ _ s2.keep hu, by omega, hrow, fun H3 s3 => ?_⟩
    have s23 := s2.trans s3
    refine ⟨_, rfl, _, rfl, _, rfl, a, p, wd, wd, xs, rws, rfl, hS.same s23, paired_mono mono_row s23.keep hp, by omega, prm, pm, Nat.le_refl _, by omega, hrw, fun H4 t dr nw rs s4 ht hdr hnw ⟨kvs, hk1, hk2⟩ _ SW cnt => ⟨t, _, _, _, rfl, rfl, .of ht, at_of (j := 0) rfl rfl, ?_⟩⟩
    have S := SW.st1 fun r h => isRow_len (hrw r h)
    have s24 := s23.trans s4
    have hdr0 := s23.free hdr
    dsimp only [gName, tSeq]
    have hSl := S.len
    have hkl := paired_len hk2
    refine ⟨_, rfl, _, rfl, _, rfl, dr, .dK kvs, u, row, rs, p, rfl, hk1, ⟨kvs, rfl, hk2⟩, S.lad.nd, mono_row _ _ _ _ s24.keep hu, p0, pm, hrow.2, by omega, by omega, fun z hz => by have := S.ok z hz; exact ⟨by omega, by omega⟩, fun H5 v5 s5 h5 => ?_⟩
    have s25 := s24.trans s5
    have cl := clr_len p rs row
    dsimp only [gName, tSeq]
    obtain ⟨ca, cc⟩ := S.clear hrl
    refine ⟨_, rfl, _, rfl, v5, _, wd, rfl, h5, by omega, by omega, fun hz => ?_, fun k hk h0 hz => ?_⟩
    · dsimp only [gName, tSeq]
      refine ⟨_, rfl, _, rfl, ?_⟩
      rw [decide_eq_true rfl]
      refine iteT (q _ .non s25 (.inl ⟨rfl, (S.room _).mp (ca.cg fun x => ?_)⟩))
      have e : vec (clr p rs row) x = 0 := by
        by_cases hx : x < wd
        · exact hz x hx
        · exact vec_over (by omega)
      rw [e, Int.sub_zero]
      exact .refl _
    · dsimp only [gName, tSeq]
      refine ⟨_, rfl, _, rfl, ?_⟩
      rw [decide_eq_false (fun e => nomatch e)]
      refine iteF ?_
      have hri := clr_in p0 rs hrow.2
      have hb := getD_in p0 hri k
      have hkq : (clr p rs row)[k]? = some ((clr p rs row)[k]'(by omega)) := List.getElem?_eq_getElem (by omega)
      have hkg := getD_at (d := (0 : Int)) hkq
      have kP : k ∉ rs.map (·.1) := fun q => h0 ((cc k q).zero_of hb.1 hb.2)
      obtain ⟨t5, rfl, ht5⟩ := h5
      refine ⟨_, rfl, _, rfl, _, rfl, t5, _, _, _, rfl, rfl, .of ht5, atI_nat (int_at hkq), ?_⟩
      rw [← hkg]
      refine ⟨p, _, rfl, pm, by omega, by omega, prm.gcd (by omega) (by omega), fun fac f0 f1 hfac H6 s6 => ?_⟩
      dsimp only [gName, tSeq]
      refine ⟨by show 1 ≤ sizeLine; decide, fun l0 nl0 => ⟨_, rfl, l0, (wd : Int), _, rfl, rfl, upd_same, by omega, by omega, Nat.le_trans (by rw [List.length_singleton, Int.toNat_natCast]; omega : _ ≤ 200) (by decide), fun pl npl => ?_⟩⟩
      have s7 := same_new (o := .lst [V.int 0]) nl0
      have s8 := same_new (o := .lst (List.replicate ((wd : Int)).toNat [V.int 0]).flatten) npl
      have s28 := ((s25.trans s6).trans s7).trans s8
      have s58 := (s6.trans s7).trans s8
      have npl0 := ((s25.trans s6).trans s7).free npl
      have hdr8 := s58 _ _ (s5 _ _ hk1)
      have hkv8 := kvR_mono (fun _ _ h => s58 _ _ (s5 _ _ h)) hk2
      have hpd : pl ≠ dr := fun e => by subst e; rw [(s6.trans s7) _ _ (s5 _ _ hk1)] at npl; cases npl
      dsimp only [gName, tSeq]
      refine ⟨_, rfl, _, rfl, _, rfl, pl, _, _, k, rfl, rfl, upd_same, ?_, ?_⟩
      · rw [Int.toNat_natCast, rep_row H wd, List.length_map, List.length_replicate]
        exact ixN_nat hk
      rw [upd_upd, Int.toNat_natCast]
      have e0 : ((List.replicate wd [V.int 0]).flatten).set k (V.int fac) = (partL p wd k fac rs []).map V.int := by
        rw [rep_row H wd, ← List.map_set]
        congr 1
        apply List.ext_getElem?
        intro x
        by_cases hx : x < wd
        · unfold partL
          rw [List.getElem?_map, List.getElem?_range hx]
          by_cases e : k = x
          · subst e
            rw [List.getElem?_set_self (by rw [List.length_replicate]; exact hk)]
            show some fac = some (if k = k then fac else _)
            rw [if_pos rfl]
          · rw [List.getElem?_set_ne e, List.getElem?_replicate, if_pos hx]
            show some (0 : Int) = some (if x = k then fac else if x ∈ ([] : List Nat) then _ else 0)
            rw [if_neg (fun q => e q.symm), if_neg (by simp)]
        · rw [List.getElem?_eq_none (by rw [List.length_set, List.length_replicate]; omega), List.getElem?_eq_none (by rw [partL_len]; omega)]
      rw [e0]
      refine ⟨dr, .dK kvs, by rw [upd_ne hpd.symm]; exact (s6.trans s7) _ _ (s5 _ _ hk1), trivial, fun od => ?_⟩
      refine ⟨_, rfl, dr, od, rfl, .inl ⟨kvs, upd_same, ?_⟩⟩
      have sA := same_own (o := .lst ((partL p wd k fac rs []).map V.int)) ((s25.trans s6).trans s7) npl0
      have sB := same_own (o := .frz od (.dK kvs)) sA hdr0
      have rowsB : ∀ (t : Addr) (ys : List V), H5 t = some (.tup ys) → (upd (upd (upd H6 l0 (.lst [V.int 0])) pl (.lst ((partL p wd k fac rs []).map V.int))) dr (.frz od (.dK kvs))) t = some (.tup ys) := fun t ys h => by
        have h7 := (s6.trans s7) _ _ h
        rw [upd_ne (ne_of h (s5 _ _ hk1) (fun z => nomatch z)), upd_ne (fun e => by subst e; rw [h7] at npl; cases npl)]
        exact h7
      have hkB := kvR_mono (fun t ys h => rowsB t ys (s5 _ _ h)) hk2
      refine for_it (walk_keys (kvs := kvs)) (fun j σ H' => Same H H' ∧ (∃ x9, σ = [some (.int p), some (.int (wd : Int)), some (.ref a), some u, some (.ref dr), some (.ref t5), some (.int (k : Nat)), some (.int fac), some (.ref pl), x9]) ∧ H' dr = some (.frz od (.dK kvs)) ∧ H' pl = some (.lst ((partL p wd k fac rs ((rs.take j).map (·.1))).map V.int)) ∧ Paired (kvR H') kvs rs)
        ⟨sB, ⟨none, rfl⟩, upd_same, by rw [upd_ne hpd, List.take_zero]; exact upd_same, hkB⟩ (fun j σ H' _ h => h.2.2.1) ?_ ?_
      · rintro j x σ H9 H10 hj ⟨s9, ⟨x9, rfl⟩, hfr, hpl, hkv⟩ ⟨rfl, key, vv, hkvj, rfl⟩
        obtain ⟨z, hz1, e1, hr1⟩ := paired_get hkv hkvj
        simp only at e1 hr1
        subst e1
        have zm := List.mem_of_getElem? hz1
        obtain ⟨z1, z2, z3⟩ := S.ok z zm
        obtain ⟨t2, rfl, ht2⟩ := hr1
        have hval := val_at hkv S.lad.nd hkvj
        have hzk : z.2[k]? = some (z.2[k]'(by omega)) := List.getElem?_eq_getElem (by omega)
        have hzg := getD_at (d := (0 : Int)) hzk
        have zne : z.1 ≠ k := fun e => kP (by rw [← e]; exact List.mem_map.mpr ⟨z, zm, rfl⟩)
        refine ⟨_, rfl, fac, rfl, _, rfl, _, rfl, dr, _, rfl, .inl ⟨kvs, _, .inr ⟨od, hfr⟩, rfl, hval.symm⟩, _, rfl, t2, _, _, _, rfl, rfl, .of ht2, atI_nat (int_at hzk), ?_⟩
        refine ⟨_, _, rfl, rfl, .inl ⟨by omega, by omega⟩, _, rfl, _, _, rfl, rfl, p0, ?_⟩
        refine ⟨_, rfl, _, rfl, pl, _, _, z.1, rfl, rfl, hpl, ?_, ?_⟩
        · rw [List.length_map, partL_len]
          exact ixN_nat z1
        have et2 : (rs.take (j + 1)).map (·.1) = (rs.take j).map (·.1) ++ [z.1] := by rw [List.take_succ, hz1, List.map_append]; rfl
        have eset : ((partL p wd k fac rs ((rs.take j).map (·.1))).map V.int).set z.1 (V.int (-fac * z.2[k]'(by omega) % p)) = (partL p wd k fac rs ((rs.take (j + 1)).map (·.1))).map V.int := by
          rw [← List.map_set, et2, ← partL_set z1 zne, rowOf_mem S.lad.nd zm, hzg]
        rw [eset]
        refine ⟨same_own s9 npl0, ⟨_, rfl⟩, by rw [upd_ne hpd.symm]; exact hfr, upd_same, kvR_mono (fun t ys h => by rw [upd_ne (ne_of h hpl (fun z => nomatch z))]; exact h) hkv⟩
      · rintro σ H9 ⟨s9, ⟨x9, rfl⟩, hfr, hpl, hkv⟩
        rw [hkl, List.take_length] at hpl
        obtain ⟨o1, o2, o3⟩ := part_ok p2 S hrl hrow.2 hk ⟨f0, f1⟩ kP hfac
        refine ⟨hfr, _, rfl, pl, _, rfl, .inl ⟨.of (by rw [upd_ne hpd]; exact hpl), fun nt nnt => ?_⟩⟩
        have sC := same_own (o := .dK kvs) s9 hdr0
        refine q _ _ (sC.trans (same_new nnt)) (.inr ⟨fun hsp => ?_, _, ⟨nt, rfl, upd_same⟩, o1, o2, o3⟩)
        have := dot_spn (p := p) (y := partL p wd k fac rs (rs.map (·.1))) (wd := wd) (R := inRows rws) (fun r ⟨l, hl, e⟩ => by rw [e]; exact o2 l hl) hsp
        exact one_ne p2 o3 this
end
end S4

namespace S4
open PySem L2 TT MM
theorem sq_kit {K : PySem.W.Frag} {H : Hp} {a : Addr} {xs : List V} (h : SqS K H a xs) : ∃ t, TyX K H (.ref a) t ∧ PySem.W.kitAny K t [.type "list", .type "tuple"] = some true := h.elim (fun h => ⟨_, .base (.lst h), kitB_l⟩) fun h => ⟨_, .base (.tup h), kitB_t⟩
section
variable {P : Program} {w : World} {K : PySem.W.Frag} {mg : Str → Option Value} {base : Heap} {cT cS : Addr}
def spSquare (K : PySem.W.Frag) : Sp := fun vs H Q _ => ∃ (a : Addr) (p : Int) (wd : Nat) (xs : List V) (rws : List (List Int)), vs = [.int p, .int (wd : Int), .ref a] ∧ SqS K H a xs ∧ Paired (rRow H) xs rws ∧ rws.length ≤ 200 ∧ NoDiv p ∧ wd ≤ 200 ∧ (wd < 64 ∨ rws.length < 64) ∧ (∀ r ∈ rws, isRow r p wd) ∧
  ∀ H' t t1 t2 rs ys, Same H H' → H' t = some (.tup [.ref t1, .ref t2]) → H' t1 = some (.tup ((nwL p wd rws rws.length).map fun k => V.int (k : Nat))) → H' t2 = some (.tup (ys.map V.int)) → St1 p wd rs rws → ys.Perm (keysI rs) → Up ys → Q (.ref t) H'
theorem ok_square (T : Tx K mg cT cS) {f : Addr} {fd : FuncData} (d : D K mg "square" s_square ["p", "wide", "rows"] f fd) : FnOk P w K mg base CX0 6 f fd ["p", "wide", "rows"] (spSquare K) := by
  obtain ⟨f1, fd1, d1⟩ := T.d_check_rows
  have G1 : FnOk P w K mg base CX0 5 f1 fd1 ["p", "wide", "rows"] (spRowsC K) := ok_check_rows T d1
  obtain ⟨f3, fd3, d3⟩ := T.d_rungs_of
  have G3 : FnOk P w K mg base CX0 2 f3 fd3 ["p", "wide", "rows"] (spRungsW (K := K)) := ok_rungsW T d3
  refine d.F.ok sc_square (fun vs H Q E h => ?_) (fun cdv A outer s H vs Q E hr h => ?_)
  · obtain ⟨a, p, wd, xs, rws, rfl, _⟩ := h
    rfl
  · obtain ⟨a, p, wd, xs, rws, rfl, hS, hp, hl, nd, hwd, h64, hrw, q⟩ := h
    have prm := nd.prm
    refine ⟨_, pss_cons (ps_expr (pe_call G1 hr rfl d1.m d1.F.kp d1.b .nil pass0 (pa_cons (pv 0) (pa_cons (pv 1) (pa_cons (pv 2) pa_nil)))))
      (pss_cons (ps_asg (pe_call G3 (hr.mono (by decide)) rfl d3.m d3.F.kp d3.b .nil pass0 (pa_cons (pv 0) (pa_cons (pv 1) (pa_cons (pv 2) pa_nil)))) (pg_tup rfl (pgs_cons (pg_name (i := 3) sc_square.nd rfl (.inl rfl)) (pgs_cons (pg_name (i := 4) sc_square.nd rfl (.inl rfl)) pgs_nil))))
      (pss_one (ps_ret (pe_tup (pa_cons (pe_callTy call_tuple_of (by rfl) T.b_tuple (by decide +kernel) (pa_cons (pv 4) pa_nil)) (pa_cons (pe_callTy call_tuple_of (by rfl) T.b_tuple (by decide +kernel) (pa_cons (pe_callB (call_sortedDI rfl) (by rfl) T.b_sorted (by decide +kernel) (pa_cons (pv 3) pa_nil)) pa_nil)) pa_nil)))))), ?_⟩
    refine ⟨_, rfl, _, rfl, _, rfl, a, p, wd, xs, rws, rfl, hS, hp, hl, nd, hwd, hrw, fun H2 s2 => ?_⟩
    refine ⟨_, rfl, _, rfl, _, rfl, a, p, wd, wd, xs, rws, rfl, hS.same s2, paired_mono mono_row s2.keep hp, by omega, prm, nd.2.1, Nat.le_refl _, by omega, hrw, fun H4 t dr nw rs s4 ht hdr hnw ⟨kvs, hk1, hk2⟩ hnews SW cnt => ?_⟩
    have S := SW.st1 fun r h => isRow_len (hrw r h)
    have s24 := s2.trans s4
    have hSl := S.len
    refine ⟨t, _, rfl, .of ht, rfl, _, _, rfl, _, _, rfl, rfl, ?_⟩
    refine ⟨_, rfl, nw, _, rfl, .inl ⟨.of hnews, fun t1 nt1 => ?_⟩⟩
    have s5 := same_new (o := .tup ((nwL p wd rws rws.length).map fun k => V.int (k : Nat))) nt1
    have keys : ∀ {kvs : List (L2.Key × V)} {rs : RG}, Paired (kvR H4) kvs rs → kvs.map (·.1) = (keysI rs).map Sum.inl := by
      intro kvs rs h
      induction h with
      | nil => rfl
      | @cons kv z kvs rs r t ih =>
        show kv.1 :: kvs.map (·.1) = Sum.inl ((z.1 : Nat) : Int) :: (keysI rs).map Sum.inl
        rw [ih, r.1]
    refine ⟨_, rfl, dr, kvs, keysI rs, rfl, .inl (s5 _ _ hk1), keys hk2, by rw [show (keysI rs).length = rs.length by unfold keysI; rw [List.length_map]]; omega, fun ys p2 hperm hup np => ?_⟩
    have s6 := same_new (o := .lst (ys.map V.int)) np
    refine ⟨p2, _, rfl, .inl ⟨.of upd_same, fun t2 nt2 => ?_⟩⟩
    have s7 := same_new (o := .tup (ys.map V.int)) nt2
    refine ⟨by show 2 ≤ sizeLine; decide, fun t3 nt3 => ?_⟩
    have s8 := same_new (o := .tup [V.ref t1, V.ref t2]) nt3
    exact q _ t3 t1 t2 rs ys ((((s24.trans s5).trans s6).trans s7).trans s8) upd_same (s8 _ _ (s7 _ _ (s6 _ _ upd_same))) (s8 _ _ upd_same) S hperm hup
/-! ### determinants -/
def spDet (K : PySem.W.Frag) : Sp := fun vs H Q _ => ∃ (a : Addr) (p : Int) (xs : List V) (rws : List (List Int)), vs = [.int p, .ref a] ∧ SqS K H a xs ∧ Paired (rRow H) xs rws ∧ rws.length ≤ 60 ∧ NoDiv p ∧ (∀ r ∈ rws, isRow r p (rws.length : Int)) ∧
  ∀ H' v, Same H H' → 0 ≤ v → v < p → Cg p v (det rws.length rws) → Q (.int v) H'
theorem ok_det (T : Tx K mg cT cS) {f : Addr} {fd : FuncData} (d : D K mg "determinant" s_determinant ["p", "rows"] f fd) : FnOk P w K mg base CX0 6 f fd ["p", "rows"] (spDet K) := by
  obtain ⟨f1, fd1, d1⟩ := T.d_check_clock
  have G1 : FnOk P w K mg base CX0 3 f1 fd1 ["p"] spClk := ok_check_clock T d1
  obtain ⟨f2, fd2, d2⟩ := T.d_check_each
  have G2 : FnOk P w K mg base CX0 4 f2 fd2 ["p", "wide", "rows"] (spEach K) := ok_each T d2
  obtain ⟨f3, fd3, d3⟩ := T.d_first_row
  have G3 : FnOk P w K mg base CX0 1 f3 fd3 ["rows", "place"] spFirstRow := ok_first_row T d3
  obtain ⟨f4, fd4, d4⟩ := T.d_multiplied
  have G4 : FnOk P w K mg base CX0 1 f4 fd4 ["p", "factor", "row"] spMult := ok_mult T d4
  obtain ⟨f5, fd5, d5⟩ := T.d_inverse
  have G5 : FnOk P w K mg base CX0 1 f5 fd5 ["p", "value"] spInverse := ok_inverse T d5
  obtain ⟨f6, fd6, d6⟩ := T.d_cleared
  have G6 : FnOk P w K mg base CX0 1 f6 fd6 ["p", "rungs", "row"] spCleared := ok_cleared T d6
  obtain ⟨kM, hM⟩ := T.c_MOST_SIDE
  refine d.F.ok sc_determinant (fun vs H Q E h => ?_) (fun cdv A outer s H vs Q E hr h => ?_)
  · obtain ⟨a, p, xs, rws, rfl, _⟩ := h
    rfl
  · obtain ⟨a, p, xs, rws, rfl, hS, hp, hl, nd, hrw, q⟩ := h
    have prm := nd.prm
    have p2 := prm.1
    have p0 : 0 < p := by omega
    have pm := nd.2.1
    have hlen := paired_len hp
    refine ⟨_, pss_cons (ps_expr (pe_call G1 (hr.mono (by decide)) rfl d1.m d1.F.kp d1.b .nil pass0 (pa_cons (pv 0) pa_nil)))
      (pss_cons (ps_if (PW.pt (pw_or (pt_not (pt_val (pe_callB call_isiT (by rfl) T.b_isinstance (by decide +kernel) (pa_cons (pv 1) (pa_cons (pe_tup (pa_cons (ty_list T.b_list) (pa_cons (ty_tuple T.b_tuple) pa_nil))) pa_nil)))))
        (pw_or1 (pt_cmpR op_gt (pe_callB call_len_seq (by rfl) T.b_len PySem.boot_len (pa_cons (pv 1) pa_nil)) (pe_glob (v := .int 60) rfl hM ⟨_, rfl⟩) (nomark _))))) pss_never pss_nil)
      (pss_cons (ps_expr (pe_call G2 (hr.mono (by decide)) rfl d2.m d2.F.kp d2.b .nil pass0 (pa_cons (pv 0) (pa_cons (pe_callB call_len_seq (by rfl) T.b_len PySem.boot_len (pa_cons (pv 1) pa_nil)) (pa_cons (pv 1) pa_nil)))))
      (pss_cons (ps_set (i := 2) sc_determinant.nd rfl (.inl rfl) (pe_callTy call_list_of (by rfl) T.b_list (by decide +kernel) (pa_cons (pv 1) pa_nil)))
      (pss_cons (ps_set (i := 3) sc_determinant.nd rfl (.inl rfl) pe_int)
      (pss_cons (ps_for PassesOwn.never rfl (pi_range1 rfl T.b_range (pa_cons (pe_callB call_len_seq (by rfl) T.b_len PySem.boot_len (pa_cons (pv 1) pa_nil)) pa_nil)) (pg_name (i := 4) sc_determinant.nd rfl (Or.inr rfl))
        (pss_cons (ps_set (i := 5) sc_determinant.nd rfl (.inl rfl) (pe_call G3 (hr.mono (by decide)) rfl d3.m d3.F.kp d3.b .nil pass0 (pa_cons (pv 2) (pa_cons (pv 4) pa_nil))))
        (pss_cons (ps_if (pt_cmp (pc_isN (pv 5))) (pss_one (ps_ret pe_int)) pss_nil)
        (pss_cons (ps_set (i := 6) sc_determinant.nd rfl (.inl rfl) (pe_ix ix_list (pv 2) (pv 5) (fun _ _ => rfl)))
        (C8.pss_cut (ps_set (i := 3) sc_determinant.nd rfl (.inl rfl) (pe_op op_mod (pe_op op_mul (pe_op op_mul (pv 3) (pe_ix ix_tup (pv 6) (pv 4) (fun _ _ => rfl))) (pe_ifExp (pt_truth (pe_op op_mod (pv 5) pe_int) (by intro _; rfl)) (pe_un un_neg pe_int) pe_int)) (pv 0)))
        (pss_cons (ps_set (i := 7) sc_determinant.nd rfl (.inr rfl) (pe_call G4 (hr.mono (by decide)) rfl d4.m d4.F.kp d4.b .nil pass0 (pa_cons (pv 0) (pa_cons (pe_call G5 (hr.mono (by decide)) rfl d5.m d5.F.kp d5.b .nil pass0 (pa_cons (pv 0) (pa_cons (pe_ix ix_tup (pv 6) (pv 4) (fun _ _ => rfl)) pa_nil))) (pa_cons (pv 6) pa_nil)))))
        (pss_one (ps_setLc (i := 2) (own := [("row", 8)]) (g := gName 8) (tt := tYes) rfl sc_determinant.nd rfl rfl (sw_true rfl rfl rfl rfl) (pi_list (pe_op op_cat (pe_slice sl_list (pv 2) po_none (po_some (pv 5))) (pe_slice sl_list (pv 2) (po_some (pe_op op_add (pv 5) pe_int)) po_none))) (blkOk_by (N := N_determinant) (sc := defScope s_determinant) (by decide +kernel))
            (fun _ _ _ _ _ => pg_name (i := 8) sc_determinant.nd rfl (Or.inl rfl)) (fun _ _ _ _ _ => pts_nil)
            (fun _ _ _ _ _ => pe_call G6 (hr.mono (by decide)) rfl d6.m d6.F.kp d6.b .nil pass0 (pa_cons (pv 0) (pa_cons (pe_disp (pps_cons (pv 4) (pv 7) pps_nil) (by rfl) (by rfl) (fun z => by cases z) (by decide)) (pa_cons (pv 8) pa_nil))))))))))))
      (pss_one (ps_ret (pv 3)))))))), ?_⟩
    refine ⟨_, rfl, p, rfl, nd, ?_⟩
    refine ⟨_, rfl, by show 2 ≤ sizeLine; decide, fun tt ntt => ?_⟩
    have s1 := same_new (o := .tup [V.ty "list", V.ty "tuple"]) ntt
    have hS1 := hS.same s1
    obtain ⟨ty, hty, hkit⟩ := sq_kit (K := K) hS1
    refine ⟨_, tt, _, _, _, _, rfl, upd_same, .cons (.ty _) (.cons (.ty _) .nil), hty, hkit, _, rfl, iteF ⟨_, rfl, a, xs, rfl, hS1.or, _, _, rfl, rfl, _, rfl, ?_⟩⟩
    rw [decide_eq_false (by omega)]
    refine iteF ⟨_, rfl, _, rfl, a, xs, rfl, hS1.or, _, rfl, a, p, rws.length, xs, rws, by rw [hlen]; rfl, hS1, paired_mono mono_row s1.keep hp, by omega, hrw, fun H2 s2 => ?_⟩
    have s12 := s1.trans s2
    refine ⟨_, rfl, a, xs, rfl, (hS.same s12).or, fun ll nll => ?_⟩
    have s3 := same_new (o := .lst xs) nll
    have s13 := s12.trans s3
    have nll0 := s12.free nll
    dsimp only [gName, tSeq]
    generalize hnn : rws.length = n at *
    refine ⟨_, rfl, a, xs, rfl, (hS.same s13).or, _, rfl, by omega, by omega, ?_⟩
    rw [hlen]
    refine for_it (walk_range (lo := 0) (n := ((n : Nat) : Int).toNat)) (fun c σ H' => ∃ lc lx left worth x4 x5 x6 x7, σ = [some (.int p), some (.ref a), some (.ref lc), some (.int worth), x4, x5, x6, x7, none] ∧ Same H H' ∧ H' lc = some (.lst lx) ∧ Paired (rRow H') lx left ∧ left.length + c = n ∧ (∀ l ∈ left, isRow l p n) ∧ 0 ≤ worth ∧ worth < p ∧
        Cg p (det n rws) (worth * det (n - c) (left.map (List.drop c))))
      ⟨ll, xs, rws, 1, none, none, none, none, rfl, s13, upd_same, paired_mono mono_row s13.keep hp, by omega, hrw, by omega, by omega, .of_eq (by
        have : rws.map (List.drop 0) = rws := by
          conv => rhs; rw [← List.map_id rws]
          exact List.map_congr_left fun l _ => List.drop_zero
        rw [this, Nat.sub_zero, Int.one_mul])⟩ (fun c σ H' _ h => trivial) ?_ ?_
    · rintro c x σ H4 H5 hc ⟨lc, lx, left, worth, x4, x5, x6, x7, rfl, s5, hlc, hpl, hll, hrl, w0, w1, hdet⟩ ⟨rfl, rfl⟩
      rw [Int.toNat_natCast] at hc
      have lxl := paired_len hpl
      have ex0 : (fun i : Nat => V.int (0 + (i : Int))) c = V.int (c : Int) := by show V.int (0 + (c : Int)) = _; rw [Int.zero_add]
      rw [ex0]
      refine ⟨_, rfl, _, rfl, lc, c, lx, left, rfl, hlc, hpl, fun l h => by have := isRow_len (hrl l h); omega, fun hz H6 s6 => ?_, fun k head hk h0 H6 s6 => ?_⟩
      · dsimp only [gName, tSeq]
        refine ⟨_, rfl, _, rfl, ?_⟩
        rw [decide_eq_true rfl]
        refine iteT (q _ 0 (s5.trans s6) (Int.le_refl _) p0 ?_)
        have := (Cg.refl (p := p) worth).mul (elim_none (p := p) hc hz)
        rw [Int.mul_zero] at this
        exact (hdet.trans this).symm
      · dsimp only [gName, tSeq]
        refine ⟨_, rfl, _, rfl, ?_⟩
        rw [decide_eq_false (fun e => nomatch e)]
        refine iteF ?_
        have hkl := (List.getElem?_eq_some_iff.mp hk).1
        have hir := hrl head (List.mem_of_getElem? hk)
        have hhl := isRow_len hir
        have hlc6 := s6 _ _ hlc
        have hpl6 := paired_mono mono_row s6.keep hpl
        obtain ⟨vh, hvh, th, rfl, hth⟩ := paired_get2 hpl6 hk
        have hb := getD_in p0 hir.2 c
        have hcq : head[c]? = some (head[c]'(by omega)) := List.getElem?_eq_getElem (by omega)
        have hcg := getD_at (d := (0 : Int)) hcq
        refine ⟨_, rfl, _, rfl, lc, lx, _, _, rfl, rfl, .of hlc6, atI_nat hvh, ?_⟩
        dsimp only [gName, tSeq]
        refine ⟨fun σ H' => H' = H6 ∧ σ = [some (.int p), some (.ref a), some (.ref lc), some (.int (worth * head.getD c 0 * sgn k % p)), some (.int (c : Int)), some (.int (k : Int)), some (.ref th), x7, none], ?_, ?_⟩
        · refine ⟨_, rfl, _, rfl, _, rfl, th, _, _, _, rfl, rfl, .of hth, atI_nat (int_at hcq), ?_⟩
          rw [← hcg]
          refine ⟨_, _, rfl, rfl, .inl ⟨by omega, by omega⟩, ?_⟩
          refine ⟨_, rfl, _, _, rfl, rfl, (by dsimp only; decide), _, rfl, ?_⟩
          have sg := sgn_mod k
          cases hs : ((k : Int) % 2 != 0) with
          | true =>
            rw [hs] at sg
            have sg : sgn k = -1 := sg
            refine iteT ⟨1, rfl, _, _, rfl, rfl, .inr ⟨by omega, by omega⟩, _, rfl, _, _, rfl, rfl, p0, ?_⟩
            rw [sg]
            exact ⟨rfl, rfl⟩
          | false =>
            rw [hs] at sg
            have sg : sgn k = 1 := sg
            refine iteF ⟨_, _, rfl, rfl, .inr ⟨by omega, by omega⟩, _, rfl, _, _, rfl, rfl, p0, ?_⟩
            rw [sg]
            exact ⟨rfl, rfl⟩
        rintro σ H6' ⟨rfl, rfl⟩
        have hwm := mod_b (a := worth * head.getD c 0 * sgn k) (m := p) p0
        refine ⟨_, rfl, _, rfl, _, rfl, _, rfl, th, _, _, _, rfl, rfl, .of hth, atI_nat (int_at hcq), ?_⟩
        rw [← hcg]
        refine ⟨p, _, rfl, pm, by omega, by omega, prm.gcd (by omega) (by omega), fun u u0 u1 hu H7 s7 => ?_⟩
        refine ⟨_, rfl, .ref th, head, p, u, rfl, ⟨th, rfl, s7 _ _ hth⟩, p0, ⟨by omega, by omega⟩, by omega, fun H8 v8 s8 hv8 => ?_⟩
        have s68 := s7.trans s8
        have hlc8 := s68 _ _ hlc6
        have step := elim_step (p := p) hc hll hrl hk hu
        generalize hg : mulL p u head = g at hv8 step
        have hgl : g.length = n := by rw [← hg]; unfold mulL; rw [List.length_map]; exact hhl
        have hgi : InB p g := by
          rw [← hg]
          intro y hy
          obtain ⟨z, _, rfl⟩ := List.mem_map.mp hy
          exact mod_b p0
        dsimp only [gName, tSeq]
        refine ⟨_, rfl, ?_⟩
        dsimp only [tNoPart]
        refine ⟨_, rfl, (k : Int), rfl, lc, lx, rfl, .of hlc8, fun p1 np1 => ?_⟩
        have s9 := same_new (o := .lst (cutV lx none (some (k : Int)))) np1
        refine ⟨_, rfl, _, rfl, _, _, rfl, rfl, (k : Int) + 1, rfl, ?_⟩
        dsimp only [tNoPart]
        refine ⟨lc, lx, rfl, .of (s9 _ _ hlc8), fun p3 np3 => ?_⟩
        have s10 := same_new (o := .lst (cutV lx (some ((k : Int) + 1)) none)) np3
        have ec1 : cutV lx none (some (k : Int)) = lx.take k := cutV_upto lx k
        have ec2 : cutV lx (some ((k : Int) + 1)) none = lx.drop (k + 1) := by
          have e : (k : Int) + 1 = ((k + 1 : Nat) : Int) := by omega
          rw [e]
          unfold cutV
          rw [HT.sIx_none, HT.sIx_nat, Nat.min_eq_left (by omega), List.take_of_length_le (by rw [List.length_drop]; omega)]
        refine ⟨p1, p3, _, _, rfl, rfl, s10 _ _ upd_same, upd_same, ?_, fun p4 np4 => ?_⟩
        · rw [ec1, ec2]
          exact Nat.le_trans (by rw [List.length_take, List.length_drop]; omega : _ ≤ 200) (by decide)
        have s11 := same_new (o := .lst (cutV lx none (some (k : Int)) ++ cutV lx (some ((k : Int) + 1)) none)) np4
        have s911 := (s9.trans s10).trans s11
        have hcat : cutV lx none (some (k : Int)) ++ cutV lx (some ((k : Int) + 1)) none = lx.eraseIdx k := by rw [ec1, ec2, List.eraseIdx_eq_take_drop_succ]
        refine ⟨p4, rfl, ⟨_, .of upd_same⟩, fun D hD => ?_⟩
        have hple : Paired (rRow (upd (upd (upd H8 p1 (.lst (cutV lx none (some (k : Int))))) p3 (.lst (cutV lx (some ((k : Int) + 1)) none))) p4 (.lst (cutV lx none (some (k : Int)) ++ cutV lx (some ((k : Int) + 1)) none)))) (lx.eraseIdx k) (left.eraseIdx k) := by
          rw [List.eraseIdx_eq_take_drop_succ, List.eraseIdx_eq_take_drop_succ]
          have hh := paired_mono mono_row (s68.trans s911).keep hpl6
          exact paired_app (paired_take k hh) (paired_drop (k + 1) hh)
        have hel := List.length_eraseIdx_of_lt hkl
        have hxl := paired_len hple
        have hv8' := mono_row _ _ _ _ s911.keep hv8
        refine lc_fm (walk_list (xs := lx.eraseIdx k)) rRow (fun i => (left.eraseIdx k)[i]?.bind fun l => some (clr1 p l (c, g))) hD (fun H' s' => .of (by rw [← hcat]; exact s' _ _ upd_same)) ?_ ?_
        · rintro i x H12 H13 hi pv ⟨rfl, hx⟩
          obtain ⟨l, hl1, hlv⟩ := paired_get (paired_mono mono_row pv.1.keep hple) hx
          have hlm := hrl l (List.mem_of_mem_eraseIdx (List.mem_of_getElem? hl1))
          have hll2 := isRow_len hlm
          have hgv := mono_row _ _ _ _ pv.1.keep hv8'
          refine ⟨rfl, _, rfl, fun qd nqd => ⟨_, rfl, _, rfl, upd_same, [(Sum.inl ((c : Nat) : Int), v8)], rfl, by show 1 ≤ 15; decide, ?_⟩⟩
          rw [upd_upd]
          have s14 := same_new (o := .dK (mergeK [] [(Sum.inl ((c : Nat) : Int), v8)])) nqd
          refine ⟨_, rfl, qd, _, x, l, [(c, g)], p, rfl, upd_same, ⟨[(Sum.inl ((c : Nat) : Int), v8)], rfl, .cons ⟨rfl, mono_row _ _ _ _ s14.keep hgv⟩ .nil⟩, by simp, mono_row _ _ _ _ s14.keep hlv, p0, pm, hlm.2, by omega, by show 1 ≤ 1000; decide, fun y hy => by rw [List.mem_singleton.mp hy]; exact ⟨by show c < l.length; omega, by show g.length = l.length; omega⟩, fun H15 v15 s15 hv15 => ?_⟩
          exact fm_keep mono_row pv hD (by omega) (s14.trans s15) (by rw [hl1]; rfl) hv15
        · intro H12 ys s12' hD2 hp2
          have e2 : (lx.eraseIdx k).length = (left.eraseIdx k).length := hxl
          rw [e2, fm_some] at hp2
          refine ⟨D, ys, _, _, _, _, _, _, rfl, ((s5.trans s6).trans s68).trans (s911.trans s12'), hD2, hp2, by rw [List.length_map, hel]; omega, fun l hl2 => ?_, hwm.1, hwm.2, ?_⟩
          · obtain ⟨y, hy, rfl⟩ := List.mem_map.mp hl2
            have hym := hrl y (List.mem_of_mem_eraseIdx hy)
            exact ⟨by rw [clr1_len]; exact hym.1, clr1_in p0 hym.2 _⟩
          · have h1 := hdet.trans ((Cg.refl (p := p) worth).mul step)
            refine h1.trans (((Cg.of_eq ?_).trans ((Cg.mod (p := p) (worth * head.getD c 0 * sgn k)).symm.mul (Cg.refl _))))
            rw [← Int.mul_assoc, Int.mul_comm (sgn k), ← Int.mul_assoc]
    · rintro σ H4 ⟨lc, lx, left, worth, x4, x5, x6, x7, rfl, s5, hlc, hpl, hll, hrl, w0, w1, hdet⟩
      rw [Int.toNat_natCast] at hll hdet
      have e0 : n - n = 0 := Nat.sub_self n
      rw [e0] at hdet
      refine ⟨_, rfl, q _ worth s5 w0 w1 (hdet.trans (.of_eq ?_)).symm⟩
      show worth * 1 = worth
      rw [Int.mul_one]
end
end S4

namespace S4
open PySem L2 TT MM
/-! ### what is refused of rows -/
inductive Due where
  | «let» | clock | number | row | rows (i : Int)
/-- the word that stands for it -/
def rDue (H : Hp) (v : V) : Due → Prop
  | .let => v = .str "let"
  | .clock => v = .str "clock"
  | .number => v = .str "number"
  | .row => v = .str "row"
  | .rows i => ∃ t, v = .ref t ∧ H t = some (.tup [.str "rows", .int i])
theorem rDue.keep {H H' : Hp} {v : V} {D : Due} (k : Keep H H') (h : rDue H v D) : rDue H' v D := by
  cases D with
  | rows i => obtain ⟨t, e, h⟩ := h; exact ⟨t, e, k.tup h⟩
  | _ => exact h
/-- what a list or a tuple holds -/
def seqOf (H : Hp) : V → Option (List V)
  | .ref a => match H a with
    | some (.tup xs) => some xs
    | some (.lst xs) => some xs
    | _ => none
  | _ => none
theorem seqOf_tup {H : Hp} {a : Addr} {xs : List V} (h : H a = some (.tup xs)) : seqOf H (.ref a) = some xs := by unfold seqOf; simp only [h]
theorem seqOf_lst {H : Hp} {a : Addr} {xs : List V} (h : H a = some (.lst xs)) : seqOf H (.ref a) = some xs := by unfold seqOf; simp only [h]
theorem seqOf_some {H : Hp} {v : V} {xs : List V} (h : seqOf H v = some xs) : ∃ a, v = .ref a ∧ (H a = some (.lst xs) ∨ H a = some (.tup xs)) := by
  unfold seqOf at h
  cases v with
  | ref a =>
    refine ⟨a, rfl, ?_⟩
    simp only at h
    cases e : H a with
    | none => rw [e] at h; cases h
    | some o =>
      rw [e] at h
      cases o <;> first | (cases h; first | exact .inl rfl | exact .inr rfl) | cases h
  | _ => cases h
/-- any thing whose items are known, too, if it is a list -/
structure ThS (g : Addr) (H : Hp) (v : V) : Prop where
  th : Th g H 2 v
  ls : ∀ a xs, v = .ref a → H a = some (.lst xs) → xs.length ≤ 1000 ∧ ∀ x ∈ xs, Th g H 1 x
theorem ThS.mem {g : Addr} {H : Hp} {v : V} {xs : List V} (t : ThS g H v) (h : seqOf H v = some xs) : xs.length ≤ 1000 ∧ ∀ x ∈ xs, Th g H 1 x := by
  obtain ⟨a, rfl, h | h⟩ := seqOf_some h
  · exact t.ls a xs rfl h
  · exact ⟨t.th.len (tupOf_at h), t.th.mem (tupOf_at h)⟩
theorem ThS.kind {g : Addr} {H : Hp} {v : V} (t : ThS g H v) : (isLstB H v || isTupB H v) = (seqOf H v).isSome := by
  rcases t.th.zero with f | ⟨a, rfl, na, ⟨xs, h, _⟩ | ⟨xs, h⟩ | ⟨kvs, h⟩⟩
  · cases v <;> first | rfl | exact f.elim
  · unfold isLstB isTupB S4.tupOf seqOf; simp only [h]; rfl
  · unfold isLstB isTupB S4.tupOf seqOf; simp only [h]; rfl
  · unfold isLstB isTupB S4.tupOf seqOf; simp only [h]; rfl
theorem rowB_keep {g : Addr} {H H' : Hp} {n : Nat} {v : V} {p wd : Int} (t : Th g H n v) (b : But g H H') : rowB p wd H' v = rowB p wd H v := by
  unfold rowB
  rw [t.tupOf b]
theorem kitAny_lt {K : PySem.W.Frag} {t : Value} {a b : Bool} (h1 : PySem.W.kitOne K t (.type "list") = some a) (h2 : PySem.W.kitOne K t (.type "tuple") = some b) : PySem.W.kitAny K t [.type "list", .type "tuple"] = some (a || b) := by
  unfold PySem.W.kitAny
  rw [h1]
  cases a with
  | true => rfl
  | false =>
    show PySem.W.kitAny K t [.type "tuple"] = some (false || b)
    unfold PySem.W.kitAny
    rw [h2]
    cases b <;> rfl
def fstBad (p wd : Int) (H : Hp) (xs : List V) : Option Nat := (List.range xs.length).find? fun i => !rowB p wd H (xs.getD i .non)
def dueOf (f : Option Nat) : Due := match f with
  | some i => .rows (i : Int)
  | none => .let
def eachD (most : Nat) (p wd : Int) (H : Hp) (rows : V) : Due := match seqOf H rows with
  | none => .rows (-1)
  | some xs => if most < xs.length then .rows (-1) else dueOf (fstBad p wd H xs)
def intOf1 : V → Int
  | .int n => n
  | _ => 0
noncomputable def rowsD (H : Hp) (p wd rows : V) : Due := if clkB p = true then (if intB 0 200 wd = true then eachD 200 (intOf1 p) (intOf1 wd) H rows else .number) else .clock
section
variable {P : Program} {w : World} {K : PySem.W.Frag} {mg : Str → Option Value} {base : Heap} {cT cS : Addr}
def spLIsRowT : Sp := fun vs H Q _ => ∃ (g : Addr) (v : V) (p wd : Int), vs = [.int p, .int wd, v] ∧ Th g H 1 v ∧ ∀ H', Same H H' → Q (.bl (rowB p wd H v)) H'
theorem ok_lisrowT (T : Tx K mg cT cS) {f : Addr} {fd : FuncData} (d : D K mg "_law_is_row" s_law_is_row ["p", "wide", "thing"] f fd) : FnOk P w K mg base CX0 2 f fd ["p", "wide", "thing"] spLIsRowT := by
  obtain ⟨f1, fd1, d1⟩ := T.d_law_int
  have G1 := ok_lintT (P := P) (w := w) (base := base) T d1
  refine d.F.ok sc_law_is_row (fun vs H Q E h => ?_) (fun cdv A outer s H vs Q E hr h => ?_)
  · obtain ⟨g, v, p, wd, rfl, _⟩ := h
    rfl
  · obtain ⟨g, v, p, wd, rfl, th, q⟩ := h
    refine ⟨_, pss_one (ps_ret (pe_and (pe_callB call_isi (by rfl) T.b_isinstance (by decide +kernel) (pa_cons (pv 2) (pa_cons (ty_tuple T.b_tuple) pa_nil))) (pe_and (pe_cmpR op_eq (pe_callB call_len_seq (by rfl) T.b_len PySem.boot_len (pa_cons (pv 2) pa_nil)) (pv 1) (nomark _)) (pe_one (pe_callB (cr_all rfl) (by rfl) T.b_all (by decide +kernel) (pa_cons (pe_lc (own := [("one", 3)]) (g := (gName 3)) (tt := tYes) rfl sc_law_is_row.nd (pi_tup (pv 2)) (blkOk_by (N := N_law_is_row) (sc := defScope s_law_is_row) (by decide +kernel)) (fun _ _ _ _ _ => (pg_name (i := 3) sc_law_is_row.nd rfl (Or.inl rfl))) (fun _ _ _ _ _ => pts_nil)
            (fun _ _ _ _ _ => (pe_call G1 (hr.mono (by decide)) rfl d1.m d1.F.kp d1.b .nil pass0 (pa_cons (pv 3) (pa_cons pe_int (pa_cons (pe_op op_sub (pv 0) pe_int) pa_nil)))))) pa_nil)))))), ?_⟩
    obtain ⟨t, ty, k0, _, _, _⟩ := th.kind K
    refine ⟨_, rfl, _, _, _, _, _, rfl, .ty _, ty, k0, _, rfl, ?_⟩
    unfold rowB at q
    unfold isTupB
    cases e : tupOf H v with
    | none => rw [e] at q; exact iteF (q _ (.refl _))
    | some xs =>
      rw [e] at q
      have hm := th.mem e
      have hl := th.len e
      obtain ⟨a, rfl, ha⟩ := tupOf_some e
      refine iteT ⟨_, rfl, _, _, rfl, .inr (.of ha), _, rfl, rfl, _, rfl, ?_⟩
      by_cases h40 : (xs.length : Int) = wd
      · simp only [decide_eq_true h40, Bool.true_and] at q
        refine iteT' (by rw [h40]; simp) ?_
        refine ⟨_, rfl, a, rfl, ⟨_, .of ha⟩, fun D hD => ?_⟩
        refine lc_fm (walk_tup (xs := xs)) rBl (fun i => xs[i]?.bind fun x => some (below x p)) hD (fun H' s' => .of (s'.keep.tup ha)) ?_ ?_
        · rintro i x H2 H3 hi pv ⟨rfl, hx⟩
          have hxm := List.mem_of_getElem? hx
          refine ⟨rfl, _, rfl, _, rfl, _, _, rfl, rfl, g, x, 0, p - 1, rfl, (hm x hxm).same pv.1, ?_⟩
          have e : intB 0 (p - 1) x = below x p := by
            cases x with
            | int n =>
              show (decide (0 ≤ n) && decide (n ≤ p - 1)) = decide (0 ≤ n ∧ n < p)
              rw [← Bool.decide_and]
              exact decide_eq_decide.mpr ⟨fun h => ⟨h.1, by omega⟩, fun h => ⟨h.1, by omega⟩⟩
            | _ => rfl
          rw [e]
          exact fm_keep mono_bl pv hD (by omega) (Same.refl _) (by rw [hx]; rfl) rfl
        · intro H2 ys s2 hD2 hp
          have := paired_bl hp
          subst this
          refine ⟨_, _, rfl, .of hD2, ?_⟩
          rw [all_fm]
          exact q _ s2
      · simp only [decide_eq_false h40, Bool.false_and] at q
        exact iteF' (by simpa using h40) (q _ (.refl _))
end
end S4

namespace S4
open PySem L2 TT MM
theorem fstBad_some {p wd : Int} {H : Hp} {xs : List V} {i : Nat} (hi : i < xs.length) (h : rowB p wd H (xs.getD i .non) = false) (hb : ∀ j, j < i → rowB p wd H (xs.getD j .non) = true) : fstBad p wd H xs = some i := by
  unfold fstBad
  rw [List.find?_range_eq_some]
  exact ⟨by rw [h]; rfl, List.mem_range.mpr hi, fun j hj => by rw [hb j hj]; rfl⟩
theorem fstBad_none {p wd : Int} {H : Hp} {xs : List V} (hb : ∀ j, j < xs.length → rowB p wd H (xs.getD j .non) = true) : fstBad p wd H xs = none := by
  unfold fstBad
  rw [List.find?_range_eq_none]
  exact fun j hj => by rw [hb j hj]; rfl
theorem seqOf_keep {g : Addr} {H H' : Hp} {n : Nat} {v : V} (t : Th g H n v) (b : But g H H') : seqOf H' v = seqOf H v := by
  rcases t.zero with f | ⟨a, rfl, na, ⟨xs, h, _⟩ | ⟨xs, h⟩ | ⟨kvs, h⟩⟩
  · cases v <;> first | rfl | exact f.elim
  · unfold seqOf; simp only [h, b _ _ na h]
  · unfold seqOf; simp only [h, b _ _ na h]
  · unfold seqOf; simp only [h, b _ _ na h]
theorem kind_seq {g : Addr} {H : Hp} {n : Nat} {v : V} (t : Th g H n v) : (isLstB H v || isTupB H v) = (seqOf H v).isSome := by
  rcases t.zero with f | ⟨a, rfl, na, ⟨xs, h, _⟩ | ⟨xs, h⟩ | ⟨kvs, h⟩⟩
  · cases v <;> first | rfl | exact f.elim
  · unfold isLstB isTupB S4.tupOf seqOf; simp only [h]; rfl
  · unfold isLstB isTupB S4.tupOf seqOf; simp only [h]; rfl
  · unfold isLstB isTupB S4.tupOf seqOf; simp only [h]; rfl
theorem getD_non {xs : List V} {i : Nat} {x : V} (h : xs[i]? = some x) : xs.getD i .non = x := by rw [List.getD_eq_getElem?_getD, h]; rfl
section
variable {P : Program} {w : World} {K : PySem.W.Frag} {mg : Str → Option Value} {base : Heap} {cT cS : Addr}
def spRowsDue : Sp := fun vs H Q _ => ∃ (g : Addr) (p wd rows : V), vs = [p, wd, rows] ∧ Th g H 0 p ∧ Th g H 0 wd ∧ ThS g H rows ∧ ∀ H' v, Same H H' → rDue H' v (rowsD H p wd rows) → Q v H'
theorem ok_rowsDue (T : Tx K mg cT cS) {f : Addr} {fd : FuncData} (d : D K mg "_law_rows_due" s_law_rows_due ["p", "wide", "rows"] f fd) : FnOk P w K mg base CX0 3 f fd ["p", "wide", "rows"] spRowsDue := by
  obtain ⟨f1, fd1, d1⟩ := T.d_law_is_prime
  have G1 := ok_lprimeT (P := P) (w := w) (base := base) T d1
  obtain ⟨f2, fd2, d2⟩ := T.d_law_int
  have G2 := ok_lintT (P := P) (w := w) (base := base) T d2
  obtain ⟨f3, fd3, d3⟩ := T.d_law_is_row
  have G3 := ok_lisrowT (P := P) (w := w) (base := base) T d3
  refine d.F.ok sc_law_rows_due (fun vs H Q E h => ?_) (fun cdv A outer s H vs Q E hr h => ?_)
  · obtain ⟨g, p, wd, rows, rfl, _⟩ := h
    rfl
  · obtain ⟨g, p, wd, rows, rfl, tp, tw, tr, q⟩ := h
    refine ⟨_, pss_cons (ps_if (pt_not (pt_val (pe_call G1 (hr.mono (by decide)) rfl d1.m d1.F.kp d1.b .nil pass0 (pa_cons (pv 0) pa_nil)))) (pss_one (ps_ret pe_str)) pss_nil)
      (pss_cons (ps_if (pt_not (pt_val (pe_call G2 (hr.mono (by decide)) rfl d2.m d2.F.kp d2.b .nil pass0 (pa_cons (pv 1) (pa_cons pe_int (pa_cons pe_int pa_nil)))))) (pss_one (ps_ret pe_str)) pss_nil)
      (pss_cons (ps_if (PW.pt (pw_or (pt_not (pt_val (pe_callB call_isiT (by rfl) T.b_isinstance (by decide +kernel) (pa_cons (pv 2) (pa_cons (pe_tup (pa_cons (ty_list T.b_list) (pa_cons (ty_tuple T.b_tuple) pa_nil))) pa_nil))))) (pw_or1 (pt_cmpR op_gt (pe_callB call_len_seq (by rfl) T.b_len PySem.boot_len (pa_cons (pv 2) pa_nil)) pe_int (nomark _))))) (pss_one (ps_ret (pe_tup (pa_cons pe_str (pa_cons (pe_un un_neg pe_int) pa_nil))))) pss_nil)
      (pss_cons (ps_for PassesOwn.never rfl (pi_or (pi_enum (by rfl) T.b_enumerate (pa_cons (pv 2) pa_nil)) (pi_enumT (by rfl) T.b_enumerate (pa_cons (pv 2) pa_nil))) (pg_tup rfl (pgs_cons (pg_name (i := 3) sc_law_rows_due.nd rfl (.inl rfl)) (pgs_cons (pg_name (i := 4) sc_law_rows_due.nd rfl (.inl rfl)) pgs_nil)))
        (pss_one (ps_if (pt_not (pt_val (pe_call G3 (hr.mono (by decide)) rfl d3.m d3.F.kp d3.b .nil pass0 (pa_cons (pv 0) (pa_cons (pv 1) (pa_cons (pv 4) pa_nil)))))) (pss_one (ps_ret (pe_tup (pa_cons pe_str (pa_cons (pv 3) pa_nil))))) pss_nil)))
      (pss_one (ps_ret pe_str))))), ?_⟩
    refine ⟨_, rfl, g, p, rfl, tp, _, rfl, ?_⟩
    unfold rowsD at q
    by_cases hc : clkB p = true
    rotate_left
    · rw [if_neg hc] at q
      rw [Bool.eq_false_iff.mpr hc]
      exact iteT (q _ _ (.refl _) rfl)
    rw [if_pos hc] at q
    rw [hc]
    refine iteF ⟨_, rfl, g, wd, 0, 200, rfl, tw, _, rfl, ?_⟩
    by_cases hw : intB 0 200 wd = true
    rotate_left
    · rw [if_neg hw] at q
      rw [Bool.eq_false_iff.mpr hw]
      exact iteT (q _ _ (.refl _) rfl)
    rw [if_pos hw] at q
    rw [hw]
    obtain ⟨n, rfl, nd⟩ := clk_iff.mp hc
    obtain ⟨m, rfl⟩ : ∃ m, wd = .int m := by cases wd <;> first | exact ⟨_, rfl⟩ | (exfalso; cases hw)
    refine iteF ⟨_, rfl, by show 2 ≤ sizeLine; decide, fun tt ntt => ?_⟩
    have s1 := same_new (o := .tup [V.ty "list", V.ty "tuple"]) ntt
    obtain ⟨t, ty, k0, _, _, k3⟩ := (tr.th.same s1).kind K
    refine ⟨_, tt, _, _, _, _, rfl, upd_same, .cons (.ty _) (.cons (.ty _) .nil), ty, kitAny_lt k3 k0, _, rfl, ?_⟩
    rw [kind_seq (tr.th.same s1), seqOf_keep tr.th (s1.but g)]
    unfold eachD at q
    cases es : seqOf H rows with
    | none =>
      rw [es] at q
      refine iteT ⟨1, rfl, by show 2 ≤ sizeLine; decide, fun tq ntq => ?_⟩
      exact q _ _ (s1.trans (same_new ntq)) ⟨tq, rfl, upd_same⟩
    | some xs =>
      rw [es] at q
      obtain ⟨hl, hm⟩ := tr.mem es
      obtain ⟨a, rfl, hS⟩ := seqOf_some es
      have hS1 : _ ∨ _ := hS.imp (fun h => s1 _ _ h) (fun h => s1 _ _ h)
      refine iteF ⟨_, rfl, a, xs, rfl, hS1.imp .of .of, _, _, rfl, rfl, _, rfl, ?_⟩
      by_cases h2 : 200 < xs.length
      · simp only [if_pos h2] at q
        rw [decide_eq_true (show (200 : Int) < ((xs.length : Nat) : Int) by omega)]
        refine iteT ⟨1, rfl, by show 2 ≤ sizeLine; decide, fun tq ntq => ?_⟩
        exact q _ _ (s1.trans (same_new ntq)) ⟨tq, rfl, upd_same⟩
      simp only [if_neg h2] at q
      rw [decide_eq_false (show ¬ (200 : Int) < ((xs.length : Nat) : Int) by omega)]
      refine iteF ?_
      dsimp only [tNext, tSeq, gName]
      have q : ∀ H' v, Same H H' → rDue H' v (dueOf (fstBad n m H xs)) → Q v H' := q
      apply twice
      · intro hs
        apply twice
        · intro hd
          rcases hS1 with h | h
          · exact .inl ⟨_, rfl, a, xs, rfl, .of h, for_it (walk_enum (xs := xs)) (fun i σ H' => Same (upd H tt (.tup [V.ty "list", V.ty "tuple"])) H' ∧ (∀ j, j < i → rowB n m H (xs.getD j .non) = true) ∧ ∃ x3 x4, σ = [some (.int n), some (.int m), some (.ref a), x3, x4]) ⟨.refl _, fun j hj => absurd hj (Nat.not_lt_zero j), none, none, rfl⟩ (fun i σ H' _ q => .of (q.1 _ _ h)) hs hd⟩
          · exact .inr ⟨_, rfl, a, xs, rfl, .of h, for_it (walk_enumT (xs := xs)) (fun i σ H' => Same (upd H tt (.tup [V.ty "list", V.ty "tuple"])) H' ∧ (∀ j, j < i → rowB n m H (xs.getD j .non) = true) ∧ ∃ x3 x4, σ = [some (.int n), some (.int m), some (.ref a), x3, x4]) ⟨.refl _, fun j hj => absurd hj (Nat.not_lt_zero j), none, none, rfl⟩ (fun i σ H' _ q => .of (q.1 _ _ h)) hs hd⟩
        · rintro σ H2 ⟨s2, hall, x3, x4, rfl⟩
          exact q _ _ (s1.trans s2) (by rw [fstBad_none hall]; rfl)
      · rintro i x σ H2 H3 hi ⟨s2, hall, x3, x4, rfl⟩ ⟨tz, u1, u2, rfl, nz, rfl, e1, e2⟩
        cases (Option.some.inj e1)
        have s3 := same_new (o := .tup [V.int (i : Nat), u2]) nz
        have s13 := (s1.trans s2).trans s3
        have th2 := hm u2 (List.mem_of_getElem? e2)
        have eg := getD_non e2
        have hi2 : i < xs.length := (List.getElem?_eq_some_iff.mp e2).1
        refine ⟨tz, _, rfl, .of upd_same, rfl, _, _, rfl, _, _, rfl, rfl, ?_⟩
        refine ⟨_, rfl, _, rfl, _, rfl, g, u2, n, m, rfl, th2.same s13, fun H4 s4 => ⟨_, rfl, ?_⟩⟩
        rw [rowB_keep th2 (s13.but g)]
        by_cases hb : rowB n m H u2 = true
        · rw [hb]
          refine iteF ⟨(s2.trans s3).trans s4, fun j hj => ?_, _, _, rfl⟩
          by_cases e : j = i
          · subst e; rw [eg]; exact hb
          · exact hall j (by omega)
        · rw [Bool.eq_false_iff.mpr hb]
          refine iteT ⟨_, rfl, by show 2 ≤ sizeLine; decide, fun tq ntq => ?_⟩
          refine q _ _ ((s13.trans s4).trans (same_new ntq)) ?_
          rw [fstBad_some hi2 (by rw [eg]; exact Bool.eq_false_iff.mpr hb) hall]
          exact ⟨tq, rfl, upd_same⟩
end
end S4

namespace S4
open PySem L2 TT MM
noncomputable def sqD (H : Hp) (p rows : V) : Due := if clkB p = true then (match seqOf H rows with
  | none => .rows (-1)
  | some xs => if 60 < xs.length then .rows (-1) else dueOf (fstBad (intOf1 p) (xs.length : Int) H xs)) else .clock
section
variable {P : Program} {w : World} {K : PySem.W.Frag} {mg : Str → Option Value} {base : Heap} {cT cS : Addr}
def spSqDue : Sp := fun vs H Q _ => ∃ (g : Addr) (p rows : V), vs = [p, rows] ∧ Th g H 0 p ∧ ThS g H rows ∧ ∀ H' v, Same H H' → rDue H' v (sqD H p rows) → Q v H'
theorem ok_sqDue (T : Tx K mg cT cS) {f : Addr} {fd : FuncData} (d : D K mg "_law_square_due" s_law_square_due ["p", "rows"] f fd) : FnOk P w K mg base CX0 3 f fd ["p", "rows"] spSqDue := by
  obtain ⟨f1, fd1, d1⟩ := T.d_law_is_prime
  have G1 := ok_lprimeT (P := P) (w := w) (base := base) T d1
  obtain ⟨f2, fd2, d2⟩ := T.d_law_is_row
  have G2 := ok_lisrowT (P := P) (w := w) (base := base) T d2
  refine d.F.ok sc_law_square_due (fun vs H Q E h => ?_) (fun cdv A outer s H vs Q E hr h => ?_)
  · obtain ⟨g, p, rows, rfl, _⟩ := h
    rfl
  · obtain ⟨g, p, rows, rfl, tp, tr, q⟩ := h
    refine ⟨_, pss_cons (ps_if (pt_not (pt_val (pe_call G1 (hr.mono (by decide)) rfl d1.m d1.F.kp d1.b .nil pass0 (pa_cons (pv 0) pa_nil)))) (pss_one (ps_ret pe_str)) pss_nil)
      (pss_cons (ps_if (PW.pt (pw_or (pt_not (pt_val (pe_callB call_isiT (by rfl) T.b_isinstance (by decide +kernel) (pa_cons (pv 1) (pa_cons (pe_tup (pa_cons (ty_list T.b_list) (pa_cons (ty_tuple T.b_tuple) pa_nil))) pa_nil))))) (pw_or1 (pt_cmpR op_gt (pe_callB call_len_seq (by rfl) T.b_len PySem.boot_len (pa_cons (pv 1) pa_nil)) pe_int (nomark _))))) (pss_one (ps_ret (pe_tup (pa_cons pe_str (pa_cons (pe_un un_neg pe_int) pa_nil))))) pss_nil)
      (pss_cons (ps_for PassesOwn.never rfl (pi_or (pi_enum (by rfl) T.b_enumerate (pa_cons (pv 1) pa_nil)) (pi_enumT (by rfl) T.b_enumerate (pa_cons (pv 1) pa_nil))) (pg_tup rfl (pgs_cons (pg_name (i := 2) sc_law_square_due.nd rfl (.inl rfl)) (pgs_cons (pg_name (i := 3) sc_law_square_due.nd rfl (.inl rfl)) pgs_nil)))
        (pss_one (ps_if (pt_not (pt_val (pe_call G2 (hr.mono (by decide)) rfl d2.m d2.F.kp d2.b .nil pass0 (pa_cons (pv 0) (pa_cons (pe_callB call_len_seq (by rfl) T.b_len PySem.boot_len (pa_cons (pv 1) pa_nil)) (pa_cons (pv 3) pa_nil)))))) (pss_one (ps_ret (pe_tup (pa_cons pe_str (pa_cons (pv 2) pa_nil))))) pss_nil)))
      (pss_one (ps_ret pe_str)))), ?_⟩
    refine ⟨_, rfl, g, p, rfl, tp, _, rfl, ?_⟩
    unfold sqD at q
    by_cases hc : clkB p = true
    rotate_left
    · rw [if_neg hc] at q
      rw [Bool.eq_false_iff.mpr hc]
      exact iteT (q _ _ (.refl _) rfl)
    rw [if_pos hc] at q
    rw [hc]
    obtain ⟨n, rfl, nd⟩ := clk_iff.mp hc
    refine iteF ⟨_, rfl, by show 2 ≤ sizeLine; decide, fun tt ntt => ?_⟩
    have s1 := same_new (o := .tup [V.ty "list", V.ty "tuple"]) ntt
    obtain ⟨t, ty, k0, _, _, k3⟩ := (tr.th.same s1).kind K
    refine ⟨_, tt, _, _, _, _, rfl, upd_same, .cons (.ty _) (.cons (.ty _) .nil), ty, kitAny_lt k3 k0, _, rfl, ?_⟩
    rw [kind_seq (tr.th.same s1), seqOf_keep tr.th (s1.but g)]
    cases es : seqOf H rows with
    | none =>
      rw [es] at q
      refine iteT ⟨1, rfl, by show 2 ≤ sizeLine; decide, fun tq ntq => ?_⟩
      exact q _ _ (s1.trans (same_new ntq)) ⟨tq, rfl, upd_same⟩
    | some xs =>
      rw [es] at q
      have q : ∀ H' v, Same H H' → rDue H' v (if 60 < xs.length then .rows (-1) else dueOf (fstBad n (xs.length : Int) H xs)) → Q v H' := q
      obtain ⟨hl, hm⟩ := tr.mem es
      obtain ⟨a, rfl, hS⟩ := seqOf_some es
      have hS1 : _ ∨ _ := hS.imp (fun h => s1 _ _ h) (fun h => s1 _ _ h)
      refine iteF ⟨_, rfl, a, xs, rfl, hS1.imp .of .of, _, _, rfl, rfl, _, rfl, ?_⟩
      by_cases h2 : 60 < xs.length
      · rw [if_pos h2] at q
        rw [decide_eq_true (show (60 : Int) < ((xs.length : Nat) : Int) by omega)]
        refine iteT ⟨1, rfl, by show 2 ≤ sizeLine; decide, fun tq ntq => ?_⟩
        exact q _ _ (s1.trans (same_new ntq)) ⟨tq, rfl, upd_same⟩
      rw [if_neg h2] at q
      rw [decide_eq_false (show ¬ (60 : Int) < ((xs.length : Nat) : Int) by omega)]
      refine iteF ?_
      dsimp only [tNext, tSeq, gName]
      have q : ∀ H' v, Same H H' → rDue H' v (dueOf (fstBad n (xs.length : Int) H xs)) → Q v H' := q
      apply twice
      · intro hs
        apply twice
        · intro hd
          rcases hS1 with h | h
          · exact .inl ⟨_, rfl, a, xs, rfl, .of h, for_it (walk_enum (xs := xs)) (fun i σ H' => Same (upd H tt (.tup [V.ty "list", V.ty "tuple"])) H' ∧ (∀ j, j < i → rowB n (xs.length : Int) H (xs.getD j .non) = true) ∧ ∃ x3 x4, σ = [some (.int n), some (.ref a), x3, x4]) ⟨.refl _, fun j hj => absurd hj (Nat.not_lt_zero j), none, none, rfl⟩ (fun i σ H' _ q => .of (q.1 _ _ h)) hs hd⟩
          · exact .inr ⟨_, rfl, a, xs, rfl, .of h, for_it (walk_enumT (xs := xs)) (fun i σ H' => Same (upd H tt (.tup [V.ty "list", V.ty "tuple"])) H' ∧ (∀ j, j < i → rowB n (xs.length : Int) H (xs.getD j .non) = true) ∧ ∃ x3 x4, σ = [some (.int n), some (.ref a), x3, x4]) ⟨.refl _, fun j hj => absurd hj (Nat.not_lt_zero j), none, none, rfl⟩ (fun i σ H' _ q => .of (q.1 _ _ h)) hs hd⟩
        · rintro σ H2 ⟨s2, hall, x3, x4, rfl⟩
          exact q _ _ (s1.trans s2) (by rw [fstBad_none hall]; rfl)
      · rintro i x σ H2 H3 hi ⟨s2, hall, x3, x4, rfl⟩ ⟨tz, u1, u2, rfl, nz, rfl, e1, e2⟩
        cases (Option.some.inj e1)
        have s3 := same_new (o := .tup [V.int (i : Nat), u2]) nz
        have s13 := (s1.trans s2).trans s3
        have th2 := hm u2 (List.mem_of_getElem? e2)
        have eg := getD_non e2
        have hi2 : i < xs.length := (List.getElem?_eq_some_iff.mp e2).1
        refine ⟨tz, _, rfl, .of upd_same, rfl, _, _, rfl, _, _, rfl, rfl, ?_⟩
        refine ⟨_, rfl, _, rfl, a, xs, rfl, (hS.imp (fun h => .of (s13 _ _ h)) (fun h => .of (s13 _ _ h))), _, rfl, g, u2, n, (xs.length : Int), rfl, th2.same s13, fun H4 s4 => ⟨_, rfl, ?_⟩⟩
        rw [rowB_keep th2 (s13.but g)]
        by_cases hb : rowB n (xs.length : Int) H u2 = true
        · rw [hb]
          refine iteF ⟨(s2.trans s3).trans s4, fun j hj => ?_, _, _, rfl⟩
          by_cases e : j = i
          · subst e; rw [eg]; exact hb
          · exact hall j (by omega)
        · rw [Bool.eq_false_iff.mpr hb]
          refine iteT ⟨_, rfl, by show 2 ≤ sizeLine; decide, fun tq ntq => ?_⟩
          refine q _ _ ((s13.trans s4).trans (same_new ntq)) ?_
          rw [fstBad_some hi2 (by rw [eg]; exact Bool.eq_false_iff.mpr hb) hall]
          exact ⟨tq, rfl, upd_same⟩
end
end S4

namespace S4
open PySem L2 TT MM EE
/-! ### the checks, of any things -/
/-- the error that a word speaks of -/
def ErrD (mg : Str → Option Value) (E : XK) (H : Hp) : Due → Prop
  | .let => True
  | .clock => ∀ H', Same H H' → E (.ref (adr mg "NoClock")) none H'
  | .number => ∀ H', Same H H' → E (.ref (adr mg "NoNumber")) none H'
  | .row => ∀ H', Same H H' → E (.ref (adr mg "NoRow")) none H'
  | .rows i => ∀ H' d, Same H H' → H d = none → H' d = some (.xd [("index", .int i)]) → E (.ref (adr mg "NoRows")) (some d) H'
theorem ErrD.same {mg : Str → Option Value} {E : XK} {H H1 : Hp} {D : Due} (h : ErrD mg E H D) (s : Same H H1) : ErrD mg E H1 D := by
  cases D with
  | «let» => exact h
  | rows i =>
    intro H' d s' hd hx
    refine h H' d (s.trans s') ?_ hx
    cases e : H d with
    | none => rfl
    | some o => rw [s _ _ e] at hd; cases hd
  | _ => exact fun H' s' => h H' (s.trans s')
section
variable {P : Program} {w : World} {K : PySem.W.Frag} {mg : Str → Option Value} {base : Heap} {cT cS : Addr}
def spRowsInit (C : Addr) : Sp := fun vs H Q _ => ∃ (a : Addr) (y : V), vs = [.ref a, y] ∧ H a = some (exo a C none) ∧ ∀ d, H d = none → d ≠ a → Q .non (upd (upd H d (exd d [("index", y)])) a (exo a C (some d)))
theorem ok_NoRows {C f : Addr} {fd : FuncData} (d : EI K "NoRows.__init__" s_NoRows ["self", "index"] ["index"] C f fd) : FnOk P w K mg base CX0 1 f fd ["self", "index"] (spRowsInit C) := by
  refine d.F.ok sc_NoRows (fun vs H Q E h => ?_) (fun cdv A outer s H vs Q E hr h => ?_)
  · obtain ⟨a, y, rfl, _⟩ := h
    rfl
  · obtain ⟨a, y, rfl, ha, q⟩ := h
    refine ⟨_, pss_one (ps_ost (pv 0) (pv 1)), ?_⟩
    exact ⟨_, rfl, _, rfl, a, C, rfl, d.oc, d.no _ (by simp), .inl ⟨ha, fun dx n ne => q dx n ne⟩⟩
theorem mk_norows {C : Addr} {H : Hp} {y : V} {Q : XK} (q : ∀ H' d, Same H H' → H d = none → H' d = some (.xd [("index", y)]) → Q (.ref C) (some d) H') (a : Addr) (ha : H a = none) :
    spRowsInit C [.ref a, y] (upd H a (exo a C none)) (fun v H2 => v = .non ∧ ∃ (d : Addr) (fs : List (Str × V)), H2 a = some (exo a C (some d)) ∧ H2 d = some (exd d fs) ∧ H d = none ∧ Q (.ref C) (some d) (upd (del H2 a) d (.xd fs))) (fun _ _ _ => False) := by
  refine ⟨a, y, rfl, upd_same, fun d hd hda => ⟨rfl, d, [("index", y)], upd_same, ?_, ?_, ?_⟩⟩
  · rw [upd_ne hda, upd_same]
  · rw [upd_ne hda] at hd; exact hd
  · rw [upd_ne hda] at hd
    refine q _ d (fun b o e => ?_) hd upd_same
    have hb : b ≠ d := ne_of_none e hd
    have hba : b ≠ a := ne_of_none e ha
    rw [upd_ne hb, del_ne hba, upd_ne hba, upd_ne hb, upd_ne hba]
    exact e
def spCkClk (mg : Str → Option Value) : Sp := fun vs H Q E => ∃ (g : Addr) (p : V), vs = [p] ∧ Th g H 0 p ∧ (clkB p = true → ∀ H', Same H H' → Q .non H') ∧ (clkB p = false → ErrD mg E H .clock)
theorem ok_ckClk (T : Tx K mg cT cS) {f : Addr} {fd : FuncData} (d : D K mg "check_clock" s_check_clock ["p"] f fd) : FnOk P w K mg base (L2.CX P w) 3 f fd ["p"] (spCkClk mg) := by
  obtain ⟨f1, fd1, d1⟩ := T.d_is_clock
  have G1 := ok_is_clockT (P := P) (w := w) (base := base) T d1
  refine d.F.okX sc_check_clock (fun vs H Q E h => ?_) (fun cdv A outer s H vs Q E hr h => ?_)
  · obtain ⟨g, p, rfl, _⟩ := h
    rfl
  · obtain ⟨g, p, rfl, tp, q1, q2⟩ := h
    refine ⟨_, pss_one (ps_if (pt_not (pt_val (pe_call G1 (hr.mono (by decide)) rfl d1.m d1.F.kp d1.b .nil pass0 (pa_cons (pv 0) pa_nil)))) (pss_one (ps_raise rfl (takes_of rfl rfl rfl rfl) (pmk_own0 PySem.F.excBase_ValueError T.p_NoClock T.e_NoClock.m T.e_NoClock.kp (raises_own T.e_NoClock.ec.hs T.e_NoClock.ty) rfl))) pss_nil), ?_⟩
    refine ⟨_, rfl, g, p, rfl, tp, _, rfl, ?_⟩
    cases hc : clkB p with
    | true => exact iteF (q1 hc _ (.refl _))
    | false => exact iteT (q2 hc _ (.refl _))
def spCkRow (mg : Str → Option Value) : Sp := fun vs H Q E => ∃ (g : Addr) (v : V) (p wd : Int), vs = [.int p, .int wd, v] ∧ Th g H 1 v ∧ (rowB p wd H v = true → ∀ H', Same H H' → Q .non H') ∧ (rowB p wd H v = false → ErrD mg E H .row)
theorem ok_ckRow (T : Tx K mg cT cS) {f : Addr} {fd : FuncData} (d : D K mg "check_row" s_check_row ["p", "wide", "row"] f fd) : FnOk P w K mg base (L2.CX P w) 4 f fd ["p", "wide", "row"] (spCkRow mg) := by
  obtain ⟨f1, fd1, d1⟩ := T.d_is_row
  have G1 := ok_is_rowT (P := P) (w := w) (base := base) T d1
  refine d.F.okX sc_check_row (fun vs H Q E h => ?_) (fun cdv A outer s H vs Q E hr h => ?_)
  · obtain ⟨g, v, p, wd, rfl, _⟩ := h
    rfl
  · obtain ⟨g, v, p, wd, rfl, th, q1, q2⟩ := h
    refine ⟨_, pss_one (ps_if (pt_not (pt_val (pe_call G1 (hr.mono (by decide)) rfl d1.m d1.F.kp d1.b .nil pass0 (pa_cons (pv 2) (pa_cons (pv 0) (pa_cons (pv 1) pa_nil)))))) (pss_one (ps_raise rfl (takes_of rfl rfl rfl rfl) (pmk_own0 PySem.F.excBase_ValueError T.p_NoRow T.e_NoRow.m T.e_NoRow.kp (raises_own T.e_NoRow.ec.hs T.e_NoRow.ty) rfl))) pss_nil), ?_⟩
    refine ⟨_, rfl, _, rfl, _, rfl, g, v, p, wd, rfl, th, fun H1 s1 => ⟨_, rfl, ?_⟩⟩
    cases hc : rowB p wd H v with
    | true => exact iteF (q1 hc _ s1)
    | false => exact iteT (q2 hc _ s1)
def spCkEach (K : PySem.W.Frag) (mg : Str → Option Value) : Sp := fun vs H Q E => ∃ (g a : Addr) (p wd : Int) (xs : List V), vs = [.int p, .int wd, .ref a] ∧ (H a = some (.lst xs) ∨ H a = some (.tup xs)) ∧ (∀ x ∈ xs, Th g H 1 x) ∧ (fstBad p wd H xs = none → ∀ H', Same H H' → Q .non H') ∧ ErrD mg E H (dueOf (fstBad p wd H xs))
theorem ok_ckEach (T : Tx K mg cT cS) {f : Addr} {fd : FuncData} (d : D K mg "check_each" s_check_each ["p", "wide", "rows"] f fd) : FnOk P w K mg base (L2.CX P w) 4 f fd ["p", "wide", "rows"] (spCkEach K mg) := by
  obtain ⟨fB, fdB, eB⟩ := T.n_NoRows; have GB : FnOk P w K mg base CX0 1 fB fdB ["self", "index"] (spRowsInit (adr mg "NoRows")) := ok_NoRows eB
  obtain ⟨f1, fd1, d1⟩ := T.d_is_row
  have G1 := ok_is_rowT (P := P) (w := w) (base := base) T d1
  refine d.F.okX sc_check_each (fun vs H Q E h => ?_) (fun cdv A outer s H vs Q E hr h => ?_)
  · obtain ⟨g, a, p, wd, xs, rfl, _⟩ := h
    rfl
  · obtain ⟨g, a, p, wd, xs, rfl, hS, hm, q1, q2⟩ := h
    refine ⟨_, pss_one (ps_for (passes_of rfl) rfl (pi_or (pi_enum (by rfl) T.b_enumerate (pa_cons (pv 2) pa_nil)) (pi_enumT (by rfl) T.b_enumerate (pa_cons (pv 2) pa_nil))) (pg_tup rfl (pgs_cons (pg_name (i := 3) sc_check_each.nd rfl (.inl rfl)) (pgs_cons (pg_name (i := 4) sc_check_each.nd rfl (.inl rfl)) pgs_nil)))
        (pss_one (ps_if (pt_not (pt_val (pe_call G1 (hr.mono (by decide)) rfl d1.m d1.F.kp d1.b .nil pass0 (pa_cons (pv 4) (pa_cons (pv 0) (pa_cons (pv 1) pa_nil)))))) (pss_one (ps_raise rfl (takes_of rfl rfl rfl rfl) (pmk_oex eB.oc eB.iC eB.tI GB (hr.mono (by decide)) eB.b .nil pass0 rfl T.e_NoRows.m (pa_cons (pv 3) pa_nil)))) pss_nil))), ?_⟩
    apply twice
    · intro hs
      apply twice
      · intro hd
        rcases hS with h | h
        · exact .inl ⟨_, rfl, a, xs, rfl, .of h, for_it (walk_enum (xs := xs)) (fun i σ H' => Same H H' ∧ (∀ j, j < i → rowB p wd H (xs.getD j .non) = true) ∧ ∃ x3 x4, σ = [some (.int p), some (.int wd), some (.ref a), x3, x4]) ⟨.refl _, fun j hj => absurd hj (Nat.not_lt_zero j), none, none, rfl⟩ (fun i σ H' _ q => .of (q.1 _ _ h)) hs hd⟩
        · exact .inr ⟨_, rfl, a, xs, rfl, .of h, for_it (walk_enumT (xs := xs)) (fun i σ H' => Same H H' ∧ (∀ j, j < i → rowB p wd H (xs.getD j .non) = true) ∧ ∃ x3 x4, σ = [some (.int p), some (.int wd), some (.ref a), x3, x4]) ⟨.refl _, fun j hj => absurd hj (Nat.not_lt_zero j), none, none, rfl⟩ (fun i σ H' _ q => .of (q.1 _ _ h)) hs hd⟩
      · rintro σ H2 ⟨s2, hall, x3, x4, rfl⟩
        exact q1 (fstBad_none hall) _ s2
    · rintro i x σ H2 H3 hi ⟨s2, hall, x3, x4, rfl⟩ ⟨tz, u1, u2, rfl, nz, rfl, e1, e2⟩
      cases (Option.some.inj e1)
      have s3 := same_new (o := .tup [V.int (i : Nat), u2]) nz
      have s13 := s2.trans s3
      have th2 := hm u2 (List.mem_of_getElem? e2)
      have eg := getD_non e2
      have hi2 : i < xs.length := (List.getElem?_eq_some_iff.mp e2).1
      refine ⟨tz, _, rfl, .of upd_same, rfl, _, _, rfl, _, _, rfl, rfl, ?_⟩
      refine ⟨_, rfl, _, rfl, _, rfl, g, u2, p, wd, rfl, th2.same s13, fun H4 s4 => ⟨_, rfl, ?_⟩⟩
      rw [rowB_keep th2 (s13.but g)]
      by_cases hb : rowB p wd H u2 = true
      · rw [hb]
        refine iteF ⟨s13.trans s4, fun j hj => ?_, _, _, rfl⟩
        by_cases e : j = i
        · subst e; rw [eg]; exact hb
        · exact hall j (by omega)
      · rw [Bool.eq_false_iff.mpr hb]
        rw [fstBad_some hi2 (by rw [eg]; exact Bool.eq_false_iff.mpr hb) hall] at q2
        refine iteT ⟨_, rfl, by show 1 ≤ 1000; decide, fun a' ha' => ?_⟩
        exact mk_norows (fun H' d s' hd hxd => (ErrD.same q2 (s13.trans s4)) H' d s' hd hxd) a' ha'
end
end S4

/-! own __init__s of errors; errors made in lists -/
namespace S4
open PySem L2 TT MM EE
def spI1 (x : Str) (C : Addr) : Sp := fun vs H Q _ => ∃ (a : Addr) (y : V), vs = [.ref a, y] ∧ H a = some (exo a C none) ∧ ∀ d, H d = none → d ≠ a → Q .non (upd (upd H d (exd d [(x, y)])) a (exo a C (some d)))
def spI2 (x z : Str) (C : Addr) : Sp := fun vs H Q _ => ∃ (a : Addr) (y u : V), vs = [.ref a, y, u] ∧ H a = some (exo a C none) ∧ ∀ d, H d = none → d ≠ a → Q .non (upd (upd (upd H d (exd d [(x, y)])) a (exo a C (some d))) d (exd d [(z, u), (x, y)]))
section
variable {P : Program} {w : World} {K : PySem.W.Frag} {mg : Str → Option Value} {base : Heap} {cT cS : Addr}
theorem ok_INoRows {C f : Addr} {fd : FuncData} (d : EI K "NoRows.__init__" s_NoRows ["self", "index"] ["index"] C f fd) : FnOk P w K mg base CX0 1 f fd ["self", "index"] (spI1 "index" C) := by
  refine d.F.ok sc_NoRows (fun vs H Q E h => ?_) (fun cdv A outer s H vs Q E hr h => ?_)
  · obtain ⟨a, y, rfl, _⟩ := h
    rfl
  · obtain ⟨a, y, rfl, ha, q⟩ := h
    exact ⟨_, pss_one (ps_ost (pv 0) (pv 1)), ⟨_, rfl, _, rfl, a, C, rfl, d.oc, d.no _ (by simp), .inl ⟨ha, fun dx n ne => q dx n ne⟩⟩⟩
theorem ok_IBadTree {C f : Addr} {fd : FuncData} (d : EI K "BadTree.__init__" s_BadTree ["self", "part"] ["part"] C f fd) : FnOk P w K mg base CX0 1 f fd ["self", "part"] (spI1 "part" C) := by
  refine d.F.ok sc_BadTree (fun vs H Q E h => ?_) (fun cdv A outer s H vs Q E hr h => ?_)
  · obtain ⟨a, y, rfl, _⟩ := h
    rfl
  · obtain ⟨a, y, rfl, ha, q⟩ := h
    exact ⟨_, pss_one (ps_ost (pv 0) (pv 1)), ⟨_, rfl, _, rfl, a, C, rfl, d.oc, d.no _ (by simp), .inl ⟨ha, fun dx n ne => q dx n ne⟩⟩⟩
theorem ok_IBadSheet {C f : Addr} {fd : FuncData} (d : EI K "BadSheet.__init__" s_BadSheet ["self", "part"] ["part"] C f fd) : FnOk P w K mg base CX0 1 f fd ["self", "part"] (spI1 "part" C) := by
  refine d.F.ok sc_BadSheet (fun vs H Q E h => ?_) (fun cdv A outer s H vs Q E hr h => ?_)
  · obtain ⟨a, y, rfl, _⟩ := h
    rfl
  · obtain ⟨a, y, rfl, ha, q⟩ := h
    exact ⟨_, pss_one (ps_ost (pv 0) (pv 1)), ⟨_, rfl, _, rfl, a, C, rfl, d.oc, d.no _ (by simp), .inl ⟨ha, fun dx n ne => q dx n ne⟩⟩⟩
theorem ok_IBadRules {C f : Addr} {fd : FuncData} (d : EI K "BadRules.__init__" s_BadRules ["self", "part"] ["part"] C f fd) : FnOk P w K mg base CX0 1 f fd ["self", "part"] (spI1 "part" C) := by
  refine d.F.ok sc_BadRules (fun vs H Q E h => ?_) (fun cdv A outer s H vs Q E hr h => ?_)
  · obtain ⟨a, y, rfl, _⟩ := h
    rfl
  · obtain ⟨a, y, rfl, ha, q⟩ := h
    exact ⟨_, pss_one (ps_ost (pv 0) (pv 1)), ⟨_, rfl, _, rfl, a, C, rfl, d.oc, d.no _ (by simp), .inl ⟨ha, fun dx n ne => q dx n ne⟩⟩⟩
theorem ok_IBadTiming {C f : Addr} {fd : FuncData} (d : EI K "BadTiming.__init__" s_BadTiming ["self", "part"] ["part"] C f fd) : FnOk P w K mg base CX0 1 f fd ["self", "part"] (spI1 "part" C) := by
  refine d.F.ok sc_BadTiming (fun vs H Q E h => ?_) (fun cdv A outer s H vs Q E hr h => ?_)
  · obtain ⟨a, y, rfl, _⟩ := h
    rfl
  · obtain ⟨a, y, rfl, ha, q⟩ := h
    exact ⟨_, pss_one (ps_ost (pv 0) (pv 1)), ⟨_, rfl, _, rfl, a, C, rfl, d.oc, d.no _ (by simp), .inl ⟨ha, fun dx n ne => q dx n ne⟩⟩⟩
theorem ok_ITooMany {C f : Addr} {fd : FuncData} (d : EI K "TooMany.__init__" s_TooMany ["self", "most"] ["most"] C f fd) : FnOk P w K mg base CX0 1 f fd ["self", "most"] (spI1 "most" C) := by
  refine d.F.ok sc_TooMany (fun vs H Q E h => ?_) (fun cdv A outer s H vs Q E hr h => ?_)
  · obtain ⟨a, y, rfl, _⟩ := h
    rfl
  · obtain ⟨a, y, rfl, ha, q⟩ := h
    exact ⟨_, pss_one (ps_ost (pv 0) (pv 1)), ⟨_, rfl, _, rfl, a, C, rfl, d.oc, d.no _ (by simp), .inl ⟨ha, fun dx n ne => q dx n ne⟩⟩⟩
theorem ok_IBadText {C f : Addr} {fd : FuncData} (d : EI K "BadText.__init__" s_BadText ["self", "line"] ["line"] C f fd) : FnOk P w K mg base CX0 1 f fd ["self", "line"] (spI1 "line" C) := by
  refine d.F.ok sc_BadText (fun vs H Q E h => ?_) (fun cdv A outer s H vs Q E hr h => ?_)
  · obtain ⟨a, y, rfl, _⟩ := h
    rfl
  · obtain ⟨a, y, rfl, ha, q⟩ := h
    exact ⟨_, pss_one (ps_ost (pv 0) (pv 1)), ⟨_, rfl, _, rfl, a, C, rfl, d.oc, d.no _ (by simp), .inl ⟨ha, fun dx n ne => q dx n ne⟩⟩⟩
theorem ok_IBarred {C f : Addr} {fd : FuncData} (d : EI K "Barred.__init__" s_Barred ["self", "post", "way"] ["post", "way"] C f fd) : FnOk P w K mg base CX0 1 f fd ["self", "post", "way"] (spI2 "post" "way" C) := by
  refine d.F.ok sc_Barred (fun vs H Q E h => ?_) (fun cdv A outer s H vs Q E hr h => ?_)
  · obtain ⟨a, y, u, rfl, _⟩ := h
    rfl
  · obtain ⟨a, y, u, rfl, ha, q⟩ := h
    exact ⟨_, pss_cons (ps_ost (pv 0) (pv 1)) (pss_one (ps_ost (pv 0) (pv 2))), ⟨_, rfl, _, rfl, a, C, rfl, d.oc, d.no _ (by simp), .inl ⟨ha, fun dx n ne => ⟨_, rfl, _, rfl, a, C, rfl, d.oc, d.no _ (by simp), .inr ⟨dx, _, upd_same, by rw [upd_ne ne, upd_same], by show 1 ≤ 900; decide, q dx n ne⟩⟩⟩⟩⟩
theorem ok_IBadSaid {C f : Addr} {fd : FuncData} (d : EI K "BadSaid.__init__" s_BadSaid ["self", "tick", "post"] ["tick", "post"] C f fd) : FnOk P w K mg base CX0 1 f fd ["self", "tick", "post"] (spI2 "tick" "post" C) := by
  refine d.F.ok sc_BadSaid (fun vs H Q E h => ?_) (fun cdv A outer s H vs Q E hr h => ?_)
  · obtain ⟨a, y, u, rfl, _⟩ := h
    rfl
  · obtain ⟨a, y, u, rfl, ha, q⟩ := h
    exact ⟨_, pss_cons (ps_ost (pv 0) (pv 1)) (pss_one (ps_ost (pv 0) (pv 2))), ⟨_, rfl, _, rfl, a, C, rfl, d.oc, d.no _ (by simp), .inl ⟨ha, fun dx n ne => ⟨_, rfl, _, rfl, a, C, rfl, d.oc, d.no _ (by simp), .inr ⟨dx, _, upd_same, by rw [upd_ne ne, upd_same], by show 1 ≤ 900; decide, q dx n ne⟩⟩⟩⟩⟩
theorem ok_IBadAnswer {C f : Addr} {fd : FuncData} (d : EI K "BadAnswer.__init__" s_BadAnswer ["self", "post"] ["post"] C f fd) : FnOk P w K mg base CX0 1 f fd ["self", "post"] (spI1 "post" C) := by
  refine d.F.ok sc_BadAnswer (fun vs H Q E h => ?_) (fun cdv A outer s H vs Q E hr h => ?_)
  · obtain ⟨a, y, rfl, _⟩ := h
    rfl
  · obtain ⟨a, y, rfl, ha, q⟩ := h
    exact ⟨_, pss_one (ps_ost (pv 0) (pv 1)), ⟨_, rfl, _, rfl, a, C, rfl, d.oc, d.no _ (by simp), .inl ⟨ha, fun dx n ne => q dx n ne⟩⟩⟩
theorem ok_INoMark {C f : Addr} {fd : FuncData} (d : EI K "NoMark.__init__" s_NoMark ["self", "name"] ["name"] C f fd) : FnOk P w K mg base CX0 1 f fd ["self", "name"] (spI1 "name" C) := by
  refine d.F.ok sc_NoMark (fun vs H Q E h => ?_) (fun cdv A outer s H vs Q E hr h => ?_)
  · obtain ⟨a, y, rfl, _⟩ := h
    rfl
  · obtain ⟨a, y, rfl, ha, q⟩ := h
    exact ⟨_, pss_one (ps_ost (pv 0) (pv 1)), ⟨_, rfl, _, rfl, a, C, rfl, d.oc, d.no _ (by simp), .inl ⟨ha, fun dx n ne => q dx n ne⟩⟩⟩
theorem ok_IBadJournal {C f : Addr} {fd : FuncData} (d : EI K "BadJournal.__init__" s_BadJournal ["self", "number"] ["number"] C f fd) : FnOk P w K mg base CX0 1 f fd ["self", "number"] (spI1 "number" C) := by
  refine d.F.ok sc_BadJournal (fun vs H Q E h => ?_) (fun cdv A outer s H vs Q E hr h => ?_)
  · obtain ⟨a, y, rfl, _⟩ := h
    rfl
  · obtain ⟨a, y, rfl, ha, q⟩ := h
    exact ⟨_, pss_one (ps_ost (pv 0) (pv 1)), ⟨_, rfl, _, rfl, a, C, rfl, d.oc, d.no _ (by simp), .inl ⟨ha, fun dx n ne => q dx n ne⟩⟩⟩
theorem ok_INoName {C f : Addr} {fd : FuncData} (d : EI K "NoName.__init__" s_NoName ["self", "name"] ["name"] C f fd) : FnOk P w K mg base CX0 1 f fd ["self", "name"] (spI1 "name" C) := by
  refine d.F.ok sc_NoName (fun vs H Q E h => ?_) (fun cdv A outer s H vs Q E hr h => ?_)
  · obtain ⟨a, y, rfl, _⟩ := h
    rfl
  · obtain ⟨a, y, rfl, ha, q⟩ := h
    exact ⟨_, pss_one (ps_ost (pv 0) (pv 1)), ⟨_, rfl, _, rfl, a, C, rfl, d.oc, d.no _ (by simp), .inl ⟨ha, fun dx n ne => q dx n ne⟩⟩⟩
theorem ok_IBadTale {C f : Addr} {fd : FuncData} (d : EI K "BadTale.__init__" s_BadTale ["self", "line"] ["line"] C f fd) : FnOk P w K mg base CX0 1 f fd ["self", "line"] (spI1 "line" C) := by
  refine d.F.ok sc_BadTale (fun vs H Q E h => ?_) (fun cdv A outer s H vs Q E hr h => ?_)
  · obtain ⟨a, y, rfl, _⟩ := h
    rfl
  · obtain ⟨a, y, rfl, ha, q⟩ := h
    exact ⟨_, pss_one (ps_ost (pv 0) (pv 1)), ⟨_, rfl, _, rfl, a, C, rfl, d.oc, d.no _ (by simp), .inl ⟨ha, fun dx n ne => q dx n ne⟩⟩⟩
theorem ok_IFailed {C f : Addr} {fd : FuncData} (d : EI K "Failed.__init__" s_Failed ["self", "line"] ["line"] C f fd) : FnOk P w K mg base CX0 1 f fd ["self", "line"] (spI1 "line" C) := by
  refine d.F.ok sc_Failed (fun vs H Q E h => ?_) (fun cdv A outer s H vs Q E hr h => ?_)
  · obtain ⟨a, y, rfl, _⟩ := h
    rfl
  · obtain ⟨a, y, rfl, ha, q⟩ := h
    exact ⟨_, pss_one (ps_ost (pv 0) (pv 1)), ⟨_, rfl, _, rfl, a, C, rfl, d.oc, d.no _ (by simp), .inl ⟨ha, fun dx n ne => q dx n ne⟩⟩⟩
end
/-! ### what is made, whatever stood there before -/
def MadeE (σ : L2.St) (te : TE) (P : Hp → V → Prop) : Prop := ∀ H Q, (∀ H' v, Same H H' → P H' v → Q v H') → te σ H Q
def SMono (P : Hp → V → Prop) : Prop := ∀ H H' v, Same H H' → P H v → P H' v
def MadeA (σ : L2.St) (ta : TA) (Ps : List (Hp → V → Prop)) : Prop := ∀ H Q, (∀ H' vs, Same H H' → Paired (fun v (P : Hp → V → Prop) => P H' v) vs Ps → Q vs H') → ta σ H Q
theorem made_nil {σ : L2.St} : MadeA σ tNil [] := fun H Q q => q H [] (.refl _) .nil
theorem made_cons {σ : L2.St} {te : TE} {ta : TA} {P : Hp → V → Prop} {Ps : List (Hp → V → Prop)} (h1 : MadeE σ te P) (m : SMono P) (h2 : MadeA σ ta Ps) : MadeA σ (tCons te ta) (P :: Ps) :=
  fun H Q q => h1 H _ fun H1 v s1 p => h2 H1 _ fun H2 vs s2 all => q H2 (v :: vs) (s1.trans s2) (.cons (m _ _ _ s2 p) all)
theorem paired_sm {H H' : Hp} {vs : List V} {Ps : List (Hp → V → Prop)} (s : Same H H') (p : Paired (fun v (P : Hp → V → Prop) => P H v) vs Ps) (hm : ∀ P ∈ Ps, SMono P) : Paired (fun v (P : Hp → V → Prop) => P H' v) vs Ps := by
  induction p with
  | nil => exact .nil
  | cons p _ ih => exact .cons (hm _ (by simp) _ _ _ s p) (ih fun P hP => hm P (by simp [hP]))
theorem made_lst {σ : L2.St} {ta : TA} {Ps : List (Hp → V → Prop)} (h : MadeA σ ta Ps) (hm : ∀ P ∈ Ps, SMono P) (hl : Ps.length ≤ sizeLine) {H : Hp} {Q : VK} (q : ∀ H' l vs, Same H H' → H' l = some (.lst vs) → Paired (fun v (P : Hp → V → Prop) => P H' v) vs Ps → Q (.ref l) H') : tLst ta σ H Q :=
  h H _ fun H1 vs s1 all => ⟨by rw [paired_len all]; exact hl, fun l nl => q _ l vs (s1.trans (same_new nl)) upd_same (paired_sm (same_new nl) all hm)⟩
/-- an error of the class at C, its fields if it has any -/
def ErrV (C : Addr) : List (Str × V) → Hp → V → Prop
  | [], H, v => ∃ a, v = .ref a ∧ H a = some (exo a C none)
  | fs, H, v => ∃ a d, v = .ref a ∧ H a = some (exo a C (some d)) ∧ H d = some (exd d fs)
theorem errV_mono (C : Addr) (fs : List (Str × V)) : SMono (ErrV C fs) := fun H H' v s h => by
  cases fs with
  | nil => obtain ⟨a, e, h⟩ := h; exact ⟨a, e, s _ _ h⟩
  | cons f fs => obtain ⟨a, d, e, h1, h2⟩ := h; exact ⟨a, d, e, s _ _ h1, s _ _ h2⟩
theorem made_e0 {σ : L2.St} {C : Addr} : MadeE σ (fun _ H Q => ∀ a, H a = none → Q (.ref a) (upd H a (exo a C none))) (ErrV C []) := fun H Q q a na => q _ _ (same_new na) ⟨a, rfl, upd_same⟩
theorem made_e1 {σ : L2.St} {C : Addr} {x : Str} {i : Nat} {y : V} (e : σ[i]? = some (some y)) : MadeE σ (tMkV C (spI1 x C) (tCons (tVar i) tNil)) (ErrV C [(x, y)]) := fun H Q q =>
  ⟨_, e, by show 1 ≤ 1000; decide, fun a na => ⟨a, y, rfl, upd_same, fun d hd ne => ⟨rfl, q _ _ (fun b o hb => by
    rw [upd_ne ne] at hd
    have e1 : b ≠ d := fun z => by subst z; rw [hd] at hb; cases hb
    have e2 : b ≠ a := fun z => by subst z; rw [na] at hb; cases hb
    rw [upd_ne e2, upd_ne e1, upd_ne e2]; exact hb) ⟨a, d, rfl, upd_same, by rw [upd_ne ne, upd_same]⟩⟩⟩⟩
theorem made_e2 {σ : L2.St} {C : Addr} {x z : Str} {i j : Nat} {y u : V} (e : σ[i]? = some (some y)) (e' : σ[j]? = some (some u)) : MadeE σ (tMkV C (spI2 x z C) (tCons (tVar i) (tCons (tVar j) tNil))) (ErrV C [(z, u), (x, y)]) := fun H Q q =>
  ⟨_, e, _, e', by show 2 ≤ 1000; decide, fun a na => ⟨a, y, u, rfl, upd_same, fun d hd ne => ⟨rfl, q _ _ (fun b o hb => by
    rw [upd_ne ne] at hd
    have e1 : b ≠ d := fun z => by subst z; rw [hd] at hb; cases hb
    have e2 : b ≠ a := fun z => by subst z; rw [na] at hb; cases hb
    rw [upd_ne e1, upd_ne e2, upd_ne e1, upd_ne e2]; exact hb) ⟨a, d, rfl, by rw [upd_ne (fun z => ne z.symm), upd_same], upd_same⟩⟩⟩⟩
end S4

/-! the classes of an error -/
namespace S4
open PySem L2 TT MM EE
/-- the law's own numbers of flags that are set -/
def idxI (fl : Nat → Bool) : List Int := (List.range 50).filterMap fun i => if fl i = true then some (i : Int) else none
theorem subN {K : PySem.W.Frag} {mg : Str → Option Value} (h : uAll K (NX.map (adr mg)) = true) {i j : Nat} {x y : Str} (hi : NX[i]? = some x) (hj : NX[j]? = some y) : PySem.W.subIn K (.ref (adr mg x)) (.ref (adr mg y)) = some (i == j || j == 0) := by
  unfold uAll at h
  have li := (List.getElem?_eq_some_iff.mp hi).1
  have lj := (List.getElem?_eq_some_iff.mp hj).1
  have h1 := List.all_eq_true.mp (List.all_eq_true.mp h i (List.mem_range.mpr (by rw [List.length_map]; exact li))) j (List.mem_range.mpr (by rw [List.length_map]; exact lj))
  have gi : (NX.map (adr mg)).getD i 0 = adr mg x := by rw [List.getD_eq_getElem?_getD, List.getElem?_map, hi]; rfl
  have gj : (NX.map (adr mg)).getD j 0 = adr mg y := by rw [List.getD_eq_getElem?_getD, List.getElem?_map, hj]; rfl
  rw [gi, gj] at h1
  exact beq_iff_eq.mp h1
section
variable {P : Program} {w : World} {K : PySem.W.Frag} {mg : Str → Option Value} {base : Heap} {cT cS : Addr}
theorem at_st {te : TE} {σ σ' : L2.St} {H : Hp} {Q : VK} (e : σ = σ') (h : te σ' H Q) : te σ H Q := by rw [e]; exact h
def spClasses (K : PySem.W.Frag) (mg : Str → Option Value) : Sp := fun vs H Q _ => ∃ (a C : Addr) (d : Option Addr) (fl : Nat → Bool), vs = [.ref a] ∧ H a = some (exo a C d) ∧ Xdo H d ∧ ExcC K C ∧ (∀ j n, j < 50 → NX[j + 1]? = some n → PySem.W.subIn K (.ref C) (.ref (adr mg n)) = some (fl j)) ∧
  ∀ H' l, Same H H' → H' l = some (.lst ((idxI fl).map V.int)) → Q (.ref l) H'
theorem xdo_same {H H' : Hp} (s : Same H H') {d : Option Addr} (h : Xdo H d) : Xdo H' d := by
  cases d with
  | none => trivial
  | some dd => obtain ⟨fs, h⟩ := h; exact ⟨fs, s _ _ h⟩
theorem ok_classes (T : Tx K mg cT cS) {f : Addr} {fd : FuncData} (d : D K mg "_law_classes" s_law_classes ["e"] f fd) : FnOk P w K mg base CX0 1 f fd ["e"] (spClasses K mg) := by
  refine d.F.ok sc_law_classes (fun vs H Q E h => ?_) (fun cdv A outer s H vs Q E hr h => ?_)
  · obtain ⟨a, C, dd, fl, rfl, _⟩ := h
    rfl
  · obtain ⟨a, C, dd, fl, rfl, ha, hd, ec, hk, q⟩ := h
    refine ⟨_, pss_cons (ps_set (i := 1) sc_law_classes.nd rfl (.inl rfl) (pe_lst (pa_cons (pe_callB call_isH (by rfl) T.b_isinstance (by decide +kernel) (pa_cons (pv 0) (pa_cons (pe_glob (v := .ref (adr mg "NoRows")) rfl T.e_NoRows.m rfl) pa_nil))) (pa_cons (pe_callB call_isH (by rfl) T.b_isinstance (by decide +kernel) (pa_cons (pv 0) (pa_cons (pe_glob (v := .ref (adr mg "BadTree")) rfl T.e_BadTree.m rfl) pa_nil))) (pa_cons (pe_callB call_isH (by rfl) T.b_isinstance (by decide +kernel) (pa_cons (pv 0) (pa_cons (pe_glob (v := .ref (adr mg "BadSheet")) rfl T.e_BadSheet.m rfl) pa_nil))) (pa_cons (pe_callB call_isH (by rfl) T.b_isinstance (by decide +kernel) (pa_cons (pv 0) (pa_cons (pe_glob (v := .ref (adr mg "BadRules")) rfl T.e_BadRules.m rfl) pa_nil))) pa_nil))))))
      (pss_cons (ps_set (i := 1) sc_law_classes.nd rfl (.inl rfl) (pe_op op_cat (pv 1) (pe_lst (pa_cons (pe_callB call_isH (by rfl) T.b_isinstance (by decide +kernel) (pa_cons (pv 0) (pa_cons (pe_glob (v := .ref (adr mg "BadTiming")) rfl T.e_BadTiming.m rfl) pa_nil))) (pa_cons (pe_callB call_isH (by rfl) T.b_isinstance (by decide +kernel) (pa_cons (pv 0) (pa_cons (pe_glob (v := .ref (adr mg "TooMany")) rfl T.e_TooMany.m rfl) pa_nil))) (pa_cons (pe_callB call_isH (by rfl) T.b_isinstance (by decide +kernel) (pa_cons (pv 0) (pa_cons (pe_glob (v := .ref (adr mg "BadText")) rfl T.e_BadText.m rfl) pa_nil))) (pa_cons (pe_callB call_isH (by rfl) T.b_isinstance (by decide +kernel) (pa_cons (pv 0) (pa_cons (pe_glob (v := .ref (adr mg "Barred")) rfl T.e_Barred.m rfl) pa_nil))) pa_nil)))))))
      (pss_cons (ps_set (i := 1) sc_law_classes.nd rfl (.inl rfl) (pe_op op_cat (pv 1) (pe_lst (pa_cons (pe_callB call_isH (by rfl) T.b_isinstance (by decide +kernel) (pa_cons (pv 0) (pa_cons (pe_glob (v := .ref (adr mg "BadSaid")) rfl T.e_BadSaid.m rfl) pa_nil))) (pa_cons (pe_callB call_isH (by rfl) T.b_isinstance (by decide +kernel) (pa_cons (pv 0) (pa_cons (pe_glob (v := .ref (adr mg "BadAnswer")) rfl T.e_BadAnswer.m rfl) pa_nil))) (pa_cons (pe_callB call_isH (by rfl) T.b_isinstance (by decide +kernel) (pa_cons (pv 0) (pa_cons (pe_glob (v := .ref (adr mg "NoMark")) rfl T.e_NoMark.m rfl) pa_nil))) pa_nil))))))
      (pss_cons (ps_set (i := 1) sc_law_classes.nd rfl (.inl rfl) (pe_op op_cat (pv 1) (pe_lst (pa_cons (pe_callB call_isH (by rfl) T.b_isinstance (by decide +kernel) (pa_cons (pv 0) (pa_cons (pe_glob (v := .ref (adr mg "BadJournal")) rfl T.e_BadJournal.m rfl) pa_nil))) (pa_cons (pe_callB call_isH (by rfl) T.b_isinstance (by decide +kernel) (pa_cons (pv 0) (pa_cons (pe_glob (v := .ref (adr mg "NoName")) rfl T.e_NoName.m rfl) pa_nil))) (pa_cons (pe_callB call_isH (by rfl) T.b_isinstance (by decide +kernel) (pa_cons (pv 0) (pa_cons (pe_glob (v := .ref (adr mg "BadTale")) rfl T.e_BadTale.m rfl) pa_nil))) (pa_cons (pe_callB call_isH (by rfl) T.b_isinstance (by decide +kernel) (pa_cons (pv 0) (pa_cons (pe_glob (v := .ref (adr mg "Failed")) rfl T.e_Failed.m rfl) pa_nil))) pa_nil)))))))
      (pss_cons (ps_set (i := 1) sc_law_classes.nd rfl (.inl rfl) (pe_op op_cat (pv 1) (pe_lst (pa_cons (pe_callB call_isH (by rfl) T.b_isinstance (by decide +kernel) (pa_cons (pv 0) (pa_cons (pe_glob (v := .ref (adr mg "NoClock")) rfl T.e_NoClock.m rfl) pa_nil))) (pa_cons (pe_callB call_isH (by rfl) T.b_isinstance (by decide +kernel) (pa_cons (pv 0) (pa_cons (pe_glob (v := .ref (adr mg "NoNumber")) rfl T.e_NoNumber.m rfl) pa_nil))) (pa_cons (pe_callB call_isH (by rfl) T.b_isinstance (by decide +kernel) (pa_cons (pv 0) (pa_cons (pe_glob (v := .ref (adr mg "NoRow")) rfl T.e_NoRow.m rfl) pa_nil))) (pa_cons (pe_callB call_isH (by rfl) T.b_isinstance (by decide +kernel) (pa_cons (pv 0) (pa_cons (pe_glob (v := .ref (adr mg "NoPost")) rfl T.e_NoPost.m rfl) pa_nil))) pa_nil)))))))
      (pss_cons (ps_set (i := 1) sc_law_classes.nd rfl (.inl rfl) (pe_op op_cat (pv 1) (pe_lst (pa_cons (pe_callB call_isH (by rfl) T.b_isinstance (by decide +kernel) (pa_cons (pv 0) (pa_cons (pe_glob (v := .ref (adr mg "NoWay")) rfl T.e_NoWay.m rfl) pa_nil))) (pa_cons (pe_callB call_isH (by rfl) T.b_isinstance (by decide +kernel) (pa_cons (pv 0) (pa_cons (pe_glob (v := .ref (adr mg "NoPlan")) rfl T.e_NoPlan.m rfl) pa_nil))) (pa_cons (pe_callB call_isH (by rfl) T.b_isinstance (by decide +kernel) (pa_cons (pv 0) (pa_cons (pe_glob (v := .ref (adr mg "NotRight")) rfl T.e_NotRight.m rfl) pa_nil))) (pa_cons (pe_callB call_isH (by rfl) T.b_isinstance (by decide +kernel) (pa_cons (pv 0) (pa_cons (pe_glob (v := .ref (adr mg "NotLeast")) rfl T.e_NotLeast.m rfl) pa_nil))) pa_nil)))))))
      (pss_cons (ps_set (i := 1) sc_law_classes.nd rfl (.inl rfl) (pe_op op_cat (pv 1) (pe_lst (pa_cons (pe_callB call_isH (by rfl) T.b_isinstance (by decide +kernel) (pa_cons (pv 0) (pa_cons (pe_glob (v := .ref (adr mg "NoGiven")) rfl T.e_NoGiven.m rfl) pa_nil))) (pa_cons (pe_callB call_isH (by rfl) T.b_isinstance (by decide +kernel) (pa_cons (pv 0) (pa_cons (pe_glob (v := .ref (adr mg "NoWays")) rfl T.e_NoWays.m rfl) pa_nil))) (pa_cons (pe_callB call_isH (by rfl) T.b_isinstance (by decide +kernel) (pa_cons (pv 0) (pa_cons (pe_glob (v := .ref (adr mg "NoOrder")) rfl T.e_NoOrder.m rfl) pa_nil))) (pa_cons (pe_callB call_isH (by rfl) T.b_isinstance (by decide +kernel) (pa_cons (pv 0) (pa_cons (pe_glob (v := .ref (adr mg "NoLot")) rfl T.e_NoLot.m rfl) pa_nil))) pa_nil)))))))
      (pss_cons (ps_set (i := 1) sc_law_classes.nd rfl (.inl rfl) (pe_op op_cat (pv 1) (pe_lst (pa_cons (pe_callB call_isH (by rfl) T.b_isinstance (by decide +kernel) (pa_cons (pv 0) (pa_cons (pe_glob (v := .ref (adr mg "NotUndoable")) rfl T.e_NotUndoable.m rfl) pa_nil))) (pa_cons (pe_callB call_isH (by rfl) T.b_isinstance (by decide +kernel) (pa_cons (pv 0) (pa_cons (pe_glob (v := .ref (adr mg "NotAfter")) rfl T.e_NotAfter.m rfl) pa_nil))) (pa_cons (pe_callB call_isH (by rfl) T.b_isinstance (by decide +kernel) (pa_cons (pv 0) (pa_cons (pe_glob (v := .ref (adr mg "NotAlike")) rfl T.e_NotAlike.m rfl) pa_nil))) pa_nil))))))
      (pss_cons (ps_set (i := 1) sc_law_classes.nd rfl (.inl rfl) (pe_op op_cat (pv 1) (pe_lst (pa_cons (pe_callB call_isH (by rfl) T.b_isinstance (by decide +kernel) (pa_cons (pv 0) (pa_cons (pe_glob (v := .ref (adr mg "NoAnswers")) rfl T.e_NoAnswers.m rfl) pa_nil))) (pa_cons (pe_callB call_isH (by rfl) T.b_isinstance (by decide +kernel) (pa_cons (pv 0) (pa_cons (pe_glob (v := .ref (adr mg "NoCounts")) rfl T.e_NoCounts.m rfl) pa_nil))) (pa_cons (pe_callB call_isH (by rfl) T.b_isinstance (by decide +kernel) (pa_cons (pv 0) (pa_cons (pe_glob (v := .ref (adr mg "NoTable")) rfl T.e_NoTable.m rfl) pa_nil))) pa_nil))))))
      (pss_cons (ps_set (i := 1) sc_law_classes.nd rfl (.inl rfl) (pe_op op_cat (pv 1) (pe_lst (pa_cons (pe_callB call_isH (by rfl) T.b_isinstance (by decide +kernel) (pa_cons (pv 0) (pa_cons (pe_glob (v := .ref (adr mg "NotSure")) rfl T.e_NotSure.m rfl) pa_nil))) (pa_cons (pe_callB call_isH (by rfl) T.b_isinstance (by decide +kernel) (pa_cons (pv 0) (pa_cons (pe_glob (v := .ref (adr mg "NoRule")) rfl T.e_NoRule.m rfl) pa_nil))) (pa_cons (pe_callB call_isH (by rfl) T.b_isinstance (by decide +kernel) (pa_cons (pv 0) (pa_cons (pe_glob (v := .ref (adr mg "NotRow")) rfl T.e_NotRow.m rfl) pa_nil))) (pa_cons (pe_callB call_isH (by rfl) T.b_isinstance (by decide +kernel) (pa_cons (pv 0) (pa_cons (pe_glob (v := .ref (adr mg "NoTick")) rfl T.e_NoTick.m rfl) pa_nil))) pa_nil)))))))
      (pss_cons (ps_set (i := 1) sc_law_classes.nd rfl (.inl rfl) (pe_op op_cat (pv 1) (pe_lst (pa_cons (pe_callB call_isH (by rfl) T.b_isinstance (by decide +kernel) (pa_cons (pv 0) (pa_cons (pe_glob (v := .ref (adr mg "NoCut")) rfl T.e_NoCut.m rfl) pa_nil))) (pa_cons (pe_callB call_isH (by rfl) T.b_isinstance (by decide +kernel) (pa_cons (pv 0) (pa_cons (pe_glob (v := .ref (adr mg "NoHours")) rfl T.e_NoHours.m rfl) pa_nil))) (pa_cons (pe_callB call_isH (by rfl) T.b_isinstance (by decide +kernel) (pa_cons (pv 0) (pa_cons (pe_glob (v := .ref (adr mg "NotOne")) rfl T.e_NotOne.m rfl) pa_nil))) (pa_cons (pe_callB call_isH (by rfl) T.b_isinstance (by decide +kernel) (pa_cons (pv 0) (pa_cons (pe_glob (v := .ref (adr mg "NotPlanned")) rfl T.e_NotPlanned.m rfl) pa_nil))) pa_nil)))))))
      (pss_cons (ps_set (i := 1) sc_law_classes.nd rfl (.inl rfl) (pe_op op_cat (pv 1) (pe_lst (pa_cons (pe_callB call_isH (by rfl) T.b_isinstance (by decide +kernel) (pa_cons (pv 0) (pa_cons (pe_glob (v := .ref (adr mg "NoProgram")) rfl T.e_NoProgram.m rfl) pa_nil))) (pa_cons (pe_callB call_isH (by rfl) T.b_isinstance (by decide +kernel) (pa_cons (pv 0) (pa_cons (pe_glob (v := .ref (adr mg "NoWant")) rfl T.e_NoWant.m rfl) pa_nil))) (pa_cons (pe_callB call_isH (by rfl) T.b_isinstance (by decide +kernel) (pa_cons (pv 0) (pa_cons (pe_glob (v := .ref (adr mg "NoValue")) rfl T.e_NoValue.m rfl) pa_nil))) pa_nil))))))
      (pss_cons (ps_set (i := 1) sc_law_classes.nd rfl (.inl rfl) (pe_op op_cat (pv 1) (pe_lst (pa_cons (pe_callB call_isH (by rfl) T.b_isinstance (by decide +kernel) (pa_cons (pv 0) (pa_cons (pe_glob (v := .ref (adr mg "NoValues")) rfl T.e_NoValues.m rfl) pa_nil))) (pa_cons (pe_callB call_isH (by rfl) T.b_isinstance (by decide +kernel) (pa_cons (pv 0) (pa_cons (pe_glob (v := .ref (adr mg "NotEmpty")) rfl T.e_NotEmpty.m rfl) pa_nil))) (pa_cons (pe_callB call_isH (by rfl) T.b_isinstance (by decide +kernel) (pa_cons (pv 0) (pa_cons (pe_glob (v := .ref (adr mg "Full")) rfl T.e_Full.m rfl) pa_nil))) pa_nil))))))
      (pss_cons (ps_set (i := 1) sc_law_classes.nd rfl (.inl rfl) (pe_op op_cat (pv 1) (pe_lst (pa_cons (pe_callB call_isH (by rfl) T.b_isinstance (by decide +kernel) (pa_cons (pv 0) (pa_cons (pe_glob (v := .ref (adr mg "NothingDone")) rfl T.e_NothingDone.m rfl) pa_nil))) (pa_cons (pe_callB call_isH (by rfl) T.b_isinstance (by decide +kernel) (pa_cons (pv 0) (pa_cons (pe_glob (v := .ref (adr mg "NoLine")) rfl T.e_NoLine.m rfl) pa_nil))) (pa_cons (pe_callB call_isH (by rfl) T.b_isinstance (by decide +kernel) (pa_cons (pv 0) (pa_cons (pe_glob (v := .ref (adr mg "TooLong")) rfl T.e_TooLong.m rfl) pa_nil))) pa_nil))))))
      (pss_one (ps_ret (pe_lc (own := [("at", 2), ("flag", 3)]) (g := gTup K 2 (gCons (gName 2) (gCons (gName 3) gNil))) rfl sc_law_classes.nd (pi_enum (by rfl) T.b_enumerate (pa_cons (pv 1) pa_nil)) (blkOk_by (N := N_law_classes) (sc := defScope s_law_classes) (by decide +kernel))
            (fun _ _ _ _ _ => pgT rfl rfl (pgs_cons (pg_name (i := 2) sc_law_classes.nd rfl (Or.inl rfl)) (pgs_cons (pg_name (i := 3) sc_law_classes.nd rfl (Or.inl rfl)) pgs_nil))) (fun _ _ _ _ _ => pts_one (pt_val (pv 3))) (fun _ _ _ _ _ => pv 2))))))))))))))))), ?_⟩
    have kk : ∀ {j : Nat} {n : Str} (x : EX K mg n (adr mg n)), j < 50 → NX[j + 1]? = some n → PySem.W.kitOne K (.ref C) (.ref (adr mg n)) = some (fl j) := fun {j n} x hj e => kit_sub x.ec.hd x.ty (by have z := subN T.u_all e e; rw [z]; simp) (hk j n hj e)
    dsimp only [tSeq, tAsg, gName]
    refine ⟨_, rfl, a, C, dd, _, _, _, rfl, ha, hd, ec, ref_cls, kk (j := 0) T.e_NoRows (by decide) rfl, _, rfl, a, C, dd, _, _, _, rfl, ha, hd, ec, ref_cls, kk (j := 1) T.e_BadTree (by decide) rfl, _, rfl, a, C, dd, _, _, _, rfl, ha, hd, ec, ref_cls, kk (j := 2) T.e_BadSheet (by decide) rfl, _, rfl, a, C, dd, _, _, _, rfl, ha, hd, ec, ref_cls, kk (j := 3) T.e_BadRules (by decide) rfl, by show 4 ≤ sizeLine; decide, fun l0 n0 => ?_⟩
    have s0 := same_new (o := .lst [V.bl (fl 0), V.bl (fl 1), V.bl (fl 2), V.bl (fl 3)]) n0
    have z0 := upd_same (H := H) (a := l0) (o := .lst [V.bl (fl 0), V.bl (fl 1), V.bl (fl 2), V.bl (fl 3)])
    generalize upd H l0 (.lst [V.bl (fl 0), V.bl (fl 1), V.bl (fl 2), V.bl (fl 3)]) = H0 at *
    refine ⟨_, rfl, _, rfl, a, C, dd, _, _, _, rfl, (s0 _ _ ha), (xdo_same s0 hd), ec, ref_cls, kk (j := 4) T.e_BadTiming (by decide) rfl, _, rfl, a, C, dd, _, _, _, rfl, (s0 _ _ ha), (xdo_same s0 hd), ec, ref_cls, kk (j := 5) T.e_TooMany (by decide) rfl, _, rfl, a, C, dd, _, _, _, rfl, (s0 _ _ ha), (xdo_same s0 hd), ec, ref_cls, kk (j := 6) T.e_BadText (by decide) rfl, _, rfl, a, C, dd, _, _, _, rfl, (s0 _ _ ha), (xdo_same s0 hd), ec, ref_cls, kk (j := 7) T.e_Barred (by decide) rfl, by show 4 ≤ sizeLine; decide, fun l1 n1 => ?_⟩
    have y1 := same_new (o := .lst [V.bl (fl 4), V.bl (fl 5), V.bl (fl 6), V.bl (fl 7)]) n1
    refine ⟨l0, l1, _, _, rfl, rfl, y1 _ _ z0, upd_same, by show 4 + 4 ≤ sizeLine; decide, fun m1 nm1 => ?_⟩
    have s1 := (s0.trans y1).trans (same_new (o := .lst ((List.range 8).map fun i => V.bl (fl i))) nm1)
    have z1 : (upd (upd H0 l1 (.lst [V.bl (fl 4), V.bl (fl 5), V.bl (fl 6), V.bl (fl 7)])) m1 (.lst ((List.range 8).map fun i => V.bl (fl i)))) m1 = some (.lst ((List.range 8).map fun i => V.bl (fl i))) := upd_same
    rw [show ([V.bl (fl 0), V.bl (fl 1), V.bl (fl 2), V.bl (fl 3)] ++ [V.bl (fl 4), V.bl (fl 5), V.bl (fl 6), V.bl (fl 7)] : List V) = (List.range 8).map (fun i => V.bl (fl i)) from rfl]
    generalize upd (upd H0 l1 (.lst [V.bl (fl 4), V.bl (fl 5), V.bl (fl 6), V.bl (fl 7)])) m1 (.lst ((List.range 8).map fun i => V.bl (fl i))) = H1 at *
    dsimp only [tSeq, gName]
    refine ⟨_, rfl, _, rfl, a, C, dd, _, _, _, rfl, (s1 _ _ ha), (xdo_same s1 hd), ec, ref_cls, kk (j := 8) T.e_BadSaid (by decide) rfl, _, rfl, a, C, dd, _, _, _, rfl, (s1 _ _ ha), (xdo_same s1 hd), ec, ref_cls, kk (j := 9) T.e_BadAnswer (by decide) rfl, _, rfl, a, C, dd, _, _, _, rfl, (s1 _ _ ha), (xdo_same s1 hd), ec, ref_cls, kk (j := 10) T.e_NoMark (by decide) rfl, by show 3 ≤ sizeLine; decide, fun l2 n2 => ?_⟩
    have y2 := same_new (o := .lst [V.bl (fl 8), V.bl (fl 9), V.bl (fl 10)]) n2
    refine ⟨m1, l2, _, _, rfl, rfl, y2 _ _ z1, upd_same, by show 8 + 3 ≤ sizeLine; decide, fun m2 nm2 => ?_⟩
    have s2 := (s1.trans y2).trans (same_new (o := .lst ((List.range 11).map fun i => V.bl (fl i))) nm2)
    have z2 : (upd (upd H1 l2 (.lst [V.bl (fl 8), V.bl (fl 9), V.bl (fl 10)])) m2 (.lst ((List.range 11).map fun i => V.bl (fl i)))) m2 = some (.lst ((List.range 11).map fun i => V.bl (fl i))) := upd_same
    rw [show ((List.range 8).map (fun i => V.bl (fl i)) ++ [V.bl (fl 8), V.bl (fl 9), V.bl (fl 10)] : List V) = (List.range 11).map (fun i => V.bl (fl i)) from rfl]
    generalize upd (upd H1 l2 (.lst [V.bl (fl 8), V.bl (fl 9), V.bl (fl 10)])) m2 (.lst ((List.range 11).map fun i => V.bl (fl i))) = H2 at *
    dsimp only [tSeq, gName]
    refine ⟨_, rfl, _, rfl, a, C, dd, _, _, _, rfl, (s2 _ _ ha), (xdo_same s2 hd), ec, ref_cls, kk (j := 11) T.e_BadJournal (by decide) rfl, _, rfl, a, C, dd, _, _, _, rfl, (s2 _ _ ha), (xdo_same s2 hd), ec, ref_cls, kk (j := 12) T.e_NoName (by decide) rfl, _, rfl, a, C, dd, _, _, _, rfl, (s2 _ _ ha), (xdo_same s2 hd), ec, ref_cls, kk (j := 13) T.e_BadTale (by decide) rfl, _, rfl, a, C, dd, _, _, _, rfl, (s2 _ _ ha), (xdo_same s2 hd), ec, ref_cls, kk (j := 14) T.e_Failed (by decide) rfl, by show 4 ≤ sizeLine; decide, fun l3 n3 => ?_⟩
    have y3 := same_new (o := .lst [V.bl (fl 11), V.bl (fl 12), V.bl (fl 13), V.bl (fl 14)]) n3
    refine ⟨m2, l3, _, _, rfl, rfl, y3 _ _ z2, upd_same, by show 11 + 4 ≤ sizeLine; decide, fun m3 nm3 => ?_⟩
    have s3 := (s2.trans y3).trans (same_new (o := .lst ((List.range 15).map fun i => V.bl (fl i))) nm3)
    have z3 : (upd (upd H2 l3 (.lst [V.bl (fl 11), V.bl (fl 12), V.bl (fl 13), V.bl (fl 14)])) m3 (.lst ((List.range 15).map fun i => V.bl (fl i)))) m3 = some (.lst ((List.range 15).map fun i => V.bl (fl i))) := upd_same
    rw [show ((List.range 11).map (fun i => V.bl (fl i)) ++ [V.bl (fl 11), V.bl (fl 12), V.bl (fl 13), V.bl (fl 14)] : List V) = (List.range 15).map (fun i => V.bl (fl i)) from rfl]
    generalize upd (upd H2 l3 (.lst [V.bl (fl 11), V.bl (fl 12), V.bl (fl 13), V.bl (fl 14)])) m3 (.lst ((List.range 15).map fun i => V.bl (fl i))) = H3 at *
    dsimp only [tSeq, gName]
    refine ⟨_, rfl, _, rfl, a, C, dd, _, _, _, rfl, (s3 _ _ ha), (xdo_same s3 hd), ec, ref_cls, kk (j := 15) T.e_NoClock (by decide) rfl, _, rfl, a, C, dd, _, _, _, rfl, (s3 _ _ ha), (xdo_same s3 hd), ec, ref_cls, kk (j := 16) T.e_NoNumber (by decide) rfl, _, rfl, a, C, dd, _, _, _, rfl, (s3 _ _ ha), (xdo_same s3 hd), ec, ref_cls, kk (j := 17) T.e_NoRow (by decide) rfl, _, rfl, a, C, dd, _, _, _, rfl, (s3 _ _ ha), (xdo_same s3 hd), ec, ref_cls, kk (j := 18) T.e_NoPost (by decide) rfl, by show 4 ≤ sizeLine; decide, fun l4 n4 => ?_⟩
    have y4 := same_new (o := .lst [V.bl (fl 15), V.bl (fl 16), V.bl (fl 17), V.bl (fl 18)]) n4
    refine ⟨m3, l4, _, _, rfl, rfl, y4 _ _ z3, upd_same, by show 15 + 4 ≤ sizeLine; decide, fun m4 nm4 => ?_⟩
    have s4 := (s3.trans y4).trans (same_new (o := .lst ((List.range 19).map fun i => V.bl (fl i))) nm4)
    have z4 : (upd (upd H3 l4 (.lst [V.bl (fl 15), V.bl (fl 16), V.bl (fl 17), V.bl (fl 18)])) m4 (.lst ((List.range 19).map fun i => V.bl (fl i)))) m4 = some (.lst ((List.range 19).map fun i => V.bl (fl i))) := upd_same
    rw [show ((List.range 15).map (fun i => V.bl (fl i)) ++ [V.bl (fl 15), V.bl (fl 16), V.bl (fl 17), V.bl (fl 18)] : List V) = (List.range 19).map (fun i => V.bl (fl i)) from rfl]
    generalize upd (upd H3 l4 (.lst [V.bl (fl 15), V.bl (fl 16), V.bl (fl 17), V.bl (fl 18)])) m4 (.lst ((List.range 19).map fun i => V.bl (fl i))) = H4 at *
    dsimp only [tSeq, gName]
    refine ⟨_, rfl, _, rfl, a, C, dd, _, _, _, rfl, (s4 _ _ ha), (xdo_same s4 hd), ec, ref_cls, kk (j := 19) T.e_NoWay (by decide) rfl, _, rfl, a, C, dd, _, _, _, rfl, (s4 _ _ ha), (xdo_same s4 hd), ec, ref_cls, kk (j := 20) T.e_NoPlan (by decide) rfl, _, rfl, a, C, dd, _, _, _, rfl, (s4 _ _ ha), (xdo_same s4 hd), ec, ref_cls, kk (j := 21) T.e_NotRight (by decide) rfl, _, rfl, a, C, dd, _, _, _, rfl, (s4 _ _ ha), (xdo_same s4 hd), ec, ref_cls, kk (j := 22) T.e_NotLeast (by decide) rfl, by show 4 ≤ sizeLine; decide, fun l5 n5 => ?_⟩
    have y5 := same_new (o := .lst [V.bl (fl 19), V.bl (fl 20), V.bl (fl 21), V.bl (fl 22)]) n5
    refine ⟨m4, l5, _, _, rfl, rfl, y5 _ _ z4, upd_same, by show 19 + 4 ≤ sizeLine; decide, fun m5 nm5 => ?_⟩
    have s5 := (s4.trans y5).trans (same_new (o := .lst ((List.range 23).map fun i => V.bl (fl i))) nm5)
    have z5 : (upd (upd H4 l5 (.lst [V.bl (fl 19), V.bl (fl 20), V.bl (fl 21), V.bl (fl 22)])) m5 (.lst ((List.range 23).map fun i => V.bl (fl i)))) m5 = some (.lst ((List.range 23).map fun i => V.bl (fl i))) := upd_same
    rw [show ((List.range 19).map (fun i => V.bl (fl i)) ++ [V.bl (fl 19), V.bl (fl 20), V.bl (fl 21), V.bl (fl 22)] : List V) = (List.range 23).map (fun i => V.bl (fl i)) from rfl]
    generalize upd (upd H4 l5 (.lst [V.bl (fl 19), V.bl (fl 20), V.bl (fl 21), V.bl (fl 22)])) m5 (.lst ((List.range 23).map fun i => V.bl (fl i))) = H5 at *
    dsimp only [tSeq, gName]
    refine ⟨_, rfl, _, rfl, a, C, dd, _, _, _, rfl, (s5 _ _ ha), (xdo_same s5 hd), ec, ref_cls, kk (j := 23) T.e_NoGiven (by decide) rfl, _, rfl, a, C, dd, _, _, _, rfl, (s5 _ _ ha), (xdo_same s5 hd), ec, ref_cls, kk (j := 24) T.e_NoWays (by decide) rfl, _, rfl, a, C, dd, _, _, _, rfl, (s5 _ _ ha), (xdo_same s5 hd), ec, ref_cls, kk (j := 25) T.e_NoOrder (by decide) rfl, _, rfl, a, C, dd, _, _, _, rfl, (s5 _ _ ha), (xdo_same s5 hd), ec, ref_cls, kk (j := 26) T.e_NoLot (by decide) rfl, by show 4 ≤ sizeLine; decide, fun l6 n6 => ?_⟩
    have y6 := same_new (o := .lst [V.bl (fl 23), V.bl (fl 24), V.bl (fl 25), V.bl (fl 26)]) n6
    refine ⟨m5, l6, _, _, rfl, rfl, y6 _ _ z5, upd_same, by show 23 + 4 ≤ sizeLine; decide, fun m6 nm6 => ?_⟩
    have s6 := (s5.trans y6).trans (same_new (o := .lst ((List.range 27).map fun i => V.bl (fl i))) nm6)
    have z6 : (upd (upd H5 l6 (.lst [V.bl (fl 23), V.bl (fl 24), V.bl (fl 25), V.bl (fl 26)])) m6 (.lst ((List.range 27).map fun i => V.bl (fl i)))) m6 = some (.lst ((List.range 27).map fun i => V.bl (fl i))) := upd_same
    rw [show ((List.range 23).map (fun i => V.bl (fl i)) ++ [V.bl (fl 23), V.bl (fl 24), V.bl (fl 25), V.bl (fl 26)] : List V) = (List.range 27).map (fun i => V.bl (fl i)) from rfl]
    generalize upd (upd H5 l6 (.lst [V.bl (fl 23), V.bl (fl 24), V.bl (fl 25), V.bl (fl 26)])) m6 (.lst ((List.range 27).map fun i => V.bl (fl i))) = H6 at *
    dsimp only [tSeq, gName]
    refine ⟨_, rfl, _, rfl, a, C, dd, _, _, _, rfl, (s6 _ _ ha), (xdo_same s6 hd), ec, ref_cls, kk (j := 27) T.e_NotUndoable (by decide) rfl, _, rfl, a, C, dd, _, _, _, rfl, (s6 _ _ ha), (xdo_same s6 hd), ec, ref_cls, kk (j := 28) T.e_NotAfter (by decide) rfl, _, rfl, a, C, dd, _, _, _, rfl, (s6 _ _ ha), (xdo_same s6 hd), ec, ref_cls, kk (j := 29) T.e_NotAlike (by decide) rfl, by show 3 ≤ sizeLine; decide, fun l7 n7 => ?_⟩
    have y7 := same_new (o := .lst [V.bl (fl 27), V.bl (fl 28), V.bl (fl 29)]) n7
    refine ⟨m6, l7, _, _, rfl, rfl, y7 _ _ z6, upd_same, by show 27 + 3 ≤ sizeLine; decide, fun m7 nm7 => ?_⟩
    have s7 := (s6.trans y7).trans (same_new (o := .lst ((List.range 30).map fun i => V.bl (fl i))) nm7)
    have z7 : (upd (upd H6 l7 (.lst [V.bl (fl 27), V.bl (fl 28), V.bl (fl 29)])) m7 (.lst ((List.range 30).map fun i => V.bl (fl i)))) m7 = some (.lst ((List.range 30).map fun i => V.bl (fl i))) := upd_same
    rw [show ((List.range 27).map (fun i => V.bl (fl i)) ++ [V.bl (fl 27), V.bl (fl 28), V.bl (fl 29)] : List V) = (List.range 30).map (fun i => V.bl (fl i)) from rfl]
    generalize upd (upd H6 l7 (.lst [V.bl (fl 27), V.bl (fl 28), V.bl (fl 29)])) m7 (.lst ((List.range 30).map fun i => V.bl (fl i))) = H7 at *
    dsimp only [tSeq, gName]
    refine ⟨_, rfl, _, rfl, a, C, dd, _, _, _, rfl, (s7 _ _ ha), (xdo_same s7 hd), ec, ref_cls, kk (j := 30) T.e_NoAnswers (by decide) rfl, _, rfl, a, C, dd, _, _, _, rfl, (s7 _ _ ha), (xdo_same s7 hd), ec, ref_cls, kk (j := 31) T.e_NoCounts (by decide) rfl, _, rfl, a, C, dd, _, _, _, rfl, (s7 _ _ ha), (xdo_same s7 hd), ec, ref_cls, kk (j := 32) T.e_NoTable (by decide) rfl, by show 3 ≤ sizeLine; decide, fun l8 n8 => ?_⟩
    have y8 := same_new (o := .lst [V.bl (fl 30), V.bl (fl 31), V.bl (fl 32)]) n8
    refine ⟨m7, l8, _, _, rfl, rfl, y8 _ _ z7, upd_same, by show 30 + 3 ≤ sizeLine; decide, fun m8 nm8 => ?_⟩
    have s8 := (s7.trans y8).trans (same_new (o := .lst ((List.range 33).map fun i => V.bl (fl i))) nm8)
    have z8 : (upd (upd H7 l8 (.lst [V.bl (fl 30), V.bl (fl 31), V.bl (fl 32)])) m8 (.lst ((List.range 33).map fun i => V.bl (fl i)))) m8 = some (.lst ((List.range 33).map fun i => V.bl (fl i))) := upd_same
    rw [show ((List.range 30).map (fun i => V.bl (fl i)) ++ [V.bl (fl 30), V.bl (fl 31), V.bl (fl 32)] : List V) = (List.range 33).map (fun i => V.bl (fl i)) from rfl]
    generalize upd (upd H7 l8 (.lst [V.bl (fl 30), V.bl (fl 31), V.bl (fl 32)])) m8 (.lst ((List.range 33).map fun i => V.bl (fl i))) = H8 at *
    dsimp only [tSeq, gName]
    refine ⟨_, rfl, _, rfl, a, C, dd, _, _, _, rfl, (s8 _ _ ha), (xdo_same s8 hd), ec, ref_cls, kk (j := 33) T.e_NotSure (by decide) rfl, _, rfl, a, C, dd, _, _, _, rfl, (s8 _ _ ha), (xdo_same s8 hd), ec, ref_cls, kk (j := 34) T.e_NoRule (by decide) rfl, _, rfl, a, C, dd, _, _, _, rfl, (s8 _ _ ha), (xdo_same s8 hd), ec, ref_cls, kk (j := 35) T.e_NotRow (by decide) rfl, _, rfl, a, C, dd, _, _, _, rfl, (s8 _ _ ha), (xdo_same s8 hd), ec, ref_cls, kk (j := 36) T.e_NoTick (by decide) rfl, by show 4 ≤ sizeLine; decide, fun l9 n9 => ?_⟩
    have y9 := same_new (o := .lst [V.bl (fl 33), V.bl (fl 34), V.bl (fl 35), V.bl (fl 36)]) n9
    refine ⟨m8, l9, _, _, rfl, rfl, y9 _ _ z8, upd_same, by show 33 + 4 ≤ sizeLine; decide, fun m9 nm9 => ?_⟩
    have s9 := (s8.trans y9).trans (same_new (o := .lst ((List.range 37).map fun i => V.bl (fl i))) nm9)
    have z9 : (upd (upd H8 l9 (.lst [V.bl (fl 33), V.bl (fl 34), V.bl (fl 35), V.bl (fl 36)])) m9 (.lst ((List.range 37).map fun i => V.bl (fl i)))) m9 = some (.lst ((List.range 37).map fun i => V.bl (fl i))) := upd_same
    rw [show ((List.range 33).map (fun i => V.bl (fl i)) ++ [V.bl (fl 33), V.bl (fl 34), V.bl (fl 35), V.bl (fl 36)] : List V) = (List.range 37).map (fun i => V.bl (fl i)) from rfl]
    generalize upd (upd H8 l9 (.lst [V.bl (fl 33), V.bl (fl 34), V.bl (fl 35), V.bl (fl 36)])) m9 (.lst ((List.range 37).map fun i => V.bl (fl i))) = H9 at *
    dsimp only [tSeq, gName]
    refine ⟨_, rfl, _, rfl, a, C, dd, _, _, _, rfl, (s9 _ _ ha), (xdo_same s9 hd), ec, ref_cls, kk (j := 37) T.e_NoCut (by decide) rfl, _, rfl, a, C, dd, _, _, _, rfl, (s9 _ _ ha), (xdo_same s9 hd), ec, ref_cls, kk (j := 38) T.e_NoHours (by decide) rfl, _, rfl, a, C, dd, _, _, _, rfl, (s9 _ _ ha), (xdo_same s9 hd), ec, ref_cls, kk (j := 39) T.e_NotOne (by decide) rfl, _, rfl, a, C, dd, _, _, _, rfl, (s9 _ _ ha), (xdo_same s9 hd), ec, ref_cls, kk (j := 40) T.e_NotPlanned (by decide) rfl, by show 4 ≤ sizeLine; decide, fun l10 n10 => ?_⟩
    have y10 := same_new (o := .lst [V.bl (fl 37), V.bl (fl 38), V.bl (fl 39), V.bl (fl 40)]) n10
    refine ⟨m9, l10, _, _, rfl, rfl, y10 _ _ z9, upd_same, by show 37 + 4 ≤ sizeLine; decide, fun m10 nm10 => ?_⟩
    have s10 := (s9.trans y10).trans (same_new (o := .lst ((List.range 41).map fun i => V.bl (fl i))) nm10)
    have z10 : (upd (upd H9 l10 (.lst [V.bl (fl 37), V.bl (fl 38), V.bl (fl 39), V.bl (fl 40)])) m10 (.lst ((List.range 41).map fun i => V.bl (fl i)))) m10 = some (.lst ((List.range 41).map fun i => V.bl (fl i))) := upd_same
    rw [show ((List.range 37).map (fun i => V.bl (fl i)) ++ [V.bl (fl 37), V.bl (fl 38), V.bl (fl 39), V.bl (fl 40)] : List V) = (List.range 41).map (fun i => V.bl (fl i)) from rfl]
    generalize upd (upd H9 l10 (.lst [V.bl (fl 37), V.bl (fl 38), V.bl (fl 39), V.bl (fl 40)])) m10 (.lst ((List.range 41).map fun i => V.bl (fl i))) = H10 at *
    dsimp only [tSeq, gName]
    refine ⟨_, rfl, _, rfl, a, C, dd, _, _, _, rfl, (s10 _ _ ha), (xdo_same s10 hd), ec, ref_cls, kk (j := 41) T.e_NoProgram (by decide) rfl, _, rfl, a, C, dd, _, _, _, rfl, (s10 _ _ ha), (xdo_same s10 hd), ec, ref_cls, kk (j := 42) T.e_NoWant (by decide) rfl, _, rfl, a, C, dd, _, _, _, rfl, (s10 _ _ ha), (xdo_same s10 hd), ec, ref_cls, kk (j := 43) T.e_NoValue (by decide) rfl, by show 3 ≤ sizeLine; decide, fun l11 n11 => ?_⟩
    have y11 := same_new (o := .lst [V.bl (fl 41), V.bl (fl 42), V.bl (fl 43)]) n11
    refine ⟨m10, l11, _, _, rfl, rfl, y11 _ _ z10, upd_same, by show 41 + 3 ≤ sizeLine; decide, fun m11 nm11 => ?_⟩
    have s11 := (s10.trans y11).trans (same_new (o := .lst ((List.range 44).map fun i => V.bl (fl i))) nm11)
    have z11 : (upd (upd H10 l11 (.lst [V.bl (fl 41), V.bl (fl 42), V.bl (fl 43)])) m11 (.lst ((List.range 44).map fun i => V.bl (fl i)))) m11 = some (.lst ((List.range 44).map fun i => V.bl (fl i))) := upd_same
    rw [show ((List.range 41).map (fun i => V.bl (fl i)) ++ [V.bl (fl 41), V.bl (fl 42), V.bl (fl 43)] : List V) = (List.range 44).map (fun i => V.bl (fl i)) from rfl]
    generalize upd (upd H10 l11 (.lst [V.bl (fl 41), V.bl (fl 42), V.bl (fl 43)])) m11 (.lst ((List.range 44).map fun i => V.bl (fl i))) = H11 at *
    dsimp only [tSeq, gName]
    refine ⟨_, rfl, _, rfl, a, C, dd, _, _, _, rfl, (s11 _ _ ha), (xdo_same s11 hd), ec, ref_cls, kk (j := 44) T.e_NoValues (by decide) rfl, _, rfl, a, C, dd, _, _, _, rfl, (s11 _ _ ha), (xdo_same s11 hd), ec, ref_cls, kk (j := 45) T.e_NotEmpty (by decide) rfl, _, rfl, a, C, dd, _, _, _, rfl, (s11 _ _ ha), (xdo_same s11 hd), ec, ref_cls, kk (j := 46) T.e_Full (by decide) rfl, by show 3 ≤ sizeLine; decide, fun l12 n12 => ?_⟩
    have y12 := same_new (o := .lst [V.bl (fl 44), V.bl (fl 45), V.bl (fl 46)]) n12
    refine ⟨m11, l12, _, _, rfl, rfl, y12 _ _ z11, upd_same, by show 44 + 3 ≤ sizeLine; decide, fun m12 nm12 => ?_⟩
    have s12 := (s11.trans y12).trans (same_new (o := .lst ((List.range 47).map fun i => V.bl (fl i))) nm12)
    have z12 : (upd (upd H11 l12 (.lst [V.bl (fl 44), V.bl (fl 45), V.bl (fl 46)])) m12 (.lst ((List.range 47).map fun i => V.bl (fl i)))) m12 = some (.lst ((List.range 47).map fun i => V.bl (fl i))) := upd_same
    rw [show ((List.range 44).map (fun i => V.bl (fl i)) ++ [V.bl (fl 44), V.bl (fl 45), V.bl (fl 46)] : List V) = (List.range 47).map (fun i => V.bl (fl i)) from rfl]
    generalize upd (upd H11 l12 (.lst [V.bl (fl 44), V.bl (fl 45), V.bl (fl 46)])) m12 (.lst ((List.range 47).map fun i => V.bl (fl i))) = H12 at *
    dsimp only [tSeq, gName]
    refine ⟨_, rfl, _, rfl, a, C, dd, _, _, _, rfl, (s12 _ _ ha), (xdo_same s12 hd), ec, ref_cls, kk (j := 47) T.e_NothingDone (by decide) rfl, _, rfl, a, C, dd, _, _, _, rfl, (s12 _ _ ha), (xdo_same s12 hd), ec, ref_cls, kk (j := 48) T.e_NoLine (by decide) rfl, _, rfl, a, C, dd, _, _, _, rfl, (s12 _ _ ha), (xdo_same s12 hd), ec, ref_cls, kk (j := 49) T.e_TooLong (by decide) rfl, by show 3 ≤ sizeLine; decide, fun l13 n13 => ?_⟩
    have y13 := same_new (o := .lst [V.bl (fl 47), V.bl (fl 48), V.bl (fl 49)]) n13
    refine ⟨m12, l13, _, _, rfl, rfl, y13 _ _ z12, upd_same, by show 47 + 3 ≤ sizeLine; decide, fun m13 nm13 => ?_⟩
    have s13 := (s12.trans y13).trans (same_new (o := .lst ((List.range 50).map fun i => V.bl (fl i))) nm13)
    have z13 : (upd (upd H12 l13 (.lst [V.bl (fl 47), V.bl (fl 48), V.bl (fl 49)])) m13 (.lst ((List.range 50).map fun i => V.bl (fl i)))) m13 = some (.lst ((List.range 50).map fun i => V.bl (fl i))) := upd_same
    rw [show ((List.range 47).map (fun i => V.bl (fl i)) ++ [V.bl (fl 47), V.bl (fl 48), V.bl (fl 49)] : List V) = (List.range 50).map (fun i => V.bl (fl i)) from rfl]
    generalize upd (upd H12 l13 (.lst [V.bl (fl 47), V.bl (fl 48), V.bl (fl 49)])) m13 (.lst ((List.range 50).map fun i => V.bl (fl i))) = H13 at *
    dsimp only [tSeq, gName]
    dsimp only [tRet]
    clear kk hk ec hd
    refine at_st (σ' := [some (.ref a), some (.ref m13), none, none]) rfl ?_
    refine ⟨_, rfl, m13, _, rfl, .of z13, fun D hD => ?_⟩
    refine lc_fm (walk_enum (xs := (List.range 50).map fun i => V.bl (fl i))) rInt (fun i => if fl i = true then some (i : Int) else none) hD (fun H' s' => .of (s' _ _ z13)) ?_ ?_
    · rintro i x H2 H3 hi pv ⟨tz, u1, u2, rfl, nz, rfl, e1, e2⟩
      cases (Option.some.inj e1)
      have hi : i < 50 := by rw [List.length_map, List.length_range] at hi; exact hi
      have s3 := same_new (o := .tup [V.int (i : Nat), u2]) nz
      have hu : u2 = V.bl (fl i) := by
        have e2 : ((List.range 50).map fun i => V.bl (fl i))[i]? = some u2 := e2
        rw [List.getElem?_map, List.getElem?_range hi] at e2
        exact (Option.some.inj e2).symm
      subst hu
      refine ⟨tz, _, rfl, .of upd_same, rfl, _, _, rfl, _, _, rfl, rfl, rfl, ?_⟩
      refine ⟨_, rfl, _, rfl, ?_⟩
      by_cases h : fl i = true
      · exact iteT' h ⟨_, rfl, fm_keep mono_int pv hD (by omega) s3 (if_pos h) rfl⟩
      · exact iteF' (Bool.eq_false_iff.mpr h) (fm_skip mono_int pv s3 (if_neg h))
    · intro H5 ys s5 hD5 hp5
      have := paired_int hp5
      subst this
      rw [List.length_map, List.length_range] at hD5
      exact q _ D (s13.trans s5) hD5
end
end S4

namespace S4
open PySem L2 TT MM EE
theorem below_intB (v : V) : below v 201 = intB 0 200 v := by
  cases v with
  | int n =>
    show decide (0 ≤ n ∧ n < 201) = (decide (0 ≤ n) && decide (n ≤ 200))
    rw [← Bool.decide_and]
    exact decide_eq_decide.mpr ⟨fun h => ⟨h.1, by omega⟩, fun h => ⟨h.1, by omega⟩⟩
  | _ => rfl
theorem fstBad_keep {g : Addr} {H H' : Hp} {p wd : Int} {xs : List V} (h : ∀ x ∈ xs, Th g H 1 x) (b : But g H H') : fstBad p wd H' xs = fstBad p wd H xs := by
  have e : ∀ i ∈ List.range xs.length, (!rowB p wd H' (xs.getD i .non)) = (!rowB p wd H (xs.getD i .non)) := fun i hi => by
    have hi := List.mem_range.mp hi
    have e : xs.getD i .non = xs[i] := getD_non (List.getElem?_eq_getElem hi)
    rw [e, rowB_keep (h _ (List.getElem_mem hi)) b]
  unfold fstBad
  have go : ∀ l : List Nat, (∀ i ∈ l, (!rowB p wd H' (xs.getD i .non)) = (!rowB p wd H (xs.getD i .non))) → l.find? (fun i => !rowB p wd H' (xs.getD i .non)) = l.find? (fun i => !rowB p wd H (xs.getD i .non)) := fun l => by
    induction l with
    | nil => intro _; rfl
    | cons a l ih =>
      intro h
      rw [List.find?_cons, List.find?_cons, h a (by simp), ih fun i hi => h i (by simp [hi])]
  exact go _ e
theorem dueOf_let {o : Option Nat} : dueOf o = .let ↔ o = none := by cases o <;> simp [dueOf]
section
variable {P : Program} {w : World} {K : PySem.W.Frag} {mg : Str → Option Value} {base : Heap} {cT cS : Addr}
def spCkRows (K : PySem.W.Frag) (mg : Str → Option Value) : Sp := fun vs H Q E => ∃ (g : Addr) (p wd rows : V), vs = [p, wd, rows] ∧ Th g H 0 p ∧ Th g H 0 wd ∧ ThS g H rows ∧ (rowsD H p wd rows = .let → ∀ H', Same H H' → Q .non H') ∧ ErrD mg E H (rowsD H p wd rows)
theorem ok_ckRows (T : Tx K mg cT cS) {f : Addr} {fd : FuncData} (d : D K mg "check_rows" s_check_rows ["p", "wide", "rows"] f fd) : FnOk P w K mg base (L2.CX P w) 5 f fd ["p", "wide", "rows"] (spCkRows K mg) := by
  obtain ⟨fB, fdB, eB⟩ := T.n_NoRows; have GB : FnOk P w K mg base CX0 1 fB fdB ["self", "index"] (spRowsInit (adr mg "NoRows")) := ok_NoRows eB
  obtain ⟨f1, fd1, d1⟩ := T.d_check_clock
  have G1 := ok_ckClk (P := P) (w := w) (base := base) T d1
  obtain ⟨f2, fd2, d2⟩ := T.d_is_below
  have G2 := ok_is_belowT (P := P) (w := w) (base := base) T d2
  obtain ⟨f3, fd3, d3⟩ := T.d_check_each
  have G3 := ok_ckEach (P := P) (w := w) (base := base) T d3
  obtain ⟨tk_MOST_WIDE, h_MOST_WIDE⟩ := T.c_MOST_WIDE
  obtain ⟨tk_MOST_ROWS, h_MOST_ROWS⟩ := T.c_MOST_ROWS
  refine d.F.okX sc_check_rows (fun vs H Q E h => ?_) (fun cdv A outer s H vs Q E hr h => ?_)
  · obtain ⟨g, p, wd, rows, rfl, _⟩ := h
    rfl
  · obtain ⟨g, p, wd, rows, rfl, tp, tw, tr, q1, q2⟩ := h
    refine ⟨_, pss_cons (ps_expr (pe_call G1 (hr.mono (by decide)) rfl d1.m d1.F.kp d1.b .nil (passes_call (takes_of rfl rfl rfl rfl) (fun _ _ _ _ h => h)) (pa_cons (pv 0) pa_nil)))
      (pss_cons (ps_if (pt_not (pt_val (pe_call G2 (hr.mono (by decide)) rfl d2.m d2.F.kp d2.b .nil pass0 (pa_cons (pv 1) (pa_cons (pe_op op_add (pe_glob (v := .int 200) rfl h_MOST_WIDE ⟨_, rfl⟩) pe_int) pa_nil))))) (pss_one (ps_raise rfl (takes_of rfl rfl rfl rfl) (pmk_own0 PySem.F.excBase_ValueError T.p_NoNumber T.e_NoNumber.m T.e_NoNumber.kp (raises_own T.e_NoNumber.ec.hs T.e_NoNumber.ty) rfl))) pss_nil)
      (pss_cons (ps_if (PW.pt (pw_or (pt_not (pt_val (pe_callB call_isiT (by rfl) T.b_isinstance (by decide +kernel) (pa_cons (pv 2) (pa_cons (pe_tup (pa_cons (ty_list T.b_list) (pa_cons (ty_tuple T.b_tuple) pa_nil))) pa_nil))))) (pw_or1 (pt_cmpR op_gt (pe_callB call_len_seq (by rfl) T.b_len PySem.boot_len (pa_cons (pv 2) pa_nil)) (pe_glob (v := .int 200) rfl h_MOST_ROWS ⟨_, rfl⟩) (nomark _))))) (pss_one (ps_raise rfl (takes_of rfl rfl rfl rfl) (pmk_oex eB.oc eB.iC eB.tI GB (hr.mono (by decide)) eB.b .nil pass0 rfl T.e_NoRows.m (pa_cons (pe_un un_neg pe_int) pa_nil)))) pss_nil)
      (pss_one (ps_expr (pe_call G3 (hr.mono (by decide)) rfl d3.m d3.F.kp d3.b .nil (passes_call (takes_of rfl rfl rfl rfl) (fun _ _ _ _ h => h)) (pa_cons (pv 0) (pa_cons (pv 1) (pa_cons (pv 2) pa_nil)))))))), ?_⟩
    unfold rowsD at q1 q2
    refine ⟨_, rfl, g, p, rfl, tp, ?_, ?_⟩
    rotate_left
    · intro hc
      rw [hc] at q2
      exact q2
    intro hc H1 s1
    rw [if_pos hc] at q1 q2
    refine ⟨_, rfl, _, _, rfl, rfl, g, wd, _, rfl, tw.same s1, _, rfl, ?_⟩
    rw [show ((200 : Int) + 1) = 201 from rfl, below_intB]
    by_cases hw : intB 0 200 wd = true
    rotate_left
    · rw [if_neg hw] at q2
      rw [Bool.eq_false_iff.mpr hw]
      exact iteT (q2 _ s1)
    rw [if_pos hw] at q1 q2
    rw [hw]
    obtain ⟨n, rfl, nd⟩ := clk_iff.mp hc
    obtain ⟨m, rfl⟩ : ∃ m, wd = .int m := by cases wd <;> first | exact ⟨_, rfl⟩ | (exfalso; cases hw)
    refine iteF ⟨_, rfl, by show 2 ≤ sizeLine; decide, fun tt ntt => ?_⟩
    have s2 := s1.trans (same_new (o := .tup [V.ty "list", V.ty "tuple"]) ntt)
    obtain ⟨t, ty, k0, _, _, k3⟩ := (tr.th.same s2).kind K
    refine ⟨_, tt, _, _, _, _, rfl, upd_same, .cons (.ty _) (.cons (.ty _) .nil), ty, kitAny_lt k3 k0, _, rfl, ?_⟩
    rw [kind_seq (tr.th.same s2), seqOf_keep tr.th (s2.but g)]
    unfold eachD at q1 q2
    cases es : seqOf H rows with
    | none =>
      rw [es] at q2
      refine iteT ⟨1, rfl, by show 1 ≤ 1000; decide, fun a' ha' => ?_⟩
      exact mk_norows (fun H' d s' hd hxd => ErrD.same (D := .rows (-1)) q2 s2 H' d s' hd hxd) a' ha'
    | some xs =>
      rw [es] at q1 q2
      obtain ⟨hl, hm⟩ := tr.mem es
      obtain ⟨a, rfl, hS⟩ := seqOf_some es
      have hS1 : _ ∨ _ := hS.imp (fun h => s2 _ _ h) (fun h => s2 _ _ h)
      have q1 : (if 200 < xs.length then Due.rows (-1) else dueOf (fstBad n m H xs)) = .let → ∀ H', Same H H' → Q .non H' := q1
      have q2 : ErrD mg E H (if 200 < xs.length then Due.rows (-1) else dueOf (fstBad n m H xs)) := q2
      refine iteF ⟨_, rfl, a, xs, rfl, hS1.imp .of .of, _, _, rfl, rfl, _, rfl, ?_⟩
      by_cases h2 : 200 < xs.length
      · rw [if_pos h2] at q2
        rw [decide_eq_true (show (200 : Int) < ((xs.length : Nat) : Int) by omega)]
        refine iteT ⟨1, rfl, by show 1 ≤ 1000; decide, fun a' ha' => ?_⟩
        exact mk_norows (fun H' d s' hd hxd => ErrD.same (D := .rows (-1)) q2 s2 H' d s' hd hxd) a' ha'
      rw [if_neg h2] at q1 q2
      rw [decide_eq_false (show ¬ (200 : Int) < ((xs.length : Nat) : Int) by omega)]
      refine iteF ⟨_, rfl, _, rfl, _, rfl, g, a, n, m, xs, rfl, hS1, fun x hx => (hm x hx).same s2, ?_, ?_⟩
      · rw [fstBad_keep hm (s2.but g)]
        exact fun h H' s' => q1 (dueOf_let.mpr h) _ (s2.trans s')
      · rw [fstBad_keep hm (s2.but g)]
        exact q2.same s2
end
end S4

namespace S4
open PySem L2 TT MM EE
/-! ### what is asked of rows, with what is refused -/
theorem FnOk_lift {P : Program} {w : World} {K : PySem.W.Frag} {mg : Str → Option Value} {base : Heap} {CX : CXT} {k : Nat} {f : Addr} {fd : FuncData} {ps : List Str} {a : Sp} (A : FnOk P w K mg base CX0 k f fd ps a) : FnOk P w K mg base CX k f fd ps a :=
  ⟨A.len, fun A' outer s H args us vs Q E hr he hb hv h => codeAny_mono (A.run A' outer s H args us vs Q E hr he hb hv h) fun r s' q => by
    cases r with
    | ok f => cases f <;> exact q
    | error e => exact (show False from q).elim⟩
theorem rows_typed {g : Addr} {H : Hp} {p wd rows : V} (tr : ThS g H rows) (h : rowsD H p wd rows = .let) : ∃ (n : Int) (m : Nat) (a : Addr) (xs : List V) (rws : List (List Int)), p = .int n ∧ NoDiv n ∧ wd = .int (m : Int) ∧ m ≤ 200 ∧ rows = .ref a ∧ (H a = some (.lst xs) ∨ H a = some (.tup xs)) ∧ Paired (rRow H) xs rws ∧ rws.length ≤ 200 ∧ ∀ r ∈ rws, isRow r n (m : Int) := by
  unfold rowsD at h
  by_cases hc : clkB p = true
  rotate_left
  · rw [if_neg hc] at h; cases h
  rw [if_pos hc] at h
  by_cases hw : intB 0 200 wd = true
  rotate_left
  · rw [if_neg hw] at h; cases h
  rw [if_pos hw] at h
  obtain ⟨n, rfl, nd⟩ := clk_iff.mp hc
  obtain ⟨m, rfl⟩ : ∃ m, wd = .int m := by cases wd <;> first | exact ⟨_, rfl⟩ | (exfalso; cases hw)
  have hm : 0 ≤ m ∧ m ≤ 200 := by
    have hw : (decide (0 ≤ m) && decide (m ≤ 200)) = true := hw
    rw [Bool.and_eq_true] at hw
    exact ⟨of_decide_eq_true hw.1, of_decide_eq_true hw.2⟩
  unfold eachD at h
  cases es : seqOf H rows with
  | none => rw [es] at h; cases h
  | some xs =>
    rw [es] at h
    have h : (if 200 < xs.length then Due.rows (-1) else dueOf (fstBad n m H xs)) = .let := h
    by_cases h2 : 200 < xs.length
    · rw [if_pos h2] at h; cases h
    rw [if_neg h2] at h
    have hf := dueOf_let.mp h
    unfold fstBad at hf
    rw [List.find?_range_eq_none] at hf
    obtain ⟨a, rfl, hS⟩ := seqOf_some es
    have hx : ∀ x ∈ xs, rowB n m H x = true := fun x hx => by
      obtain ⟨i, hi, rfl⟩ := List.getElem_of_mem hx
      have := hf i hi
      rw [getD_non (List.getElem?_eq_getElem hi)] at this
      simpa using this
    have go : ∀ ys : List V, (∀ x ∈ ys, rowB n m H x = true) → ∃ rws, Paired (rRow H) ys rws ∧ ∀ r ∈ rws, isRow r n m := fun ys => by
      induction ys with
      | nil => exact fun _ => ⟨[], .nil, fun _ h => nomatch h⟩
      | cons y ys ih =>
        intro h
        obtain ⟨a, l, e, ha, hl⟩ := rowB_some (h y (by simp))
        obtain ⟨rws, h1, h2⟩ := ih fun x hx => h x (by simp [hx])
        refine ⟨l :: rws, .cons ⟨a, e, ha⟩ h1, fun r hr => ?_⟩
        rcases List.mem_cons.mp hr with rfl | hr
        · exact hl
        · exact h2 r hr
    obtain ⟨rws, h1, h3⟩ := go xs hx
    have em : ((m.toNat : Nat) : Int) = m := by omega
    refine ⟨n, m.toNat, a, xs, rws, rfl, nd, by rw [em], by omega, rfl, hS, h1, by rw [← paired_len h1]; omega, fun r hr => by rw [em]; exact h3 r hr⟩
section
variable {P : Program} {w : World} {K : PySem.W.Frag} {mg : Str → Option Value} {base : Heap} {cT cS : Addr}
/-- the rows are refused -/
def spRefR (K : PySem.W.Frag) (mg : Str → Option Value) (k : Nat) : Sp := fun vs H Q E => ∃ (g : Addr) (p wd rows : V) (more : List V), vs = p :: wd :: rows :: more ∧ more.length = k ∧ Th g H 0 p ∧ Th g H 0 wd ∧ ThS g H rows ∧ rowsD H p wd rows ≠ .let ∧ ErrD mg E H (rowsD H p wd rows)
/-- all is told, or it is refused -/
def spAskR (K : PySem.W.Frag) (mg : Str → Option Value) : Sp := fun vs H Q E => ∃ (g : Addr) (p wd rows : V), vs = [p, wd, rows] ∧ Th g H 0 p ∧ Th g H 0 wd ∧ ThS g H rows ∧ (rowsD H p wd rows = .let → intOf1 wd < 64) ∧ (rowsD H p wd rows = .let → ∀ H' v, Same H H' → Q v H') ∧ ErrD mg E H (rowsD H p wd rows)
theorem ok_ladderR (T : Tx K mg cT cS) {f : Addr} {fd : FuncData} (d : D K mg "ladder" s_ladder ["p", "wide", "rows"] f fd) : FnOk P w K mg base (L2.CX P w) 6 f fd ["p", "wide", "rows"] (spRefR K mg 0) := by
  obtain ⟨f1, fd1, d1⟩ := T.d_check_rows
  have G1 := ok_ckRows (P := P) (w := w) (base := base) T d1
  refine d.F.okX sc_ladder (fun vs H Q E h => ?_) (fun cdv A outer s H vs Q E hr h => ?_)
  · obtain ⟨g, p, wd, rows, more, rfl, hk, _⟩ := h
    rw [List.length_eq_zero_iff.mp hk]
    rfl
  · obtain ⟨g, p, wd, rows, more, rfl, hk, tp, tw, tr, ne, qe⟩ := h
    rw [List.length_eq_zero_iff.mp hk]
    exact ⟨_, pss_cons (ps_expr (pe_call G1 (hr.mono (by decide)) rfl d1.m d1.F.kp d1.b .nil (passes_call (takes_of rfl rfl rfl rfl) (fun _ _ _ _ h => h)) (pa_cons (pv 0) (pa_cons (pv 1) (pa_cons (pv 2) pa_nil))))) pss_never,
      ⟨_, rfl, _, rfl, _, rfl, g, p, wd, rows, rfl, tp, tw, tr, fun h => absurd h ne, qe⟩⟩
theorem ok_ladderT (T : Tx K mg cT cS) {f : Addr} {fd : FuncData} (d : D K mg "ladder" s_ladder ["p", "wide", "rows"] f fd) : FnOk P w K mg base (L2.CX P w) 6 f fd ["p", "wide", "rows"] (spAskR K mg) := by
  refine (FnOk_or (FnOk_lift (ok_ladder (P := P) (w := w) (base := base) T d)) (ok_ladderR T d)).imp fun vs H Q E ⟨g, p, wd, rows, e, tp, tw, tr, h64, q, qe⟩ => ?_
  by_cases h : rowsD H p wd rows = .let
  · have h6 := h64 h
    obtain ⟨n, m, a, xs, rws, rfl, nd, rfl, hm, rfl, hS, hp, hl, hr⟩ := rows_typed tr h
    have h6 : (m : Int) < 64 := h6
    exact .inl ⟨a, n, m, xs, rws, e, hS, hp, hl, nd, hm, .inl (by omega), hr, fun H' v lad s _ _ _ => q h H' v s⟩
  · exact .inr ⟨g, p, wd, rows, [], e, rfl, tp, tw, tr, h, qe⟩
theorem ok_rankR (T : Tx K mg cT cS) {f : Addr} {fd : FuncData} (d : D K mg "rank" s_rank ["p", "wide", "rows"] f fd) : FnOk P w K mg base (L2.CX P w) 6 f fd ["p", "wide", "rows"] (spRefR K mg 0) := by
  obtain ⟨f1, fd1, d1⟩ := T.d_check_rows
  have G1 := ok_ckRows (P := P) (w := w) (base := base) T d1
  refine d.F.okX sc_rank (fun vs H Q E h => ?_) (fun cdv A outer s H vs Q E hr h => ?_)
  · obtain ⟨g, p, wd, rows, more, rfl, hk, _⟩ := h
    rw [List.length_eq_zero_iff.mp hk]
    rfl
  · obtain ⟨g, p, wd, rows, more, rfl, hk, tp, tw, tr, ne, qe⟩ := h
    rw [List.length_eq_zero_iff.mp hk]
    exact ⟨_, pss_cons (ps_expr (pe_call G1 (hr.mono (by decide)) rfl d1.m d1.F.kp d1.b .nil (passes_call (takes_of rfl rfl rfl rfl) (fun _ _ _ _ h => h)) (pa_cons (pv 0) (pa_cons (pv 1) (pa_cons (pv 2) pa_nil))))) pss_never,
      ⟨_, rfl, _, rfl, _, rfl, g, p, wd, rows, rfl, tp, tw, tr, fun h => absurd h ne, qe⟩⟩
theorem ok_rankT (T : Tx K mg cT cS) {f : Addr} {fd : FuncData} (d : D K mg "rank" s_rank ["p", "wide", "rows"] f fd) : FnOk P w K mg base (L2.CX P w) 6 f fd ["p", "wide", "rows"] (spAskR K mg) := by
  refine (FnOk_or (FnOk_lift (ok_rank (P := P) (w := w) (base := base) T d)) (ok_rankR T d)).imp fun vs H Q E ⟨g, p, wd, rows, e, tp, tw, tr, h64, q, qe⟩ => ?_
  by_cases h : rowsD H p wd rows = .let
  · obtain ⟨n, m, a, xs, rws, rfl, nd, rfl, hm, rfl, hS, hp, hl, hr⟩ := rows_typed tr h
    exact .inl ⟨a, n, m, xs, rws, e, hS, hp, hl, nd, hm, hr, fun H' v s _ _ => q h H' _ s⟩
  · exact .inr ⟨g, p, wd, rows, [], e, rfl, tp, tw, tr, h, qe⟩
theorem ok_squareR (T : Tx K mg cT cS) {f : Addr} {fd : FuncData} (d : D K mg "square" s_square ["p", "wide", "rows"] f fd) : FnOk P w K mg base (L2.CX P w) 6 f fd ["p", "wide", "rows"] (spRefR K mg 0) := by
  obtain ⟨f1, fd1, d1⟩ := T.d_check_rows
  have G1 := ok_ckRows (P := P) (w := w) (base := base) T d1
  refine d.F.okX sc_square (fun vs H Q E h => ?_) (fun cdv A outer s H vs Q E hr h => ?_)
  · obtain ⟨g, p, wd, rows, more, rfl, hk, _⟩ := h
    rw [List.length_eq_zero_iff.mp hk]
    rfl
  · obtain ⟨g, p, wd, rows, more, rfl, hk, tp, tw, tr, ne, qe⟩ := h
    rw [List.length_eq_zero_iff.mp hk]
    exact ⟨_, pss_cons (ps_expr (pe_call G1 (hr.mono (by decide)) rfl d1.m d1.F.kp d1.b .nil (passes_call (takes_of rfl rfl rfl rfl) (fun _ _ _ _ h => h)) (pa_cons (pv 0) (pa_cons (pv 1) (pa_cons (pv 2) pa_nil))))) pss_never,
      ⟨_, rfl, _, rfl, _, rfl, g, p, wd, rows, rfl, tp, tw, tr, fun h => absurd h ne, qe⟩⟩
theorem ok_squareT (T : Tx K mg cT cS) {f : Addr} {fd : FuncData} (d : D K mg "square" s_square ["p", "wide", "rows"] f fd) : FnOk P w K mg base (L2.CX P w) 6 f fd ["p", "wide", "rows"] (spAskR K mg) := by
  refine (FnOk_or (FnOk_lift (ok_square (P := P) (w := w) (base := base) T d)) (ok_squareR T d)).imp fun vs H Q E ⟨g, p, wd, rows, e, tp, tw, tr, h64, q, qe⟩ => ?_
  by_cases h : rowsD H p wd rows = .let
  · have h6 := h64 h
    obtain ⟨n, m, a, xs, rws, rfl, nd, rfl, hm, rfl, hS, hp, hl, hr⟩ := rows_typed tr h
    have h6 : (m : Int) < 64 := h6
    exact .inl ⟨a, n, m, xs, rws, e, hS, hp, hl, nd, hm, .inl (by omega), hr, fun H' t t1 t2 rs ys s _ _ _ _ _ _ => q h H' _ s⟩
  · exact .inr ⟨g, p, wd, rows, [], e, rfl, tp, tw, tr, h, qe⟩
/-! ### with a row more -/
noncomputable def rowD (H : Hp) (p wd rows row : V) : Due := match rowsD H p wd rows with
  | .let => if rowB (intOf1 p) (intOf1 wd) H row = true then .let else .row
  | D => D
/-- the row is refused, or the rows -/
def spRefW (K : PySem.W.Frag) (mg : Str → Option Value) : Sp := fun vs H Q E => ∃ (g : Addr) (p wd rows row : V), vs = [p, wd, rows, row] ∧ Th g H 0 p ∧ Th g H 0 wd ∧ ThS g H rows ∧ Th g H 1 row ∧ rowD H p wd rows row ≠ .let ∧ ErrD mg E H (rowD H p wd rows row)
def spAskW (K : PySem.W.Frag) (mg : Str → Option Value) : Sp := fun vs H Q E => ∃ (g : Addr) (p wd rows row : V), vs = [p, wd, rows, row] ∧ Th g H 0 p ∧ Th g H 0 wd ∧ ThS g H rows ∧ Th g H 1 row ∧ (rowD H p wd rows row = .let → ∀ H' v, Same H H' → Q v H') ∧ ErrD mg E H (rowD H p wd rows row)
theorem ref_row {g : Addr} {H : Hp} {p wd rows row : V} {E : XK} {X : Hp → Prop} (tr : ThS g H rows) (tw : Th g H 1 row) (ne : rowD H p wd rows row ≠ .let) (qe : ErrD mg E H (rowD H p wd rows row))
    (hX : ∀ (n m : Int), p = .int n → wd = .int m → rowB n m H row = false → ErrD mg E H .row → ∀ H', Same H H' → X H') : (rowsD H p wd rows = .let → ∀ H', Same H H' → X H') ∧ ErrD mg E H (rowsD H p wd rows) := by
  unfold rowD at ne qe
  cases hd : rowsD H p wd rows with
  | «let» =>
    refine ⟨fun _ H' s => ?_, True.intro⟩
    rw [hd] at ne qe
    obtain ⟨n, m, a, xs, rws, rfl, nd, rfl, hm, rfl, hS, hp, hl, hr⟩ := rows_typed tr hd
    have ne : (if rowB n (m : Int) H row = true then Due.let else Due.row) ≠ .let := ne
    have qe : ErrD mg E H (if rowB n (m : Int) H row = true then Due.let else Due.row) := qe
    by_cases hb : rowB n (m : Int) H row = true
    · rw [if_pos hb] at ne; exact absurd rfl ne
    · rw [if_neg hb] at qe
      exact hX n m rfl rfl (Bool.eq_false_iff.mpr hb) qe H' s
  | clock => rw [hd] at qe; exact ⟨fun h => (by cases h), qe⟩
  | number => rw [hd] at qe; exact ⟨fun h => (by cases h), qe⟩
  | row => rw [hd] at qe; exact ⟨fun h => (by cases h), qe⟩
  | rows i => rw [hd] at qe; exact ⟨fun h => (by cases h), qe⟩
theorem row_typed {g : Addr} {H : Hp} {p wd rows row : V} (tr : ThS g H rows) (h : rowD H p wd rows row = .let) : ∃ (n : Int) (m : Nat) (a : Addr) (xs : List V) (rws : List (List Int)) (l : List Int), p = .int n ∧ NoDiv n ∧ wd = .int (m : Int) ∧ m ≤ 200 ∧ rows = .ref a ∧ (H a = some (.lst xs) ∨ H a = some (.tup xs)) ∧ Paired (rRow H) xs rws ∧ rws.length ≤ 200 ∧ (∀ r ∈ rws, isRow r n (m : Int)) ∧ rRow H row l ∧ isRow l n (m : Int) := by
  unfold rowD at h
  cases hd : rowsD H p wd rows with
  | «let» =>
    rw [hd] at h
    obtain ⟨n, m, a, xs, rws, rfl, nd, rfl, hm, rfl, hS, hp, hl, hr⟩ := rows_typed tr hd
    have h : (if rowB n (m : Int) H row = true then Due.let else Due.row) = .let := h
    by_cases hb : rowB n (m : Int) H row = true
    · obtain ⟨b, l, e, hb2, hl2⟩ := rowB_some hb
      exact ⟨n, m, a, xs, rws, l, rfl, nd, rfl, hm, rfl, hS, hp, hl, hr, ⟨b, e, hb2⟩, hl2⟩
    · rw [if_neg hb] at h; cases h
  | clock => rw [hd] at h; cases h
  | number => rw [hd] at h; cases h
  | row => rw [hd] at h; cases h
  | rows i => rw [hd] at h; cases h
theorem ok_mixtureR (T : Tx K mg cT cS) {f : Addr} {fd : FuncData} (d : D K mg "mixture" s_mixture ["p", "wide", "rows", "row"] f fd) : FnOk P w K mg base (L2.CX P w) 6 f fd ["p", "wide", "rows", "row"] (spRefW K mg) := by
  obtain ⟨f1, fd1, d1⟩ := T.d_check_rows
  have G1 := ok_ckRows (P := P) (w := w) (base := base) T d1
  obtain ⟨f2, fd2, d2⟩ := T.d_check_row
  have G2 := ok_ckRow (P := P) (w := w) (base := base) T d2
  refine d.F.okX sc_mixture (fun vs H Q E h => ?_) (fun cdv A outer s H vs Q E hr h => ?_)
  · obtain ⟨g, p, wd, rows, row, rfl, _⟩ := h
    rfl
  · obtain ⟨g, p, wd, rows, row, rfl, tp, tw, tr, to, ne, qe⟩ := h
    refine ⟨_, pss_cons (ps_expr (pe_call G1 (hr.mono (by decide)) rfl d1.m d1.F.kp d1.b .nil (passes_call (takes_of rfl rfl rfl rfl) (fun _ _ _ _ h => h)) (pa_cons (pv 0) (pa_cons (pv 1) (pa_cons (pv 2) pa_nil)))))
      (pss_cons (ps_expr (pe_call G2 (hr.mono (by decide)) rfl d2.m d2.F.kp d2.b .nil (passes_call (takes_of rfl rfl rfl rfl) (fun _ _ _ _ h => h)) (pa_cons (pv 0) (pa_cons (pv 1) (pa_cons (pv 3) pa_nil))))) pss_never), ?_⟩
    refine ⟨_, rfl, _, rfl, _, rfl, g, p, wd, rows, rfl, tp, tw, tr, ref_row tr to ne qe fun n m e1 e2 hb qr H' s => ?_⟩
    subst e1 e2
    exact ⟨_, rfl, _, rfl, _, rfl, g, row, n, m, rfl, to.same s, (fun h => by rw [rowB_keep to (s.but g), hb] at h; cases h), fun _ => qr.same s⟩
theorem ok_mixtureT (T : Tx K mg cT cS) {f : Addr} {fd : FuncData} (d : D K mg "mixture" s_mixture ["p", "wide", "rows", "row"] f fd) : FnOk P w K mg base (L2.CX P w) 6 f fd ["p", "wide", "rows", "row"] (spAskW K mg) := by
  refine (FnOk_or (FnOk_lift (ok_mixture (P := P) (w := w) (base := base) T d)) (ok_mixtureR T d)).imp fun vs H Q E ⟨g, p, wd, rows, row, e, tp, tw, tr, to, q, qe⟩ => ?_
  by_cases h : rowD H p wd rows row = .let
  · obtain ⟨n, m, a, xs, rws, l, rfl, nd, rfl, hm, rfl, hS, hp, hl, hr, hrl, hil⟩ := row_typed tr h
    exact .inl ⟨a, n, m, xs, rws, row, l, e, hS, hp, hl, nd, hm, hr, hrl, hil, fun H' v s _ => q h H' _ s⟩
  · exact .inr ⟨g, p, wd, rows, row, e, tp, tw, tr, to, h, qe⟩
theorem ok_partingR (T : Tx K mg cT cS) {f : Addr} {fd : FuncData} (d : D K mg "parting" s_parting ["p", "wide", "rows", "row"] f fd) : FnOk P w K mg base (L2.CX P w) 6 f fd ["p", "wide", "rows", "row"] (spRefW K mg) := by
  obtain ⟨f1, fd1, d1⟩ := T.d_check_rows
  have G1 := ok_ckRows (P := P) (w := w) (base := base) T d1
  obtain ⟨f2, fd2, d2⟩ := T.d_check_row
  have G2 := ok_ckRow (P := P) (w := w) (base := base) T d2
  refine d.F.okX sc_parting (fun vs H Q E h => ?_) (fun cdv A outer s H vs Q E hr h => ?_)
  · obtain ⟨g, p, wd, rows, row, rfl, _⟩ := h
    rfl
  · obtain ⟨g, p, wd, rows, row, rfl, tp, tw, tr, to, ne, qe⟩ := h
    refine ⟨_, pss_cons (ps_expr (pe_call G1 (hr.mono (by decide)) rfl d1.m d1.F.kp d1.b .nil (passes_call (takes_of rfl rfl rfl rfl) (fun _ _ _ _ h => h)) (pa_cons (pv 0) (pa_cons (pv 1) (pa_cons (pv 2) pa_nil)))))
      (pss_cons (ps_expr (pe_call G2 (hr.mono (by decide)) rfl d2.m d2.F.kp d2.b .nil (passes_call (takes_of rfl rfl rfl rfl) (fun _ _ _ _ h => h)) (pa_cons (pv 0) (pa_cons (pv 1) (pa_cons (pv 3) pa_nil))))) pss_never), ?_⟩
    refine ⟨_, rfl, _, rfl, _, rfl, g, p, wd, rows, rfl, tp, tw, tr, ref_row tr to ne qe fun n m e1 e2 hb qr H' s => ?_⟩
    subst e1 e2
    exact ⟨_, rfl, _, rfl, _, rfl, g, row, n, m, rfl, to.same s, (fun h => by rw [rowB_keep to (s.but g), hb] at h; cases h), fun _ => qr.same s⟩
theorem ok_partingT (T : Tx K mg cT cS) {f : Addr} {fd : FuncData} (d : D K mg "parting" s_parting ["p", "wide", "rows", "row"] f fd) : FnOk P w K mg base (L2.CX P w) 6 f fd ["p", "wide", "rows", "row"] (spAskW K mg) := by
  refine (FnOk_or (FnOk_lift (ok_parting (P := P) (w := w) (base := base) T d)) (ok_partingR T d)).imp fun vs H Q E ⟨g, p, wd, rows, row, e, tp, tw, tr, to, q, qe⟩ => ?_
  by_cases h : rowD H p wd rows row = .let
  · obtain ⟨n, m, a, xs, rws, l, rfl, nd, rfl, hm, rfl, hS, hp, hl, hr, hrl, hil⟩ := row_typed tr h
    exact .inl ⟨a, n, m, xs, rws, row, l, e, hS, hp, hl, nd, hm, hr, hrl, hil, fun H' v s _ => q h H' _ s⟩
  · exact .inr ⟨g, p, wd, rows, row, e, tp, tw, tr, to, h, qe⟩
end
end S4

namespace S4
open PySem L2 TT MM EE
/-! ### the determinant, with what is refused -/
theorem sq_typed {g : Addr} {H : Hp} {p rows : V} (tr : ThS g H rows) (h : sqD H p rows = .let) : ∃ (n : Int) (a : Addr) (xs : List V) (rws : List (List Int)), p = .int n ∧ NoDiv n ∧ rows = .ref a ∧ (H a = some (.lst xs) ∨ H a = some (.tup xs)) ∧ Paired (rRow H) xs rws ∧ rws.length ≤ 60 ∧ ∀ r ∈ rws, isRow r n (rws.length : Int) := by
  unfold sqD at h
  by_cases hc : clkB p = true
  rotate_left
  · rw [if_neg hc] at h; cases h
  rw [if_pos hc] at h
  obtain ⟨n, rfl, nd⟩ := clk_iff.mp hc
  cases es : seqOf H rows with
  | none => rw [es] at h; cases h
  | some xs =>
    rw [es] at h
    have h : (if 60 < xs.length then Due.rows (-1) else dueOf (fstBad n (xs.length : Int) H xs)) = .let := h
    by_cases h2 : 60 < xs.length
    · rw [if_pos h2] at h; cases h
    rw [if_neg h2] at h
    have hf := dueOf_let.mp h
    unfold fstBad at hf
    rw [List.find?_range_eq_none] at hf
    obtain ⟨a, rfl, hS⟩ := seqOf_some es
    have hx : ∀ x ∈ xs, rowB n (xs.length : Int) H x = true := fun x hx => by
      obtain ⟨i, hi, rfl⟩ := List.getElem_of_mem hx
      have := hf i hi
      rw [getD_non (List.getElem?_eq_getElem hi)] at this
      simpa using this
    have go : ∀ ys : List V, (∀ x ∈ ys, rowB n (xs.length : Int) H x = true) → ∃ rws, Paired (rRow H) ys rws ∧ ∀ r ∈ rws, isRow r n (xs.length : Int) := fun ys => by
      induction ys with
      | nil => exact fun _ => ⟨[], .nil, fun _ h => nomatch h⟩
      | cons y ys ih =>
        intro h
        obtain ⟨a, l, e, ha, hl⟩ := rowB_some (h y (by simp))
        obtain ⟨rws, h1, h2⟩ := ih fun x hx => h x (by simp [hx])
        refine ⟨l :: rws, .cons ⟨a, e, ha⟩ h1, fun r hr => ?_⟩
        rcases List.mem_cons.mp hr with rfl | hr
        · exact hl
        · exact h2 r hr
    obtain ⟨rws, h1, h3⟩ := go xs hx
    have el := paired_len h1
    exact ⟨n, a, xs, rws, rfl, nd, rfl, hS, h1, by omega, fun r hr => by rw [← el]; exact h3 r hr⟩
section
variable {P : Program} {w : World} {K : PySem.W.Frag} {mg : Str → Option Value} {base : Heap} {cT cS : Addr}
def spRefD (K : PySem.W.Frag) (mg : Str → Option Value) : Sp := fun vs H Q E => ∃ (g : Addr) (p rows : V), vs = [p, rows] ∧ Th g H 0 p ∧ ThS g H rows ∧ sqD H p rows ≠ .let ∧ ErrD mg E H (sqD H p rows)
def spAskD (K : PySem.W.Frag) (mg : Str → Option Value) : Sp := fun vs H Q E => ∃ (g : Addr) (p rows : V), vs = [p, rows] ∧ Th g H 0 p ∧ ThS g H rows ∧ (sqD H p rows = .let → ∀ H' v, Same H H' → Q v H') ∧ ErrD mg E H (sqD H p rows)
theorem ok_detR (T : Tx K mg cT cS) {f : Addr} {fd : FuncData} (d : D K mg "determinant" s_determinant ["p", "rows"] f fd) : FnOk P w K mg base (L2.CX P w) 6 f fd ["p", "rows"] (spRefD K mg) := by
  obtain ⟨f1, fd1, d1⟩ := T.d_check_clock
  have G1 := ok_ckClk (P := P) (w := w) (base := base) T d1
  obtain ⟨f2, fd2, d2⟩ := T.d_check_each
  have G2 := ok_ckEach (P := P) (w := w) (base := base) T d2
  obtain ⟨fB, fdB, eB⟩ := T.n_NoRows
  have GB : FnOk P w K mg base CX0 1 fB fdB ["self", "index"] (spRowsInit (adr mg "NoRows")) := ok_NoRows eB
  obtain ⟨tk_MOST_SIDE, h_MOST_SIDE⟩ := T.c_MOST_SIDE
  refine d.F.okX sc_determinant (fun vs H Q E h => ?_) (fun cdv A outer s H vs Q E hr h => ?_)
  · obtain ⟨g, p, rows, rfl, _⟩ := h
    rfl
  · obtain ⟨g, p, rows, rfl, tp, tr, ne, qe⟩ := h
    refine ⟨_, pss_cons (ps_expr (pe_call G1 (hr.mono (by decide)) rfl d1.m d1.F.kp d1.b .nil (passes_call (takes_of rfl rfl rfl rfl) (fun _ _ _ _ h => h)) (pa_cons (pv 0) pa_nil)))
      (pss_cons (ps_if (PW.pt (pw_or (pt_not (pt_val (pe_callB call_isiT (by rfl) T.b_isinstance (by decide +kernel) (pa_cons (pv 1) (pa_cons (pe_tup (pa_cons (ty_list T.b_list) (pa_cons (ty_tuple T.b_tuple) pa_nil))) pa_nil))))) (pw_or1 (pt_cmpR op_gt (pe_callB call_len_seq (by rfl) T.b_len PySem.boot_len (pa_cons (pv 1) pa_nil)) (pe_glob (v := .int 60) rfl h_MOST_SIDE ⟨_, rfl⟩) (nomark _))))) (pss_one (ps_raise rfl (takes_of rfl rfl rfl rfl) (pmk_oex eB.oc eB.iC eB.tI GB (hr.mono (by decide)) eB.b .nil pass0 rfl T.e_NoRows.m (pa_cons (pe_un un_neg pe_int) pa_nil)))) pss_nil)
      (pss_cons (ps_expr (pe_call G2 (hr.mono (by decide)) rfl d2.m d2.F.kp d2.b .nil (passes_call (takes_of rfl rfl rfl rfl) (fun _ _ _ _ h => h)) (pa_cons (pv 0) (pa_cons (pe_callB call_len_seq (by rfl) T.b_len PySem.boot_len (pa_cons (pv 1) pa_nil)) (pa_cons (pv 1) pa_nil))))) pss_never)), ?_⟩
    unfold sqD at ne qe
    refine ⟨_, rfl, g, p, rfl, tp, ?_, ?_⟩
    rotate_left
    · intro hc
      rw [hc] at qe
      exact qe
    intro hc H1 s1
    rw [if_pos hc] at ne qe
    obtain ⟨n, rfl, nd⟩ := clk_iff.mp hc
    refine ⟨_, rfl, by show 2 ≤ sizeLine; decide, fun tt ntt => ?_⟩
    have s2 := s1.trans (same_new (o := .tup [V.ty "list", V.ty "tuple"]) ntt)
    obtain ⟨t, ty, k0, _, _, k3⟩ := (tr.th.same s2).kind K
    refine ⟨_, tt, _, _, _, _, rfl, upd_same, .cons (.ty _) (.cons (.ty _) .nil), ty, kitAny_lt k3 k0, _, rfl, ?_⟩
    rw [kind_seq (tr.th.same s2), seqOf_keep tr.th (s2.but g)]
    cases es : seqOf H rows with
    | none =>
      rw [es] at qe
      refine iteT ⟨1, rfl, by show 1 ≤ 1000; decide, fun a' ha' => ?_⟩
      exact mk_norows (fun H' d s' hd hxd => ErrD.same (D := .rows (-1)) qe s2 H' d s' hd hxd) a' ha'
    | some xs =>
      rw [es] at ne qe
      obtain ⟨hl, hm⟩ := tr.mem es
      obtain ⟨a, rfl, hS⟩ := seqOf_some es
      have hS1 : _ ∨ _ := hS.imp (fun h => s2 _ _ h) (fun h => s2 _ _ h)
      have ne : (if 60 < xs.length then Due.rows (-1) else dueOf (fstBad n (xs.length : Int) H xs)) ≠ .let := ne
      have qe : ErrD mg E H (if 60 < xs.length then Due.rows (-1) else dueOf (fstBad n (xs.length : Int) H xs)) := qe
      refine iteF ⟨_, rfl, a, xs, rfl, hS1.imp .of .of, _, _, rfl, rfl, _, rfl, ?_⟩
      by_cases h2 : 60 < xs.length
      · rw [if_pos h2] at qe
        rw [decide_eq_true (show (60 : Int) < ((xs.length : Nat) : Int) by omega)]
        refine iteT ⟨1, rfl, by show 1 ≤ 1000; decide, fun a' ha' => ?_⟩
        exact mk_norows (fun H' d s' hd hxd => ErrD.same (D := .rows (-1)) qe s2 H' d s' hd hxd) a' ha'
      rw [if_neg h2] at ne qe
      rw [decide_eq_false (show ¬ (60 : Int) < ((xs.length : Nat) : Int) by omega)]
      refine iteF ⟨_, rfl, _, rfl, a, xs, rfl, hS1.imp .of .of, _, rfl, g, a, n, (xs.length : Int), xs, rfl, hS1, fun x hx => (hm x hx).same s2, ?_, ?_⟩
      · rw [fstBad_keep hm (s2.but g)]
        exact fun h => absurd (dueOf_let.mpr h) ne
      · rw [fstBad_keep hm (s2.but g)]
        exact qe.same s2
theorem ok_detT (T : Tx K mg cT cS) {f : Addr} {fd : FuncData} (d : D K mg "determinant" s_determinant ["p", "rows"] f fd) : FnOk P w K mg base (L2.CX P w) 6 f fd ["p", "rows"] (spAskD K mg) := by
  refine (FnOk_or (FnOk_lift (ok_det (P := P) (w := w) (base := base) T d)) (ok_detR T d)).imp fun vs H Q E ⟨g, p, rows, e, tp, tr, q, qe⟩ => ?_
  by_cases h : sqD H p rows = .let
  · obtain ⟨n, a, xs, rws, rfl, nd, rfl, hS, hp, hl, hr⟩ := sq_typed tr h
    exact .inl ⟨a, n, xs, rws, e, hS, hp, hl, nd, hr, fun H' v s _ _ _ => q h H' _ s⟩
  · exact .inr ⟨g, p, rows, e, tp, tr, h, qe⟩
end
end S4

/-! a def called with a lambda -/
namespace S4
open PySem L2 TT MM EE LamX
section
variable {P : Program} {w : World} {K : PySem.W.Frag} {mg : Str → Option Value} {base : Heap}
/-- y(lambda: body) -/
theorem pe_lamD {X : Cx} {TL : List (Addr × Str)} {TT : (XK → Hp → VK → Prop) → Hp → VK → Prop} {x y a : Str} {st : Stmt} {g c P : Addr} {gd fd : FuncData} {k : Nat} {Ng : List Str} {params : Arguments} {body : Expr} {scope : Scope} {t : XK → TE} {p lpos pos : Pos}
    (dg : D X.K X.mg y st [a] g gd) (L : LamD X.mg X.base x fd c P TL) (hg : Gl X y) (Sg : FnScope Ng [a] (defScope st)) (hNg : Ng[0]? = some a) (hva : Vis (defScope st) a)
    (hG : ∀ cdv, GivesTo X Ng y (defScope st) g cdv (defBody st) a (X.env.qual ++ "<lambda>") TT) (hq : X.env.qual = x ++ ".<locals>.") (hcode : X.env.code = .ref c) (hr : Room (k + 2) X.A) (Ls : LamS X.env.scope scope) (hdef : defaultsOf params X.env = ([], []))
    (hbind : ∀ (q : Str) (cl : List (Str × Addr)) (pm cv ctv : Value), bindArgs (PySem.W.kla_fn "<lambda>" q params body scope cl pm cv ctv) ⟨[], []⟩ = pure [])
    (hbody : ∀ (A : Around) (outer : List Env) (s : Shared) (H : Hp) (E : XK) (f c' : Addr), Room k (A.deeper (lamEnv X scope s.heap.objs.size f c')) → PE (lamCx X A outer s H E scope f c') body (t E))
    (hdb : (y == ("__debug__" : Str)) = false := by decide) (hd : (a == ("__debug__" : Str)) = false := by decide) (hcd : (a == ("__classdict__" : Str)) = false := by decide) :
    PE X (.Call (.Name y p) [.Lambda params body scope lpos] [] pos) (tLam TL TT t) := by
  obtain ⟨oc, od, kV, doc, pm, an, cdv, ct, osl, e, lk, hcg⟩ := dg.F.ex
  subst e
  refine pe_lamcall (c := c) (P := P) hg dg.m dg.F.kp lk hcg dg.b Sg hNg hva (hG cdv) L.tb hcode ?_ ?_ hr Ls hdef hbind hbody hdb hd hcd
  · rw [hq]; exact L.mem
  · rw [hq]; exact L.un
theorem takes_len {X : Cx} {W : WX} (tk : Takes X W) : Takes X (fun c d σ H => σ.length = X.N.length → W c d σ H) := fun u s' ⟨a, B, sI, pins, σ, H, cls, d, e, I, nb, up, sky, na, os, ag, w⟩ =>
  tk u s' ⟨a, B, sI, pins, σ, H, cls, d, e, I, nb, up, sky, na, os, ag, w I.len⟩
end
end S4

/-! several except clauses that all bind one name -/
namespace L2
open PySem PySem.Spec PyProof.Rows
/-- what the clauses, each with the name in cell i, wish of an exception of the body -/
def wAsM (K : PySem.W.Frag) (i : Nat) (Wout : WX) (D : Ends) : List (Value × (Addr → Value → Option Addr → TS)) → WX
  | [] => Wout
  | (c, ts) :: r => fun cls d σ H => ∃ b, PySem.W.exmOne K cls c = some b ∧ (b = true → ∀ a, H a = none → ts a cls d { nx := fun σ' H' => D.nx (σ'.set i none) H', rt := D.rt, bk := fun σ' H' => D.bk (σ'.set i none) H', ct := fun σ' H' => D.ct (σ'.set i none) H' } (σ.set i (some (.ref a))) H) ∧
    (b = false → wAsM K i Wout D r cls d σ H)
inductive HdsAs (X : Cx) (n : Str) : List ExceptHandler → List (Value × (Addr → Value → Option Addr → TS)) → Prop
  | nil : HdsAs X n [] []
  | cons {x : Str} {c : Value} {ts : Addr → Value → Option Addr → TS} {b₀ : Stmt} {suite : List Stmt} {np pos' : Pos} {hds : List ExceptHandler} {l : List (Value × (Addr → Value → Option Addr → TS))} (hc : Names X x c)
      (hsu : ∀ (a : Addr) (oe : Obj) (cls : Value) (d : Option Addr) (pn : List (Addr × Obj)), Zc cls d oe → (∃ vs, oe.data = .fields vs) → PSs (X.suite a ((a, oe) :: pn)) (b₀ :: suite) (ts a cls d)) (r : HdsAs X n hds l) :
      HdsAs X n (.ExceptHandler (some (.Name x np)) (some n) (b₀ :: suite) pos' :: hds) ((c, ts) :: l)
section
variable {X : Cx} {n : Str} {i : Nat} {body : List Stmt} {h₀ : ExceptHandler} {hds : List ExceptHandler} {l : List (Value × (Addr → Value → Option Addr → TS))} {pos : Pos} {tb : WX → TS} {Wout : WX}
theorem ps_try_asM (hs : X.stack = X.env :: X.outer) (hf : X.env.frame = some X.env.locals) (hN : X.N.Nodup) (hi : X.N[i]? = some n) (hln : X.env.kindOf n = some .local) (tk : Takes X Wout)
    (hb : ∀ (W : WX) (pn : List (Addr × Obj)) (xe : Value → Shared → Prop), Takes (X.tr pn xe) W → PassesOwn (model X.prog X.w) X.A X.env xe → PSs (X.tr pn xe) body (tb W))
    (hh : HdsAs X n (h₀ :: hds) l) : PS X (.Try body (h₀ :: hds) [] [] pos) (fun D σ H => tb (wAsM X.K i Wout D l) D σ H) := by
  refine ⟨fun pins s σ H D I h => ?_⟩
  have ok := I.ok
  have hfr : X.A.frames = some (X.env :: X.outer) := by rw [ok.frames, hs]
  have hloc : Loc X.env.scope n := .inl hln
  refine wpAny_Try_except ?_
  refine wpAny_mono ((hb (wAsM X.K i Wout D l) (X.pn ++ pins) (fun e s₁ => wpAny (model X.prog X.w) X.A (noteFrame e X.env) (fun _ s₂ => wpAny (model X.prog X.w) X.A (setFlight e none) (fun _ s₃ =>
    wpAny (model X.prog X.w) X.A (handleBy e X.env (h₀ :: hds)) (SP X pins D) X.xe s₃) X.xe s₂) X.xe s₁) (fun u s' xx => ?_) PassesOwn.looking).run [] s σ H D (I.toTry _) h) (fun f s1 hsp => ?_) (fun e s1 he => he)
  · obtain ⟨a, B, sI, pins', σ', H', cls, d, rfl, J', nb, up, sky, na, os, ag, w⟩ := xx
    have J : Inv X pins σ' H' sI := J'.ofTry ok
    have sky' : Sky B (X.env :: X.outer) a (Zc cls d) X.env.locals s'.heap := by rw [← hs]; exact sky
    show wpAny (model X.prog X.w) X.A (noteFrame (.ref a) X.env) _ _ _
    refine Sky.land Zc.steady hfr hf sky' fun h3 fl3 up3 => ?_
    have J3 : Inv X pins σ' H' { s' with heap := h3 } := J.landed nb fl3.1 (up.trans up3) os ag
    obtain ⟨oe3, vs3, he3, hz3, hd3⟩ := fl3.there
    have nfr : a ∉ frs (X.env :: X.outer) := fun hm => by
      obtain ⟨_, o', e', hnf⟩ := fl3.2.2.1.mem hm
      rw [he3] at e'; cases e'
      exact hnf _ hd3
    have nL : a ≠ X.env.locals := fun z => nfr (List.mem_filterMap.mpr ⟨X.env, List.mem_cons_self, by rw [hf, z]⟩)
    have nF : a ∉ X.fs := fun hm => by
      obtain ⟨e, he, q⟩ := List.mem_filterMap.mp hm
      exact nfr (List.mem_filterMap.mpr ⟨e, List.mem_cons_of_mem _ he, q⟩)
    have S3 := J3.suite he3 hd3 na nL nF
    have go : ∀ {hds' : List ExceptHandler} {l' : List (Value × (Addr → Value → Option Addr → TS))}, HdsAs X n hds' l' → wAsM X.K i Wout D l' cls d σ' H' →
        wpAny (model X.prog X.w) X.A (handleBy (.ref a) X.env hds') (SP X pins D) X.xe { s' with heap := h3 } := by
      intro hds' l' hk
      induction hk with
      | nil =>
        intro w
        refine wpAny_handleBy_nil ?_
        obtain ⟨k1, k2, k3, oe, vs, T, oT, ts', he, hz, hd, h1, hr⟩ := id fl3
        unfold PySem.passOn
        refine wpAny_bind (wpAny_field he hd h1 ?_)
        rw [if_neg (show ¬ ((Value.ref T == Value.none) = true) from by simp)]
        have fin : wpAny (model X.prog X.w) X.A (setFlight (.ref a) X.env.frame) (fun _ s4 => wpAny (model X.prog X.w) X.A (throw (.ref a) : Sem Flow) (SP X pins D) X.xe s4) X.xe { s' with heap := h3 } := by
          rw [hf]
          refine HandSPX.setFlight_upZ fl3 fun h4 hh4 up4 => wpAny_throw (tk _ _ ?_)
          exact ⟨a, B, sI, pins, σ', H', cls, d, rfl, J, nb, (up.trans up3).trans up4, .inr (.inr (by rw [hs]; exact hh4)), na, os, ag, w⟩
        first
          | exact wpAny_bind (wpAny_pure (wpAny_bind fin))
          | exact wpAny_bind fin
      | @cons x c ts b₀ suite np pos' hds2 l2 hc hsu r ih =>
        intro w
        obtain ⟨b, hb1, hyes, hno⟩ := w
        refine wpAny_handleBy_cons (codeAny_handlers_test ?_) (by intro q; cases q)
        have LT : PySem.W.Looks (model X.prog X.w) h3 (typeOf (.ref a)) cls := fun A Q E s k q => wpAny_typeOf_ref (k _ _ he3) (by rw [hz3.1]; exact q)
        have LM := PySem.W.exm_one (M := model X.prog X.w) (J3.kIn) LT hb1
        have test : ∀ {Q : Value → Shared → Prop} {E : Value → Shared → Prop}, Q c { s' with heap := h3 } → wpAny (model X.prog X.w) (X.A.mark (some (.ref a))) (eval (.Name x np) X.env) Q E { s' with heap := h3 } := fun {Q E} q => by
          obtain ⟨hg, hdbg, hm | ⟨hm, hv, hnn⟩⟩ := hc
          · exact ld_glob (X := X.suite a ((a, oe3) :: (X.pn ++ pins))) S3 hg hm q hdbg
          · exact ld_blt (X := X.suite a ((a, oe3) :: (X.pn ++ pins))) S3 hg hm hv q hnn hdbg
        refine test (LM.here ?_)
        cases b with
        | true =>
          refine codeAny_handlers_suite_as ?_
          refine HandSPX.lands_againZ fl3 fun h4 fl4 up4 => ?_
          have J4 : Inv X pins σ' H' { s' with heap := h4 } := J.landed nb fl4.1 ((up.trans up3).trans up4) os ag
          obtain ⟨oe4, vs4, he4, hz4, hd4⟩ := fl4.there
          have S4 := J4.suite he4 hd4 na nL nF
          refine store_ok (X := X.suite a ((a, oe4) :: (X.pn ++ pins))) (v := .ref a) S4 hN hi hloc rfl (fun s5 S5 => ?_) (.inr hln)
          refine wpAny_mono ((hsu a oe4 cls d (X.pn ++ pins) hz4 ⟨_, hd4⟩).run [] s5 _ H' _ S5 (hyes rfl a na)) (fun f s6 hsp => ?_) (fun _ _ z => False.elim z)
          have end_ : ∀ {σ6 : St} {H6 : Hp} {Q : Shared → Prop}, Inv (X.suite a ((a, oe4) :: (X.pn ++ pins))) [] σ6 H6 s6 → (∀ s7, Inv X pins (σ6.set i none) H6 s7 → Q s7) →
              wpAny (model X.prog X.w) X.A (do bindName X.env n .none; unbindBehindTheSuite X.env n pos') (fun _ s7 => Q s7) X.xe s6 := fun {σ6 H6 Q} S6 hq => gone_ok (S6.unsuite ok) hN hi hln hq
          cases f with
          | next =>
            obtain ⟨σ6, H6, S6, q6⟩ := hsp
            exact end_ S6 fun s7 J7 => ⟨_, _, J7, q6⟩
          | brk =>
            obtain ⟨σ6, H6, S6, q6⟩ := hsp
            exact end_ S6 fun s7 J7 => ⟨_, _, J7, q6⟩
          | cont =>
            obtain ⟨σ6, H6, S6, q6⟩ := hsp
            exact end_ S6 fun s7 J7 => ⟨_, _, J7, q6⟩
          | ret u =>
            obtain ⟨v6, σ6, H6, S6, r6, q6⟩ := hsp
            exact end_ S6 fun s7 J7 => ⟨_, _, _, J7, r6, q6⟩
        | false =>
          show wpAny _ X.A (handleBy (.ref a) X.env hds2) _ _ _
          exact ih (hno rfl)
    exact go hh w
  · cases f with
    | next =>
      obtain ⟨σ', H', J', q⟩ := hsp
      exact wpAny_execs_nil ⟨σ', H', J'.ofTry ok, q⟩
    | brk =>
      obtain ⟨σ', H', J', q⟩ := hsp
      exact ⟨σ', H', J'.ofTry ok, q⟩
    | cont =>
      obtain ⟨σ', H', J', q⟩ := hsp
      exact ⟨σ', H', J'.ofTry ok, q⟩
    | ret u =>
      obtain ⟨v, σ', H', J', r, q⟩ := hsp
      exact ⟨v, σ', H', J'.ofTry ok, r, q⟩
end
end L2

/-! a def that raises nothing, called within an except suite, whatever the error's context is -/
namespace HW
open PySem PySem.Spec PyProof.Rows L2 L2H
/-- what such a def promises there -/
structure FnW (P : Program) (w : World) (K : PySem.W.Frag) (mg : Str → Option Value) (base : Heap) (k : Nat) (f : Addr) (fd : FuncData) (ps : List Str) (sp : Sp) : Prop where
  len : ∀ vs H Q E, sp vs H Q E → vs.length = ps.length
  run : ∀ (A : Around) (outer : List Env) (s : Shared) (H : Hp) (args : Args) (us : List Value) (vs : List V) (Q : VK) (p : Addr × Obj), RoomH k A → PinOk outer H s p → Env0 P w K mg base A outer s H → BindsTo s fd args (ps.zip us) → Vals vs us → sp vs H Q (fun _ _ _ => False) →
    codeAny (model P w) A (.call (.ref f) args) (CR C8.CX0 outer P w H s Q (fun _ _ _ => False)) s
theorem fn_ofW {P : Program} {w : World} {K : PySem.W.Frag} {mg : Str → Option Value} {base : Heap} {k : Nat} {f : Addr} {name qual : Str} {params : Arguments} {body : List Stmt} {scope : Scope} {dV kV doc pm cdv ct oc : Value} {an od : Option Addr}
    {osl : Array (Option Value)} {N ps : List Str} {sp : Sp} (lk : K.lookup f = some ⟨oc, od, .func (PySem.W.fnOf name qual params body scope dV kV doc pm an cdv ct), osl⟩) (hcd : PySem.W.codeIn K cdv qual = true) (S : FnScope N ps scope)
    (len : ∀ vs H Q E, sp vs H Q E → vs.length = ps.length)
    (hbody : ∀ (A : Around) (outer : List Env) (s : Shared) (H : Hp) (vs : List V) (Q : VK) (p : Addr × Obj), sp vs H Q (fun _ _ _ => False) →
      ∃ t, PSs (cxH C8.CX0 P w K mg base N qual scope f cdv A outer s H (fun _ _ _ => False) p) body t ∧ t { nx := fun _ H' => Q .non H', rt := Q } (L2.start N vs) H) :
    FnW P w K mg base (k + 1) f (PySem.W.fnOf name qual params body scope dV kV doc pm an cdv ct) ps sp := by
  refine ⟨len, fun A outer s H args us vs Q p hr hpin e0 hb r hsp => ?_⟩
  have hl := len _ _ _ _ hsp
  have keeps : ∀ b o, base.get? b = some o → s.heap.get? b = some o := fun b o e => (e0.bs b o e).1
  have KX : K.In s.heap := e0.mod.kin.keeps keeps
  have lim : s.heap.NoLimit := e0.mod.nolimit.keeps keeps
  have hkind : ∀ y ∈ ps.zip us, scope.names.lookup y.1 = some .local ∨ (scope.names.lookup y.1 = some .cell ∧ ((cellsFrom (s.heap.objs.size + 1) scope.names []).lookup y.1).isSome = true) := fun y hy =>
    (S.par y.1 (List.of_mem_zip hy).1).imp id fun q => ⟨q, PySem.W.cellsFrom_some _ _ _ (.inl q)⟩
  refine codeAny_call_function hr.depth (KX _ _ lk) rfl S.co S.gen rfl (PySem.W.codeRec_of KX hcd) (hb _ _ _ _ ?_)
  refine wpAny_newFunctionEnv_cells S.kind hkind fun env he s1 x => ?_
  subst he
  refine ⟨lim.keeps x.toInCall.keep, codeAny_func ?_⟩
  obtain ⟨t, ht, hq⟩ := hbody A outer s H vs Q p hsp
  refine wpAny_mono (ht.run [] s1 (L2.start N vs) H _ (inv_startH S hpin e0 hl r x) hq) (fun fl s' hs => ?_) fun e s' hs => hs
  cases fl with
  | ret u =>
    obtain ⟨v, σ', H', J, rv, q⟩ := hs
    exact ⟨v, H', J.os, J.bare, J.base, J.hok, rv, q⟩
  | next =>
    obtain ⟨σ', H', J, q⟩ := hs
    exact ⟨V.non, H', J.os, J.bare, J.base, J.hok, rfl, q⟩
  | brk => exact (hs.choose_spec.choose_spec.2 : False).elim
  | cont => exact (hs.choose_spec.choose_spec.2 : False).elim
section
variable {X : Cx} {k : Nat} {f : Addr} {fd : FuncData} {ps : List Str} {sp : Sp} {x : Str} {q pos : Pos} {e : Expr} {es : List Expr} {t : TA}
theorem pe_callW (F : FnW X.prog X.w X.K X.mg X.base k f fd ps sp) (hr : RoomH k X.A) (hc : ∃ p, p ∈ X.pn) (hg : Gl X x) (hm : X.mg x = some (.ref f)) (hk : PySem.W.keepIn X.K (.ref f) = true) (hb : Binds X.K fd ps [])
    (ha : PA X (e :: es) t) (hdb : (x == ("__debug__" : Str)) = false := by decide) (he : starEach (e :: es) X.env = (false, eval e X.env) :: starEach es X.env := by rfl) (hpl : (backTo pos (starEach es X.env)).any (·.1) = false := by rfl) :
    PE X (.Call (.Name x q) (e :: es) [] pos) (tCall sp [] (fun _ _ _ => False) t) := by
  refine ⟨fun pins s σ H Q I h => ?_⟩
  refine wpAny_Call_Name_kw (ld_glob I hg hm ?_ hdb)
  refine PySem.W.callWith_K (h₀ := X.base) I.ok.mod.kin hk (thn (ha.run pos pins s σ H _ I h) fun us s1 ⟨vs, H1, I1, r, h1⟩ => ⟨I1.kIn, ?_⟩) he hpl
  obtain ⟨p, hp⟩ := hc
  have h1 : sp vs H1 Q (fun _ _ _ => False) := by
    have h1 : sp (vs ++ []) H1 Q (fun _ _ _ => False) := h1
    rwa [List.append_nil] at h1
  have hl : us.length = ps.length := by rw [← r.length]; exact F.len _ _ _ _ h1
  have b := hb s1 us I1.kIn (by rw [List.append_nil]; exact hl)
  rw [List.append_nil] at b
  have P1 := I1.pin p (List.mem_append_left _ hp)
  have hpin : PinOk X.stack H1 s1 p := ⟨P1.1, P1.2.1, fun hm => (List.mem_cons.mp (I1.stkSub p.1 hm)).elim P1.2.2.1 P1.2.2.2.1, P1.2.2.2.2⟩
  refine wpAny_call (codeAny_mono (F.run X.A X.stack s1 H1 ⟨us, []⟩ us vs Q p hr hpin I1.env0 b r h1) fun r s' hq => ?_)
  cases r with
  | error e => exact (show False from hq).elim
  | ok fl =>
    cases fl with
    | ret u => exact I1.after hq
    | next => exact False.elim hq
    | brk => exact False.elim hq
    | cont => exact False.elim hq
end
end HW

/-! the word of a refusal -/
namespace S4
open PySem L2 TT MM EE LamX
section
variable {P : Program} {w : World} {K : PySem.W.Frag} {mg : Str → Option Value} {base : Heap} {cT cS : Addr}
theorem EX.ex {x : Str} {C : Addr} (e : EX K mg x C) {A : Addr} {b : Bool} (h : PySem.W.subIn K (.ref A) (.ref C) = some b) : PySem.W.exmOne K (.ref A) (.ref C) = some b := PySem.W.exm_ref e.ec.hs e.ec.hd e.ty h
/-- the errors that the word tells -/
def EWordR (mg : Str → Option Value) (Q : VK) : XK := fun cls d H' =>
  (d = none ∧ cls = .ref (adr mg "NoClock") ∧ ∀ H2, Same H' H2 → Q (.str "clock") H2) ∨ (d = none ∧ cls = .ref (adr mg "NoNumber") ∧ ∀ H2, Same H' H2 → Q (.str "number") H2) ∨ (d = none ∧ cls = .ref (adr mg "NoRow") ∧ ∀ H2, Same H' H2 → Q (.str "row") H2) ∨
  ∃ (dd : Addr) (i : Int), d = some dd ∧ cls = .ref (adr mg "NoRows") ∧ H' dd = some (.xd [("index", .int i)]) ∧ -1 ≤ i ∧ i ≤ 300 ∧ ∀ H2 t, Same H' H2 → H2 t = some (.tup [.str "rows", .int i]) → Q (.ref t) H2
def TWordR (mg : Str → Option Value) : (XK → Hp → VK → Prop) → Hp → VK → Prop := fun tl H Q => tl (EWordR mg Q) H (fun _ H' => Q (.str "let") H')
def tIsE (K : PySem.W.Frag) (a : Addr) (cls : Value) (d : Option Addr) (i : Nat) (v : V) : TE := tCB (rIsG K cls d a) (tCons (tVar i) (tCons (tC v) tNil))
def spLIntI : Sp := fun vs H Q _ => ∃ (i lo hi : Int), vs = [.int i, .int lo, .int hi] ∧ Q (.bl (decide (lo ≤ i) && decide (i ≤ hi))) H
theorem ok_lintW (T : Tx K mg cT cS) {f : Addr} {fd : FuncData} (d : D K mg "_law_int" s_law_int ["thing", "least", "most"] f fd) : HW.FnW P w K mg base 1 f fd ["thing", "least", "most"] spLIntI := by
  obtain ⟨oc, od, kV, doc, pm, an, cdv, ct, osl, e, lk, hcd⟩ := d.F.ex
  subst e
  refine HW.fn_ofW lk hcd sc_law_int (fun vs H Q E h => ?_) fun A outer s H vs Q p h => ?_
  · obtain ⟨i, lo, hi, rfl, _⟩ := h
    rfl
  · obtain ⟨i, lo, hi, rfl, q⟩ := h
    refine ⟨_, pss_one (ps_ret (pe_and (pe_callB call_isi (by rfl) T.b_isinstance (by decide +kernel) (pa_cons (pv 0) (pa_cons (ty_int T.b_int) pa_nil))) (pe_and (pe_not (pe_callB call_isi (by rfl) T.b_isinstance (by decide +kernel) (pa_cons (pv 0) (pa_cons (ty_bool T.b_bool) pa_nil)))) (pe_one (pe_chain op_le op_le (pv 1) (pv 0) (pv 2)))))), ?_⟩
    refine ⟨_, rfl, _, _, _, _, _, rfl, .ty _, .base (.int _), kit_ii, _, rfl, iteT ⟨_, rfl, _, _, _, _, _, rfl, .ty _, .base (.int _), kit_ib, _, rfl, _, rfl, iteT ⟨_, rfl, _, rfl, _, _, rfl, rfl, _, rfl, ?_⟩⟩⟩
    by_cases h1 : lo ≤ i
    · rw [decide_eq_true h1] at q ⊢
      exact iteT ⟨_, rfl, _, _, rfl, rfl, q⟩
    · rw [decide_eq_false h1] at q ⊢
      exact iteF q
def tsRows (K : PySem.W.Frag) (mg : Str → Option Value) (a : Addr) (cls : Value) (d : Option Addr) : TS :=
  tAsg (tIf (tB (tCall spLIntI [] (fun _ _ _ => False) (tCons (tXf a cls d (adr mg "NoRows") "index" (tVar 2)) (tCons (tUn (rU fun i => .int (-i)) (tC (.int 1))) (tCons (tC (.int 300)) tNil)))))
    (tTup (tCons (tC (.str "rows")) (tCons (tXf a cls d (adr mg "NoRows") "index" (tVar 2)) tNil))) (tC (.str "other"))) (gName 1)
def tsToll (K : PySem.W.Frag) (mg : Str → Option Value) (a : Addr) (cls : Value) (d : Option Addr) : TS :=
  tSeq (tAsg (tLst (tCons (tIsE K a cls d 2 (.ref (adr mg "NoClock"))) (tCons (tIsE K a cls d 2 (.ref (adr mg "NoNumber"))) (tCons (tIsE K a cls d 2 (.ref (adr mg "NoRow"))) tNil)))) (gName 3))
    (tAsg (tIf (tTest (tOp rEq (tBM K "list" (rCntF K) (tVar 3) (tCons (tC (.bl true)) tNil)) (tC (.int 1))))
      (tOp (rIxL K) (tLst (tCons (tC (.str "clock")) (tCons (tC (.str "number")) (tCons (tC (.str "row")) tNil)))) (tBM K "list" (rIndex K) (tVar 3) (tCons (tC (.bl true)) tNil))) (tC (.str "other"))) (gName 1))
theorem word_gives (T : Tx K mg cT cS) {X : Cx} {q : Str} {g : Addr} {cdg : Value} (hr : Room 2 X.A) (hK : X.K = K) (hm : X.mg = mg) : GivesTo X N_law_row_refusal "_law_row_refusal" (defScope s_law_row_refusal) g cdg (defBody s_law_row_refusal) "call" q (TWordR mg) := by
  subst hK hm
  intro f c' s H Q tl act hc h
  obtain ⟨f1, fd1, d1⟩ := T.d_law_int
  have G1 := ok_lintW (P := X.prog) (w := X.w) (base := X.base) T d1
  obtain ⟨fB, fdB, eB⟩ := T.n_NoRows
  have hr' : Room 1 (cxOf C8.CX0 X.prog X.w X.K X.mg X.base N_law_row_refusal "_law_row_refusal" (defScope s_law_row_refusal) g cdg X.A X.stack s H C8.E0).A := hr.deeper _
  refine ⟨_, pss_cons (ps_set (i := 1) sc_law_row_refusal.nd rfl (.inl rfl) pe_str)
      (pss_cons (ps_try_asM (i := 2) (n := "e") (X := (cxOf C8.CX0 X.prog X.w X.K X.mg X.base N_law_row_refusal "_law_row_refusal" (defScope s_law_row_refusal) g cdg X.A X.stack s H C8.E0).nox) (l := [(.ref (adr X.mg "NoRows"), tsRows X.K X.mg), (.ref (adr X.mg "TollError"), tsToll X.K X.mg)])
        (tb := fun W D σ H => ∃ Ech : XK, (∀ cls d σ' H', Ech cls d H' → σ'.length = N_law_row_refusal.length → W cls d σ' H') ∧ σ[0]? = some (some (.ref f)) ∧ H c' = some (CodeO c' q) ∧ tl Ech H fun _ H' => D.nx σ H') (Wout := fun _ _ _ _ => False) rfl rfl sc_law_row_refusal.nd rfl rfl L2.takes0
          (fun W pn xe tk _ => ?_)
          (.cons ⟨rfl, by decide, .inl T.e_NoRows.m⟩ (fun a oe cls dd pn hz hf => pss_one (ps_set (i := 1) sc_law_row_refusal.nd rfl (.inl rfl) (pe_ifExp (pt_val (HW.pe_callW G1 ⟨hr'.dp, hr'.un⟩ ⟨_, List.mem_cons_self ..⟩ rfl d1.m d1.F.kp d1.b
                (pa_cons (pe_xf (XfC.of T.e_NoRows.ec) (eB.no "index" (by simp)) hz hf (pv 2)) (pa_cons (pe_un un_neg pe_int) (pa_cons pe_int pa_nil)))))
              (pe_tup (pa_cons pe_str (pa_cons (pe_xf (XfC.of T.e_NoRows.ec) (eB.no "index" (by simp)) hz hf (pv 2)) pa_nil))) pe_str)))
          (.cons ⟨rfl, by decide, .inl T.e_TollError.m⟩ (fun a oe cls dd pn hz hf => pss_cons (ps_set (i := 3) sc_law_row_refusal.nd rfl (.inl rfl) (pe_lst
                (pa_cons (pe_callB (call_isG hz hf) (by rfl) T.b_isinstance (by decide +kernel) (pa_cons (pv 2) (pa_cons (pe_glob (v := .ref (adr X.mg "NoClock")) rfl T.e_NoClock.m rfl) pa_nil)))
                (pa_cons (pe_callB (call_isG hz hf) (by rfl) T.b_isinstance (by decide +kernel) (pa_cons (pv 2) (pa_cons (pe_glob (v := .ref (adr X.mg "NoNumber")) rfl T.e_NoNumber.m rfl) pa_nil)))
                (pa_cons (pe_callB (call_isG hz hf) (by rfl) T.b_isinstance (by decide +kernel) (pa_cons (pv 2) (pa_cons (pe_glob (v := .ref (adr X.mg "NoRow")) rfl T.e_NoRow.m rfl) pa_nil))) pa_nil)))))
            (pss_one (ps_set (i := 1) sc_law_row_refusal.nd rfl (.inl rfl) (pe_ifExp (pt_cmpR op_eq (pe_bm PySem.F.plainAttrs_list PySem.F.slot_list_count PySem.F.type_list_count mt_countF (pv 3) (pa_cons pe_bl pa_nil)) pe_int (nomark _))
              (pe_ix ix_list (pe_lst (pa_cons pe_str (pa_cons pe_str (pa_cons pe_str pa_nil)))) (pe_bm PySem.F.plainAttrs_list PySem.F.slot_list_index PySem.F.type_list_index mt_index (pv 3) (pa_cons pe_bl pa_nil)) (fun _ _ => rfl)) pe_str)))) .nil)))
      (pss_one (ps_ret (pv 1)))), ?_⟩
  · refine ⟨fun pins s' σ H' D I h' => ?_⟩
    obtain ⟨Ech, hW, h1, h2, h3⟩ := h'
    exact (pss_one (ps_expr (act _ pn xe Ech _ _ (takes_len tk) (fun cls d σ' H' e hl => hW cls d σ' H' e hl)))).run pins s' σ H' D I ⟨h1, h2, h3⟩
  · have e : (fun (_ : V) (H' : Hp) => tRet (tVar 1) { nx := fun x H' => Q V.non H', rt := Q } ((L2.start N_law_row_refusal [V.ref f]).set 1 (some (V.str "let"))) H') = fun _ H' => Q (.str "let") H' := by
      funext v H'
      exact propext ⟨fun ⟨v, e, h⟩ => by cases e; exact h, fun h => ⟨_, rfl, h⟩⟩
    refine ⟨EWordR X.mg Q, fun cls d σ' H' hE hl => ?_, rfl, hc, ?_⟩
    · obtain ⟨x0, x1, x2, x3, rfl⟩ : ∃ x0 x1 x2 x3, σ' = [x0, x1, x2, x3] := by
        match σ', hl with
        | [a, b, c, d], _ => exact ⟨a, b, c, d, rfl⟩
      have suite : ∀ {C : Addr} {b1 b2 b3 : Bool} {x : Str}, (∃ xn, EX X.K X.mg xn C) → PySem.W.subIn X.K (.ref C) (.ref (adr X.mg "NoClock")) = some b1 → PySem.W.subIn X.K (.ref C) (.ref (adr X.mg "NoNumber")) = some b2 → PySem.W.subIn X.K (.ref C) (.ref (adr X.mg "NoRow")) = some b3 →
          ((b1 = true ∧ b2 = false ∧ b3 = false ∧ x = "clock") ∨ (b1 = false ∧ b2 = true ∧ b3 = false ∧ x = "number") ∨ (b1 = false ∧ b2 = false ∧ b3 = true ∧ x = "row")) → (∀ H2, Same H' H2 → Q (.str x) H2) →
          ∀ a, tsToll X.K X.mg a (.ref C) none { nx := fun σ' H' => tRet (tVar 1) { nx := fun x H' => Q .non H', rt := Q } (σ'.set 2 none) H', rt := Q } ([x0, x1, x2, x3].set 2 (some (.ref a))) H' := by
        rintro C b1 b2 b3 x ⟨xn, eC⟩ u1 u2 u3 hb hq a
        dsimp only [tsToll, tIsE, gName, tSeq, tAsg]
        refine ⟨_, rfl, C, _, _, b1, rfl, rfl, eC.ec, .inl rfl, ref_cls, kit_sub T.e_NoClock.ec.hd T.e_NoClock.ty T.u_NoClock_NoClock u1, ?_⟩
        refine ⟨_, rfl, C, _, _, b2, rfl, rfl, eC.ec, .inl rfl, ref_cls, kit_sub T.e_NoNumber.ec.hd T.e_NoNumber.ty T.u_NoNumber_NoNumber u2, ?_⟩
        refine ⟨_, rfl, C, _, _, b3, rfl, rfl, eC.ec, .inl rfl, ref_cls, kit_sub T.e_NoRow.ec.hd T.e_NoRow.ty T.u_NoRow_NoRow u3, by show 3 ≤ sizeLine; decide, fun l nl => ?_⟩
        have s1 := same_new (o := .lst [V.bl b1, V.bl b2, V.bl b3]) nl
        dsimp only [gName, tSeq]
        refine ⟨_, rfl, .inl ⟨rfl, _, .of upd_same⟩, l, _, _, rfl, rfl, .of upd_same, rfl, rfl, ?_⟩
        refine ⟨by rfl, true, ?_, iteT ?_⟩
        · rcases hb with ⟨rfl, rfl, rfl, _⟩ | ⟨rfl, rfl, rfl, _⟩ | ⟨rfl, rfl, rfl, _⟩ <;> rfl
        refine ⟨by show 3 ≤ sizeLine; decide, fun l2 nl2 => ?_⟩
        have s2 := same_new (o := .lst [V.str "clock", V.str "number", V.str "row"]) nl2
        rcases hb with ⟨rfl, rfl, rfl, rfl⟩ | ⟨rfl, rfl, rfl, rfl⟩ | ⟨rfl, rfl, rfl, rfl⟩
        · refine ⟨_, rfl, .inl ⟨rfl, _, .of (s2 _ _ upd_same)⟩, l, _, _, 0, .bl true, rfl, rfl, .of (s2 _ _ upd_same), rfl, rfl, rfl, rfl, fun m z' hm _ => by omega, ?_⟩
          refine ⟨l2, _, _, _, rfl, rfl, .of upd_same, at_of (j := 0) rfl rfl, ?_⟩
          exact ⟨_, rfl, hq _ (s1.trans s2)⟩
        · refine ⟨_, rfl, .inl ⟨rfl, _, .of (s2 _ _ upd_same)⟩, l, _, _, 1, .bl true, rfl, rfl, .of (s2 _ _ upd_same), rfl, rfl, rfl, rfl, fun m z' hm hz => ?_, ?_⟩
          · obtain rfl : m = 0 := by omega
            cases hz
            rfl
          · refine ⟨l2, _, _, _, rfl, rfl, .of upd_same, at_of (j := 1) rfl rfl, ?_⟩
            exact ⟨_, rfl, hq _ (s1.trans s2)⟩
        · refine ⟨_, rfl, .inl ⟨rfl, _, .of (s2 _ _ upd_same)⟩, l, _, _, 2, .bl true, rfl, rfl, .of (s2 _ _ upd_same), rfl, rfl, rfl, rfl, fun m z' hm hz => ?_, ?_⟩
          · obtain rfl | rfl : m = 0 ∨ m = 1 := by omega
            · cases hz; rfl
            · cases hz; rfl
          · refine ⟨l2, _, _, _, rfl, rfl, .of upd_same, at_of (j := 2) rfl rfl, ?_⟩
            exact ⟨_, rfl, hq _ (s1.trans s2)⟩
      rcases hE with ⟨rfl, rfl, hq⟩ | ⟨rfl, rfl, hq⟩ | ⟨rfl, rfl, hq⟩ | ⟨dd, i, rfl, rfl, hdd, i0, i1, hq⟩
      · exact ⟨false, T.e_NoRows.ex T.u_NoClock_NoRows, (fun z => nomatch z), fun _ => ⟨true, T.e_TollError.ex T.u_NoClock_TollError, fun _ a _ => suite ⟨_, T.e_NoClock⟩ T.u_NoClock_NoClock T.u_NoClock_NoNumber T.u_NoClock_NoRow (.inl ⟨rfl, rfl, rfl, rfl⟩) hq a, fun z => nomatch z⟩⟩
      · exact ⟨false, T.e_NoRows.ex T.u_NoNumber_NoRows, (fun z => nomatch z), fun _ => ⟨true, T.e_TollError.ex T.u_NoNumber_TollError, fun _ a _ => suite ⟨_, T.e_NoNumber⟩ T.u_NoNumber_NoClock T.u_NoNumber_NoNumber T.u_NoNumber_NoRow (.inr (.inl ⟨rfl, rfl, rfl, rfl⟩)) hq a, fun z => nomatch z⟩⟩
      · exact ⟨false, T.e_NoRows.ex T.u_NoRow_NoRows, (fun z => nomatch z), fun _ => ⟨true, T.e_TollError.ex T.u_NoRow_TollError, fun _ a _ => suite ⟨_, T.e_NoRow⟩ T.u_NoRow_NoClock T.u_NoRow_NoNumber T.u_NoRow_NoRow (.inr (.inr ⟨rfl, rfl, rfl, rfl⟩)) hq a, fun z => nomatch z⟩⟩
      · refine ⟨true, T.e_NoRows.ex T.u_NoRows_NoRows, fun _ a _ => ?_, fun z => nomatch z⟩
        dsimp only [tsRows, gName, tAsg]
        refine ⟨_, rfl, rfl, rfl, dd, _, _, rfl, hdd, rfl, 1, rfl, i, -1, 300, rfl, _, rfl, ?_⟩
        rw [decide_eq_true i0, decide_eq_true i1]
        refine iteT ⟨_, rfl, rfl, rfl, dd, _, _, rfl, hdd, rfl, by show 2 ≤ sizeLine; decide, fun tq ntq => ?_⟩
        exact ⟨_, rfl, hq _ tq (same_new ntq) upd_same⟩
    · show tl (EWordR X.mg Q) H (fun (_ : V) (H' : Hp) => tRet (tVar 1) { nx := fun x H' => Q V.non H', rt := Q } ((L2.start N_law_row_refusal [V.ref f]).set 1 (some (V.str "let"))) H')
      rw [e]
      exact h
end
end S4

namespace S4
open PySem L2 TT MM
/-! ### the law's likeness, of any things -/
theorem op_or {X : Cx} {f : Value → Value → Sem Value} {r1 r2 : R2} (h1 : OpR X f r1) (h2 : OpR X f r2) : OpR X f (fun x y H Q => r1 x y H Q ∨ r2 x y H Q) :=
  fun pins s σ H x y v u Q I rx ry h => h.elim (h1 pins s σ H x y v u Q I rx ry) (h2 pins s σ H x y v u Q I rx ry)
/-- what holds no more: flat, or two dicts of the same flat things -/
def LeafS (H : Hp) (x y : V) : Prop := (Flat x ∧ y = x) ∨ ∃ a b kvs, x = .ref a ∧ y = .ref b ∧ H a = some (.dK kvs) ∧ H b = some (.dK kvs) ∧ (kvs.map (·.1)).Nodup ∧ ∀ p ∈ kvs, flatB p.2 = true
theorem hu0s {k : Nat} {A : Around} (r : Room k A) : A.units < cLine := by have := r.un; omega
def AlikeS (H : Hp) : Nat → V → V → Prop
  | 0, x, y => LeafS H x y
  | n + 1, x, y => LeafS H x y ∨ ∃ a b xs ys, x = .ref a ∧ y = .ref b ∧ ((H a = some (.tup xs) ∧ H b = some (.tup ys)) ∨ (H a = some (.lst xs) ∧ H b = some (.lst ys))) ∧ xs.length ≤ 1000 ∧ Paired (AlikeS H n) xs ys
theorem LeafS.same {H H' : Hp} {x y : V} (s : Same H H') (h : LeafS H x y) : LeafS H' x y := by
  rcases h with h | ⟨a, b, kvs, e1, e2, h1, h2, h3⟩
  · exact .inl h
  · exact .inr ⟨a, b, kvs, e1, e2, s _ _ h1, s _ _ h2, h3⟩
theorem alikeS_same {H H' : Hp} (s : Same H H') : ∀ (n : Nat) {x y : V}, AlikeS H n x y → AlikeS H' n x y
  | 0, _, _, h => h.same s
  | n + 1, _, _, h => by
    rcases h with h | ⟨a, b, xs, ys, e1, e2, h, hl, hp⟩
    · exact .inl (h.same s)
    · refine .inr ⟨a, b, xs, ys, e1, e2, ?_, hl, Paired.mapP hp fun _ _ q => alikeS_same s n q⟩
      rcases h with ⟨h1, h2⟩ | ⟨h1, h2⟩
      · exact .inl ⟨s _ _ h1, s _ _ h2⟩
      · exact .inr ⟨s _ _ h1, s _ _ h2⟩
theorem kitA_no {K : PySem.W.Frag} {t : Value} (h1 : PySem.W.kitOne K t (.type "tuple") = some false) (h2 : PySem.W.kitOne K t (.type "list") = some false) : PySem.W.kitAny K t [.type "tuple", .type "list"] = some false := by
  unfold PySem.W.kitAny
  rw [h1]
  show PySem.W.kitAny K t [.type "list"] = some false
  unfold PySem.W.kitAny
  rw [h2]
  rfl
theorem LeafS.kinds {H : Hp} {x y : V} (h : LeafS H x y) (K : PySem.W.Frag) : ∃ t1 t2 b, TyX K H x t1 ∧ TyX K H y t2 ∧ PySem.W.kitAny K t2 [.type "tuple", .type "list"] = some false ∧ PySem.W.kitOne K t1 (.type "bool") = some b ∧ PySem.W.kitOne K t2 (.type "bool") = some b := by
  rcases h with ⟨f, rfl⟩ | ⟨a, b, kvs, rfl, rfl, h1, h2, _⟩
  · cases y with
    | non => exact ⟨_, _, false, .base .non, .base .non, kitA_no (kit_ty (by decide +kernel)) (kit_ty (by decide +kernel)), kit_ty (by decide +kernel), kit_ty (by decide +kernel)⟩
    | bl b => exact ⟨_, _, true, .base (.bl b), .base (.bl b), kitA_no (kit_ty (by decide +kernel)) (kit_ty (by decide +kernel)), kit_ty (by decide +kernel), kit_ty (by decide +kernel)⟩
    | int b => exact ⟨_, _, false, .base (.int b), .base (.int b), kitA_no (kit_ty (by decide +kernel)) (kit_ty (by decide +kernel)), kit_ty (by decide +kernel), kit_ty (by decide +kernel)⟩
    | str b => exact ⟨_, _, false, .base (.str b), .base (.str b), kitA_no (kit_ty (by decide +kernel)) (kit_ty (by decide +kernel)), kit_ty (by decide +kernel), kit_ty (by decide +kernel)⟩
    | _ => exact f.elim
  · exact ⟨_, _, false, .base (.dK h1), .base (.dK h2), kitA_no (kit_ty (by decide +kernel)) (kit_ty (by decide +kernel)), kit_ty (by decide +kernel), kit_ty (by decide +kernel)⟩
theorem LeafS.eq {H : Hp} {x y : V} {Q : VK} (h : LeafS H x y) (q : Q (.bl true) H) : rEq x y H Q ∨ (fun x y (H : Hp) (Q : VK) => ∃ a b kvs, x = V.ref a ∧ y = V.ref b ∧ H a = some (.dK kvs) ∧ H b = some (.dK kvs) ∧ (kvs.map (·.1)).Nodup ∧ (∀ p ∈ kvs, flatB p.2 = true) ∧ Q (.bl true) H) x y H Q := by
  rcases h with ⟨f, rfl⟩ | ⟨a, b, kvs, e1, e2, h1, h2, h3, h4⟩
  · refine .inl ⟨?_, by rw [decide_eq_true rfl]; exact q⟩
    cases y <;> first | rfl | exact f.elim
  · exact .inr ⟨a, b, kvs, e1, e2, h1, h2, h3, h4, q⟩
section
variable {P : Program} {w : World} {K : PySem.W.Frag} {mg : Str → Option Value} {base : Heap} {cT cS : Addr}
def spIsS (n : Nat) : Sp := fun vs H Q _ => ∃ (x y : V), vs = [x, y] ∧ AlikeS H n x y ∧ ∀ H', Same H H' → Q (.bl true) H'
theorem sp_lenS (n : Nat) : ∀ vs H Q E, spIsS n vs H Q E → vs.length = ["told", "due"].length := fun vs H Q E h => by
  obtain ⟨x, y, rfl, _⟩ := h
  rfl
/-- the int's way, at any depth -/
theorem ok_isS (T : Tx K mg cT cS) {f : Addr} {fd : FuncData} (d : D K mg "_law_is" s_law_is ["told", "due"] f fd) : ∀ n : Nat, FnOk P w K mg base CX0 (n + 1) f fd ["told", "due"] (spIsS n) := by
  intro n
  induction n with
  | zero =>
    refine d.F.ok sc_law_is (sp_lenS 0) (fun cdv A outer s H vs Q E hr h => ?_)
    obtain ⟨x, y, rfl, lf, q⟩ := h
    refine ⟨_, pss_cons (ps_if (pt_val (pe_callB call_isiT (by rfl) T.b_isinstance (by decide +kernel) (pa_cons (pv 1) (pa_cons (pe_tup (pa_cons (ty_tuple T.b_tuple) (pa_cons (ty_list T.b_list) pa_nil))) pa_nil)))) pss_never pss_nil)
      (pss_one (ps_ret (pe_and (pe_cmpR op_eq (pe_callB call_isi (by rfl) T.b_isinstance (by decide +kernel) (pa_cons (pv 0) (pa_cons (ty_bool T.b_bool) pa_nil))) (pe_callB call_isi (by rfl) T.b_isinstance (by decide +kernel) (pa_cons (pv 1) (pa_cons (ty_bool T.b_bool) pa_nil))) (nomark _))
        (pe_one (pe_cmpR (op_or op_eq (op_eq_dict (hu0s hr))) (pv 0) (pv 1) (nomark _)))))), ?_⟩
    refine ⟨_, rfl, by show 2 ≤ sizeLine; decide, fun p np => ?_⟩
    have s1 := same_new (o := .tup [V.ty "tuple", V.ty "list"]) np
    have lf1 := lf.same s1
    obtain ⟨t1, t2, b, y1, y2, k1, k2, k3⟩ := lf1.kinds K
    refine ⟨_, p, _, _, _, _, rfl, upd_same, .cons (.ty _) (.cons (.ty _) .nil), y2, k1, _, rfl, iteF ?_⟩
    refine ⟨_, rfl, _, _, _, _, _, rfl, .ty _, y1, k2, _, rfl, _, _, _, _, _, rfl, .ty _, y2, k3, rfl, true, by cases b <;> rfl, ?_⟩
    exact iteT ⟨_, rfl, _, rfl, lf1.eq (q _ s1)⟩
  | succ n G =>
    refine d.F.ok sc_law_is (sp_lenS (n + 1)) (fun cdv A outer s H vs Q E hr h => ?_)
    obtain ⟨x, y, rfl, h, q⟩ := h
    refine ⟨_, pss_cons (ps_if (pt_val (pe_callB call_isiT (by rfl) T.b_isinstance (by decide +kernel) (pa_cons (pv 1) (pa_cons (pe_tup (pa_cons (ty_tuple T.b_tuple) (pa_cons (ty_list T.b_list) pa_nil))) pa_nil))))
        (pss_cons (ps_if (PW.pt (pw_or (pt_cmpR op_ne (pe_callB call_isi (by rfl) T.b_isinstance (by decide +kernel) (pa_cons (pv 0) (pa_cons (ty_tuple T.b_tuple) pa_nil))) (pe_callB call_isi (by rfl) T.b_isinstance (by decide +kernel) (pa_cons (pv 1) (pa_cons (ty_tuple T.b_tuple) pa_nil))) (nomark _))
            (pw_or1 (pt_not (pt_val (pe_callB call_isiT (by rfl) T.b_isinstance (by decide +kernel) (pa_cons (pv 0) (pa_cons (pe_tup (pa_cons (ty_tuple T.b_tuple) (pa_cons (ty_list T.b_list) pa_nil))) pa_nil)))))))) pss_never pss_nil)
          (pss_one (ps_ret (pe_and (pe_cmpR op_eq (pe_callB call_len_seq (by rfl) T.b_len PySem.boot_len (pa_cons (pv 0) pa_nil)) (pe_callB call_len_seq (by rfl) T.b_len PySem.boot_len (pa_cons (pv 1) pa_nil)) (nomark _))
            (pe_one (pe_callB (cr_all rfl) (by rfl) T.b_all (by decide +kernel) (pa_cons
              (pe_lc (own := [("one", 2), ("two", 3)]) (g := gTup K 2 (gCons (gName 2) (gCons (gName 3) gNil))) (tt := tYes) rfl sc_law_is.nd (RZ.pi_zipA (by rfl) T.b_zip (pa_cons (pv 0) (pa_cons (pv 1) pa_nil))) (blkOk_by (N := N_law_is) (sc := defScope s_law_is) (by decide +kernel))
                (fun _ _ _ _ _ => pgT rfl rfl (pgs_cons (pg_name (i := 2) sc_law_is.nd rfl (Or.inl rfl)) (pgs_cons (pg_name (i := 3) sc_law_is.nd rfl (Or.inl rfl)) pgs_nil))) (fun _ _ _ _ _ => pts_nil)
                (fun _ _ _ _ _ => pe_call G hr rfl d.m d.F.kp d.b .nil pass0 (pa_cons (pv 2) (pa_cons (pv 3) pa_nil)))) pa_nil))))))) pss_nil)
      (pss_one (ps_ret (pe_and (pe_cmpR op_eq (pe_callB call_isi (by rfl) T.b_isinstance (by decide +kernel) (pa_cons (pv 0) (pa_cons (ty_bool T.b_bool) pa_nil))) (pe_callB call_isi (by rfl) T.b_isinstance (by decide +kernel) (pa_cons (pv 1) (pa_cons (ty_bool T.b_bool) pa_nil))) (nomark _))
        (pe_one (pe_cmpR (op_or op_eq (op_eq_dict (hu0s hr))) (pv 0) (pv 1) (nomark _)))))), ?_⟩
    rcases h with lf | ⟨a, b, xs, ys, rfl, rfl, h, hl, hp⟩
    · refine ⟨_, rfl, by show 2 ≤ sizeLine; decide, fun p np => ?_⟩
      have s1 := same_new (o := .tup [V.ty "tuple", V.ty "list"]) np
      have lf1 := lf.same s1
      obtain ⟨t1, t2, b, y1, y2, k1, k2, k3⟩ := lf1.kinds K
      refine ⟨_, p, _, _, _, _, rfl, upd_same, .cons (.ty _) (.cons (.ty _) .nil), y2, k1, _, rfl, iteF ?_⟩
      refine ⟨_, rfl, _, _, _, _, _, rfl, .ty _, y1, k2, _, rfl, _, _, _, _, _, rfl, .ty _, y2, k3, rfl, true, by cases b <;> rfl, ?_⟩
      exact iteT ⟨_, rfl, _, rfl, lf1.eq (q _ s1)⟩
    · have hle := paired_len hp
      have turn : ∀ {H1 : Hp} {D : Addr} {i : Nat} {x : V} {H2 H3 : Hp}, Same H H1 → H1 D = none → i < xs.length → PvFm rBl (fun _ => some true) D H1 i H2 → YPair (fun i => xs[i]?) (fun i => ys[i]?) i H2 x H3 →
          gTup K 2 (gCons (gName 2) (gCons (gName 3) gNil)) x (wipe (L2.start N_law_is [V.ref a, V.ref b]) [2, 3]) H3 fun σ2 H2 => wipe σ2 [2, 3] = wipe (L2.start N_law_is [V.ref a, V.ref b]) [2, 3] ∧ tYes σ2 H2 fun b H3 =>
            if b = true then tCall (spIsS n) [] E0 (tCons (tVar 2) (tCons (tVar 3) tNil)) σ2 H3 fun y H4 => ∃ acc, H4 D = some (.lst acc) ∧ acc.length < sizeLine ∧ PvFm rBl (fun _ => some true) D H1 (i + 1) (upd H4 D (.lst (acc ++ [y]))) else PvFm rBl (fun _ => some true) D H1 (i + 1) H3 := by
        rintro H1 D i x H2 H3 s1 hD hi pv ⟨tz, u1, u2, rfl, nz, rfl, e1, e2⟩
        obtain ⟨v, hv, hal⟩ := paired_get hp e1
        have : v = u2 := by
          have e2' : ys[i]? = some u2 := e2
          rw [hv] at e2'
          exact Option.some.inj e2'
        subst this
        have s3 := same_new (o := .tup [u1, v]) nz
        refine ⟨tz, _, rfl, .of upd_same, rfl, _, _, rfl, _, _, rfl, rfl, rfl, ?_⟩
        refine ⟨_, rfl, _, rfl, u1, v, rfl, alikeS_same ((s1.trans pv.1).trans s3) n hal, fun H5 s5 => ?_⟩
        exact fm_keep mono_bl pv hD (by omega) (s3.trans s5) rfl rfl
      rcases h with ⟨h1, h2⟩ | ⟨h1, h2⟩
      · refine ⟨_, rfl, by show 2 ≤ sizeLine; decide, fun p np => ⟨_, p, _, _, _, _, rfl, upd_same, .cons (.ty _) (.cons (.ty _) .nil), .base (.tup ((same_new np).keep.tup h2)), kitA_t, _, rfl, iteT ?_⟩⟩
        have s1 := same_new (o := .tup [V.ty "tuple", V.ty "list"]) np
        refine ⟨_, rfl, _, _, _, _, _, rfl, .ty _, .base (.tup (s1 _ _ h1)), kit_tt, _, rfl, _, _, _, _, _, rfl, .ty _, .base (.tup (s1 _ _ h2)), kit_tt, rfl, _, rfl, iteF ?_⟩
        refine ⟨_, rfl, by show 2 ≤ sizeLine; decide, fun p2 np2 => ⟨_, p2, _, _, _, _, rfl, upd_same, .cons (.ty _) (.cons (.ty _) .nil), .base (.tup ((same_new np2) _ _ (s1 _ _ h1))), kitA_t, _, rfl, iteF ?_⟩⟩
        have s2 := s1.trans (same_new (o := .tup [V.ty "tuple", V.ty "list"]) np2)
        refine ⟨_, rfl, _, _, rfl, .inr (.of (s2 _ _ h1)), _, rfl, _, _, rfl, .inr (.of (s2 _ _ h2)), rfl, true, by rw [hle]; simp, ?_⟩
        refine iteT ⟨_, rfl, _, rfl, a, b, xs, ys, rfl, .inr ⟨.of (s2 _ _ h1), .of (s2 _ _ h2), fun D hD => ?_⟩⟩
        refine lc_fm (walk_zipT (n := xs.length) (by omega)) rBl (fun _ => some true) hD (fun H' s' => ⟨.of (s' _ _ (s2 _ _ h1)), .of (s' _ _ (s2 _ _ h2))⟩) (fun i x H2 H3 hi pv y => turn s2 hD hi pv y) ?_
        intro H3 zs s3 hD3 hp3
        have := paired_bl hp3
        subst this
        refine ⟨_, _, rfl, .of hD3, ?_⟩
        rw [all_true_fm rfl]
        exact q _ (s2.trans s3)
      · refine ⟨_, rfl, by show 2 ≤ sizeLine; decide, fun p np => ⟨_, p, _, _, _, _, rfl, upd_same, .cons (.ty _) (.cons (.ty _) .nil), .base (.lst ((same_new np) _ _ h2)), kitA_l, _, rfl, iteT ?_⟩⟩
        have s1 := same_new (o := .tup [V.ty "tuple", V.ty "list"]) np
        refine ⟨_, rfl, _, _, _, _, _, rfl, .ty _, .base (.lst (s1 _ _ h1)), kit_lt, _, rfl, _, _, _, _, _, rfl, .ty _, .base (.lst (s1 _ _ h2)), kit_lt, rfl, _, rfl, iteF ?_⟩
        refine ⟨_, rfl, by show 2 ≤ sizeLine; decide, fun p2 np2 => ⟨_, p2, _, _, _, _, rfl, upd_same, .cons (.ty _) (.cons (.ty _) .nil), .base (.lst ((same_new np2) _ _ (s1 _ _ h1))), kitA_l, _, rfl, iteF ?_⟩⟩
        have s2 := s1.trans (same_new (o := .tup [V.ty "tuple", V.ty "list"]) np2)
        refine ⟨_, rfl, _, _, rfl, .inl (.of (s2 _ _ h1)), _, rfl, _, _, rfl, .inl (.of (s2 _ _ h2)), rfl, true, by rw [hle]; simp, ?_⟩
        refine iteT ⟨_, rfl, _, rfl, a, b, xs, ys, rfl, .inl ⟨.of (s2 _ _ h1), .of (s2 _ _ h2), fun D hD => ?_⟩⟩
        refine lc_fm (walk_zip (n := xs.length) (by omega)) rBl (fun _ => some true) hD (fun H' s' => ⟨.of (s' _ _ (s2 _ _ h1)), .of (s' _ _ (s2 _ _ h2))⟩) (fun i x H2 H3 hi pv y => turn s2 hD hi pv y) ?_
        intro H3 zs s3 hD3 hp3
        have := paired_bl hp3
        subst this
        refine ⟨_, _, rfl, .of hD3, ?_⟩
        rw [all_true_fm rfl]
        exact q _ (s2.trans s3)
end
end S4

/-! things in things -/
namespace S4
open PySem L2 TT MM
theorem Sq_of_lst {g : Addr} {H : Hp} {a : Addr} {xs : List V} (h : H a = some (.lst xs)) (na : a ≠ g) (hl : xs.length ≤ 1000) (hx : ∀ x ∈ xs, Th g H 1 x) : ThS g H (.ref a) := ⟨.lst h na 2, fun b ys e hb => by cases e; rw [h] at hb; cases hb; exact ⟨hl, hx⟩⟩
theorem ThS.flat {g : Addr} {H : Hp} {v : V} (h : Flat v) : ThS g H v := ⟨.flat h 2, fun a xs e _ => by subst e; exact h.elim⟩
theorem ThS.ofTup {g : Addr} {H : Hp} {a : Addr} {xs : List V} (h : H a = some (.tup xs)) (na : a ≠ g) (hl : xs.length ≤ 1000) (hx : ∀ x ∈ xs, Th g H 1 x) : ThS g H (.ref a) := ⟨.tup h na hl hx, fun b ys e hb => by cases e; rw [h] at hb; cases hb⟩
theorem ThS.ofDct {g : Addr} {H : Hp} {a : Addr} {xs : List (Key × V)} (h : H a = some (.dK xs)) (na : a ≠ g) : ThS g H (.ref a) := ⟨.dct h na 2, fun b ys e hb => by cases e; rw [h] at hb; cases hb⟩
theorem ThS.but {g : Addr} {H H' : Hp} (b : But g H H') {v : V} (t : ThS g H v) : ThS g H' v := by
  refine ⟨t.th.but b, fun a xs e h => ?_⟩
  subst e
  rcases t.th.zero with f | ⟨a', e, na, h' | ⟨ys, h'⟩ | ⟨kvs, h'⟩⟩
  · exact f.elim
  · obtain ⟨ys, h', _⟩ := h'
    cases e
    rw [b _ _ na h'] at h; cases h
  · cases e
    have h2 := b _ _ na h'
    rw [h] at h2; cases h2
    exact ⟨(t.ls _ _ rfl h').1, fun x hx => ((t.ls _ _ rfl h').2 x hx).but b⟩
  · cases e
    rw [b _ _ na h'] at h; cases h
section
variable {P : Program} {w : World} {K : PySem.W.Frag} {mg : Str → Option Value} {base : Heap} {cT cS : Addr}
/-- like itself, at most so deep -/
def LeafL (g : Addr) (H : Hp) (v : V) : Prop := Flat v ∨ ∃ a kvs, v = .ref a ∧ a ≠ g ∧ H a = some (.dK kvs) ∧ (kvs.map (·.1)).Nodup ∧ ∀ p ∈ kvs, flatB p.2 = true
def Like (g : Addr) (H : Hp) : Nat → V → Prop
  | 0, v => LeafL g H v
  | n + 1, v => LeafL g H v ∨ ∃ a xs, v = .ref a ∧ a ≠ g ∧ (H a = some (.tup xs) ∨ H a = some (.lst xs)) ∧ xs.length ≤ 1000 ∧ ∀ x ∈ xs, Like g H n x
theorem LeafL.but {g : Addr} {H H' : Hp} (b : But g H H') {v : V} (h : LeafL g H v) : LeafL g H' v := by
  rcases h with h | ⟨a, kvs, e, na, h, h2⟩
  · exact .inl h
  · exact .inr ⟨a, kvs, e, na, b _ _ na h, h2⟩
theorem Like.but {g : Addr} {H H' : Hp} (b : But g H H') : ∀ {n : Nat} {v : V}, Like g H n v → Like g H' n v
  | 0, _, h => LeafL.but b h
  | n + 1, _, h => by
    rcases h with h | ⟨a, xs, e, na, h, hl, hx⟩
    · exact .inl (h.but b)
    · exact .inr ⟨a, xs, e, na, h.imp (b _ _ na) (b _ _ na), hl, fun x hm => Like.but b (hx x hm)⟩
theorem Like.leaf {g : Addr} {H : Hp} {v : V} (h : LeafL g H v) : ∀ n : Nat, Like g H n v
  | 0 => h
  | _ + 1 => .inl h
theorem Like.flat {g : Addr} {H : Hp} {v : V} (h : Flat v) (n : Nat) : Like g H n v := Like.leaf (.inl h) n
theorem Like.up {g : Addr} {H : Hp} : ∀ {n : Nat} {v : V}, Like g H n v → Like g H (n + 1) v
  | 0, _, h => .inl h
  | n + 1, _, h => by
    rcases h with h | ⟨a, xs, e, na, h, hl, hx⟩
    · exact .inl h
    · exact .inr ⟨a, xs, e, na, h, hl, fun x hm => Like.up (hx x hm)⟩
theorem Like.le {g : Addr} {H : Hp} {n m : Nat} {v : V} (h : Like g H n v) (hm : n ≤ m) : Like g H m v := by
  induction m with
  | zero => obtain rfl : n = 0 := by omega
            exact h
  | succ m ih =>
    by_cases e : n = m + 1
    · subst e; exact h
    · exact (ih (by omega)).up
theorem Like.tup {g : Addr} {H : Hp} {a : Addr} {xs : List V} {n : Nat} (h : H a = some (.tup xs)) (na : a ≠ g) (hl : xs.length ≤ 1000) (hx : ∀ x ∈ xs, Like g H n x) : Like g H (n + 1) (.ref a) := .inr ⟨a, xs, rfl, na, .inl h, hl, hx⟩
theorem Like.lst {g : Addr} {H : Hp} {a : Addr} {xs : List V} {n : Nat} (h : H a = some (.lst xs)) (na : a ≠ g) (hl : xs.length ≤ 1000) (hx : ∀ x ∈ xs, Like g H n x) : Like g H (n + 1) (.ref a) := .inr ⟨a, xs, rfl, na, .inr h, hl, hx⟩
theorem Like.self {g : Addr} {H : Hp} : ∀ {n : Nat} {v : V}, Like g H n v → AlikeS H n v v
  | 0, _, h => by
    rcases h with h | ⟨a, kvs, e, na, h, h2⟩
    · exact .inl ⟨h, rfl⟩
    · exact .inr ⟨a, a, kvs, e, e, h, h, h2⟩
  | n + 1, _, h => by
    rcases h with (h | ⟨a, kvs, e, na, h, h2⟩) | ⟨a, xs, e, na, h, hl, hx⟩
    · exact .inl (.inl ⟨h, rfl⟩)
    · exact .inl (.inr ⟨a, a, kvs, e, e, h, h, h2⟩)
    · refine .inr ⟨a, a, xs, xs, e, e, h.imp (fun h => ⟨h, h⟩) (fun h => ⟨h, h⟩), hl, ?_⟩
      clear h hl e
      induction xs with
      | nil => exact .nil
      | cons x xs ih => exact .cons (Like.self (hx x (by simp))) (ih fun y hy => hx y (by simp [hy]))
def spNested2 : Sp := fun vs H Q _ => ∃ (g c : Addr), vs = [.ref g] ∧ Hand g c H ∧ ∀ H' v, But g H H' → Hand g c H' → (∀ k, Th g H' k v) → ThS g H' v → Like g H' 25 v → (∃ a, v = .ref a) → Q v H'
def spNested : Sp := fun vs H Q _ => ∃ (g c : Addr), vs = [.ref g] ∧ Hand g c H ∧ ∀ H' v, But g H H' → Hand g c H' → (∀ k, Th g H' k v) → ThS g H' v → Q v H'
theorem hand_newK {g c p : Addr} {H : Hp} (h : Hand g c H) (hp : H p = none) : p ≠ g ∧ p ≠ c := by
  obtain ⟨_, e⟩ := h.lst
  obtain ⟨_, e2⟩ := h.cells
  exact ⟨fun q => (by rw [q, e] at hp; cases hp), fun q => (by rw [q, e2] at hp; cases hp)⟩
theorem ok_nested2 (T : Tx K mg cT cS) {f : Addr} {fd : FuncData} (d : D K mg "_law_nested" s_law_nested ["hand"] f fd) : FnOk P w K mg base CX0 3 f fd ["hand"] spNested2 := by
  obtain ⟨f1, fd1, d1⟩ := T.d_law_any
  have G1 : FnOk P w K mg base CX0 2 f1 fd1 ["hand", "items"] spAny := ok_any T d1
  refine d.F.ok sc_law_nested (fun vs H Q E h => ?_) (fun cdv A outer s H vs Q E hr h => ?_)
  · obtain ⟨g, c, rfl, _⟩ := h
    rfl
  · obtain ⟨g, c, rfl, hh, q⟩ := h
    refine ⟨_, pss_cons (ps_set (i := 1) sc_law_nested.nd rfl (.inl rfl) (pe_call G1 hr rfl d1.m d1.F.kp d1.b .nil pass0 (pa_cons (pv 0) (pa_cons (pe_lst (pa_cons (pe_tup pa_nil) (pa_cons pe_int (pa_cons pe_str (pa_cons pe_non pa_nil))))) pa_nil))))
      (pss_cons (ps_for PassesOwn.never rfl (pi_range1 rfl T.b_range (pa_cons pe_int pa_nil)) (pg_name (i := 2) sc_law_nested.nd rfl (Or.inl rfl))
        (pss_one (ps_set (i := 1) sc_law_nested.nd rfl (.inl rfl) (pe_ifExp (pt_cmpR op_eq (pe_op op_mod (pe_callTy call_int1 (by rfl) T.b_int (by decide +kernel) (pa_cons (pv 2) pa_nil)) pe_int) pe_int (nomark _)) (pe_lst (pa_cons (pv 1) pa_nil)) (pe_tup (pa_cons (pv 1) pa_nil))))))
      (pss_one (ps_ret (pv 1)))), ?_⟩
    refine ⟨_, rfl, by show 0 ≤ sizeLine; decide, fun p0 np0 => ⟨by show 4 ≤ sizeLine; decide, fun l nl => ?_⟩⟩
    have s0 := same_new (o := .tup []) np0
    have s1 := same_new (o := .lst [V.ref p0, V.int 0, V.str "a", V.non]) nl
    have hh1 := hh.same (s0.trans s1)
    have hpg := (hand_newK hh np0).1
    have hlg := (hand_newK (hh.same s0) nl).1
    refine ⟨g, c, l, _, rfl, upd_same, hlg, by show 0 < 4; decide, by show 4 < 1000000; decide, hh1, fun H2 i x b2 hh2 hx => ?_⟩
    have hp2 : H2 p0 = some (.tup []) := b2 _ _ hpg (s1 _ _ upd_same)
    have hT : (∀ k, Th g H2 k x) ∧ ThS g H2 x ∧ Like g H2 1 x := by
      match i, hx with
      | 0, hx => cases (Option.some.inj hx); exact ⟨fun k => by cases k with | zero => exact Th.tup0 hp2 hpg (by show 0 ≤ 1000; decide) | succ k => exact Th.tup hp2 hpg (by show 0 ≤ 1000; decide) (fun _ h => nomatch h), .ofTup hp2 hpg (by show 0 ≤ 1000; decide) (fun _ h => nomatch h), Like.tup hp2 hpg (by show 0 ≤ 1000; decide) (fun _ h => nomatch h)⟩
      | 1, hx => cases (Option.some.inj hx); exact ⟨.flat trivial, .flat trivial, (by refine Like.flat ?_ 1; exact True.intro)⟩
      | 2, hx => cases (Option.some.inj hx); exact ⟨.flat trivial, .flat trivial, (by refine Like.flat ?_ 1; exact True.intro)⟩
      | 3, hx => cases (Option.some.inj hx); exact ⟨.flat trivial, .flat trivial, (by refine Like.flat ?_ 1; exact True.intro)⟩
      | n + 4, hx => simp at hx
    dsimp only [gName, tSeq]
    refine ⟨_, rfl, by decide, by decide, ?_⟩
    refine for_it (walk_range (lo := 0) (n := ((24 : Int)).toNat)) (fun i σ H' => But g H H' ∧ Hand g c H' ∧ ∃ v o2, σ = [some (.ref g), some v, o2] ∧ (∀ k, Th g H' k v) ∧ ThS g H' v ∧ Like g H' (i + 1) v ∧ (0 < i → ∃ a, v = .ref a)) ⟨((s0.trans s1).but g).trans b2, hh2, x, none, rfl, hT.1, hT.2.1, hT.2.2, fun h => absurd h (Nat.lt_irrefl 0)⟩ (fun _ _ _ _ _ => trivial) ?_ ?_
    · rintro i y σ H4 H5 hi ⟨b4, hh4, v, o2, rfl, tv, sv, lv, _⟩ ⟨rfl, rfl⟩
      refine ⟨_, rfl, .inl ⟨_, rfl, _, _, rfl, rfl, (by dsimp only; decide), rfl, _, rfl, ?_⟩⟩
      refine ite2 (fun _ => ⟨_, rfl, by show 1 ≤ sizeLine; decide, fun p np => ?_⟩) (fun _ => ⟨_, rfl, by show 1 ≤ sizeLine; decide, fun p np => ?_⟩)
      · have s := same_new (o := .lst [v]) np
        have hp := (hand_newK hh4 np).1
        have tv' := fun k => (tv k).same s
        exact ⟨b4.trans (s.but g), hh4.same s, _, _, rfl, Th.lst upd_same hp, Sq_of_lst upd_same hp (by show 1 ≤ 1000; decide) (fun y hy => by rw [List.mem_singleton.mp hy]; exact tv' 1), Like.lst upd_same hp (by show 1 ≤ 1000; decide) (fun y hy => by rw [List.mem_singleton.mp hy]; exact lv.but (s.but g)), fun _ => ⟨_, rfl⟩⟩
      · have s := same_new (o := .tup [v]) np
        have hp := (hand_newK hh4 np).1
        have tv' := fun k => (tv k).same s
        exact ⟨b4.trans (s.but g), hh4.same s, _, _, rfl, fun k => by cases k with | zero => exact Th.tup0 upd_same hp (by show 1 ≤ 1000; decide) | succ k => exact Th.tup upd_same hp (by show 1 ≤ 1000; decide) (fun y hy => by rw [List.mem_singleton.mp hy]; exact tv' k),
          .ofTup upd_same hp (by show 1 ≤ 1000; decide) (fun y hy => by rw [List.mem_singleton.mp hy]; exact tv' 1), Like.tup upd_same hp (by show 1 ≤ 1000; decide) (fun y hy => by rw [List.mem_singleton.mp hy]; exact lv.but (s.but g)), fun _ => ⟨_, rfl⟩⟩
    · rintro σ H4 ⟨b4, hh4, v, o2, rfl, tv, sv, lv, rv⟩
      exact ⟨_, rfl, q H4 v b4 hh4 tv sv lv (rv (by decide))⟩
theorem ok_nested (T : Tx K mg cT cS) {f : Addr} {fd : FuncData} (d : D K mg "_law_nested" s_law_nested ["hand"] f fd) : FnOk P w K mg base CX0 3 f fd ["hand"] spNested := (ok_nested2 T d).imp fun vs H Q E ⟨g, c, e, hh, q⟩ => ⟨g, c, e, hh, fun H' v b h t s _ _ => q H' v b h t s⟩
end
end S4

/-! odd things -/
namespace S4
open PySem L2 TT MM
theorem same_upd2 {H : Hp} {p : Addr} {a b : HO} (h : H p = none) : Same H (upd (upd H p a) p b) := fun x o e => by
  have : x ≠ p := fun z => by rw [z, h] at e; cases e
  rw [upd_ne this, upd_ne this]; exact e
theorem fc {α : Type} {p : α → Prop} {a : α} {l : List α} (h : p a) (t : ∀ x ∈ l, p x) : ∀ x ∈ a :: l, p x := fun x hx => by
  rcases List.mem_cons.mp hx with rfl | hx
  · exact h
  · exact t x hx
theorem fn0 {α : Type} {p : α → Prop} : ∀ x ∈ ([] : List α), p x := fun _ h => nomatch h
section
variable {P : Program} {w : World} {K : PySem.W.Frag} {mg : Str → Option Value} {base : Heap} {cT cS : Addr}
def spOdd2 : Sp := fun vs H Q _ => ∃ (g c : Addr), vs = [.ref g] ∧ Hand g c H ∧ ∀ H' v, But g H H' → Hand g c H' → ThS g H' v → Like g H' 25 v → Q v H'
def spOdd : Sp := fun vs H Q _ => ∃ (g c : Addr), vs = [.ref g] ∧ Hand g c H ∧ ∀ H' v, But g H H' → Hand g c H' → ThS g H' v → Q v H'
theorem ok_odd2 (T : Tx K mg cT cS) {f : Addr} {fd : FuncData} (d : D K mg "_law_odd" s_law_odd ["hand"] f fd) : FnOk P w K mg base CX0 4 f fd ["hand"] spOdd2 := by
  obtain ⟨f1, fd1, d1⟩ := T.d_law_nested
  have G1 := ok_nested2 (P := P) (w := w) (base := base) T d1
  obtain ⟨f2, fd2, d2⟩ := T.d_law_any
  have G2 := ok_any (P := P) (w := w) (base := base) T d2
  refine d.F.ok sc_law_odd (fun vs H Q E h => ?_) (fun cdv A outer s H vs Q E hr h => ?_)
  · obtain ⟨g, c, rfl, _⟩ := h
    rfl
  · obtain ⟨g, c, rfl, hh, q⟩ := h
    refine ⟨_, pss_cons (ps_set (i := 1) sc_law_odd.nd rfl (.inl rfl) (pe_lst (pa_cons pe_non (pa_cons pe_bl (pa_cons pe_bl (pa_cons (pe_un un_neg pe_int) (pa_cons pe_int (pa_cons pe_int (pa_cons pe_str (pa_cons pe_str (pa_cons pe_str (pa_cons (pe_tup pa_nil) (pa_cons (pe_tup (pa_cons pe_int pa_nil)) (pa_cons (pe_lst pa_nil) (pa_cons (pe_lst (pa_cons pe_int pa_nil)) (pa_cons pe_dnewK (pa_cons (pe_disp (pps_cons pe_int pe_int pps_nil) (by rfl) (by rfl) (fun z => by cases z) (by decide)) (pa_cons (pe_op op_pow pe_int pe_int) (pa_cons (pe_un un_neg (pe_op op_pow pe_int pe_int)) (pa_cons (pe_tup (pa_cons pe_non pa_nil)) pa_nil))))))))))))))))))))
      (pss_one (ps_ret (pe_call G2 (hr.mono (by decide)) rfl d2.m d2.F.kp d2.b .nil pass0 (pa_cons (pv 0) (pa_cons (pe_op op_cat (pv 1) (pe_lst (pa_cons (pe_call G1 (hr.mono (by decide)) rfl d1.m d1.F.kp d1.b .nil pass0 (pa_cons (pv 0) pa_nil)) (pa_cons (pe_tup (pa_cons (pe_tup pa_nil) pa_nil)) (pa_cons (pe_lst (pa_cons (pe_lst pa_nil) pa_nil)) (pa_cons (pe_tup (pa_cons pe_bl pa_nil)) (pa_cons (pe_tup (pa_cons pe_str pa_nil)) (pa_cons (pe_tup (pa_cons (pe_tup (pa_cons pe_int (pa_cons pe_int pa_nil))) pa_nil)) (pa_cons pe_int pa_nil))))))))) pa_nil))))), ?_⟩
    refine ⟨_, rfl, ?_⟩
    refine ⟨by show 0 ≤ sizeLine; decide, fun p1 n1 => ⟨by show 1 ≤ sizeLine; decide, fun p2 n2 => ⟨by show 0 ≤ sizeLine; decide, fun p3 n3 => ⟨by show 1 ≤ sizeLine; decide, fun p4 n4 p5 n5 p6 n6 => ⟨upd_same, [(Sum.inl 0, V.int 1)], rfl, by decide, ?_⟩⟩⟩⟩⟩
    have s1 := same_new (o := .tup []) n1
    have h1 := hh.same s1
    have g1 := (hand_newK hh n1).1
    have s2 := same_new (o := .tup [V.int 0]) n2
    have h2 := h1.same s2
    have g2 := (hand_newK h1 n2).1
    have s3 := same_new (o := .lst []) n3
    have h3 := h2.same s3
    have g3 := (hand_newK h2 n3).1
    have s4 := same_new (o := .lst [V.int 0]) n4
    have h4 := h3.same s4
    have g4 := (hand_newK h3 n4).1
    have s5 := same_new (o := .dK []) n5
    have h5 := h4.same s5
    have g5 := (hand_newK h4 n5).1
    have s6 := same_upd2 (a := .dK []) (b := .dK (mergeK [] [(Sum.inl 0, V.int 1)])) n6
    have h6 := h5.same s6
    have g6 := (hand_newK h5 n6).1
    refine ⟨_, _, rfl, rfl, ⟨by decide, by decide, by decide⟩, _, _, rfl, rfl, ⟨by decide, by decide, by decide⟩, _, rfl, by show 1 ≤ sizeLine; decide, fun p7 n7 => ⟨by show 18 ≤ sizeLine; decide, fun l nl => ?_⟩⟩
    have s7 := same_new (o := .tup [V.non]) n7
    have h7 := h6.same s7
    have g7 := (hand_newK h6 n7).1
    have gl := (hand_newK h7 nl).1
    refine (show gName 1 (V.ref l) _ (upd _ l (HO.lst [V.non, V.bl true, V.bl false, V.int (-1), V.int 0, V.int 1, V.str (""), V.str ("0"), V.str ("ab"), V.ref p1, V.ref p2, V.ref p3, V.ref p4, V.ref p5, V.ref p6, V.int (10 ^ Int.toNat 59), V.int (-(10 ^ Int.toNat 59)), V.ref p7])) _ from ?_)
    obtain ⟨menu, hM⟩ : ∃ m : List V, m = [V.non, V.bl true, V.bl false, V.int (-1), V.int 0, V.int 1, V.str (""), V.str ("0"), V.str ("ab"), V.ref p1, V.ref p2, V.ref p3, V.ref p4, V.ref p5, V.ref p6, V.int (10 ^ Int.toNat 59), V.int (-(10 ^ Int.toNat 59)), V.ref p7] := ⟨_, rfl⟩
    rw [← hM]
    have sl := same_new (o := .lst menu) nl
    have hl := h7.same sl
    have hlen : menu.length = 18 := by rw [hM]; rfl
    have e17 := s7.trans sl
    have e16 := s6.trans e17
    have e15 := s5.trans e16
    have e14 := s4.trans e15
    have e13 := s3.trans e14
    have e12 := s2.trans e13
    have A1 : ∀ x ∈ menu, ThS g (upd (upd (upd (upd (upd (upd (upd (upd (upd H p1 (HO.tup [])) p2 (HO.tup [V.int 0])) p3 (HO.lst [])) p4 (HO.lst [V.int 0])) p5 (HO.dK [])) p6 (HO.dK [])) p6 (HO.dK (mergeK [] [(Sum.inl 0, V.int 1)]))) p7 (HO.tup [V.non])) l (HO.lst menu)) x ∧ Like g (upd (upd (upd (upd (upd (upd (upd (upd (upd H p1 (HO.tup [])) p2 (HO.tup [V.int 0])) p3 (HO.lst [])) p4 (HO.lst [V.int 0])) p5 (HO.dK [])) p6 (HO.dK [])) p6 (HO.dK (mergeK [] [(Sum.inl 0, V.int 1)]))) p7 (HO.tup [V.non])) l (HO.lst menu)) 25 x := by
      intro x hx
      rw [hM] at hx
      revert x hx
      refine fc ⟨.flat trivial, (by refine Like.flat ?_ 25; exact True.intro)⟩ (fc ⟨.flat trivial, (by refine Like.flat ?_ 25; exact True.intro)⟩ (fc ⟨.flat trivial, (by refine Like.flat ?_ 25; exact True.intro)⟩ (fc ⟨.flat trivial, (by refine Like.flat ?_ 25; exact True.intro)⟩ (fc ⟨.flat trivial, (by refine Like.flat ?_ 25; exact True.intro)⟩ (fc ⟨.flat trivial, (by refine Like.flat ?_ 25; exact True.intro)⟩ (fc ⟨.flat trivial, (by refine Like.flat ?_ 25; exact True.intro)⟩ (fc ⟨.flat trivial, (by refine Like.flat ?_ 25; exact True.intro)⟩ (fc ⟨.flat trivial, (by refine Like.flat ?_ 25; exact True.intro)⟩ (fc ?_ (fc ?_ (fc ?_ (fc ?_ (fc ?_ (fc ?_ (fc ⟨.flat trivial, (by refine Like.flat ?_ 25; exact True.intro)⟩ (fc ⟨.flat trivial, (by refine Like.flat ?_ 25; exact True.intro)⟩ (fc ?_ fn0)))))))))))))))))
      · exact ⟨.ofTup (e12 _ _ upd_same) g1 (by show 0 ≤ 1000; decide) fn0, Like.tup (e12 _ _ upd_same) g1 (by show 0 ≤ 1000; decide) fn0⟩
      · exact ⟨.ofTup (e13 _ _ upd_same) g2 (by show 1 ≤ 1000; decide) (fc (Th.flat (v := V.int 0) trivial 1) fn0), Like.tup (e13 _ _ upd_same) g2 (by show 1 ≤ 1000; decide) (fc (Like.flat (v := V.int 0) trivial 24) fn0)⟩
      · exact ⟨Sq_of_lst (e14 _ _ upd_same) g3 (by show 0 ≤ 1000; decide) fn0, Like.lst (e14 _ _ upd_same) g3 (by show 0 ≤ 1000; decide) fn0⟩
      · exact ⟨Sq_of_lst (e15 _ _ upd_same) g4 (by show 1 ≤ 1000; decide) (fc (Th.flat (v := V.int 0) trivial 1) fn0), Like.lst (e15 _ _ upd_same) g4 (by show 1 ≤ 1000; decide) (fc (Like.flat (v := V.int 0) trivial 24) fn0)⟩
      · exact ⟨.ofDct (e16 _ _ upd_same) g5, Like.leaf (.inr ⟨p5, _, rfl, g5, e16 _ _ upd_same, by decide, fun _ h => nomatch h⟩) 25⟩
      · exact ⟨.ofDct (e17 _ _ upd_same) g6, Like.leaf (.inr ⟨p6, _, rfl, g6, e17 _ _ upd_same, by decide, by decide⟩) 25⟩
      · exact ⟨.ofTup (sl _ _ upd_same) g7 (by show 1 ≤ 1000; decide) (fc (Th.flat (v := V.non) trivial 1) fn0), Like.tup (sl _ _ upd_same) g7 (by show 1 ≤ 1000; decide) (fc (Like.flat (v := V.non) trivial 24) fn0)⟩
    have b0 : But g H _ := (s1.trans e12).but g
    dsimp only [gName, tRet, tCons, tVar, tCall]
    refine ⟨_, rfl, _, rfl, _, rfl, g, c, rfl, hl, fun Hn v bn hn tv sv lv rv => ?_⟩
    refine ⟨by show 0 ≤ sizeLine; decide, fun q1 m1 => ⟨by show 1 ≤ sizeLine; decide, fun q2 m2 => ⟨by show 0 ≤ sizeLine; decide, fun q3 m3 => ⟨by show 1 ≤ sizeLine; decide, fun q4 m4 => ⟨by show 1 ≤ sizeLine; decide, fun q5 m5 => ⟨by show 1 ≤ sizeLine; decide, fun q6 m6 => ⟨by show 2 ≤ sizeLine; decide, fun q7 m7 => ⟨by show 1 ≤ sizeLine; decide, fun q8 m8 => ⟨by show 7 ≤ sizeLine; decide, fun l2 nl2 => ?_⟩⟩⟩⟩⟩⟩⟩⟩⟩
    have S1 := same_new (o := .tup []) m1
    have S2 := same_new (o := .tup [V.ref q1]) m2
    have S3 := same_new (o := .lst []) m3
    have S4 := same_new (o := .lst [V.ref q3]) m4
    have S5 := same_new (o := .tup [V.bl true]) m5
    have S6 := same_new (o := .tup [V.str (Str.ofString "0")]) m6
    have S7 := same_new (o := .tup [V.int 0, V.int 1]) m7
    have S8 := same_new (o := .tup [V.ref q7]) m8
    have S9 := same_new (o := .lst [v, V.ref q2, V.ref q4, V.ref q5, V.ref q6, V.ref q8, V.int 3]) nl2
    have k1 := (hand_newK hn m1).1
    have j1 := hn.same S1
    have k2 := (hand_newK j1 m2).1
    have j2 := j1.same S2
    have k3 := (hand_newK j2 m3).1
    have j3 := j2.same S3
    have k4 := (hand_newK j3 m4).1
    have j4 := j3.same S4
    have k5 := (hand_newK j4 m5).1
    have j5 := j4.same S5
    have k6 := (hand_newK j5 m6).1
    have j6 := j5.same S6
    have k7 := (hand_newK j6 m7).1
    have j7 := j6.same S7
    have k8 := (hand_newK j7 m8).1
    have j8 := j7.same S8
    have k9 := (hand_newK j8 nl2).1
    have j9 := j8.same S9
    have f8 := S8.trans S9
    have f7 := S7.trans f8
    have f6 := S6.trans f7
    have f5 := S5.trans f6
    have f4 := S4.trans f5
    have f3 := S3.trans f4
    have f2 := S2.trans f3
    have f1 := S1.trans f2
    refine ⟨l, l2, menu, [v, V.ref q2, V.ref q4, V.ref q5, V.ref q6, V.ref q8, V.int 3], rfl, rfl, f1 _ _ (bn _ _ gl upd_same), upd_same, by rw [hlen]; show 18 + 7 ≤ sizeLine; decide, fun l3 nl3 => ?_⟩
    have F := same_new (o := .lst (menu ++ [v, V.ref q2, V.ref q4, V.ref q5, V.ref q6, V.ref q8, V.int 3])) nl3
    refine ⟨g, c, l3, menu ++ [v, V.ref q2, V.ref q4, V.ref q5, V.ref q6, V.ref q8, V.int 3], rfl, upd_same, (hand_newK j9 nl3).1, by rw [List.length_append, hlen]; show 0 < 25; decide, by rw [List.length_append, hlen]; show 25 < 1000000; decide, j9.same F, fun H' i x b hh' hx => ?_⟩
    have bAll : But g H H' := ((b0.trans bn).trans ((f1.trans F).but g)).trans b
    refine (fun z => q H' x bAll hh' z.1 z.2 : (ThS g H' x ∧ Like g H' 25 x) → _) ?_
    rcases List.mem_append.mp (List.mem_of_getElem? hx) with hm | hm
    · exact ⟨(A1 x hm).1.but ((bn.trans ((f1.trans F).but g)).trans b), (A1 x hm).2.but ((bn.trans ((f1.trans F).but g)).trans b)⟩
    · refine (fun z => ⟨ThS.but ((F.but g).trans b) z.1, Like.but ((F.but g).trans b) z.2⟩ : (ThS g _ x ∧ Like g _ 25 x) → _) ?_
      clear hx
      revert x hm
      refine fc ⟨sv.but (f1.but g), lv.but (f1.but g)⟩ (fc ?_ (fc ?_ (fc ?_ (fc ?_ (fc ?_ (fc ⟨.flat trivial, (by refine Like.flat ?_ 25; exact True.intro)⟩ fn0))))))
      · exact ⟨.ofTup (f3 _ _ upd_same) k2 (by show 1 ≤ 1000; decide) (fc (Th.tup (f2 _ _ upd_same) k1 (by show 0 ≤ 1000; decide) fn0) fn0), Like.tup (f3 _ _ upd_same) k2 (by show 1 ≤ 1000; decide) (fc (Like.tup (f2 _ _ upd_same) k1 (by show 0 ≤ 1000; decide) fn0) fn0)⟩
      · exact ⟨Sq_of_lst (f5 _ _ upd_same) k4 (by show 1 ≤ 1000; decide) (fc (Th.lst (f4 _ _ upd_same) k3 1) fn0), Like.lst (f5 _ _ upd_same) k4 (by show 1 ≤ 1000; decide) (fc (Like.lst (f4 _ _ upd_same) k3 (by show 0 ≤ 1000; decide) fn0) fn0)⟩
      · exact ⟨.ofTup (f6 _ _ upd_same) k5 (by show 1 ≤ 1000; decide) (fc (Th.flat (v := V.bl true) trivial 1) fn0), Like.tup (f6 _ _ upd_same) k5 (by show 1 ≤ 1000; decide) (fc (Like.flat (v := V.bl true) trivial 24) fn0)⟩
      · exact ⟨.ofTup (f7 _ _ upd_same) k6 (by show 1 ≤ 1000; decide) (fc (Th.flat (v := V.str _) trivial 1) fn0), Like.tup (f7 _ _ upd_same) k6 (by show 1 ≤ 1000; decide) (fc (Like.flat (v := V.str _) trivial 24) fn0)⟩
      · exact ⟨.ofTup (S9 _ _ upd_same) k8 (by show 1 ≤ 1000; decide) (fc (Th.tup (f8 _ _ upd_same) k7 (by show 2 ≤ 1000; decide) (fc (Th.flat (v := V.int 0) trivial 0) (fc (Th.flat (v := V.int 1) trivial 0) fn0))) fn0), Like.tup (S9 _ _ upd_same) k8 (by show 1 ≤ 1000; decide) (fc (Like.tup (f8 _ _ upd_same) k7 (by show 2 ≤ 1000; decide) (fc (Like.flat (v := V.int 0) trivial 23) (fc (Like.flat (v := V.int 1) trivial 23) fn0))) fn0)⟩
theorem ok_odd (T : Tx K mg cT cS) {f : Addr} {fd : FuncData} (d : D K mg "_law_odd" s_law_odd ["hand"] f fd) : FnOk P w K mg base CX0 4 f fd ["hand"] spOdd := (ok_odd2 T d).imp fun vs H Q E ⟨g, c, e, hh, q⟩ => ⟨g, c, e, hh, fun H' v b h t _ => q H' v b h t⟩
end
end S4

/-! an error of each class -/
namespace S4
open PySem L2 TT MM EE
theorem gset {n : L2.St → Hp → Prop} {i : Nat} {v : V} {σ σ' : L2.St} {H : Hp} (e : σ.set i (some v) = σ') (h : n σ' H) : gName i v σ H n := by subst e; exact h
theorem at_stT {ts : TS} {D : Ends} {σ σ' : L2.St} {H : Hp} (e : σ = σ') (h : ts D σ' H) : ts D σ H := by rw [e]; exact h
def ErrN (C : Addr) (H : Hp) (v : V) : Prop := ∃ a d, v = .ref a ∧ H a = some (exo a C d) ∧ Xdo H d
theorem errN_same {C : Addr} {H H' : Hp} {v : V} (s : Same H H') (h : ErrN C H v) : ErrN C H' v := by
  obtain ⟨a, d, e, h1, h2⟩ := h
  exact ⟨a, d, e, s _ _ h1, xdo_same s h2⟩
theorem errV_n {C : Addr} {fs : List (Str × V)} {H : Hp} {v : V} (h : ErrV C fs H v) : ErrN C H v := by
  cases fs with
  | nil => obtain ⟨a, e, h⟩ := h; exact ⟨a, none, e, h, trivial⟩
  | cons f fs => obtain ⟨a, d, e, h1, h2⟩ := h; exact ⟨a, some d, e, h1, _, h2⟩
def ErrL (mg : Str → Option Value) (H : Hp) (vs : List V) (ns : List Str) : Prop := Paired (fun v n => ErrN (adr mg n) H v) vs ns
theorem errL_same {mg : Str → Option Value} {H H' : Hp} {vs : List V} {ns : List Str} (s : Same H H') (h : ErrL mg H vs ns) : ErrL mg H' vs ns := Paired.mapP h fun _ _ q => errN_same s q
theorem errL_of {mg : Str → Option Value} {H : Hp} : ∀ {ns : List Str} {vs : List V}, Paired (fun v (P : Hp → V → Prop) => P H v) vs (ns.map fun n => ErrV (adr mg n) []) → ErrL mg H vs ns
  | [], vs, h => by cases h; exact .nil
  | n :: ns, vs, h => by
    cases h with
    | cons p r => exact .cons (errV_n p) (errL_of r)
theorem errL_mono {mg : Str → Option Value} (ns : List Str) : ∀ P ∈ ns.map fun n => ErrV (adr mg n) [], SMono P := fun P hP => by
  obtain ⟨n, _, rfl⟩ := List.mem_map.mp hP
  exact errV_mono _ _
/-- a list of errors made with nothing, behind a list that is there -/
theorem made_more {mg : Str → Option Value} {σ : L2.St} {i : Nat} {ta : TA} {fo : Addr} {xs : List V} {ns : List Str} {more : List Str} (e : σ[i]? = some (some (.ref fo))) (h : MadeA σ ta (more.map fun n => ErrV (adr mg n) [])) {H : Hp} {Q : VK} (hf : H fo = some (.lst xs)) (hx : ErrL mg H xs ns)
    (hl : ns.length + more.length ≤ 1000) (q : ∀ H' m ys, Same H H' → H' m = some (.lst ys) → ErrL mg H' ys (ns ++ more) → Q (.ref m) H') : tOp rCat (tVar i) (tLst ta) σ H Q := by
  refine ⟨_, e, ?_⟩
  refine made_lst h (errL_mono more) (by rw [List.length_map]; exact Nat.le_trans (by omega : more.length ≤ 1000) (by decide)) fun H1 l vs s1 hl1 all => ?_
  have a1 := errL_of all
  refine ⟨fo, l, xs, vs, rfl, rfl, s1 _ _ hf, hl1, by rw [paired_len hx, paired_len a1]; exact Nat.le_trans hl (by decide), fun m nm => ?_⟩
  exact q _ m _ (s1.trans (same_new nm)) upd_same (paired_app (errL_same (s1.trans (same_new nm)) hx) (errL_same (same_new nm) a1))
theorem paired2 {α β : Type} {R : α → β → Prop} {vs : List α} {a b : β} (h : Paired R vs [a, b]) : ∃ v w, vs = [v, w] ∧ R v a ∧ R w b := by
  cases h with
  | cons p r => cases r with
    | cons p2 r => cases r; exact ⟨_, _, rfl, p, p2⟩
theorem paired1 {α β : Type} {R : α → β → Prop} {vs : List α} {a : β} {l : List β} (h : Paired R vs (a :: l)) : ∃ v ws, vs = v :: ws ∧ R v a ∧ Paired R ws l := by
  cases h with
  | cons p r => exact ⟨_, _, rfl, p, r⟩
theorem paired0 {α β : Type} {R : α → β → Prop} {vs : List α} (h : Paired R vs ([] : List β)) : vs = [] := by cases h; rfl
def rTwin (one two : V) (H : Hp) (v : V) (_ : Unit) : Prop := ∃ q x, v = .ref q ∧ H q = some (.tup [x, x]) ∧ (x = one ∨ x = two)
theorem mono_twin (one two : V) : Mono (rTwin one two) := fun _ _ _ _ k ⟨q, x, e, h, hx⟩ => ⟨q, x, e, k.tup h, hx⟩
section
variable {P : Program} {w : World} {K : PySem.W.Frag} {mg : Str → Option Value} {base : Heap} {cT cS : Addr}
def spErrors (mg : Str → Option Value) : Sp := fun vs H Q _ => ∃ (one two : V), vs = [one, two] ∧ ∀ H' t fo ps xs ys, Same H H' → H' t = some (.tup [.ref fo, .ref ps]) → H' fo = some (.lst xs) → H' ps = some (.lst ys) → ErrL mg H' xs (NX.drop 1) → (∀ y ∈ ys, ∃ q v, y = .ref q ∧ H' q = some (.tup [v, v]) ∧ (v = one ∨ v = two)) → ys.length ≤ 100 → Q (.ref t) H'
theorem ok_errors (T : Tx K mg cT cS) {f : Addr} {fd : FuncData} (d : D K mg "_law_errors" s_law_errors ["one", "two"] f fd) : FnOk P w K mg base CX0 3 f fd ["one", "two"] (spErrors mg) := by
  obtain ⟨fNoRows, fdNoRows, eNoRows⟩ := T.n_NoRows
  have GNoRows := ok_INoRows (P := P) (w := w) (mg := mg) (base := base) eNoRows
  obtain ⟨fBadTree, fdBadTree, eBadTree⟩ := T.n_BadTree
  have GBadTree := ok_IBadTree (P := P) (w := w) (mg := mg) (base := base) eBadTree
  obtain ⟨fBadSheet, fdBadSheet, eBadSheet⟩ := T.n_BadSheet
  have GBadSheet := ok_IBadSheet (P := P) (w := w) (mg := mg) (base := base) eBadSheet
  obtain ⟨fBadRules, fdBadRules, eBadRules⟩ := T.n_BadRules
  have GBadRules := ok_IBadRules (P := P) (w := w) (mg := mg) (base := base) eBadRules
  obtain ⟨fBadTiming, fdBadTiming, eBadTiming⟩ := T.n_BadTiming
  have GBadTiming := ok_IBadTiming (P := P) (w := w) (mg := mg) (base := base) eBadTiming
  obtain ⟨fTooMany, fdTooMany, eTooMany⟩ := T.n_TooMany
  have GTooMany := ok_ITooMany (P := P) (w := w) (mg := mg) (base := base) eTooMany
  obtain ⟨fBadText, fdBadText, eBadText⟩ := T.n_BadText
  have GBadText := ok_IBadText (P := P) (w := w) (mg := mg) (base := base) eBadText
  obtain ⟨fBarred, fdBarred, eBarred⟩ := T.n_Barred
  have GBarred := ok_IBarred (P := P) (w := w) (mg := mg) (base := base) eBarred
  obtain ⟨fBadSaid, fdBadSaid, eBadSaid⟩ := T.n_BadSaid
  have GBadSaid := ok_IBadSaid (P := P) (w := w) (mg := mg) (base := base) eBadSaid
  obtain ⟨fBadAnswer, fdBadAnswer, eBadAnswer⟩ := T.n_BadAnswer
  have GBadAnswer := ok_IBadAnswer (P := P) (w := w) (mg := mg) (base := base) eBadAnswer
  obtain ⟨fNoMark, fdNoMark, eNoMark⟩ := T.n_NoMark
  have GNoMark := ok_INoMark (P := P) (w := w) (mg := mg) (base := base) eNoMark
  obtain ⟨fBadJournal, fdBadJournal, eBadJournal⟩ := T.n_BadJournal
  have GBadJournal := ok_IBadJournal (P := P) (w := w) (mg := mg) (base := base) eBadJournal
  obtain ⟨fNoName, fdNoName, eNoName⟩ := T.n_NoName
  have GNoName := ok_INoName (P := P) (w := w) (mg := mg) (base := base) eNoName
  obtain ⟨fBadTale, fdBadTale, eBadTale⟩ := T.n_BadTale
  have GBadTale := ok_IBadTale (P := P) (w := w) (mg := mg) (base := base) eBadTale
  obtain ⟨fFailed, fdFailed, eFailed⟩ := T.n_Failed
  have GFailed := ok_IFailed (P := P) (w := w) (mg := mg) (base := base) eFailed
  refine d.F.ok sc_law_errors (fun vs H Q E h => ?_) (fun cdv A outer s H vs Q E hr h => ?_)
  · obtain ⟨one, two, rfl, _⟩ := h
    rfl
  · obtain ⟨one, two, rfl, q⟩ := h
    refine ⟨_, pss_cons (ps_par (i := 2) (j := 3) (by rfl) sc_law_errors.nd rfl rfl (by decide) rfl rfl (pa_cons (pe_exvI eBarred.oc eBarred.iC eBarred.tI GBarred (hr.mono (by decide)) eBarred.b pass0 rfl T.e_Barred.m (pa_cons (pv 0) (pa_cons (pv 1) pa_nil))) (pa_cons (pe_exvI eBadSaid.oc eBadSaid.iC eBadSaid.tI GBadSaid (hr.mono (by decide)) eBadSaid.b pass0 rfl T.e_BadSaid.m (pa_cons (pv 0) (pa_cons (pv 1) pa_nil))) pa_nil)) (by rfl))
      (pss_cons (ps_set (i := 4) sc_law_errors.nd rfl (.inl rfl) (pe_lst (pa_cons (pe_exvI eNoRows.oc eNoRows.iC eNoRows.tI GNoRows (hr.mono (by decide)) eNoRows.b pass0 rfl T.e_NoRows.m (pa_cons (pv 0) pa_nil)) (pa_cons (pe_exvI eBadTree.oc eBadTree.iC eBadTree.tI GBadTree (hr.mono (by decide)) eBadTree.b pass0 rfl T.e_BadTree.m (pa_cons (pv 0) pa_nil)) (pa_cons (pe_exvI eBadSheet.oc eBadSheet.iC eBadSheet.tI GBadSheet (hr.mono (by decide)) eBadSheet.b pass0 rfl T.e_BadSheet.m (pa_cons (pv 0) pa_nil)) (pa_cons (pe_exvI eBadRules.oc eBadRules.iC eBadRules.tI GBadRules (hr.mono (by decide)) eBadRules.b pass0 rfl T.e_BadRules.m (pa_cons (pv 0) pa_nil)) (pa_cons (pe_exvI eBadTiming.oc eBadTiming.iC eBadTiming.tI GBadTiming (hr.mono (by decide)) eBadTiming.b pass0 rfl T.e_BadTiming.m (pa_cons (pv 0) pa_nil)) (pa_cons (pe_exvI eTooMany.oc eTooMany.iC eTooMany.tI GTooMany (hr.mono (by decide)) eTooMany.b pass0 rfl T.e_TooMany.m (pa_cons (pv 0) pa_nil)) (pa_cons (pe_exvI eBadText.oc eBadText.iC eBadText.tI GBadText (hr.mono (by decide)) eBadText.b pass0 rfl T.e_BadText.m (pa_cons (pv 0) pa_nil)) pa_nil)))))))))
      (pss_cons (ps_set (i := 5) sc_law_errors.nd rfl (.inl rfl) (pe_lst (pa_cons (pe_exvI eBadAnswer.oc eBadAnswer.iC eBadAnswer.tI GBadAnswer (hr.mono (by decide)) eBadAnswer.b pass0 rfl T.e_BadAnswer.m (pa_cons (pv 0) pa_nil)) (pa_cons (pe_exvI eNoMark.oc eNoMark.iC eNoMark.tI GNoMark (hr.mono (by decide)) eNoMark.b pass0 rfl T.e_NoMark.m (pa_cons (pv 0) pa_nil)) (pa_cons (pe_exvI eBadJournal.oc eBadJournal.iC eBadJournal.tI GBadJournal (hr.mono (by decide)) eBadJournal.b pass0 rfl T.e_BadJournal.m (pa_cons (pv 0) pa_nil)) (pa_cons (pe_exvI eNoName.oc eNoName.iC eNoName.tI GNoName (hr.mono (by decide)) eNoName.b pass0 rfl T.e_NoName.m (pa_cons (pv 0) pa_nil)) (pa_cons (pe_exvI eBadTale.oc eBadTale.iC eBadTale.tI GBadTale (hr.mono (by decide)) eBadTale.b pass0 rfl T.e_BadTale.m (pa_cons (pv 0) pa_nil)) (pa_cons (pe_exvI eFailed.oc eFailed.iC eFailed.tI GFailed (hr.mono (by decide)) eFailed.b pass0 rfl T.e_Failed.m (pa_cons (pv 0) pa_nil)) pa_nil))))))))
      (pss_cons (ps_set (i := 6) sc_law_errors.nd rfl (.inl rfl) (pe_op op_cat (pe_op op_cat (pv 4) (pe_lst (pa_cons (pv 2) (pa_cons (pv 3) pa_nil)))) (pv 5)))
      (pss_cons (ps_set (i := 7) sc_law_errors.nd rfl (.inl rfl) (pe_lst (pa_cons (pe_xh (pe_ix ix_list (pv 4) pe_int (fun _ _ => rfl))) (pa_cons (pe_xh (pe_ix ix_list (pv 4) pe_int (fun _ _ => rfl))) (pa_cons (pe_xh (pe_ix ix_list (pv 4) pe_int (fun _ _ => rfl))) (pa_cons (pe_xh (pe_ix ix_list (pv 4) pe_int (fun _ _ => rfl))) (pa_cons (pe_xh (pe_ix ix_list (pv 4) pe_int (fun _ _ => rfl))) (pa_cons (pe_xh (pe_ix ix_list (pv 4) pe_int (fun _ _ => rfl))) pa_nil))))))))
      (pss_cons (ps_set (i := 7) sc_law_errors.nd rfl (.inl rfl) (pe_op op_cat (pv 7) (pe_lst (pa_cons (pe_xh (pe_ix ix_list (pv 4) pe_int (fun _ _ => rfl))) (pa_cons (pe_xh (pv 2)) (pa_cons (pe_xh (pv 3)) (pa_cons (pe_xh (pe_ix ix_list (pv 5) pe_int (fun _ _ => rfl))) (pa_cons (pe_xh (pe_ix ix_list (pv 5) pe_int (fun _ _ => rfl))) (pa_cons (pe_xh (pe_ix ix_list (pv 5) pe_int (fun _ _ => rfl))) pa_nil)))))))))
      (pss_cons (ps_set (i := 7) sc_law_errors.nd rfl (.inl rfl) (pe_op op_cat (pv 7) (pe_lst (pa_cons (pe_xh (pe_ix ix_list (pv 5) pe_int (fun _ _ => rfl))) (pa_cons (pe_xh (pe_ix ix_list (pv 5) pe_int (fun _ _ => rfl))) (pa_cons (pe_xh (pe_ix ix_list (pv 5) pe_int (fun _ _ => rfl))) pa_nil))))))
      (pss_cons (ps_set (i := 8) sc_law_errors.nd rfl (.inl rfl) (pe_op op_cat (pe_lc (own := [("thing", 9)]) (g := gName 9) (tt := tYes) rfl sc_law_errors.nd (pi_list (pv 7)) (blkOk_by (N := N_law_errors) (sc := defScope s_law_errors) (by decide +kernel))
            (fun _ _ _ _ _ => pg_name (i := 9) sc_law_errors.nd rfl (Or.inl rfl)) (fun _ _ _ _ _ => pts_nil) (fun _ _ _ _ _ => pe_tup (pa_cons (pv 9) (pa_cons (pv 0) pa_nil)))) (pe_lst (pa_cons (pe_tup (pa_cons (pe_xh (pv 2)) (pa_cons (pv 1) pa_nil))) (pa_cons (pe_tup (pa_cons (pe_xh (pv 3)) (pa_cons (pv 1) pa_nil))) pa_nil)))))
      (pss_cons (ps_set (i := 6) sc_law_errors.nd rfl (.inl rfl) (pe_op op_cat (pv 6) (pe_lst (pa_cons (pe_exv0 PySem.F.excBase_ValueError T.p_NoClock T.e_NoClock.m T.e_NoClock.kp rfl) (pa_cons (pe_exv0 PySem.F.excBase_ValueError T.p_NoNumber T.e_NoNumber.m T.e_NoNumber.kp rfl) (pa_cons (pe_exv0 PySem.F.excBase_ValueError T.p_NoRow T.e_NoRow.m T.e_NoRow.kp rfl) (pa_cons (pe_exv0 PySem.F.excBase_ValueError T.p_NoPost T.e_NoPost.m T.e_NoPost.kp rfl) (pa_cons (pe_exv0 PySem.F.excBase_ValueError T.p_NoWay T.e_NoWay.m T.e_NoWay.kp rfl) (pa_cons (pe_exv0 PySem.F.excBase_ValueError T.p_NoPlan T.e_NoPlan.m T.e_NoPlan.kp rfl) (pa_cons (pe_exv0 PySem.F.excBase_ValueError T.p_NotRight T.e_NotRight.m T.e_NotRight.kp rfl) (pa_cons (pe_exv0 PySem.F.excBase_ValueError T.p_NotLeast T.e_NotLeast.m T.e_NotLeast.kp rfl) (pa_cons (pe_exv0 PySem.F.excBase_ValueError T.p_NoGiven T.e_NoGiven.m T.e_NoGiven.kp rfl) pa_nil))))))))))))
      (pss_cons (ps_set (i := 6) sc_law_errors.nd rfl (.inl rfl) (pe_op op_cat (pv 6) (pe_lst (pa_cons (pe_exv0 PySem.F.excBase_ValueError T.p_NoWays T.e_NoWays.m T.e_NoWays.kp rfl) (pa_cons (pe_exv0 PySem.F.excBase_ValueError T.p_NoOrder T.e_NoOrder.m T.e_NoOrder.kp rfl) (pa_cons (pe_exv0 PySem.F.excBase_ValueError T.p_NoLot T.e_NoLot.m T.e_NoLot.kp rfl) (pa_cons (pe_exv0 PySem.F.excBase_ValueError T.p_NotUndoable T.e_NotUndoable.m T.e_NotUndoable.kp rfl) (pa_cons (pe_exv0 PySem.F.excBase_ValueError T.p_NotAfter T.e_NotAfter.m T.e_NotAfter.kp rfl) (pa_cons (pe_exv0 PySem.F.excBase_ValueError T.p_NotAlike T.e_NotAlike.m T.e_NotAlike.kp rfl) (pa_cons (pe_exv0 PySem.F.excBase_ValueError T.p_NoAnswers T.e_NoAnswers.m T.e_NoAnswers.kp rfl) (pa_cons (pe_exv0 PySem.F.excBase_ValueError T.p_NoCounts T.e_NoCounts.m T.e_NoCounts.kp rfl) pa_nil)))))))))))
      (pss_cons (ps_set (i := 6) sc_law_errors.nd rfl (.inl rfl) (pe_op op_cat (pv 6) (pe_lst (pa_cons (pe_exv0 PySem.F.excBase_ValueError T.p_NoTable T.e_NoTable.m T.e_NoTable.kp rfl) (pa_cons (pe_exv0 PySem.F.excBase_ValueError T.p_NotSure T.e_NotSure.m T.e_NotSure.kp rfl) (pa_cons (pe_exv0 PySem.F.excBase_ValueError T.p_NoRule T.e_NoRule.m T.e_NoRule.kp rfl) (pa_cons (pe_exv0 PySem.F.excBase_ValueError T.p_NotRow T.e_NotRow.m T.e_NotRow.kp rfl) (pa_cons (pe_exv0 PySem.F.excBase_ValueError T.p_NoTick T.e_NoTick.m T.e_NoTick.kp rfl) (pa_cons (pe_exv0 PySem.F.excBase_ValueError T.p_NoCut T.e_NoCut.m T.e_NoCut.kp rfl) (pa_cons (pe_exv0 PySem.F.excBase_ValueError T.p_NoHours T.e_NoHours.m T.e_NoHours.kp rfl) (pa_cons (pe_exv0 PySem.F.excBase_ValueError T.p_NotOne T.e_NotOne.m T.e_NotOne.kp rfl) (pa_cons (pe_exv0 PySem.F.excBase_ValueError T.p_NotPlanned T.e_NotPlanned.m T.e_NotPlanned.kp rfl) pa_nil))))))))))))
      (pss_cons (ps_set (i := 6) sc_law_errors.nd rfl (.inl rfl) (pe_op op_cat (pv 6) (pe_lst (pa_cons (pe_exv0 PySem.F.excBase_ValueError T.p_NoProgram T.e_NoProgram.m T.e_NoProgram.kp rfl) (pa_cons (pe_exv0 PySem.F.excBase_ValueError T.p_NoWant T.e_NoWant.m T.e_NoWant.kp rfl) (pa_cons (pe_exv0 PySem.F.excBase_ValueError T.p_NoValue T.e_NoValue.m T.e_NoValue.kp rfl) (pa_cons (pe_exv0 PySem.F.excBase_ValueError T.p_NoValues T.e_NoValues.m T.e_NoValues.kp rfl) (pa_cons (pe_exv0 PySem.F.excBase_ValueError T.p_NotEmpty T.e_NotEmpty.m T.e_NotEmpty.kp rfl) (pa_cons (pe_exv0 PySem.F.excBase_ValueError T.p_Full T.e_Full.m T.e_Full.kp rfl) (pa_cons (pe_exv0 PySem.F.excBase_ValueError T.p_NothingDone T.e_NothingDone.m T.e_NothingDone.kp rfl) (pa_cons (pe_exv0 PySem.F.excBase_ValueError T.p_NoLine T.e_NoLine.m T.e_NoLine.kp rfl) pa_nil)))))))))))
      (pss_one (ps_ret (pe_tup (pa_cons (pe_op op_cat (pv 6) (pe_lst (pa_cons (pe_exv0 PySem.F.excBase_ValueError T.p_TooLong T.e_TooLong.m T.e_TooLong.kp rfl) pa_nil))) (pa_cons (pv 8) pa_nil)))))))))))))))), ?_⟩
    dsimp only [tSeq, tAsg]
    refine (made_cons (made_e2 rfl rfl) (errV_mono _ _) (made_cons (made_e2 rfl rfl) (errV_mono _ _) made_nil)) H _ (fun H1 vs1 s1 all1 => ?_)
    obtain ⟨v1, v2, rfl, ⟨pa, pd, rfl, pa1, pd1⟩, ⟨qa, qd, rfl, qa1, qd1⟩⟩ := paired2 all1
    refine ⟨_, _, rfl, ?_⟩
    dsimp only [tSeq, tAsg]
    refine made_lst (made_cons (made_e1 rfl) (errV_mono _ _) (made_cons (made_e1 rfl) (errV_mono _ _) (made_cons (made_e1 rfl) (errV_mono _ _) (made_cons (made_e1 rfl) (errV_mono _ _) (made_cons (made_e1 rfl) (errV_mono _ _) (made_cons (made_e1 rfl) (errV_mono _ _) (made_cons (made_e1 rfl) (errV_mono _ _) made_nil))))))) (fc (errV_mono _ _) (fc (errV_mono _ _) (fc (errV_mono _ _) (fc (errV_mono _ _) (fc (errV_mono _ _) (fc (errV_mono _ _) (fc (errV_mono _ _) fn0))))))) (by show 7 ≤ sizeLine; decide) fun H3 ls vs3 s3 hls all3 => ?_
    obtain ⟨_, w30, rfl, ⟨aa0, ad0, rfl, ax0, ay0⟩, all30⟩ := paired1 all3
    obtain ⟨_, w31, rfl, ⟨aa1, ad1, rfl, ax1, ay1⟩, all31⟩ := paired1 all30
    obtain ⟨_, w32, rfl, ⟨aa2, ad2, rfl, ax2, ay2⟩, all32⟩ := paired1 all31
    obtain ⟨_, w33, rfl, ⟨aa3, ad3, rfl, ax3, ay3⟩, all33⟩ := paired1 all32
    obtain ⟨_, w34, rfl, ⟨aa4, ad4, rfl, ax4, ay4⟩, all34⟩ := paired1 all33
    obtain ⟨_, w35, rfl, ⟨aa5, ad5, rfl, ax5, ay5⟩, all35⟩ := paired1 all34
    obtain ⟨_, w36, rfl, ⟨aa6, ad6, rfl, ax6, ay6⟩, all36⟩ := paired1 all35
    obtain rfl := paired0 all36
    refine gset (σ' := [some one, some two, some (.ref pa), some (.ref qa), some (.ref ls), none, none, none, none, none]) rfl ?_
    dsimp only [tSeq, tAsg]
    refine made_lst (made_cons (made_e1 rfl) (errV_mono _ _) (made_cons (made_e1 rfl) (errV_mono _ _) (made_cons (made_e1 rfl) (errV_mono _ _) (made_cons (made_e1 rfl) (errV_mono _ _) (made_cons (made_e1 rfl) (errV_mono _ _) (made_cons (made_e1 rfl) (errV_mono _ _) made_nil)))))) (fc (errV_mono _ _) (fc (errV_mono _ _) (fc (errV_mono _ _) (fc (errV_mono _ _) (fc (errV_mono _ _) (fc (errV_mono _ _) fn0)))))) (by show 6 ≤ sizeLine; decide) fun H4 ll vs4 s4 hll all4 => ?_
    obtain ⟨_, w40, rfl, ⟨ba0, bd0, rfl, bx0, by0⟩, all40⟩ := paired1 all4
    obtain ⟨_, w41, rfl, ⟨ba1, bd1, rfl, bx1, by1⟩, all41⟩ := paired1 all40
    obtain ⟨_, w42, rfl, ⟨ba2, bd2, rfl, bx2, by2⟩, all42⟩ := paired1 all41
    obtain ⟨_, w43, rfl, ⟨ba3, bd3, rfl, bx3, by3⟩, all43⟩ := paired1 all42
    obtain ⟨_, w44, rfl, ⟨ba4, bd4, rfl, bx4, by4⟩, all44⟩ := paired1 all43
    obtain ⟨_, w45, rfl, ⟨ba5, bd5, rfl, bx5, by5⟩, all45⟩ := paired1 all44
    obtain rfl := paired0 all45
    refine gset (σ' := [some one, some two, some (.ref pa), some (.ref qa), some (.ref ls), some (.ref ll), none, none, none, none]) rfl ?_
    dsimp only [tSeq, tAsg]
    have S34 := s3.trans s4
    refine ⟨_, rfl, _, rfl, _, rfl, by show 2 ≤ sizeLine; decide, fun l5 n5 => ?_⟩
    have s5 := same_new (o := .lst [V.ref pa, V.ref qa]) n5
    have s5 := s5
    refine ⟨ls, l5, [V.ref aa0, V.ref aa1, V.ref aa2, V.ref aa3, V.ref aa4, V.ref aa5, V.ref aa6], [V.ref pa, V.ref qa], rfl, rfl, s5 _ _ (s4 _ _ hls), upd_same, by show 7 + 2 ≤ sizeLine; decide, fun m6 n6 => ?_⟩
    have s6 := same_new (o := .lst ([V.ref aa0, V.ref aa1, V.ref aa2, V.ref aa3, V.ref aa4, V.ref aa5, V.ref aa6] ++ [V.ref pa, V.ref qa])) n6
    refine ⟨_, rfl, m6, ll, _, [V.ref ba0, V.ref ba1, V.ref ba2, V.ref ba3, V.ref ba4, V.ref ba5], rfl, rfl, upd_same, s6 _ _ (s5 _ _ hll), by show 9 + 6 ≤ sizeLine; decide, fun m7 n7 => ?_⟩
    have s7 := same_new (o := .lst ([V.ref aa0, V.ref aa1, V.ref aa2, V.ref aa3, V.ref aa4, V.ref aa5, V.ref aa6] ++ [V.ref pa, V.ref qa] ++ [V.ref ba0, V.ref ba1, V.ref ba2, V.ref ba3, V.ref ba4, V.ref ba5])) n7
    have hm7 := upd_same (H := upd (upd H4 l5 (.lst [V.ref pa, V.ref qa])) m6 (.lst ([V.ref aa0, V.ref aa1, V.ref aa2, V.ref aa3, V.ref aa4, V.ref aa5, V.ref aa6] ++ [V.ref pa, V.ref qa]))) (a := m7) (o := .lst ([V.ref aa0, V.ref aa1, V.ref aa2, V.ref aa3, V.ref aa4, V.ref aa5, V.ref aa6] ++ [V.ref pa, V.ref qa] ++ [V.ref ba0, V.ref ba1, V.ref ba2, V.ref ba3, V.ref ba4, V.ref ba5]))
    have S47 := (s5.trans s6).trans s7
    generalize upd (upd (upd H4 l5 (.lst [V.ref pa, V.ref qa])) m6 (.lst ([V.ref aa0, V.ref aa1, V.ref aa2, V.ref aa3, V.ref aa4, V.ref aa5, V.ref aa6] ++ [V.ref pa, V.ref qa]))) m7 (.lst ([V.ref aa0, V.ref aa1, V.ref aa2, V.ref aa3, V.ref aa4, V.ref aa5, V.ref aa6] ++ [V.ref pa, V.ref qa] ++ [V.ref ba0, V.ref ba1, V.ref ba2, V.ref ba3, V.ref ba4, V.ref ba5])) = H7 at *
    have S37 := s4.trans S47
    have S27 := s3.trans S37
    have hls7 := S37 _ _ hls
    have hll7 := S47 _ _ hll
    have qpa := S27 _ _ pa1
    have qpd := S27 _ _ pd1
    have qqa := S27 _ _ qa1
    have qqd := S27 _ _ qd1
    have cx0 := S37 _ _ ax0
    have cy0 := S37 _ _ ay0
    have cx1 := S37 _ _ ax1
    have cy1 := S37 _ _ ay1
    have cx2 := S37 _ _ ax2
    have cy2 := S37 _ _ ay2
    have cx3 := S37 _ _ ax3
    have cy3 := S37 _ _ ay3
    have cx4 := S37 _ _ ax4
    have cy4 := S37 _ _ ay4
    have cx5 := S37 _ _ ax5
    have cy5 := S37 _ _ ay5
    have cx6 := S37 _ _ ax6
    have cy6 := S37 _ _ ay6
    have ex0 := S47 _ _ bx0
    have ey0 := S47 _ _ by0
    have ex1 := S47 _ _ bx1
    have ey1 := S47 _ _ by1
    have ex2 := S47 _ _ bx2
    have ey2 := S47 _ _ by2
    have ex3 := S47 _ _ bx3
    have ey3 := S47 _ _ by3
    have ex4 := S47 _ _ bx4
    have ey4 := S47 _ _ by4
    have ex5 := S47 _ _ bx5
    have ey5 := S47 _ _ by5
    have hE : ErrL mg H7 ([V.ref aa0, V.ref aa1, V.ref aa2, V.ref aa3, V.ref aa4, V.ref aa5, V.ref aa6] ++ [V.ref pa, V.ref qa] ++ [V.ref ba0, V.ref ba1, V.ref ba2, V.ref ba3, V.ref ba4, V.ref ba5]) ["NoRows", "BadTree", "BadSheet", "BadRules", "BadTiming", "TooMany", "BadText", "Barred", "BadSaid", "BadAnswer", "NoMark", "BadJournal", "NoName", "BadTale", "Failed"] := .cons ⟨_, _, rfl, cx0, _, cy0⟩ (.cons ⟨_, _, rfl, cx1, _, cy1⟩ (.cons ⟨_, _, rfl, cx2, _, cy2⟩ (.cons ⟨_, _, rfl, cx3, _, cy3⟩ (.cons ⟨_, _, rfl, cx4, _, cy4⟩ (.cons ⟨_, _, rfl, cx5, _, cy5⟩ (.cons ⟨_, _, rfl, cx6, _, cy6⟩ (.cons ⟨_, _, rfl, qpa, _, qpd⟩ (.cons ⟨_, _, rfl, qqa, _, qqd⟩ (.cons ⟨_, _, rfl, ex0, _, ey0⟩ (.cons ⟨_, _, rfl, ex1, _, ey1⟩ (.cons ⟨_, _, rfl, ex2, _, ey2⟩ (.cons ⟨_, _, rfl, ex3, _, ey3⟩ (.cons ⟨_, _, rfl, ex4, _, ey4⟩ (.cons ⟨_, _, rfl, ex5, _, ey5⟩ (.nil)))))))))))))))
    have S07 : Same H H7 := (s1.trans S27)
    clear all1 s1 s3 s4 s5 s6 s7 hls hll pa1 pd1 qa1 qd1 S34 ax0 ay0 ax1 ay1 ax2 ay2 ax3 ay3 ax4 ay4 ax5 ay5 ax6 ay6 bx0 by0 bx1 by1 bx2 by2 bx3 by3 bx4 by4 bx5 by5
    generalize hF15 : [V.ref aa0, V.ref aa1, V.ref aa2, V.ref aa3, V.ref aa4, V.ref aa5, V.ref aa6] ++ [V.ref pa, V.ref qa] ++ [V.ref ba0, V.ref ba1, V.ref ba2, V.ref ba3, V.ref ba4, V.ref ba5] = F15 at *
    refine gset (σ' := [some one, some two, some (.ref pa), some (.ref qa), some (.ref ls), some (.ref ll), some (.ref m7), none, none, none]) rfl ?_
    dsimp only [tSeq, tAsg]
    refine ⟨_, rfl, ls, _, _, _, rfl, rfl, .of hls7, at_of (j := 0) rfl rfl, aa0, _, ad0, _, _, rfl, XfC.of T.e_NoRows.ec, eNoRows.no _ (by simp), cx0, cy0, rfl, _, rfl, ls, _, _, _, rfl, rfl, .of hls7, at_of (j := 1) rfl rfl, aa1, _, ad1, _, _, rfl, XfC.of T.e_BadTree.ec, eBadTree.no _ (by simp), cx1, cy1, rfl, _, rfl, ls, _, _, _, rfl, rfl, .of hls7, at_of (j := 2) rfl rfl, aa2, _, ad2, _, _, rfl, XfC.of T.e_BadSheet.ec, eBadSheet.no _ (by simp), cx2, cy2, rfl, _, rfl, ls, _, _, _, rfl, rfl, .of hls7, at_of (j := 3) rfl rfl, aa3, _, ad3, _, _, rfl, XfC.of T.e_BadRules.ec, eBadRules.no _ (by simp), cx3, cy3, rfl, _, rfl, ls, _, _, _, rfl, rfl, .of hls7, at_of (j := 4) rfl rfl, aa4, _, ad4, _, _, rfl, XfC.of T.e_BadTiming.ec, eBadTiming.no _ (by simp), cx4, cy4, rfl, _, rfl, ls, _, _, _, rfl, rfl, .of hls7, at_of (j := 5) rfl rfl, aa5, _, ad5, _, _, rfl, XfC.of T.e_TooMany.ec, eTooMany.no _ (by simp), cx5, cy5, rfl, by show 6 ≤ sizeLine; decide, fun k1 nk1 => ?_⟩
    have r1 := same_new (o := .lst [one, one, one, one, one, one]) nk1
    have hk1 := upd_same (H := H7) (a := k1) (o := .lst [one, one, one, one, one, one])
    generalize upd H7 k1 (.lst [one, one, one, one, one, one]) = H8 at *
    refine gset (σ' := [some one, some two, some (.ref pa), some (.ref qa), some (.ref ls), some (.ref ll), some (.ref m7), some (.ref k1), none, none]) rfl ?_
    dsimp only [tSeq, tAsg]
    refine ⟨_, rfl, _, rfl, ls, _, _, _, rfl, rfl, .of (r1 _ _ hls7), at_of (j := 6) rfl rfl, aa6, _, ad6, _, _, rfl, XfC.of T.e_BadText.ec, eBadText.no _ (by simp), (r1 _ _ cx6), (r1 _ _ cy6), rfl, _, rfl, pa, _, pd, _, _, rfl, XfC.of T.e_Barred.ec, eBarred.no _ (by simp), (r1 _ _ qpa), (r1 _ _ qpd), rfl, _, rfl, qa, _, qd, _, _, rfl, XfC.of T.e_BadSaid.ec, eBadSaid.no _ (by simp), (r1 _ _ qqa), (r1 _ _ qqd), rfl, _, rfl, ll, _, _, _, rfl, rfl, .of (r1 _ _ hll7), at_of (j := 0) rfl rfl, ba0, _, bd0, _, _, rfl, XfC.of T.e_BadAnswer.ec, eBadAnswer.no _ (by simp), (r1 _ _ ex0), (r1 _ _ ey0), rfl, _, rfl, ll, _, _, _, rfl, rfl, .of (r1 _ _ hll7), at_of (j := 1) rfl rfl, ba1, _, bd1, _, _, rfl, XfC.of T.e_NoMark.ec, eNoMark.no _ (by simp), (r1 _ _ ex1), (r1 _ _ ey1), rfl, _, rfl, ll, _, _, _, rfl, rfl, .of (r1 _ _ hll7), at_of (j := 2) rfl rfl, ba2, _, bd2, _, _, rfl, XfC.of T.e_BadJournal.ec, eBadJournal.no _ (by simp), (r1 _ _ ex2), (r1 _ _ ey2), rfl, by show 6 ≤ sizeLine; decide, fun k2 nk2 => ?_⟩
    have r2 := same_new (o := .lst [one, one, one, one, one, one]) nk2
    refine ⟨k1, k2, [one, one, one, one, one, one], [one, one, one, one, one, one], rfl, rfl, r2 _ _ hk1, upd_same, by show 6 + 6 ≤ sizeLine; decide, fun k3 nk3 => ?_⟩
    have r3 := (r1.trans r2).trans (same_new (o := .lst ([one, one, one, one, one, one] ++ [one, one, one, one, one, one])) nk3)
    have hk3 := upd_same (H := upd H8 k2 (.lst [one, one, one, one, one, one])) (a := k3) (o := .lst ([one, one, one, one, one, one] ++ [one, one, one, one, one, one]))
    generalize upd (upd H8 k2 (.lst [one, one, one, one, one, one])) k3 (.lst ([one, one, one, one, one, one] ++ [one, one, one, one, one, one])) = H9 at *
    refine gset (σ' := [some one, some two, some (.ref pa), some (.ref qa), some (.ref ls), some (.ref ll), some (.ref m7), some (.ref k3), none, none]) rfl ?_
    dsimp only [tSeq, tAsg]
    refine ⟨_, rfl, _, rfl, ll, _, _, _, rfl, rfl, .of (r3 _ _ hll7), at_of (j := 3) rfl rfl, ba3, _, bd3, _, _, rfl, XfC.of T.e_NoName.ec, eNoName.no _ (by simp), (r3 _ _ ex3), (r3 _ _ ey3), rfl, _, rfl, ll, _, _, _, rfl, rfl, .of (r3 _ _ hll7), at_of (j := 4) rfl rfl, ba4, _, bd4, _, _, rfl, XfC.of T.e_BadTale.ec, eBadTale.no _ (by simp), (r3 _ _ ex4), (r3 _ _ ey4), rfl, _, rfl, ll, _, _, _, rfl, rfl, .of (r3 _ _ hll7), at_of (j := 5) rfl rfl, ba5, _, bd5, _, _, rfl, XfC.of T.e_Failed.ec, eFailed.no _ (by simp), (r3 _ _ ex5), (r3 _ _ ey5), rfl, by show 3 ≤ sizeLine; decide, fun k4 nk4 => ?_⟩
    have r4 := same_new (o := .lst [one, one, one]) nk4
    refine ⟨k3, k4, [one, one, one, one, one, one] ++ [one, one, one, one, one, one], [one, one, one], rfl, rfl, r4 _ _ hk3, upd_same, by show 12 + 3 ≤ sizeLine; decide, fun k5 nk5 => ?_⟩
    have r5 := (r3.trans r4).trans (same_new (o := .lst ([one, one, one, one, one, one] ++ [one, one, one, one, one, one] ++ [one, one, one])) nk5)
    have hk5 := upd_same (H := upd H9 k4 (.lst [one, one, one])) (a := k5) (o := .lst ([one, one, one, one, one, one] ++ [one, one, one, one, one, one] ++ [one, one, one]))
    generalize upd (upd H9 k4 (.lst [one, one, one])) k5 (.lst ([one, one, one, one, one, one] ++ [one, one, one, one, one, one] ++ [one, one, one])) = H10 at *
    obtain ⟨kl, hkl⟩ : ∃ kl : List V, kl = [one, one, one, one, one, one] ++ [one, one, one, one, one, one] ++ [one, one, one] := ⟨_, rfl⟩
    rw [← hkl] at hk5
    have kone : ∀ x ∈ kl, x = one := fun x hx => by rw [hkl] at hx; simpa using hx
    have klen : kl.length = 15 := by rw [hkl]; rfl
    clear hkl
    have cpa := r5 _ _ qpa
    have cpd := r5 _ _ qpd
    have cqa := r5 _ _ qqa
    have cqd := r5 _ _ qqd
    have hE10 := errL_same r5 hE
    have hm10 := r5 _ _ hm7
    have S010 := S07.trans r5
    refine gset (σ' := [some one, some two, some (.ref pa), some (.ref qa), some (.ref ls), some (.ref ll), some (.ref m7), some (.ref k5), none, none]) rfl ?_
    dsimp only [tSeq, tAsg]
    clear r1 r2 r3 r4 r5 hk1 hk3 S07 hE hm7 qpa qpd qqa qqd hls7 hll7 cx0 cy0 cx1 cy1 cx2 cy2 cx3 cy3 cx4 cy4 cx5 cy5 cx6 cy6 ex0 ey0 ex1 ey1 ex2 ey2 ex3 ey3 ex4 ey4 ex5 ey5
    refine ⟨_, rfl, k5, rfl, ⟨_, .of hk5⟩, fun D hD => ?_⟩
    refine lc_fm (walk_list (xs := kl)) (rTwin one two) (fun _ => some ()) hD (fun H' s' => .of (s' _ _ hk5)) ?_ ?_
    · rintro i x H2 H3 hi pv ⟨rfl, hx⟩
      obtain rfl := kone x (List.mem_of_getElem? hx)
      refine ⟨rfl, _, rfl, _, rfl, by show 2 ≤ sizeLine; decide, fun qt nq => ?_⟩
      exact fm_keep (mono_twin x two) pv hD (by omega) (same_new nq) rfl ⟨qt, x, rfl, upd_same, .inl rfl⟩
    · intro H11 ys s11 hD11 hp11
      have hyl : ys.length ≤ 15 := by rw [paired_len hp11, ← klen]; exact fm_len
      have S1 := s11
      refine ⟨_, rfl, pa, _, pd, _, _, rfl, XfC.of T.e_Barred.ec, eBarred.no _ (by simp), (s11 _ _ cpa), (s11 _ _ cpd), rfl, _, rfl, by show 2 ≤ sizeLine; decide, fun t1 nt1 => ?_⟩
      have w1 := same_new (o := .tup [two, two]) nt1
      have S2 := S1.trans w1
      refine ⟨_, rfl, qa, _, qd, _, _, rfl, XfC.of T.e_BadSaid.ec, eBadSaid.no _ (by simp), (S2 _ _ cqa), (S2 _ _ cqd), rfl, _, rfl, by show 2 ≤ sizeLine; decide, fun t2 nt2 => ⟨by show 2 ≤ sizeLine; decide, fun l9 nl9 => ?_⟩⟩
      have w2 := same_new (o := .tup [two, two]) nt2
      have w3 := same_new (o := .lst [V.ref t1, V.ref t2]) nl9
      refine ⟨D, l9, ys, [V.ref t1, V.ref t2], rfl, rfl, ((w1.trans w2).trans w3) _ _ hD11, upd_same, Nat.le_trans (Nat.add_le_add_right hyl 2) (by decide), fun m9 n9 => ?_⟩
      have w4 := same_new (o := .lst (ys ++ [V.ref t1, V.ref t2])) n9
      have W := ((w1.trans w2).trans w3).trans w4
      have hps := upd_same (H := upd (upd (upd H11 t1 (.tup [two, two])) t2 (.tup [two, two])) l9 (.lst [V.ref t1, V.ref t2])) (a := m9) (o := .lst (ys ++ [V.ref t1, V.ref t2]))
      have ht1 := ((w2.trans w3).trans w4) _ _ (upd_same (H := H11) (a := t1) (o := .tup [two, two]))
      have ht2 := (w3.trans w4) _ _ (upd_same (H := upd H11 t1 (.tup [two, two])) (a := t2) (o := .tup [two, two]))
      generalize upd (upd (upd (upd H11 t1 (.tup [two, two])) t2 (.tup [two, two])) l9 (.lst [V.ref t1, V.ref t2])) m9 (.lst (ys ++ [V.ref t1, V.ref t2])) = H12 at *
      have S012 := (S010.trans s11).trans W
      have hE12 := errL_same (s11.trans W) hE10
      have hm12 := (s11.trans W) _ _ hm10
      have tw : ∀ y ∈ ys ++ [V.ref t1, V.ref t2], ∃ q v, y = .ref q ∧ H12 q = some (.tup [v, v]) ∧ (v = one ∨ v = two) := fun y hy => by
        rcases List.mem_append.mp hy with h | h
        · obtain ⟨i, hi⟩ := List.getElem?_of_mem h
          obtain ⟨_, _, q', v, e, hq, hv⟩ := paired_get hp11 hi
          exact ⟨q', v, e, W _ _ hq, hv⟩
        · simp only [List.mem_cons, List.not_mem_nil, or_false] at h
          rcases h with rfl | rfl
          · exact ⟨_, two, rfl, ht1, .inr rfl⟩
          · exact ⟨_, two, rfl, ht2, .inr rfl⟩
      have plen : (ys ++ [V.ref t1, V.ref t2]).length ≤ 100 := by rw [List.length_append]; show ys.length + 2 ≤ 100; omega
      refine gset (σ' := [some one, some two, some (.ref pa), some (.ref qa), some (.ref ls), some (.ref ll), some (.ref m7), some (.ref k5), some (.ref m9), none]) rfl ?_
      dsimp only [tSeq, tAsg]
      have Z : Same H12 H12 := .refl _
      refine made_more (more := ["NoClock", "NoNumber", "NoRow", "NoPost", "NoWay", "NoPlan", "NotRight", "NotLeast", "NoGiven"]) rfl (made_cons made_e0 (errV_mono _ _) (made_cons made_e0 (errV_mono _ _) (made_cons made_e0 (errV_mono _ _) (made_cons made_e0 (errV_mono _ _) (made_cons made_e0 (errV_mono _ _) (made_cons made_e0 (errV_mono _ _) (made_cons made_e0 (errV_mono _ _) (made_cons made_e0 (errV_mono _ _) (made_cons made_e0 (errV_mono _ _) made_nil))))))))) hm12 hE12 (by decide) fun H20 g0 xs0 z0 f0 h0 => ?_
      have Z0 := Z.trans z0
      refine gset (σ' := [some one, some two, some (.ref pa), some (.ref qa), some (.ref ls), some (.ref ll), some (.ref g0), some (.ref k5), some (.ref m9), none]) rfl ?_
      dsimp only [tSeq, tAsg]
      refine made_more (more := ["NoWays", "NoOrder", "NoLot", "NotUndoable", "NotAfter", "NotAlike", "NoAnswers", "NoCounts"]) rfl (made_cons made_e0 (errV_mono _ _) (made_cons made_e0 (errV_mono _ _) (made_cons made_e0 (errV_mono _ _) (made_cons made_e0 (errV_mono _ _) (made_cons made_e0 (errV_mono _ _) (made_cons made_e0 (errV_mono _ _) (made_cons made_e0 (errV_mono _ _) (made_cons made_e0 (errV_mono _ _) made_nil)))))))) f0 h0 (by decide) fun H21 g1 xs1 z1 f1 h1 => ?_
      have Z1 := Z0.trans z1
      refine gset (σ' := [some one, some two, some (.ref pa), some (.ref qa), some (.ref ls), some (.ref ll), some (.ref g1), some (.ref k5), some (.ref m9), none]) rfl ?_
      dsimp only [tSeq, tAsg]
      refine made_more (more := ["NoTable", "NotSure", "NoRule", "NotRow", "NoTick", "NoCut", "NoHours", "NotOne", "NotPlanned"]) rfl (made_cons made_e0 (errV_mono _ _) (made_cons made_e0 (errV_mono _ _) (made_cons made_e0 (errV_mono _ _) (made_cons made_e0 (errV_mono _ _) (made_cons made_e0 (errV_mono _ _) (made_cons made_e0 (errV_mono _ _) (made_cons made_e0 (errV_mono _ _) (made_cons made_e0 (errV_mono _ _) (made_cons made_e0 (errV_mono _ _) made_nil))))))))) f1 h1 (by decide) fun H22 g2 xs2 z2 f2 h2 => ?_
      have Z2 := Z1.trans z2
      refine gset (σ' := [some one, some two, some (.ref pa), some (.ref qa), some (.ref ls), some (.ref ll), some (.ref g2), some (.ref k5), some (.ref m9), none]) rfl ?_
      dsimp only [tSeq, tAsg]
      refine made_more (more := ["NoProgram", "NoWant", "NoValue", "NoValues", "NotEmpty", "Full", "NothingDone", "NoLine"]) rfl (made_cons made_e0 (errV_mono _ _) (made_cons made_e0 (errV_mono _ _) (made_cons made_e0 (errV_mono _ _) (made_cons made_e0 (errV_mono _ _) (made_cons made_e0 (errV_mono _ _) (made_cons made_e0 (errV_mono _ _) (made_cons made_e0 (errV_mono _ _) (made_cons made_e0 (errV_mono _ _) made_nil)))))))) f2 h2 (by decide) fun H23 g3 xs3 z3 f3 h3 => ?_
      have Z3 := Z2.trans z3
      refine gset (σ' := [some one, some two, some (.ref pa), some (.ref qa), some (.ref ls), some (.ref ll), some (.ref g3), some (.ref k5), some (.ref m9), none]) rfl ?_
      refine made_more (more := ["TooLong"]) rfl (made_cons made_e0 (errV_mono _ _) made_nil) f3 h3 (by decide) fun H30 fo xs z30 f30 h30 => ⟨_, rfl, by show 2 ≤ sizeLine; decide, fun t nt => ?_⟩
      have s31 := same_new (o := .tup [V.ref fo, V.ref m9]) nt
      have Zf := (Z3.trans z30).trans s31
      exact q _ t fo m9 xs _ (S012.trans Zf) upd_same (s31 _ _ f30) (Zf _ _ hps) (errL_same s31 h30) (fun y hy => by
        obtain ⟨q', v, e, hq, hv⟩ := tw y hy
        exact ⟨q', v, e, Zf _ _ hq, hv⟩) plen
end
end S4

/-! bent rows -/
namespace S4
open PySem L2 TT MM
theorem slice_fromA {K : PySem.W.Frag} {H : Hp} {a : Addr} {xs : List V} {k : Nat} {Q : VK} (h : H a = some (.tup xs)) (q : ∀ H' p, Same H H' → H' p = some (.tup (xs.drop k)) → Q (.ref p) H') : rSlA K (.ref a) (some (k : Int)) none H Q := by
  have ec : cutV xs (some (k : Int)) none = xs.drop k := by
    unfold cutV
    rw [HT.sIx_none, HT.sIx_nat]
    rcases Nat.le_total k xs.length with hk | hk
    · rw [Nat.min_eq_left hk, List.take_of_length_le (by rw [List.length_drop]; omega)]
    · rw [Nat.min_eq_right hk, List.drop_of_length_le (Nat.le_refl _), List.drop_of_length_le hk]; simp
  refine ⟨a, xs, rfl, .of h, fun e => q H a (.refl _) ?_, fun _ p np => ?_⟩
  · rw [HT.sIx_nat] at e
    have : xs.drop k = xs := by
      rcases Nat.le_total k xs.length with hk | hk
      · have : k = 0 := by omega
        subst this; rfl
      · have : xs.length = 0 := by omega
        have := List.eq_nil_of_length_eq_zero this
        subst this; simp
    rw [this]; exact h
  · rw [ec]
    exact q _ p (same_new np) upd_same
theorem cat_ofB {K : PySem.W.Frag} {H : Hp} {a b : Addr} {xs ys : List V} {Q : VK} (ha : H a = some (.tup xs)) (hb : H b = some (.tup ys)) (hl : xs.length + ys.length ≤ 10000) (q : ∀ H' p, Same H H' → H' p = some (.tup (xs ++ ys)) → Q (.ref p) H') : rCatA K (.ref a) (.ref b) H Q :=
  ⟨a, b, xs, ys, rfl, rfl, .of ha, .of hb, Nat.le_trans hl (by decide), fun e => q H b (.refl _) (by subst e; exact hb), fun _ e => q H a (.refl _) (by subst e; rw [List.append_nil]; exact ha), fun _ _ p np => q _ p (same_new np) upd_same⟩
theorem rep_flatB {α : Type} (x : α) : ∀ k : Nat, (List.replicate k [x]).flatten = List.replicate k x
  | 0 => rfl
  | k + 1 => by rw [List.replicate_succ, List.replicate_succ, List.flatten_cons, rep_flatB x k]; rfl
theorem rep_ofB {K : PySem.W.Frag} {H : Hp} {t : Addr} {x : V} {k : Nat} {Q : VK} (ht : H t = some (.tup [x])) (hk : k ≤ 1000) (q : ∀ H' p, Same H H' → H' p = some (.tup (List.replicate k x)) → Q (.ref p) H') : rRepA K (.ref t) (.int (k : Int)) H Q := by
  refine ⟨t, k, [x], rfl, rfl, .of ht, by simp, by omega, by omega, by show 1 ≤ 1000; decide, fun e => ?_, fun e p np => ?_⟩
  · have : k = 1 := by omega
    subst this
    exact q H _ (.refl _) ht
  · refine q _ _ (same_new np) ?_
    rw [upd_same, Int.toNat_natCast, rep_flatB]
theorem not_g {g c : Addr} {H : Hp} {a : Addr} {xs : List V} (hh : Hand g c H) (h : H a = some (.tup xs)) : a ≠ g := fun e => by
  obtain ⟨_, e2⟩ := hh.lst
  rw [e, e2] at h; cases h
/-- a tuple of these -/
theorem ThS.tups {g c : Addr} {H : Hp} {a : Addr} {xs : List V} (hh : Hand g c H) (h : H a = some (.tup xs)) (hl : xs.length ≤ 1000) (hx : ∀ x ∈ xs, Th g H 1 x) : ThS g H (.ref a) := .ofTup h (not_g hh h) hl hx
theorem Th.tups {g c : Addr} {H : Hp} {a : Addr} {xs : List V} {n : Nat} (hh : Hand g c H) (h : H a = some (.tup xs)) (hl : xs.length ≤ 1000) (hx : ∀ x ∈ xs, Th g H n x) : Th g H (n + 1) (.ref a) := .tup h (not_g hh h) hl hx
theorem ints_th {g : Addr} {H : Hp} (l : List Int) (n : Nat) : ∀ x ∈ l.map V.int, Th g H n x := fun x hx => by
  obtain ⟨y, _, rfl⟩ := List.mem_map.mp hx
  exact Th.flat (v := V.int y) trivial n
theorem row_th {g c : Addr} {H : Hp} {v : V} {l : List Int} (hh : Hand g c H) (h : rRow H v l) (hl : l.length ≤ 1000) (n : Nat) : Th g H (n + 1) v := by
  obtain ⟨t, rfl, h⟩ := h
  exact .tups hh h (by rw [List.length_map]; exact hl) (ints_th l n)
theorem th_flat {g : Addr} {H : Hp} {n : Nat} {v : V} (h : Flat v) : Th g H n v := .flat h n
theorem thenC {te : TE} {σ : St} {H : Hp} {k : V → Hp → Prop} (C : V → Hp → Prop) (h : ∀ k' : V → Hp → Prop, (∀ v H2, C v H2 → k' v H2) → te σ H k') (q : ∀ v H2, C v H2 → k v H2) : te σ H k := h k q
section
variable {P : Program} {w : World} {K : PySem.W.Frag} {mg : Str → Option Value} {base : Heap} {cT cS : Addr}
def spBentRows : Sp := fun vs H Q _ => ∃ (g c r : Addr) (p : Int) (wd : Nat) (xs : List V) (rws : List (List Int)), vs = [.ref g, .int p, .int (wd : Int), .ref r] ∧ 2 ≤ p ∧ p ≤ 999983 ∧ wd ≤ 500 ∧ H r = some (.tup xs) ∧ Paired (rRow H) xs rws ∧ rws.length ≤ 500 ∧ (∀ l ∈ rws, l.length = wd) ∧
  Hand g c H ∧ ∀ H' v, But g H H' → Hand g c H' → ThS g H' v → Q v H'
theorem ok_bent_rows (T : Tx K mg cT cS) {f : Addr} {fd : FuncData} (d : D K mg "_law_bent_rows" s_law_bent_rows ["hand", "p", "wide", "rows"] f fd) : FnOk P w K mg base CX0 5 f fd ["hand", "p", "wide", "rows"] spBentRows := by
  obtain ⟨f1, fd1, d1⟩ := T.d_law_draw
  have G1 := ok_draw (P := P) (w := w) (base := base) T d1
  obtain ⟨f2, fd2, d2⟩ := T.d_law_any
  have G2 := ok_any (P := P) (w := w) (base := base) T d2
  obtain ⟨f3, fd3, d3⟩ := T.d_law_odd
  have G3 := ok_odd (P := P) (w := w) (base := base) T d3
  refine d.F.ok sc_law_bent_rows (fun vs H Q E h => ?_) (fun cdv A outer s H vs Q E hr h => ?_)
  · obtain ⟨g, c, r, p, wd, xs, rws, rfl, _⟩ := h
    rfl
  · obtain ⟨g, c, r, p, wd, xs, rws, rfl, p2, pm, hw, hx, hp, hn, hl, hh, q⟩ := h
    refine ⟨_, pss_cons (ps_set (i := 4) sc_law_bent_rows.nd rfl (.inl rfl) (pe_call G1 (hr.mono (by decide)) rfl d1.m d1.F.kp d1.b .nil pass0 (pa_cons (pv 0) (pa_cons (pe_op op_add (pe_callB call_len_seq (by rfl) T.b_len PySem.boot_len (pa_cons (pv 3) pa_nil)) pe_int) pa_nil))))
      (pss_cons (ps_set (i := 5) sc_law_bent_rows.nd rfl (.inl rfl) (pe_ifExp (pt_cmpR op_lt (pv 4) (pe_callB call_len_seq (by rfl) T.b_len PySem.boot_len (pa_cons (pv 3) pa_nil)) (nomark _)) (pe_ix ix_tup (pv 3) (pv 4) (fun _ _ => rfl)) (pe_op op_repA (pe_tup (pa_cons pe_int pa_nil)) (pv 2))))
      (pss_cons (ps_set (i := 6) sc_law_bent_rows.nd rfl (.inl rfl) (pe_call G1 (hr.mono (by decide)) rfl d1.m d1.F.kp d1.b .nil pass0 (pa_cons (pv 0) (pa_cons (pe_op op_add (pv 2) pe_int) pa_nil))))
      (pss_cons (ps_set (i := 7) sc_law_bent_rows.nd rfl (.inl rfl) (pe_call G2 (hr.mono (by decide)) rfl d2.m d2.F.kp d2.b .nil pass0 (pa_cons (pv 0) (pa_cons (pe_lst (pa_cons (pv 1) (pa_cons (pe_un un_neg pe_int) (pa_cons pe_bl (pa_cons pe_non (pa_cons pe_str (pa_cons (pe_tup (pa_cons pe_int pa_nil)) (pa_cons (pe_op op_pow pe_int pe_int) (pa_cons pe_int (pa_cons (pe_op op_sub (pv 1) pe_int) pa_nil)))))))))) pa_nil))))
      (pss_cons (ps_set (i := 8) sc_law_bent_rows.nd rfl (.inl rfl) (pe_op op_catA (pe_op op_catA (pe_slice sl_tupA (pv 5) po_none (po_some (pv 6))) (pe_tup (pa_cons (pv 7) pa_nil))) (pe_slice sl_tupA (pv 5) (po_some (pe_op op_add (pv 6) pe_int)) po_none)))
      (pss_cons (ps_set (i := 9) sc_law_bent_rows.nd rfl (.inl rfl) (pe_call G2 (hr.mono (by decide)) rfl d2.m d2.F.kp d2.b .nil pass0 (pa_cons (pv 0) (pa_cons (pe_lst (pa_cons (pe_op op_catA (pv 5) (pe_tup (pa_cons pe_int pa_nil))) (pa_cons (pe_slice sl_tupA (pv 5) (po_some pe_int) po_none) (pa_cons (pe_callTy call_list_of (by rfl) T.b_list (by decide +kernel) (pa_cons (pv 5) pa_nil)) (pa_cons (pv 8) (pa_cons (pv 8) (pa_cons (pe_call G3 (hr.mono (by decide)) rfl d3.m d3.F.kp d3.b .nil pass0 (pa_cons (pv 0) pa_nil)) pa_nil))))))) pa_nil))))
      (pss_cons (ps_set (i := 10) sc_law_bent_rows.nd rfl (.inl rfl) (pe_op op_catA (pe_op op_catA (pe_slice sl_tupA (pv 3) po_none (po_some (pv 4))) (pe_tup (pa_cons (pv 9) pa_nil))) (pe_slice sl_tupA (pv 3) (po_some (pe_op op_add (pv 4) pe_int)) po_none)))
      (pss_one (ps_ret (pe_call G2 (hr.mono (by decide)) rfl d2.m d2.F.kp d2.b .nil pass0 (pa_cons (pv 0) (pa_cons (pe_lst (pa_cons (pv 10) (pa_cons (pv 10) (pa_cons (pe_callTy call_list_of (by rfl) T.b_list (by decide +kernel) (pa_cons (pv 10) pa_nil)) (pa_cons (pe_call G3 (hr.mono (by decide)) rfl d3.m d3.F.kp d3.b .nil pass0 (pa_cons (pv 0) pa_nil)) (pa_cons (pe_op op_repA (pe_tup (pa_cons pe_int pa_nil)) pe_int) (pa_cons (pe_op op_repA (pe_tup (pa_cons (pe_op op_repA (pe_tup (pa_cons pe_int pa_nil)) (pv 2)) pa_nil)) pe_int) pa_nil))))))) pa_nil))))))))))), ?_⟩
    have hle := paired_len hp
    have wnat : ∀ a : Int, 0 ≤ a → ∃ k : Nat, a = (k : Int) := fun a h => ⟨a.toNat, by omega⟩
    dsimp only [tSeq, tAsg]
    refine ⟨_, rfl, _, rfl, r, xs, rfl, .inr (.of hx), _, _, rfl, rfl, g, c, _, rfl, by omega, by omega, hh, fun H1 at_ b1 h1 a0 a1 => ?_⟩
    obtain ⟨k, rfl⟩ := wnat at_ a0
    have hrg : r ≠ g := not_g hh hx
    have hx1 := b1 _ _ hrg hx
    have hp1 : Paired (rRow H1) xs rws := paired_mono mono_row (hh.keep b1) hp
    dsimp only [gName, tSeq, tAsg]
    refine thenC (fun v H2 => Same H1 H2 ∧ ∃ l, rRow H2 v l ∧ l.length = wd) ?_ ?_
    · intro K' kk
      refine ⟨_, rfl, _, rfl, r, xs, rfl, .inr (.of hx1), _, _, rfl, rfl, _, rfl, ?_⟩
      by_cases hk : k < xs.length
      · rw [decide_eq_true (by omega)]
        obtain ⟨l, hl1, hl2⟩ := paired_get hp1 (List.getElem?_eq_getElem hk)
        exact iteT ⟨_, rfl, _, rfl, r, xs, _, _, rfl, rfl, .of hx1, atI_nat (List.getElem?_eq_getElem hk), kk _ _ ⟨.refl _, l, hl2, hl l (List.mem_of_getElem? hl1)⟩⟩
      · rw [decide_eq_false (by omega)]
        refine iteF ⟨by show 1 ≤ sizeLine; decide, fun p0 n0 => ⟨_, rfl, zeros upd_same (by omega) fun H2 v s2 hv => kk _ _ ⟨(same_new n0).trans s2, _, hv, by rw [List.length_replicate]⟩⟩⟩
    rintro some_ H2 ⟨s2, l, hl2, hlw⟩
    have h2 := h1.same s2
    have hx2 := s2 _ _ hx1
    refine ⟨_, rfl, _, rfl, _, _, rfl, rfl, g, c, _, rfl, by omega, by omega, h2, fun H3 pl b3 h3 a2 a3 => ?_⟩
    obtain ⟨m, rfl⟩ := wnat pl a2
    refine thenC (fun v H4 => But g H3 H4 ∧ Hand g c H4 ∧ Th g H4 0 v) ?_ ?_
    · intro K' kk
      refine ⟨_, rfl, _, rfl, _, rfl, by show 1 ≤ sizeLine; decide, fun p1 n1 => ⟨_, _, rfl, rfl, ⟨by decide, by decide, by decide⟩, _, rfl, _, _, rfl, rfl, by show 9 ≤ sizeLine; decide, fun l0 n2 => ?_⟩⟩
      have s1 := same_new (o := .tup [V.int 0]) n1
      have g1 := h3.same s1
      have k1 := (hand_newK h3 n1).1
      refine ⟨g, c, l0, _, rfl, upd_same, (hand_newK g1 n2).1, by show 0 < 9; decide, by show 9 < 1000000; decide, g1.same (same_new n2), fun H' i x b h' hx' => kk _ _ ⟨((s1.trans (same_new n2)).but g).trans b, h', ?_⟩⟩
      have hm := List.mem_of_getElem? hx'
      clear hx'
      revert x hm
      refine fc ?_ (fc ?_ (fc ?_ (fc ?_ (fc ?_ (fc ?_ (fc ?_ (fc ?_ (fc ?_ fn0))))))))
      all_goals first | (refine th_flat ?_; exact True.intro) | skip
      exact Th.tup0 (b _ _ k1 ((same_new n2) _ _ upd_same)) k1 (by show 1 ≤ 1000; decide)
    rintro val H4 ⟨b4, h4, tv⟩
    obtain ⟨t5, rfl, hl2⟩ := hl2
    have n5 := not_g h2 hl2
    have hr4 : H4 t5 = some (.tup (l.map V.int)) := b4 _ _ n5 (b3 _ _ n5 hl2)
    have hx4 : H4 r = some (.tup xs) := b4 _ _ hrg (b3 _ _ hrg hx2)
    have hlm : (l.map V.int).length = wd := by rw [List.length_map]; exact hlw
    refine thenC (fun v H5 => Same H4 H5 ∧ ∃ q, v = .ref q ∧ H5 q = some (.tup ((l.map V.int).take m ++ [val] ++ (l.map V.int).drop (m + 1)))) ?_ ?_
    · intro K' kk
      refine ⟨_, rfl, ?_⟩
      dsimp only [tNoPart]
      refine ⟨_, rfl, _, rfl, slice_upto hr4 fun H5 q1 s5 e5 => ⟨_, rfl, by show 1 ≤ sizeLine; decide, fun q2 nq => cat_ofB ((same_new nq) _ _ e5) upd_same ?_ fun H6 q3 s6 e6 => ⟨_, rfl, _, rfl, _, _, rfl, rfl, ?_⟩⟩⟩
      · rw [List.length_take]; show _ + 1 ≤ 10000; omega
      have s45 : Same H4 H6 := (s5.trans (same_new nq)).trans s6
      refine ⟨_, rfl, ?_⟩
      dsimp only [tNoPart]
      have e : ((m : Int) + 1) = ((m + 1 : Nat) : Int) := by omega
      rw [e]
      refine slice_fromA (s45 _ _ hr4) fun H7 q4 s7 e7 => cat_ofB (s7 _ _ e6) e7 ?_ fun H8 q5 s8 e8 => kk _ _ ⟨(s45.trans s7).trans s8, q5, rfl, e8⟩
      rw [List.length_append, List.length_take, List.length_drop]; show _ + 1 + _ ≤ 10000; omega
    rintro changed H5 ⟨s5, ch, rfl, hc5⟩
    have h5 := h4.same s5
    have hcl : ((l.map V.int).take m ++ [val] ++ (l.map V.int).drop (m + 1)).length ≤ 1000 := by rw [List.length_append, List.length_append, List.length_take, List.length_drop]; show _ + 1 + _ ≤ 1000; omega
    have tch : ∀ x ∈ (l.map V.int).take m ++ [val] ++ (l.map V.int).drop (m + 1), Th g H5 0 x := fun x hx' => by
      rcases List.mem_append.mp hx' with h | h
      · rcases List.mem_append.mp h with h | h
        · exact ints_th l 0 x (List.mem_of_mem_take h)
        · rw [List.mem_singleton.mp h]; exact tv.same s5
      · exact ints_th l 0 x (List.mem_of_mem_drop h)
    have ht5 := s5 _ _ hr4
    refine thenC (fun v H6 => But g H5 H6 ∧ Hand g c H6 ∧ Th g H6 1 v) ?_ ?_
    · intro K' kk
      refine ⟨_, rfl, _, rfl, by show 1 ≤ sizeLine; decide, fun p1 n1 => ?_⟩
      have z1 := same_new (o := .tup [V.int 0]) n1
      refine cat_ofB (z1 _ _ ht5) upd_same (by rw [hlm]; show wd + 1 ≤ 10000; omega) fun H6 q1 z2 e2 => ⟨_, rfl, _, rfl, ?_⟩
      dsimp only [tNoPart]
      have z12 := z1.trans z2
      refine slice_fromA (k := 1) (z12 _ _ ht5) fun H7 q2 z3 e3 => ⟨_, rfl, t5, _, rfl, .inr (.of ((z12.trans z3) _ _ ht5)), fun q3 n3 => ?_⟩
      have h6 := h5.same z12
      have h7 := h6.same z3
      have z4 := same_new (o := .lst (l.map V.int)) n3
      have g3 := (hand_newK h7 n3).1
      refine ⟨_, rfl, _, rfl, _, rfl, g, c, rfl, h7.same z4, fun H9 od b9 h9 tod => ⟨by show 6 ≤ sizeLine; decide, fun l0 nl0 => ?_⟩⟩
      have zl := same_new (o := .lst [V.ref q1, V.ref q2, V.ref q3, V.ref ch, V.ref ch, od]) nl0
      refine ⟨g, c, l0, _, rfl, upd_same, (hand_newK h9 nl0).1, by show 0 < 6; decide, by show 6 < 1000000; decide, h9.same zl, fun H' i x b h' hx' => ?_⟩
      have B9 := (zl.but g).trans b
      have B7 := ((z4.but g).trans b9).trans B9
      have B6 := (z3.but g).trans B7
      have B5 := (z12.but g).trans B6
      refine kk _ _ ⟨B5, h', ?_⟩
      have hm := List.mem_of_getElem? hx'
      clear hx'
      revert x hm
      have tc := (Th.tups h5 hc5 hcl tch).but B5
      refine fc ?_ (fc ?_ (fc ?_ (fc tc (fc tc (fc ((tod.th.less).but B9) fn0)))))
      · refine (Th.tups h6 e2 ?_ fun x hx' => ?_).but B6
        · rw [List.length_append, hlm]; show wd + 1 ≤ 1000; omega
        · rcases List.mem_append.mp hx' with h | h
          · exact ints_th l 0 x h
          · rw [List.mem_singleton.mp h]; exact th_flat (v := V.int 0) trivial
      · exact (Th.tups h7 e3 (by rw [List.length_drop]; omega) fun x hx' => ints_th l 0 x (List.mem_of_mem_drop hx')).but B7
      · exact (Th.lst upd_same g3 1).but (b9.trans B9)
    rintro row H6 ⟨b6, h6, tr⟩
    have hx6 : H6 r = some (.tup xs) := b6 _ _ hrg (s5 _ _ hx4)
    have b06 : But g H H6 := ((((b1.trans (s2.but g)).trans b3).trans b4).trans (s5.but g)).trans b6
    refine thenC (fun v H7 => Same H6 H7 ∧ ∃ q, v = .ref q ∧ H7 q = some (.tup (xs.take k ++ [row] ++ xs.drop (k + 1)))) ?_ ?_
    · intro K' kk
      refine ⟨_, rfl, ?_⟩
      dsimp only [tNoPart]
      refine ⟨_, rfl, _, rfl, slice_upto hx6 fun H7 q1 s7 e7 => ⟨_, rfl, by show 1 ≤ sizeLine; decide, fun q2 nq => cat_ofB ((same_new nq) _ _ e7) upd_same ?_ fun H8 q3 s8 e8 => ⟨_, rfl, _, rfl, _, _, rfl, rfl, ?_⟩⟩⟩
      · rw [List.length_take]; show _ + 1 ≤ 10000; omega
      have s68 : Same H6 H8 := (s7.trans (same_new nq)).trans s8
      refine ⟨_, rfl, ?_⟩
      dsimp only [tNoPart]
      have e : ((k : Int) + 1) = ((k + 1 : Nat) : Int) := by omega
      rw [e]
      refine slice_fromA (s68 _ _ hx6) fun H9 q4 s9 e9 => cat_ofB (s9 _ _ e8) e9 ?_ fun H10 q5 s10 e10 => kk _ _ ⟨(s68.trans s9).trans s10, q5, rfl, e10⟩
      rw [List.length_append, List.length_take, List.length_drop]; show _ + 1 + _ ≤ 10000; omega
    rintro found H7 ⟨s7, fo, rfl, hf7⟩
    have h7 := h6.same s7
    have txs : ∀ x ∈ xs, Th g H7 1 x := fun x hx' => by
      obtain ⟨i, hi⟩ := List.getElem?_of_mem hx'
      obtain ⟨l', hl1, hl2⟩ := paired_get hp hi
      exact (row_th hh hl2 (by rw [hl l' (List.mem_of_getElem? hl1)]; omega) 0).but (b06.trans (s7.but g))
    have tfo : ∀ x ∈ xs.take k ++ [row] ++ xs.drop (k + 1), Th g H7 1 x := fun x hx' => by
      rcases List.mem_append.mp hx' with h | h
      · rcases List.mem_append.mp h with h | h
        · exact txs x (List.mem_of_mem_take h)
        · rw [List.mem_singleton.mp h]; exact tr.same s7
      · exact txs x (List.mem_of_mem_drop h)
    have hfl : (xs.take k ++ [row] ++ xs.drop (k + 1)).length ≤ 1000 := by rw [List.length_append, List.length_append, List.length_take, List.length_drop]; show _ + 1 + _ ≤ 1000; omega
    have tf := ThS.tups h7 hf7 hfl tfo
    dsimp only [tRet]
    refine ⟨_, rfl, _, rfl, _, rfl, _, rfl, fo, _, rfl, .inr (.of hf7), fun l1 m1 => ?_⟩
    have w1 := same_new (o := .lst (xs.take k ++ [row] ++ xs.drop (k + 1))) m1
    have g1 := (hand_newK h7 m1).1
    have j1 := h7.same w1
    refine ⟨_, rfl, g, c, rfl, j1, fun H9 od b9 h9 tod => ⟨by show 1 ≤ sizeLine; decide, fun p2 m2 => ?_⟩⟩
    have w2 := same_new (o := .tup [V.int 0]) m2
    dsimp only [tC]
    refine rep_ofB (k := 201) upd_same (by omega) fun H10 q1 w3 e3 => ⟨by show 1 ≤ sizeLine; decide, fun p3 m3 => ⟨_, rfl, zeros upd_same (by omega) fun H12 v w5 hv => ⟨by show 1 ≤ sizeLine; decide, fun p4 m4 => ?_⟩⟩⟩
    dsimp only [tC]
    refine rep_ofB (k := 200) upd_same (by omega) fun H14 q2 w7 e7 => ⟨by show 6 ≤ sizeLine; decide, fun l0 nl0 => ?_⟩
    have w4 := same_new (o := .tup [V.int 0]) m3
    have w6 := same_new (o := .tup [v]) m4
    have w8 := same_new (o := .lst [V.ref fo, V.ref fo, V.ref l1, od, V.ref q1, V.ref q2]) nl0
    have h10 := (h9.same w2).same w3
    have h12 := (h10.same w4).same w5
    have h14 := (h12.same w6).same w7
    refine ⟨g, c, l0, _, rfl, upd_same, (hand_newK h14 nl0).1, by show 0 < 6; decide, by show 6 < 1000000; decide, h14.same w8, fun H' i x b h' hx' => ?_⟩
    have B14 := (w8.but g).trans b
    have B12 := ((w6.trans w7).but g).trans B14
    have B10 := ((w4.trans w5).but g).trans B12
    have B9 := ((w2.trans w3).but g).trans B10
    have B8 := b9.trans B9
    have B7 := (w1.but g).trans B8
    refine q H' x (b06.trans ((s7.but g).trans B7)) h' ?_
    have hm := List.mem_of_getElem? hx'
    clear hx'
    revert x hm
    refine fc (tf.but B7) (fc (tf.but B7) (fc ?_ (fc (tod.but B9) (fc ?_ (fc ?_ fn0)))))
    · exact (Sq_of_lst upd_same g1 hfl fun x hx' => (tfo x hx').same w1).but B8
    · refine (ThS.tups h10 e3 (by rw [List.length_replicate]; omega) fun x hx' => ?_).but B10
      rw [List.eq_of_mem_replicate hx']; exact th_flat (v := V.int 0) trivial
    · refine (ThS.tups h14 e7 (by rw [List.length_replicate]; omega) fun x hx' => ?_).but B14
      rw [List.eq_of_mem_replicate hx']
      exact (row_th h12 hv (by rw [List.length_replicate]; omega) 0).same (w6.trans w7)
end
end S4

/-! what stands still behind a lambda -/
namespace S4
open PySem L2 TT MM LamX
/-- all but the hand's own list and the tables of code stands still -/
def ButN (g : Addr) (H H' : Hp) : Prop := ∀ b o, b ≠ g → (∀ ps, o ≠ HO.tbl ps) → H b = some o → H' b = some o
theorem But.n {g : Addr} {H H' : Hp} (b : But g H H') : ButN g H H' := fun x o n _ h => b x o n h
theorem ExtN.bn {g : Addr} {H H' : Hp} (b : ExtN H H') : ButN g H H' := fun x o _ n h => b x o h n
theorem ButN.trans {g : Addr} {H H1 H2 : Hp} (a : ButN g H H1) (b : ButN g H1 H2) : ButN g H H2 := fun x o n t h => b x o n t (a x o n t h)
theorem ButN.tup {g : Addr} {H H' : Hp} (b : ButN g H H') {a : Addr} {xs : List V} (n : a ≠ g) (h : H a = some (.tup xs)) : H' a = some (.tup xs) := b _ _ n (fun _ z => nomatch z) h
theorem ButN.lst {g : Addr} {H H' : Hp} (b : ButN g H H') {a : Addr} {xs : List V} (n : a ≠ g) (h : H a = some (.lst xs)) : H' a = some (.lst xs) := b _ _ n (fun _ z => nomatch z) h
theorem ButN.dK {g : Addr} {H H' : Hp} (b : ButN g H H') {a : Addr} {xs : List (Key × V)} (n : a ≠ g) (h : H a = some (.dK xs)) : H' a = some (.dK xs) := b _ _ n (fun _ z => nomatch z) h
theorem Th.tupOfN {g : Addr} {H H' : Hp} {n : Nat} {v : V} (t : Th g H n v) (b : ButN g H H') : S4.tupOf H' v = S4.tupOf H v := by
  rcases t.zero with f | ⟨a, rfl, na, ⟨xs, h, _⟩ | ⟨xs, h⟩ | ⟨kvs, h⟩⟩
  · cases v <;> first | rfl | exact f.elim
  · rw [tupOf_at h, tupOf_at (b.tup na h)]
  · unfold S4.tupOf; simp only [h, b.lst na h]
  · unfold S4.tupOf; simp only [h, b.dK na h]
theorem Th.butN {g : Addr} {H H' : Hp} (b : ButN g H H') : ∀ {n : Nat} {v : V}, Th g H n v → Th g H' n v
  | 0, v, h => by
    rcases h with f | ⟨a, rfl, na, h⟩
    · exact .inl f
    · refine .inr ⟨a, rfl, na, ?_⟩
      rcases h with ⟨xs, h, l⟩ | ⟨xs, h⟩ | ⟨kvs, h⟩
      · exact .inl ⟨xs, b.tup na h, l⟩
      · exact .inr (.inl ⟨xs, b.lst na h⟩)
      · exact .inr (.inr ⟨kvs, b.dK na h⟩)
  | n + 1, v, h => by
    refine ⟨Th.butN (n := 0) b h.1, fun a xs e hx x hm => ?_⟩
    have e1 := Th.tupOfN h b
    subst e
    rw [tupOf_at hx] at e1
    obtain ⟨a', e2, h2⟩ := tupOf_some e1.symm
    cases e2
    exact Th.butN b (h.2 a xs rfl h2 x hm)
theorem ThS.butN {g : Addr} {H H' : Hp} (b : ButN g H H') {v : V} (t : ThS g H v) : ThS g H' v := by
  refine ⟨t.th.butN b, fun a xs e h => ?_⟩
  subst e
  rcases t.th.zero with f | ⟨a', e, na, h' | ⟨ys, h'⟩ | ⟨kvs, h'⟩⟩
  · exact f.elim
  · obtain ⟨ys, h', _⟩ := h'
    cases e
    rw [b.tup na h'] at h; cases h
  · cases e
    have h2 := b.lst na h'
    rw [h] at h2; cases h2
    exact ⟨(t.ls _ _ rfl h').1, fun x hx => ((t.ls _ _ rfl h').2 x hx).butN b⟩
  · cases e
    rw [b.dK na h'] at h; cases h
theorem ThS.seqOfN {g : Addr} {H H' : Hp} {v : V} (t : ThS g H v) (b : ButN g H H') : seqOf H' v = seqOf H v := by
  rcases t.th.zero with f | ⟨a, rfl, na, ⟨xs, h, _⟩ | ⟨xs, h⟩ | ⟨kvs, h⟩⟩
  · cases v <;> first | rfl | exact f.elim
  · rw [seqOf_tup h, seqOf_tup (b.tup na h)]
  · rw [seqOf_lst h, seqOf_lst (b.lst na h)]
  · unfold seqOf; simp only [h, b.dK na h]
theorem rowB_n {g : Addr} {H H' : Hp} {n : Nat} {v : V} {p wd : Int} (t : Th g H n v) (b : ButN g H H') : rowB p wd H' v = rowB p wd H v := by
  unfold rowB
  rw [t.tupOfN b]
theorem fstBad_n {g : Addr} {H H' : Hp} {p wd : Int} {xs : List V} (h : ∀ x ∈ xs, Th g H 1 x) (b : ButN g H H') : fstBad p wd H' xs = fstBad p wd H xs := by
  unfold fstBad
  have e : ∀ l : List Nat, (∀ i ∈ l, i < xs.length) → l.find? (fun i => !rowB p wd H' (xs.getD i V.non)) = l.find? (fun i => !rowB p wd H (xs.getD i V.non)) := by
    intro l
    induction l with
    | nil => intro _; rfl
    | cons i l ih =>
      intro hl
      have hi := hl i (List.mem_cons_self ..)
      have eg : xs.getD i .non = xs[i] := getD_non (List.getElem?_eq_getElem hi)
      rw [List.find?_cons, List.find?_cons, ih (fun j hj => hl j (List.mem_cons_of_mem _ hj)), eg, rowB_n (h _ (List.getElem_mem hi)) b]
  exact e _ fun i hi => List.mem_range.mp hi
theorem sqD_n {g : Addr} {H H' : Hp} {p rows : V} (t : ThS g H rows) (b : ButN g H H') : sqD H' p rows = sqD H p rows := by
  unfold sqD
  rw [t.seqOfN b]
  cases e : seqOf H rows with
  | none => rfl
  | some xs => simp only [fstBad_n (t.mem e).2 b]
theorem fstBad_lt {p wd : Int} {H : Hp} {xs : List V} {i : Nat} (h : fstBad p wd H xs = some i) : i < xs.length := List.mem_range.mp (List.mem_of_find?_eq_some h)
theorem sqD_i {H : Hp} {p rows : V} {i : Int} (h : sqD H p rows = .rows i) : -1 ≤ i ∧ i ≤ 300 := by
  unfold sqD at h
  split at h
  · split at h
    · cases h; omega
    · split at h
      · cases h; omega
      · unfold dueOf at h
        split at h
        · rename_i j hj
          have := fstBad_lt hj
          cases h; omega
        · cases h
  · cases h
theorem Hand.extN {g c : Addr} {H H' : Hp} (h : Hand g c H) (x : ExtN H H') : Hand g c H' := by
  obtain ⟨cells, i1, i2, i3, i4, h⟩ := h
  exact ⟨cells, i1, i2, i3, i4, x.lst h.h, x.lst h.hc, h.len, h.pos, h.b1, h.b2, h.b3, h.b4⟩
/-- the word of what is due -/
theorem errD_word {mg : Str → Option Value} {D : Due} {H : Hp} {Q' : VK} (rest : ∀ HX v, Same H HX → rDue HX v D → Q' v HX) (hi : ∀ i, D = .rows i → -1 ≤ i ∧ i ≤ 300) : ErrD mg (EWordR mg Q') H D := by
  cases D with
  | «let» => exact True.intro
  | clock => exact fun H' s => .inl ⟨rfl, rfl, fun H2 s2 => rest H2 _ (s.trans s2) rfl⟩
  | number => exact fun H' s => .inr (.inl ⟨rfl, rfl, fun H2 s2 => rest H2 _ (s.trans s2) rfl⟩)
  | row => exact fun H' s => .inr (.inr (.inl ⟨rfl, rfl, fun H2 s2 => rest H2 _ (s.trans s2) rfl⟩))
  | rows i => exact fun H' d s _ hx => .inr (.inr (.inr ⟨d, i, rfl, rfl, hx, (hi i rfl).1, (hi i rfl).2, fun H2 t s2 ht => rest H2 _ (s.trans s2) ⟨t, rfl, ht⟩⟩))
end S4

namespace S4
open PySem L2 TT MM
section
variable {P : Program} {w : World} {K : PySem.W.Frag} {mg : Str → Option Value} {base : Heap} {cT cS : Addr}
def spSomeRows : Sp := fun vs H Q _ => ∃ (g c : Addr) (p : Int) (wd many : Nat), vs = [.ref g, .int p, .int (wd : Int), .int (many : Int)] ∧ 2 ≤ p ∧ p ≤ 999983 ∧ wd ≤ 1000 ∧ many ≤ 1000 ∧ Hand g c H ∧
  ∀ H' r xs rws, But g H H' → Hand g c H' → H r = none → r ≠ g → r ≠ c → H' r = some (.lst xs) → Paired (rRow H') xs rws → rws.length = many → (∀ l ∈ rws, isRow l p wd) → Q (.ref r) H'
theorem ok_some_rows (T : Tx K mg cT cS) {f : Addr} {fd : FuncData} (d : D K mg "_law_some_rows" s_law_some_rows ["hand", "p", "wide", "many"] f fd) : FnOk P w K mg base CX0 4 f fd ["hand", "p", "wide", "many"] spSomeRows := by
  obtain ⟨f1, fd1, d1⟩ := T.d_law_some_row
  have G1 : FnOk P w K mg base CX0 3 f1 fd1 ["hand", "p", "wide", "rows"] spSomeRow := ok_some_row T d1
  refine d.F.ok sc_law_some_rows (fun vs H Q E h => ?_) (fun cdv A outer s H vs Q E hr h => ?_)
  · obtain ⟨g, c, p, wd, many, rfl, _⟩ := h
    rfl
  · obtain ⟨g, c, p, wd, many, rfl, p2, pm, hwd, hm, hh, q⟩ := h
    refine ⟨_, pss_cons (ps_set (i := 4) sc_law_some_rows.nd rfl (.inl rfl) (pe_lst pa_nil))
      (pss_cons (ps_for PassesOwn.never rfl (pi_range1 rfl T.b_range (pa_cons (pv 3) pa_nil)) (pg_name (i := 5) sc_law_some_rows.nd rfl (Or.inl rfl))
        (pss_one (ps_expr (pe_bm PySem.F.plainAttrs_list PySem.F.slot_list_append PySem.F.type_list_append mt_append (pv 4) (pa_cons
          (pe_call G1 hr rfl d1.m d1.F.kp d1.b .nil pass0 (pa_cons (pv 0) (pa_cons (pv 1) (pa_cons (pv 2) (pa_cons (pv 4) pa_nil))))) pa_nil)))))
      (pss_one (ps_ret (pv 4)))), ?_⟩
    refine ⟨by show 0 ≤ sizeLine; decide, fun r nr => ?_⟩
    have s1 := same_new (o := .lst []) nr
    have rg := hand_new hh nr
    dsimp only [gName, tSeq]
    refine ⟨_, rfl, _, rfl, by omega, by omega, ?_⟩
    refine for_it (walk_range (lo := 0) (n := ((many : Nat) : Int).toNat)) (fun i σ H' => ∃ x xs rws, σ = [some (.ref g), some (.int p), some (.int (wd : Int)), some (.int (many : Int)), some (.ref r), x] ∧ But g H H' ∧ Hand g c H' ∧ H' r = some (.lst xs) ∧ Paired (rRow H') xs rws ∧ rws.length = i ∧ ∀ l ∈ rws, isRow l p wd)
      ⟨none, [], [], rfl, s1.but g, hh.same s1, upd_same, .nil, rfl, fun _ h => (nomatch h)⟩ (fun i σ H' _ h => trivial) ?_ ?_
    · rintro i x σ H2 H3 hi ⟨y, xs, rws, rfl, bt, hh2, hr2, hp2, hl2, hrw2⟩ ⟨rfl, rfl⟩
      rw [Int.toNat_natCast] at hi
      have hxl := paired_len hp2
      refine ⟨_, rfl, .inl ⟨rfl, _, .of hr2⟩, ?_⟩
      refine ⟨_, rfl, _, rfl, _, rfl, _, rfl, g, c, r, p, wd, xs, rws, rfl, p2, pm, hwd, hr2, rg.1, hp2, by omega, hrw2, hh2, fun H4 v l b4 hh4 hv hir => ?_⟩
      have hr4 := b4.lst rg.1 hr2
      have k5 : Keep _ _ := keep_lst (o := .lst (xs ++ [v])) hr4
      refine ⟨r, xs, v, rfl, rfl, hr4, Nat.lt_of_le_of_lt (by omega : xs.length ≤ 1000) (by decide), ?_⟩
      refine ⟨_, xs ++ [v], rws ++ [l], rfl, fun a u ha e => ?_, hh4.setD rg.1 rg.2, upd_same, paired_app (paired_mono mono_row ((hh2.keep b4).trans k5) hp2) (.cons (mono_row _ _ _ _ k5 hv) .nil), by rw [List.length_append, hl2]; rfl, fun z hz => ?_⟩
      · rw [upd_ne (fun q => by subst q; rw [nr] at e; cases e)]
        exact (bt.trans b4) a u ha e
      · rcases List.mem_append.mp hz with hz | hz
        · exact hrw2 z hz
        · rw [List.mem_singleton.mp hz]; exact hir
    · rintro σ H2 ⟨y, xs, rws, rfl, bt, hh2, hr2, hp2, hl2, hrw2⟩
      rw [Int.toNat_natCast] at hl2
      exact ⟨_, rfl, q _ r xs rws bt hh2 nr rg.1 rg.2 hr2 hp2 hl2 hrw2⟩
end
end S4

/-! what is refused of squares -/
namespace S4
open PySem L2 TT MM EE LamX
theorem Tabs_but {TL : List (Addr × Str)} {g c : Addr} {H H' : Hp} (hh : Hand g c H) (b : But g H H') (t : Tabs TL H) : Tabs TL H' := fun p hp => by
  obtain ⟨ps, h1, h2, h3⟩ := t p hp
  obtain ⟨_, eg⟩ := hh.lst
  have ne : ∀ {x : Addr} {o : HO}, H x = some o → (∀ ys, o ≠ .lst ys) → x ≠ g := fun {x o} e n z => by subst z; rw [eg] at e; cases e; exact n _ rfl
  refine ⟨ps, b _ _ (ne h1 fun _ z => nomatch z) h1, h2, fun pos cv hc => ?_⟩
  obtain ⟨c', e, e3⟩ := h3 pos cv hc
  have hn : ∀ ys, CodeO c' p.2 ≠ .lst ys := fun ys z => by unfold CodeO at z; cases z
  exact ⟨c', e, b _ _ (ne e3 hn) e3⟩
theorem lam_anyR {mg : Str → Option Value} {TL : List (Addr × Str)} {t : XK → TE} {σ : St} {H : Hp} {Q : VK} (hT : Tabs TL H) (C : Hp → V → Prop) (h : ∀ Q' : VK, (∀ HX v, C HX v → Q' v HX) → ∀ H1, ExtN H H1 → Tabs TL H1 → t (EWordR mg Q') σ H1 fun _ H' => Q' (.str "let") H') (y : ∀ HX v, C HX v → Q v HX) : tLam TL (TWordR mg) t σ H Q := ⟨hT, fun H1 x1 T1 => h Q y H1 x1 T1⟩
theorem hu64s {k : Nat} {A : Around} (r : Room k A) : A.units + 64 < cLine := by have := r.un; omega
theorem thenS {ts : TS} {D : Ends} {σ : St} {H : Hp} (C : St → Hp → Prop) (h : ∀ n : St → Hp → Prop, (∀ σ' H', C σ' H' → n σ' H') → ts { D with nx := n } σ H) (q : ∀ σ' H', C σ' H' → D.nx σ' H') : ts D σ H := h D.nx q
theorem due_eq {K : PySem.W.Frag} {H : Hp} {v w : V} {D : Due} {Q : VK} (h1 : rDue H v D) (h2 : rDue H w D) (q : Q (.bl true) H) : rEqD K v w H Q := by
  have go : ∀ x : Str, SeqAt.shaped (.str x) = true → PyData.eqv (.str x) (.str x) = true → rEqD K (.str x) (.str x) H Q := fun x h e => ⟨_, _, .str _, .str _, h, h, by rw [e]; exact q⟩
  cases D with
  | rows i =>
    obtain ⟨t, rfl, ht⟩ := h1
    obtain ⟨u, rfl, hu⟩ := h2
    have h : SeqAt.shaped (.tuple [.str "rows", .int i]) = true := by
      unfold SeqAt.shaped
      rw [Bool.and_eq_true, decide_eq_true_iff]
      exact ⟨by simp [PyData.canLay0, PyData.canLayAll0]; try decide +kernel, by simp [PyData.depth, PyData.depthAll]⟩
    have e : PyData.eqv (.tuple [.str "rows", .int i]) (.tuple [.str "rows", .int i]) = true := by simp [PyData.eqv, PyData.eqvAll]
    exact ⟨_, _, .tup (.of ht) (.cons (.str _) (.cons (.int _) .nil)), .tup (.of hu) (.cons (.str _) (.cons (.int _) .nil)), h, h, by rw [e]; exact q⟩
  | «let» => cases h1; cases h2; exact go _ (by decide +kernel) (by decide +kernel)
  | clock => cases h1; cases h2; exact go _ (by decide +kernel) (by decide +kernel)
  | number => cases h1; cases h2; exact go _ (by decide +kernel) (by decide +kernel)
  | row => cases h1; cases h2; exact go _ (by decide +kernel) (by decide +kernel)
section
variable {P : Program} {w : World} {K : PySem.W.Frag} {mg : Str → Option Value} {base : Heap} {cT cS : Addr}
def spSqR (TL : List (Addr × Str)) : Sp := fun vs H Q _ => ∃ (g c : Addr), vs = [.ref g] ∧ Hand g c H ∧ Tabs TL H ∧ ∀ H', ButN g H H' → Hand g c H' → Tabs TL H' → Q (.bl true) H'
theorem ok_sqR (T : Tx K mg cT cS) {f : Addr} {fd : FuncData} (d : D K mg "_law_square_refused" s_law_square_refused ["hand"] f fd) {TL : List (Addr × Str)} {c Pt : Addr} (L : LamD mg base "_law_square_refused" fd c Pt TL) : FnOk P w K mg base CX0 12 f fd ["hand"] (spSqR TL) := by
  obtain ⟨f1, fd1, d1⟩ := T.d_law_clock
  have G1 := ok_clock (P := P) (w := w) (base := base) T d1
  obtain ⟨f2, fd2, d2⟩ := T.d_law_draw
  have G2 := ok_draw (P := P) (w := w) (base := base) T d2
  obtain ⟨f3, fd3, d3⟩ := T.d_law_some_rows
  have G3 := ok_some_rows (P := P) (w := w) (base := base) T d3
  obtain ⟨f4, fd4, d4⟩ := T.d_law_any
  have G4 := ok_any (P := P) (w := w) (base := base) T d4
  obtain ⟨f5, fd5, d5⟩ := T.d_law_bent_rows
  have G5 := ok_bent_rows (P := P) (w := w) (base := base) T d5
  obtain ⟨f6, fd6, d6⟩ := T.d_determinant
  have G6 := ok_detT (P := P) (w := w) (base := base) T d6
  obtain ⟨f7, fd7, d7⟩ := T.d_law_square_due
  have G7 := ok_sqDue (P := P) (w := w) (base := base) T d7
  obtain ⟨fW, fdW, dW⟩ := T.d_law_row_refusal
  refine d.F.okT L.code sc_law_square_refused (fun vs H Q E h => ?_) (fun A outer s H vs Q E hr h => ?_)
  · obtain ⟨g, ch, rfl, _⟩ := h
    rfl
  · obtain ⟨g, ch, rfl, hh, hT, q⟩ := h
    refine ⟨_, pss_cons (ps_asg (pe_tup (pa_cons (pe_call G1 (hr.mono (by decide)) rfl d1.m d1.F.kp d1.b .nil pass0 (pa_cons (pv 0) pa_nil)) (pa_cons (pe_call G2 (hr.mono (by decide)) rfl d2.m d2.F.kp d2.b .nil pass0 (pa_cons (pv 0) (pa_cons pe_int pa_nil))) pa_nil))) (pg_tup rfl (pgs_cons (pg_name (i := 2) sc_law_square_refused.nd rfl (.inr rfl)) (pgs_cons (pg_name (i := 1) sc_law_square_refused.nd rfl (.inl rfl)) pgs_nil))))
      (pss_cons (ps_set (i := 3) sc_law_square_refused.nd rfl (.inr rfl) (pe_callTy call_tuple_of (by rfl) T.b_tuple (by decide +kernel) (pa_cons (pe_call G3 (hr.mono (by decide)) rfl d3.m d3.F.kp d3.b .nil pass0 (pa_cons (pv 0) (pa_cons (pv 2) (pa_cons (pv 1) (pa_cons (pv 1) pa_nil))))) pa_nil)))
      (pss_cons (ps_if (pt_cmpR op_eq (pe_call G2 (hr.mono (by decide)) rfl d2.m d2.F.kp d2.b .nil pass0 (pa_cons (pv 0) (pa_cons pe_int pa_nil))) pe_int (nomark _)) (pss_one (ps_set (i := 2) sc_law_square_refused.nd rfl (.inr rfl) (pe_call G4 (hr.mono (by decide)) rfl d4.m d4.F.kp d4.b .nil pass0 (pa_cons (pv 0) (pa_cons (pe_lst (pa_cons pe_int (pa_cons pe_int (pa_cons pe_int (pa_cons (pe_un un_neg pe_int) (pa_cons pe_int (pa_cons pe_bl (pa_cons pe_non (pa_cons pe_str (pa_cons (pe_op op_pow pe_int pe_int) (pa_cons pe_int pa_nil))))))))))) pa_nil))))) (pss_one (ps_if (pt_cmpR op_gt (pe_call G2 (hr.mono (by decide)) rfl d2.m d2.F.kp d2.b .nil pass0 (pa_cons (pv 0) (pa_cons pe_int pa_nil))) pe_int (nomark _)) (pss_one (ps_set (i := 3) sc_law_square_refused.nd rfl (.inr rfl) (pe_call G4 (hr.mono (by decide)) rfl d4.m d4.F.kp d4.b .nil pass0 (pa_cons (pv 0) (pa_cons (pe_lst (pa_cons (pe_call G5 (hr.mono (by decide)) rfl d5.m d5.F.kp d5.b .nil pass0 (pa_cons (pv 0) (pa_cons (pv 2) (pa_cons (pv 1) (pa_cons (pv 3) pa_nil))))) (pa_cons (pe_slice sl_tupA (pv 3) (po_some pe_int) po_none) (pa_cons (pe_op op_catA (pv 3) (pe_tup (pa_cons (pe_op op_repA (pe_tup (pa_cons pe_int pa_nil)) (pv 1)) pa_nil))) (pa_cons (pe_op op_repA (pe_tup (pa_cons pe_int pa_nil)) pe_int) pa_nil))))) pa_nil))))) pss_nil)))
      (pss_one (ps_ret (pe_cmpR (op_eqD (hu64s hr)) (pe_lamD (X := (cxOf CX0 P w K mg base N_law_square_refused "_law_square_refused" (defScope s_law_square_refused) f (.ref c) A outer s H E).nox) (x := "_law_square_refused") (st := s_law_row_refusal) (Ng := N_law_row_refusal) (k := 7) (TT := TWordR mg) dW L rfl sc_law_row_refusal rfl (.inl rfl) (fun cdv => word_gives T (hr.mono (by decide)) rfl rfl) rfl rfl (hr.mono (by decide)) (lamS_by (sc := defScope s_law_square_refused) (by decide +kernel)) rfl (fun _ _ _ _ _ => rfl) (fun A2 outer2 s2 H2 E2 f2 c2 hr2 => (pe_call G6 (hr2.mono (by decide)) rfl d6.m d6.F.kp d6.b .nil (passes_call (takes_of rfl rfl rfl rfl) (fun _ _ _ _ h => h)) (pa_cons (pv 2) (pa_cons (pv 3) pa_nil))))) (pe_call G7 (hr.mono (by decide)) rfl d7.m d7.F.kp d7.b .nil pass0 (pa_cons (pv 2) (pa_cons (pv 3) pa_nil))) (nomark _)))))), ?_⟩
    have wnat : ∀ a : Int, 0 ≤ a → ∃ k : Nat, a = (k : Int) := fun a h => ⟨a.toNat, by omega⟩
    dsimp only [gName, tSeq, tAsg]
    refine ⟨_, rfl, g, ch, rfl, hh, fun H1 p b1 h1 nd pm => ⟨_, rfl, g, ch, 5, rfl, by omega, by omega, h1, fun H2 wd_ b2 h2 w0 w1 => ⟨by show 2 ≤ sizeLine; decide, fun t nt => ?_⟩⟩⟩
    obtain ⟨wd, rfl⟩ := wnat wd_ w0
    have st := same_new (o := .tup [V.int p, V.int (wd : Int)]) nt
    have h2t := h2.same st
    refine ⟨t, _, rfl, .of upd_same, rfl, _, _, rfl, _, _, rfl, rfl, ?_⟩
    dsimp only [gCons, gNil, gName, tSeq, tAsg]
    refine ⟨_, rfl, _, rfl, _, rfl, _, rfl, g, ch, p, wd, wd, rfl, nd.1, pm, by omega, by omega, h2t, fun H3 r xs rws b3 h3 rn rg rc hr3 hp hl hrow => ⟨r, xs, rfl, .inl ⟨.of hr3, fun tr ntr => ?_⟩⟩⟩
    have st3 := same_new (o := .tup xs) ntr
    have h4 := h3.same st3
    have B : But g H (upd H3 tr (.tup xs)) := (((b1.trans b2).trans (st.but g)).trans b3).trans (st3.but g)
    have htr := upd_same (H := H3) (a := tr) (o := .tup xs)
    have hp4 : Paired (rRow (upd H3 tr (.tup xs))) xs rws := paired_mono mono_row (h3.keep (st3.but g)) hp
    generalize upd H3 tr (.tup xs) = H4 at *
    have hlx := paired_len hp4
    have txs : ∀ {H5 : Hp}, But g H4 H5 → ∀ x ∈ xs, Th g H5 1 x := fun {H5} b x hx' => by
      obtain ⟨i, hi⟩ := List.getElem?_of_mem hx'
      obtain ⟨l', hl1, hl2⟩ := paired_get hp4 hi
      exact (row_th h4 hl2 (by have := (hrow l' (List.mem_of_getElem? hl1)).1; omega) 0).but b
    have tR : ∀ {H5 : Hp}, But g H4 H5 → ThS g H5 (.ref tr) := fun {H5} b => (ThS.tups h4 htr (by omega) (txs (fun x o _ h => h))).but b
    dsimp only [gName, tSeq, tAsg]
    refine thenS (fun σ' H' => ∃ pv rows, σ' = [some (.ref g), some (.int (wd : Int)), some pv, some rows] ∧ But g H4 H' ∧ Hand g ch H' ∧ Th g H' 0 pv ∧ ThS g H' rows) ?_ ?_
    · intro n kk
      refine ⟨_, rfl, g, ch, 3, rfl, by omega, by omega, h4, fun H5 x b5 h5 x0 x1 => ?_⟩
      refine ⟨rfl, _, rfl, ite2 (fun _ => ?_) (fun _ => ?_)⟩
      · refine ⟨_, rfl, _, rfl, _, _, rfl, rfl, ⟨by decide, by decide, by decide⟩, by show 10 ≤ sizeLine; decide, fun l0 nl0 => ?_⟩
        refine ⟨g, ch, l0, _, rfl, upd_same, (hand_newK h5 nl0).1, by show 0 < 10; decide, by show 10 < 1000000; decide, h5.same (same_new nl0), fun H' i x b h' hx' => kk _ _ ⟨x, .ref tr, rfl, (b5.trans ((same_new nl0).but g)).trans b, h', ?_, tR ((b5.trans ((same_new nl0).but g)).trans b)⟩⟩
        have hm := List.mem_of_getElem? hx'
        clear hx'
        revert x hm
        refine fc ?_ (fc ?_ (fc ?_ (fc ?_ (fc ?_ (fc ?_ (fc ?_ (fc ?_ (fc ?_ (fc ?_ fn0)))))))))
        all_goals first | (refine th_flat ?_; exact True.intro) | skip
      refine ⟨_, rfl, g, ch, 4, rfl, by omega, by omega, h5, fun H6 x b6 h6 x0 x1 => ?_⟩
      have b46 := b5.trans b6
      refine ⟨_, _, rfl, rfl, _, rfl, ite2 (fun _ => ?_) (fun _ => ?_)⟩
      · refine ⟨_, rfl, _, rfl, _, rfl, _, rfl, _, rfl, g, ch, tr, p, wd, xs, rws, rfl, nd.1, pm, by omega, b46 _ _ (not_g h4 htr) htr, paired_mono mono_row (h4.keep b46) hp4, by omega, fun l' hl' => by have := (hrow l' hl').1; omega, h6, fun H7 bv b7 h7 tbv => ?_⟩
        have b47 := b46.trans b7
        have ht7 := b47 _ _ (not_g h4 htr) htr
        refine ⟨_, rfl, ?_⟩
        dsimp only [tNoPart]
        refine ⟨_, rfl, ?_⟩
        dsimp only [tNoPart]
        refine slice_fromA (k := 1) ht7 fun H8 q1 z1 e1 => ?_
        refine ⟨_, rfl, by show 1 ≤ sizeLine; decide, fun p2 n2 => ⟨_, rfl, ?_⟩⟩
        refine zeros upd_same (by omega) fun H9 zv z2 hz => ?_
        refine ⟨by show 1 ≤ sizeLine; decide, fun p3 n3 => ?_⟩
        refine cat_ofB ((((z1.trans (same_new n2)).trans z2).trans (same_new n3)) _ _ ht7) upd_same (by show _ + 1 ≤ 10000; omega) fun H10 q2 z3 e3 => ?_
        refine ⟨by show 1 ≤ sizeLine; decide, fun p4 n4 => ?_⟩
        have y2 := same_new (o := .tup [V.int 0]) n2
        have y3 := same_new (o := .tup [zv]) n3
        have y4 := same_new (o := .tup [V.int 0]) n4
        dsimp only [tC]
        refine rep_ofB (k := 61) upd_same (by omega) fun H12 q3 z4 e4 => ⟨by show 4 ≤ sizeLine; decide, fun l0 nl0 => ?_⟩
        have y5 := same_new (o := .lst [bv, V.ref q1, V.ref q2, V.ref q3]) nl0
        have h8 := h7.same z1
        have h9 := (h8.same y2).same z2
        have h10 := (h9.same y3).same z3
        have h12 := (h10.same y4).same z4
        refine ⟨g, ch, l0, _, rfl, upd_same, (hand_newK h12 nl0).1, by show 0 < 4; decide, by show 4 < 1000000; decide, h12.same y5, fun H' i x b h' hx' => ?_⟩
        have B12 := (y5.but g).trans b
        have B10 := ((y4.trans z4).but g).trans B12
        have B9 := ((y3.trans z3).but g).trans B10
        have B8 := ((y2.trans z2).but g).trans B9
        have B7 := (z1.but g).trans B8
        refine kk _ _ ⟨.int p, x, rfl, b47.trans B7, h', th_flat (v := .int p) True.intro, ?_⟩
        have hm := List.mem_of_getElem? hx'
        clear hx'
        revert x hm
        refine fc (tbv.but B7) (fc ?_ (fc ?_ (fc ?_ fn0)))
        · exact (ThS.tups h8 e1 (by rw [List.length_drop]; omega) fun x hx' => (txs b47 x (List.mem_of_mem_drop hx')).same z1).but B8
        · refine (ThS.tups h10 e3 (by rw [List.length_append]; show _ + 1 ≤ 1000; omega) fun x hx' => ?_).but B10
          rcases List.mem_append.mp hx' with h | h
          · exact (txs b47 x h).same (((z1.trans y2).trans z2).trans (y3.trans z3))
          · rw [List.mem_singleton.mp h]
            exact (row_th h9 hz (by rw [List.length_replicate]; omega) 0).same (y3.trans z3)
        · refine (ThS.tups h12 e4 (by rw [List.length_replicate]; omega) fun x hx' => ?_).but B12
          rw [List.eq_of_mem_replicate hx']; exact th_flat (v := V.int 0) True.intro
      · exact kk _ _ ⟨.int p, .ref tr, rfl, b46, h6, th_flat (v := .int p) True.intro, tR b46⟩
    rintro σ' H5 ⟨pv, rows, rfl, b5, h5, tp, tr5⟩
    have T5 := Tabs_but hh (B.trans b5) hT
    dsimp only [tRet]
    refine lam_anyR T5 (fun HX v => ExtN H5 HX ∧ Tabs TL HX ∧ rDue HX v (sqD H5 pv rows)) (fun Q' rest H6 x6 T6 => ?_) ?_
    · have t6 := tr5.butN (ExtN.bn (g := g) x6)
      have e6 := sqD_n (p := pv) tr5 (ExtN.bn (g := g) x6)
      refine ⟨_, rfl, _, rfl, g, pv, rows, rfl, tp.butN (ExtN.bn x6), t6, fun hlet H' v s => ?_, ?_⟩
      · refine rest _ _ ⟨x6.trans s.extN, S4.Tabs.same T6 s, ?_⟩
        rw [← e6, hlet]; rfl
      · exact errD_word (fun HX v s d => rest _ _ ⟨x6.trans s.extN, S4.Tabs.same T6 s, by rw [← e6]; exact d⟩) fun i h => sqD_i h
    rintro H6 v6 ⟨x6, T6, d6⟩
    have t6 := tr5.butN (ExtN.bn (g := g) x6)
    have e6 := sqD_n (p := pv) tr5 (ExtN.bn (g := g) x6)
    refine ⟨_, rfl, _, rfl, g, pv, rows, rfl, tp.butN (ExtN.bn x6), t6, fun H7 v7 s7 d7 => ?_⟩
    rw [e6] at d7
    refine due_eq (d6.keep (s7.keep)) d7 ?_
    exact q _ (((S4.But.n (B.trans b5)).trans (ExtN.bn x6)).trans (S4.But.n (s7.but g))) ((h5.extN x6).same s7) (S4.Tabs.same T6 s7)
end
end S4

/-! what is due of rows, behind a lambda -/
namespace S4
open PySem L2 TT MM LamX
theorem eachD_n {g : Addr} {H H' : Hp} {most : Nat} {p wd : Int} {rows : V} (t : ThS g H rows) (b : ButN g H H') : eachD most p wd H' rows = eachD most p wd H rows := by
  unfold eachD
  rw [t.seqOfN b]
  cases e : seqOf H rows with
  | none => rfl
  | some xs => simp only [fstBad_n (t.mem e).2 b]
theorem eachD_i {most : Nat} (hm : most ≤ 300) {H : Hp} {p wd : Int} {rows : V} {i : Int} (h : eachD most p wd H rows = .rows i) : -1 ≤ i ∧ i ≤ 300 := by
  unfold eachD at h
  split at h
  · cases h; omega
  · split at h
    · cases h; omega
    · unfold dueOf at h
      split at h
      · rename_i j hj
        have := fstBad_lt hj
        cases h; omega
      · cases h
theorem rowsD_n {g : Addr} {H H' : Hp} {p wd rows : V} (t : ThS g H rows) (b : ButN g H H') : rowsD H' p wd rows = rowsD H p wd rows := by
  unfold rowsD
  rw [eachD_n t b]
theorem rowsD_i {H : Hp} {p wd rows : V} {i : Int} (h : rowsD H p wd rows = .rows i) : -1 ≤ i ∧ i ≤ 300 := by
  unfold rowsD at h
  split at h
  · split at h
    · exact eachD_i (by omega) h
    · cases h
  · cases h
theorem rowD_n {g : Addr} {H H' : Hp} {p wd rows row : V} (t : ThS g H rows) (tw : Th g H 1 row) (b : ButN g H H') : rowD H' p wd rows row = rowD H p wd rows row := by
  unfold rowD
  rw [rowsD_n t b, rowB_n tw b]
theorem rowD_i {H : Hp} {p wd rows row : V} {i : Int} (h : rowD H p wd rows row = .rows i) : -1 ≤ i ∧ i ≤ 300 := by
  unfold rowD at h
  split at h
  · split at h <;> cases h
  · exact rowsD_i h
end S4

/-! a mixture of a tuple of rows; a row drawn beside a tuple of rows -/
namespace S4
open PySem L2 TT MM
section
variable {P : Program} {w : World} {K : PySem.W.Frag} {mg : Str → Option Value} {base : Heap} {cT cS : Addr}
def spSummedT : Sp := fun vs H Q _ => ∃ (a b : Addr) (p : Int) (wd : Nat) (xs : List V) (rws : List (List Int)) (ms : List Int), vs = [.int p, .int (wd : Int), .ref a, .ref b] ∧ 0 < p ∧ wd ≤ 1000 ∧ H a = some (.tup xs) ∧ Paired (rRow H) xs rws ∧ (∀ r ∈ rws, r.length = wd) ∧
  H b = some (.lst (ms.map V.int)) ∧ (∀ m ∈ ms, -(2 ^ 63) < m ∧ m < 2 ^ 63) ∧ ∀ H' v' l, Same H H' → rRow H' v' l → isRow l p wd → Q v' H'
theorem ok_summedT (T : Tx K mg cT cS) {f : Addr} {fd : FuncData} (d : D K mg "_law_summed" s_law_summed ["p", "wide", "rows", "many"] f fd) : FnOk P w K mg base CX0 2 f fd ["p", "wide", "rows", "many"] spSummedT := by
  obtain ⟨f1, fd1, d1⟩ := T.d_law_less
  have G1 : FnOk P w K mg base CX0 1 f1 fd1 ["p", "row", "other", "many"] spLess := ok_less T d1
  refine d.F.ok sc_law_summed (fun vs H Q E h => ?_) (fun cdv A outer s H vs Q E hr h => ?_)
  · obtain ⟨a, b, p, wd, xs, rws, ms, rfl, _⟩ := h
    rfl
  · obtain ⟨a, b, p, wd, xs, rws, ms, rfl, p0, hw, ha, hp, hrw, hb, hms, q⟩ := h
    refine ⟨_, pss_cons (ps_set (i := 4) sc_law_summed.nd rfl (.inl rfl) (pe_op op_repA (pe_tup (pa_cons pe_int pa_nil)) (pv 1)))
      (pss_cons (ps_for PassesOwn.never rfl (pi_zipM (by rfl) T.b_zip (pa_cons (pv 2) (pa_cons (pv 3) pa_nil))) (pg_tup rfl (pgs_cons (pg_name (i := 5) sc_law_summed.nd rfl (.inl rfl)) (pgs_cons (pg_name (i := 6) sc_law_summed.nd rfl (.inl rfl)) pgs_nil)))
        (pss_one (ps_set (i := 4) sc_law_summed.nd rfl (.inl rfl) (pe_ifExp (pt_cmpR op_ne (pv 6) pe_int (nomark _)) (pe_call G1 hr rfl d1.m d1.F.kp d1.b .nil pass0 (pa_cons (pv 0) (pa_cons (pv 4) (pa_cons (pv 5) (pa_cons (pe_un un_neg (pv 6)) pa_nil))))) (pv 4)))))
      (pss_one (ps_ret (pv 4)))), ?_⟩
    refine ⟨by show 1 ≤ sizeLine; decide, fun t nt => ⟨_, rfl, ?_⟩⟩
    refine zeros upd_same hw fun H2 v2 s2 hrow2 => ?_
    have s02 := (same_new nt).trans s2
    dsimp only [gName, tSeq]
    refine ⟨_, rfl, _, rfl, a, b, _, _, false, true, rfl, (SqT.of (s02 _ _ ha) : SqT K _ _ _), (SqL.of (s02 _ _ hb) : SqL K _ _ _), ?_⟩
    refine for_it (walk_zipM (n := min xs.length (ms.map V.int).length) rfl) (fun i σ H' => Same H H' ∧ ∃ (v : V) (l : List Int) (x y : Option V), σ = [some (.int p), some (.int (wd : Int)), some (.ref a), some (.ref b), some v, x, y] ∧ rRow H' v l ∧ isRow l p wd)
      ⟨s02, v2, _, none, none, rfl, hrow2, isRow_zeros p0 wd⟩ (fun i σ H' _ h => ⟨(SqT.of (h.1 _ _ ha) : SqT K _ _ _), (SqL.of (h.1 _ _ hb) : SqL K _ _ _)⟩) ?_ ?_
    · rintro i x σ H3 H4 hi ⟨s3, v, l, x1, x2, rfl, hrow, hir⟩ ⟨tz, u1, u2, rfl, nz, rfl, e1, e2⟩
      have s4 := same_new (o := .tup [u1, u2]) nz
      obtain ⟨r, hr1, hrr⟩ := paired_get (paired_mono mono_row (s3.trans s4).keep hp) e1
      obtain ⟨m, hm, rfl⟩ := at_int e2
      have hmb := hms m (List.mem_of_getElem? hm)
      have hrl := hrw r (List.mem_of_getElem? hr1)
      have hll := hir.1
      refine ⟨tz, _, rfl, .of upd_same, rfl, _, _, rfl, _, _, rfl, rfl, ?_⟩
      refine ⟨_, rfl, rfl, _, rfl, ?_⟩
      by_cases hz : m = 0
      · subst hz
        rw [decide_eq_true rfl]
        exact iteF ⟨_, rfl, s3.trans s4, v, l, _, _, rfl, mono_row _ _ _ _ s4.keep hrow, hir⟩
      · rw [decide_eq_false (fun e => hz (V.int.inj e))]
        refine iteT ⟨_, rfl, _, rfl, _, rfl, _, rfl, m, rfl, v, u1, p, -m, l, r, rfl, p0, ⟨by omega, by omega⟩, mono_row _ _ _ _ s4.keep hrow, hrr, by omega, by omega, fun H5 v5 l5 s5 hrow5 hl5 hb5 => ?_⟩
        exact ⟨(s3.trans s4).trans s5, v5, l5, _, _, rfl, hrow5, by rw [hl5]; omega, hb5⟩
    · rintro σ H3 ⟨s3, v, l, x1, x2, rfl, hrow, hir⟩
      exact ⟨_, rfl, q _ _ l s3 hrow hir⟩
def spSomeRowT : Sp := fun vs H Q _ => ∃ (g c a : Addr) (p : Int) (wd : Nat) (xs : List V) (rws : List (List Int)), vs = [.ref g, .int p, .int (wd : Int), .ref a] ∧ 2 ≤ p ∧ p ≤ 999983 ∧ wd ≤ 1000 ∧ H a = some (.tup xs) ∧ a ≠ g ∧ Paired (rRow H) xs rws ∧ rws.length ≤ 1000 ∧ (∀ r ∈ rws, isRow r p wd) ∧
  Hand g c H ∧ ∀ H' v l, But g H H' → Hand g c H' → rRow H' v l → isRow l p wd → Q v H'
theorem ok_some_rowT (T : Tx K mg cT cS) {f : Addr} {fd : FuncData} (d : D K mg "_law_some_row" s_law_some_row ["hand", "p", "wide", "rows"] f fd) : FnOk P w K mg base CX0 3 f fd ["hand", "p", "wide", "rows"] spSomeRowT := by
  obtain ⟨f1, fd1, d1⟩ := T.d_law_draw
  have G1 : FnOk P w K mg base CX0 1 f1 fd1 ["hand", "many"] spDraw := ok_draw T d1
  obtain ⟨f2, fd2, d2⟩ := T.d_law_any
  have G2 : FnOk P w K mg base CX0 2 f2 fd2 ["hand", "items"] spAny := ok_any T d2
  obtain ⟨f3, fd3, d3⟩ := T.d_law_summed
  have G3 : FnOk P w K mg base CX0 2 f3 fd3 ["p", "wide", "rows", "many"] spSummedT := ok_summedT T d3
  refine d.F.ok sc_law_some_row (fun vs H Q E h => ?_) (fun cdv A outer s H vs Q E hr h => ?_)
  · obtain ⟨g, c, a, p, wd, xs, rws, rfl, _⟩ := h
    rfl
  · obtain ⟨g, c, a, p, wd, xs, rws, rfl, p2, pm, hwd, ha, hag, hp, hrl, hrw, hh, q⟩ := h
    refine ⟨_, pss_cons (ps_set (i := 4) sc_law_some_row.nd rfl (.inl rfl) (pe_call G1 (hr.mono (by decide)) rfl d1.m d1.F.kp d1.b .nil pass0 (pa_cons (pv 0) (pa_cons pe_int pa_nil))))
      (pss_cons (ps_if (pt_cmpR op_eq (pv 4) pe_int (nomark _)) (pss_one (ps_ret (pe_op op_repA (pe_tup (pa_cons pe_int pa_nil)) (pv 2)))) pss_nil)
      (pss_cons (ps_if (PW.pt (pw_and (pt_cmpR op_lt (pv 4) pe_int (nomark _)) (pw_and1 (pt_cmpR op_gt (pv 2) pe_int (nomark _)))))
        (pss_cons (ps_set (i := 5) sc_law_some_row.nd rfl (.inr rfl) (pe_call G1 (hr.mono (by decide)) rfl d1.m d1.F.kp d1.b .nil pass0 (pa_cons (pv 0) (pa_cons (pv 2) pa_nil))))
          (pss_one (ps_ret (pe_callTy call_tuple_of (by rfl) T.b_tuple (by decide +kernel) (pa_cons
            (pe_lc (own := [("place", 7)]) (g := gName 7) (tt := tYes) rfl sc_law_some_row.nd (pi_range1 rfl T.b_range (pa_cons (pv 2) pa_nil)) (blkOk_by (N := N_law_some_row) (sc := defScope s_law_some_row) (by decide +kernel))
              (fun _ _ _ _ _ => pg_name (i := 7) sc_law_some_row.nd rfl (Or.inl rfl)) (fun _ _ _ _ _ => pts_nil)
              (fun _ _ _ _ _ => pe_ifExp (pt_cmpR op_eq (pv 7) (pv 5) (nomark _)) (pe_op op_add pe_int (pe_call G1 (hr.mono (by decide)) rfl d1.m d1.F.kp d1.b .nil pass0 (pa_cons (pv 0) (pa_cons (pe_op op_sub (pv 1) pe_int) pa_nil)))) pe_int)) pa_nil))))) pss_nil)
      (pss_cons (ps_if (PW.pt (pw_and (pt_cmpR op_lt (pv 4) pe_int (nomark _)) (pw_and1 (pt_cmpR op_gt (pe_callB call_len_seq (by rfl) T.b_len PySem.boot_len (pa_cons (pv 3) pa_nil)) pe_int (nomark _)))))
        (pss_cons (ps_setLc (i := 6) (own := [("row", 8)]) (g := gName 8) (tt := tYes) rfl sc_law_some_row.nd rfl rfl (sw_true rfl rfl rfl rfl) (pi_tup (pv 3)) (blkOk_by (N := N_law_some_row) (sc := defScope s_law_some_row) (by decide +kernel))
              (fun _ _ _ _ _ => pg_name (i := 8) sc_law_some_row.nd rfl (Or.inl rfl)) (fun _ _ _ _ _ => pts_nil)
              (fun _ _ _ _ _ => pe_call G2 hr rfl d2.m d2.F.kp d2.b .nil pass0 (pa_cons (pv 0) (pa_cons (pe_lst (pa_cons pe_int (pa_cons pe_int (pa_cons (pe_op op_sub (pv 1) pe_int) (pa_cons (pe_call G1 (hr.mono (by decide)) rfl d1.m d1.F.kp d1.b .nil pass0 (pa_cons (pv 0) (pa_cons (pv 1) pa_nil))) pa_nil))))) pa_nil))))
          (pss_one (ps_ret (pe_call G3 hr rfl d3.m d3.F.kp d3.b .nil pass0 (pa_cons (pv 1) (pa_cons (pv 2) (pa_cons (pv 3) (pa_cons (pv 6) pa_nil)))))))) pss_nil)
      (pss_cons (ps_if (pt_cmpR op_eq (pv 4) pe_int (nomark _))
        (pss_one (ps_ret (pe_callTy call_tuple_of (by rfl) T.b_tuple (by decide +kernel) (pa_cons
            (pe_lc (own := [("place", 7)]) (g := gName 7) (tt := tYes) rfl sc_law_some_row.nd (pi_range1 rfl T.b_range (pa_cons (pv 2) pa_nil)) (blkOk_by (N := N_law_some_row) (sc := defScope s_law_some_row) (by decide +kernel))
              (fun _ _ _ _ _ => pg_name (i := 7) sc_law_some_row.nd rfl (Or.inl rfl)) (fun _ _ _ _ _ => pts_nil)
              (fun _ _ _ _ _ => pe_ifExp (pt_cmpR op_eq (pe_call G1 (hr.mono (by decide)) rfl d1.m d1.F.kp d1.b .nil pass0 (pa_cons (pv 0) (pa_cons pe_int pa_nil))) pe_int (nomark _)) (pe_call G1 (hr.mono (by decide)) rfl d1.m d1.F.kp d1.b .nil pass0 (pa_cons (pv 0) (pa_cons (pv 1) pa_nil))) pe_int)) pa_nil)))) pss_nil)
      (pss_one (ps_ret (pe_callTy call_tuple_of (by rfl) T.b_tuple (by decide +kernel) (pa_cons
            (pe_lc (own := [("place", 7)]) (g := gName 7) (tt := tYes) rfl sc_law_some_row.nd (pi_range1 rfl T.b_range (pa_cons (pv 2) pa_nil)) (blkOk_by (N := N_law_some_row) (sc := defScope s_law_some_row) (by decide +kernel))
              (fun _ _ _ _ _ => pg_name (i := 7) sc_law_some_row.nd rfl (Or.inl rfl)) (fun _ _ _ _ _ => pts_nil)
              (fun _ _ _ _ _ => pe_call G1 (hr.mono (by decide)) rfl d1.m d1.F.kp d1.b .nil pass0 (pa_cons (pv 0) (pa_cons (pv 1) pa_nil)))) pa_nil)))))))), ?_⟩
    refine ⟨_, rfl, g, c, 8, rfl, by decide, by decide, hh, fun H2 kind b2 hh2 k0 k1 => ?_⟩
    dsimp only [gName, tSeq]
    have ha2 : H2 a = some (.tup xs) := b2 _ _ hag ha
    have hp2 : Paired (rRow H2) xs rws := paired_mono mono_row (hh.keep b2) hp
    have hlen := paired_len hp
    refine ⟨_, rfl, rfl, _, rfl, ?_⟩
    by_cases hk0 : kind = 0
    · rw [decide_eq_true (congrArg V.int hk0)]
      refine iteT ⟨by show 1 ≤ sizeLine; decide, fun t nt => ⟨_, rfl, zeros upd_same hwd fun H3 v3 s3 hrow3 => ?_⟩⟩
      have s23 := (same_new nt).trans s3
      exact q _ v3 _ (b2.trans (s23.but g)) (hh2.same s23) hrow3 (isRow_zeros (by omega) wd)
    rw [decide_eq_false (fun e => hk0 (V.int.inj e))]
    refine iteF ⟨_, rfl, _, _, rfl, rfl, _, rfl, ?_⟩
    have b02 := b2
    -- the drawn rows, whatever the numbers are
    have fin : ∀ (H3 H4 : Hp) (D : Addr), But g H H3 → PvDr rInt (fun x => 0 ≤ x ∧ x < p) g c D H3 (((wd : Nat) : Int).toNat) H4 → ∃ (l : List Int), H4 D = some (.lst (l.map V.int)) ∧ ∀ t, H4 t = none → Q (.ref t) (upd H4 t (.tup (l.map V.int))) := by
      intro H3 H4 D b3 pv
      obtain ⟨b4, hh4, ys, l, hD4, hp4, hl4, hf4⟩ := pv
      have := paired_int hp4
      subst this
      refine ⟨l, hD4, fun t nt => ?_⟩
      exact q _ _ l ((b3.trans b4).trans ((same_new nt).but g)) (hh4.same (same_new nt)) ⟨t, rfl, upd_same⟩ ⟨by rw [hl4, Int.toNat_natCast], hf4⟩
    apply twice
    · intro rest
      by_cases h3 : kind < 3
      · rw [decide_eq_true h3]
        refine iteT ⟨_, rfl, _, _, rfl, rfl, _, rfl, ?_⟩
        by_cases hw0 : 0 < wd
        · clear rest
          rw [decide_eq_true (by omega)]
          refine iteT ⟨_, rfl, _, rfl, g, c, (wd : Int), rfl, by omega, by omega, hh2, fun H3 at_ b3 hh3 a0 a1 => ?_⟩
          dsimp only [gName, tSeq]
          refine ⟨_, rfl, _, rfl, by omega, by omega, fun D hD => ?_⟩
          refine walk_W (walk_range (lo := 0) (n := ((wd : Nat) : Int).toNat)) _ (PvDr rInt (fun x => 0 ≤ x ∧ x < p) g c D H3) (dr_start hh3 hD) (fun i H' _ h => trivial) ?_ ?_
          · rintro i x H4 H5 hi pv ⟨rfl, rfl⟩
            rw [Int.toNat_natCast] at hi
            refine ⟨rfl, _, rfl, _, rfl, rfl, _, rfl, ?_⟩
            by_cases e : 0 + (i : Int) = at_
            · rw [decide_eq_true (congrArg V.int e)]
              refine iteT ⟨_, rfl, _, rfl, _, _, rfl, rfl, g, c, _, rfl, by omega, by omega, pv.2.1, fun H6 n b6 hh6 n0 n1 => ⟨_, _, rfl, rfl, ?_⟩⟩
              exact dr_keep mono_int hh3 pv hD (by omega) b6 hh6 rfl ⟨by omega, by omega⟩
            · rw [decide_eq_false (fun z => e (V.int.inj z))]
              exact iteF (dr_keep mono_int hh3 pv hD (by omega) (But.refl _ _) pv.2.1 rfl ⟨by omega, by omega⟩)
          · intro H4 pv
            obtain ⟨l, hD4, q4⟩ := fin H3 H4 D (b2.trans b3) pv
            exact ⟨D, _, rfl, .inl ⟨.of hD4, q4⟩⟩
        · rw [decide_eq_false (by clear rest; omega)]
          exact iteF rest
      · rw [decide_eq_false h3]
        exact iteF rest
    refine ⟨_, rfl, _, _, rfl, rfl, _, rfl, ?_⟩
    apply twice
    · intro rest
      by_cases h5 : kind < 5
      · rw [decide_eq_true h5]
        refine iteT ⟨_, rfl, _, _, rfl, .inr (.of ha2), _, _, rfl, rfl, _, rfl, ?_⟩
        by_cases hr0 : 0 < xs.length
        · clear rest
          rw [decide_eq_true (by omega)]
          refine iteT ⟨_, rfl, a, rfl, ⟨_, .of ha2⟩, fun D hD => ?_⟩
          refine walk_W (walk_tup (xs := xs)) _ (PvDr rInt (fun x => 0 ≤ x ∧ x < p) g c D H2) (dr_start hh2 hD) (fun i H' _ h => .of (h.1 _ _ hag ha2)) ?_ ?_
          · rintro i x H4 H5 hi pv ⟨rfl, hx⟩
            refine ⟨rfl, _, rfl, _, rfl, _, _, rfl, rfl, _, rfl, _, rfl, g, c, p, rfl, by omega, by omega, pv.2.1, fun H6 n b6 hh6 n0 n1 => ⟨by show 4 ≤ sizeLine; decide, fun b nb => ?_⟩⟩
            have s7 := same_new (o := .lst (([0, 1, p - 1, n] : List Int).map V.int)) nb
            refine ⟨g, c, b, ([0, 1, p - 1, n] : List Int).map V.int, rfl, upd_same, (hand_new hh6 nb).1, by show 0 < 4; decide, by show 4 < 1000000; decide, hh6.same s7, fun H8 j y b8 hh8 hy => ?_⟩
            obtain ⟨m, hm, rfl⟩ := at_int hy
            have hm2 := List.mem_of_getElem? hm
            simp only [List.mem_cons, List.not_mem_nil, or_false] at hm2
            exact dr_keep mono_int hh2 pv hD (by omega) ((b6.trans (s7.but g)).trans b8) hh8 rfl (by omega)
          · intro H4 pv
            obtain ⟨b4, hh4, ys, l, hD4, hp4, hl4, hf4⟩ := pv
            have := paired_int hp4
            subst this
            dsimp only [gName, tSeq]
            refine ⟨_, rfl, _, rfl, _, rfl, _, rfl, a, D, p, wd, xs, rws, l, rfl, by omega, hwd, b4 _ _ hag ha2, paired_mono mono_row (hh2.keep b4) hp2, fun r hr => by have := (hrw r hr).1; omega, hD4, fun m hm => by have := hf4 m hm; omega, fun H5 v5 l5 s5 hrow5 hir => ?_⟩
            exact q _ _ _ ((b2.trans b4).trans (s5.but g)) (hh4.same s5) hrow5 hir
        · rw [decide_eq_false (by clear rest; omega)]
          exact iteF rest
      · rw [decide_eq_false h5]
        exact iteF rest
    refine ⟨_, rfl, rfl, _, rfl, ?_⟩
    by_cases hk5 : kind = 5
    · rw [decide_eq_true (congrArg V.int hk5)]
      refine iteT ⟨_, rfl, _, rfl, by omega, by omega, fun D hD => ?_⟩
      refine walk_W (walk_range (lo := 0) (n := ((wd : Nat) : Int).toNat)) _ (PvDr rInt (fun x => 0 ≤ x ∧ x < p) g c D H2) (dr_start hh2 hD) (fun i H' _ h => trivial) ?_ ?_
      · rintro i x H4 H5 hi pv ⟨rfl, rfl⟩
        rw [Int.toNat_natCast] at hi
        refine ⟨rfl, _, rfl, g, c, 3, rfl, by decide, by decide, pv.2.1, fun H6 n b6 hh6 n0 n1 => ⟨rfl, _, rfl, ?_⟩⟩
        by_cases e : n = 0
        · rw [decide_eq_true (congrArg V.int e)]
          refine iteT ⟨_, rfl, _, rfl, g, c, p, rfl, by omega, by omega, hh6, fun H7 m b7 hh7 m0 m1 => ?_⟩
          exact dr_keep mono_int hh2 pv hD (by omega) (b6.trans b7) hh7 rfl ⟨m0, m1⟩
        · rw [decide_eq_false (fun z => e (V.int.inj z))]
          exact iteF (dr_keep mono_int hh2 pv hD (by omega) b6 hh6 rfl ⟨by omega, by omega⟩)
      · intro H4 pv
        obtain ⟨l, hD4, q4⟩ := fin H2 H4 D b2 pv
        exact ⟨D, _, rfl, .inl ⟨.of hD4, q4⟩⟩
    · rw [decide_eq_false (fun e => hk5 (V.int.inj e))]
      refine iteF ⟨_, rfl, _, rfl, by omega, by omega, fun D hD => ?_⟩
      refine walk_W (walk_range (lo := 0) (n := ((wd : Nat) : Int).toNat)) _ (PvDr rInt (fun x => 0 ≤ x ∧ x < p) g c D H2) (dr_start hh2 hD) (fun i H' _ h => trivial) ?_ ?_
      · rintro i x H4 H5 hi pv ⟨rfl, rfl⟩
        rw [Int.toNat_natCast] at hi
        refine ⟨rfl, _, rfl, _, rfl, g, c, p, rfl, by omega, by omega, pv.2.1, fun H6 n b6 hh6 n0 n1 => ?_⟩
        exact dr_keep mono_int hh2 pv hD (by omega) b6 hh6 rfl ⟨n0, n1⟩
      · intro H4 pv
        obtain ⟨l, hD4, q4⟩ := fin H2 H4 D b2 pv
        exact ⟨D, _, rfl, .inl ⟨.of hD4, q4⟩⟩
end
end S4

/-! what is refused of rows -/
namespace S4
open PySem L2 TT MM EE LamX
theorem Tabs_butL {TL : List (Addr × Str)} {g : Addr} {ys : List V} {H H' : Hp} (eg : H g = some (.lst ys)) (b : But g H H') (t : Tabs TL H) : Tabs TL H' := fun p hp => by
  obtain ⟨ps, h1, h2, h3⟩ := t p hp
  have ne : ∀ {x : Addr} {o : HO}, H x = some o → (∀ ys, o ≠ .lst ys) → x ≠ g := fun {x o} e n z => by subst z; rw [eg] at e; cases e; exact n _ rfl
  refine ⟨ps, b _ _ (ne h1 fun _ z => nomatch z) h1, h2, fun pos cv hc => ?_⟩
  obtain ⟨c', e, e3⟩ := h3 pos cv hc
  have hn : ∀ ys, CodeO c' p.2 ≠ .lst ys := fun ys z => by unfold CodeO at z; cases z
  exact ⟨c', e, b _ _ (ne e3 hn) e3⟩
theorem But.setL (g : Addr) (H : Hp) (o : HO) : But g H (upd H g o) := fun x u n h => by rw [upd_ne n]; exact h
theorem rDue.ext {H H' : Hp} {v : V} {D : Due} (x : ExtN H H') (h : rDue H v D) : rDue H' v D := by
  cases D with
  | rows i => obtain ⟨t, e, h⟩ := h; exact ⟨t, e, x _ _ h fun _ z => nomatch z⟩
  | _ => exact h
theorem rDue.butL {g : Addr} {ys : List V} {H H' : Hp} {v : V} {D : Due} (eg : H g = some (.lst ys)) (b : But g H H') (h : rDue H v D) : rDue H' v D := by
  cases D with
  | rows i => obtain ⟨t, e, h⟩ := h; exact ⟨t, e, b _ _ (fun z => by subst z; rw [eg] at h; cases h) h⟩
  | _ => exact h
def cvDue : Due → PyData
  | .let => .str "let"
  | .clock => .str "clock"
  | .number => .str "number"
  | .row => .str "row"
  | .rows i => .tuple [.str "rows", .int i]
theorem due_dp {K : PySem.W.Frag} {H : Hp} {v : V} {D : Due} (h : rDue H v D) : Dp K H v (cvDue D) := by
  cases D with
  | rows i => obtain ⟨t, rfl, h⟩ := h; exact .tup (.of h) (.cons (.str _) (.cons (.int _) .nil))
  | _ => cases h; exact .str _
theorem due_sh (D : Due) : SeqAt.shaped (cvDue D) = true := by
  cases D with
  | rows i =>
    unfold cvDue SeqAt.shaped
    rw [Bool.and_eq_true, decide_eq_true_iff]
    exact ⟨by simp [PyData.canLay0, PyData.canLayAll0]; try decide +kernel, by simp [PyData.depth, PyData.depthAll]⟩
  | _ => decide +kernel
theorem due_is {K : PySem.W.Frag} {H : Hp} {v : V} {D : Due} {Q : VK} (h1 : rDue H v D) (q1 : D = .let → Q (.bl true) H) (q2 : D ≠ .let → Q (.bl false) H) : rEqD K v (.str "let") H Q := by
  refine ⟨_, _, due_dp h1, .str _, due_sh D, by decide +kernel, ?_⟩
  cases D with
  | «let» => rw [show PyData.eqv (cvDue .let) (.str "let") = true by decide +kernel]; exact q1 rfl
  | clock => rw [show PyData.eqv (cvDue .clock) (.str "let") = false by decide +kernel]; exact q2 (fun z => nomatch z)
  | number => rw [show PyData.eqv (cvDue .number) (.str "let") = false by decide +kernel]; exact q2 (fun z => nomatch z)
  | row => rw [show PyData.eqv (cvDue .row) (.str "let") = false by decide +kernel]; exact q2 (fun z => nomatch z)
  | rows i => rw [show PyData.eqv (cvDue (.rows i)) (.str "let") = false by simp [cvDue, PyData.eqv]]; exact q2 (fun z => nomatch z)
theorem dues_dp {K : PySem.W.Frag} {H : Hp} {D : Due} : ∀ {xs : List V}, (∀ x ∈ xs, rDue H x D) → DpAll K H xs (List.replicate xs.length (cvDue D))
  | [], _ => .nil
  | x :: xs, h => .cons (due_dp (h x (by simp))) (dues_dp fun y hy => h y (by simp [hy]))
theorem dues_sh (D : Due) {n : Nat} (hn : n ≤ 3) : SeqAt.shaped (.list (List.replicate n (cvDue D))) = true := by
  obtain rfl | rfl | rfl | rfl : n = 0 ∨ n = 1 ∨ n = 2 ∨ n = 3 := by omega
  all_goals
    cases D with
    | rows i =>
      unfold cvDue SeqAt.shaped
      rw [Bool.and_eq_true, decide_eq_true_iff]
      exact ⟨by simp [List.replicate, PyData.canLay0, PyData.canLayAll0]; try decide +kernel, by simp [List.replicate, PyData.depth, PyData.depthAll]⟩
    | _ => decide +kernel
theorem dues_eq {K : PySem.W.Frag} {H : Hp} {a b : Addr} {xs ys : List V} {D : Due} {Q : VK} (h1 : H a = some (.lst xs)) (h2 : H b = some (.lst ys)) (p1 : ∀ x ∈ xs, rDue H x D) (p2 : ∀ x ∈ ys, rDue H x D) (hl : xs.length = ys.length) (hn : ys.length ≤ 3) (q : Q (.bl true) H) : rEqD K (.ref a) (.ref b) H Q := by
  refine ⟨_, _, .lst (.of h1) (dues_dp p1), .lst (.of h2) (dues_dp p2), dues_sh D (by omega), dues_sh D hn, ?_⟩
  rw [hl]
  have e : PyData.eqv (.list (List.replicate ys.length (cvDue D))) (.list (List.replicate ys.length (cvDue D))) = true := by
    generalize ys.length = n at *
    obtain rfl | rfl | rfl | rfl : n = 0 ∨ n = 1 ∨ n = 2 ∨ n = 3 := by omega
    all_goals
      cases D with
      | rows i => simp [List.replicate, cvDue, PyData.eqv, PyData.eqvAll]
      | _ => decide +kernel
  rw [e]; exact q
theorem lamR {mg : Str → Option Value} {K : PySem.W.Frag} {TL : List (Addr × Str)} {t : XK → TE} {σ : St} {H : Hp} {g : Addr} {p wd rows : V} {Q : VK} (ht : ∀ E H1 k, spAskR K mg [p, wd, rows] H1 k E → t E σ H1 k) (hT : Tabs TL H)
    (tp : Th g H 0 p) (tw : Th g H 0 wd) (tr : ThS g H rows) (h64 : rowsD H p wd rows = .let → intOf1 wd < 64) (y : ∀ HX v, ExtN H HX → Tabs TL HX → rDue HX v (rowsD H p wd rows) → Q v HX) : tLam TL (TWordR mg) t σ H Q := by
  refine lam_anyR hT (fun HX v => ExtN H HX ∧ Tabs TL HX ∧ rDue HX v (rowsD H p wd rows)) (fun Q' rest H6 x6 T6 => ?_) (fun HX v h => y HX v h.1 h.2.1 h.2.2)
  have t6 := tr.butN (ExtN.bn (g := g) x6)
  have e6 := rowsD_n (p := p) (wd := wd) tr (ExtN.bn (g := g) x6)
  refine ht _ _ _ ⟨g, p, wd, rows, rfl, tp.butN (ExtN.bn x6), tw.butN (ExtN.bn x6), t6, fun h => h64 (e6 ▸ h), fun hlet H' v s => ?_, ?_⟩
  · refine rest _ _ ⟨x6.trans s.extN, S4.Tabs.same T6 s, ?_⟩
    rw [← e6, hlet]; rfl
  · exact errD_word (fun HX v s d => rest _ _ ⟨x6.trans s.extN, S4.Tabs.same T6 s, by rw [← e6]; exact d⟩) fun i h => rowsD_i h
theorem lamW {mg : Str → Option Value} {K : PySem.W.Frag} {TL : List (Addr × Str)} {t : XK → TE} {σ : St} {H : Hp} {g : Addr} {p wd rows row : V} {Q : VK} (ht : ∀ E H1 k, spAskW K mg [p, wd, rows, row] H1 k E → t E σ H1 k) (hT : Tabs TL H)
    (tp : Th g H 0 p) (tw : Th g H 0 wd) (tr : ThS g H rows) (to : Th g H 1 row) (y : ∀ HX v, ExtN H HX → Tabs TL HX → rDue HX v (rowD H p wd rows row) → Q v HX) : tLam TL (TWordR mg) t σ H Q := by
  refine lam_anyR hT (fun HX v => ExtN H HX ∧ Tabs TL HX ∧ rDue HX v (rowD H p wd rows row)) (fun Q' rest H6 x6 T6 => ?_) (fun HX v h => y HX v h.1 h.2.1 h.2.2)
  have t6 := tr.butN (ExtN.bn (g := g) x6)
  have e6 := rowD_n (p := p) (wd := wd) tr to (ExtN.bn (g := g) x6)
  refine ht _ _ _ ⟨g, p, wd, rows, row, rfl, tp.butN (ExtN.bn x6), tw.butN (ExtN.bn x6), t6, to.butN (ExtN.bn x6), fun hlet H' v s => ?_, ?_⟩
  · refine rest _ _ ⟨x6.trans s.extN, S4.Tabs.same T6 s, ?_⟩
    rw [← e6, hlet]; rfl
  · exact errD_word (fun HX v s d => rest _ _ ⟨x6.trans s.extN, S4.Tabs.same T6 s, by rw [← e6]; exact d⟩) fun i h => rowD_i h
theorem ExtN.upd {H0 H1 : Hp} {a : Addr} {o' : HO} (x : ExtN H0 H1) (k : ∀ y o, H0 y = some o → (∀ ps, o ≠ HO.tbl ps) → y ≠ a) : ExtN H0 (upd H1 a o') := fun y o h n => by rw [upd_ne (k y o h n)]; exact x _ _ h n
theorem ExtN.new {H0 H1 : Hp} {a : Addr} (x : ExtN H0 H1) (na : H1 a = none) : ∀ y o, H0 y = some o → (∀ ps, o ≠ HO.tbl ps) → y ≠ a := fun y o h n e => by
  subst e
  have := x _ _ h n
  rw [na] at this; cases this
/-- a call behind a lambda, all told of what stood at H0 -/
theorem lamR0 {mg : Str → Option Value} {K : PySem.W.Frag} {TL : List (Addr × Str)} {t : XK → TE} {σ : St} {H0 H : Hp} {g : Addr} {p wd rows : V} {Q : VK} (ht : ∀ E H1 k, spAskR K mg [p, wd, rows] H1 k E → t E σ H1 k) (hT : Tabs TL H) (x : ExtN H0 H)
    (tp : Th g H0 0 p) (tw : Th g H0 0 wd) (tr : ThS g H0 rows) (h64 : intB 0 200 wd = true → intOf1 wd < 64) (y : ∀ HX v, ExtN H HX → ExtN H0 HX → Tabs TL HX → rDue HX v (rowsD H0 p wd rows) → Q v HX) : tLam TL (TWordR mg) t σ H Q :=
  lamR ht hT (tp.butN (g := g) (ExtN.bn x)) (tw.butN (ExtN.bn x)) (tr.butN (ExtN.bn x)) (fun h => h64 (by
    unfold rowsD at h
    by_cases hc : clkB p = true
    · rw [if_pos hc] at h
      by_cases hw : intB 0 200 wd = true
      · exact hw
      · rw [if_neg hw] at h; cases h
    · rw [if_neg hc] at h; cases h)) fun HX v xh T d => y HX v xh (x.trans xh) T (by rw [rowsD_n tr (ExtN.bn (g := g) x)] at d; exact d)
theorem lamW0 {mg : Str → Option Value} {K : PySem.W.Frag} {TL : List (Addr × Str)} {t : XK → TE} {σ : St} {H0 H : Hp} {g : Addr} {p wd rows row : V} {Q : VK} (ht : ∀ E H1 k, spAskW K mg [p, wd, rows, row] H1 k E → t E σ H1 k) (hT : Tabs TL H) (x : ExtN H0 H)
    (tp : Th g H0 0 p) (tw : Th g H0 0 wd) (tr : ThS g H0 rows) (to : Th g H0 1 row) (y : ∀ HX v, ExtN H HX → ExtN H0 HX → Tabs TL HX → rDue HX v (rowD H0 p wd rows row) → Q v HX) : tLam TL (TWordR mg) t σ H Q :=
  lamW ht hT (tp.butN (g := g) (ExtN.bn x)) (tw.butN (ExtN.bn x)) (tr.butN (ExtN.bn x)) (to.butN (ExtN.bn x)) fun HX v xh T d => y HX v xh (x.trans xh) T (by rw [rowD_n tr to (ExtN.bn (g := g) x)] at d; exact d)
theorem rowD_let {H : Hp} {p wd rows row : V} (h : rowsD H p wd rows = .let) : rowD H p wd rows row = if rowB (intOf1 p) (intOf1 wd) H row = true then .let else .row := by unfold rowD; rw [h]
theorem rowD_no {H : Hp} {p wd rows row : V} (h : rowsD H p wd rows ≠ .let) : rowD H p wd rows row = rowsD H p wd rows := by
  unfold rowD
  cases e : rowsD H p wd rows with
  | «let» => exact absurd e h
  | _ => rfl
theorem kif {i kd : Int} {A B : TS} {D : Ends} {σ : St} {H : Hp} (e : σ[1]? = some (some (.int kd))) (hA : A D σ H) (hB : B D σ H) : tIfS (tOr (tTest (tOp rEq (tVar 1) (tC (V.int i)))) (tTest (tOp rEq (tVar 1) (tC (V.int 5))))) A B D σ H := by
  refine ⟨_, e, rfl, _, rfl, ?_⟩
  refine ite2 (fun _ => ?_) (fun _ => ?_)
  · exact hA
  · exact ⟨_, e, rfl, _, rfl, ite2 (fun _ => hA) (fun _ => hB)⟩
section
variable {P : Program} {w : World} {K : PySem.W.Frag} {mg : Str → Option Value} {base : Heap} {cT cS : Addr}
theorem ok_rowsR (T : Tx K mg cT cS) {f : Addr} {fd : FuncData} (d : D K mg "_law_rows_refused" s_law_rows_refused ["hand"] f fd) {TL : List (Addr × Str)} {c Pt : Addr} (L : LamD mg base "_law_rows_refused" fd c Pt TL) : FnOk P w K mg base CX0 12 f fd ["hand"] (spSqR TL) := by
  obtain ⟨f1, fd1, d1⟩ := T.d_law_clock
  have G1 := ok_clock (P := P) (w := w) (base := base) T d1
  obtain ⟨f2, fd2, d2⟩ := T.d_law_draw
  have G2 := ok_draw (P := P) (w := w) (base := base) T d2
  obtain ⟨f3, fd3, d3⟩ := T.d_law_some_rows
  have G3 := ok_some_rows (P := P) (w := w) (base := base) T d3
  obtain ⟨f4, fd4, d4⟩ := T.d_law_some_row
  have G4 := ok_some_rowT (P := P) (w := w) (base := base) T d4
  obtain ⟨f5, fd5, d5⟩ := T.d_law_any
  have G5 := ok_any (P := P) (w := w) (base := base) T d5
  obtain ⟨f6, fd6, d6⟩ := T.d_law_nested
  have G6 := ok_nested2 (P := P) (w := w) (base := base) T d6
  obtain ⟨f7, fd7, d7⟩ := T.d_law_bent_rows
  have G7 := ok_bent_rows (P := P) (w := w) (base := base) T d7
  obtain ⟨f8, fd8, d8⟩ := T.d_law_odd
  have G8 := ok_odd (P := P) (w := w) (base := base) T d8
  obtain ⟨f9, fd9, d9⟩ := T.d_law_rows_due
  have G9 := ok_rowsDue (P := P) (w := w) (base := base) T d9
  obtain ⟨f10, fd10, d10⟩ := T.d_ladder
  have G10 := ok_ladderT (P := P) (w := w) (base := base) T d10
  obtain ⟨f11, fd11, d11⟩ := T.d_rank
  have G11 := ok_rankT (P := P) (w := w) (base := base) T d11
  obtain ⟨f12, fd12, d12⟩ := T.d_square
  have G12 := ok_squareT (P := P) (w := w) (base := base) T d12
  obtain ⟨f13, fd13, d13⟩ := T.d_law_is_row
  have G13 := ok_lisrowT (P := P) (w := w) (base := base) T d13
  obtain ⟨f14, fd14, d14⟩ := T.d_mixture
  have G14 := ok_mixtureT (P := P) (w := w) (base := base) T d14
  obtain ⟨f15, fd15, d15⟩ := T.d_parting
  have G15 := ok_partingT (P := P) (w := w) (base := base) T d15
  obtain ⟨fW, fdW, dW⟩ := T.d_law_row_refusal
  refine d.F.okT L.code sc_law_rows_refused (fun vs H Q E h => ?_) (fun A outer s H vs Q E hr h => ?_)
  · obtain ⟨g, ch, rfl, _⟩ := h
    rfl
  · obtain ⟨g, ch, rfl, hh, hT, q⟩ := h
    refine ⟨_, pss_cons (ps_asg (pe_tup (pa_cons (pe_call G1 (hr.mono (by decide)) rfl d1.m d1.F.kp d1.b .nil pass0 (pa_cons (pv 0) pa_nil)) (pa_cons (pe_call G2 (hr.mono (by decide)) rfl d2.m d2.F.kp d2.b .nil pass0 (pa_cons (pv 0) (pa_cons pe_int pa_nil))) (pa_cons (pe_call G2 (hr.mono (by decide)) rfl d2.m d2.F.kp d2.b .nil pass0 (pa_cons (pv 0) (pa_cons pe_int pa_nil))) pa_nil)))) (pg_tup rfl (pgs_cons (pg_name (i := 7) sc_law_rows_refused.nd rfl (.inr rfl)) (pgs_cons (pg_name (i := 10) sc_law_rows_refused.nd rfl (.inr rfl)) (pgs_cons (pg_name (i := 1) sc_law_rows_refused.nd rfl (.inl rfl)) pgs_nil)))))
      (pss_cons (ps_set (i := 9) sc_law_rows_refused.nd rfl (.inr rfl) (pe_callTy call_tuple_of (by rfl) T.b_tuple (by decide +kernel) (pa_cons (pe_call G3 (hr.mono (by decide)) rfl d3.m d3.F.kp d3.b .nil pass0 (pa_cons (pv 0) (pa_cons (pv 7) (pa_cons (pv 10) (pa_cons (pe_call G2 (hr.mono (by decide)) rfl d2.m d2.F.kp d2.b .nil pass0 (pa_cons (pv 0) (pa_cons pe_int pa_nil))) pa_nil))))) pa_nil)))
      (pss_cons (ps_set (i := 8) sc_law_rows_refused.nd rfl (.inr rfl) (pe_call G4 (hr.mono (by decide)) rfl d4.m d4.F.kp d4.b .nil pass0 (pa_cons (pv 0) (pa_cons (pv 7) (pa_cons (pv 10) (pa_cons (pv 9) pa_nil))))))
      (pss_cons (ps_set (i := 2) sc_law_rows_refused.nd rfl (.inl rfl) (pe_tup (pa_cons (pv 7) (pa_cons (pv 10) pa_nil))))
      (pss_cons (ps_if (PW.pt (pw_or (pt_cmpR op_eq (pv 1) pe_int (nomark _)) (pw_or1 (pt_cmpR op_eq (pv 1) pe_int (nomark _))))) (pss_one (ps_set (i := 7) sc_law_rows_refused.nd rfl (.inr rfl) (pe_call G5 (hr.mono (by decide)) rfl d5.m d5.F.kp d5.b .nil pass0 (pa_cons (pv 0) (pa_cons (pe_lst (pa_cons pe_int (pa_cons pe_int (pa_cons pe_int (pa_cons pe_int (pa_cons (pe_un un_neg pe_int) (pa_cons pe_int (pa_cons (pe_op op_pow pe_int pe_int) (pa_cons pe_int (pa_cons (pe_op op_pow pe_int pe_int) (pa_cons pe_bl (pa_cons pe_str (pa_cons (pe_tup (pa_cons pe_int pa_nil)) (pa_cons (pe_lst (pa_cons pe_int pa_nil)) (pa_cons pe_non (pa_cons pe_int (pa_cons pe_int pa_nil))))))))))))))))) pa_nil))))) pss_nil)
      (pss_cons (ps_if (PW.pt (pw_or (pt_cmpR op_eq (pv 1) pe_int (nomark _)) (pw_or1 (pt_cmpR op_eq (pv 1) pe_int (nomark _))))) (pss_one (ps_set (i := 10) sc_law_rows_refused.nd rfl (.inr rfl) (pe_call G5 (hr.mono (by decide)) rfl d5.m d5.F.kp d5.b .nil pass0 (pa_cons (pv 0) (pa_cons (pe_lst (pa_cons (pe_un un_neg pe_int) (pa_cons pe_int (pa_cons pe_bl (pa_cons pe_non (pa_cons pe_str (pa_cons (pe_tup (pa_cons pe_int pa_nil)) (pa_cons (pe_op op_pow pe_int pe_int) (pa_cons (pe_op op_add (pv 10) pe_int) (pa_cons (pe_call G6 (hr.mono (by decide)) rfl d6.m d6.F.kp d6.b .nil pass0 (pa_cons (pv 0) pa_nil)) pa_nil)))))))))) pa_nil))))) pss_nil)
      (pss_cons (ps_if (PW.pt (pw_or (pt_cmpR op_eq (pv 1) pe_int (nomark _)) (pw_or1 (pt_cmpR op_eq (pv 1) pe_int (nomark _))))) (pss_one (ps_set (i := 9) sc_law_rows_refused.nd rfl (.inr rfl) (pe_call G7 (hr.mono (by decide)) rfl d7.m d7.F.kp d7.b .nil pass0 (pa_cons (pv 0) (pa_cons (pe_ix ix_tup (pv 2) pe_int (fun _ _ => rfl)) (pa_cons (pe_ix ix_tup (pv 2) pe_int (fun _ _ => rfl)) (pa_cons (pv 9) pa_nil))))))) pss_nil)
      (pss_cons (ps_if (PW.pt (pw_or (pt_cmpR op_eq (pv 1) pe_int (nomark _)) (pw_or1 (pt_cmpR op_eq (pv 1) pe_int (nomark _))))) (pss_one (ps_set (i := 8) sc_law_rows_refused.nd rfl (.inr rfl) (pe_call G5 (hr.mono (by decide)) rfl d5.m d5.F.kp d5.b .nil pass0 (pa_cons (pv 0) (pa_cons (pe_lst (pa_cons (pe_op op_catA (pv 8) (pe_tup (pa_cons pe_int pa_nil))) (pa_cons (pe_slice sl_tupA (pv 8) (po_some pe_int) po_none) (pa_cons (pe_callTy call_list_of (by rfl) T.b_list (by decide +kernel) (pa_cons (pv 8) pa_nil)) (pa_cons (pe_op op_catA (pe_tup (pa_cons (pe_ix ix_tup (pv 2) pe_int (fun _ _ => rfl)) pa_nil)) (pe_slice sl_tupA (pv 8) (po_some pe_int) po_none)) (pa_cons (pe_op op_catA (pe_tup (pa_cons (pe_un un_neg pe_int) pa_nil)) (pe_slice sl_tupA (pv 8) (po_some pe_int) po_none)) (pa_cons (pe_call G8 (hr.mono (by decide)) rfl d8.m d8.F.kp d8.b .nil pass0 (pa_cons (pv 0) pa_nil)) pa_nil))))))) pa_nil))))) pss_nil)
      (pss_cons (ps_set (i := 3) sc_law_rows_refused.nd rfl (.inl rfl) (pe_call G9 (hr.mono (by decide)) rfl d9.m d9.F.kp d9.b .nil pass0 (pa_cons (pv 7) (pa_cons (pv 10) (pa_cons (pv 9) pa_nil)))))
      (pss_cons (ps_set (i := 4) sc_law_rows_refused.nd rfl (.inl rfl) (pe_lst (pa_cons (pe_lamD (X := (cxOf CX0 P w K mg base N_law_rows_refused "_law_rows_refused" (defScope s_law_rows_refused) f (.ref c) A outer s H E).nox) (x := "_law_rows_refused") (st := s_law_row_refusal) (Ng := N_law_row_refusal) (k := 7) (TT := TWordR mg) dW L rfl sc_law_row_refusal rfl (.inl rfl) (fun cdv => word_gives T (hr.mono (by decide)) rfl rfl) rfl rfl (hr.mono (by decide)) (lamS_by (sc := defScope s_law_rows_refused) (by decide +kernel)) rfl (fun _ _ _ _ _ => rfl) (fun A2 outer2 s2 H2 E2 f2 c2 hr2 => (pe_call G10 (hr2.mono (by decide)) rfl d10.m d10.F.kp d10.b .nil (passes_call (takes_of rfl rfl rfl rfl) (fun _ _ _ _ h => h)) (pa_cons (pv 7) (pa_cons (pv 10) (pa_cons (pv 9) pa_nil)))))) pa_nil)))
      (pss_cons (ps_expr (pe_bm PySem.F.plainAttrs_list PySem.F.slot_list_append PySem.F.type_list_append mt_append (pv 4) (pa_cons (pe_lamD (X := (cxOf CX0 P w K mg base N_law_rows_refused "_law_rows_refused" (defScope s_law_rows_refused) f (.ref c) A outer s H E).nox) (x := "_law_rows_refused") (st := s_law_row_refusal) (Ng := N_law_row_refusal) (k := 7) (TT := TWordR mg) dW L rfl sc_law_row_refusal rfl (.inl rfl) (fun cdv => word_gives T (hr.mono (by decide)) rfl rfl) rfl rfl (hr.mono (by decide)) (lamS_by (sc := defScope s_law_rows_refused) (by decide +kernel)) rfl (fun _ _ _ _ _ => rfl) (fun A2 outer2 s2 H2 E2 f2 c2 hr2 => (pe_call G11 (hr2.mono (by decide)) rfl d11.m d11.F.kp d11.b .nil (passes_call (takes_of rfl rfl rfl rfl) (fun _ _ _ _ h => h)) (pa_cons (pv 7) (pa_cons (pv 10) (pa_cons (pv 9) pa_nil)))))) pa_nil)))
      (pss_cons (ps_expr (pe_bm PySem.F.plainAttrs_list PySem.F.slot_list_append PySem.F.type_list_append mt_append (pv 4) (pa_cons (pe_lamD (X := (cxOf CX0 P w K mg base N_law_rows_refused "_law_rows_refused" (defScope s_law_rows_refused) f (.ref c) A outer s H E).nox) (x := "_law_rows_refused") (st := s_law_row_refusal) (Ng := N_law_row_refusal) (k := 7) (TT := TWordR mg) dW L rfl sc_law_row_refusal rfl (.inl rfl) (fun cdv => word_gives T (hr.mono (by decide)) rfl rfl) rfl rfl (hr.mono (by decide)) (lamS_by (sc := defScope s_law_rows_refused) (by decide +kernel)) rfl (fun _ _ _ _ _ => rfl) (fun A2 outer2 s2 H2 E2 f2 c2 hr2 => (pe_call G12 (hr2.mono (by decide)) rfl d12.m d12.F.kp d12.b .nil (passes_call (takes_of rfl rfl rfl rfl) (fun _ _ _ _ h => h)) (pa_cons (pv 7) (pa_cons (pv 10) (pa_cons (pv 9) pa_nil)))))) pa_nil)))
      (pss_cons (ps_set (i := 5) sc_law_rows_refused.nd rfl (.inl rfl) (pv 3))
      (pss_cons (ps_if (PW.pt (pw_and (pt_cmpR (op_eqD (hu64s hr)) (pv 3) pe_str (nomark _)) (pw_and1 (pt_not (pt_val (pe_call G13 (hr.mono (by decide)) rfl d13.m d13.F.kp d13.b .nil pass0 (pa_cons (pv 7) (pa_cons (pv 10) (pa_cons (pv 8) pa_nil))))))))) (pss_one (ps_set (i := 5) sc_law_rows_refused.nd rfl (.inl rfl) pe_str)) pss_nil)
      (pss_cons (ps_set (i := 6) sc_law_rows_refused.nd rfl (.inl rfl) (pe_lst (pa_cons (pe_lamD (X := (cxOf CX0 P w K mg base N_law_rows_refused "_law_rows_refused" (defScope s_law_rows_refused) f (.ref c) A outer s H E).nox) (x := "_law_rows_refused") (st := s_law_row_refusal) (Ng := N_law_row_refusal) (k := 7) (TT := TWordR mg) dW L rfl sc_law_row_refusal rfl (.inl rfl) (fun cdv => word_gives T (hr.mono (by decide)) rfl rfl) rfl rfl (hr.mono (by decide)) (lamS_by (sc := defScope s_law_rows_refused) (by decide +kernel)) rfl (fun _ _ _ _ _ => rfl) (fun A2 outer2 s2 H2 E2 f2 c2 hr2 => (pe_call G14 (hr2.mono (by decide)) rfl d14.m d14.F.kp d14.b .nil (passes_call (takes_of rfl rfl rfl rfl) (fun _ _ _ _ h => h)) (pa_cons (pv 7) (pa_cons (pv 10) (pa_cons (pv 9) (pa_cons (pv 8) pa_nil))))))) pa_nil)))
      (pss_cons (ps_expr (pe_bm PySem.F.plainAttrs_list PySem.F.slot_list_append PySem.F.type_list_append mt_append (pv 6) (pa_cons (pe_lamD (X := (cxOf CX0 P w K mg base N_law_rows_refused "_law_rows_refused" (defScope s_law_rows_refused) f (.ref c) A outer s H E).nox) (x := "_law_rows_refused") (st := s_law_row_refusal) (Ng := N_law_row_refusal) (k := 7) (TT := TWordR mg) dW L rfl sc_law_row_refusal rfl (.inl rfl) (fun cdv => word_gives T (hr.mono (by decide)) rfl rfl) rfl rfl (hr.mono (by decide)) (lamS_by (sc := defScope s_law_rows_refused) (by decide +kernel)) rfl (fun _ _ _ _ _ => rfl) (fun A2 outer2 s2 H2 E2 f2 c2 hr2 => (pe_call G15 (hr2.mono (by decide)) rfl d15.m d15.F.kp d15.b .nil (passes_call (takes_of rfl rfl rfl rfl) (fun _ _ _ _ h => h)) (pa_cons (pv 7) (pa_cons (pv 10) (pa_cons (pv 9) (pa_cons (pv 8) pa_nil))))))) pa_nil)))
      (pss_one (ps_ret (pe_and (pe_cmpR (op_eqD (hu64s hr)) (pv 4) (pe_op op_rep (pe_lst (pa_cons (pv 3) pa_nil)) pe_int) (nomark _)) (pe_one (pe_cmpR (op_eqD (hu64s hr)) (pv 6) (pe_op op_rep (pe_lst (pa_cons (pv 5) pa_nil)) pe_int) (nomark _))))))))))))))))))))), ?_⟩
    have wnat : ∀ a : Int, 0 ≤ a → ∃ k : Nat, a = (k : Int) := fun a h => ⟨a.toNat, by omega⟩
    dsimp only [gName, tSeq, tAsg]
    refine ⟨_, rfl, g, ch, rfl, hh, fun H1 p b1 h1 nd pm => ⟨_, rfl, g, ch, 5, rfl, by omega, by omega, h1, fun H2 wd_ b2 h2 w0 w1 => ⟨_, rfl, g, ch, 6, rfl, by omega, by omega, h2, fun H2b kd b2b h2b k0 k1 => ⟨by show 3 ≤ sizeLine; decide, fun t nt => ?_⟩⟩⟩⟩
    obtain ⟨wd, rfl⟩ := wnat wd_ w0
    have st := same_new (o := .tup [V.int p, V.int (wd : Int), V.int kd]) nt
    have h2t := h2b.same st
    refine ⟨t, _, rfl, .of upd_same, rfl, _, _, rfl, _, _, rfl, _, _, rfl, rfl, ?_⟩
    dsimp only [gCons, gNil, gName, tSeq, tAsg]
    refine ⟨_, rfl, _, rfl, _, rfl, _, rfl, g, ch, 5, rfl, by omega, by omega, h2t, fun H2c m_ b2c h2c m0 m1 => ?_⟩
    obtain ⟨m, rfl⟩ := wnat m_ m0
    refine ⟨g, ch, p, wd, m, rfl, nd.1, pm, by omega, by omega, h2c, fun H3 r xs rws b3 h3 rn rg rc hr3 hp hl hrow => ⟨r, xs, rfl, .inl ⟨.of hr3, fun tr ntr => ?_⟩⟩⟩
    have st3 := same_new (o := .tup xs) ntr
    have h4 := h3.same st3
    have htr := upd_same (H := H3) (a := tr) (o := .tup xs)
    have hp4 : Paired (rRow (upd H3 tr (.tup xs))) xs rws := paired_mono mono_row (h3.keep (st3.but g)) hp
    have B4 : But g H (upd H3 tr (.tup xs)) := ((((((b1.trans b2).trans b2b).trans (st.but g)).trans b2c).trans b3)).trans (st3.but g)
    generalize upd H3 tr (.tup xs) = H4 at *
    have hlx := paired_len hp4
    refine ⟨_, rfl, _, rfl, _, rfl, _, rfl, g, ch, tr, p, wd, xs, rws, rfl, nd.1, pm, by omega, htr, not_g h4 htr, hp4, by omega, hrow, h4, fun H5 rv l b5 h5 hl5 hrl => ?_⟩
    refine ⟨_, rfl, _, rfl, by show 2 ≤ sizeLine; decide, fun tt ntt => ?_⟩
    have st5 := same_new (o := .tup [V.int p, V.int (wd : Int)]) ntt
    have h6 := h5.same st5
    have htt := upd_same (H := H5) (a := tt) (o := .tup [V.int p, V.int (wd : Int)])
    have B6 : But g H (upd H5 tt (.tup [V.int p, V.int (wd : Int)])) := (B4.trans b5).trans (st5.but g)
    have B46 : But g H4 (upd H5 tt (.tup [V.int p, V.int (wd : Int)])) := b5.trans (st5.but g)
    have hl6 : rRow (upd H5 tt (.tup [V.int p, V.int (wd : Int)])) rv l := mono_row _ _ _ _ st5.keep hl5
    have ntg : tt ≠ g := not_g h6 htt
    generalize upd H5 tt (.tup [V.int p, V.int (wd : Int)]) = H6 at *
    have htr6 := B46 _ _ (not_g h4 htr) htr
    have hp6 : Paired (rRow H6) xs rws := paired_mono mono_row (h4.keep B46) hp4
    have hlw : l.length = wd := by have := hrl.1; omega
    have txs : ∀ {HX : Hp}, But g H6 HX → ∀ x ∈ xs, Th g HX 1 x := fun {HX} b x hx' => by
      obtain ⟨i, hi⟩ := List.getElem?_of_mem hx'
      obtain ⟨l', hl1, hl2⟩ := paired_get hp6 hi
      exact (row_th h6 hl2 (by have := (hrow l' (List.mem_of_getElem? hl1)).1; omega) 0).but b
    have tR : ThS g H6 (.ref tr) := ThS.tups h6 htr6 (by omega) (txs (fun x o _ h => h))
    have tW : Th g H6 1 rv := row_th h6 hl6 (by omega) 0
    dsimp only [gName, tSeq, tAsg]
    -- p
    refine thenS (fun σ' H' => ∃ pv, σ' = [some (.ref g), some (.int kd), some (.ref tt), none, none, none, none, some pv, some rv, some (.ref tr), some (.int (wd : Int))] ∧ But g H6 H' ∧ Hand g ch H' ∧ Th g H' 0 pv) ?_ ?_
    · intro n kk
      refine kif rfl ?_ (kk _ _ ⟨.int p, rfl, fun x o _ h => h, h6, (th_flat (by exact True.intro))⟩)
      refine ⟨_, rfl, _, rfl, _, _, rfl, rfl, ⟨by decide, by decide, by decide⟩, _, _, rfl, rfl, ⟨by decide, by decide, by decide⟩, by show 1 ≤ sizeLine; decide, fun q1 n1 => ⟨by show 1 ≤ sizeLine; decide, fun q2 n2 => ⟨by show 16 ≤ sizeLine; decide, fun l0 nl0 => ?_⟩⟩⟩
      have s1 := same_new (o := .tup [V.int 5]) n1
      have g1 := (hand_newK h6 n1).1
      have j1 := h6.same s1
      have s2 := same_new (o := .lst [V.int 7]) n2
      have g2 := (hand_newK j1 n2).1
      have j2 := j1.same s2
      refine ⟨g, ch, l0, _, rfl, upd_same, (hand_newK j2 nl0).1, by show 0 < 16; decide, by show 16 < 1000000; decide, j2.same (same_new nl0), fun H' i x b h' hx' => kk _ _ ⟨x, rfl, (((s1.trans s2).trans (same_new nl0)).but g).trans b, h', ?_⟩⟩
      have hm := List.mem_of_getElem? hx'
      clear hx'
      revert x hm
      refine fc (th_flat (by exact True.intro)) (fc (th_flat (by exact True.intro)) (fc (th_flat (by exact True.intro)) (fc (th_flat (by exact True.intro)) (fc (th_flat (by exact True.intro)) (fc (th_flat (by exact True.intro)) (fc (th_flat (by exact True.intro)) (fc (th_flat (by exact True.intro)) (fc (th_flat (by exact True.intro)) (fc (th_flat (by exact True.intro)) (fc (th_flat (by exact True.intro)) (fc ?_ (fc ?_ (fc (th_flat (by exact True.intro)) (fc (th_flat (by exact True.intro)) (fc (th_flat (by exact True.intro)) (fn0))))))))))))))))
      · exact Th.tup0 (b _ _ g1 ((same_new nl0) _ _ (s2 _ _ upd_same))) g1 (by show 1 ≤ 1000; decide)
      · exact Th.lst (b _ _ g2 ((same_new nl0) _ _ upd_same)) g2 0
    rintro σ' H7 ⟨pv, rfl, b7, h7, tp⟩
    -- wide
    dsimp only [tSeq]
    refine thenS (fun σ' H' => ∃ wv, σ' = [some (.ref g), some (.int kd), some (.ref tt), none, none, none, none, some pv, some rv, some (.ref tr), some wv] ∧ But g H7 H' ∧ Hand g ch H' ∧ Th g H' 0 wv ∧ (intB 0 200 wv = true → intOf1 wv < 64)) ?_ ?_
    · intro n kk
      refine kif rfl ?_ (kk _ _ ⟨.int (wd : Int), rfl, fun x o _ h => h, h7, (th_flat (by exact True.intro)), fun _ => by show (wd : Int) < 64; omega⟩)
      refine ⟨_, rfl, _, rfl, by show 1 ≤ sizeLine; decide, fun q1 n1 => ⟨_, _, rfl, rfl, ⟨by decide, by decide, by decide⟩, _, rfl, _, _, rfl, rfl, ?_⟩⟩
      have s1 := same_new (o := .tup [V.int 2]) n1
      have g1 := (hand_newK h7 n1).1
      have j1 := h7.same s1
      refine ⟨_, rfl, g, ch, rfl, j1, fun Hn v bn hn tv sv lv rv' => ⟨by show 9 ≤ sizeLine; decide, fun l0 nl0 => ?_⟩⟩
      obtain ⟨va, rfl⟩ := rv'
      refine ⟨g, ch, l0, _, rfl, upd_same, (hand_newK hn nl0).1, by show 0 < 9; decide, by show 9 < 1000000; decide, hn.same (same_new nl0), fun H' i x b h' hx' => kk _ _ ⟨x, rfl, (((s1.but g).trans bn).trans ((same_new nl0).but g)).trans b, h', ?_⟩⟩
      have hm := List.mem_of_getElem? hx'
      clear hx'
      revert x hm
      refine fc ?_ (fc ?_ (fc ?_ (fc ?_ (fc ?_ (fc ?_ (fc ?_ (fc ?_ (fc ?_ (fn0)))))))))
      · exact ⟨(th_flat (by exact True.intro)), fun h => absurd h (by decide)⟩
      · exact ⟨(th_flat (by exact True.intro)), fun h => absurd h (by decide)⟩
      · exact ⟨(th_flat (by exact True.intro)), fun _ => by show (0 : Int) < 64; decide⟩
      · exact ⟨(th_flat (by exact True.intro)), fun _ => by show (0 : Int) < 64; decide⟩
      · exact ⟨(th_flat (by exact True.intro)), fun _ => by show (0 : Int) < 64; decide⟩
      · exact ⟨Th.tup0 (b _ _ g1 ((same_new nl0) _ _ (bn _ _ g1 upd_same))) g1 (by show 1 ≤ 1000; decide), fun _ => by show (0 : Int) < 64; decide⟩
      · exact ⟨(th_flat (by exact True.intro)), fun h => absurd h (by decide)⟩
      · exact ⟨(th_flat (by exact True.intro)), fun _ => by show (wd : Int) + 1 < 64; omega⟩
      · exact ⟨(tv 0).but (((same_new nl0).but g).trans b), fun _ => by show (0 : Int) < 64; decide⟩
    rintro σ' H8 ⟨wv, rfl, b8, h8, twv, h64⟩
    have b68 := b7.trans b8
    -- rows
    dsimp only [tSeq]
    refine thenS (fun σ' H' => ∃ rows, σ' = [some (.ref g), some (.int kd), some (.ref tt), none, none, none, none, some pv, some rv, some rows, some wv] ∧ But g H8 H' ∧ Hand g ch H' ∧ ThS g H' rows) ?_ ?_
    · intro n kk
      refine kif rfl ?_ (kk _ _ ⟨.ref tr, rfl, fun x o _ h => h, h8, tR.but b68⟩)
      have htt8 := b68 _ _ ntg htt
      have htr8 := b68 _ _ (not_g h6 htr6) htr6
      refine ⟨_, rfl, _, rfl, tt, _, _, _, rfl, rfl, .of htt8, at_of (j := 0) rfl rfl, _, rfl, tt, _, _, _, rfl, rfl, .of htt8, at_of (j := 1) rfl rfl, _, rfl, g, ch, tr, p, wd, xs, rws, rfl, nd.1, pm, by omega, htr8, paired_mono mono_row (h6.keep b68) hp6, by omega, fun l' hl' => by have := (hrow l' hl').1; omega, h8, fun H9 bv b9 h9 tbv => kk _ _ ⟨bv, rfl, b9, h9, tbv⟩⟩
    rintro σ' H9 ⟨rows, rfl, b9, h9, trw⟩
    have b69 := b68.trans b9
    -- row
    dsimp only [tSeq]
    refine thenS (fun σ' H' => ∃ row, σ' = [some (.ref g), some (.int kd), some (.ref tt), none, none, none, none, some pv, some row, some rows, some wv] ∧ But g H9 H' ∧ Hand g ch H' ∧ Th g H' 1 row) ?_ ?_
    · intro n kk
      refine kif rfl ?_ (kk _ _ ⟨rv, rfl, fun x o _ h => h, h9, tW.but b69⟩)
      have htt9 := b69 _ _ ntg htt
      obtain ⟨ra, rfl, hra⟩ := hl6
      have rag := not_g h6 hra
      have hra9 := b69 _ _ rag hra
      have hlm : (l.map V.int).length = wd := by rw [List.length_map]; exact hlw
      refine ⟨_, rfl, _, rfl, by show 1 ≤ sizeLine; decide, fun q1 n1 => ?_⟩
      have y1 := same_new (o := .tup [V.int 0]) n1
      refine cat_ofB (y1 _ _ hra9) upd_same (by rw [hlm]; show wd + 1 ≤ 10000; omega) fun HA qA yA eA => ⟨_, rfl, _, rfl, ?_⟩
      dsimp only [tNoPart]
      have z1 := y1.trans yA
      have hA := h9.same z1
      refine slice_fromA (k := 1) (z1 _ _ hra9) fun HB qB yB eB => ⟨_, rfl, ra, _, rfl, .inr (.of ((z1.trans yB) _ _ hra9)), fun qC nC => ?_⟩
      have hB := hA.same yB
      have yC := same_new (o := .lst (l.map V.int)) nC
      have gC := (hand_newK hB nC).1
      have hC := hB.same yC
      have z2 := (z1.trans yB).trans yC
      refine ⟨_, rfl, tt, _, _, _, rfl, rfl, .of (z2 _ _ htt9), at_of (j := 0) rfl rfl, by show 1 ≤ sizeLine; decide, fun qD nD => ⟨_, rfl, _, rfl, ?_⟩⟩
      have yD := same_new (o := .tup [V.int p]) nD
      dsimp only [tNoPart]
      have z3 := z2.trans yD
      refine slice_fromA (k := 1) (z3 _ _ hra9) fun HE qE yE eE => ?_
      refine cat_ofB (yE _ _ upd_same) eE (by rw [List.length_drop, hlm]; show 1 + (wd - 1) ≤ 10000; omega) fun HF qF yF eF => ⟨_, rfl, by show 1 ≤ sizeLine; decide, fun qG nG => ⟨_, rfl, _, rfl, ?_⟩⟩
      have yDF := (yD.trans yE).trans yF
      have hF := hC.same yDF
      have yG := same_new (o := .tup [V.int (-1)]) nG
      have z4 := (z2.trans yDF).trans yG
      dsimp only [tNoPart]
      refine slice_fromA (k := 1) (z4 _ _ hra9) fun HI qI yI eI => ?_
      refine cat_ofB (yI _ _ upd_same) eI (by rw [List.length_drop, hlm]; show 1 + (wd - 1) ≤ 10000; omega) fun HJ qJ yJ eJ => ?_
      have yGJ := (yG.trans yI).trans yJ
      have hJ := hF.same yGJ
      refine ⟨_, rfl, g, ch, rfl, hJ, fun HO od bo ho tod => ⟨by show 6 ≤ sizeLine; decide, fun l0 nl0 => ?_⟩⟩
      refine ⟨g, ch, l0, _, rfl, upd_same, (hand_newK ho nl0).1, by show 0 < 6; decide, by show 6 < 1000000; decide, ho.same (same_new nl0), fun H' i x b h' hx' => ?_⟩
      have BO := ((same_new (o := .lst [V.ref qA, V.ref qB, V.ref qC, V.ref qF, V.ref qJ, od]) nl0).but g).trans b
      have BJ := bo.trans BO
      have BF := (yGJ.but g).trans BJ
      have BC := (yDF.but g).trans BF
      have BB := (yC.but g).trans BC
      have BA := (yB.but g).trans BB
      have BS := (z1.but g).trans BA
      refine kk _ _ ⟨x, rfl, BS, h', ?_⟩
      have hm := List.mem_of_getElem? hx'
      clear hx'
      revert x hm
      have cons_th : ∀ {HX : Hp} (v : V), Flat v → ∀ y ∈ [v] ++ (l.map V.int).drop 1, Th g HX 0 y := fun {HX} v fv y hy => by
        rcases List.mem_append.mp hy with h | h
        · rw [List.mem_singleton.mp h]; exact th_flat fv
        · exact ints_th l 0 y (List.mem_of_mem_drop h)
      refine fc ?_ (fc ?_ (fc ?_ (fc ?_ (fc ?_ (fc ((tod.th.less).but BO) fn0)))))
      · refine (Th.tups hA eA (by rw [List.length_append, hlm]; show wd + 1 ≤ 1000; omega) fun y hy => ?_).but BA
        rcases List.mem_append.mp hy with h | h
        · exact ints_th l 0 y h
        · rw [List.mem_singleton.mp h]; exact th_flat (v := V.int 0) trivial
      · exact (Th.tups hB eB (by rw [List.length_drop, hlm]; omega) fun y hy => ints_th l 0 y (List.mem_of_mem_drop hy)).but BB
      · exact (Th.lst upd_same gC 1).but BC
      · exact (Th.tups hF eF (by rw [List.length_append, List.length_drop, hlm]; show 1 + (wd - 1) ≤ 1000; omega) (cons_th (V.int p) trivial)).but BF
      · exact (Th.tups hJ eJ (by rw [List.length_append, List.length_drop, hlm]; show 1 + (wd - 1) ≤ 1000; omega) (cons_th (V.int (-1)) trivial)).but BJ
    rintro σ' H10 ⟨row, rfl, b10, h10, trow⟩
    have B10 : But g H H10 := (B6.trans b69).trans b10
    have tp10 := tp.but ((b8.trans b9).trans b10)
    have tw10 := twv.but (b9.trans b10)
    have tr10 := trw.but b10
    have T10 := Tabs_but hh B10 hT
    -- what is due
    dsimp only [tSeq, tAsg, gName]
    refine ⟨_, rfl, _, rfl, _, rfl, g, pv, wv, rows, rfl, tp10, tw10, tr10, fun H11 dv s11 d11 => ?_⟩
    have h11 := h10.same s11
    have B11 : But g H H11 := B10.trans (s11.but g)
    have tp1 := tp10.same s11
    have tw1 := tw10.same s11
    have tr1 := tr10.but (s11.but g)
    have to1 := trow.same s11
    have T11 := S4.Tabs.same T10 s11
    have e11 : rowsD H11 pv wv rows = rowsD H10 pv wv rows := rowsD_n tr10 (S4.But.n (s11.but g))
    rw [← e11] at d11
    -- the words
    refine lamR0 (K := K) (H0 := H11) (g := g) (p := pv) (wd := wv) (rows := rows) (fun E H1 k h => ⟨_, rfl, _, rfl, _, rfl, h⟩) T11 (ExtN.refl _) tp1 tw1 tr1 h64 fun H12 v12 _ x12 T12 d12 => ⟨by show 1 ≤ sizeLine; decide, fun lw nlw => ?_⟩
    have nw := ExtN.new x12 nlw
    have x13 := ExtN.upd (o' := .lst [v12]) x12 nw
    have T13 := S4.Tabs.same T12 (same_new (o := .lst [v12]) nlw)
    have d13 := d12.keep ((same_new (o := .lst [v12]) nlw).keep)
    have l13 := upd_same (H := H12) (a := lw) (o := .lst [v12])
    generalize upd H12 lw (.lst [v12]) = H13 at *
    refine ⟨_, rfl, .inl ⟨rfl, _, .of l13⟩, ?_⟩
    refine lamR0 (K := K) (H0 := H11) (g := g) (p := pv) (wd := wv) (rows := rows) (fun E H1 k h => ⟨_, rfl, _, rfl, _, rfl, h⟩) T13 x13 tp1 tw1 tr1 h64 fun H14 v14 y14 x14 T14 d14 => ⟨lw, [v12], v14, rfl, rfl, y14.lst l13, by show 1 < sizeLine; decide, ?_⟩
    have l14 := y14.lst l13
    have b15 := But.setL lw H14 (.lst ([v12] ++ [v14]))
    have x15 := ExtN.upd (o' := .lst ([v12] ++ [v14])) x14 nw
    have T15 := Tabs_butL l14 b15 T14
    have da15 := (d13.ext y14).butL l14 b15
    have db15 := d14.butL l14 b15
    have l15 := upd_same (H := H14) (a := lw) (o := .lst ([v12] ++ [v14]))
    generalize upd H14 lw (.lst ([v12] ++ [v14])) = H15 at *
    refine ⟨_, rfl, .inl ⟨rfl, _, .of l15⟩, ?_⟩
    refine lamR0 (K := K) (H0 := H11) (g := g) (p := pv) (wd := wv) (rows := rows) (fun E H1 k h => ⟨_, rfl, _, rfl, _, rfl, h⟩) T15 x15 tp1 tw1 tr1 h64 fun H16 v16 y16 x16 T16 d16 => ⟨lw, _, v16, rfl, rfl, y16.lst l15, by show 2 < sizeLine; decide, ?_⟩
    have l16 := y16.lst l15
    have b17 := But.setL lw H16 (.lst ([v12] ++ [v14] ++ [v16]))
    have x17 := ExtN.upd (o' := .lst ([v12] ++ [v14] ++ [v16])) x16 nw
    have T17 := Tabs_butL l16 b17 T16
    have da17 := (da15.ext y16).butL l16 b17
    have db17 := (db15.ext y16).butL l16 b17
    have dc17 := d16.butL l16 b17
    have l17 := upd_same (H := H16) (a := lw) (o := .lst ([v12] ++ [v14] ++ [v16]))
    generalize upd H16 lw (.lst ([v12] ++ [v14] ++ [v16])) = H17 at *
    -- more
    refine ⟨_, rfl, ?_⟩
    dsimp only [tSeq, gName]
    refine thenS (fun σ' H' => ∃ mv, σ' = [some (.ref g), some (.int kd), some (.ref tt), some dv, some (.ref lw), some mv, none, some pv, some row, some rows, some wv] ∧ Same H17 H' ∧ rDue H' mv (rowD H11 pv wv rows row)) ?_ ?_
    · intro n kk
      refine ⟨_, rfl, ?_⟩
      dsimp only [tC]
      refine due_is (d11.ext x17) (fun e => ?_) (fun ne => ?_)
      rotate_left
      · exact ⟨_, rfl, iteF (kk _ _ ⟨dv, rfl, .refl _, by rw [rowD_no ne]; exact d11.ext x17⟩)⟩
      refine ⟨_, rfl, iteT ?_⟩
      have er := rowD_let (row := row) e
      obtain ⟨n', m', _, _, _, e1, _, e2, _⟩ := rows_typed tr1 e
      subst e1 e2
      refine ⟨_, rfl, _, rfl, _, rfl, g, row, n', m', rfl, to1.butN (ExtN.bn x17), fun H18 s18 => ⟨_, rfl, ?_⟩⟩
      have eb : rowB n' (m' : Int) H17 row = rowB n' (m' : Int) H11 row := rowB_n to1 (ExtN.bn x17)
      rw [eb]
      have er : rowD H11 (.int n') (.int (m' : Int)) rows row = if rowB n' (m' : Int) H11 row = true then .let else .row := er
      cases hb : rowB n' (m' : Int) H11 row with
      | true =>
        rw [hb, if_pos rfl] at er
        refine iteF (kk _ _ ⟨dv, rfl, s18, ?_⟩)
        rw [er, ← e]
        exact (d11.ext x17).keep s18.keep
      | false =>
        rw [hb, if_neg Bool.false_ne_true] at er
        refine iteT (kk _ _ ⟨.str "row", rfl, s18, ?_⟩)
        rw [er]
        rfl
    rintro σ' H18 ⟨mv, rfl, s18, dm⟩
    have x18 := x17.trans s18.extN
    have T18 := S4.Tabs.same T17 s18
    have l18 := s18 _ _ l17
    dsimp only [tSeq, tAsg, gName]
    refine lamW0 (K := K) (H0 := H11) (g := g) (p := pv) (wd := wv) (rows := rows) (row := row) (fun E H1 k h => ⟨_, rfl, _, rfl, _, rfl, _, rfl, h⟩) T18 x18 tp1 tw1 tr1 to1 fun H19 v19 y19 x19 T19 d19 => ⟨by show 1 ≤ sizeLine; decide, fun lo nlo => ?_⟩
    have no := ExtN.new x19 nlo
    have lw19 := y19.lst l18
    have nlw : lw ≠ lo := fun z => by rw [z, nlo] at lw19; cases lw19
    have s20 := same_new (o := .lst [v19]) nlo
    have x20 := ExtN.upd (o' := .lst [v19]) x19 no
    have T20 := S4.Tabs.same T19 s20
    have d20 := d19.keep s20.keep
    have l20 := upd_same (H := H19) (a := lo) (o := .lst [v19])
    generalize upd H19 lo (.lst [v19]) = H20 at *
    refine ⟨_, rfl, .inl ⟨rfl, _, .of l20⟩, ?_⟩
    refine lamW0 (K := K) (H0 := H11) (g := g) (p := pv) (wd := wv) (rows := rows) (row := row) (fun E H1 k h => ⟨_, rfl, _, rfl, _, rfl, _, rfl, h⟩) T20 x20 tp1 tw1 tr1 to1 fun H21 v21 y21 x21 T21 d21 => ⟨lo, [v19], v21, rfl, rfl, y21.lst l20, by show 1 < sizeLine; decide, ?_⟩
    have l21 := y21.lst l20
    have b22 := But.setL lo H21 (.lst ([v19] ++ [v21]))
    have x22 := ExtN.upd (o' := .lst ([v19] ++ [v21])) x21 no
    have T22 := Tabs_butL l21 b22 T21
    have up : ∀ {v : V} {D : Due}, rDue H18 v D → rDue (upd H21 lo (.lst ([v19] ++ [v21]))) v D := fun {v D} d => ((((d.ext y19).keep s20.keep).ext y21).butL l21 b22)
    have de := (d20.ext y21).butL l21 b22
    have df := d21.butL l21 b22
    have lw22 : (upd H21 lo (.lst ([v19] ++ [v21]))) lw = some (.lst ([v12] ++ [v14] ++ [v16])) := by rw [upd_ne nlw]; exact y21.lst (s20 _ _ lw19)
    have l22 := upd_same (H := H21) (a := lo) (o := .lst ([v19] ++ [v21]))
    have da := up (da17.keep s18.keep)
    have db := up (db17.keep s18.keep)
    have dc := up (dc17.keep s18.keep)
    have dd := up ((d11.ext x17).keep s18.keep)
    have dg := up dm
    generalize upd H21 lo (.lst ([v19] ++ [v21])) = H22 at *
    generalize rowsD H11 pv wv rows = Du at *
    generalize rowD H11 pv wv rows row = Dw at *
    dsimp only [tRet]
    refine ⟨_, rfl, _, rfl, by show 1 ≤ sizeLine; decide, fun la nla => ⟨la, 3, [dv], rfl, rfl, upd_same, by decide, by decide, by show 1 * 3 ≤ sizeLine; decide, fun lb nlb => ?_⟩⟩
    have z1 := same_new (o := .lst [dv]) nla
    have z2 := z1.trans (same_new (o := .lst (List.replicate (Int.toNat 3) [dv]).flatten) nlb)
    refine dues_eq (D := Du) (z2 _ _ lw22) upd_same (fun x hx => ?_) (fun x hx => ?_) rfl (by show 3 ≤ 3; decide) ⟨_, rfl, iteT ?_⟩
    · have : x = v12 ∨ x = v14 ∨ x = v16 := by simpa using hx
      rcases this with rfl | rfl | rfl
      · exact da.keep z2.keep
      · exact db.keep z2.keep
      · exact dc.keep z2.keep
    · have : x = dv := by simpa [List.replicate] using hx
      subst this
      exact dd.keep z2.keep
    refine ⟨_, rfl, _, rfl, by show 1 ≤ sizeLine; decide, fun lc nlc => ⟨lc, 2, [mv], rfl, rfl, upd_same, by decide, by decide, by show 1 * 2 ≤ sizeLine; decide, fun le nle => ?_⟩⟩
    have z3 := z2.trans (same_new (o := .lst [mv]) nlc)
    have z4 := z3.trans (same_new (o := .lst (List.replicate (Int.toNat 2) [mv]).flatten) nle)
    refine dues_eq (D := Dw) (z4 _ _ l22) upd_same (fun x hx => ?_) (fun x hx => ?_) rfl (by show 2 ≤ 3; decide) ?_
    · have : x = v19 ∨ x = v21 := by simpa using hx
      rcases this with rfl | rfl
      · exact de.keep z4.keep
      · exact df.keep z4.keep
    · have : x = mv := by simpa [List.replicate] using hx
      subst this
      exact dg.keep z4.keep
    exact q _ ((S4.But.n B11).trans (ExtN.bn (x22.trans z4.extN))) (h11.extN (x22.trans z4.extN)) (S4.Tabs.same T22 z4)

end
end S4

/-! the law -/
namespace S4
open PySem L2 TT MM EE LamX
def spLawT (K : PySem.W.Frag) (TL : List (Addr × Str)) : Sp := fun vs H Q _ => ∃ (a : Addr) (ns : List Int), vs = [.ref a] ∧ SqL K H a (ns.map V.int) ∧ ns.length ≤ 63 ∧ Tabs TL H ∧ ∀ H', Q (.bl true) H'
theorem idx_one {k : Nat} (hk : k < 50) : idxI (fun j => decide (j = k)) = [(k : Int)] := by
  have h : ∀ k, k < 50 → idxI (fun j => decide (j = k)) = [(k : Int)] := by decide +kernel
  exact h k hk
theorem idx_none : idxI (fun _ => false) = [] := by decide +kernel
theorem nx_len : NX.length = 51 := by rfl
theorem nx_ex : ∀ k, k < 50 → ∃ n, NX[k + 1]? = some n := fun k hk => ⟨_, List.getElem?_eq_getElem (by rw [nx_len]; omega)⟩
section
variable {P : Program} {w : World} {K : PySem.W.Frag} {mg : Str → Option Value} {base : Heap} {cT cS : Addr}
/-- each class's own facts, by its number -/
theorem ex_at (T : Tx K mg cT cS) : ∀ (k : Nat) (n : Str), NX[k]? = some n → EX K mg n (adr mg n) := by
  intro k n h
  have hk : k < 51 := by rw [← nx_len]; exact (List.getElem?_eq_some_iff.mp h).1
  have go : ∀ n ∈ NX, EX K mg n (adr mg n) := by
    unfold NX
    simp only [List.mem_append, List.mem_cons, List.not_mem_nil, or_false]
    intro n hn
    rcases hn with ((((((rfl | rfl | rfl | rfl | rfl | rfl | rfl | rfl | rfl) | (rfl | rfl | rfl | rfl | rfl | rfl | rfl | rfl | rfl)) | (rfl | rfl | rfl | rfl | rfl | rfl | rfl | rfl | rfl)) | (rfl | rfl | rfl | rfl | rfl | rfl | rfl | rfl | rfl)) | (rfl | rfl | rfl | rfl | rfl | rfl | rfl | rfl | rfl)) | (rfl | rfl | rfl | rfl | rfl | rfl))
    · exact T.e_TollError
    · exact T.e_NoRows
    · exact T.e_BadTree
    · exact T.e_BadSheet
    · exact T.e_BadRules
    · exact T.e_BadTiming
    · exact T.e_TooMany
    · exact T.e_BadText
    · exact T.e_Barred
    · exact T.e_BadSaid
    · exact T.e_BadAnswer
    · exact T.e_NoMark
    · exact T.e_BadJournal
    · exact T.e_NoName
    · exact T.e_BadTale
    · exact T.e_Failed
    · exact T.e_NoClock
    · exact T.e_NoNumber
    · exact T.e_NoRow
    · exact T.e_NoPost
    · exact T.e_NoWay
    · exact T.e_NoPlan
    · exact T.e_NotRight
    · exact T.e_NotLeast
    · exact T.e_NoGiven
    · exact T.e_NoWays
    · exact T.e_NoOrder
    · exact T.e_NoLot
    · exact T.e_NotUndoable
    · exact T.e_NotAfter
    · exact T.e_NotAlike
    · exact T.e_NoAnswers
    · exact T.e_NoCounts
    · exact T.e_NoTable
    · exact T.e_NotSure
    · exact T.e_NoRule
    · exact T.e_NotRow
    · exact T.e_NoTick
    · exact T.e_NoCut
    · exact T.e_NoHours
    · exact T.e_NotOne
    · exact T.e_NotPlanned
    · exact T.e_NoProgram
    · exact T.e_NoWant
    · exact T.e_NoValue
    · exact T.e_NoValues
    · exact T.e_NotEmpty
    · exact T.e_Full
    · exact T.e_NothingDone
    · exact T.e_NoLine
    · exact T.e_TooLong
  exact go n (List.mem_of_getElem? h)
theorem ok_law (T : Tx K mg cT cS) {f : Addr} {fd : FuncData} (d : D K mg "law" s_law ["script"] f fd) {TL : List (Addr × Str)}
    (LA : ∀ f fd, D K mg "_law_rows_refused" s_law_rows_refused ["hand"] f fd → ∃ c Pt, LamD mg base "_law_rows_refused" fd c Pt TL)
    (LB : ∀ f fd, D K mg "_law_square_refused" s_law_square_refused ["hand"] f fd → ∃ c Pt, LamD mg base "_law_square_refused" fd c Pt TL) : FnOk P w K mg base CX0 27 f fd ["script"] (spLawT K TL) := by
  obtain ⟨f1, fd1, d1⟩ := T.d_law_hand
  have G1 := ok_hand (P := P) (w := w) (base := base) T d1
  obtain ⟨f2, fd2, d2⟩ := T.d_law_odd
  have G2 := ok_odd2 (P := P) (w := w) (base := base) T d2
  obtain ⟨f3, fd3, d3⟩ := T.d_law_errors
  have G3 := ok_errors (P := P) (w := w) (base := base) T d3
  obtain ⟨f4, fd4, d4⟩ := T.d_law_is
  have G4 := ok_isS (P := P) (w := w) (base := base) T d4 25
  obtain ⟨f5, fd5, d5⟩ := T.d_law_classes
  have G5 := ok_classes (P := P) (w := w) (base := base) T d5
  obtain ⟨f6, fd6, d6⟩ := T.d_law_rows_refused
  obtain ⟨c6, P6, L6⟩ := LA f6 fd6 d6; have G6 := ok_rowsR (P := P) (w := w) (base := base) T d6 L6
  obtain ⟨f7, fd7, d7⟩ := T.d_law_square_refused
  obtain ⟨c7, P7, L7⟩ := LB f7 fd7 d7; have G7 := ok_sqR (P := P) (w := w) (base := base) T d7 L7
  refine d.F.ok sc_law (fun vs H Q E h => ?_) (fun cdv A outer s H vs Q E hr h => ?_)
  · obtain ⟨a0, ns, rfl, _⟩ := h
    rfl
  · obtain ⟨a0, ns, rfl, hS, hl, hTb0, q⟩ := h
    refine ⟨_, pss_cons (ps_set (i := 1) sc_law.nd rfl (.inl rfl) (pe_call G1 (hr.mono (by decide)) rfl d1.m d1.F.kp d1.b .nil pass0 (pa_cons (pv 0) pa_nil)))
      (pss_cons (ps_par (i := 2) (j := 3) (by rfl) sc_law.nd rfl rfl (by decide) rfl rfl (pa_cons (pe_call G2 (hr.mono (by decide)) rfl d2.m d2.F.kp d2.b .nil pass0 (pa_cons (pv 1) pa_nil)) (pa_cons (pe_call G2 (hr.mono (by decide)) rfl d2.m d2.F.kp d2.b .nil pass0 (pa_cons (pv 1) pa_nil)) pa_nil)) (by rfl))
      (pss_cons (ps_asg (pe_call G3 (hr.mono (by decide)) rfl d3.m d3.F.kp d3.b .nil pass0 (pa_cons (pv 2) (pa_cons (pv 3) pa_nil))) (pg_tup rfl (pgs_cons (pg_name (i := 4) sc_law.nd rfl (.inl rfl)) (pgs_cons (pg_name (i := 5) sc_law.nd rfl (.inl rfl)) pgs_nil))))
      (pss_cons (ps_for PassesOwn.never rfl (pi_list (pv 5)) (pg_tup rfl (pgs_cons (pg_name (i := 6) sc_law.nd rfl (.inl rfl)) (pgs_cons (pg_name (i := 7) sc_law.nd rfl (.inl rfl)) pgs_nil)))
        (pss_one (ps_if (pt_not (pt_val (pe_call G4 (hr.mono (by decide)) rfl d4.m d4.F.kp d4.b .nil pass0 (pa_cons (pv 6) (pa_cons (pv 7) pa_nil))))) pss_never pss_nil)))
      (pss_cons (ps_for PassesOwn.never rfl (pi_enum (by rfl) T.b_enumerate (pa_cons (pv 4) pa_nil)) (pg_tup rfl (pgs_cons (pg_name (i := 8) sc_law.nd rfl (.inl rfl)) (pgs_cons (pg_name (i := 9) sc_law.nd rfl (.inl rfl)) pgs_nil)))
        (pss_one (ps_if (PW.pt (pw_or (pt_cmpR (op_neD (hu64s hr)) (pe_call G5 (hr.mono (by decide)) rfl d5.m d5.F.kp d5.b .nil pass0 (pa_cons (pv 9) pa_nil)) (pe_lst (pa_cons (pv 8) pa_nil)) (nomark _))
          (pw_or (pt_not (pt_val (pe_callB call_isH (by rfl) T.b_isinstance (by decide +kernel) (pa_cons (pv 9) (pa_cons (pe_glob (v := .ref (adr mg "TollError")) rfl T.e_TollError.m rfl) pa_nil)))))
          (pw_or1 (pt_not (pt_val (pe_callB call_isH (by rfl) T.b_isinstance (by decide +kernel) (pa_cons (pv 9) (pa_cons (pe_bltn (v := .ty "ValueError") (by rfl) T.b_ValueError (by decide +kernel) (u := .type "ValueError") rfl) pa_nil))))))))) pss_never pss_nil)))
      (pss_cons (ps_if (PW.pt (pw_or (pt_not (pt_val (pe_callB call_isH (by rfl) T.b_isinstance (by decide +kernel) (pa_cons (pe_exv0 PySem.F.excBase_ValueError T.p_TollError T.e_TollError.m T.e_TollError.kp rfl) (pa_cons (pe_bltn (v := .ty "ValueError") (by rfl) T.b_ValueError (by decide +kernel) (u := .type "ValueError") rfl) pa_nil)))))
          (pw_or1 (pt_cmpR (op_neD (hu64s hr)) (pe_call G5 (hr.mono (by decide)) rfl d5.m d5.F.kp d5.b .nil pass0 (pa_cons (pe_exv0 PySem.F.excBase_ValueError T.p_TollError T.e_TollError.m T.e_TollError.kp rfl) pa_nil)) (pe_lst pa_nil) (nomark _))))) pss_never pss_nil)
      (pss_cons (ps_for PassesOwn.never rfl (pi_range1 rfl T.b_range (pa_cons pe_int pa_nil)) (pg_name (i := 10) sc_law.nd rfl (.inl rfl))
        (pss_one (ps_if (PW.pt (pw_or (pt_not (pt_val (pe_call G6 (hr.mono (by decide)) rfl d6.m d6.F.kp d6.b .nil pass0 (pa_cons (pv 1) pa_nil))))
          (pw_or1 (pt_not (pt_val (pe_call G7 (hr.mono (by decide)) rfl d7.m d7.F.kp d7.b .nil pass0 (pa_cons (pv 1) pa_nil))))))) pss_never pss_nil)))
      (pss_one (ps_ret pe_bl)))))))), ?_⟩
    dsimp only [tSeq, tAsg]
    refine ⟨_, rfl, a0, ns, rfl, hS, hl, fun H1 g ch s1 ng h1 => ?_⟩
    have T1 := S4.Tabs.same hTb0 s1
    refine gset (σ' := [some (.ref a0), some (.ref g), none, none, none, none, none, none, none, none, none]) rfl ?_
    dsimp only [tSeq, tAsg]
    refine ⟨_, rfl, g, ch, rfl, h1, fun H2 one b2 h2 _ l2 => ⟨_, rfl, g, ch, rfl, h2, fun H3 two b3 h3 _ l3 => ⟨_, _, rfl, ?_⟩⟩⟩
    have l2' := l2.but b3
    have T3 := Tabs_but h1 (b2.trans b3) T1
    clear T1 b2 b3 s1 h1 h2 l2 hTb0 hS
    dsimp only [tSeq, tAsg]
    refine ⟨_, rfl, _, rfl, one, two, rfl, fun H4 t fo ps xs ys s4 ht hfo hps hE htw hpl => ?_⟩
    have h4 := h3.same s4
    have T4 := S4.Tabs.same T3 s4
    have lo4 := l2'.but (s4.but g)
    have lt4 := l3.but (s4.but g)
    clear l2' l3 T3 h3
    refine ⟨t, _, rfl, .of ht, rfl, _, _, rfl, _, _, rfl, rfl, ?_⟩
    refine gset (σ' := [some (.ref a0), some (.ref g), some one, some two, some (.ref fo), some (.ref ps), none, none, none, none, none]) rfl ?_
    -- what is kept
    dsimp only [tSeq]
    refine ⟨_, rfl, ps, rfl, ⟨_, .of hps⟩, ?_⟩
    refine for_it (walk_list (xs := ys)) (fun i σ H' => Same H4 H' ∧ ∃ x6 x7, σ = [some (.ref a0), some (.ref g), some one, some two, some (.ref fo), some (.ref ps), x6, x7, none, none, none]) ⟨.refl _, none, none, rfl⟩ (fun i σ H' _ h => .of (h.1 _ _ hps)) ?_ ?_
    · rintro i x σ H5 H6 hi ⟨s5, x6, x7, rfl⟩ ⟨rfl, hx⟩
      obtain ⟨q', v, rfl, hq, hv⟩ := htw x (List.mem_of_getElem? hx)
      have lv : Like g H6 25 v := by
        rcases hv with rfl | rfl
        · exact lo4.but (s5.but g)
        · exact lt4.but (s5.but g)
      refine ⟨q', _, rfl, .of (s5 _ _ hq), rfl, _, _, rfl, _, _, rfl, rfl, ?_⟩
      exact ⟨_, rfl, _, rfl, v, v, rfl, lv.self, fun H7 s7 => ⟨_, rfl, iteF ⟨s5.trans s7, _, _, rfl⟩⟩⟩
    rintro σ H5 ⟨s5, x6, x7, rfl⟩
    have h5 := h4.same s5
    have T5 := S4.Tabs.same T4 s5
    have hfo5 := s5 _ _ hfo
    have hE5 := errL_same s5 hE
    clear hE hfo hps htw lo4 lt4 T4 h4 s5 s4 hpl
    -- the classes
    have hT0 : NX[0]? = some ("TollError" : Str) := rfl
    have hs0 : PySem.W.subIn K (.ref (adr mg "TollError")) (.ref (adr mg "TollError")) = some true := subN T.u_all hT0 hT0
    dsimp only [tSeq]
    refine ⟨_, rfl, fo, xs, rfl, .of hfo5, ?_⟩
    refine for_it (walk_enum (xs := xs)) (fun i σ H' => Same H5 H' ∧ ∃ x8 x9, σ = [some (.ref a0), some (.ref g), some one, some two, some (.ref fo), some (.ref ps), x6, x7, x8, x9, none]) ⟨.refl _, none, none, rfl⟩ (fun i σ H' _ h => .of (h.1 _ _ hfo5)) ?_ ?_
    · rintro i x σ H6 H7 hi ⟨s6, x8, x9, rfl⟩ ⟨tz, u1, u2, rfl, nz, rfl, e1, e2⟩
      cases (Option.some.inj e1)
      obtain ⟨n, hn, a, dd, rfl, ha, hd⟩ := paired_get hE5 e2
      have hn' : NX[i + 1]? = some n := by rw [List.getElem?_drop, Nat.add_comm] at hn; exact hn
      have hi50 : i < 50 := by have := (List.getElem?_eq_some_iff.mp hn').1; rw [nx_len] at this; omega
      have eX := ex_at T (i + 1) n hn'
      have s7 := s6.trans (same_new (o := .tup [V.int (i : Nat), V.ref a]) nz)
      refine ⟨tz, _, rfl, .of upd_same, rfl, _, _, rfl, _, _, rfl, rfl, ?_⟩
      refine ⟨_, rfl, a, adr mg n, dd, fun j => decide (j = i), rfl, s7 _ _ ha, xdo_same s7 hd, eX.ec, (fun j m hj hm => ?_), fun H8 l8 s8 hl8 => ⟨_, rfl, by show 1 ≤ sizeLine; decide, fun l9 nl9 => ?_⟩⟩
      · rw [subN T.u_all hn' hm]
        by_cases e : j = i
        · subst e; simp
        · have : ¬ (i + 1 = j + 1) := by omega
          simp [e, this]
          try omega
      have s9 := s8.trans (same_new (o := .lst [V.int (i : Nat)]) nl9)
      have s79 := s7.trans s9
      rw [idx_one hi50] at hl8
      have sh : SeqAt.shaped (.list [.int (i : Nat)]) = true := by
        unfold SeqAt.shaped
        rw [Bool.and_eq_true, decide_eq_true_iff]
        exact ⟨by simp [PyData.canLay0, PyData.canLayAll0]; try decide +kernel, by simp [PyData.depth, PyData.depthAll]⟩
      refine ⟨_, _, .lst (.of ((same_new nl9) _ _ hl8)) (.cons (.int _) .nil), .lst (.of upd_same) (.cons (.int _) .nil), sh, sh, ?_⟩
      rw [show PyData.eqv (.list [.int (i : Nat)]) (.list [.int (i : Nat)]) = true by simp [PyData.eqv, PyData.eqvAll]]
      refine ⟨_, rfl, iteF ?_⟩
      refine ⟨_, rfl, a, _, dd, _, _, _, rfl, s79 _ _ ha, xdo_same s79 hd, eX.ec, ref_cls, kit_sub T.e_TollError.ec.hd T.e_TollError.ty hs0 (subN T.u_all hn' hT0), _, rfl, ?_⟩
      refine iteF' (by simp) ?_
      exact ⟨_, rfl, a, _, dd, _, _, _, rfl, s79 _ _ ha, xdo_same s79 hd, eX.ec, ty_cls, eX.ve, _, rfl, iteF ⟨s79, _, _, rfl⟩⟩
    rintro σ H6 ⟨s6, x8, x9, rfl⟩
    have h6 := h5.same s6
    have T6 := S4.Tabs.same T5 s6
    clear hE5 hfo5 T5 h5 s6
    -- of itself
    dsimp only [tSeq]
    refine fun e1 n1 => ⟨e1, adr mg "TollError", none, _, _, true, rfl, upd_same, trivial, T.e_TollError.ec, ty_cls, T.e_TollError.ve, _, rfl, iteF ?_⟩
    have s7 := same_new (o := exo e1 (adr mg "TollError") none) n1
    refine fun e2 n2 => ⟨e2, adr mg "TollError", none, fun _ => false, rfl, upd_same, trivial, T.e_TollError.ec, (fun j m hj hm => by rw [subN T.u_all hT0 hm]; rfl), fun H8 l8 s8 hl8 => ⟨by show 0 ≤ sizeLine; decide, fun l9 nl9 => ?_⟩⟩
    have s9 := ((s7.trans (same_new (o := exo e2 (adr mg "TollError") none) n2)).trans s8).trans (same_new (o := .lst []) nl9)
    rw [idx_none] at hl8
    refine ⟨_, _, .lst (.of ((same_new nl9) _ _ hl8)) .nil, .lst (.of upd_same) .nil, by decide +kernel, by decide +kernel, ⟨_, rfl, ?_⟩⟩
    refine iteF' (by decide +kernel) ?_
    have h9 := h6.same s9
    have T9 := S4.Tabs.same T6 s9
    generalize upd H8 l9 (.lst []) = H9 at *
    clear s9 T6 h6
    refine ⟨_, rfl, by decide, by decide, ?_⟩
    refine for_it (walk_range (lo := 0) (n := (6 : Int).toNat)) (fun i σ H' => Hand g ch H' ∧ Tabs TL H' ∧ ∃ x10, σ = [some (.ref a0), some (.ref g), some one, some two, some (.ref fo), some (.ref ps), x6, x7, x8, x9, x10]) ⟨h9, T9, none, rfl⟩ (fun _ _ _ _ _ => trivial) ?_ ?_
    · rintro i x σ H10 H11 hi ⟨h10, T10, x10, rfl⟩ ⟨rfl, rfl⟩
      exact ⟨_, rfl, g, ch, rfl, h10, T10, fun H12 b12 h12 T12 => ⟨_, rfl, iteF ⟨_, rfl, g, ch, rfl, h12, T12, fun H13 b13 h13 T13 => ⟨_, rfl, iteF ⟨h13, T13, _, rfl⟩⟩⟩⟩⟩
    · rintro σ H10 ⟨h10, T10, x10, rfl⟩
      exact q _
end
end S4

/-! the end of a law whose defs make lambdas -/
namespace S4
open PySem L2 TT EE MM LamX
def AllTab (q : Program) (K : PySem.W.Frag) (h : Heap) : Prop := ∀ (x : Str) (c P : Addr), ((PyProof.Rows.recsOf q).any fun e => e.name == x) = true → PySem.W.tabIn K x = some (c, P) → PySem.W.CodeHd h c P ∧ h.get? P = some { cls := .none, data := .fields #[] }
theorem walk_lam {l : PySem.W.OpenLaw} {n k : Nat} {q : Program} {loose : List Str} {XP : (Str → Option Value) → Heap → Prop} {YP : World → Heap → Prop} {d : DefRec} {K : Params → PySem.W.Frag} {CX : World → CXT} {x : Str}
    (hn : l.most = some n) (hn2 : n ≤ sizeLine) (hdf : d.params.defaults = []) (hr : Room k callerA) (hY : ∀ (w : World) (h : Heap), YP w h → (K w.params).In h)
    (F : ∀ (w : World) (mg : Str → Option Value) (fa : Addr) (h : Heap), YP w h → (K w.params).In h → h.Ns mainGlobals mg → mg d.name = some (.ref fa) → AllTab q (K w.params) h → LawAtS l w (K w.params) (CX w) k n x mg fa h)
    (hCX : ∀ (w : World) (H : Hp) (s : Shared) (e : Value) (s' : Shared), CX w [] H s (fun _ _ _ => False) e s' → False) :
    PySem.W.WalkO q loose XP YP l.row.toRowW d [] (fun f vs => PySem.call f vs) := by
  refine Att.attach_callB hn hdf fun w s₀ s₁ mg mb fa o pm cd doc a vs ns G Y ho hd hcd hmg hobj hints hlen hbits hg => ?_
  have KX := hY w _ Y
  have all : AllTab q (K w.params) s₁.heap := fun x c P hx ht => by
    obtain ⟨dL, hm, hn1⟩ := List.any_eq_true.mp hx
    have hf : ((PyProof.Rows.recsOf q).find? fun e => e.name == x).isSome = true := List.find?_isSome.mpr ⟨dL, hm, hn1⟩
    obtain ⟨d2, hd2⟩ := Option.isSome_iff_exists.mp hf
    exact PySem.W.tab_of G.T KX hd2 ht
  obtain ⟨fd, cs, sp, hT, nT, C, hb, hsp, hF⟩ := F w mg fa _ Y KX G.T.g hmg all
  exact law_callTs KX G.T.g G.T.b G.T.builtins G.T.nolimit hg hT nT C G.T.bmain hobj hints (Nat.le_trans hlen hn2) hr hF hb (fun H hH hS => hsp H a ns hlen hbits hH hS) fun H e s' => hCX w H s₁ e s'
end S4

namespace S4
open PySem L2 TT EE MM LamX
theorem dc_mk {K : PySem.W.Frag} {h : Heap} {mg : Str → Option Value} {x q : Str} {st : Stmt} {ps fl : List Str} {C f : Addr} {oc : Value} {od an : Option Addr} {osl : Array (Option Value)} {kV doc pm cdv ct : Value} (X : K.In h) (G : h.Ns mainGlobals mg)
    (hb : ∀ (kV doc pm : Value) (an : Option Addr) (cdv ct : Value) (us : List Value), us.length = ps.length → bindArgs (PySem.W.fnOf "__init__" q (defArgs st) (defBody st) (defScope st) .none kV doc pm an cdv ct) ⟨us, []⟩ = pure (ps.zip us))
    (aC : mg x = some (.ref C))
    (a : PySem.W.findIn K (.ref C) "__init__" = some (some (.ref f))) (i : PySem.W.isFn K (.ref f) = true)
    (l : K.lookup f = some ⟨oc, od, .func (PySem.W.fnOf "__init__" q (defArgs st) (defBody st) (defScope st) .none kV doc pm an cdv ct), osl⟩) (c : PySem.W.codeIn K cdv q = true) (k : PySem.W.keepIn K (.ref f) = true)
    (mk : PySem.W.makesIn K C = true) (kc : PySem.W.keepIn K (.ref C) = true)
    (pg : PySem.W.plainGet K C Str.empty = true) (hd : PySem.W.hasDictIn K C = true) (po : PySem.W.plainOver K C = true) (sa : PySem.W.findIn K (.ref C) "__setattr__" = some (some (.builtin "object.__setattr__")))
    (na : ∀ y ∈ fl, NoAttr K C y) : ∃ f fd, DC K mg x q st ps fl C f fd :=
  ⟨f, _, fun_mk l c k, (fun_mk l c k).binds hb, aC, ⟨mk, a, i, kc⟩, ⟨pg, hd, po, sa⟩, na⟩
theorem dm_mk {K : PySem.W.Frag} {m q : Str} {st : Stmt} {ps : List Str} {C f : Addr} {oc : Value} {od an : Option Addr} {osl : Array (Option Value)} {kV doc pm cdv ct : Value}
    (hb : ∀ (kV doc pm : Value) (an : Option Addr) (cdv ct : Value) (us : List Value), us.length = ps.length → bindArgs (PySem.W.fnOf m q (defArgs st) (defBody st) (defScope st) .none kV doc pm an cdv ct) ⟨us, []⟩ = pure (ps.zip us))
    (a : PySem.W.findIn K (.ref C) m = some (some (.ref f))) (i : PySem.W.isFn K (.ref f) = true)
    (l : K.lookup f = some ⟨oc, od, .func (PySem.W.fnOf m q (defArgs st) (defBody st) (defScope st) .none kV doc pm an cdv ct), osl⟩) (c : PySem.W.codeIn K cdv q = true) (k : PySem.W.keepIn K (.ref f) = true) : ∃ f fd, DM K m q st ps C f fd :=
  ⟨f, _, fun_mk l c k, (fun_mk l c k).binds hb, a, i⟩
theorem ei_mk {K : PySem.W.Frag} {q : Str} {st : Stmt} {ps fl : List Str} {C f : Addr} {oc : Value} {od an : Option Addr} {osl : Array (Option Value)} {kV doc pm cdv ct : Value}
    {nm qn : Str} {N : Addr} {bs bm : List Value} {sn : List Str} {sub : List Value} {ab : Bool} {col : Option Bool} {dd : Option Addr} {m0 m1 m2 m3 m5 : Option Value}
    (hb : ∀ (kV doc pm : Value) (an : Option Addr) (cdv ct : Value) (us : List Value), us.length = ps.length → bindArgs (PySem.W.fnOf "__init__" q (defArgs st) (defBody st) (defScope st) .none kV doc pm an cdv ct) ⟨us, []⟩ = pure (ps.zip us))
    (xL : K.lookup C = some (PySem.excClassObj nm qn C N bs bm true sn sub ab col dd m0 m1 m2 m3 m5 "ValueError.__new__")) (rv : PySem.HandSPX.refsVE bm = true)
    (sa : PySem.W.findIn K (.ref C) "__setattr__" = some (some (.builtin "object.__setattr__"))) (eC : PySem.W.subIn K (.ref C) (.type "BaseException") = some true) (tC : PySem.W.typeIn K (.ref C) = some (.type "type")) (kC : PySem.W.keepIn K (.ref C) = true)
    (a : PySem.W.findIn K (.ref C) "__init__" = some (some (.ref f))) (t1 : PySem.W.typeIn K (.ref f) = some (.type "function"))
    (l : K.lookup f = some ⟨oc, od, .func (PySem.W.fnOf "__init__" q (defArgs st) (defBody st) (defScope st) .none kV doc pm an cdv ct), osl⟩) (c : PySem.W.codeIn K cdv q = true) (k : PySem.W.keepIn K (.ref f) = true)
    (no : ∀ y ∈ fl, PySem.W.findIn K (.ref C) y = some none) : ∃ f fd, EI K q st ps fl C f fd :=
  ⟨f, _, fun_mk l c k, (fun_mk l c k).binds hb, ⟨⟨nm, qn, N, bs, bm, sn, sub, ab, col, dd, m0, m1, m2, m3, m5, xL, rv⟩, sa, eC, tC, kC⟩, a, t1, no⟩
theorem cls_of {K : PySem.W.Frag} {h : Heap} {mg : Str → Option Value} {x : Str} {C : Addr} (X : K.In h) (G : h.Ns mainGlobals mg) (a : PySem.W.nsIn K mainGlobals x = some (some (.ref C))) : mg x = some (.ref C) := PySem.W.mg_of X G a
theorem kit_ve {K : PySem.W.Frag} {C : Addr} (h : PySem.W.subIn K (.ref C) (.type "ValueError") = some true) : PySem.W.kitOne K (.ref C) (.type "ValueError") = some true := by
  unfold PySem.W.kitOne
  rw [if_neg (by simp)]
  show (if PySem.W.kitMeta "ValueError" = true then PySem.W.subIn K (.ref C) (.type "ValueError") else none) = some true
  rw [if_pos (by decide +kernel)]
  exact h
theorem kit_self (K : PySem.W.Frag) (C : Addr) : PySem.W.kitOne K (.ref C) (.ref C) = some true := if_pos (beq_self_eq_true _)
theorem use {a b : Prop} (h : a) (f : a → b) : b := f h
theorem int_mk {mg : Str → Option Value} {x : Str} {v : Value} {n : Int} (h : mg x = some v) (e : ∃ t, v = .int n t) : ∃ t, mg x = some (.int n t) := by
  obtain ⟨t, rfl⟩ := e
  exact ⟨t, h⟩
theorem lam_code {K : PySem.W.Frag} {mg : Str → Option Value} {h : Heap} {x : Str} {st : Stmt} {ps : List Str} {f : Addr} {fd : FuncData} {c P : Addr} (KX : K.In h) (G : h.Ns mainGlobals mg) (d : D K mg x st ps f fd) (t : PySem.W.tabIn K x = some (c, P)) : fd.code = .ref c := by
  obtain ⟨oc, od, kV, doc, pm, an, cdv, ct, osl, rfl, lk, hcd⟩ := d.F.ex
  exact PySem.W.law_code KX G t d.m (KX _ _ lk) rfl
theorem tab_mk {K : PySem.W.Frag} {x : Str} {f c P : Addr} {oc oc' : Value} {od od' : Option Addr} {fd : FuncData} {osl osl' : Array (Option Value)} {vs : Array Value} (a : PySem.W.nsIn K mainGlobals x = some (some (.ref f))) (l : K.lookup f = some ⟨oc, od, .func fd, osl⟩) (hc : fd.code = .ref c)
    (k : K.lookup c = some ⟨oc', od', .fields vs, osl'⟩) (hp : (vs[11]? : Option Value) = some (.ref P)) : PySem.W.tabIn K x = some (c, P) := by
  unfold PySem.W.tabIn
  rw [a]
  simp only
  rw [l]
  simp only
  rw [hc]
  simp only
  rw [k]
  simp only
  rw [hp]
def tabsL (P1 P2 : Addr) : List (Addr × Str) := [(P1, "_law_rows_refused" ++ ".<locals>." ++ "<lambda>"), (P2, "_law_square_refused" ++ ".<locals>." ++ "<lambda>")]
theorem all_mk {l : PySem.W.OpenLaw} {q : Program} {w : World} {K : PySem.W.Frag} {mg : Str → Option Value} {fa : Addr} {h : Heap} {cT cS : Addr} {c1 P1 c2 P2 : Addr} (KX : K.In h) (G : h.Ns mainGlobals mg) (hfa : mg "law" = some (.ref fa)) (all : AllTab q K h)
    (r1 : ((PyProof.Rows.recsOf q).any fun e => e.name == "_law_rows_refused") = true) (r2 : ((PyProof.Rows.recsOf q).any fun e => e.name == "_law_square_refused") = true) (t1 : PySem.W.tabIn K "_law_rows_refused" = some (c1, P1)) (t2 : PySem.W.tabIn K "_law_square_refused" = some (c2, P2)) (n1 : K.lookup P1 = none) (n2 : K.lookup P2 = none) (ne1_2 : P1 ≠ P2) (T : Tx K mg cT cS) :
    LawAtS l w K CX0 27 63 "script" mg fa h := by
  obtain ⟨f, fd, d⟩ := T.d_law
  have e := hfa.symm.trans d.m
  cases e
  obtain ⟨a1, b1⟩ := all _ _ _ r1 t1
  obtain ⟨a2, b2⟩ := all _ _ _ r2 t2
  refine ⟨fd, [(c1, P1), (c2, P2)], spLawT K (tabsL P1 P2), fun p hp => ?_, fun p hp => ?_, fun p hp => ?_, ?_, fun H a ns hl _ hT hS => ?_, fun base KB GB tb => ?_⟩
  · simp only [List.mem_cons, List.not_mem_nil, or_false] at hp
    rcases hp with rfl | rfl
    · exact b1
    · exact b2
  · simp only [List.mem_cons, List.not_mem_nil, or_false] at hp
    rcases hp with rfl | rfl
    · exact n1
    · exact n2
  · simp only [List.mem_cons, List.not_mem_nil, or_false] at hp
    rcases hp with rfl | rfl
    · exact a1
    · exact a2
  · obtain ⟨oc, od, kV, doc, pm, an, cdv, ct, osl, rfl, lk, hcd⟩ := d.F.ex
    exact fun s v => .of_eq rfl
  · refine ⟨a, ns, rfl, hS, hl, fun p hp => ?_, fun _ => rfl⟩
    unfold tabsL at hp
    simp only [List.mem_cons, List.not_mem_nil, or_false] at hp
    rcases hp with rfl | rfl
    · exact TabS.nil (hT (c1, P1) (by simp))
    · exact TabS.nil (hT (c2, P2) (by simp))
  · refine ok_law T d  (TL := tabsL P1 P2) (fun f2 fd2 d2 => ⟨c1, P1, lam_code KX G d2 t1, tb (c1, P1) (by simp), by unfold tabsL; simp, fun p hp e => ?_⟩) (fun f2 fd2 d2 => ⟨c2, P2, lam_code KX G d2 t2, tb (c2, P2) (by simp), by unfold tabsL; simp, fun p hp e => ?_⟩)
    · unfold tabsL at hp
      simp only [List.mem_cons, List.not_mem_nil, or_false] at hp
      rcases hp with rfl | rfl
      · rfl
      · exact absurd e.symm ne1_2
    · unfold tabsL at hp
      simp only [List.mem_cons, List.not_mem_nil, or_false] at hp
      rcases hp with rfl | rfl
      · exact absurd e ne1_2
      · rfl
theorem walk {l : PySem.W.OpenLaw} {q : Program} {loose : List Str} {XP : (Str → Option Value) → Heap → Prop} {YP : World → Heap → Prop} {d : DefRec} {K : Params → PySem.W.Frag} (hn : l.most = some 63) (hdf : d.params.defaults = [])
    (hY : ∀ (w : World) (h : Heap), YP w h → (K w.params).In h)
    (F : ∀ (w : World) (mg : Str → Option Value) (fa : Addr) (h : Heap), YP w h → (K w.params).In h → h.Ns mainGlobals mg → mg d.name = some (.ref fa) → AllTab q (K w.params) h → LawAtS l w (K w.params) CX0 27 63 "script" mg fa h) :
    PySem.W.WalkO q loose XP YP l.row.toRowW d [] (fun f vs => PySem.call f vs) :=
  walk_lam (n := 63) (k := 27) (x := "script") (CX := fun _ => CX0) hn (by decide) hdf ⟨rfl, by decide, by decide⟩ hY F fun _ _ _ _ _ z => z
end S4

open PySem PySem.W PyProof.Rows in
set_option maxRecDepth 100000 in
set_option maxHeartbeats 0 in
theorem PySem.Challenge.cw_sametolls_k00_errors_kept_and_rows_refus_holds : PySem.Challenge.rw_sametolls_k00_errors_kept_and_rows_refus.Holds := by
  w_on; o_law
  refine HeadRun.head_any (r := OpenLaw.row PySem.Challenge.rw_sametolls_k00_errors_kept_and_rows_refus) (q := HDS.qv) (H := kHook HDS.hV.heap_1 HDS.as9 HDS.ek) (ob := fun s => HDS.as9.map (HeadRun.getT s)) (loose := HDS.loose) (kwd := []) HDS.obs HDS.opens HDS.fenced HDS.run (by rfl) (by rfl) (by rfl) (by rfl) (by first | assumption | decide +kernel) (by decide +kernel) ⟨rfl, rfl, rfl, rfl, rfl, by decide +kernel⟩ ?hw ?hc
  case hw => w_witness2
  k_fill
  refine S4.walk (l := PySem.Challenge.rw_sametolls_k00_errors_kept_and_rows_refus) rfl rfl (fun w h Y => PySem.W.kIn_of Y) ?F
  case F =>
    intro w mg fa h Y KX G hmg all
    refine' S4.use (S4.cls_of (x := "TollError") KX G ?a) (fun m_TollError => ?_)
    (case a => k_is)
    refine' S4.use (S4.cls_of (x := "NoClock") KX G ?a) (fun m_NoClock => ?_)
    (case a => k_is)
    refine' S4.use (S4.cls_of (x := "NoNumber") KX G ?a) (fun m_NoNumber => ?_)
    (case a => k_is)
    refine' S4.use (S4.cls_of (x := "NoRow") KX G ?a) (fun m_NoRow => ?_)
    (case a => k_is)
    refine' S4.use (S4.cls_of (x := "NoPost") KX G ?a) (fun m_NoPost => ?_)
    (case a => k_is)
    refine' S4.use (S4.cls_of (x := "NoWay") KX G ?a) (fun m_NoWay => ?_)
    (case a => k_is)
    refine' S4.use (S4.cls_of (x := "NoPlan") KX G ?a) (fun m_NoPlan => ?_)
    (case a => k_is)
    refine' S4.use (S4.cls_of (x := "NotRight") KX G ?a) (fun m_NotRight => ?_)
    (case a => k_is)
    refine' S4.use (S4.cls_of (x := "NotLeast") KX G ?a) (fun m_NotLeast => ?_)
    (case a => k_is)
    refine' S4.use (S4.cls_of (x := "NoGiven") KX G ?a) (fun m_NoGiven => ?_)
    (case a => k_is)
    refine' S4.use (S4.cls_of (x := "NoWays") KX G ?a) (fun m_NoWays => ?_)
    (case a => k_is)
    refine' S4.use (S4.cls_of (x := "NoOrder") KX G ?a) (fun m_NoOrder => ?_)
    (case a => k_is)
    refine' S4.use (S4.cls_of (x := "NoLot") KX G ?a) (fun m_NoLot => ?_)
    (case a => k_is)
    refine' S4.use (S4.cls_of (x := "NotUndoable") KX G ?a) (fun m_NotUndoable => ?_)
    (case a => k_is)
    refine' S4.use (S4.cls_of (x := "NotAfter") KX G ?a) (fun m_NotAfter => ?_)
    (case a => k_is)
    refine' S4.use (S4.cls_of (x := "NotAlike") KX G ?a) (fun m_NotAlike => ?_)
    (case a => k_is)
    refine' S4.use (S4.cls_of (x := "NoAnswers") KX G ?a) (fun m_NoAnswers => ?_)
    (case a => k_is)
    refine' S4.use (S4.cls_of (x := "NoCounts") KX G ?a) (fun m_NoCounts => ?_)
    (case a => k_is)
    refine' S4.use (S4.cls_of (x := "NoTable") KX G ?a) (fun m_NoTable => ?_)
    (case a => k_is)
    refine' S4.use (S4.cls_of (x := "NotSure") KX G ?a) (fun m_NotSure => ?_)
    (case a => k_is)
    refine' S4.use (S4.cls_of (x := "NoRule") KX G ?a) (fun m_NoRule => ?_)
    (case a => k_is)
    refine' S4.use (S4.cls_of (x := "NotRow") KX G ?a) (fun m_NotRow => ?_)
    (case a => k_is)
    refine' S4.use (S4.cls_of (x := "NoTick") KX G ?a) (fun m_NoTick => ?_)
    (case a => k_is)
    refine' S4.use (S4.cls_of (x := "NoCut") KX G ?a) (fun m_NoCut => ?_)
    (case a => k_is)
    refine' S4.use (S4.cls_of (x := "NoHours") KX G ?a) (fun m_NoHours => ?_)
    (case a => k_is)
    refine' S4.use (S4.cls_of (x := "NotOne") KX G ?a) (fun m_NotOne => ?_)
    (case a => k_is)
    refine' S4.use (S4.cls_of (x := "NotPlanned") KX G ?a) (fun m_NotPlanned => ?_)
    (case a => k_is)
    refine' S4.use (S4.cls_of (x := "NoProgram") KX G ?a) (fun m_NoProgram => ?_)
    (case a => k_is)
    refine' S4.use (S4.cls_of (x := "NoWant") KX G ?a) (fun m_NoWant => ?_)
    (case a => k_is)
    refine' S4.use (S4.cls_of (x := "NoValue") KX G ?a) (fun m_NoValue => ?_)
    (case a => k_is)
    refine' S4.use (S4.cls_of (x := "NoValues") KX G ?a) (fun m_NoValues => ?_)
    (case a => k_is)
    refine' S4.use (S4.cls_of (x := "NotEmpty") KX G ?a) (fun m_NotEmpty => ?_)
    (case a => k_is)
    refine' S4.use (S4.cls_of (x := "Full") KX G ?a) (fun m_Full => ?_)
    (case a => k_is)
    refine' S4.use (S4.cls_of (x := "NothingDone") KX G ?a) (fun m_NothingDone => ?_)
    (case a => k_is)
    refine' S4.use (S4.cls_of (x := "NoLine") KX G ?a) (fun m_NoLine => ?_)
    (case a => k_is)
    refine' S4.use (S4.cls_of (x := "TooLong") KX G ?a) (fun m_TooLong => ?_)
    (case a => k_is)
    refine' S4.use (S4.cls_of (x := "NoRows") KX G ?a) (fun m_NoRows => ?_)
    (case a => k_is)
    refine' S4.use (S4.cls_of (x := "BadTree") KX G ?a) (fun m_BadTree => ?_)
    (case a => k_is)
    refine' S4.use (S4.cls_of (x := "BadSheet") KX G ?a) (fun m_BadSheet => ?_)
    (case a => k_is)
    refine' S4.use (S4.cls_of (x := "BadRules") KX G ?a) (fun m_BadRules => ?_)
    (case a => k_is)
    refine' S4.use (S4.cls_of (x := "BadTiming") KX G ?a) (fun m_BadTiming => ?_)
    (case a => k_is)
    refine' S4.use (S4.cls_of (x := "TooMany") KX G ?a) (fun m_TooMany => ?_)
    (case a => k_is)
    refine' S4.use (S4.cls_of (x := "BadText") KX G ?a) (fun m_BadText => ?_)
    (case a => k_is)
    refine' S4.use (S4.cls_of (x := "Barred") KX G ?a) (fun m_Barred => ?_)
    (case a => k_is)
    refine' S4.use (S4.cls_of (x := "BadSaid") KX G ?a) (fun m_BadSaid => ?_)
    (case a => k_is)
    refine' S4.use (S4.cls_of (x := "BadAnswer") KX G ?a) (fun m_BadAnswer => ?_)
    (case a => k_is)
    refine' S4.use (S4.cls_of (x := "NoMark") KX G ?a) (fun m_NoMark => ?_)
    (case a => k_is)
    refine' S4.use (S4.cls_of (x := "BadJournal") KX G ?a) (fun m_BadJournal => ?_)
    (case a => k_is)
    refine' S4.use (S4.cls_of (x := "NoName") KX G ?a) (fun m_NoName => ?_)
    (case a => k_is)
    refine' S4.use (S4.cls_of (x := "BadTale") KX G ?a) (fun m_BadTale => ?_)
    (case a => k_is)
    refine' S4.use (S4.cls_of (x := "Failed") KX G ?a) (fun m_Failed => ?_)
    (case a => k_is)
    have b_abs : mg "abs" = none := PySem.W.mg_none_of KX G (by k_is)
    have b_all : mg "all" = none := PySem.W.mg_none_of KX G (by k_is)
    have b_bool : mg "bool" = none := PySem.W.mg_none_of KX G (by k_is)
    have b_enumerate : mg "enumerate" = none := PySem.W.mg_none_of KX G (by k_is)
    have b_int : mg "int" = none := PySem.W.mg_none_of KX G (by k_is)
    have b_isinstance : mg "isinstance" = none := PySem.W.mg_none_of KX G (by k_is)
    have b_len : mg "len" = none := PySem.W.mg_none_of KX G (by k_is)
    have b_list : mg "list" = none := PySem.W.mg_none_of KX G (by k_is)
    have b_range : mg "range" = none := PySem.W.mg_none_of KX G (by k_is)
    have b_sorted : mg "sorted" = none := PySem.W.mg_none_of KX G (by k_is)
    have b_tuple : mg "tuple" = none := PySem.W.mg_none_of KX G (by k_is)
    have b_zip : mg "zip" = none := PySem.W.mg_none_of KX G (by k_is)
    have c_MOST_HOURS : ∃ t, mg "MOST_HOURS" = some (.int 1000000 t) := by
      refine' S4.int_mk (PySem.W.mg_of KX G ?a) ?e
      (case a => k_is)
      (case e => exact ⟨_, rfl⟩)
    have c_MOST_WIDE : ∃ t, mg "MOST_WIDE" = some (.int 200 t) := by
      refine' S4.int_mk (PySem.W.mg_of KX G ?a) ?e
      (case a => k_is)
      (case e => exact ⟨_, rfl⟩)
    have c_MOST_ROWS : ∃ t, mg "MOST_ROWS" = some (.int 200 t) := by
      refine' S4.int_mk (PySem.W.mg_of KX G ?a) ?e
      (case a => k_is)
      (case e => exact ⟨_, rfl⟩)
    have c_MOST_SIDE : ∃ t, mg "MOST_SIDE" = some (.int 60 t) := by
      refine' S4.int_mk (PySem.W.mg_of KX G ?a) ?e
      (case a => k_is)
      (case e => exact ⟨_, rfl⟩)
    refine' S4.use (S4.DE.mk (x := "is_integer") (st := S4.s_is_integer) (ps := ["thing"]) KX G (fun _ _ _ _ _ _ us hl => match us, hl with | [_], _ => rfl) ?a ?l ?c ?k) (fun d_is_integer => ?_)
    (case a => k_is)
    (case l => k_is)
    (case c => k_is)
    (case k => k_is)
    refine' S4.use (S4.DE.mk (x := "is_below") (st := S4.s_is_below) (ps := ["thing", "end"]) KX G (fun _ _ _ _ _ _ us hl => match us, hl with | [_, _], _ => rfl) ?a ?l ?c ?k) (fun d_is_below => ?_)
    (case a => k_is)
    (case l => k_is)
    (case c => k_is)
    (case k => k_is)
    refine' S4.use (S4.DE.mk (x := "is_row") (st := S4.s_is_row) (ps := ["thing", "p", "wide"]) KX G (fun _ _ _ _ _ _ us hl => match us, hl with | [_, _, _], _ => rfl) ?a ?l ?c ?k) (fun d_is_row => ?_)
    (case a => k_is)
    (case l => k_is)
    (case c => k_is)
    (case k => k_is)
    refine' S4.use (S4.DE.mk (x := "is_clock") (st := S4.s_is_clock) (ps := ["thing"]) KX G (fun _ _ _ _ _ _ us hl => match us, hl with | [_], _ => rfl) ?a ?l ?c ?k) (fun d_is_clock => ?_)
    (case a => k_is)
    (case l => k_is)
    (case c => k_is)
    (case k => k_is)
    refine' S4.use (S4.DE.mk (x := "ladder") (st := S4.s_ladder) (ps := ["p", "wide", "rows"]) KX G (fun _ _ _ _ _ _ us hl => match us, hl with | [_, _, _], _ => rfl) ?a ?l ?c ?k) (fun d_ladder => ?_)
    (case a => k_is)
    (case l => k_is)
    (case c => k_is)
    (case k => k_is)
    refine' S4.use (S4.DE.mk (x := "rank") (st := S4.s_rank) (ps := ["p", "wide", "rows"]) KX G (fun _ _ _ _ _ _ us hl => match us, hl with | [_, _, _], _ => rfl) ?a ?l ?c ?k) (fun d_rank => ?_)
    (case a => k_is)
    (case l => k_is)
    (case c => k_is)
    (case k => k_is)
    refine' S4.use (S4.DE.mk (x := "mixture") (st := S4.s_mixture) (ps := ["p", "wide", "rows", "row"]) KX G (fun _ _ _ _ _ _ us hl => match us, hl with | [_, _, _, _], _ => rfl) ?a ?l ?c ?k) (fun d_mixture => ?_)
    (case a => k_is)
    (case l => k_is)
    (case c => k_is)
    (case k => k_is)
    refine' S4.use (S4.DE.mk (x := "parting") (st := S4.s_parting) (ps := ["p", "wide", "rows", "row"]) KX G (fun _ _ _ _ _ _ us hl => match us, hl with | [_, _, _, _], _ => rfl) ?a ?l ?c ?k) (fun d_parting => ?_)
    (case a => k_is)
    (case l => k_is)
    (case c => k_is)
    (case k => k_is)
    refine' S4.use (S4.DE.mk (x := "square") (st := S4.s_square) (ps := ["p", "wide", "rows"]) KX G (fun _ _ _ _ _ _ us hl => match us, hl with | [_, _, _], _ => rfl) ?a ?l ?c ?k) (fun d_square => ?_)
    (case a => k_is)
    (case l => k_is)
    (case c => k_is)
    (case k => k_is)
    refine' S4.use (S4.DE.mk (x := "determinant") (st := S4.s_determinant) (ps := ["p", "rows"]) KX G (fun _ _ _ _ _ _ us hl => match us, hl with | [_, _], _ => rfl) ?a ?l ?c ?k) (fun d_determinant => ?_)
    (case a => k_is)
    (case l => k_is)
    (case c => k_is)
    (case k => k_is)
    refine' S4.use (S4.DE.mk (x := "check_clock") (st := S4.s_check_clock) (ps := ["p"]) KX G (fun _ _ _ _ _ _ us hl => match us, hl with | [_], _ => rfl) ?a ?l ?c ?k) (fun d_check_clock => ?_)
    (case a => k_is)
    (case l => k_is)
    (case c => k_is)
    (case k => k_is)
    refine' S4.use (S4.DE.mk (x := "check_rows") (st := S4.s_check_rows) (ps := ["p", "wide", "rows"]) KX G (fun _ _ _ _ _ _ us hl => match us, hl with | [_, _, _], _ => rfl) ?a ?l ?c ?k) (fun d_check_rows => ?_)
    (case a => k_is)
    (case l => k_is)
    (case c => k_is)
    (case k => k_is)
    refine' S4.use (S4.DE.mk (x := "check_each") (st := S4.s_check_each) (ps := ["p", "wide", "rows"]) KX G (fun _ _ _ _ _ _ us hl => match us, hl with | [_, _, _], _ => rfl) ?a ?l ?c ?k) (fun d_check_each => ?_)
    (case a => k_is)
    (case l => k_is)
    (case c => k_is)
    (case k => k_is)
    refine' S4.use (S4.DE.mk (x := "check_row") (st := S4.s_check_row) (ps := ["p", "wide", "row"]) KX G (fun _ _ _ _ _ _ us hl => match us, hl with | [_, _, _], _ => rfl) ?a ?l ?c ?k) (fun d_check_row => ?_)
    (case a => k_is)
    (case l => k_is)
    (case c => k_is)
    (case k => k_is)
    refine' S4.use (S4.DE.mk (x := "ladder_of") (st := S4.s_ladder_of) (ps := ["p", "wide", "rows"]) KX G (fun _ _ _ _ _ _ us hl => match us, hl with | [_, _, _], _ => rfl) ?a ?l ?c ?k) (fun d_ladder_of => ?_)
    (case a => k_is)
    (case l => k_is)
    (case c => k_is)
    (case k => k_is)
    refine' S4.use (S4.DE.mk (x := "rank_of") (st := S4.s_rank_of) (ps := ["p", "wide", "rows"]) KX G (fun _ _ _ _ _ _ us hl => match us, hl with | [_, _, _], _ => rfl) ?a ?l ?c ?k) (fun d_rank_of => ?_)
    (case a => k_is)
    (case l => k_is)
    (case c => k_is)
    (case k => k_is)
    refine' S4.use (S4.DE.mk (x := "widened") (st := S4.s_widened) (ps := ["p", "wide", "rungs", "rows"]) KX G (fun _ _ _ _ _ _ us hl => match us, hl with | [_, _, _, _], _ => rfl) ?a ?l ?c ?k) (fun d_widened => ?_)
    (case a => k_is)
    (case l => k_is)
    (case c => k_is)
    (case k => k_is)
    refine' S4.use (S4.DE.mk (x := "rungs_of") (st := S4.s_rungs_of) (ps := ["p", "wide", "rows"]) KX G (fun _ _ _ _ _ _ us hl => match us, hl with | [_, _, _], _ => rfl) ?a ?l ?c ?k) (fun d_rungs_of => ?_)
    (case a => k_is)
    (case l => k_is)
    (case c => k_is)
    (case k => k_is)
    refine' S4.use (S4.DE.mk (x := "mixtures") (st := S4.s_mixtures) (ps := ["p", "wide", "rows", "made"]) KX G (fun _ _ _ _ _ _ us hl => match us, hl with | [_, _, _, _], _ => rfl) ?a ?l ?c ?k) (fun d_mixtures => ?_)
    (case a => k_is)
    (case l => k_is)
    (case c => k_is)
    (case k => k_is)
    refine' S4.use (S4.DE.mk (x := "cleared") (st := S4.s_cleared) (ps := ["p", "rungs", "row"]) KX G (fun _ _ _ _ _ _ us hl => match us, hl with | [_, _, _], _ => rfl) ?a ?l ?c ?k) (fun d_cleared => ?_)
    (case a => k_is)
    (case l => k_is)
    (case c => k_is)
    (case k => k_is)
    refine' S4.use (S4.DE.mk (x := "multiplied") (st := S4.s_multiplied) (ps := ["p", "factor", "row"]) KX G (fun _ _ _ _ _ _ us hl => match us, hl with | [_, _, _], _ => rfl) ?a ?l ?c ?k) (fun d_multiplied => ?_)
    (case a => k_is)
    (case l => k_is)
    (case c => k_is)
    (case k => k_is)
    refine' S4.use (S4.DE.mk (x := "inverse") (st := S4.s_inverse) (ps := ["p", "value"]) KX G (fun _ _ _ _ _ _ us hl => match us, hl with | [_, _], _ => rfl) ?a ?l ?c ?k) (fun d_inverse => ?_)
    (case a => k_is)
    (case l => k_is)
    (case c => k_is)
    (case k => k_is)
    refine' S4.use (S4.DE.mk (x := "first_place") (st := S4.s_first_place) (ps := ["row", "wide"]) KX G (fun _ _ _ _ _ _ us hl => match us, hl with | [_, _], _ => rfl) ?a ?l ?c ?k) (fun d_first_place => ?_)
    (case a => k_is)
    (case l => k_is)
    (case c => k_is)
    (case k => k_is)
    refine' S4.use (S4.DE.mk (x := "first_row") (st := S4.s_first_row) (ps := ["rows", "place"]) KX G (fun _ _ _ _ _ _ us hl => match us, hl with | [_, _], _ => rfl) ?a ?l ?c ?k) (fun d_first_row => ?_)
    (case a => k_is)
    (case l => k_is)
    (case c => k_is)
    (case k => k_is)
    refine' S4.use (S4.DE.mk (x := "unit_rows") (st := S4.s_unit_rows) (ps := ["wide"]) KX G (fun _ _ _ _ _ _ us hl => match us, hl with | [_], _ => rfl) ?a ?l ?c ?k) (fun d_unit_rows => ?_)
    (case a => k_is)
    (case l => k_is)
    (case c => k_is)
    (case k => k_is)
    refine' S4.use (S4.DE.mk (x := "_law_hand") (st := S4.s_law_hand) (ps := ["script"]) KX G (fun _ _ _ _ _ _ us hl => match us, hl with | [_], _ => rfl) ?a ?l ?c ?k) (fun d_law_hand => ?_)
    (case a => k_is)
    (case l => k_is)
    (case c => k_is)
    (case k => k_is)
    refine' S4.use (S4.DE.mk (x := "_law_draw") (st := S4.s_law_draw) (ps := ["hand", "many"]) KX G (fun _ _ _ _ _ _ us hl => match us, hl with | [_, _], _ => rfl) ?a ?l ?c ?k) (fun d_law_draw => ?_)
    (case a => k_is)
    (case l => k_is)
    (case c => k_is)
    (case k => k_is)
    refine' S4.use (S4.DE.mk (x := "_law_any") (st := S4.s_law_any) (ps := ["hand", "items"]) KX G (fun _ _ _ _ _ _ us hl => match us, hl with | [_, _], _ => rfl) ?a ?l ?c ?k) (fun d_law_any => ?_)
    (case a => k_is)
    (case l => k_is)
    (case c => k_is)
    (case k => k_is)
    refine' S4.use (S4.DE.mk (x := "_law_is") (st := S4.s_law_is) (ps := ["told", "due"]) KX G (fun _ _ _ _ _ _ us hl => match us, hl with | [_, _], _ => rfl) ?a ?l ?c ?k) (fun d_law_is => ?_)
    (case a => k_is)
    (case l => k_is)
    (case c => k_is)
    (case k => k_is)
    refine' S4.use (S4.DE.mk (x := "_law_nested") (st := S4.s_law_nested) (ps := ["hand"]) KX G (fun _ _ _ _ _ _ us hl => match us, hl with | [_], _ => rfl) ?a ?l ?c ?k) (fun d_law_nested => ?_)
    (case a => k_is)
    (case l => k_is)
    (case c => k_is)
    (case k => k_is)
    refine' S4.use (S4.DE.mk (x := "_law_int") (st := S4.s_law_int) (ps := ["thing", "least", "most"]) KX G (fun _ _ _ _ _ _ us hl => match us, hl with | [_, _, _], _ => rfl) ?a ?l ?c ?k) (fun d_law_int => ?_)
    (case a => k_is)
    (case l => k_is)
    (case c => k_is)
    (case k => k_is)
    refine' S4.use (S4.DE.mk (x := "_law_less") (st := S4.s_law_less) (ps := ["p", "row", "other", "many"]) KX G (fun _ _ _ _ _ _ us hl => match us, hl with | [_, _, _, _], _ => rfl) ?a ?l ?c ?k) (fun d_law_less => ?_)
    (case a => k_is)
    (case l => k_is)
    (case c => k_is)
    (case k => k_is)
    refine' S4.use (S4.DE.mk (x := "_law_summed") (st := S4.s_law_summed) (ps := ["p", "wide", "rows", "many"]) KX G (fun _ _ _ _ _ _ us hl => match us, hl with | [_, _, _, _], _ => rfl) ?a ?l ?c ?k) (fun d_law_summed => ?_)
    (case a => k_is)
    (case l => k_is)
    (case c => k_is)
    (case k => k_is)
    refine' S4.use (S4.DE.mk (x := "_law_clock") (st := S4.s_law_clock) (ps := ["hand"]) KX G (fun _ _ _ _ _ _ us hl => match us, hl with | [_], _ => rfl) ?a ?l ?c ?k) (fun d_law_clock => ?_)
    (case a => k_is)
    (case l => k_is)
    (case c => k_is)
    (case k => k_is)
    refine' S4.use (S4.DE.mk (x := "_law_some_row") (st := S4.s_law_some_row) (ps := ["hand", "p", "wide", "rows"]) KX G (fun _ _ _ _ _ _ us hl => match us, hl with | [_, _, _, _], _ => rfl) ?a ?l ?c ?k) (fun d_law_some_row => ?_)
    (case a => k_is)
    (case l => k_is)
    (case c => k_is)
    (case k => k_is)
    refine' S4.use (S4.DE.mk (x := "_law_some_rows") (st := S4.s_law_some_rows) (ps := ["hand", "p", "wide", "many"]) KX G (fun _ _ _ _ _ _ us hl => match us, hl with | [_, _, _, _], _ => rfl) ?a ?l ?c ?k) (fun d_law_some_rows => ?_)
    (case a => k_is)
    (case l => k_is)
    (case c => k_is)
    (case k => k_is)
    refine' S4.use (S4.DE.mk (x := "_law_is_prime") (st := S4.s_law_is_prime) (ps := ["thing"]) KX G (fun _ _ _ _ _ _ us hl => match us, hl with | [_], _ => rfl) ?a ?l ?c ?k) (fun d_law_is_prime => ?_)
    (case a => k_is)
    (case l => k_is)
    (case c => k_is)
    (case k => k_is)
    refine' S4.use (S4.DE.mk (x := "_law_is_row") (st := S4.s_law_is_row) (ps := ["p", "wide", "thing"]) KX G (fun _ _ _ _ _ _ us hl => match us, hl with | [_, _, _], _ => rfl) ?a ?l ?c ?k) (fun d_law_is_row => ?_)
    (case a => k_is)
    (case l => k_is)
    (case c => k_is)
    (case k => k_is)
    refine' S4.use (S4.DE.mk (x := "_law_classes") (st := S4.s_law_classes) (ps := ["e"]) KX G (fun _ _ _ _ _ _ us hl => match us, hl with | [_], _ => rfl) ?a ?l ?c ?k) (fun d_law_classes => ?_)
    (case a => k_is)
    (case l => k_is)
    (case c => k_is)
    (case k => k_is)
    refine' S4.use (S4.DE.mk (x := "_law_errors") (st := S4.s_law_errors) (ps := ["one", "two"]) KX G (fun _ _ _ _ _ _ us hl => match us, hl with | [_, _], _ => rfl) ?a ?l ?c ?k) (fun d_law_errors => ?_)
    (case a => k_is)
    (case l => k_is)
    (case c => k_is)
    (case k => k_is)
    refine' S4.use (S4.DE.mk (x := "_law_row_refusal") (st := S4.s_law_row_refusal) (ps := ["call"]) KX G (fun _ _ _ _ _ _ us hl => match us, hl with | [_], _ => rfl) ?a ?l ?c ?k) (fun d_law_row_refusal => ?_)
    (case a => k_is)
    (case l => k_is)
    (case c => k_is)
    (case k => k_is)
    refine' S4.use (S4.DE.mk (x := "_law_rows_due") (st := S4.s_law_rows_due) (ps := ["p", "wide", "rows"]) KX G (fun _ _ _ _ _ _ us hl => match us, hl with | [_, _, _], _ => rfl) ?a ?l ?c ?k) (fun d_law_rows_due => ?_)
    (case a => k_is)
    (case l => k_is)
    (case c => k_is)
    (case k => k_is)
    refine' S4.use (S4.DE.mk (x := "_law_square_due") (st := S4.s_law_square_due) (ps := ["p", "rows"]) KX G (fun _ _ _ _ _ _ us hl => match us, hl with | [_, _], _ => rfl) ?a ?l ?c ?k) (fun d_law_square_due => ?_)
    (case a => k_is)
    (case l => k_is)
    (case c => k_is)
    (case k => k_is)
    refine' S4.use (S4.DE.mk (x := "_law_odd") (st := S4.s_law_odd) (ps := ["hand"]) KX G (fun _ _ _ _ _ _ us hl => match us, hl with | [_], _ => rfl) ?a ?l ?c ?k) (fun d_law_odd => ?_)
    (case a => k_is)
    (case l => k_is)
    (case c => k_is)
    (case k => k_is)
    refine' S4.use (S4.DE.mk (x := "_law_bent_rows") (st := S4.s_law_bent_rows) (ps := ["hand", "p", "wide", "rows"]) KX G (fun _ _ _ _ _ _ us hl => match us, hl with | [_, _, _, _], _ => rfl) ?a ?l ?c ?k) (fun d_law_bent_rows => ?_)
    (case a => k_is)
    (case l => k_is)
    (case c => k_is)
    (case k => k_is)
    refine' S4.use (S4.DE.mk (x := "_law_rows_refused") (st := S4.s_law_rows_refused) (ps := ["hand"]) KX G (fun _ _ _ _ _ _ us hl => match us, hl with | [_], _ => rfl) ?a ?l ?c ?k) (fun d_law_rows_refused => ?_)
    (case a => k_is)
    (case l => k_is)
    (case c => k_is)
    (case k => k_is)
    refine' S4.use (S4.DE.mk (x := "_law_square_refused") (st := S4.s_law_square_refused) (ps := ["hand"]) KX G (fun _ _ _ _ _ _ us hl => match us, hl with | [_], _ => rfl) ?a ?l ?c ?k) (fun d_law_square_refused => ?_)
    (case a => k_is)
    (case l => k_is)
    (case c => k_is)
    (case k => k_is)
    refine' S4.use (S4.DE.mk (x := "law") (st := S4.s_law) (ps := ["script"]) KX G (fun _ _ _ _ _ _ us hl => match us, hl with | [_], _ => rfl) ?a ?l ?c ?k) (fun d_law => ?_)
    (case a => k_is)
    (case l => k_is)
    (case c => k_is)
    (case k => k_is)
    have b_ValueError : mg "ValueError" = none := PySem.W.mg_none_of KX G (by k_is)
    refine' S4.all_mk (cT := 0) (cS := 0) KX G hmg all (by decide +kernel) (by decide +kernel) (S4.tab_mk ?za1 ?zl1 ?zc1 ?zk1 ?zp1) (S4.tab_mk ?za2 ?zl2 ?zc2 ?zk2 ?zp2) ?zn1 ?zn2 ?zne1_2 (S4.Tx.mk b_abs b_all b_bool b_enumerate b_int b_isinstance b_len b_list b_range b_sorted b_tuple b_zip c_MOST_HOURS c_MOST_WIDE c_MOST_ROWS c_MOST_SIDE d_is_integer d_is_below d_is_row d_is_clock d_ladder d_rank d_mixture d_parting d_square d_determinant d_check_clock d_check_rows d_check_each d_check_row d_ladder_of d_rank_of d_widened d_rungs_of d_mixtures d_cleared d_multiplied d_inverse d_first_place d_first_row d_unit_rows d_law_hand d_law_draw d_law_any d_law_is d_law_nested d_law_int d_law_less d_law_summed d_law_clock d_law_some_row d_law_some_rows d_law_is_prime d_law_is_row d_law_classes d_law_errors d_law_row_refusal d_law_rows_due d_law_square_due d_law_odd d_law_bent_rows d_law_rows_refused d_law_square_refused d_law ?h0 ?h1 ?h2 ?h3 ?h4 ?h5 ?h6 ?h7 ?h8 ?h9 ?h10 ?h11 ?h12 ?h13 ?h14 ?h15 ?h16 ?h17 ?h18 ?h19 ?h20 ?h21 ?h22 ?h23 ?h24 ?h25 ?h26 ?h27 ?h28 ?h29 ?h30 ?h31 ?h32 ?h33 ?h34 ?h35 ?h36 ?h37 ?h38 ?h39 ?h40 ?h41 ?h42 ?h43 ?h44 ?h45 ?h46 ?h47 ?h48 ?h49 ?h50 ?h51 ?h52 ?h53 ?h54 ?h55 ?h56 ?h57 ?h58 ?h59 ?h60 ?h61 ?h62 ?h63 ?h64 ?h65 ?h66 ?h67 ?h68 ?h69 ?h70 ?h71 ?h72 ?h73 ?h74 ?h75 ?h76 ?h77 ?h78 ?h79 ?h80 ?h81 ?h82 ?h83 ?h84 ?h85 ?h86 ?h87 ?h88 ?h89 ?h90 ?h91 ?h92 ?h93 ?h94 ?h95 ?h96 ?h97 ?h98 ?h99 ?h100 ?h101 ?h102 ?h103 ?h104 ?h105 ?h106 ?h107 ?h108 ?h109 ?h110 ?h111 ?h112 ?h113 ?h114 ?h115 ?h116 ?h117 b_ValueError ?h118)
    (case za1 => k_is)
    (case zl1 => k_is)
    (case zc1 => rfl)
    (case zk1 => k_is)
    (case zp1 => rfl)
    (case za2 => k_is)
    (case zl2 => k_is)
    (case zc2 => rfl)
    (case zk2 => k_is)
    (case zp2 => rfl)
    (case zn1 => first | kernel_rfl | rfl | decide)
    (case zn2 => first | kernel_rfl | rfl | decide)
    (case zne1_2 => decide)
    case h0 =>
      rw [S4.adr_of m_TollError]
      refine' ⟨m_TollError, ?kp, ?ty, ⟨?hg, ?hk, ?hs, ?hd, ?ha, ?hn, ?ht, ?hm⟩, ?ve⟩
      (case kp => k_is)
      (case ty => k_is)
      (case hg => k_is)
      (case hk => k_is)
      (case hs => k_is)
      (case hd => k_is)
      (case ha => k_is)
      (case hn => k_is)
      (case ht => k_is)
      (case hm => k_is)
      (case ve => first | (refine' S4.kit_ve ?w; done) | (refine' S4.kit_ve ?vw; k_is) | (refine' S4.kit_ve ?_; exact (by k_is)))
    case h1 =>
      rw [S4.adr_of m_TollError]
      show PySem.W.excIn _ _ _ _ = true
      k_exc
    case h2 =>
      rw [S4.adr_of m_NoClock]
      refine' ⟨m_NoClock, ?kp, ?ty, ⟨?hg, ?hk, ?hs, ?hd, ?ha, ?hn, ?ht, ?hm⟩, ?ve⟩
      (case kp => k_is)
      (case ty => k_is)
      (case hg => k_is)
      (case hk => k_is)
      (case hs => k_is)
      (case hd => k_is)
      (case ha => k_is)
      (case hn => k_is)
      (case ht => k_is)
      (case hm => k_is)
      (case ve => first | (refine' S4.kit_ve ?w; done) | (refine' S4.kit_ve ?vw; k_is) | (refine' S4.kit_ve ?_; exact (by k_is)))
    case h3 =>
      rw [S4.adr_of m_NoClock]
      show PySem.W.excIn _ _ _ _ = true
      k_exc
    case h4 =>
      rw [S4.adr_of m_NoNumber]
      refine' ⟨m_NoNumber, ?kp, ?ty, ⟨?hg, ?hk, ?hs, ?hd, ?ha, ?hn, ?ht, ?hm⟩, ?ve⟩
      (case kp => k_is)
      (case ty => k_is)
      (case hg => k_is)
      (case hk => k_is)
      (case hs => k_is)
      (case hd => k_is)
      (case ha => k_is)
      (case hn => k_is)
      (case ht => k_is)
      (case hm => k_is)
      (case ve => first | (refine' S4.kit_ve ?w; done) | (refine' S4.kit_ve ?vw; k_is) | (refine' S4.kit_ve ?_; exact (by k_is)))
    case h5 =>
      rw [S4.adr_of m_NoNumber]
      show PySem.W.excIn _ _ _ _ = true
      k_exc
    case h6 =>
      rw [S4.adr_of m_NoRow]
      refine' ⟨m_NoRow, ?kp, ?ty, ⟨?hg, ?hk, ?hs, ?hd, ?ha, ?hn, ?ht, ?hm⟩, ?ve⟩
      (case kp => k_is)
      (case ty => k_is)
      (case hg => k_is)
      (case hk => k_is)
      (case hs => k_is)
      (case hd => k_is)
      (case ha => k_is)
      (case hn => k_is)
      (case ht => k_is)
      (case hm => k_is)
      (case ve => first | (refine' S4.kit_ve ?w; done) | (refine' S4.kit_ve ?vw; k_is) | (refine' S4.kit_ve ?_; exact (by k_is)))
    case h7 =>
      rw [S4.adr_of m_NoRow]
      show PySem.W.excIn _ _ _ _ = true
      k_exc
    case h8 =>
      rw [S4.adr_of m_NoPost]
      refine' ⟨m_NoPost, ?kp, ?ty, ⟨?hg, ?hk, ?hs, ?hd, ?ha, ?hn, ?ht, ?hm⟩, ?ve⟩
      (case kp => k_is)
      (case ty => k_is)
      (case hg => k_is)
      (case hk => k_is)
      (case hs => k_is)
      (case hd => k_is)
      (case ha => k_is)
      (case hn => k_is)
      (case ht => k_is)
      (case hm => k_is)
      (case ve => first | (refine' S4.kit_ve ?w; done) | (refine' S4.kit_ve ?vw; k_is) | (refine' S4.kit_ve ?_; exact (by k_is)))
    case h9 =>
      rw [S4.adr_of m_NoPost]
      show PySem.W.excIn _ _ _ _ = true
      k_exc
    case h10 =>
      rw [S4.adr_of m_NoWay]
      refine' ⟨m_NoWay, ?kp, ?ty, ⟨?hg, ?hk, ?hs, ?hd, ?ha, ?hn, ?ht, ?hm⟩, ?ve⟩
      (case kp => k_is)
      (case ty => k_is)
      (case hg => k_is)
      (case hk => k_is)
      (case hs => k_is)
      (case hd => k_is)
      (case ha => k_is)
      (case hn => k_is)
      (case ht => k_is)
      (case hm => k_is)
      (case ve => first | (refine' S4.kit_ve ?w; done) | (refine' S4.kit_ve ?vw; k_is) | (refine' S4.kit_ve ?_; exact (by k_is)))
    case h11 =>
      rw [S4.adr_of m_NoWay]
      show PySem.W.excIn _ _ _ _ = true
      k_exc
    case h12 =>
      rw [S4.adr_of m_NoPlan]
      refine' ⟨m_NoPlan, ?kp, ?ty, ⟨?hg, ?hk, ?hs, ?hd, ?ha, ?hn, ?ht, ?hm⟩, ?ve⟩
      (case kp => k_is)
      (case ty => k_is)
      (case hg => k_is)
      (case hk => k_is)
      (case hs => k_is)
      (case hd => k_is)
      (case ha => k_is)
      (case hn => k_is)
      (case ht => k_is)
      (case hm => k_is)
      (case ve => first | (refine' S4.kit_ve ?w; done) | (refine' S4.kit_ve ?vw; k_is) | (refine' S4.kit_ve ?_; exact (by k_is)))
    case h13 =>
      rw [S4.adr_of m_NoPlan]
      show PySem.W.excIn _ _ _ _ = true
      k_exc
    case h14 =>
      rw [S4.adr_of m_NotRight]
      refine' ⟨m_NotRight, ?kp, ?ty, ⟨?hg, ?hk, ?hs, ?hd, ?ha, ?hn, ?ht, ?hm⟩, ?ve⟩
      (case kp => k_is)
      (case ty => k_is)
      (case hg => k_is)
      (case hk => k_is)
      (case hs => k_is)
      (case hd => k_is)
      (case ha => k_is)
      (case hn => k_is)
      (case ht => k_is)
      (case hm => k_is)
      (case ve => first | (refine' S4.kit_ve ?w; done) | (refine' S4.kit_ve ?vw; k_is) | (refine' S4.kit_ve ?_; exact (by k_is)))
    case h15 =>
      rw [S4.adr_of m_NotRight]
      show PySem.W.excIn _ _ _ _ = true
      k_exc
    case h16 =>
      rw [S4.adr_of m_NotLeast]
      refine' ⟨m_NotLeast, ?kp, ?ty, ⟨?hg, ?hk, ?hs, ?hd, ?ha, ?hn, ?ht, ?hm⟩, ?ve⟩
      (case kp => k_is)
      (case ty => k_is)
      (case hg => k_is)
      (case hk => k_is)
      (case hs => k_is)
      (case hd => k_is)
      (case ha => k_is)
      (case hn => k_is)
      (case ht => k_is)
      (case hm => k_is)
      (case ve => first | (refine' S4.kit_ve ?w; done) | (refine' S4.kit_ve ?vw; k_is) | (refine' S4.kit_ve ?_; exact (by k_is)))
    case h17 =>
      rw [S4.adr_of m_NotLeast]
      show PySem.W.excIn _ _ _ _ = true
      k_exc
    case h18 =>
      rw [S4.adr_of m_NoGiven]
      refine' ⟨m_NoGiven, ?kp, ?ty, ⟨?hg, ?hk, ?hs, ?hd, ?ha, ?hn, ?ht, ?hm⟩, ?ve⟩
      (case kp => k_is)
      (case ty => k_is)
      (case hg => k_is)
      (case hk => k_is)
      (case hs => k_is)
      (case hd => k_is)
      (case ha => k_is)
      (case hn => k_is)
      (case ht => k_is)
      (case hm => k_is)
      (case ve => first | (refine' S4.kit_ve ?w; done) | (refine' S4.kit_ve ?vw; k_is) | (refine' S4.kit_ve ?_; exact (by k_is)))
    case h19 =>
      rw [S4.adr_of m_NoGiven]
      show PySem.W.excIn _ _ _ _ = true
      k_exc
    case h20 =>
      rw [S4.adr_of m_NoWays]
      refine' ⟨m_NoWays, ?kp, ?ty, ⟨?hg, ?hk, ?hs, ?hd, ?ha, ?hn, ?ht, ?hm⟩, ?ve⟩
      (case kp => k_is)
      (case ty => k_is)
      (case hg => k_is)
      (case hk => k_is)
      (case hs => k_is)
      (case hd => k_is)
      (case ha => k_is)
      (case hn => k_is)
      (case ht => k_is)
      (case hm => k_is)
      (case ve => first | (refine' S4.kit_ve ?w; done) | (refine' S4.kit_ve ?vw; k_is) | (refine' S4.kit_ve ?_; exact (by k_is)))
    case h21 =>
      rw [S4.adr_of m_NoWays]
      show PySem.W.excIn _ _ _ _ = true
      k_exc
    case h22 =>
      rw [S4.adr_of m_NoOrder]
      refine' ⟨m_NoOrder, ?kp, ?ty, ⟨?hg, ?hk, ?hs, ?hd, ?ha, ?hn, ?ht, ?hm⟩, ?ve⟩
      (case kp => k_is)
      (case ty => k_is)
      (case hg => k_is)
      (case hk => k_is)
      (case hs => k_is)
      (case hd => k_is)
      (case ha => k_is)
      (case hn => k_is)
      (case ht => k_is)
      (case hm => k_is)
      (case ve => first | (refine' S4.kit_ve ?w; done) | (refine' S4.kit_ve ?vw; k_is) | (refine' S4.kit_ve ?_; exact (by k_is)))
    case h23 =>
      rw [S4.adr_of m_NoOrder]
      show PySem.W.excIn _ _ _ _ = true
      k_exc
    case h24 =>
      rw [S4.adr_of m_NoLot]
      refine' ⟨m_NoLot, ?kp, ?ty, ⟨?hg, ?hk, ?hs, ?hd, ?ha, ?hn, ?ht, ?hm⟩, ?ve⟩
      (case kp => k_is)
      (case ty => k_is)
      (case hg => k_is)
      (case hk => k_is)
      (case hs => k_is)
      (case hd => k_is)
      (case ha => k_is)
      (case hn => k_is)
      (case ht => k_is)
      (case hm => k_is)
      (case ve => first | (refine' S4.kit_ve ?w; done) | (refine' S4.kit_ve ?vw; k_is) | (refine' S4.kit_ve ?_; exact (by k_is)))
    case h25 =>
      rw [S4.adr_of m_NoLot]
      show PySem.W.excIn _ _ _ _ = true
      k_exc
    case h26 =>
      rw [S4.adr_of m_NotUndoable]
      refine' ⟨m_NotUndoable, ?kp, ?ty, ⟨?hg, ?hk, ?hs, ?hd, ?ha, ?hn, ?ht, ?hm⟩, ?ve⟩
      (case kp => k_is)
      (case ty => k_is)
      (case hg => k_is)
      (case hk => k_is)
      (case hs => k_is)
      (case hd => k_is)
      (case ha => k_is)
      (case hn => k_is)
      (case ht => k_is)
      (case hm => k_is)
      (case ve => first | (refine' S4.kit_ve ?w; done) | (refine' S4.kit_ve ?vw; k_is) | (refine' S4.kit_ve ?_; exact (by k_is)))
    case h27 =>
      rw [S4.adr_of m_NotUndoable]
      show PySem.W.excIn _ _ _ _ = true
      k_exc
    case h28 =>
      rw [S4.adr_of m_NotAfter]
      refine' ⟨m_NotAfter, ?kp, ?ty, ⟨?hg, ?hk, ?hs, ?hd, ?ha, ?hn, ?ht, ?hm⟩, ?ve⟩
      (case kp => k_is)
      (case ty => k_is)
      (case hg => k_is)
      (case hk => k_is)
      (case hs => k_is)
      (case hd => k_is)
      (case ha => k_is)
      (case hn => k_is)
      (case ht => k_is)
      (case hm => k_is)
      (case ve => first | (refine' S4.kit_ve ?w; done) | (refine' S4.kit_ve ?vw; k_is) | (refine' S4.kit_ve ?_; exact (by k_is)))
    case h29 =>
      rw [S4.adr_of m_NotAfter]
      show PySem.W.excIn _ _ _ _ = true
      k_exc
    case h30 =>
      rw [S4.adr_of m_NotAlike]
      refine' ⟨m_NotAlike, ?kp, ?ty, ⟨?hg, ?hk, ?hs, ?hd, ?ha, ?hn, ?ht, ?hm⟩, ?ve⟩
      (case kp => k_is)
      (case ty => k_is)
      (case hg => k_is)
      (case hk => k_is)
      (case hs => k_is)
      (case hd => k_is)
      (case ha => k_is)
      (case hn => k_is)
      (case ht => k_is)
      (case hm => k_is)
      (case ve => first | (refine' S4.kit_ve ?w; done) | (refine' S4.kit_ve ?vw; k_is) | (refine' S4.kit_ve ?_; exact (by k_is)))
    case h31 =>
      rw [S4.adr_of m_NotAlike]
      show PySem.W.excIn _ _ _ _ = true
      k_exc
    case h32 =>
      rw [S4.adr_of m_NoAnswers]
      refine' ⟨m_NoAnswers, ?kp, ?ty, ⟨?hg, ?hk, ?hs, ?hd, ?ha, ?hn, ?ht, ?hm⟩, ?ve⟩
      (case kp => k_is)
      (case ty => k_is)
      (case hg => k_is)
      (case hk => k_is)
      (case hs => k_is)
      (case hd => k_is)
      (case ha => k_is)
      (case hn => k_is)
      (case ht => k_is)
      (case hm => k_is)
      (case ve => first | (refine' S4.kit_ve ?w; done) | (refine' S4.kit_ve ?vw; k_is) | (refine' S4.kit_ve ?_; exact (by k_is)))
    case h33 =>
      rw [S4.adr_of m_NoAnswers]
      show PySem.W.excIn _ _ _ _ = true
      k_exc
    case h34 =>
      rw [S4.adr_of m_NoCounts]
      refine' ⟨m_NoCounts, ?kp, ?ty, ⟨?hg, ?hk, ?hs, ?hd, ?ha, ?hn, ?ht, ?hm⟩, ?ve⟩
      (case kp => k_is)
      (case ty => k_is)
      (case hg => k_is)
      (case hk => k_is)
      (case hs => k_is)
      (case hd => k_is)
      (case ha => k_is)
      (case hn => k_is)
      (case ht => k_is)
      (case hm => k_is)
      (case ve => first | (refine' S4.kit_ve ?w; done) | (refine' S4.kit_ve ?vw; k_is) | (refine' S4.kit_ve ?_; exact (by k_is)))
    case h35 =>
      rw [S4.adr_of m_NoCounts]
      show PySem.W.excIn _ _ _ _ = true
      k_exc
    case h36 =>
      rw [S4.adr_of m_NoTable]
      refine' ⟨m_NoTable, ?kp, ?ty, ⟨?hg, ?hk, ?hs, ?hd, ?ha, ?hn, ?ht, ?hm⟩, ?ve⟩
      (case kp => k_is)
      (case ty => k_is)
      (case hg => k_is)
      (case hk => k_is)
      (case hs => k_is)
      (case hd => k_is)
      (case ha => k_is)
      (case hn => k_is)
      (case ht => k_is)
      (case hm => k_is)
      (case ve => first | (refine' S4.kit_ve ?w; done) | (refine' S4.kit_ve ?vw; k_is) | (refine' S4.kit_ve ?_; exact (by k_is)))
    case h37 =>
      rw [S4.adr_of m_NoTable]
      show PySem.W.excIn _ _ _ _ = true
      k_exc
    case h38 =>
      rw [S4.adr_of m_NotSure]
      refine' ⟨m_NotSure, ?kp, ?ty, ⟨?hg, ?hk, ?hs, ?hd, ?ha, ?hn, ?ht, ?hm⟩, ?ve⟩
      (case kp => k_is)
      (case ty => k_is)
      (case hg => k_is)
      (case hk => k_is)
      (case hs => k_is)
      (case hd => k_is)
      (case ha => k_is)
      (case hn => k_is)
      (case ht => k_is)
      (case hm => k_is)
      (case ve => first | (refine' S4.kit_ve ?w; done) | (refine' S4.kit_ve ?vw; k_is) | (refine' S4.kit_ve ?_; exact (by k_is)))
    case h39 =>
      rw [S4.adr_of m_NotSure]
      show PySem.W.excIn _ _ _ _ = true
      k_exc
    case h40 =>
      rw [S4.adr_of m_NoRule]
      refine' ⟨m_NoRule, ?kp, ?ty, ⟨?hg, ?hk, ?hs, ?hd, ?ha, ?hn, ?ht, ?hm⟩, ?ve⟩
      (case kp => k_is)
      (case ty => k_is)
      (case hg => k_is)
      (case hk => k_is)
      (case hs => k_is)
      (case hd => k_is)
      (case ha => k_is)
      (case hn => k_is)
      (case ht => k_is)
      (case hm => k_is)
      (case ve => first | (refine' S4.kit_ve ?w; done) | (refine' S4.kit_ve ?vw; k_is) | (refine' S4.kit_ve ?_; exact (by k_is)))
    case h41 =>
      rw [S4.adr_of m_NoRule]
      show PySem.W.excIn _ _ _ _ = true
      k_exc
    case h42 =>
      rw [S4.adr_of m_NotRow]
      refine' ⟨m_NotRow, ?kp, ?ty, ⟨?hg, ?hk, ?hs, ?hd, ?ha, ?hn, ?ht, ?hm⟩, ?ve⟩
      (case kp => k_is)
      (case ty => k_is)
      (case hg => k_is)
      (case hk => k_is)
      (case hs => k_is)
      (case hd => k_is)
      (case ha => k_is)
      (case hn => k_is)
      (case ht => k_is)
      (case hm => k_is)
      (case ve => first | (refine' S4.kit_ve ?w; done) | (refine' S4.kit_ve ?vw; k_is) | (refine' S4.kit_ve ?_; exact (by k_is)))
    case h43 =>
      rw [S4.adr_of m_NotRow]
      show PySem.W.excIn _ _ _ _ = true
      k_exc
    case h44 =>
      rw [S4.adr_of m_NoTick]
      refine' ⟨m_NoTick, ?kp, ?ty, ⟨?hg, ?hk, ?hs, ?hd, ?ha, ?hn, ?ht, ?hm⟩, ?ve⟩
      (case kp => k_is)
      (case ty => k_is)
      (case hg => k_is)
      (case hk => k_is)
      (case hs => k_is)
      (case hd => k_is)
      (case ha => k_is)
      (case hn => k_is)
      (case ht => k_is)
      (case hm => k_is)
      (case ve => first | (refine' S4.kit_ve ?w; done) | (refine' S4.kit_ve ?vw; k_is) | (refine' S4.kit_ve ?_; exact (by k_is)))
    case h45 =>
      rw [S4.adr_of m_NoTick]
      show PySem.W.excIn _ _ _ _ = true
      k_exc
    case h46 =>
      rw [S4.adr_of m_NoCut]
      refine' ⟨m_NoCut, ?kp, ?ty, ⟨?hg, ?hk, ?hs, ?hd, ?ha, ?hn, ?ht, ?hm⟩, ?ve⟩
      (case kp => k_is)
      (case ty => k_is)
      (case hg => k_is)
      (case hk => k_is)
      (case hs => k_is)
      (case hd => k_is)
      (case ha => k_is)
      (case hn => k_is)
      (case ht => k_is)
      (case hm => k_is)
      (case ve => first | (refine' S4.kit_ve ?w; done) | (refine' S4.kit_ve ?vw; k_is) | (refine' S4.kit_ve ?_; exact (by k_is)))
    case h47 =>
      rw [S4.adr_of m_NoCut]
      show PySem.W.excIn _ _ _ _ = true
      k_exc
    case h48 =>
      rw [S4.adr_of m_NoHours]
      refine' ⟨m_NoHours, ?kp, ?ty, ⟨?hg, ?hk, ?hs, ?hd, ?ha, ?hn, ?ht, ?hm⟩, ?ve⟩
      (case kp => k_is)
      (case ty => k_is)
      (case hg => k_is)
      (case hk => k_is)
      (case hs => k_is)
      (case hd => k_is)
      (case ha => k_is)
      (case hn => k_is)
      (case ht => k_is)
      (case hm => k_is)
      (case ve => first | (refine' S4.kit_ve ?w; done) | (refine' S4.kit_ve ?vw; k_is) | (refine' S4.kit_ve ?_; exact (by k_is)))
    case h49 =>
      rw [S4.adr_of m_NoHours]
      show PySem.W.excIn _ _ _ _ = true
      k_exc
    case h50 =>
      rw [S4.adr_of m_NotOne]
      refine' ⟨m_NotOne, ?kp, ?ty, ⟨?hg, ?hk, ?hs, ?hd, ?ha, ?hn, ?ht, ?hm⟩, ?ve⟩
      (case kp => k_is)
      (case ty => k_is)
      (case hg => k_is)
      (case hk => k_is)
      (case hs => k_is)
      (case hd => k_is)
      (case ha => k_is)
      (case hn => k_is)
      (case ht => k_is)
      (case hm => k_is)
      (case ve => first | (refine' S4.kit_ve ?w; done) | (refine' S4.kit_ve ?vw; k_is) | (refine' S4.kit_ve ?_; exact (by k_is)))
    case h51 =>
      rw [S4.adr_of m_NotOne]
      show PySem.W.excIn _ _ _ _ = true
      k_exc
    case h52 =>
      rw [S4.adr_of m_NotPlanned]
      refine' ⟨m_NotPlanned, ?kp, ?ty, ⟨?hg, ?hk, ?hs, ?hd, ?ha, ?hn, ?ht, ?hm⟩, ?ve⟩
      (case kp => k_is)
      (case ty => k_is)
      (case hg => k_is)
      (case hk => k_is)
      (case hs => k_is)
      (case hd => k_is)
      (case ha => k_is)
      (case hn => k_is)
      (case ht => k_is)
      (case hm => k_is)
      (case ve => first | (refine' S4.kit_ve ?w; done) | (refine' S4.kit_ve ?vw; k_is) | (refine' S4.kit_ve ?_; exact (by k_is)))
    case h53 =>
      rw [S4.adr_of m_NotPlanned]
      show PySem.W.excIn _ _ _ _ = true
      k_exc
    case h54 =>
      rw [S4.adr_of m_NoProgram]
      refine' ⟨m_NoProgram, ?kp, ?ty, ⟨?hg, ?hk, ?hs, ?hd, ?ha, ?hn, ?ht, ?hm⟩, ?ve⟩
      (case kp => k_is)
      (case ty => k_is)
      (case hg => k_is)
      (case hk => k_is)
      (case hs => k_is)
      (case hd => k_is)
      (case ha => k_is)
      (case hn => k_is)
      (case ht => k_is)
      (case hm => k_is)
      (case ve => first | (refine' S4.kit_ve ?w; done) | (refine' S4.kit_ve ?vw; k_is) | (refine' S4.kit_ve ?_; exact (by k_is)))
    case h55 =>
      rw [S4.adr_of m_NoProgram]
      show PySem.W.excIn _ _ _ _ = true
      k_exc
    case h56 =>
      rw [S4.adr_of m_NoWant]
      refine' ⟨m_NoWant, ?kp, ?ty, ⟨?hg, ?hk, ?hs, ?hd, ?ha, ?hn, ?ht, ?hm⟩, ?ve⟩
      (case kp => k_is)
      (case ty => k_is)
      (case hg => k_is)
      (case hk => k_is)
      (case hs => k_is)
      (case hd => k_is)
      (case ha => k_is)
      (case hn => k_is)
      (case ht => k_is)
      (case hm => k_is)
      (case ve => first | (refine' S4.kit_ve ?w; done) | (refine' S4.kit_ve ?vw; k_is) | (refine' S4.kit_ve ?_; exact (by k_is)))
    case h57 =>
      rw [S4.adr_of m_NoWant]
      show PySem.W.excIn _ _ _ _ = true
      k_exc
    case h58 =>
      rw [S4.adr_of m_NoValue]
      refine' ⟨m_NoValue, ?kp, ?ty, ⟨?hg, ?hk, ?hs, ?hd, ?ha, ?hn, ?ht, ?hm⟩, ?ve⟩
      (case kp => k_is)
      (case ty => k_is)
      (case hg => k_is)
      (case hk => k_is)
      (case hs => k_is)
      (case hd => k_is)
      (case ha => k_is)
      (case hn => k_is)
      (case ht => k_is)
      (case hm => k_is)
      (case ve => first | (refine' S4.kit_ve ?w; done) | (refine' S4.kit_ve ?vw; k_is) | (refine' S4.kit_ve ?_; exact (by k_is)))
    case h59 =>
      rw [S4.adr_of m_NoValue]
      show PySem.W.excIn _ _ _ _ = true
      k_exc
    case h60 =>
      rw [S4.adr_of m_NoValues]
      refine' ⟨m_NoValues, ?kp, ?ty, ⟨?hg, ?hk, ?hs, ?hd, ?ha, ?hn, ?ht, ?hm⟩, ?ve⟩
      (case kp => k_is)
      (case ty => k_is)
      (case hg => k_is)
      (case hk => k_is)
      (case hs => k_is)
      (case hd => k_is)
      (case ha => k_is)
      (case hn => k_is)
      (case ht => k_is)
      (case hm => k_is)
      (case ve => first | (refine' S4.kit_ve ?w; done) | (refine' S4.kit_ve ?vw; k_is) | (refine' S4.kit_ve ?_; exact (by k_is)))
    case h61 =>
      rw [S4.adr_of m_NoValues]
      show PySem.W.excIn _ _ _ _ = true
      k_exc
    case h62 =>
      rw [S4.adr_of m_NotEmpty]
      refine' ⟨m_NotEmpty, ?kp, ?ty, ⟨?hg, ?hk, ?hs, ?hd, ?ha, ?hn, ?ht, ?hm⟩, ?ve⟩
      (case kp => k_is)
      (case ty => k_is)
      (case hg => k_is)
      (case hk => k_is)
      (case hs => k_is)
      (case hd => k_is)
      (case ha => k_is)
      (case hn => k_is)
      (case ht => k_is)
      (case hm => k_is)
      (case ve => first | (refine' S4.kit_ve ?w; done) | (refine' S4.kit_ve ?vw; k_is) | (refine' S4.kit_ve ?_; exact (by k_is)))
    case h63 =>
      rw [S4.adr_of m_NotEmpty]
      show PySem.W.excIn _ _ _ _ = true
      k_exc
    case h64 =>
      rw [S4.adr_of m_Full]
      refine' ⟨m_Full, ?kp, ?ty, ⟨?hg, ?hk, ?hs, ?hd, ?ha, ?hn, ?ht, ?hm⟩, ?ve⟩
      (case kp => k_is)
      (case ty => k_is)
      (case hg => k_is)
      (case hk => k_is)
      (case hs => k_is)
      (case hd => k_is)
      (case ha => k_is)
      (case hn => k_is)
      (case ht => k_is)
      (case hm => k_is)
      (case ve => first | (refine' S4.kit_ve ?w; done) | (refine' S4.kit_ve ?vw; k_is) | (refine' S4.kit_ve ?_; exact (by k_is)))
    case h65 =>
      rw [S4.adr_of m_Full]
      show PySem.W.excIn _ _ _ _ = true
      k_exc
    case h66 =>
      rw [S4.adr_of m_NothingDone]
      refine' ⟨m_NothingDone, ?kp, ?ty, ⟨?hg, ?hk, ?hs, ?hd, ?ha, ?hn, ?ht, ?hm⟩, ?ve⟩
      (case kp => k_is)
      (case ty => k_is)
      (case hg => k_is)
      (case hk => k_is)
      (case hs => k_is)
      (case hd => k_is)
      (case ha => k_is)
      (case hn => k_is)
      (case ht => k_is)
      (case hm => k_is)
      (case ve => first | (refine' S4.kit_ve ?w; done) | (refine' S4.kit_ve ?vw; k_is) | (refine' S4.kit_ve ?_; exact (by k_is)))
    case h67 =>
      rw [S4.adr_of m_NothingDone]
      show PySem.W.excIn _ _ _ _ = true
      k_exc
    case h68 =>
      rw [S4.adr_of m_NoLine]
      refine' ⟨m_NoLine, ?kp, ?ty, ⟨?hg, ?hk, ?hs, ?hd, ?ha, ?hn, ?ht, ?hm⟩, ?ve⟩
      (case kp => k_is)
      (case ty => k_is)
      (case hg => k_is)
      (case hk => k_is)
      (case hs => k_is)
      (case hd => k_is)
      (case ha => k_is)
      (case hn => k_is)
      (case ht => k_is)
      (case hm => k_is)
      (case ve => first | (refine' S4.kit_ve ?w; done) | (refine' S4.kit_ve ?vw; k_is) | (refine' S4.kit_ve ?_; exact (by k_is)))
    case h69 =>
      rw [S4.adr_of m_NoLine]
      show PySem.W.excIn _ _ _ _ = true
      k_exc
    case h70 =>
      rw [S4.adr_of m_TooLong]
      refine' ⟨m_TooLong, ?kp, ?ty, ⟨?hg, ?hk, ?hs, ?hd, ?ha, ?hn, ?ht, ?hm⟩, ?ve⟩
      (case kp => k_is)
      (case ty => k_is)
      (case hg => k_is)
      (case hk => k_is)
      (case hs => k_is)
      (case hd => k_is)
      (case ha => k_is)
      (case hn => k_is)
      (case ht => k_is)
      (case hm => k_is)
      (case ve => first | (refine' S4.kit_ve ?w; done) | (refine' S4.kit_ve ?vw; k_is) | (refine' S4.kit_ve ?_; exact (by k_is)))
    case h71 =>
      rw [S4.adr_of m_TooLong]
      show PySem.W.excIn _ _ _ _ = true
      k_exc
    case h72 =>
      rw [S4.adr_of m_NoRows]
      refine' ⟨m_NoRows, ?kp, ?ty, ⟨?hg, ?hk, ?hs, ?hd, ?ha, ?hn, ?ht, ?hm⟩, ?ve⟩
      (case kp => k_is)
      (case ty => k_is)
      (case hg => k_is)
      (case hk => k_is)
      (case hs => k_is)
      (case hd => k_is)
      (case ha => k_is)
      (case hn => k_is)
      (case ht => k_is)
      (case hm => k_is)
      (case ve => first | (refine' S4.kit_ve ?w; done) | (refine' S4.kit_ve ?vw; k_is) | (refine' S4.kit_ve ?_; exact (by k_is)))
    case h73 =>
      rw [S4.adr_of m_NoRows]
      refine' S4.ei_mk (fun _ _ _ _ _ _ us hl => match us, hl with | [_, _], _ => rfl) ?xL ?rv ?sa ?eC ?tC ?kC ?a ?t1 ?l ?c ?k ?no
      (case xL => k_is)
      (case rv => first | rfl | decide +kernel)
      (case sa => k_is)
      (case eC => k_is)
      (case tC => k_is)
      (case kC => k_is)
      (case a => k_is)
      (case t1 => k_is)
      (case l => k_is)
      (case c => k_is)
      (case k => k_is)
      case no =>
        intro y hy
        simp only [List.mem_cons, List.not_mem_nil, or_false] at hy
        rcases hy with rfl
        · k_is
    case h74 =>
      rw [S4.adr_of m_BadTree]
      refine' ⟨m_BadTree, ?kp, ?ty, ⟨?hg, ?hk, ?hs, ?hd, ?ha, ?hn, ?ht, ?hm⟩, ?ve⟩
      (case kp => k_is)
      (case ty => k_is)
      (case hg => k_is)
      (case hk => k_is)
      (case hs => k_is)
      (case hd => k_is)
      (case ha => k_is)
      (case hn => k_is)
      (case ht => k_is)
      (case hm => k_is)
      (case ve => first | (refine' S4.kit_ve ?w; done) | (refine' S4.kit_ve ?vw; k_is) | (refine' S4.kit_ve ?_; exact (by k_is)))
    case h75 =>
      rw [S4.adr_of m_BadTree]
      refine' S4.ei_mk (fun _ _ _ _ _ _ us hl => match us, hl with | [_, _], _ => rfl) ?xL ?rv ?sa ?eC ?tC ?kC ?a ?t1 ?l ?c ?k ?no
      (case xL => k_is)
      (case rv => first | rfl | decide +kernel)
      (case sa => k_is)
      (case eC => k_is)
      (case tC => k_is)
      (case kC => k_is)
      (case a => k_is)
      (case t1 => k_is)
      (case l => k_is)
      (case c => k_is)
      (case k => k_is)
      case no =>
        intro y hy
        simp only [List.mem_cons, List.not_mem_nil, or_false] at hy
        rcases hy with rfl
        · k_is
    case h76 =>
      rw [S4.adr_of m_BadSheet]
      refine' ⟨m_BadSheet, ?kp, ?ty, ⟨?hg, ?hk, ?hs, ?hd, ?ha, ?hn, ?ht, ?hm⟩, ?ve⟩
      (case kp => k_is)
      (case ty => k_is)
      (case hg => k_is)
      (case hk => k_is)
      (case hs => k_is)
      (case hd => k_is)
      (case ha => k_is)
      (case hn => k_is)
      (case ht => k_is)
      (case hm => k_is)
      (case ve => first | (refine' S4.kit_ve ?w; done) | (refine' S4.kit_ve ?vw; k_is) | (refine' S4.kit_ve ?_; exact (by k_is)))
    case h77 =>
      rw [S4.adr_of m_BadSheet]
      refine' S4.ei_mk (fun _ _ _ _ _ _ us hl => match us, hl with | [_, _], _ => rfl) ?xL ?rv ?sa ?eC ?tC ?kC ?a ?t1 ?l ?c ?k ?no
      (case xL => k_is)
      (case rv => first | rfl | decide +kernel)
      (case sa => k_is)
      (case eC => k_is)
      (case tC => k_is)
      (case kC => k_is)
      (case a => k_is)
      (case t1 => k_is)
      (case l => k_is)
      (case c => k_is)
      (case k => k_is)
      case no =>
        intro y hy
        simp only [List.mem_cons, List.not_mem_nil, or_false] at hy
        rcases hy with rfl
        · k_is
    case h78 =>
      rw [S4.adr_of m_BadRules]
      refine' ⟨m_BadRules, ?kp, ?ty, ⟨?hg, ?hk, ?hs, ?hd, ?ha, ?hn, ?ht, ?hm⟩, ?ve⟩
      (case kp => k_is)
      (case ty => k_is)
      (case hg => k_is)
      (case hk => k_is)
      (case hs => k_is)
      (case hd => k_is)
      (case ha => k_is)
      (case hn => k_is)
      (case ht => k_is)
      (case hm => k_is)
      (case ve => first | (refine' S4.kit_ve ?w; done) | (refine' S4.kit_ve ?vw; k_is) | (refine' S4.kit_ve ?_; exact (by k_is)))
    case h79 =>
      rw [S4.adr_of m_BadRules]
      refine' S4.ei_mk (fun _ _ _ _ _ _ us hl => match us, hl with | [_, _], _ => rfl) ?xL ?rv ?sa ?eC ?tC ?kC ?a ?t1 ?l ?c ?k ?no
      (case xL => k_is)
      (case rv => first | rfl | decide +kernel)
      (case sa => k_is)
      (case eC => k_is)
      (case tC => k_is)
      (case kC => k_is)
      (case a => k_is)
      (case t1 => k_is)
      (case l => k_is)
      (case c => k_is)
      (case k => k_is)
      case no =>
        intro y hy
        simp only [List.mem_cons, List.not_mem_nil, or_false] at hy
        rcases hy with rfl
        · k_is
    case h80 =>
      rw [S4.adr_of m_BadTiming]
      refine' ⟨m_BadTiming, ?kp, ?ty, ⟨?hg, ?hk, ?hs, ?hd, ?ha, ?hn, ?ht, ?hm⟩, ?ve⟩
      (case kp => k_is)
      (case ty => k_is)
      (case hg => k_is)
      (case hk => k_is)
      (case hs => k_is)
      (case hd => k_is)
      (case ha => k_is)
      (case hn => k_is)
      (case ht => k_is)
      (case hm => k_is)
      (case ve => first | (refine' S4.kit_ve ?w; done) | (refine' S4.kit_ve ?vw; k_is) | (refine' S4.kit_ve ?_; exact (by k_is)))
    case h81 =>
      rw [S4.adr_of m_BadTiming]
      refine' S4.ei_mk (fun _ _ _ _ _ _ us hl => match us, hl with | [_, _], _ => rfl) ?xL ?rv ?sa ?eC ?tC ?kC ?a ?t1 ?l ?c ?k ?no
      (case xL => k_is)
      (case rv => first | rfl | decide +kernel)
      (case sa => k_is)
      (case eC => k_is)
      (case tC => k_is)
      (case kC => k_is)
      (case a => k_is)
      (case t1 => k_is)
      (case l => k_is)
      (case c => k_is)
      (case k => k_is)
      case no =>
        intro y hy
        simp only [List.mem_cons, List.not_mem_nil, or_false] at hy
        rcases hy with rfl
        · k_is
    case h82 =>
      rw [S4.adr_of m_TooMany]
      refine' ⟨m_TooMany, ?kp, ?ty, ⟨?hg, ?hk, ?hs, ?hd, ?ha, ?hn, ?ht, ?hm⟩, ?ve⟩
      (case kp => k_is)
      (case ty => k_is)
      (case hg => k_is)
      (case hk => k_is)
      (case hs => k_is)
      (case hd => k_is)
      (case ha => k_is)
      (case hn => k_is)
      (case ht => k_is)
      (case hm => k_is)
      (case ve => first | (refine' S4.kit_ve ?w; done) | (refine' S4.kit_ve ?vw; k_is) | (refine' S4.kit_ve ?_; exact (by k_is)))
    case h83 =>
      rw [S4.adr_of m_TooMany]
      refine' S4.ei_mk (fun _ _ _ _ _ _ us hl => match us, hl with | [_, _], _ => rfl) ?xL ?rv ?sa ?eC ?tC ?kC ?a ?t1 ?l ?c ?k ?no
      (case xL => k_is)
      (case rv => first | rfl | decide +kernel)
      (case sa => k_is)
      (case eC => k_is)
      (case tC => k_is)
      (case kC => k_is)
      (case a => k_is)
      (case t1 => k_is)
      (case l => k_is)
      (case c => k_is)
      (case k => k_is)
      case no =>
        intro y hy
        simp only [List.mem_cons, List.not_mem_nil, or_false] at hy
        rcases hy with rfl
        · k_is
    case h84 =>
      rw [S4.adr_of m_BadText]
      refine' ⟨m_BadText, ?kp, ?ty, ⟨?hg, ?hk, ?hs, ?hd, ?ha, ?hn, ?ht, ?hm⟩, ?ve⟩
      (case kp => k_is)
      (case ty => k_is)
      (case hg => k_is)
      (case hk => k_is)
      (case hs => k_is)
      (case hd => k_is)
      (case ha => k_is)
      (case hn => k_is)
      (case ht => k_is)
      (case hm => k_is)
      (case ve => first | (refine' S4.kit_ve ?w; done) | (refine' S4.kit_ve ?vw; k_is) | (refine' S4.kit_ve ?_; exact (by k_is)))
    case h85 =>
      rw [S4.adr_of m_BadText]
      refine' S4.ei_mk (fun _ _ _ _ _ _ us hl => match us, hl with | [_, _], _ => rfl) ?xL ?rv ?sa ?eC ?tC ?kC ?a ?t1 ?l ?c ?k ?no
      (case xL => k_is)
      (case rv => first | rfl | decide +kernel)
      (case sa => k_is)
      (case eC => k_is)
      (case tC => k_is)
      (case kC => k_is)
      (case a => k_is)
      (case t1 => k_is)
      (case l => k_is)
      (case c => k_is)
      (case k => k_is)
      case no =>
        intro y hy
        simp only [List.mem_cons, List.not_mem_nil, or_false] at hy
        rcases hy with rfl
        · k_is
    case h86 =>
      rw [S4.adr_of m_Barred]
      refine' ⟨m_Barred, ?kp, ?ty, ⟨?hg, ?hk, ?hs, ?hd, ?ha, ?hn, ?ht, ?hm⟩, ?ve⟩
      (case kp => k_is)
      (case ty => k_is)
      (case hg => k_is)
      (case hk => k_is)
      (case hs => k_is)
      (case hd => k_is)
      (case ha => k_is)
      (case hn => k_is)
      (case ht => k_is)
      (case hm => k_is)
      (case ve => first | (refine' S4.kit_ve ?w; done) | (refine' S4.kit_ve ?vw; k_is) | (refine' S4.kit_ve ?_; exact (by k_is)))
    case h87 =>
      rw [S4.adr_of m_Barred]
      refine' S4.ei_mk (fun _ _ _ _ _ _ us hl => match us, hl with | [_, _, _], _ => rfl) ?xL ?rv ?sa ?eC ?tC ?kC ?a ?t1 ?l ?c ?k ?no
      (case xL => k_is)
      (case rv => first | rfl | decide +kernel)
      (case sa => k_is)
      (case eC => k_is)
      (case tC => k_is)
      (case kC => k_is)
      (case a => k_is)
      (case t1 => k_is)
      (case l => k_is)
      (case c => k_is)
      (case k => k_is)
      case no =>
        intro y hy
        simp only [List.mem_cons, List.not_mem_nil, or_false] at hy
        rcases hy with rfl | rfl
        · k_is
        · k_is
    case h88 =>
      rw [S4.adr_of m_BadSaid]
      refine' ⟨m_BadSaid, ?kp, ?ty, ⟨?hg, ?hk, ?hs, ?hd, ?ha, ?hn, ?ht, ?hm⟩, ?ve⟩
      (case kp => k_is)
      (case ty => k_is)
      (case hg => k_is)
      (case hk => k_is)
      (case hs => k_is)
      (case hd => k_is)
      (case ha => k_is)
      (case hn => k_is)
      (case ht => k_is)
      (case hm => k_is)
      (case ve => first | (refine' S4.kit_ve ?w; done) | (refine' S4.kit_ve ?vw; k_is) | (refine' S4.kit_ve ?_; exact (by k_is)))
    case h89 =>
      rw [S4.adr_of m_BadSaid]
      refine' S4.ei_mk (fun _ _ _ _ _ _ us hl => match us, hl with | [_, _, _], _ => rfl) ?xL ?rv ?sa ?eC ?tC ?kC ?a ?t1 ?l ?c ?k ?no
      (case xL => k_is)
      (case rv => first | rfl | decide +kernel)
      (case sa => k_is)
      (case eC => k_is)
      (case tC => k_is)
      (case kC => k_is)
      (case a => k_is)
      (case t1 => k_is)
      (case l => k_is)
      (case c => k_is)
      (case k => k_is)
      case no =>
        intro y hy
        simp only [List.mem_cons, List.not_mem_nil, or_false] at hy
        rcases hy with rfl | rfl
        · k_is
        · k_is
    case h90 =>
      rw [S4.adr_of m_BadAnswer]
      refine' ⟨m_BadAnswer, ?kp, ?ty, ⟨?hg, ?hk, ?hs, ?hd, ?ha, ?hn, ?ht, ?hm⟩, ?ve⟩
      (case kp => k_is)
      (case ty => k_is)
      (case hg => k_is)
      (case hk => k_is)
      (case hs => k_is)
      (case hd => k_is)
      (case ha => k_is)
      (case hn => k_is)
      (case ht => k_is)
      (case hm => k_is)
      (case ve => first | (refine' S4.kit_ve ?w; done) | (refine' S4.kit_ve ?vw; k_is) | (refine' S4.kit_ve ?_; exact (by k_is)))
    case h91 =>
      rw [S4.adr_of m_BadAnswer]
      refine' S4.ei_mk (fun _ _ _ _ _ _ us hl => match us, hl with | [_, _], _ => rfl) ?xL ?rv ?sa ?eC ?tC ?kC ?a ?t1 ?l ?c ?k ?no
      (case xL => k_is)
      (case rv => first | rfl | decide +kernel)
      (case sa => k_is)
      (case eC => k_is)
      (case tC => k_is)
      (case kC => k_is)
      (case a => k_is)
      (case t1 => k_is)
      (case l => k_is)
      (case c => k_is)
      (case k => k_is)
      case no =>
        intro y hy
        simp only [List.mem_cons, List.not_mem_nil, or_false] at hy
        rcases hy with rfl
        · k_is
    case h92 =>
      rw [S4.adr_of m_NoMark]
      refine' ⟨m_NoMark, ?kp, ?ty, ⟨?hg, ?hk, ?hs, ?hd, ?ha, ?hn, ?ht, ?hm⟩, ?ve⟩
      (case kp => k_is)
      (case ty => k_is)
      (case hg => k_is)
      (case hk => k_is)
      (case hs => k_is)
      (case hd => k_is)
      (case ha => k_is)
      (case hn => k_is)
      (case ht => k_is)
      (case hm => k_is)
      (case ve => first | (refine' S4.kit_ve ?w; done) | (refine' S4.kit_ve ?vw; k_is) | (refine' S4.kit_ve ?_; exact (by k_is)))
    case h93 =>
      rw [S4.adr_of m_NoMark]
      refine' S4.ei_mk (fun _ _ _ _ _ _ us hl => match us, hl with | [_, _], _ => rfl) ?xL ?rv ?sa ?eC ?tC ?kC ?a ?t1 ?l ?c ?k ?no
      (case xL => k_is)
      (case rv => first | rfl | decide +kernel)
      (case sa => k_is)
      (case eC => k_is)
      (case tC => k_is)
      (case kC => k_is)
      (case a => k_is)
      (case t1 => k_is)
      (case l => k_is)
      (case c => k_is)
      (case k => k_is)
      case no =>
        intro y hy
        simp only [List.mem_cons, List.not_mem_nil, or_false] at hy
        rcases hy with rfl
        · k_is
    case h94 =>
      rw [S4.adr_of m_BadJournal]
      refine' ⟨m_BadJournal, ?kp, ?ty, ⟨?hg, ?hk, ?hs, ?hd, ?ha, ?hn, ?ht, ?hm⟩, ?ve⟩
      (case kp => k_is)
      (case ty => k_is)
      (case hg => k_is)
      (case hk => k_is)
      (case hs => k_is)
      (case hd => k_is)
      (case ha => k_is)
      (case hn => k_is)
      (case ht => k_is)
      (case hm => k_is)
      (case ve => first | (refine' S4.kit_ve ?w; done) | (refine' S4.kit_ve ?vw; k_is) | (refine' S4.kit_ve ?_; exact (by k_is)))
    case h95 =>
      rw [S4.adr_of m_BadJournal]
      refine' S4.ei_mk (fun _ _ _ _ _ _ us hl => match us, hl with | [_, _], _ => rfl) ?xL ?rv ?sa ?eC ?tC ?kC ?a ?t1 ?l ?c ?k ?no
      (case xL => k_is)
      (case rv => first | rfl | decide +kernel)
      (case sa => k_is)
      (case eC => k_is)
      (case tC => k_is)
      (case kC => k_is)
      (case a => k_is)
      (case t1 => k_is)
      (case l => k_is)
      (case c => k_is)
      (case k => k_is)
      case no =>
        intro y hy
        simp only [List.mem_cons, List.not_mem_nil, or_false] at hy
        rcases hy with rfl
        · k_is
    case h96 =>
      rw [S4.adr_of m_NoName]
      refine' ⟨m_NoName, ?kp, ?ty, ⟨?hg, ?hk, ?hs, ?hd, ?ha, ?hn, ?ht, ?hm⟩, ?ve⟩
      (case kp => k_is)
      (case ty => k_is)
      (case hg => k_is)
      (case hk => k_is)
      (case hs => k_is)
      (case hd => k_is)
      (case ha => k_is)
      (case hn => k_is)
      (case ht => k_is)
      (case hm => k_is)
      (case ve => first | (refine' S4.kit_ve ?w; done) | (refine' S4.kit_ve ?vw; k_is) | (refine' S4.kit_ve ?_; exact (by k_is)))
    case h97 =>
      rw [S4.adr_of m_NoName]
      refine' S4.ei_mk (fun _ _ _ _ _ _ us hl => match us, hl with | [_, _], _ => rfl) ?xL ?rv ?sa ?eC ?tC ?kC ?a ?t1 ?l ?c ?k ?no
      (case xL => k_is)
      (case rv => first | rfl | decide +kernel)
      (case sa => k_is)
      (case eC => k_is)
      (case tC => k_is)
      (case kC => k_is)
      (case a => k_is)
      (case t1 => k_is)
      (case l => k_is)
      (case c => k_is)
      (case k => k_is)
      case no =>
        intro y hy
        simp only [List.mem_cons, List.not_mem_nil, or_false] at hy
        rcases hy with rfl
        · k_is
    case h98 =>
      rw [S4.adr_of m_BadTale]
      refine' ⟨m_BadTale, ?kp, ?ty, ⟨?hg, ?hk, ?hs, ?hd, ?ha, ?hn, ?ht, ?hm⟩, ?ve⟩
      (case kp => k_is)
      (case ty => k_is)
      (case hg => k_is)
      (case hk => k_is)
      (case hs => k_is)
      (case hd => k_is)
      (case ha => k_is)
      (case hn => k_is)
      (case ht => k_is)
      (case hm => k_is)
      (case ve => first | (refine' S4.kit_ve ?w; done) | (refine' S4.kit_ve ?vw; k_is) | (refine' S4.kit_ve ?_; exact (by k_is)))
    case h99 =>
      rw [S4.adr_of m_BadTale]
      refine' S4.ei_mk (fun _ _ _ _ _ _ us hl => match us, hl with | [_, _], _ => rfl) ?xL ?rv ?sa ?eC ?tC ?kC ?a ?t1 ?l ?c ?k ?no
      (case xL => k_is)
      (case rv => first | rfl | decide +kernel)
      (case sa => k_is)
      (case eC => k_is)
      (case tC => k_is)
      (case kC => k_is)
      (case a => k_is)
      (case t1 => k_is)
      (case l => k_is)
      (case c => k_is)
      (case k => k_is)
      case no =>
        intro y hy
        simp only [List.mem_cons, List.not_mem_nil, or_false] at hy
        rcases hy with rfl
        · k_is
    case h100 =>
      rw [S4.adr_of m_Failed]
      refine' ⟨m_Failed, ?kp, ?ty, ⟨?hg, ?hk, ?hs, ?hd, ?ha, ?hn, ?ht, ?hm⟩, ?ve⟩
      (case kp => k_is)
      (case ty => k_is)
      (case hg => k_is)
      (case hk => k_is)
      (case hs => k_is)
      (case hd => k_is)
      (case ha => k_is)
      (case hn => k_is)
      (case ht => k_is)
      (case hm => k_is)
      (case ve => first | (refine' S4.kit_ve ?w; done) | (refine' S4.kit_ve ?vw; k_is) | (refine' S4.kit_ve ?_; exact (by k_is)))
    case h101 =>
      rw [S4.adr_of m_Failed]
      refine' S4.ei_mk (fun _ _ _ _ _ _ us hl => match us, hl with | [_, _], _ => rfl) ?xL ?rv ?sa ?eC ?tC ?kC ?a ?t1 ?l ?c ?k ?no
      (case xL => k_is)
      (case rv => first | rfl | decide +kernel)
      (case sa => k_is)
      (case eC => k_is)
      (case tC => k_is)
      (case kC => k_is)
      (case a => k_is)
      (case t1 => k_is)
      (case l => k_is)
      (case c => k_is)
      (case k => k_is)
      case no =>
        intro y hy
        simp only [List.mem_cons, List.not_mem_nil, or_false] at hy
        rcases hy with rfl
        · k_is
    case h102 =>
      rw [S4.adr_of m_NoClock, S4.adr_of m_TollError]
      k_is
    case h103 =>
      rw [S4.adr_of m_NoClock]
      k_is
    case h104 =>
      rw [S4.adr_of m_NoClock, S4.adr_of m_NoNumber]
      k_is
    case h105 =>
      rw [S4.adr_of m_NoClock, S4.adr_of m_NoRow]
      k_is
    case h106 =>
      rw [S4.adr_of m_NoClock, S4.adr_of m_NoRows]
      k_is
    case h107 =>
      rw [S4.adr_of m_NoNumber, S4.adr_of m_TollError]
      k_is
    case h108 =>
      rw [S4.adr_of m_NoNumber, S4.adr_of m_NoClock]
      k_is
    case h109 =>
      rw [S4.adr_of m_NoNumber]
      k_is
    case h110 =>
      rw [S4.adr_of m_NoNumber, S4.adr_of m_NoRow]
      k_is
    case h111 =>
      rw [S4.adr_of m_NoNumber, S4.adr_of m_NoRows]
      k_is
    case h112 =>
      rw [S4.adr_of m_NoRow, S4.adr_of m_TollError]
      k_is
    case h113 =>
      rw [S4.adr_of m_NoRow, S4.adr_of m_NoClock]
      k_is
    case h114 =>
      rw [S4.adr_of m_NoRow, S4.adr_of m_NoNumber]
      k_is
    case h115 =>
      rw [S4.adr_of m_NoRow]
      k_is
    case h116 =>
      rw [S4.adr_of m_NoRow, S4.adr_of m_NoRows]
      k_is
    case h117 =>
      rw [S4.adr_of m_NoRows]
      k_is
    case h118 =>
      show S4.uAll _ [S4.adr mg "TollError", S4.adr mg "NoRows", S4.adr mg "BadTree", S4.adr mg "BadSheet", S4.adr mg "BadRules", S4.adr mg "BadTiming", S4.adr mg "TooMany", S4.adr mg "BadText", S4.adr mg "Barred", S4.adr mg "BadSaid", S4.adr mg "BadAnswer", S4.adr mg "NoMark", S4.adr mg "BadJournal", S4.adr mg "NoName", S4.adr mg "BadTale", S4.adr mg "Failed", S4.adr mg "NoClock", S4.adr mg "NoNumber", S4.adr mg "NoRow", S4.adr mg "NoPost", S4.adr mg "NoWay", S4.adr mg "NoPlan", S4.adr mg "NotRight", S4.adr mg "NotLeast", S4.adr mg "NoGiven", S4.adr mg "NoWays", S4.adr mg "NoOrder", S4.adr mg "NoLot", S4.adr mg "NotUndoable", S4.adr mg "NotAfter", S4.adr mg "NotAlike", S4.adr mg "NoAnswers", S4.adr mg "NoCounts", S4.adr mg "NoTable", S4.adr mg "NotSure", S4.adr mg "NoRule", S4.adr mg "NotRow", S4.adr mg "NoTick", S4.adr mg "NoCut", S4.adr mg "NoHours", S4.adr mg "NotOne", S4.adr mg "NotPlanned", S4.adr mg "NoProgram", S4.adr mg "NoWant", S4.adr mg "NoValue", S4.adr mg "NoValues", S4.adr mg "NotEmpty", S4.adr mg "Full", S4.adr mg "NothingDone", S4.adr mg "NoLine", S4.adr mg "TooLong"] = true
      rw [S4.adr_of m_TollError, S4.adr_of m_NoRows, S4.adr_of m_BadTree, S4.adr_of m_BadSheet, S4.adr_of m_BadRules, S4.adr_of m_BadTiming, S4.adr_of m_TooMany, S4.adr_of m_BadText, S4.adr_of m_Barred, S4.adr_of m_BadSaid, S4.adr_of m_BadAnswer, S4.adr_of m_NoMark, S4.adr_of m_BadJournal, S4.adr_of m_NoName, S4.adr_of m_BadTale, S4.adr_of m_Failed, S4.adr_of m_NoClock, S4.adr_of m_NoNumber, S4.adr_of m_NoRow, S4.adr_of m_NoPost, S4.adr_of m_NoWay, S4.adr_of m_NoPlan, S4.adr_of m_NotRight, S4.adr_of m_NotLeast, S4.adr_of m_NoGiven, S4.adr_of m_NoWays, S4.adr_of m_NoOrder, S4.adr_of m_NoLot, S4.adr_of m_NotUndoable, S4.adr_of m_NotAfter, S4.adr_of m_NotAlike, S4.adr_of m_NoAnswers, S4.adr_of m_NoCounts, S4.adr_of m_NoTable, S4.adr_of m_NotSure, S4.adr_of m_NoRule, S4.adr_of m_NotRow, S4.adr_of m_NoTick, S4.adr_of m_NoCut, S4.adr_of m_NoHours, S4.adr_of m_NotOne, S4.adr_of m_NotPlanned, S4.adr_of m_NoProgram, S4.adr_of m_NoWant, S4.adr_of m_NoValue, S4.adr_of m_NoValues, S4.adr_of m_NotEmpty, S4.adr_of m_Full, S4.adr_of m_NothingDone, S4.adr_of m_NoLine, S4.adr_of m_TooLong]
      kernel_rfl
