import PyProof.Rows.All
import Wide.All
import OpenK.AllK
import Wide.FinOn
import HandS.ForMost
import HandS.Sort
import HandS.SortRule
import HandS.SortInts
import HandS.Conv
import HandS.Codes
import HandS.Deep
import HandS.TupLe
import HandS.TupAny
import HandS.TupMul
import HandS.Style
import HandS.Zip
import HandS.More
import HandS.Flow
import HandS.Walk
import HandS.IsInst
import KE.KTupSum
import PyProof.TupleOfSeq
import PyProof.Draws
import PyProof.EnumMake
import KE.GoesMore
import KE.GoesEnum
import HandS.ExcOwn
import HandS.ExcInit
import HandS.ExcIs
import HandS.ExcField
import HandS.OwnEq
import HandS.TryOnly
import KE.GoesZip
import HandS.WordsExc
import KE.DataFind
import HandS.DictComp
import HandS.Dict
import HandS.Finally
import KE.KDictKeyed
import KE.KDictPairs
import HandS.Lambda
import HandS.EndTab
import KE.KNestM
import KE.KEqDict
import PyProof.EqAt
import PyProof.EqKinds
import PyProof.TupleCall
import HandS.Base
import HandS.Call
import HandS.Exc
import HandS.TryMany
import HandS.Wide
import PySem.Challenge.RW_sametolls_k17_whole_small_sheets_counted
set_option Elab.async false
set_option autoImplicit false
set_option linter.all false
set_option maxRecDepth 100000
set_option maxHeartbeats 4000000
/-! rules that the hand layer lacks: sum, sorted, enumerate, in, [::-1], * of tuples -/
namespace TT
open PySem PySem.Spec PyProof.Rows L2
section
variable {X : Cx}
/-! ### sum(t), t a tuple of ints -/
def rSumT (K : PySem.W.Frag) : List V → Hp → VK → Prop := fun vs H Q => ∃ (a : Addr) (ns : List Int), vs = [V.ref a] ∧ SqT K H a (ns.map V.int) ∧ Q (.int ns.sum) H
theorem cr_sumT (hc : X.calm = true) : CallR X (.builtin "sum") (rSumT X.K) := by
  intro pins s σ H vs us Q I r h
  obtain ⟨a, ns, rfl, hs, q⟩ := h
  obtain ⟨its, rv, hl, _⟩ := I.tuple hs
  rw [Vals.ref1 r]
  have hi : IntsAre its ns := rv.ints
  obtain ⟨xs, e⟩ := hi.allInts.items
  have hn : numsOf (intItems xs).toList = ns := by rw [← e]; exact hi.numsOf
  rw [nums_intItems] at hn
  obtain ⟨o, ho, hc', n, hd⟩ := id hl
  have hl2 : s.heap.IsTuple a (intItems xs) := by
    rw [← e]
    exact ⟨o, ho, hc', n, hd⟩
  refine PySem.W.ktm_sumG (I.ok.hd hc) hl2 fun h' tk t' hk => ?_
  rw [preSum_eq, List.take_of_length_le (by simp), hn]
  exact ⟨.int _, H, I.kept hk, ⟨_, rfl⟩, q⟩
/-! ### x in t, t a tuple of data -/
def rInT (K : PySem.W.Frag) : R2 := fun x y H Q => ∃ d ds, Dp K H x d ∧ Dp K H y (.tuple ds) ∧ SeqAt.shaped d = true ∧ SeqAt.shaped (.tuple ds) = true ∧ Q (.bl (ds.any fun z => PyData.eqv z d)) H
theorem op_inT (hu : X.A.units + 65 < cLine) : OpR X (compareOp .In) (rInT X.K) := by
  intro pins s σ H x y v u Q I rx ry h
  obtain ⟨d, ds, hd, he, sd, se, q⟩ := h
  obtain ⟨as, r1⟩ := Dp.reads I d x v hd rx
  obtain ⟨bs, r2⟩ := Dp.reads I (.tuple ds) y u he ry
  exact SeqAt.in_tuple_reads r2 r1 (SeqAt.canLay_of_shaped se) (SeqAt.canLay_of_shaped sd) (room_in_shaped sd hu) ⟨.bl _, H, I, rfl, q⟩
end
/-! ### t[::-1] -/
section
variable {prog : Program} {w : World} {A : Around} {E : Value → Shared → Prop} {s : Shared}
theorem adjust_rev (n : Nat) : Builtin.Slice.sliceAdjust none none (-1) (n : Int) = ((n : Int) - 1, -1) := rfl
theorem places_rev (n : Nat) : Builtin.Slice.slicePlaces ((n : Int) - 1) (-1) (-1) = n := by
  unfold Builtin.Slice.slicePlaces
  rw [if_neg (by decide)]
  have e : (-(-1 : Int)) = 1 := by decide
  rw [e, Int.ediv_one]
  split <;> omega
theorem pick_rev (xs : Array Value) : ((List.range xs.size).filterMap fun (k : Nat) => xs[(((xs.size : Int) - 1) + (k : Int) * (-1)).toNat]?).toArray = xs.toList.reverse.toArray := by
  have e : (List.range xs.size).filterMap (fun (k : Nat) => xs[(((xs.size : Int) - 1) + (k : Int) * (-1)).toNat]?) = xs.toList.reverse := by
    have h : ∀ (n : Nat), n ≤ xs.size → (List.range n).filterMap (fun (k : Nat) => xs[(((xs.size : Int) - 1) + (k : Int) * (-1)).toNat]?) = xs.toList.reverse.take n := by
      intro n
      induction n with
      | zero => intro _; simp
      | succ n ih =>
        intro hn
        rw [List.range_succ, List.filterMap_append, ih (by omega), List.take_succ]
        congr 1
        have e1 : (((xs.size : Int) - 1) + (n : Int) * (-1)).toNat = xs.size - 1 - n := by omega
        rw [List.filterMap_cons, e1, List.getElem?_reverse (by rw [Array.length_toList]; omega), Array.length_toList, Array.getElem?_toList]
        cases xs[xs.size - 1 - n]? <;> rfl
    have := h xs.size (Nat.le_refl _)
    rw [this, List.take_of_length_le (by rw [List.length_reverse, Array.length_toList]; exact Nat.le_refl _)]
  rw [e]
theorem getItem_tuple_rev {t sl : Addr} {items : Array Value} {u : Tok} {Q : Value → Shared → Prop} (ht : IsTup s.heap t items) (hs : s.heap.IsSliceOf sl .none .none (.int (-1) u))
    (h : Q (.ref s.heap.objs.size) { s with heap := s.heap.push { cls := .type "tuple", data := .seq items.toList.reverse.toArray } })
    (hsz : items.size ≤ sizeLine) : wpAny (model prog w) A (getItem (.ref t) (.ref sl)) Q E s := by
  have htake : sizeOk (.seq items.toList.reverse.toArray) := by
    show items.toList.reverse.toArray.size ≤ sizeLine
    rw [List.size_toArray, List.length_reverse, Array.length_toList]
    exact hsz
  obtain ⟨os, hos, hcs, hds⟩ := id hs
  have hTs : s.TypeIs (.ref sl) "slice" := ⟨os, hos, hcs⟩
  unfold getItem
  try with_reducible refine wpAny_holding ?_
  first | refine wpAny_bind (wpAny_pure ?_) | skip
  refine wpAny_bind (wpAny_sequenceKey ht.typeIs (by decide) ?_)
  refine wpAny_bind (wpAny_callSpecial?_slot (name := Str.ofString "__getitem__") ht.typeIs PyProof.Rows.slot_tuple_getitem
    (wpAny_call_entry PyProof.Rows.slot_tuple_getitem ht.typeIs entry_tuple_getitem ?_ (args_tuple_getitem _ _)))
  show wpAny _ _ (Builtin.Tuple.tupleItemsOf (.ref t) >>= _) _ _ s
  refine wpAny_bind (tupleItemsOf_ ht ?_)
  refine wpAny_bind (wpAny_typeOf hTs ?_)
  rw [if_pos (by decide)]
  refine wpAny_bind ?_
  unfold Builtin.Slice.sliceApplied Builtin.Slice.sliceFields
  refine wpAny_bind (wpAny_bind (wpAny_field hos hds (x := .none) rfl (wpAny_bind (wpAny_field hos hds (x := .none) rfl (wpAny_bind (wpAny_field hos hds (x := .int (-1) u) rfl (wpAny_pure ?_)))))))
  refine wpAny_bind (slicePart_int ?_)
  show wpAny _ _ (if ((-1 : Int) == 0) = true then _ else _) _ _ s
  rw [if_neg (by decide)]
  refine wpAny_bind (slicePart_none (wpAny_bind (slicePart_none (wpAny_bind (wpAny_pure ?_)))))
  show wpAny _ _ (match Builtin.Slice.sliceAdjust none none (-1) (items.size : Int) with | (lo, hi) => pure (lo, (-1 : Int), Builtin.Slice.slicePlaces lo hi (-1))) _ _ s
  rw [adjust_rev]
  show wpAny _ _ (pure (((items.size : Int) - 1), (-1 : Int), Builtin.Slice.slicePlaces ((items.size : Int) - 1) (-1) (-1))) _ _ s
  rw [places_rev]
  refine wpAny_pure ?_
  have hno : ¬ ((((items.size : Int) - 1) == 0 && (-1 : Int) == 1 && (items.size == items.size)) = true) := by
    rw [show ((-1 : Int) == 1) = false from by decide, Bool.and_false, Bool.false_and]
    exact Bool.false_ne_true
  show wpAny _ _ (if (((items.size : Int) - 1) == 0 && (-1 : Int) == 1 && (items.size == items.size)) = true then _ else _) _ _ s
  rw [if_neg hno, pick_rev]
  first
    | exact wpAny_bind (m := Builtin.Tuple.tupleExact _) (wpAny_newObj_type (wpAny_pure ⟨_, rfl, wpAny_pure h⟩) htake)
    | exact wpAny_bind (m := Builtin.Tuple.tupleExact _) (wpAny_newObj_type (wpAny_bind (wpAny_pure (wpAny_pure ⟨_, rfl, wpAny_pure h⟩))) htake)
    | exact wpAny_bind (wpAny_bind (m := Builtin.Tuple.tupleExact _) (wpAny_newObj_type (wpAny_pure (wpAny_pure ⟨_, rfl, wpAny_pure h⟩)) htake))
    | exact wpAny_bind (wpAny_bind (m := Builtin.Tuple.tupleExact _) (wpAny_newObj_type (wpAny_pure ⟨_, rfl, wpAny_pure h⟩) htake))
end
section
variable {X : Cx}
def tRevT (K : PySem.W.Frag) (te : TE) : TE := fun σ H Q => te σ H fun x H1 => ∃ a xs, x = .ref a ∧ SqT K H1 a xs ∧ ∀ p, H1 p = none → Q (.ref p) (upd H1 p (.tup xs.reverse))
theorem pe_revT {e : Expr} {te : TE} {k : Nat} {p1 p2 p3 pos : Pos} (he : PE X e te) : PE X (.Subscript e (.Slice none none (some (.UnaryOp .USub (.Constant (.int 1) k p1) p2)) p3) pos) (tRevT X.K te) := by
  refine ⟨fun pins s σ H Q I h => ?_⟩
  refine Subscript_ (thn (he.run pins s σ H _ I h) fun v s1 ⟨x, H1, I1, r1, q1⟩ => ?_)
  obtain ⟨a, xs, ex, hx, q⟩ := q1
  subst ex
  cases r1
  have hst : PO X (some (.UnaryOp .USub (.Constant (.int 1) k p1) p2)) (tPart (tUn (rU fun i => .int (-i)) (tC (.int 1)))) := po_some (pe_un un_neg pe_int)
  refine wpAny_Slice (thn (po_none.run pins s1 σ H1 (fun o H2 => o = none ∧ H2 = H1) I1 ⟨rfl, rfl⟩) fun vl s2 ⟨l, H2, I2, pl, el, e2⟩ => ?_)
  subst el e2
  refine thn (po_none.run pins s2 σ H2 (fun o H3 => o = none ∧ H3 = H2) I2 ⟨rfl, rfl⟩) fun vu s3 ⟨u, H3, I3, pu, eu, e3⟩ => ?_
  subst eu e3
  refine thn (hst.run pins s3 σ H3 (fun o H4 => o = some (-1) ∧ H4 = H3) I3 ⟨1, rfl, -1, rfl, rfl, rfl⟩) fun vs s4 ⟨o, H4, I4, ps, eo, e4⟩ => ?_
  subst eo e4
  have I5 : Inv X pins σ H4 { s4 with heap := s4.heap.push { cls := .type "slice", data := .fields #[vl, vu, vs] } } := I4.kept (t' := s4.toks) fun b ob q => Heap.get?_push_of_some _ q
  obtain ⟨its, r, ht, hz⟩ := I5.tuple hx
  have hlen := r.length
  show wpAny (model X.prog X.w) X.A (subscriptTail e (.Slice none none (some (.UnaryOp .USub (.Constant (.int 1) k p1) p2)) p3) (.ref a) (.ref s4.heap.objs.size)) (EP X pins σ Q) X.xe { s4 with heap := s4.heap.push { cls := .type "slice", data := .fields #[vl, vu, vs] } }
  cases pl
  cases pu
  cases ps with
  | int i t =>
    refine tail_any (ops := [.ref a, .ref s4.heap.objs.size]) ht.typeIs (PyProof.Rows.slot_tuple_getitem.lookup) ?_ (by with_unfolding_all rfl)
    refine getItem_tuple_rev ht (Heap.IsSliceOf.new _ .none .none (.int (-1) t)) ?_ (by rw [List.size_toArray]; omega)
    refine ⟨.ref _, _, I5.laid (t' := s4.toks) (o := .tup xs.reverse) (fun b ob q => Heap.get?_push_of_some _ q) (Nat.le_refl _) ?_, rfl, q _ (I5.hok.fresh (Nat.le_refl _))⟩
    exact ⟨by rw [List.length_reverse]; exact hz, _, r.reverse, IsTup.new _ _⟩
end
/-! ### enumerate(t), t a tuple -/
def IteT (K : PySem.W.Frag) (a : Addr) : It :=
  ⟨fun i H => ∃ (xs : List V) (x : V), SqT K H a xs ∧ xs[i]? = some x, fun i H v H' => ∃ T x, v = .ref T ∧ H T = none ∧ H' = upd H T (.tup [.int (i : Nat), x]) ∧ ∀ xs, SqT K H a xs → xs[i]? = some x, fun i H => ∃ xs : List V, SqT K H a xs ∧ i = xs.length⟩
theorem turn_enumT {P : Program} {w : World} {K : PySem.W.Frag} {elts : List Expr} {kk : Nat} {tpos : Pos} (a e it : Addr) (hai : a ≠ it) :
    Turn P w K (.Tuple elts kk tpos) (IteT K a) [e, it] e (fun i h => (∃ old, IsEnum h e it ((i : Nat) : Int) old) ∧ h.IsTupleIter it a i ∧ e ≠ it ∧ e ≠ a) where
  mem := by simp
  obj := fun i h st b hb => by
    obtain ⟨⟨old, he⟩, ⟨o, ho, hc, hd⟩, _⟩ := st
    have e' : b = e ∨ b = it := by simpa using hb
    rcases e' with z | z
    · rw [z]; exact ⟨_, he, fun v q => nomatch q⟩
    · rw [z]; exact ⟨o, ho, fun v q => by rw [hd] at q; cases q⟩
  keep := fun i h h' st k => let ⟨⟨old, he⟩, hi, hne⟩ := st; ⟨⟨old, k e (by simp) _ he⟩, hi.at fun o q => k it (by simp) o q, hne⟩
  item := by
    intro X hP hw hK hc i pins s σ H E I hf st hg
    subst hP hw hK
    obtain ⟨⟨old, he⟩, hit, hne, hnea⟩ := st
    obtain ⟨xs, x, hq, hx⟩ := hg
    obtain ⟨its, rv, p, hz⟩ := I.tuple hq
    obtain ⟨u, hu, ru⟩ := rv.get hx
    have hel : e < s.heap.objs.size := Heap.lt_size he
    have hil : it < s.heap.objs.size := by obtain ⟨_, q, _⟩ := hit; exact Heap.lt_size q
    have hlt : i < its.toArray.size := by
      rw [List.size_toArray]
      exact (List.getElem?_eq_some_iff.mp hu).1
    have p' : s.heap.IsTuple a its.toArray := p
    have D := Draws.tuple (prog := X.prog) (w := X.w) (A := X.A.in1) (I.ok.hd hc) it a hai its.toArray
    refine wpAny_pyNext_enum_itemD D he ⟨hit, p'⟩ hlt hne (by simp [hne, hnea]) fun u' h' tk hP' ho st' hT hsz hk => ?_
    have hu2 : u' = u := by
      have : its.toArray[i]? = some u' := hP'
      rw [show its.toArray[i]? = its[i]? by simp] at this
      rw [hu] at this
      exact (Option.some.inj this).symm
    subst hu2
    have hit' := st'.1
    refine ⟨_, rfl, wpAny_letOwnedTupleGo_enum (s := { s with heap := h', toks := tk + 1 }) ho fun h'' he' sb => ?_⟩
    have hT2 : h''.get? s.heap.objs.size = some { cls := .type "tuple", data := .seq #[.int i tk, u'] } := (sb.2 _ (Nat.ne_of_gt hel)).trans hT
    have new : ObjOk X.prog X.w (upd H s.heap.objs.size (.tup [.int (i : Nat), x])) h'' s.heap.objs.size (.tup [.int (i : Nat), x]) :=
      ⟨by show 2 ≤ sizeLine; decide, [.int i tk, u'], .cons ⟨_, rfl⟩ (.cons ru .nil), ⟨_, hT2, rfl, _, rfl⟩⟩
    have I1 : Inv X pins σ (upd H s.heap.objs.size (.tup [.int (i : Nat), x])) { s with heap := h'', toks := tk + 1 } :=
      I.turnedNew (ch := [e, it]) (fun b ob hb q => (sb.2 b (fun z => hb (by simp [z]))).trans (hk b ob (fun z => hb (by simp [z])) (fun z => hb (by simp [z])) q)) hf (Nat.le_refl _) new
    refine ⟨.ref s.heap.objs.size, _, I1, rfl, ⟨_, x, rfl, I.hok.fresh (Nat.le_refl _), rfl, fun ys hy => by rw [I.tuple_inj hy hq]; exact hx⟩, ⟨⟨u', ?_⟩, hit'.at fun o q => (sb.2 it (Ne.symm hne)).trans q, hne, hnea⟩, fun b hb => ?_⟩
    · have e1 : ((i + 1 : Nat) : Int) = (i : Int) + 1 := by omega
      rw [e1]; exact he'
    · have hb' : b < s.heap.objs.size := by
        have e' : b = e ∨ b = it := by simpa using hb
        rcases e' with z | z
        · rw [z]; exact hel
        · rw [z]; exact hil
      rw [upd_ne (Nat.ne_of_lt hb')]
      exact (hf b hb).1
  done := by
    intro X hP hw hK hc i pins s σ H E I hf st hg
    subst hP hw hK
    obtain ⟨⟨old, he⟩, hit, hne, hnea⟩ := st
    obtain ⟨xs, hq, hx⟩ := hg
    obtain ⟨its, rv, p, hz⟩ := I.tuple hq
    obtain ⟨f0, f1, f2, f3, f4, f5⟩ := hf it (by simp)
    have hl := rv.length
    have p' : s.heap.IsTuple a its.toArray := p
    have D := Draws.tuple (prog := X.prog) (w := X.w) (A := X.A.in1) (I.ok.hd hc) it a hai its.toArray
    have hi : i = its.toArray.size := by rw [List.size_toArray]; omega
    rw [hi] at hit
    exact wpAny_pyNext_enum_endD D he ⟨hit, p'⟩ fun h' eb => ⟨rfl, I.turned (t' := s.toks) (fun b o hb q => eb b o hb q) f0 f1 f3 f4 f5⟩
  self := fun A i s Q E st h => let ⟨⟨_, he⟩, _⟩ := st; wpAny_pyIter_enum he h
def iEnumT (K : PySem.W.Frag) (ta : TA) : TI := fun σ H R => ta σ H fun vs H1 => ∃ a xs, vs = [.ref a] ∧ SqT K H1 a xs ∧ R (IteT K a) H1
theorem meets_enumerate_newT (t : Addr) (items : Array Value) :
    Meets (Builtin.«enumerate.__new__» ⟨[.type "enumerate", .ref t], []⟩) (fun _ R s => s.heap.IsTuple t items ∧
      R (.ok (.ret (.ref (s.heap.push { cls := .type "tuple_iterator", data := .fields #[.ref t, .int 0 0] }).objs.size)))
        { s with heap := (s.heap.push { cls := .type "tuple_iterator", data := .fields #[.ref t, .int 0 0] }).push { cls := .type "enumerate", data := .fields #[.none, .bool false, .ref s.heap.objs.size, rawInt 0, .none, .none] } }) :=
  .of_wp fun prog w A R s h => by
    obtain ⟨hp, g, d, tk, os⟩ := s
    obtain ⟨hL, h⟩ := h
    have hsub := sub_enumerate
    have q1 : ∀ {A' : Around} {E : Value → Shared → Prop} {Q : Value → Shared → Prop}, Q (.ref hp.objs.size) ⟨hp.push { cls := .type "tuple_iterator", data := .fields #[.ref t, .int 0 0] }, g, d, tk, os⟩ → wpAny (model prog w) A' (pyIter (.ref t)) Q E ⟨hp, g, d, tk, os⟩ :=
      fun q => wpAny_pyIter_tuple hL q
    wp_walk using q1
    refine wpAny_stack_any fun st => wpAny_pure ?_
    split
    · rename_i c _ _ _ _ _
      cases (c == Value.type "enumerate")
      · wp_walk using q1
        exact ⟨_, rfl, h⟩
      · wp_walk using q1
        exact ⟨_, rfl, h⟩
    · wp_walk using q1
      exact ⟨_, rfl, h⟩
theorem call_enumerate_tuple {prog : Program} {w : World} {A : Around} {E : Value → Shared → Prop} {s : Shared} {t : Addr} {items : Array Value} {Q : Value → Shared → Prop} (ht : s.heap.IsTuple t items)
    (h : ∀ h', IsEnum h' (s.heap.objs.size + 1) s.heap.objs.size 0 .none → h'.IsTupleIter s.heap.objs.size t 0 → h'.objs.size = s.heap.objs.size + 2 →
      (∀ b o, s.heap.get? b = some o → h'.get? b = some o) → Q (.ref (s.heap.objs.size + 1)) { s with heap := h' }) :
    wpAny (model prog w) A (call (.type "enumerate") [.ref t]) Q E s := by
  refine callType_new F.called_enumerate (by decide) (F.typeCall_enumerate_1 _) (F.newCall_enumerate_1 _) (fun obj => F.args_object_init_2 obj _) F.entry_enumerate_new
    (meets_enumerate_newT t items) ⟨ht, ?_⟩
  have hz : (s.heap.push { cls := .type "tuple_iterator", data := .fields #[.ref t, .int 0 0] }).objs.size = s.heap.objs.size + 1 := Heap.size_push ..
  show _ ∧ _
  rw [hz]
  have he : IsEnum ((s.heap.push { cls := .type "tuple_iterator", data := .fields #[.ref t, .int 0 0] }).push
      { cls := .type "enumerate", data := .fields #[.none, .bool false, .ref s.heap.objs.size, rawInt 0, .none, .none] }) (s.heap.objs.size + 1) s.heap.objs.size 0 .none := by
    have := Heap.get?_push_size (s.heap.push { cls := .type "tuple_iterator", data := .fields #[.ref t, .int 0 0] }) (o := { cls := .type "enumerate", data := .fields #[.none, .bool false, .ref s.heap.objs.size, rawInt 0, .none, .none] }) rfl
    rw [hz] at this; exact this
  have hi : s.heap.push { cls := .type "tuple_iterator", data := .fields #[.ref t, .int 0 0] } |>.IsTupleIter s.heap.objs.size t 0 := ⟨_, Heap.get?_push_size _ rfl, rfl, rfl⟩
  refine ⟨⟨_, he, rfl⟩, h _ he (hi.at fun o e => Heap.get?_push_of_some _ e) (by rw [Heap.size_push, hz]) fun b o x => Heap.get?_push_of_some _ (Heap.get?_push_of_some _ x)⟩
theorem pi_enumT {X : Cx} {e : Expr} {ta : TA} {p pos tpos : Pos} {elts : List Expr} {kk : Nat} (hg : Gl X "enumerate") (hm : X.mg "enumerate" = none) (ha : PA X [e] ta) (hs : starEach [e] X.env = [(false, eval e X.env)] := by rfl) :
    PI X (.Tuple elts kk tpos) (.Call (.Name "enumerate" p) [e] [] pos) (iEnumT X.K ta) := by
  refine ⟨fun pins s σ H R I h => ?_⟩
  refine Call_ (ld_blt I hg hm boot_enumerate (PyProof.Rows.callWith_type1 (thn (ha.run pos pins s σ H _ I h) fun us s1 ⟨vs, H1, I1, r1, q1⟩ => ?_) hs rfl))
  obtain ⟨a, xs, ex, hq, q⟩ := q1
  subst ex
  cases r1 with
  | cons r rr =>
    cases rr
    cases r
    obtain ⟨its, rv, p', hz⟩ := I1.tuple hq
    have hlt : a < s1.heap.objs.size := p'.lt
    refine call_enumerate_tuple p' fun h' he hit hsz hk => wpAny_pyIter_enum he ?_
    have I2 : Inv X pins σ H1 { s1 with heap := h' } := I1.kept (t' := s1.toks) hk
    refine ⟨s1.heap.objs.size + 1, [s1.heap.objs.size + 1, s1.heap.objs.size], _, _, H1, rfl, I2, turn_enumT a (s1.heap.objs.size + 1) s1.heap.objs.size (Nat.ne_of_lt hlt), ⟨⟨.none, he⟩, hit, Nat.succ_ne_self _, Nat.ne_of_gt (Nat.lt_succ_of_lt hlt)⟩, fun b hb => ?_, q⟩
    have e' : b = s1.heap.objs.size + 1 ∨ b = s1.heap.objs.size := by simpa using hb
    have hle : s1.heap.objs.size ≤ b := by
      rcases e' with z | z
      · rw [z]; exact Nat.le_add_right _ _
      · rw [z]; exact Nat.le_refl _
    exact I1.fpOk hle (I1.hok.fresh hle)
theorem walk_enumT {K : PySem.W.Frag} {a : Addr} {xs : List V} : Walk (IteT K a) xs.length (fun H => SqT K H a xs) (YPair (fun i => some (.int (i : Nat))) (fun i => xs[i]?)) := by
  refine ⟨fun i _ hi q => ⟨xs, xs[i], q, by simp [hi]⟩, fun _ q => ⟨xs, q, rfl⟩, fun i H v H' _ q y => ?_⟩
  obtain ⟨T, x, h1, h2, h3, h4⟩ := y
  exact ⟨T, .int (i : Nat), x, h1, h2, h3, rfl, h4 xs q⟩
/-! ### sorted(t), t a tuple of ints -/
section
variable {prog : Program} {w : World} {A : Around} {E : Value → Shared → Prop} {s : Shared}
open SrtO in
theorem sorted_ordT {t : Addr} {vs : List Value} {ltv : Value → Value → Bool} {Q : Value → Shared → Prop} (O : SrtO.Swo ltv) (ht : IsTup s.heap t vs.toArray) (hz : vs.length ≤ sizeLine)
    (hS : 2 ≤ vs.length → ∀ (h₁ : Heap) (a : Addr), h₁.get? a = some (seqObj "list" vs.toArray 0) → (∀ b o, s.heap.get? b = some o → b ≠ a ∧ h₁.get? b = some o) → SrtO.SortableO prog w A.in1.in1 { s with heap := h₁ } a vs ltv)
    (h : ∀ (h' : Heap) (out : List Value), SrtO.Srtd ltv out → SrtO.Stb ltv out vs → (∀ b o, s.heap.get? b = some o → h'.get? b = some o) →
      Q (.ref h'.objs.size) { s with heap := sortedHeap (h'.push (seqObj "list" vs.toArray 0)) h'.objs.size vs out.toArray }) :
    wpAny (model prog w) A (call (.builtin "sorted") [.ref t]) Q E s := by
  obtain ⟨o, ho, hc, n, hd⟩ := id ht
  refine Calls.call_function_entry kind_sorted plain_sorted entry_sorted (args_sorted1 _) ?_
  unfold Builtin.«sorted»
  refine wpAny_bind (m := checkCount "sorted" 1 1 _) (wpAny_pure ?_)
  refine wpAny_bind (wpAny_collect_seq (hsz := by rw [List.size_toArray]; exact hz) t (.inr rfl) ho hc hd fun h' hk => ?_)
  refine wpAny_bind (wpAny_newList ?_ hz)
  have hoL : (h'.push (seqObj "list" vs.toArray 0)).get? h'.objs.size = some (seqObj "list" vs.toArray 0) := Heap.get?_push_size _ rfl
  have keep : ∀ b o, s.heap.get? b = some o → b ≠ h'.objs.size ∧ (h'.push (seqObj "list" vs.toArray 0)).get? b = some o := fun b o q =>
    ⟨Nat.ne_of_lt (Heap.lt_size (hk b o q)), Heap.get?_push_of_some _ (hk b o q)⟩
  show wpAny _ _ _ _ _ { s with heap := h'.push (seqObj "list" vs.toArray 0) }
  refine wpAny_bind (wpAny_holding (wpAny_call_entry slot_list_sort ⟨_, hoL, rfl⟩ entry_list_sort (SrtO.list_sort_ord O hoL hz (fun h2 => hS h2 _ _ hoL keep) fun out hs hb => ⟨_, rfl, ?_⟩) (args_list_sort _)))
  exact wpAny_pure ⟨_, rfl, h h' out hs hb hk⟩
end
section
variable {X : Cx}
def rSortedTI (K : PySem.W.Frag) : List V → Hp → VK → Prop := fun vs H Q => ∃ (a : Addr) (ns : List Int), vs = [V.ref a] ∧ SqT K H a (ns.map V.int) ∧
  ∀ (ns' : List Int) (p : Addr), ns'.Perm ns → ns'.Pairwise (· ≤ ·) → H p = none → Q (.ref p) (upd H p (.lst (ns'.map V.int)))
theorem cr_sortedTI : CallR X (.builtin "sorted") (rSortedTI X.K) := by
  intro pins s σ H vs us Q I r h
  obtain ⟨a, ns, rfl, hs, q⟩ := h
  obtain ⟨its, rv, hl, hz⟩ := I.tuple hs
  rw [Vals.ref1 r]
  have hi := rv.ints
  refine sorted_ordT SrtO.swo_int hl (by rw [← rv.length]; exact hz) (fun h2 h₁ a' _ _ => SrtO.ints_sortable hi h2) fun h' out h1 h2 hk => ?_
  obtain ⟨k1, k2, k3⟩ := SrtO.ints_out hi h1 h2
  obtain ⟨ep, he'⟩ := PyProof.Rows.sortedHeap_at (h := h'.push (seqObj "list" its.toArray 0)) (a := h'.objs.size) (vs := its) (out := out.toArray) (Heap.get?_push_size _ rfl)
  have hlen : ((out.map SrtO.iv).map V.int).length ≤ sizeLine := by
    rw [List.length_map, k2.length_eq]
    rw [List.length_map] at hz
    exact hz
  have I1 : Inv X pins σ H { s with heap := h' } := I.kept (t' := s.toks) hk
  refine ⟨.ref _, upd H h'.objs.size (.lst ((out.map SrtO.iv).map V.int)), I1.laid (t' := s.toks) (fun b ob e => ?_) (Nat.le_refl _) ⟨hlen, out, ep, vals_of_ints k1, he'⟩, rfl, q _ _ k2 k3 (I1.hok.fresh (Nat.le_refl _))⟩
  have hb : b < h'.objs.size := Heap.lt_size e
  rw [sortedHeap_old (Nat.ne_of_lt hb) (by rw [Heap.size_push]; exact Nat.lt_succ_of_lt hb)]
  exact Heap.get?_push_of_some _ e
end
/-! ### t * k, any small k from 0 on -/
section
variable {X : Cx}
theorem tuple_mul1 (l : Addr) (items : Array Value) (n : Nat) (dd : Option Addr) (sl : Array (Option Value)) (u : Tok) :
    Meets (Builtin.«tuple.__mul__» ⟨[.ref l, .int 1 u], []⟩) (fun _ R s => s.heap.get? l = some { cls := .type "tuple", dict := dd, data := .seq items n, slots := sl } ∧
      R (.ok (.ret (Value.ref l))) s) :=
  .of_wp fun prog w A R s h => by
    obtain ⟨hp, g, d, tk, os⟩ := s
    obtain ⟨hl, h⟩ := h
    have f1 := AutoSeq1.idx_int
    wp_walk using wpAny_loadPart' hl
    exact ⟨_, rfl, h⟩
theorem tuple_mul0 (l : Addr) (items : Array Value) (n : Nat) (dd : Option Addr) (sl : Array (Option Value)) (u : Tok) (c1 : items.isEmpty = false) :
    Meets (Builtin.«tuple.__mul__» ⟨[.ref l, .int 0 u], []⟩) (fun _ R s => s.heap.get? l = some { cls := .type "tuple", dict := dd, data := .seq items n, slots := sl } ∧
      R (.ok (.ret (Value.ref s.heap.objs.size))) { s with heap := s.heap.push { cls := Value.type "tuple", data := Data.seq #[] } }) :=
  .of_wp fun prog w A R s h => by
    obtain ⟨hp, g, d, tk, os⟩ := s
    obtain ⟨hl, h⟩ := h
    have f1 := AutoSeq1.idx_int
    wp_walk using wpAny_loadPart' hl
    repeat (first
      | (refine wpAny_ite_false (decide_eq_false (by rw [c1]; decide)) ?_; wp_walk using wpAny_loadPart' hl)
      | (refine wpAny_ite_true (decide_eq_true (by rw [c1]; decide)) ?_; wp_walk using wpAny_loadPart' hl))
    exact ⟨_, rfl, h⟩
def rRepA (K : PySem.W.Frag) : R2 := fun x y H Q => ∃ l k xs, x = .ref l ∧ y = .int k ∧ SqT K H l xs ∧ xs ≠ [] ∧ 0 ≤ k ∧ k ≤ 1000 ∧ xs.length ≤ 1000 ∧
  (k = 1 → Q (.ref l) H) ∧ (k ≠ 1 → ∀ p, H p = none → Q (.ref p) (upd H p (.tup (List.replicate k.toNat xs).flatten)))
theorem op_repA : OpR X (binaryOp .Mult) (rRepA X.K) := by
  intro pins s σ H x y v u Q I rx ry h
  obtain ⟨l, k, xs, rfl, rfl, hT, hne, h1, h2, hz, q1, q2⟩ := h
  by_cases hk : 2 ≤ k
  · exact op_repT pins s σ H _ _ v u Q I rx ry ⟨l, k, xs, rfl, rfl, hT, hne, hk, h2, hz, q2 (by omega)⟩
  cases rx
  obtain ⟨t, rfl⟩ := ry
  obtain ⟨its, r, ⟨⟨cls, dd, data, sl⟩, ho, hc, n, hd⟩, hs⟩ := I.tuple hT
  simp only at hc hd
  subst hc hd
  have hle : its.length = xs.length := r.length.symm
  have hn : its ≠ [] := fun e => hne (by
    rw [e] at hle
    exact List.eq_nil_of_length_eq_zero hle.symm)
  have hi : its.toArray.isEmpty = false := by
    cases its with
    | nil => exact absurd rfl hn
    | cons a b => rfl
  rcases (show k = 0 ∨ k = 1 by omega) with rfl | rfl
  · refine wpAny_binaryOp_repeat_ref (T := "tuple") (U := "int") (by decide) ⟨_, ho, rfl⟩ (fun s' => typeIs_int s' 0 t) noFill_tuple_mul F.fills_int_mul F.slot_int_rmul repeat_tuple F.slot_int_index.lookup
      (call_meets F.slot_int_rmul (typeIs_int s 0 t) F.entry_int_rmul (F.args_int_rmul_2 _ _) (int_rmul_tuple 0 t l its.toArray n dd sl)
        ⟨ho, rfl, ⟨_, ho, rfl⟩, call_meets F.slot_tuple_mul ⟨_, ho, rfl⟩ F.entry_tuple_mul (F.args_tuple_mul_2 _ _) (tuple_mul0 l its.toArray n dd sl t hi) ⟨ho, ?_⟩⟩)
    refine ⟨.ref s.heap.objs.size, _, I.laid (t' := s.toks) (o := .tup (List.replicate (0 : Int).toNat xs).flatten) (fun b ob q => Heap.get?_push_of_some _ q) (Nat.le_refl _) ?_, rfl, q2 (by decide) _ (I.hok.fresh (Nat.le_refl _))⟩
    exact ⟨Nat.zero_le _, [], .nil, IsTup.new _ _⟩
  · refine wpAny_binaryOp_repeat_ref (T := "tuple") (U := "int") (by decide) ⟨_, ho, rfl⟩ (fun s' => typeIs_int s' 1 t) noFill_tuple_mul F.fills_int_mul F.slot_int_rmul repeat_tuple F.slot_int_index.lookup
      (call_meets F.slot_int_rmul (typeIs_int s 1 t) F.entry_int_rmul (F.args_int_rmul_2 _ _) (int_rmul_tuple 1 t l its.toArray n dd sl)
        ⟨ho, rfl, ⟨_, ho, rfl⟩, call_meets F.slot_tuple_mul ⟨_, ho, rfl⟩ F.entry_tuple_mul (F.args_tuple_mul_2 _ _) (tuple_mul1 l its.toArray n dd sl t) ⟨ho, ?_⟩⟩)
    exact ⟨.ref l, H, I, rfl, q1 rfl⟩
end
end TT

/-! what stands for data in the heap; short rules -/
namespace TT
open PySem L2
/-! ### what stays: every object but lists -/
def Keep (H H' : Hp) : Prop := ∀ b o, (∀ xs, o ≠ .lst xs) → H b = some o → H' b = some o
theorem Keep.refl (H : Hp) : Keep H H := fun _ _ _ h => h
theorem Keep.trans {H H1 H2 : Hp} (a : Keep H H1) (b : Keep H1 H2) : Keep H H2 := fun c o n h => b c o n (a c o n h)
theorem _root_.L2.Same.keep {H H' : Hp} (s : Same H H') : Keep H H' := fun b o _ h => s b o h
theorem Keep.tup {H H' : Hp} (k : Keep H H') {t : Addr} {xs : List V} (h : H t = some (.tup xs)) : H' t = some (.tup xs) := k t _ (fun _ q => nomatch q) h
theorem Keep.ins {H H' : Hp} (k : Keep H H') {t C dx : Addr} {xs : List (Str × V)} (h : H t = some (.ins C dx xs)) : H' t = some (.ins C dx xs) := k t _ (fun _ q => nomatch q) h
theorem same_new {H : Hp} {p : Addr} {o : HO} (h : H p = none) : Same H (upd H p o) := fun b u e => by rw [upd_ne (ne_of_none e h)]; exact e
theorem same_own {H0 H : Hp} {p : Addr} {o : HO} (s : Same H0 H) (h : H0 p = none) : Same H0 (upd H p o) := fun b u e => by rw [upd_ne (ne_of_none e h)]; exact s b u e
theorem keep_lst {H : Hp} {p : Addr} {xs : List V} {o : HO} (h : H p = some (.lst xs)) : Keep H (upd H p o) := fun b u n e => by
  have : b ≠ p := fun q => by subst q; rw [h] at e; cases e; exact n _ rfl
  rw [upd_ne this]; exact e
/-- all but the list at g -/
def But (g : Addr) (H H' : Hp) : Prop := ∀ b o, b ≠ g → H b = some o → H' b = some o
theorem But.refl (g : Addr) (H : Hp) : But g H H := fun _ _ _ h => h
theorem But.trans {g : Addr} {H H1 H2 : Hp} (a : But g H H1) (b : But g H1 H2) : But g H H2 := fun c o n h => b c o n (a c o n h)
theorem _root_.L2.Same.but {H H' : Hp} (s : Same H H') (g : Addr) : But g H H' := fun b o _ h => s b o h
theorem But.keep {g : Addr} {H H' : Hp} (k : But g H H') {ys : List V} (hg : H g = some (.lst ys)) : Keep H H' := fun b o n h => by
  by_cases e : b = g
  · subst e; rw [hg] at h; cases h; exact absurd rfl (n _)
  · exact k b o e h
theorem But.free {g : Addr} {H H' : Hp} (k : But g H H') {p : Addr} (hp : H' p = none) (h : p ≠ g) : H p = none := by
  cases q : H p with
  | none => rfl
  | some o => rw [k p o h q] at hp; cases hp
theorem but_upd {g : Addr} {H : Hp} {o : HO} : But g H (upd H g o) := fun b u n e => by rw [upd_ne n]; exact e
/-! ### data -/
abbrev Rp (α : Type) := Hp → V → α → Prop
def Mono {α : Type} (R : Rp α) : Prop := ∀ H H' v x, Keep H H' → R H v x → R H' v x
def rInt : Rp Int := fun _ v n => v = .int n
def rRow : Rp (List Int) := fun H v l => ∃ t, v = .ref t ∧ H t = some (.tup (l.map V.int))
def rPI : Rp (Int × Int) := fun H v p => ∃ t, v = .ref t ∧ H t = some (.tup [.int p.1, .int p.2])
def rTup {α : Type} (R : Rp α) : Rp (List α) := fun H v l => ∃ t xs, v = .ref t ∧ H t = some (.tup xs) ∧ Paired (R H) xs l
theorem mono_int : Mono rInt := fun _ _ _ _ _ h => h
theorem mono_row : Mono rRow := fun _ _ _ _ k ⟨t, e, h⟩ => ⟨t, e, k.tup h⟩
theorem mono_pi : Mono rPI := fun _ _ _ _ k ⟨t, e, h⟩ => ⟨t, e, k.tup h⟩
theorem paired_mono {α : Type} {R : Rp α} (m : Mono R) {H H' : Hp} (k : Keep H H') {xs : List V} {l : List α} (p : Paired (R H) xs l) : Paired (R H') xs l := Paired.mapP p fun _ _ h => m _ _ _ _ k h
theorem mono_tup {α : Type} {R : Rp α} (m : Mono R) : Mono (rTup R) := fun _ _ _ _ k ⟨t, xs, e, h, p⟩ => ⟨t, xs, e, k.tup h, paired_mono m k p⟩
theorem paired_len {α β : Type} {F : α → β → Prop} : ∀ {xs : List α} {l : List β}, Paired F xs l → xs.length = l.length := Paired.length
theorem paired_get2 {α β : Type} {F : α → β → Prop} : ∀ {xs : List α} {l : List β} {i : Nat} {y : β}, Paired F xs l → l[i]? = some y → ∃ x, xs[i]? = some x ∧ F x y
  | _, _, _, _, .nil, e => by simp at e
  | _, _, 0, _, .cons r _, e => by simp at e; subst e; exact ⟨_, rfl, r⟩
  | _, _, i + 1, x, .cons _ t, e => by
    obtain ⟨u, h1, h2⟩ := paired_get2 (i := i) (y := x) t (by simpa using e)
    exact ⟨u, by simpa using h1, h2⟩
theorem paired_int : ∀ {xs : List V} {l : List Int} {H : Hp}, Paired (rInt H) xs l → xs = l.map V.int
  | _, _, _, .nil => rfl
  | _, _, _, .cons r t => by cases r; rw [List.map_cons, paired_int t]
theorem paired_ints {H : Hp} : ∀ (l : List Int), Paired (rInt H) (l.map V.int) l
  | [] => .nil
  | _ :: r => .cons rfl (paired_ints r)
theorem paired_app {α β : Type} {F : α → β → Prop} : ∀ {xs : List α} {l : List β} {ys : List α} {m : List β}, Paired F xs l → Paired F ys m → Paired F (xs ++ ys) (l ++ m)
  | _, _, _, _, .nil, q => q
  | _, _, _, _, .cons r t, q => .cons r (paired_app t q)
theorem paired_perm {α β : Type} {F : α → β → Prop} : ∀ {ys xs : List α}, ys.Perm xs → ∀ {l : List β}, Paired F xs l → ∃ m, m.Perm l ∧ Paired F ys m := by
  intro ys xs h
  induction h with
  | nil => intro l p; cases p; exact ⟨[], .refl _, .nil⟩
  | cons x h ih => intro l p; cases p with | cons r t => obtain ⟨m, h1, h2⟩ := ih t; exact ⟨_ :: m, .cons _ h1, .cons r h2⟩
  | swap x y t => intro l p; cases p with | cons r1 p => cases p with | cons r2 p => exact ⟨_ :: _ :: _, .swap _ _ _, .cons r2 (.cons r1 p)⟩
  | trans h1 h2 ih1 ih2 => intro l p; obtain ⟨m, a, b⟩ := ih2 p; obtain ⟨m', c, d⟩ := ih1 b; exact ⟨m', c.trans a, d⟩
theorem seqt_row {K : PySem.W.Frag} {H : Hp} {t : Addr} {xs : List V} (h : H t = some (.tup xs)) : SqT K H t xs := .of h
theorem at_int {l : List Int} {i : Nat} {x : V} (h : (l.map V.int)[i]? = some x) : ∃ n, l[i]? = some n ∧ x = .int n := by
  rw [List.getElem?_map] at h
  cases e : l[i]? with
  | none => rw [e] at h; cases h
  | some n => rw [e] at h; exact ⟨n, rfl, (Option.some.inj h).symm⟩
theorem int_at {l : List Int} {i : Nat} {n : Int} (h : l[i]? = some n) : (l.map V.int)[i]? = some (.int n) := by rw [List.getElem?_map, h]; rfl
/-! ### short rules -/
section
variable {X : Cx}
theorem ty_int {p : Pos} (hm : X.mg "int" = none) (hg : Gl X "int" := by rfl) : PE X (.Name "int" p) (tC (.ty "int")) := pe_bltn hg hm (by decide +kernel) (u := .type "int") rfl
theorem ty_bool {p : Pos} (hm : X.mg "bool" = none) (hg : Gl X "bool" := by rfl) : PE X (.Name "bool" p) (tC (.ty "bool")) := pe_bltn hg hm (by decide +kernel) (u := .type "bool") rfl
theorem ty_tuple {p : Pos} (hm : X.mg "tuple" = none) (hg : Gl X "tuple" := by rfl) : PE X (.Name "tuple" p) (tC (.ty "tuple")) := pe_bltn hg hm (by decide +kernel) (u := .type "tuple") rfl
theorem ty_list {p : Pos} (hm : X.mg "list" = none) (hg : Gl X "list" := by rfl) : PE X (.Name "list" p) (tC (.ty "list")) := pe_bltn hg hm (by decide +kernel) (u := .type "list") rfl
end
section
variable {K : PySem.W.Frag}
theorem kit_ii : PySem.W.kitOne K (.type "int") (.type "int") = some true := kit_ty (by decide +kernel)
theorem kit_ib : PySem.W.kitOne K (.type "int") (.type "bool") = some false := kit_ty (by decide +kernel)
theorem kit_tt : PySem.W.kitOne K (.type "tuple") (.type "tuple") = some true := kit_ty (by decide +kernel)
end
/-! ### rules whose reading speaks of K, for the blocks of comprehensions -/
section
variable {X : Cx} {K : PySem.W.Frag}
theorem ixT (h : X.K = K) : IxR X (rIxT K) := h ▸ ix_tup
theorem ixL (h : X.K = K) : IxR X (rIxL K) := h ▸ ix_list
theorem inS (h : X.K = K) : OpR X (compareOp .In) (rIn K false) := h ▸ op_in_seq
theorem ninS (h : X.K = K) : OpR X (compareOp .NotIn) (rIn K true) := h ▸ op_notIn_seq
theorem lenS (h : X.K = K) : CallR X (.builtin "len") (fun xs H Q => ∃ p ys, xs = [.ref p] ∧ (SqL K H p ys ∨ SqT K H p ys) ∧ Q (.int ys.length) H) := h ▸ call_len_seq
theorem isiS (h : X.K = K) : CallR X (.builtin "isinstance") (rIsi K) := h ▸ call_isi
theorem piT {tg l : Expr} {tl : TE} (hh : X.K = K) (hl : PI X tg l (iTup X.K tl)) : PI X tg l (iTup K tl) := hh ▸ hl
theorem pgT {es : List Expr} {k : Nat} {t : TGs} {n : Nat} {pos : Pos} (hh : X.K = K) (hc : X.calm = true) (h : PGs X es t) (hn : (assignEach es X.env).length = n := by rfl) (hst : (assignEach es X.env).findIdx? (·.1) = none := by rfl) : PG X (.Tuple es k pos) (gTup K n t) := hh ▸ pg_tup hc h hn hst
theorem fldK {o : Expr} {ta : TE} {f : Str} {pos : Pos} (he : PE X o ta) (hh : X.K = K) (hb : attributeBase o f X.env (eval o X.env) = eval o X.env) : PE X (.Attribute o f pos) (tFld K ta f) := hh ▸ pe_fld he hb
theorem tupS (h : X.K = K) : CallR X (.type "tuple") (fun xs H Q => ∃ p ys, xs = [.ref p] ∧ ((SqL K H p ys ∧ ∀ l, H l = none → Q (.ref l) (upd H l (.tup ys))) ∨ (SqT K H p ys ∧ Q (.ref p) H))) := h ▸ call_tuple_of
end
/-! ### comprehensions -/
section
variable {J : It} {n : Nat} {G : Hp → Prop} {Y : Nat → Hp → V → Hp → Prop} {g : TG} {tt : TT} {te : TE} {vs : List Nat} {σ : St} {H1 : Hp} {D : Addr} {Qd : Hp → Prop} {α : Type}
theorem range_fm {f : Nat → Option α} {i : Nat} : (List.range (i + 1)).filterMap f = (List.range i).filterMap f ++ (f i).toList := by
  rw [List.range_succ, List.filterMap_append]
  congr 1
theorem fm_len {f : Nat → Option α} {i : Nat} : ((List.range i).filterMap f).length ≤ i := by
  have := List.length_filterMap_le f (List.range i)
  rw [List.length_range] at this
  exact this
/-- the list at D holds what f tells of the turns so far, all else stays -/
def PvFm (R : Rp α) (f : Nat → Option α) (D : Addr) (H1 : Hp) (i : Nat) (H : Hp) : Prop := Same H1 H ∧ ∃ xs, H D = some (.lst xs) ∧ Paired (R H) xs ((List.range i).filterMap f)
theorem fm_keep {R : Rp α} (m : Mono R) {f : Nat → Option α} {i : Nat} {H H4 : Hp} {y : V} {a : α} (p : PvFm R f D H1 i H) (hD : H1 D = none) (hi : i ≤ 100000) (s4 : Same H H4) (ea : f i = some a) (ra : R H4 y a) :
    ∃ acc, H4 D = some (.lst acc) ∧ acc.length < sizeLine ∧ PvFm R f D H1 (i + 1) (upd H4 D (.lst (acc ++ [y]))) := by
  obtain ⟨s, xs, h1, h2⟩ := p
  have hl : xs.length ≤ i := by rw [paired_len h2]; exact fm_len
  have hD4 : H4 D = some (.lst xs) := s4 _ _ h1
  have k5 : Keep H4 (upd H4 D (.lst (xs ++ [y]))) := keep_lst hD4
  refine ⟨xs, hD4, Nat.lt_of_le_of_lt (Nat.le_trans hl hi) (by decide), same_own (s.trans s4) hD, xs ++ [y], upd_same, ?_⟩
  rw [range_fm, ea]
  exact paired_app (paired_mono m k5 (paired_mono m s4.keep h2)) (.cons (m _ _ _ _ k5 ra) .nil)
theorem fm_skip {R : Rp α} (m : Mono R) {f : Nat → Option α} {i : Nat} {H H3 : Hp} (p : PvFm R f D H1 i H) (s3 : Same H H3) (e : f i = none) : PvFm R f D H1 (i + 1) H3 := by
  obtain ⟨s, xs, h1, h2⟩ := p
  refine ⟨s.trans s3, xs, s3 _ _ h1, ?_⟩
  rw [range_fm, e]
  simpa using paired_mono m s3.keep h2
/-- a comprehension that makes a list of what f tells, all else staying -/
theorem lc_fm (w : Walk J n G Y) (R : Rp α) (f : Nat → Option α) (hD : H1 D = none) (hG : ∀ H, Same H1 H → G H)
    (hs : ∀ i x H H', i < n → PvFm R f D H1 i H → Y i H x H' → g x (wipe σ vs) H' fun σ2 H2 => wipe σ2 vs = wipe σ vs ∧ tt σ2 H2 fun b H3 =>
      if b = true then te σ2 H3 fun y H4 => ∃ acc, H4 D = some (.lst acc) ∧ acc.length < sizeLine ∧ PvFm R f D H1 (i + 1) (upd H4 D (.lst (acc ++ [y]))) else PvFm R f D H1 (i + 1) H3)
    (hd : ∀ H xs, Same H1 H → H D = some (.lst xs) → Paired (R H) xs ((List.range n).filterMap f) → Qd H) :
    ∃ W : Nat → Nat → Hp → Prop, (∃ m, W 0 m (upd H1 D (.lst []))) ∧ ∀ i m H, W i m H →
      (J.stop i H ∧ Qd H) ∨ (J.go i H ∧ ∃ Nx : Hp → Prop, (∀ H', Nx H' → ∃ m', m' < m ∧ W (i + 1) m' H') ∧ ∀ x H', J.yld i H x H' → g x (wipe σ vs) H' fun σ2 H2 => wipe σ2 vs = wipe σ vs ∧ tt σ2 H2 fun b H3 =>
        if b = true then te σ2 H3 fun y H4 => ∃ acc, H4 D = some (.lst acc) ∧ acc.length < sizeLine ∧ Nx (upd H4 D (.lst (acc ++ [y]))) else Nx H3) :=
  lc_it w (PvFm R f D H1) ⟨same_new hD, [], upd_same, .nil⟩ (fun i H _ h => hG H h.1) hs (fun H ⟨s, xs, h1, h2⟩ => hd H xs s h1 h2)
theorem fm_all {β : Type} (h : Nat → β) : ∀ n : Nat, (List.range n).filterMap (fun i => some (h i)) = (List.range n).map h := fun n => by rw [List.filterMap_eq_map']
theorem fm_list {β : Type} (l : List α) (h : α → Option β) : (List.range l.length).filterMap (fun i => l[i]?.bind h) = l.filterMap h := by
  have e : ∀ (m : Nat), m ≤ l.length → (List.range m).filterMap (fun i => l[i]?.bind h) = (l.take m).filterMap h := by
    intro m
    induction m with
    | zero => intro _; rfl
    | succ m ih =>
      intro hm
      rw [range_fm, ih (by omega), List.take_succ, List.filterMap_append]
      congr 1
      have hl : l[m]? = some l[m] := List.getElem?_eq_getElem (by omega)
      rw [hl]
      show (h l[m]).toList = List.filterMap h [l[m]]
      rw [List.filterMap_cons]
      cases h l[m] <;> rfl
  have := e l.length (Nat.le_refl _)
  rwa [List.take_length] at this
end
/-! ### sorted(a list of pairs of ints), by what the pairs are -/
def lxLt (a b : Int × Int) : Prop := a.1 < b.1 ∨ (a.1 = b.1 ∧ a.2 < b.2)
instance (a b : Int × Int) : Decidable (lxLt a b) := by unfold lxLt; infer_instance
def lxLe (a b : Int × Int) : Prop := ¬ lxLt b a
noncomputable def kOf (H : Hp) (v : V) : Int × Int := open Classical in if h : ∃ z, rPI H v z then h.choose else (0, 0)
theorem kOf_eq {H : Hp} {v : V} {z : Int × Int} (h : rPI H v z) : kOf H v = z := by
  have hx : ∃ z, rPI H v z := ⟨z, h⟩
  have e : kOf H v = hx.choose := by unfold kOf; rw [dif_pos hx]
  rw [e]
  obtain ⟨t, e1, h1⟩ := hx.choose_spec
  obtain ⟨t', e2, h2⟩ := h
  rw [e1] at e2
  cases e2
  rw [h1] at h2
  have h3 := Option.some.inj h2
  injection h3 with h3
  injection h3 with a b
  injection b with b _
  exact Prod.ext (V.int.inj a) (V.int.inj b)
theorem kOf_map {H : Hp} : ∀ {xs : List V} {l : List (Int × Int)}, Paired (rPI H) xs l → xs.map (kOf H) = l
  | _, _, .nil => rfl
  | _, _, .cons r t => by rw [List.map_cons, kOf_eq r, kOf_map t]
theorem paired_kOf {H : Hp} : ∀ {ys : List V}, (∀ y ∈ ys, rPI H y (kOf H y)) → Paired (rPI H) ys (ys.map (kOf H))
  | [], _ => .nil
  | y :: ys, h => .cons (h y (by simp)) (paired_kOf fun z hz => h z (by simp [hz]))
theorem paired_mem {α β : Type} {F : α → β → Prop} : ∀ {xs : List α} {l : List β} {x : α}, Paired F xs l → x ∈ xs → ∃ y ∈ l, F x y
  | _, _, _, .nil, h => by simp at h
  | _, _, _, .cons r t, h => by
    rcases List.mem_cons.mp h with rfl | h
    · exact ⟨_, by simp, r⟩
    · obtain ⟨y, hy, f⟩ := paired_mem t h
      exact ⟨y, by simp [hy], f⟩
def rSortedPD (K : PySem.W.Frag) : List V → Hp → VK → Prop := fun vs H Q => ∃ (a : Addr) (xs : List V) (l : List (Int × Int)), vs = [V.ref a] ∧ SqL K H a xs ∧ Paired (rPI H) xs l ∧
  ∀ ys m p, Paired (rPI H) ys m → m.Perm l → m.Pairwise lxLe → H p = none → Q (.ref p) (upd H p (.lst ys))
theorem cr_sortedPD {X : Cx} : CallR X (.builtin "sorted") (rSortedPD X.K) := by
  intro pins s σ H vs us Q I r h
  obtain ⟨a, xs, l, rfl, hs, hp, q⟩ := h
  refine cr_sortedPO pins s σ H _ us Q I r ⟨a, xs, kOf H, rfl, hs, fun x hx => ?_, fun ys p h1 h2 np => ?_⟩
  · obtain ⟨z, _, hz⟩ := paired_mem hp hx
    rw [kOf_eq hz]
    exact hz
  · refine q ys (ys.map (kOf H)) p (paired_kOf fun y hy => ?_) ?_ ?_ np
    · obtain ⟨z, _, hz⟩ := paired_mem hp (h2.perm.mem_iff.mp hy)
      rw [kOf_eq hz]
      exact hz
    · rw [← kOf_map hp]
      exact h2.perm.map _
    · rw [List.pairwise_map]
      exact h1.imp fun {a b} h q => by
        have := SrtO.lexB_iff.mpr q
        rw [show ltP (kOf H) b a = true from this] at h
        cases h
theorem lxLt_tri (a b : Int × Int) : lxLt a b ∨ a = b ∨ lxLt b a := by
  unfold lxLt
  by_cases h1 : a.1 = b.1
  · by_cases h2 : a.2 = b.2
    · exact .inr (.inl (Prod.ext h1 h2))
    · omega
  · omega
theorem lxLe_antisymm {a b : Int × Int} (h1 : lxLe a b) (h2 : lxLe b a) : a = b := by
  rcases lxLt_tri a b with h | h | h
  · exact absurd h h2
  · exact h
  · exact absurd h h1
theorem lxLe_trans {a b c : Int × Int} (h1 : lxLe a b) (h2 : lxLe b c) : lxLe a c := by
  unfold lxLe lxLt at *
  omega
/-- two ascending lists of the same pairs are one -/
theorem lex_same : ∀ {l m : List (Int × Int)}, l.Perm m → l.Pairwise lxLe → m.Pairwise lxLe → l = m := fun {l m} h h1 h2 =>
  h.eq_of_pairwise (fun a b _ _ p q => lxLe_antisymm p q) h1 h2
theorem up_same : ∀ {l m : List Int}, l.Perm m → l.Pairwise (· ≤ ·) → m.Pairwise (· ≤ ·) → l = m := fun {l m} h h1 h2 =>
  h.eq_of_pairwise (fun a b _ _ p q => Int.le_antisymm p q) h1 h2
/-- ascending, none twice -/
theorem lex_strict {l : List (Int × Int)} (h1 : l.Pairwise lxLe) (h2 : l.Nodup) : l.Pairwise lxLt := by
  have := List.pairwise_and_iff.mpr ⟨h1, h2⟩
  exact this.imp fun {a b} ⟨p, q⟩ => by
    rcases lxLt_tri a b with h | h | h
    · exact h
    · exact absurd h q
    · exact absurd h p
/-! ### a walk, whatever its turn asks; comprehensions with two loops -/
section
variable {J : It} {n : Nat} {G : Hp → Prop} {Y : Nat → Hp → V → Hp → Prop} {H0 H1 : Hp} {D : Addr} {Qd : Hp → Prop} {α : Type}
theorem walk_W (w : Walk J n G Y) (B : (Hp → Prop) → V → Hp → Prop) (Pv : Nat → Hp → Prop) (h0 : Pv 0 H0) (hG : ∀ i H, i ≤ n → Pv i H → G H)
    (hs : ∀ i x H H', i < n → Pv i H → Y i H x H' → B (Pv (i + 1)) x H') (hd : ∀ H, Pv n H → Qd H) :
    ∃ W : Nat → Nat → Hp → Prop, (∃ m, W 0 m H0) ∧ ∀ i m H, W i m H →
      (J.stop i H ∧ Qd H) ∨ (J.go i H ∧ ∃ Nx : Hp → Prop, (∀ H', Nx H' → ∃ m', m' < m ∧ W (i + 1) m' H') ∧ ∀ x H', J.yld i H x H' → B Nx x H') := by
  refine ⟨fun i m H => m = n - i ∧ i ≤ n ∧ Pv i H, ⟨n, by simp, Nat.zero_le _, h0⟩, ?_⟩
  rintro i m H ⟨rfl, hi, p⟩
  have q := hG i H hi p
  by_cases hlt : i < n
  · exact .inr ⟨w.goes i H hlt q, Pv (i + 1), fun H' p' => ⟨n - (i + 1), by omega, rfl, hlt, p'⟩, fun x H' y => hs i x H H' hlt p (w.yields i H x H' hlt q y)⟩
  · have e : i = n := by omega
    subst e
    exact .inl ⟨w.stops H q, hd H p⟩
/-- the list at D holds what the turns of the outer loop have told -/
def PvFl (R : Rp α) (F : Nat → List α) (D : Addr) (H1 : Hp) (i : Nat) (H : Hp) : Prop := Same H1 H ∧ ∃ xs, H D = some (.lst xs) ∧ Paired (R H) xs ((List.range i).flatMap F)
/-- within a turn: the first j of l have come -/
def PvIn (R : Rp α) (pre l : List α) (D : Addr) (H1 Hb : Hp) (j : Nat) (H : Hp) : Prop := Same H1 H ∧ Keep Hb H ∧ ∃ xs, H D = some (.lst xs) ∧ Paired (R H) xs (pre ++ l.take j)
theorem fl_start {R : Rp α} {F : Nat → List α} (hD : H1 D = none) : PvFl R F D H1 0 (upd H1 D (.lst [])) := ⟨same_new hD, [], upd_same, .nil⟩
theorem fl_in {R : Rp α} (m : Mono R) {F : Nat → List α} {i : Nat} {H H4 : Hp} (p : PvFl R F D H1 i H) (s : Same H H4) : PvIn R ((List.range i).flatMap F) (F i) D H1 H4 0 H4 := by
  obtain ⟨s1, xs, h1, h2⟩ := p
  refine ⟨s1.trans s, .refl _, xs, s _ _ h1, ?_⟩
  rw [List.take_zero, List.append_nil]
  exact paired_mono m s.keep h2
theorem in_keep {R : Rp α} (m : Mono R) {pre l : List α} {j : Nat} {H H4 Hb : Hp} {y : V} {a : α} (p : PvIn R pre l D H1 Hb j H) (hD : H1 D = none) (hz : pre.length + j ≤ 100000) (s4 : Same H H4) (ea : l[j]? = some a) (ra : R H4 y a) :
    ∃ acc, H4 D = some (.lst acc) ∧ acc.length < sizeLine ∧ PvIn R pre l D H1 Hb (j + 1) (upd H4 D (.lst (acc ++ [y]))) := by
  obtain ⟨s, kb, xs, h1, h2⟩ := p
  have hl : xs.length ≤ pre.length + j := by rw [paired_len h2, List.length_append, List.length_take]; omega
  have hD4 : H4 D = some (.lst xs) := s4 _ _ h1
  have k5 : Keep H4 (upd H4 D (.lst (xs ++ [y]))) := keep_lst hD4
  refine ⟨xs, hD4, Nat.lt_of_le_of_lt (Nat.le_trans hl hz) (by decide), same_own (s.trans s4) hD, (kb.trans s4.keep).trans k5, xs ++ [y], upd_same, ?_⟩
  rw [List.take_succ, ea, ← List.append_assoc]
  exact paired_app (paired_mono m k5 (paired_mono m s4.keep h2)) (.cons (m _ _ _ _ k5 ra) .nil)
theorem in_fl {R : Rp α} {F : Nat → List α} {i n : Nat} {H Hb : Hp} (hn : n = (F i).length) (p : PvIn R ((List.range i).flatMap F) (F i) D H1 Hb n H) : PvFl R F D H1 (i + 1) H := by
  obtain ⟨s, _, xs, h1, h2⟩ := p
  refine ⟨s, xs, h1, ?_⟩
  rw [hn, List.take_length] at h2
  rw [List.range_succ, List.flatMap_append, List.flatMap_singleton]
  exact h2
theorem fl_list {β : Type} (l : List β) (h : β → List α) : (List.range l.length).flatMap (fun i => (l[i]?.map h).getD []) = l.flatMap h := by
  have e : ∀ (m : Nat), m ≤ l.length → (List.range m).flatMap (fun i => (l[i]?.map h).getD []) = (l.take m).flatMap h := by
    intro m
    induction m with
    | zero => intro _; rfl
    | succ m ih =>
      intro hm
      have hl : l[m]? = some l[m] := List.getElem?_eq_getElem (by omega)
      rw [List.range_succ, List.flatMap_append, ih (by omega), List.take_succ, List.flatMap_append, hl, List.flatMap_singleton, hl]
      simp
  have := e l.length (Nat.le_refl _)
  rwa [List.take_length] at this
end
theorem rgV_int (a b : Int) : rgV a b = ((List.range (b - a).toNat).map fun (i : Nat) => a + (i : Int)).map V.int := by
  unfold rgV
  rw [List.map_map]
  rfl
theorem cutV_upto (xs : List V) (k : Nat) : cutV xs none (some (k : Int)) = xs.take k := by
  unfold cutV
  rw [HT.sIx_none, HT.sIx_nat, List.drop_zero, Nat.sub_zero]
  by_cases h : k ≤ xs.length
  · rw [Nat.min_eq_left h]
  · rw [Nat.min_eq_right (by omega), List.take_of_length_le (Nat.le_refl _), List.take_of_length_le (by omega)]
/-- t[:k] -/
theorem slice_upto {K : PySem.W.Frag} {H : Hp} {a : Addr} {xs : List V} {k : Nat} {Q : VK} (h : H a = some (.tup xs)) (q : ∀ H' p, Same H H' → H' p = some (.tup (xs.take k)) → Q (.ref p) H') : rSlA K (.ref a) none (some (k : Int)) H Q := by
  refine ⟨a, xs, rfl, .of h, fun e => q H a (.refl _) ?_, fun _ p np => ?_⟩
  · rw [HT.sIx_nat] at e
    rw [List.take_of_length_le (by omega)]
    exact h
  · rw [cutV_upto]
    exact q _ p (same_new np) upd_same
end TT

namespace S4
open PySem L2 TT
/-! ### the text by places -/
def top (i : Nat) : Stmt := PySem.Challenge.pw_sametolls_k17_whole_small_sheets_counted.main.body.getD i (.Pass ⟨0, 0, 0, 0⟩)
abbrev s_is_integer : Stmt := top 7
abbrev s_is_below : Stmt := top 8
abbrev s_is_pair : Stmt := top 9
abbrev s_is_clock : Stmt := top 12
abbrev s_check_clock : Stmt := top 13
abbrev s_power : Stmt := top 14
abbrev s_check_ties : Stmt := top 18
abbrev s_is_tie : Stmt := top 19
abbrev s_neighbours : Stmt := top 20
abbrev s_reached : Stmt := top 21
abbrev s_are_counts : Stmt := top 25
abbrev s_check_counts : Stmt := top 26
abbrev s_tolls_in_all : Stmt := top 30
abbrev s_blocks_in_all : Stmt := top 31
abbrev s_sheets_in_all : Stmt := top 32
abbrev s_law_bag : Stmt := top 34
abbrev s_law_pick : Stmt := top 35
abbrev s_law_some : Stmt := top 36
abbrev s_law_is : Stmt := top 37
abbrev s_law_turned : Stmt := top 38
abbrev s_law_without : Stmt := top 39
abbrev s_law_ladder : Stmt := top 40
abbrev s_law_tied : Stmt := top 41
abbrev s_law_side : Stmt := top 42
abbrev s_law_ways : Stmt := top 43
abbrev s_law_numbers_of : Stmt := top 44
abbrev s_law_block : Stmt := top 45
abbrev s_law_tolls : Stmt := top 46
abbrev s_law_parted : Stmt := top 47
abbrev s_law_ties : Stmt := top 48
abbrev s_law_clock : Stmt := top 49
abbrev s_law_dealt : Stmt := top 50
abbrev s_law_power : Stmt := top 51
abbrev s_law_of_rank : Stmt := top 52
abbrev s_law_in_all : Stmt := top 53
abbrev s_law_all_right : Stmt := top 54
abbrev s_law_great_right : Stmt := top 55
abbrev s_law : Stmt := top 56
abbrev s_BadTree : Stmt := inClass (top 5) 0
abbrev s_Tree : Stmt := inClass (top 17) 0
abbrev s_Tree_eq : Stmt := inClass (top 17) 1
abbrev N_is_integer : List Str := ["thing"]
theorem sc_is_integer : FnScope N_is_integer ["thing"] (defScope s_is_integer) := ⟨rfl, rfl, rfl, by decide +kernel, rfl, by decide +kernel, by decide +kernel⟩
abbrev N_is_below : List Str := ["thing", "end"]
theorem sc_is_below : FnScope N_is_below ["thing", "end"] (defScope s_is_below) := ⟨rfl, rfl, rfl, by decide +kernel, rfl, by decide +kernel, by decide +kernel⟩
abbrev N_is_pair : List Str := ["thing"]
theorem sc_is_pair : FnScope N_is_pair ["thing"] (defScope s_is_pair) := ⟨rfl, rfl, rfl, by decide +kernel, rfl, by decide +kernel, by decide +kernel⟩
abbrev N_is_clock : List Str := ["thing", "factor"]
theorem sc_is_clock : FnScope N_is_clock ["thing"] (defScope s_is_clock) := ⟨rfl, rfl, rfl, by decide +kernel, rfl, by decide +kernel, by decide +kernel⟩
abbrev N_check_clock : List Str := ["p"]
theorem sc_check_clock : FnScope N_check_clock ["p"] (defScope s_check_clock) := ⟨rfl, rfl, rfl, by decide +kernel, rfl, by decide +kernel, by decide +kernel⟩
abbrev N_power : List Str := ["p", "times", "total", "_"]
theorem sc_power : FnScope N_power ["p", "times"] (defScope s_power) := ⟨rfl, rfl, rfl, by decide +kernel, rfl, by decide +kernel, by decide +kernel⟩
abbrev N_check_ties : List Str := ["ties", "posts", "number", "tie"]
theorem sc_check_ties : FnScope N_check_ties ["ties"] (defScope s_check_ties) := ⟨rfl, rfl, rfl, by decide +kernel, rfl, by decide +kernel, by decide +kernel⟩
abbrev N_is_tie : List Str := ["thing", "posts", "post"]
theorem sc_is_tie : FnScope N_is_tie ["thing", "posts"] (defScope s_is_tie) := ⟨rfl, rfl, rfl, by decide +kernel, rfl, by decide +kernel, by decide +kernel⟩
abbrev N_neighbours : List Str := ["ties", "post", "tie"]
theorem sc_neighbours : FnScope N_neighbours ["ties", "post"] (defScope s_neighbours) := ⟨rfl, rfl, rfl, by decide +kernel, rfl, by decide +kernel, by decide +kernel⟩
abbrev N_reached : List Str := ["ties", "start", "barred", "found", "waiting", "here", "post"]
theorem sc_reached : FnScope N_reached ["ties", "start", "barred"] (defScope s_reached) := ⟨rfl, rfl, rfl, by decide +kernel, rfl, by decide +kernel, by decide +kernel⟩
abbrev N_are_counts : List Str := ["tree", "thing", "count"]
theorem sc_are_counts : FnScope N_are_counts ["tree", "thing"] (defScope s_are_counts) := ⟨rfl, rfl, rfl, by decide +kernel, rfl, by decide +kernel, by decide +kernel⟩
abbrev N_check_counts : List Str := ["tree", "thing"]
theorem sc_check_counts : FnScope N_check_counts ["tree", "thing"] (defScope s_check_counts) := ⟨rfl, rfl, rfl, by decide +kernel, rfl, by decide +kernel, by decide +kernel⟩
abbrev N_tolls_in_all : List Str := ["p", "holds", "wants", "there", "back", "tree", "toll", "own"]
theorem sc_tolls_in_all : FnScope N_tolls_in_all ["p", "holds", "wants", "there", "back"] (defScope s_tolls_in_all) := ⟨rfl, rfl, rfl, by decide +kernel, rfl, by decide +kernel, by decide +kernel⟩
abbrev N_blocks_in_all : List Str := ["p", "tall", "wide", "rank", "above", "below", "ahead", "mixtures"]
theorem sc_blocks_in_all : FnScope N_blocks_in_all ["p", "tall", "wide", "rank"] (defScope s_blocks_in_all) := ⟨rfl, rfl, rfl, by decide +kernel, rfl, by decide +kernel, by decide +kernel⟩
abbrev N_sheets_in_all : List Str := ["p", "tree", "holds", "wants"]
theorem sc_sheets_in_all : FnScope N_sheets_in_all ["p", "tree", "holds", "wants"] (defScope s_sheets_in_all) := ⟨rfl, rfl, rfl, by decide +kernel, rfl, by decide +kernel, by decide +kernel⟩
abbrev N_law_bag : List Str := ["script", "seed", "cell", "great", "always"]
theorem sc_law_bag : FnScope N_law_bag ["script"] (defScope s_law_bag) := ⟨rfl, rfl, rfl, by decide +kernel, rfl, by decide +kernel, by decide +kernel⟩
abbrev N_law_pick : List Str := ["bag", "many", "great", "digit", "number"]
theorem sc_law_pick : FnScope N_law_pick ["bag", "many"] (defScope s_law_pick) := ⟨rfl, rfl, rfl, by decide +kernel, rfl, by decide +kernel, by decide +kernel⟩
abbrev N_law_some : List Str := ["bag", "things"]
theorem sc_law_some : FnScope N_law_some ["bag", "things"] (defScope s_law_some) := ⟨rfl, rfl, rfl, by decide +kernel, rfl, by decide +kernel, by decide +kernel⟩
abbrev N_law_is : List Str := ["thing", "due", "one", "other"]
theorem sc_law_is : FnScope N_law_is ["thing", "due"] (defScope s_law_is) := ⟨rfl, rfl, rfl, by decide +kernel, rfl, by decide +kernel, by decide +kernel⟩
abbrev N_law_turned : List Str := ["p", "value", "one", "other", "first", "second", "many"]
theorem sc_law_turned : FnScope N_law_turned ["p", "value"] (defScope s_law_turned) := ⟨rfl, rfl, rfl, by decide +kernel, rfl, by decide +kernel, by decide +kernel⟩
abbrev N_law_without : List Str := ["p", "row", "head", "place", "one", "two"]
theorem sc_law_without : FnScope N_law_without ["p", "row", "head", "place"] (defScope s_law_without) := ⟨rfl, rfl, rfl, by decide +kernel, rfl, by decide +kernel, by decide +kernel⟩
abbrev N_law_ladder : List Str := ["p", "rows", "left", "made", "wide", "place", "some", "back", "head", "row", "value"]
theorem sc_law_ladder : FnScope N_law_ladder ["p", "rows"] (defScope s_law_ladder) := ⟨rfl, rfl, rfl, by decide +kernel, rfl, by decide +kernel, by decide +kernel⟩
abbrev N_law_tied : List Str := ["ties", "post", "one", "other"]
theorem sc_law_tied : FnScope N_law_tied ["ties", "post"] (defScope s_law_tied) := ⟨rfl, rfl, rfl, by decide +kernel, rfl, by decide +kernel, by decide +kernel⟩
abbrev N_law_side : List Str := ["ties", "post", "barred", "made", "here", "waiting", "other"]
theorem sc_law_side : FnScope N_law_side ["ties", "post", "barred"] (defScope s_law_side) := ⟨rfl, rfl, rfl, by decide +kernel, rfl, by decide +kernel, by decide +kernel⟩
abbrev N_law_ways : List Str := ["ties", "one", "other"]
theorem sc_law_ways : FnScope N_law_ways ["ties"] (defScope s_law_ways) := ⟨rfl, rfl, rfl, by decide +kernel, rfl, by decide +kernel, by decide +kernel⟩
abbrev N_law_numbers_of : List Str := ["holds", "posts", "made", "post"]
theorem sc_law_numbers_of : FnScope N_law_numbers_of ["holds", "posts"] (defScope s_law_numbers_of) := ⟨rfl, rfl, rfl, by decide +kernel, rfl, by decide +kernel, by decide +kernel⟩
abbrev N_law_block : List Str := ["spec", "way", "numbers", "made", "post", "number", "row"]
theorem sc_law_block : FnScope N_law_block ["spec", "way"] (defScope s_law_block) := ⟨rfl, rfl, rfl, by decide +kernel, rfl, by decide +kernel, by decide +kernel⟩
abbrev N_law_tolls : List Str := ["spec", "way"]
theorem sc_law_tolls : FnScope N_law_tolls ["spec"] (defScope s_law_tolls) := ⟨rfl, rfl, rfl, by decide +kernel, rfl, by decide +kernel, by decide +kernel⟩
abbrev N_law_parted : List Str := ["things", "counts", "made", "post"]
theorem sc_law_parted : FnScope N_law_parted ["things", "counts"] (defScope s_law_parted) := ⟨rfl, rfl, rfl, by decide +kernel, rfl, by decide +kernel, by decide +kernel⟩
abbrev N_law_ties : List Str := ["bag", "most", "many", "post"]
theorem sc_law_ties : FnScope N_law_ties ["bag", "most"] (defScope s_law_ties) := ⟨rfl, rfl, rfl, by decide +kernel, rfl, by decide +kernel, by decide +kernel⟩
abbrev N_law_clock : List Str := ["bag"]
theorem sc_law_clock : FnScope N_law_clock ["bag"] (defScope s_law_clock) := ⟨rfl, rfl, rfl, by decide +kernel, rfl, by decide +kernel, by decide +kernel⟩
abbrev N_law_dealt : List Str := ["bag", "posts", "many", "made", "turn", "at"]
theorem sc_law_dealt : FnScope N_law_dealt ["bag", "posts", "many"] (defScope s_law_dealt) := ⟨rfl, rfl, rfl, by decide +kernel, rfl, by decide +kernel, by decide +kernel⟩
abbrev N_law_power : List Str := ["p", "many", "made", "turn"]
theorem sc_law_power : FnScope N_law_power ["p", "many"] (defScope s_law_power) := ⟨rfl, rfl, rfl, by decide +kernel, rfl, by decide +kernel, by decide +kernel⟩
abbrev N_law_of_rank : List Str := ["p", "rows", "wide", "rank", "counts", "turn", "later", "at", "inside", "every"]
theorem sc_law_of_rank : FnScope N_law_of_rank ["p", "rows", "wide", "rank"] (defScope s_law_of_rank) := ⟨rfl, rfl, rfl, by decide +kernel, rfl, by decide +kernel, by decide +kernel⟩
abbrev N_law_in_all : List Str := ["p", "holds", "wants", "there", "back", "own"]
theorem sc_law_in_all : FnScope N_law_in_all ["p", "holds", "wants", "there", "back"] (defScope s_law_in_all) := ⟨rfl, rfl, rfl, by decide +kernel, rfl, by decide +kernel, by decide +kernel⟩
abbrev N_law_all_right : List Str := ["bag", "p", "holds", "wants", "many", "counts", "number", "values", "left", "place", "rows", "tolls", "pair", "there", "back", "due", "at"]
theorem sc_law_all_right : FnScope N_law_all_right ["bag"] (defScope s_law_all_right) := ⟨rfl, rfl, rfl, by decide +kernel, rfl, by decide +kernel, by decide +kernel⟩
abbrev N_law_great_right : List Str := ["bag", "p", "holds", "wants", "there", "back", "every", "total", "one", "other"]
theorem sc_law_great_right : FnScope N_law_great_right ["bag"] (defScope s_law_great_right) := ⟨rfl, rfl, rfl, by decide +kernel, rfl, by decide +kernel, by decide +kernel⟩
abbrev N_law : List Str := ["script", "bag", "ties", "many", "holds", "wants", "p"]
theorem sc_law : FnScope N_law ["script"] (defScope s_law) := ⟨rfl, rfl, rfl, by decide +kernel, rfl, by decide +kernel, by decide +kernel⟩
abbrev N_BadTree : List Str := ["self", "part"]
theorem sc_BadTree : FnScope N_BadTree ["self", "part"] (defScope s_BadTree) := ⟨rfl, rfl, rfl, by decide +kernel, rfl, by decide +kernel, by decide +kernel⟩
abbrev N_Tree : List Str := ["self", "ties"]
theorem sc_Tree : FnScope N_Tree ["self", "ties"] (defScope s_Tree) := ⟨rfl, rfl, rfl, by decide +kernel, rfl, by decide +kernel, by decide +kernel⟩
abbrev N_Tree_eq : List Str := ["self", "other"]
theorem sc_Tree_eq : FnScope N_Tree_eq ["self", "other"] (defScope s_Tree_eq) := ⟨rfl, rfl, rfl, by decide +kernel, rfl, by decide +kernel, by decide +kernel⟩
/-! ### the facts of the top -/
structure D (K : PySem.W.Frag) (mg : Str → Option Value) (x : Str) (st : Stmt) (ps : List Str) (f : Addr) (fd : FuncData) : Prop where
  F : Fun K x x st f fd
  b : Binds K fd ps []
  m : mg x = some (.ref f)
abbrev DE (K : PySem.W.Frag) (mg : Str → Option Value) (x : Str) (st : Stmt) (ps : List Str) : Prop := ∃ f fd, D K mg x st ps f fd
theorem DE.mk {K : PySem.W.Frag} {h : Heap} {mg : Str → Option Value} {x : Str} {st : Stmt} {ps : List Str} {f : Addr} {oc : Value} {od an : Option Addr} {osl : Array (Option Value)} {kV doc pm cdv ct : Value} (X : K.In h) (G : h.Ns mainGlobals mg)
    (hb : ∀ (kV doc pm : Value) (an : Option Addr) (cdv ct : Value) (us : List Value), us.length = ps.length → bindArgs (PySem.W.fnOf x x (defArgs st) (defBody st) (defScope st) .none kV doc pm an cdv ct) ⟨us, []⟩ = pure (ps.zip us))
    (a : PySem.W.nsIn K mainGlobals x = some (some (.ref f)))
    (l : K.lookup f = some ⟨oc, od, .func (PySem.W.fnOf x x (defArgs st) (defBody st) (defScope st) .none kV doc pm an cdv ct), osl⟩) (c : PySem.W.codeIn K cdv x = true) (k : PySem.W.keepIn K (.ref f) = true) : DE K mg x st ps :=
  ⟨f, _, fun_mk l c k, (fun_mk l c k).binds hb, PySem.W.mg_of X G a⟩
/-- a class with its __init__ -/
structure DC (K : PySem.W.Frag) (mg : Str → Option Value) (x : Str) (q : Str) (st : Stmt) (ps : List Str) (fl : List Str) (C f : Addr) (fd : FuncData) : Prop where
  F : Fun K "__init__" q st f fd
  b : Binds K fd ps []
  m : mg x = some (.ref C)
  mkf : Mk K C f
  cl : Cls K C
  na : ∀ y ∈ fl, NoAttr K C y
/-- the address of a class by its name -/
def adr (mg : Str → Option Value) (x : Str) : Addr := match mg x with
  | some (.ref a) => a
  | _ => 0
theorem adr_of {mg : Str → Option Value} {x : Str} {a : Addr} (h : mg x = some (.ref a)) : adr mg x = a := by unfold adr; rw [h]
/-- a method m of the class at C -/
structure DM (K : PySem.W.Frag) (m : Str) (q : Str) (st : Stmt) (ps : List Str) (C f : Addr) (fd : FuncData) : Prop where
  F : Fun K m q st f fd
  b : Binds K fd ps []
  fi : PySem.W.findIn K (.ref C) m = some (some (.ref f))
  fn : PySem.W.isFn K (.ref f) = true
/-- an exception class -/
structure EX (K : PySem.W.Frag) (mg : Str → Option Value) (x : Str) (C : Addr) : Prop where
  m : mg x = some (.ref C)
  kp : PySem.W.keepIn K (.ref C) = true
  ty : PySem.W.typeIn K (.ref C) = some (.type "type")
  ec : ExcC K C
  ve : PySem.W.kitOne K (.ref C) (.type "ValueError") = some true
/-- .. without an own __init__ -/
def EPl (K : PySem.W.Frag) (C : Addr) : Prop := PySem.W.excIn K C [.type "ValueError", .type "Exception", .type "BaseException", .type "object"] "ValueError.__new__" = true
/-- .. with one -/
structure EI (K : PySem.W.Frag) (q : Str) (st : Stmt) (ps : List Str) (fl : List Str) (C f : Addr) (fd : FuncData) : Prop where
  F : Fun K "__init__" q st f fd
  b : Binds K fd ps []
  oc : OexC K C
  iC : PySem.W.findIn K (.ref C) "__init__" = some (some (.ref f))
  tI : PySem.W.typeIn K (.ref f) = some (.type "function")
  no : ∀ y ∈ fl, PySem.W.findIn K (.ref C) y = some none
/-- a tuple of the written part -/
def KTp (K : PySem.W.Frag) (a : Addr) (xs : List V) : Prop := ∃ (o : Obj) (its : Array Value) (n : Nat), K.lookup a = some o ∧ o.cls = .type "tuple" ∧ o.data = .seq its n ∧ its.size ≤ sizeLine ∧ Vals xs its.toList
structure Tx (K : PySem.W.Frag) (mg : Str → Option Value) (cT cS : Addr) : Prop where
  b_abs : mg "abs" = none
  b_all : mg "all" = none
  b_bool : mg "bool" = none
  b_dict : mg "dict" = none
  b_enumerate : mg "enumerate" = none
  b_int : mg "int" = none
  b_isinstance : mg "isinstance" = none
  b_len : mg "len" = none
  b_list : mg "list" = none
  b_max : mg "max" = none
  b_range : mg "range" = none
  b_sorted : mg "sorted" = none
  b_sum : mg "sum" = none
  b_tuple : mg "tuple" = none
  b_zip : mg "zip" = none
  c_MOST_HOURS : ∃ t, mg "MOST_HOURS" = some (.int 1000000 t)
  c_MOST_TIES : ∃ t, mg "MOST_TIES" = some (.int 23 t)
  c_MOST_AT_POST : ∃ t, mg "MOST_AT_POST" = some (.int 8 t)
  c_MOST_IN_ALL : ∃ t, mg "MOST_IN_ALL" = some (.int 60 t)
  c_MOST_TOLL : ∃ t, mg "MOST_TOLL" = some (.int 60 t)
  q_TWO_POSTS : ∃ a b, mg "TWO_POSTS" = some (.ref a) ∧ KTp K a [.ref b] ∧ KTp K b [.int 0, .int 1]
  d_is_integer : DE K mg "is_integer" s_is_integer ["thing"]
  d_is_below : DE K mg "is_below" s_is_below ["thing", "end"]
  d_is_pair : DE K mg "is_pair" s_is_pair ["thing"]
  d_is_clock : DE K mg "is_clock" s_is_clock ["thing"]
  d_check_clock : DE K mg "check_clock" s_check_clock ["p"]
  d_power : DE K mg "power" s_power ["p", "times"]
  d_check_ties : DE K mg "check_ties" s_check_ties ["ties"]
  d_is_tie : DE K mg "is_tie" s_is_tie ["thing", "posts"]
  d_neighbours : DE K mg "neighbours" s_neighbours ["ties", "post"]
  d_reached : DE K mg "reached" s_reached ["ties", "start", "barred"]
  d_are_counts : DE K mg "are_counts" s_are_counts ["tree", "thing"]
  d_check_counts : DE K mg "check_counts" s_check_counts ["tree", "thing"]
  d_tolls_in_all : DE K mg "tolls_in_all" s_tolls_in_all ["p", "holds", "wants", "there", "back"]
  d_blocks_in_all : DE K mg "blocks_in_all" s_blocks_in_all ["p", "tall", "wide", "rank"]
  d_sheets_in_all : DE K mg "sheets_in_all" s_sheets_in_all ["p", "tree", "holds", "wants"]
  d_law_bag : DE K mg "_law_bag" s_law_bag ["script"]
  d_law_pick : DE K mg "_law_pick" s_law_pick ["bag", "many"]
  d_law_some : DE K mg "_law_some" s_law_some ["bag", "things"]
  d_law_is : DE K mg "_law_is" s_law_is ["thing", "due"]
  d_law_turned : DE K mg "_law_turned" s_law_turned ["p", "value"]
  d_law_without : DE K mg "_law_without" s_law_without ["p", "row", "head", "place"]
  d_law_ladder : DE K mg "_law_ladder" s_law_ladder ["p", "rows"]
  d_law_tied : DE K mg "_law_tied" s_law_tied ["ties", "post"]
  d_law_side : DE K mg "_law_side" s_law_side ["ties", "post", "barred"]
  d_law_ways : DE K mg "_law_ways" s_law_ways ["ties"]
  d_law_numbers_of : DE K mg "_law_numbers_of" s_law_numbers_of ["holds", "posts"]
  d_law_block : DE K mg "_law_block" s_law_block ["spec", "way"]
  d_law_tolls : DE K mg "_law_tolls" s_law_tolls ["spec"]
  d_law_parted : DE K mg "_law_parted" s_law_parted ["things", "counts"]
  d_law_ties : DE K mg "_law_ties" s_law_ties ["bag", "most"]
  d_law_clock : DE K mg "_law_clock" s_law_clock ["bag"]
  d_law_dealt : DE K mg "_law_dealt" s_law_dealt ["bag", "posts", "many"]
  d_law_power : DE K mg "_law_power" s_law_power ["p", "many"]
  d_law_of_rank : DE K mg "_law_of_rank" s_law_of_rank ["p", "rows", "wide", "rank"]
  d_law_in_all : DE K mg "_law_in_all" s_law_in_all ["p", "holds", "wants", "there", "back"]
  d_law_all_right : DE K mg "_law_all_right" s_law_all_right ["bag"]
  d_law_great_right : DE K mg "_law_great_right" s_law_great_right ["bag"]
  d_law : DE K mg "law" s_law ["script"]
  k_Tree : ∃ f fd, DC K mg "Tree" "Tree.__init__" s_Tree ["self", "ties"] ["ties", "posts"] cT f fd
  i_Tree : C8.InsC K cT
  t_Tree : PySem.W.typeIn K (.ref cT) = some (.type "type")
  m_Tree_eq : ∃ f fd, DM K "__eq__" "Tree.__eq__" s_Tree_eq ["self", "other"] cT f fd
  u_ne_Tree : PySem.W.findIn K (.ref cT) "__ne__" = some (some (.builtin "object.__ne__"))
  e_TollError : EX K mg "TollError" (adr mg "TollError")
  p_TollError : EPl K (adr mg "TollError")
  e_NoClock : EX K mg "NoClock" (adr mg "NoClock")
  p_NoClock : EPl K (adr mg "NoClock")
  e_NoNumber : EX K mg "NoNumber" (adr mg "NoNumber")
  p_NoNumber : EPl K (adr mg "NoNumber")
  e_NoCounts : EX K mg "NoCounts" (adr mg "NoCounts")
  p_NoCounts : EPl K (adr mg "NoCounts")
  e_BadTree : EX K mg "BadTree" (adr mg "BadTree")
  n_BadTree : ∃ f fd, EI K "BadTree.__init__" s_BadTree ["self", "part"] ["part"] (adr mg "BadTree") f fd
  u_TollError_TollError : PySem.W.subIn K (.ref (adr mg "TollError")) (.ref (adr mg "TollError")) = some true
  u_TollError_NoClock : PySem.W.subIn K (.ref (adr mg "TollError")) (.ref (adr mg "NoClock")) = some false
  u_TollError_NoNumber : PySem.W.subIn K (.ref (adr mg "TollError")) (.ref (adr mg "NoNumber")) = some false
  u_TollError_NoCounts : PySem.W.subIn K (.ref (adr mg "TollError")) (.ref (adr mg "NoCounts")) = some false
  u_TollError_BadTree : PySem.W.subIn K (.ref (adr mg "TollError")) (.ref (adr mg "BadTree")) = some false
  u_NoClock_TollError : PySem.W.subIn K (.ref (adr mg "NoClock")) (.ref (adr mg "TollError")) = some true
  u_NoClock_NoClock : PySem.W.subIn K (.ref (adr mg "NoClock")) (.ref (adr mg "NoClock")) = some true
  u_NoClock_NoNumber : PySem.W.subIn K (.ref (adr mg "NoClock")) (.ref (adr mg "NoNumber")) = some false
  u_NoClock_NoCounts : PySem.W.subIn K (.ref (adr mg "NoClock")) (.ref (adr mg "NoCounts")) = some false
  u_NoClock_BadTree : PySem.W.subIn K (.ref (adr mg "NoClock")) (.ref (adr mg "BadTree")) = some false
  u_NoNumber_TollError : PySem.W.subIn K (.ref (adr mg "NoNumber")) (.ref (adr mg "TollError")) = some true
  u_NoNumber_NoClock : PySem.W.subIn K (.ref (adr mg "NoNumber")) (.ref (adr mg "NoClock")) = some false
  u_NoNumber_NoNumber : PySem.W.subIn K (.ref (adr mg "NoNumber")) (.ref (adr mg "NoNumber")) = some true
  u_NoNumber_NoCounts : PySem.W.subIn K (.ref (adr mg "NoNumber")) (.ref (adr mg "NoCounts")) = some false
  u_NoNumber_BadTree : PySem.W.subIn K (.ref (adr mg "NoNumber")) (.ref (adr mg "BadTree")) = some false
  u_NoCounts_TollError : PySem.W.subIn K (.ref (adr mg "NoCounts")) (.ref (adr mg "TollError")) = some true
  u_NoCounts_NoClock : PySem.W.subIn K (.ref (adr mg "NoCounts")) (.ref (adr mg "NoClock")) = some false
  u_NoCounts_NoNumber : PySem.W.subIn K (.ref (adr mg "NoCounts")) (.ref (adr mg "NoNumber")) = some false
  u_NoCounts_NoCounts : PySem.W.subIn K (.ref (adr mg "NoCounts")) (.ref (adr mg "NoCounts")) = some true
  u_NoCounts_BadTree : PySem.W.subIn K (.ref (adr mg "NoCounts")) (.ref (adr mg "BadTree")) = some false
  u_BadTree_TollError : PySem.W.subIn K (.ref (adr mg "BadTree")) (.ref (adr mg "TollError")) = some true
  u_BadTree_NoClock : PySem.W.subIn K (.ref (adr mg "BadTree")) (.ref (adr mg "NoClock")) = some false
  u_BadTree_NoNumber : PySem.W.subIn K (.ref (adr mg "BadTree")) (.ref (adr mg "NoNumber")) = some false
  u_BadTree_NoCounts : PySem.W.subIn K (.ref (adr mg "BadTree")) (.ref (adr mg "NoCounts")) = some false
  u_BadTree_BadTree : PySem.W.subIn K (.ref (adr mg "BadTree")) (.ref (adr mg "BadTree")) = some true
  b_ValueError : mg "ValueError" = none
end S4

namespace S4
open PySem L2 TT
section
variable {P : Program} {w : World} {K : PySem.W.Frag} {mg : Str → Option Value} {base : Heap} {cT cS : Addr}
/-! ### kinds -/
def spIsInteger : Sp := fun vs H Q _ => ∃ (n : Int), vs = [.int n] ∧ Q (.bl true) H
theorem ok_is_integer (T : Tx K mg cT cS) {f : Addr} {fd : FuncData} (d : D K mg "is_integer" s_is_integer ["thing"] f fd) : FnOk P w K mg base CX0 1 f fd ["thing"] spIsInteger := by
  refine d.F.ok sc_is_integer (fun vs H Q E h => ?_) (fun cdv A outer s H vs Q E hr h => ?_)
  · obtain ⟨n, rfl, _⟩ := h
    rfl
  · obtain ⟨n, rfl, q⟩ := h
    refine ⟨_, pss_one (ps_ret (pe_and (pe_callB call_isi (by rfl) T.b_isinstance (by decide +kernel) (pa_cons (pv 0) (pa_cons (ty_int T.b_int) pa_nil)))
      (pe_one (pe_not (pe_callB call_isi (by rfl) T.b_isinstance (by decide +kernel) (pa_cons (pv 0) (pa_cons (ty_bool T.b_bool) pa_nil))))))), ?_⟩
    exact ⟨_, rfl, _, _, _, _, _, rfl, .ty _, .base (.int _), kit_ii, _, rfl, iteT ⟨_, rfl, _, _, _, _, _, rfl, .ty _, .base (.int _), kit_ib, _, rfl, q⟩⟩
def spIsBelow : Sp := fun vs H Q _ => ∃ (n e : Int), vs = [.int n, .int e] ∧ Q (.bl (decide (0 ≤ n ∧ n < e))) H
theorem ok_is_below (T : Tx K mg cT cS) {f : Addr} {fd : FuncData} (d : D K mg "is_below" s_is_below ["thing", "end"] f fd) : FnOk P w K mg base CX0 2 f fd ["thing", "end"] spIsBelow := by
  obtain ⟨f1, fd1, d1⟩ := T.d_is_integer
  have G1 : FnOk P w K mg base CX0 1 f1 fd1 ["thing"] spIsInteger := ok_is_integer T d1
  refine d.F.ok sc_is_below (fun vs H Q E h => ?_) (fun cdv A outer s H vs Q E hr h => ?_)
  · obtain ⟨n, e, rfl, _⟩ := h
    rfl
  · obtain ⟨n, e, rfl, q⟩ := h
    refine ⟨_, pss_one (ps_ret (pe_and (pe_call G1 hr rfl d1.m d1.F.kp d1.b .nil pass0 (pa_cons (pv 0) pa_nil)) (pe_one (pe_chain op_le op_lt pe_int (pv 0) (pv 1))))), ?_⟩
    refine ⟨_, rfl, n, rfl, _, rfl, iteT ⟨_, rfl, _, _, rfl, rfl, _, rfl, ?_⟩⟩
    by_cases h0 : 0 ≤ n
    · rw [decide_eq_true h0]
      refine iteT ⟨_, rfl, _, _, rfl, rfl, ?_⟩
      simpa [h0] using q
    · rw [decide_eq_false h0]
      refine iteF ?_
      simpa [h0] using q
def spIsPair : Sp := fun vs H Q _ => ∃ t x y, vs = [.ref t] ∧ H t = some (.tup [x, y]) ∧ Q (.bl true) H
theorem ok_is_pair (T : Tx K mg cT cS) {f : Addr} {fd : FuncData} (d : D K mg "is_pair" s_is_pair ["thing"] f fd) : FnOk P w K mg base CX0 1 f fd ["thing"] spIsPair := by
  refine d.F.ok sc_is_pair (fun vs H Q E h => ?_) (fun cdv A outer s H vs Q E hr h => ?_)
  · obtain ⟨t, x, y, rfl, _⟩ := h
    rfl
  · obtain ⟨t, x, y, rfl, ht, q⟩ := h
    refine ⟨_, pss_one (ps_ret (pe_and (pe_callB call_isi (by rfl) T.b_isinstance (by decide +kernel) (pa_cons (pv 0) (pa_cons (ty_tuple T.b_tuple) pa_nil)))
      (pe_one (pe_cmpR op_eq (pe_callB call_len_seq (by rfl) T.b_len PySem.boot_len (pa_cons (pv 0) pa_nil)) pe_int (nomark _))))), ?_⟩
    exact ⟨_, rfl, _, _, _, _, _, rfl, .ty _, .base (.tup ht), kit_tt, _, rfl, iteT ⟨_, rfl, _, _, rfl, .inr (.of ht), rfl, q⟩⟩
end
end S4

namespace S4
open PySem L2 TT
section
variable {P : Program} {w : World} {K : PySem.W.Frag} {mg : Str → Option Value} {base : Heap} {cT cS : Addr}
def isRow (l : List Int) (p : Int) (wd : Int) : Prop := (l.length : Int) = wd ∧ ∀ v ∈ l, 0 ≤ v ∧ v < p
/-- a row that is right -/
def spIsRow : Sp := fun vs H Q _ => ∃ (v : V) (l : List Int) (p wd : Int), vs = [v, .int p, .int wd] ∧ rRow H v l ∧ l.length ≤ 100000 ∧ isRow l p wd ∧ ∀ H', Same H H' → Q (.bl true) H'
theorem all_true : ∀ {bs : List Bool}, (∀ b ∈ bs, b = true) → bs.all id = true := fun {bs} h => by
  rw [List.all_eq_true]
  exact fun x hx => h x hx
def rBl : Rp Bool := fun _ v b => v = .bl b
theorem mono_bl : Mono rBl := fun _ _ _ _ _ h => h
theorem paired_bl {H : Hp} : ∀ {xs : List V} {l : List Bool}, Paired (rBl H) xs l → xs = l.map V.bl
  | _, _, .nil => rfl
  | _, _, .cons r t => by cases r; rw [List.map_cons, paired_bl t]
end
end S4

namespace S4
open PySem L2 TT
section
variable {P : Program} {w : World} {K : PySem.W.Frag} {mg : Str → Option Value} {base : Heap} {cT cS : Addr}
def NoDiv (n : Int) : Prop := 2 ≤ n ∧ n ≤ 1000000 ∧ ∀ k : Int, 2 ≤ k → k * k ≤ n → n % k ≠ 0
def spIsClock : Sp := fun vs H Q _ => ∃ (n : Int), vs = [.int n] ∧ NoDiv n ∧ Q (.bl true) H
theorem sq_small {f : Int} (h : 2 ≤ f) (h2 : f * f ≤ 1000000) : f ≤ 1000 := by
  by_cases q : f ≤ 1000
  · exact q
  · have a : 1001 * 1001 ≤ f * f := Int.mul_le_mul (by omega) (by omega) (by decide) (by omega)
    omega
theorem ok_is_clock (T : Tx K mg cT cS) {f : Addr} {fd : FuncData} (d : D K mg "is_clock" s_is_clock ["thing"] f fd) : FnOk P w K mg base CX0 2 f fd ["thing"] spIsClock := by
  obtain ⟨f1, fd1, d1⟩ := T.d_is_integer
  have G1 : FnOk P w K mg base CX0 1 f1 fd1 ["thing"] spIsInteger := ok_is_integer T d1
  obtain ⟨tk, hM⟩ := T.c_MOST_HOURS
  refine d.F.ok sc_is_clock (fun vs H Q E h => ?_) (fun cdv A outer s H vs Q E hr h => ?_)
  · obtain ⟨n, rfl, _⟩ := h
    rfl
  · obtain ⟨n, rfl, ⟨n2, n6, nd⟩, q⟩ := h
    refine ⟨_, pss_cons (ps_if (PW.pt (pw_or (pt_not (pt_val (pe_call G1 hr rfl d1.m d1.F.kp d1.b .nil pass0 (pa_cons (pv 0) pa_nil))))
        (pw_or1 (pt_not (pt_chain op_le op_le pe_int (pv 0) (pe_glob (v := .int 1000000) rfl hM ⟨_, rfl⟩)))))) (pss_one (ps_ret pe_bl)) pss_nil)
      (pss_cons (ps_set (i := 1) sc_is_clock.nd rfl (.inl rfl) pe_int)
      (pss_cons (ps_while PassesOwn.never (pt_cmpR op_le (pe_op op_mul (pv 1) (pv 1)) (pv 0) (nomark _))
        (pss_cons (ps_if (pt_cmpR op_eq (pe_op op_mod (pv 0) (pv 1)) pe_int (nomark _)) (pss_one (ps_ret pe_bl)) pss_nil)
          (pss_one (ps_aug (i := 1) sc_is_clock.nd rfl (.inl rfl) pe_int ip_add))))
      (pss_one (ps_ret pe_bl)))), ?_⟩
    refine ⟨_, rfl, n, rfl, _, rfl, iteF ?_⟩
    refine ⟨_, rfl, _, _, rfl, rfl, _, rfl, ?_⟩
    rw [decide_eq_true n2]
    refine iteT ⟨_, _, rfl, rfl, _, rfl, ?_⟩
    rw [decide_eq_true n6]
    refine iteF ?_
    refine while_by (fun σ H' => H' = H ∧ ∃ k : Int, σ = [some (.int n), some (.int k)] ∧ 2 ≤ k ∧ k ≤ 1001) (fun σ _ => match σ with | [_, some (.int k)] => (2000 - k).toNat | _ => 0) ⟨rfl, 2, rfl, by decide, by decide⟩ ?_ ?_
    · rintro σ H' ⟨rfl, k, rfl, k2, k3⟩
      refine ⟨_, rfl, _, rfl, _, _, rfl, rfl, .inl ⟨by omega, by omega⟩, _, rfl, _, _, rfl, rfl, _, rfl, ?_⟩
      by_cases hk : k * k ≤ n
      · rw [decide_eq_true hk]
        refine iteT ?_
        refine ⟨_, rfl, _, rfl, _, _, rfl, rfl, by omega, rfl, _, rfl, ?_⟩
        have hne : ¬ V.int (n % k) = V.int 0 := fun e => nd k k2 hk (V.int.inj e)
        rw [decide_eq_false hne]
        refine iteF ⟨_, rfl, _, _, rfl, rfl, ⟨rfl, k + 1, rfl, by omega, ?_⟩, ?_⟩
        · have := sq_small k2 (Int.le_trans hk n6)
          omega
        · show (2000 - (k + 1)).toNat < (2000 - k).toNat
          omega
      · rw [decide_eq_false hk]
        exact iteF q
    · rintro σ H' Q1 Q2 i ⟨v, e1, v2, e2, a, b, e3, e4, c, v3, e5, a1, b1, e6, e7, k, e8, h⟩
      exact ⟨v, e1, v2, e2, a, b, e3, e4, c, v3, e5, a1, b1, e6, e7, k, e8, i _ _ h⟩
end
end S4

/-! posts, ties, what is reached: plain mathematics -/
namespace MM
def nbOf (post : Int) (t : Int × Int) : Option Int := if t.1 = post ∨ t.2 = post then some (if t.1 = post then t.2 else t.1) else none
def nb (ties : List (Int × Int)) (post : Int) : List Int := ties.filterMap (nbOf post)
def Up (ns : List Int) : Prop := ns.Pairwise (· ≤ ·)
/-- reached from s without the barred one -/
inductive Rch (ties : List (Int × Int)) (bar : Option Int) (s : Int) : Int → Prop
  | refl : Rch ties bar s s
  | step {u v : Int} : Rch ties bar s u → v ∈ nb ties u → bar ≠ some v → Rch ties bar s v
/-- the walk's word: found and waiting, ex the one whose neighbours are being looked at -/
structure RI (ties : List (Int × Int)) (bar : Option Int) (s : Int) (ex : Option Int) (fnd wt : List Int) : Prop where
  nd : fnd.Nodup
  st : s ∈ fnd
  ok : ∀ v ∈ fnd, Rch ties bar s v
  sub : ∀ v ∈ wt, v ∈ fnd
  cl : ∀ u ∈ fnd, u ∉ wt → ex ≠ some u → ∀ v ∈ nb ties u, bar ≠ some v → v ∈ fnd
  exf : ∀ h, ex = some h → h ∈ fnd
  wl : wt.length ≤ fnd.length
variable {ties : List (Int × Int)} {bar : Option Int} {s : Int}
theorem RI.start : RI ties bar s none [s] [s] :=
  ⟨by simp, by simp, fun v h => by rw [List.mem_singleton.mp h]; exact .refl, fun v h => h, fun u h h' => absurd h h', fun _ h => (nomatch h), Nat.le_refl _⟩
theorem RI.pop {fnd wt : List Int} {h : Int} (r : RI ties bar s none fnd wt) (hl : wt[wt.length - 1]? = some h) : RI ties bar s (some h) fnd wt.dropLast := by
  have hm : wt = wt.dropLast ++ [h] := by
    have hne : wt ≠ [] := by intro e; subst e; simp at hl
    have e1 := List.dropLast_concat_getLast hne
    have e2 : wt.getLast hne = h := by
      have := List.getLast?_eq_getElem? (l := wt)
      rw [hl, List.getLast?_eq_some_getLast hne] at this
      exact Option.some.inj this
    rw [e2] at e1
    exact e1.symm
  refine ⟨r.nd, r.st, r.ok, fun v hv => r.sub v ?_, fun u hu hn he v hv hb => r.cl u hu ?_ (fun q => nomatch q) v hv hb, fun q e => ?_, by rw [List.length_dropLast]; have := r.wl; omega⟩
  · rw [hm]; exact List.mem_append_left _ hv
  · intro hw
    rw [hm] at hw
    rcases List.mem_append.mp hw with hw | hw
    · exact hn hw
    · rw [List.mem_singleton.mp hw] at he
      exact he rfl
  · cases e
    exact r.sub h (by rw [hm]; simp)
theorem RI.add {fnd wt : List Int} {h v : Int} (r : RI ties bar s (some h) fnd wt) (hv : v ∈ nb ties h) (hb : bar ≠ some v) (hn : v ∉ fnd) : RI ties bar s (some h) (fnd ++ [v]) (wt ++ [v]) := by
  refine ⟨?_, List.mem_append_left _ r.st, fun u hu => ?_, fun u hu => ?_, fun u hu hw he x hx hbx => ?_, fun q e => List.mem_append_left _ (r.exf q e), by rw [List.length_append, List.length_append]; have := r.wl; omega⟩
  · rw [List.nodup_append]
    exact ⟨r.nd, by simp, fun a ha b hb => by rw [List.mem_singleton.mp hb]; intro e; subst e; exact hn ha⟩
  · rcases List.mem_append.mp hu with hu | hu
    · exact r.ok u hu
    · rw [List.mem_singleton.mp hu]
      exact .step (r.ok h (r.exf h rfl)) hv hb
  · rcases List.mem_append.mp hu with hu | hu
    · exact List.mem_append_left _ (r.sub u hu)
    · exact List.mem_append_right _ hu
  · rcases List.mem_append.mp hu with hu | hu
    · exact List.mem_append_left _ (r.cl u hu (fun q => hw (List.mem_append_left _ q)) he x hx hbx)
    · exact absurd (List.mem_append_right _ hu) hw
theorem RI.close {fnd wt : List Int} {h : Int} (r : RI ties bar s (some h) fnd wt) (hc : ∀ v ∈ nb ties h, bar ≠ some v → v ∈ fnd) : RI ties bar s none fnd wt :=
  ⟨r.nd, r.st, r.ok, r.sub, fun u hu hw _ v hv hb => by
    by_cases e : u = h
    · subst e; exact hc v hv hb
    · exact r.cl u hu hw (fun q => e (Option.some.inj q).symm) v hv hb, fun _ h => (nomatch h), r.wl⟩
theorem RI.done {fnd : List Int} (r : RI ties bar s none fnd []) : ∀ v, v ∈ fnd ↔ Rch ties bar s v := fun v => by
  refine ⟨r.ok v, fun h => ?_⟩
  induction h with
  | refl => exact r.st
  | step _ hv hb ih => exact r.cl _ ih (by simp) (fun q => nomatch q) _ hv hb
/-- bounded by a list that the neighbours stay in -/
theorem nodup_len : ∀ {l V : List Int}, l.Nodup → (∀ v ∈ l, v ∈ V) → l.length ≤ V.length
  | [], _, _, _ => Nat.zero_le _
  | a :: l, V, h, hs => by
    have ha : a ∈ V := hs a (by simp)
    obtain ⟨h1, h2⟩ := List.nodup_cons.mp h
    have : l.length ≤ (V.erase a).length := nodup_len h2 fun v hv => by
      have : v ≠ a := fun e => h1 (e ▸ hv)
      exact (List.mem_erase_of_ne this).mpr (hs v (by simp [hv]))
    rw [List.length_erase_of_mem ha] at this
    have := List.length_pos_of_mem ha
    rw [List.length_cons]
    omega
structure Shut (ties : List (Int × Int)) (V : List Int) : Prop where
  cl : ∀ u ∈ V, ∀ v ∈ nb ties u, v ∈ V
theorem Rch.inV {V : List Int} (hs : Shut ties V) (h0 : s ∈ V) {v : Int} (h : Rch ties bar s v) : v ∈ V := by
  induction h with
  | refl => exact h0
  | step _ hv _ ih => exact hs.cl _ ih _ hv
theorem RI.len {fnd wt : List Int} {ex : Option Int} {V : List Int} (r : RI ties bar s ex fnd wt) (hs : Shut ties V) (h0 : s ∈ V) : fnd.length ≤ V.length := nodup_len r.nd fun v hv => (r.ok v hv).inV hs h0
end MM

namespace S4
open PySem L2 TT MM
/-! ### ties as data -/
theorem hu65 {k : Nat} {A : Around} (r : Room k A) : A.units + 65 < cLine := by have := r.un; omega
def pd (z : Int × Int) : PyData := .tuple [.int z.1, .int z.2]
theorem pd_lay (z : Int × Int) : (pd z).canLay0 = true := by simp [pd, PyData.canLay0, PyData.canLayAll0]
theorem pd_depth (z : Int × Int) : (pd z).depth = 1 := by simp [pd, PyData.depth, PyData.depthAll]
theorem pds_lay : ∀ zs : List (Int × Int), PyData.canLayAll0 (zs.map pd) = true
  | [] => by simp [PyData.canLayAll0]
  | z :: zs => by simp [PyData.canLayAll0, pd_lay z, pds_lay zs]
theorem pds_depth : ∀ zs : List (Int × Int), PyData.depthAll (zs.map pd) ≤ 1
  | [] => by simp [PyData.depthAll]
  | z :: zs => by
    have h1 := pds_depth zs
    have h2 := pd_depth z
    simp only [List.map_cons, PyData.depthAll]
    omega
theorem pd_shaped (z : Int × Int) : SeqAt.shaped (pd z) = true := by
  have h := pd_depth z
  show ((pd z).canLay0 && decide ((pd z).depth ≤ 64)) = true
  rw [Bool.and_eq_true]
  exact ⟨pd_lay z, decide_eq_true (by omega)⟩
theorem pdt_shaped (zs : List (Int × Int)) : SeqAt.shaped (.tuple (zs.map pd)) = true := by
  have h1 := pds_depth zs
  have h2 : PyData.depth (.tuple (zs.map pd)) ≤ 64 := by
    simp only [PyData.depth]
    omega
  show (PyData.canLay0 (.tuple (zs.map pd)) && decide (PyData.depth (.tuple (zs.map pd)) ≤ 64)) = true
  rw [Bool.and_eq_true]
  exact ⟨by simp only [PyData.canLay0]; exact pds_lay zs, decide_eq_true h2⟩
theorem pdl_shaped (zs : List (Int × Int)) : SeqAt.shaped (.list (zs.map pd)) = true := by
  have h1 := pds_depth zs
  have h2 : PyData.depth (.list (zs.map pd)) ≤ 64 := by
    simp only [PyData.depth]
    omega
  show (PyData.canLay0 (.list (zs.map pd)) && decide (PyData.depth (.list (zs.map pd)) ≤ 64)) = true
  rw [Bool.and_eq_true]
  exact ⟨by simp only [PyData.canLay0]; exact pds_lay zs, decide_eq_true h2⟩
theorem pd_eqv (z w : Int × Int) : PyData.eqv (pd z) (pd w) = decide (z = w) := by
  obtain ⟨a, b⟩ := z
  obtain ⟨c, e⟩ := w
  have q : PyData.eqv (pd (a, b)) (pd (c, e)) = ((a == c) && ((b == e) && true)) := by simp only [pd, PyData.eqv, PyData.eqvAll]
  rw [q]
  by_cases h1 : a = c
  · by_cases h2 : b = e
    · subst h1 h2; simp
    · rw [decide_eq_false (fun x => h2 (Prod.mk.inj x).2), beq_eq_false_iff_ne.mpr h2, Bool.false_and, Bool.and_false]
  · rw [decide_eq_false (fun x => h1 (Prod.mk.inj x).1), beq_eq_false_iff_ne.mpr h1, Bool.false_and]
theorem any_pd (zs : List (Int × Int)) (w : Int × Int) : ((zs.map pd).any fun z => PyData.eqv z (pd w)) = decide (w ∈ zs) := by
  induction zs with
  | nil => simp
  | cons z zs ih =>
    rw [List.map_cons, List.any_cons, ih, pd_eqv]
    by_cases h : z = w
    · subst h; simp
    · have h' : ¬ w = z := fun e => h e.symm
      simp [h, h']
section
variable {K : PySem.W.Frag} {H : Hp}
theorem dp_pi {v : V} {z : Int × Int} (h : rPI H v z) : Dp K H v (pd z) := by
  obtain ⟨t, rfl, ht⟩ := h
  exact .tup (.of ht) (.cons (.int _) (.cons (.int _) .nil))
theorem dp_all : ∀ {xs : List V} {zs : List (Int × Int)}, Paired (rPI H) xs zs → DpAll K H xs (zs.map pd)
  | _, _, .nil => .nil
  | _, _, .cons r t => .cons (dp_pi r) (dp_all t)
theorem dp_ties {v : V} {zs : List (Int × Int)} (h : rTup rPI H v zs) : Dp K H v (.tuple (zs.map pd)) := by
  obtain ⟨t, xs, rfl, ht, p⟩ := h
  exact .tup (.of ht) (dp_all p)
end
/-! ### posts tied -/
theorem inV2 (a b post : Int) : inV (.int post) [.int a, .int b] = decide (a = post ∨ b = post) := by
  show ((a == post) || ((b == post) || false)) = _
  by_cases h1 : a = post
  · subst h1; simp
  · by_cases h2 : b = post
    · subst h2; simp
    · simp [h1, h2]
section
variable {P : Program} {w : World} {K : PySem.W.Frag} {mg : Str → Option Value} {base : Heap} {cT cS : Addr}
def spNbr : Sp := fun vs H Q _ => ∃ (v : V) (ties : List (Int × Int)) (post : Int), vs = [v, .int post] ∧ rTup rPI H v ties ∧ ties.length ≤ 1000 ∧
  ∀ H' v' ns, Same H H' → rRow H' v' ns → ns.Perm (nb ties post) → Up ns → Q v' H'
theorem ok_neighbours (T : Tx K mg cT cS) {f : Addr} {fd : FuncData} (d : D K mg "neighbours" s_neighbours ["ties", "post"] f fd) : FnOk P w K mg base CX0 1 f fd ["ties", "post"] spNbr := by
  refine d.F.ok sc_neighbours (fun vs H Q E h => ?_) (fun cdv A outer s H vs Q E hr h => ?_)
  · obtain ⟨v, ties, post, rfl, _⟩ := h
    rfl
  · obtain ⟨v, ties, post, rfl, ⟨t, xs, rfl, ht, hp⟩, hl, q⟩ := h
    refine ⟨_, pss_one (ps_ret (pe_callTy call_tuple_of (by rfl) T.b_tuple (by decide +kernel) (pa_cons (pe_callB cr_sortedI (by rfl) T.b_sorted (by decide +kernel) (pa_cons
        (pe_lc (own := [("tie", 2)]) (g := gName 2) rfl sc_neighbours.nd (pi_tup (pv 0)) (blkOk_by (N := N_neighbours) (sc := defScope s_neighbours) (by decide +kernel)) (fun _ _ _ _ _ => pg_name (i := 2) sc_neighbours.nd rfl (Or.inl rfl))
          (fun _ _ _ _ _ => pts_one (pt_cmpR (inS (K := K) rfl) (pv 1) (pv 2) (by rfl)))
          (fun _ _ _ _ _ => pe_ifExp (pt_cmpR op_eq (pe_ix (ixT (K := K) rfl) (pv 2) pe_int (fun _ _ => rfl)) (pv 1) (nomark _)) (pe_ix (ixT (K := K) rfl) (pv 2) pe_int (fun _ _ => rfl)) (pe_ix (ixT (K := K) rfl) (pv 2) pe_int (fun _ _ => rfl)))) pa_nil)) pa_nil))), ?_⟩
    refine ⟨_, rfl, t, rfl, ⟨_, .of ht⟩, fun D hD => ?_⟩
    refine lc_fm (walk_tup (xs := xs)) rInt (fun i => ties[i]?.bind (nbOf post)) hD (fun H' s' => .of (s'.keep.tup ht)) ?_ ?_
    · rintro i x H2 H3 hi pv ⟨rfl, hx⟩
      obtain ⟨z, hz, t2, rfl, ht2⟩ := paired_get (paired_mono mono_pi pv.1.keep hp) hx
      have hlen := paired_len hp
      refine ⟨rfl, _, rfl, _, rfl, t2, _, rfl, .inr (.of ht2), rfl, rfl, _, rfl, ?_⟩
      rw [if_neg Bool.false_ne_true, inV2]
      by_cases hc : z.1 = post ∨ z.2 = post
      · rw [decide_eq_true hc]
        refine iteT ?_
        refine ⟨_, rfl, t2, _, _, _, rfl, rfl, .of ht2, at_of (j := 0) rfl rfl, _, rfl, rfl, _, rfl, ?_⟩
        have hf : ties[i]?.bind (nbOf post) = some (if z.1 = post then z.2 else z.1) := by
          rw [hz]
          show nbOf post z = _
          unfold nbOf
          rw [if_pos hc]
        by_cases h1 : z.1 = post
        · have e1 : V.int z.1 = V.int post := by rw [h1]
          rw [decide_eq_true e1]
          refine iteT ⟨_, rfl, t2, _, _, _, rfl, rfl, .of ht2, at_of (j := 1) rfl rfl, ?_⟩
          exact fm_keep mono_int pv hD (by omega) (Same.refl _) hf (by rw [if_pos h1]; rfl)
        · have e1 : ¬ V.int z.1 = V.int post := fun e => h1 (V.int.inj e)
          rw [decide_eq_false e1]
          refine iteF ⟨_, rfl, t2, _, _, _, rfl, rfl, .of ht2, at_of (j := 0) rfl rfl, ?_⟩
          exact fm_keep mono_int pv hD (by omega) (Same.refl _) hf (by rw [if_neg h1]; rfl)
      · rw [decide_eq_false hc]
        refine iteF (fm_skip mono_int pv (Same.refl _) ?_)
        rw [hz]
        show nbOf post z = _
        unfold nbOf
        rw [if_neg hc]
    · intro H2 ys s2 hD2 hp2
      have e := paired_int hp2
      subst e
      rw [paired_len hp, fm_list] at hD2
      refine ⟨D, _, rfl, .of hD2, fun ns' p hperm hup np => ?_⟩
      refine ⟨p, _, rfl, .inl ⟨.of upd_same, fun l hl2 => ?_⟩⟩
      have s3 : Same H (upd H2 p (.lst (ns'.map V.int))) := s2.trans (same_new np)
      exact q _ _ ns' (s3.trans (same_new hl2)) ⟨l, rfl, upd_same⟩ hperm hup
end
end S4

namespace S4
open PySem L2 TT MM
/-! ### reached -/
def kf (l : List Int) : List (L2.Key × V) := l.map fun k => (Sum.inl k, V.bl true)
theorem kf_look : ∀ (l : List Int) (n : Int), valV (kf l) (Sum.inl n) = if n ∈ l then some (V.bl true) else none
  | [], n => by simp [kf, valV_nil]
  | a :: l, n => by
    show valV ((Sum.inl a, V.bl true) :: kf l) (Sum.inl n) = _
    by_cases e : a = n
    · subst e
      rw [valV_pos rfl, if_pos (by simp)]
    · have e' : ¬ (Sum.inl a : L2.Key) = Sum.inl n := fun q => e (Sum.inl.inj q)
      rw [valV_neg e', kf_look l n]
      by_cases h : n ∈ l
      · rw [if_pos h, if_pos (by simp [h])]
      · rw [if_neg h, if_neg (by simp [h]; exact fun q => e q.symm)]
theorem kf_put {l : List Int} {n : Int} (h : n ∉ l) : putK (kf l) (Sum.inl n) (V.bl true) = kf (l ++ [n]) := by
  rw [putK_new _ (by rw [kf_look, if_neg h])]
  simp [kf]
theorem kf_len (l : List Int) : (kf l).length = l.length := by simp [kf]
theorem kf_keys (l : List Int) : (kf l).map (·.1) = l.map Sum.inl := by simp [kf]
def optV : Option Int → V
  | none => .non
  | some b => .int b
section
variable {P : Program} {w : World} {K : PySem.W.Frag} {mg : Str → Option Value} {base : Heap} {cT cS : Addr}
def spReached : Sp := fun vs H Q _ => ∃ (v : V) (ties : List (Int × Int)) (st : Int) (bar : Option Int) (U : List Int), vs = [v, .int st, optV bar] ∧ rTup rPI H v ties ∧ ties.length ≤ 1000 ∧ Shut ties U ∧ st ∈ U ∧ U.length < 64 ∧
  ∀ H' v' ns, Same H H' → rRow H' v' ns → Up ns → ns.Nodup → (∀ x, x ∈ ns ↔ Rch ties bar st x) → Q v' H'
/-- the two that stand in the walk -/
structure RS (H0 : Hp) (df dw : Addr) (fnd wt : List Int) (H : Hp) : Prop where
  same : Same H0 H
  f0 : H0 df = none
  w0 : H0 dw = none
  fd : H df = some (.dK (kf fnd))
  wd : H dw = some (.lst (wt.map V.int))
theorem RS.ne {H0 : Hp} {df dw : Addr} {fnd wt : List Int} {H : Hp} (r : RS H0 df dw fnd wt H) : df ≠ dw := ne_of r.fd r.wd (fun q => nomatch q)
theorem RS.more {H0 : Hp} {df dw : Addr} {fnd wt : List Int} {H H' : Hp} (r : RS H0 df dw fnd wt H) (s : Same H H') : RS H0 df dw fnd wt H' := ⟨r.same.trans s, r.f0, r.w0, s _ _ r.fd, s _ _ r.wd⟩
theorem RS.setW {H0 : Hp} {df dw : Addr} {fnd wt : List Int} {H : Hp} (r : RS H0 df dw fnd wt H) (wt' : List Int) : RS H0 df dw fnd wt' (upd H dw (.lst (wt'.map V.int))) :=
  ⟨same_own r.same r.w0, r.f0, r.w0, by rw [upd_ne r.ne]; exact r.fd, upd_same⟩
theorem RS.setF {H0 : Hp} {df dw : Addr} {fnd wt : List Int} {H : Hp} (r : RS H0 df dw fnd wt H) (fnd' : List Int) : RS H0 df dw fnd' wt (upd H df (.dK (kf fnd'))) :=
  ⟨same_own r.same r.f0, r.f0, r.w0, upd_same, by rw [upd_ne r.ne.symm]; exact r.wd⟩
theorem ok_reached (T : Tx K mg cT cS) {f : Addr} {fd : FuncData} (d : D K mg "reached" s_reached ["ties", "start", "barred"] f fd) : FnOk P w K mg base CX0 2 f fd ["ties", "start", "barred"] spReached := by
  obtain ⟨f1, fd1, d1⟩ := T.d_neighbours
  have G1 : FnOk P w K mg base CX0 1 f1 fd1 ["ties", "post"] spNbr := ok_neighbours T d1
  refine d.F.ok sc_reached (fun vs H Q E h => ?_) (fun cdv A outer s H vs Q E hr h => ?_)
  · obtain ⟨v, ties, st, bar, U, rfl, _⟩ := h
    rfl
  · obtain ⟨v, ties, st, bar, U, rfl, hties, hl, hU, hst, hU64, q⟩ := h
    refine ⟨_, pss_cons (ps_set (i := 3) sc_reached.nd rfl (.inl rfl) (pe_disp (pps_cons (pv 1) pe_bl pps_nil) (by rfl) (by rfl) (fun z => by cases z) (by decide)))
      (pss_cons (ps_set (i := 4) sc_reached.nd rfl (.inl rfl) (pe_lst (pa_cons (pv 1) pa_nil)))
      (pss_cons (ps_while PassesOwn.never (pt_truth (pv 4) (by intro _; rfl))
        (pss_cons (ps_set (i := 5) sc_reached.nd rfl (.inl rfl) (pe_bm0 PySem.F.plainAttrs_list PySem.F.slot_list_pop PySem.F.type_list_pop mt_pop (pv 4)))
          (pss_one (ps_for PassesOwn.never rfl (pi_tup (pe_call G1 hr rfl d1.m d1.F.kp d1.b .nil pass0 (pa_cons (pv 0) (pa_cons (pv 5) pa_nil)))) (pg_name (i := 6) sc_reached.nd rfl (Or.inl rfl))
            (pss_one (ps_if (PW.pt (pw_and (pt_cmpR op_ne (pv 6) (pv 2) (nomark _)) (pw_and1 (pt_cmp (pc_dnotin (hu_of hr) (pv 6) (pv 3))))))
              (pss_cons (ps_dput (hu_of hr) (pv 3) (pv 6) pe_bl rfl)
                (pss_one (ps_expr (pe_bm PySem.F.plainAttrs_list PySem.F.slot_list_append PySem.F.type_list_append mt_append (pv 4) (pa_cons (pv 6) pa_nil))))) pss_nil))))))
      (pss_one (ps_ret (pe_callTy call_tuple_of (by rfl) T.b_tuple (by decide +kernel) (pa_cons (pe_callB (call_sortedDI rfl) (by rfl) T.b_sorted (by decide +kernel) (pa_cons (pv 3) pa_nil)) pa_nil)))))), ?_⟩
    obtain ⟨t, xs, rfl, ht, hp⟩ := id hties
    intro df hdf
    refine ⟨_, rfl, upd_same, [(Sum.inl st, V.bl true)], rfl, by show 1 ≤ 15; decide, ?_⟩
    rw [upd_upd]
    refine ⟨_, rfl, by show 1 ≤ sizeLine; decide, fun dw hdw => ?_⟩
    have hne : dw ≠ df := fun e => by subst e; rw [upd_same] at hdw; cases hdw
    have hdw0 : H dw = none := by rw [upd_ne hne] at hdw; exact hdw
    have R0 : RS H df dw [st] [st] (upd (upd H df (.dK (mergeK [] [(Sum.inl st, V.bl true)]))) dw (.lst [V.int st])) :=
      ⟨same_own (same_new hdf) hdw0, hdf, hdw0, by rw [upd_ne hne.symm, upd_same]; rfl, upd_same⟩
    dsimp only [gName, tSeq]
    refine while_by (fun σ H' => ∃ (fnd wt : List Int) (h p : Option V), σ = [some (.ref t), some (.int st), some (optV bar), some (.ref df), some (.ref dw), h, p] ∧ RS H df dw fnd wt H' ∧ RI ties bar st none fnd wt)
      (fun σ H' => match H' df, H' dw with | some (.dK a), some (.lst b) => 2 * (64 - a.length) + b.length | _, _ => 0) ⟨[st], [st], none, none, rfl, R0, .start⟩ ?_ ?_
    · rintro σ H1 ⟨fnd, wt, h0, p0, rfl, R, I⟩
      refine ⟨_, rfl, _, .inl ⟨_, .of R.wd, rfl⟩, ?_⟩
      have hmu : (match H1 df, H1 dw with | some (.dK a), some (.lst b) => 2 * (64 - a.length) + b.length | _, _ => 0) = 2 * (64 - fnd.length) + wt.length := by
        rw [R.fd, R.wd]
        show 2 * (64 - (kf fnd).length) + (wt.map V.int).length = _
        rw [kf_len, List.length_map]
      rw [hmu]
      cases hw : wt with
      | nil =>
        subst hw
        refine iteF ?_
        have hlen := I.len hU hst
        refine ⟨_, rfl, df, _, fnd, rfl, .of R.fd, kf_keys fnd, by omega, fun ys p hperm hup np => ?_⟩
        refine ⟨p, _, rfl, .inl ⟨.of upd_same, fun l hl2 => ?_⟩⟩
        refine q _ _ ys ((R.same.trans (same_new np)).trans (same_new hl2)) ⟨l, rfl, upd_same⟩ hup (hperm.symm.nodup I.nd) fun x => ?_
        rw [hperm.mem_iff]
        exact I.done x
      | cons w0 wr =>
        rw [← hw]
        have hpos : 0 < wt.length := by rw [hw]; simp
        have hemp : (!(wt.map V.int).isEmpty) = true := by rw [hw]; rfl
        rw [hemp]
        refine iteT ?_
        have hlast : wt[wt.length - 1]? = some wt[wt.length - 1] := List.getElem?_eq_getElem (by omega)
        obtain ⟨h, hh⟩ : ∃ h, wt[wt.length - 1]? = some h := ⟨_, hlast⟩
        refine ⟨_, rfl, .inl ⟨rfl, _, .of R.wd⟩, dw, _, V.int h, rfl, rfl, R.wd, by rw [List.length_map]; exact int_at hh, ?_⟩
        have I1 := I.pop hh
        have R1 : RS H df dw fnd wt.dropLast (upd H1 dw (.lst (wt.map V.int).dropLast)) := by
          have := R.setW wt.dropLast
          rw [List.map_dropLast] at this
          exact this
        have hdl : wt.dropLast.length = wt.length - 1 := List.length_dropLast
        refine ⟨_, rfl, _, rfl, .ref t, ties, h, rfl, ⟨t, xs, rfl, R1.same _ _ ht, paired_mono mono_pi R1.same.keep hp⟩, hl, fun H2 v2 ns s2 hrow hperm hup => ?_⟩
        obtain ⟨t2, rfl, ht2⟩ := hrow
        have R2 := R1.more s2
        refine ⟨t2, rfl, ⟨_, .of ht2⟩, ?_⟩
        refine for_tup (K := K) (a := t2) (xs := ns.map V.int) (fun i σ H' => ∃ (fnd' wt' : List Int) (p : Option V), σ = [some (.ref t), some (.int st), some (optV bar), some (.ref df), some (.ref dw), some (.int h), p] ∧ RS H df dw fnd' wt' H' ∧ H' t2 = some (.tup (ns.map V.int)) ∧
          RI ties bar st (some h) fnd' wt' ∧ (∀ j v, j < i → ns[j]? = some v → bar ≠ some v → v ∈ fnd') ∧ 2 * (64 - fnd'.length) + wt'.length ≤ 2 * (64 - fnd.length) + (wt.length - 1))
          ⟨fnd, wt.dropLast, p0, rfl, R2, ht2, I1, fun j v hj => absurd hj (Nat.not_lt_zero _), by rw [hdl]; exact Nat.le_refl _⟩ (fun i σ H' _ ⟨_, _, _, _, _, e, _⟩ => .of e) ?_ ?_
        · rintro i x σ H3 hx ⟨fnd', wt', p, rfl, R3, ht3, I3, hc, hm⟩
          obtain ⟨n, hn, rfl⟩ := at_int hx
          have hsc : scal (V.int n) (optV bar) = true := by cases bar <;> rfl
          have hdec : (!decide (V.int n = optV bar)) = decide (bar ≠ some n) := by
            cases bar with
            | none => simp [optV]
            | some b =>
              by_cases e : n = b
              · subst e; simp [optV]
              · have e' : ¬ b = n := fun q => e q.symm
                simp [optV, e, e']
          refine ⟨_, rfl, _, rfl, hsc, _, rfl, ?_⟩
          rw [hdec]
          by_cases hb : bar ≠ some n
          · rw [decide_eq_true hb]
            refine iteT ⟨_, rfl, _, rfl, df, _, rfl, .k (k := Sum.inl n) R3.fd, _, rfl, ?_⟩
            rw [kf_look]
            by_cases hin : n ∈ fnd'
            · rw [if_pos hin]
              refine iteF ⟨fnd', wt', _, rfl, R3, ht3, I3, fun j v hj hv hbv => ?_, hm⟩
              by_cases ej : j = i
              · subst ej
                rw [hn] at hv
                cases hv
                exact hin
              · exact hc j v (by omega) hv hbv
            · rw [if_neg hin]
              refine iteT ?_
              have hnb : n ∈ nb ties h := hperm.mem_iff.mp (List.mem_of_getElem? hn)
              have I4 := I3.add hnb hb hin
              have l4 := I4.len hU hst
              have l3 := I3.len hU hst
              have lw : wt'.length ≤ 2 * 64 + wt.length := by omega
              have lw2 : wt.length ≤ 100000 ∨ True := .inr trivial
              refine ⟨_, rfl, _, rfl, df, _, rfl, .k (k := Sum.inl n) R3.fd (by rw [kf_len]; exact Nat.lt_of_le_of_lt (Nat.le_trans l3 (Nat.le_of_lt hU64)) (by decide)), ?_⟩
              rw [kf_put hin]
              have R4 := R3.setF (fnd' ++ [n])
              refine ⟨_, rfl, .inl ⟨rfl, _, .of R4.wd⟩, _, rfl, dw, _, _, rfl, rfl, R4.wd, ?_, ?_⟩
              · have := I3.wl
                rw [List.length_map]
                exact Nat.lt_of_le_of_lt (Nat.le_trans this (Nat.le_trans l3 (Nat.le_of_lt hU64))) (by decide)
              have R5 := R4.setW (wt' ++ [n])
              rw [List.map_append] at R5
              refine ⟨fnd' ++ [n], wt' ++ [n], _, rfl, R5, ?_, I4, fun j v hj hv hbv => ?_, ?_⟩
              · rw [upd_ne (ne_of ht3 R3.wd (fun z => nomatch z)), upd_ne (ne_of ht3 R3.fd (fun z => nomatch z))]
                exact ht3
              · by_cases ej : j = i
                · subst ej
                  rw [hn] at hv
                  cases hv
                  simp
                · exact List.mem_append_left _ (hc j v (by omega) hv hbv)
              · rw [List.length_append, List.length_append, List.length_singleton]
                rw [List.length_append, List.length_singleton] at l4
                omega
          · rw [decide_eq_false hb]
            refine iteF (iteF ⟨fnd', wt', _, rfl, R3, ht3, I3, fun j v hj hv hbv => ?_, hm⟩)
            by_cases ej : j = i
            · subst ej
              rw [hn] at hv
              cases hv
              exact absurd hbv hb
            · exact hc j v (by omega) hv hbv
        · rintro σ H3 ⟨fnd', wt', p, rfl, R3, ht3, I3, hc, hm⟩
          refine ⟨⟨fnd', wt', _, _, rfl, R3, I3.close fun v hv hb => ?_⟩, ?_⟩
          · have hv' := hperm.mem_iff.mpr hv
            obtain ⟨j, hj⟩ := List.getElem?_of_mem hv'
            exact hc j v (by rw [List.length_map]; exact (List.getElem?_eq_some_iff.mp hj).1) hj hb
          · rw [R3.fd, R3.wd]
            show 2 * (64 - (kf fnd').length) + (wt'.map V.int).length < _
            rw [kf_len, List.length_map]
            omega
    · rintro σ H' Q1 Q2 i ⟨v, e1, k, e2, h⟩
      exact ⟨v, e1, k, e2, i _ _ h⟩
end
end S4

namespace S4
open PySem L2 TT MM
/-! ### a tree in the heap -/
def tfs (t : Addr) (n : Int) : List (Str × V) := putF "posts" (.int n) (putF "ties" (.ref t) [])
theorem tfs_ties (t : Addr) (n : Int) : (tfs t n).lookup ("ties" : Str) = some (.ref t) := by
  unfold tfs
  rw [lookup_putF, if_neg (by decide +kernel), lookup_putF, if_pos rfl]
theorem tfs_posts (t : Addr) (n : Int) : (tfs t n).lookup ("posts" : Str) = some (.int n) := by
  unfold tfs
  rw [lookup_putF, if_pos rfl]
def rTree (cT : Addr) : Rp (List (Int × Int)) := fun H v ties => ∃ a dx t xs, v = .ref a ∧ H a = some (.ins cT dx (tfs t ((ties.length : Int) + 1))) ∧ H t = some (.tup xs) ∧ Paired (rPI H) xs ties
theorem mono_tree (cT : Addr) : Mono (rTree cT) := fun _ _ _ _ k ⟨a, dx, t, xs, e, h1, h2, h3⟩ => ⟨a, dx, t, xs, e, k.ins h1, k.tup h2, paired_mono mono_pi k h3⟩
theorem mem_ties {K : PySem.W.Frag} {H : Hp} {v u : V} {z : Int × Int} {ties : List (Int × Int)} (h : rPI H v z) (h2 : rTup rPI H u ties) {Q : V → Hp → Prop} (q : Q (.bl (decide (z ∈ ties))) H) : rInT K v u H Q :=
  ⟨pd z, ties.map pd, dp_pi h, dp_ties h2, pd_shaped z, pdt_shaped ties, by rw [any_pd]; exact q⟩
section
variable {P : Program} {w : World} {K : PySem.W.Frag} {mg : Str → Option Value} {base : Heap} {cT cS : Addr}
def spIsTie : Sp := fun vs H Q _ => ∃ (v : V) (z : Int × Int) (n : Int), vs = [v, .int n] ∧ rPI H v z ∧ 0 ≤ z.1 ∧ z.1 < z.2 ∧ z.2 < n ∧ ∀ H', Same H H' → Q (.bl true) H'
theorem two_at {a b : Int} {i : Nat} {x : V} (h : [V.int a, V.int b][i]? = some x) : x = .int a ∨ x = .int b := by
  match i, h with
  | 0, h => exact .inl (Option.some.inj h).symm
  | 1, h => exact .inr (Option.some.inj h).symm
theorem all_true_fm {n : Nat} {bs : List Bool} (h : bs = (List.range n).filterMap fun _ => some true) : bs.all id = true := all_true fun b hb => by
  rw [h] at hb
  obtain ⟨_, _, e⟩ := List.mem_filterMap.mp hb
  exact (Option.some.inj e).symm
theorem ok_is_tie (T : Tx K mg cT cS) {f : Addr} {fd : FuncData} (d : D K mg "is_tie" s_is_tie ["thing", "posts"] f fd) : FnOk P w K mg base CX0 3 f fd ["thing", "posts"] spIsTie := by
  obtain ⟨f1, fd1, d1⟩ := T.d_is_below
  have G1 : FnOk P w K mg base CX0 2 f1 fd1 ["thing", "end"] spIsBelow := ok_is_below T d1
  obtain ⟨f2, fd2, d2⟩ := T.d_is_pair
  have G2 : FnOk P w K mg base CX0 1 f2 fd2 ["thing"] spIsPair := ok_is_pair T d2
  refine d.F.ok sc_is_tie (fun vs H Q E h => ?_) (fun cdv A outer s H vs Q E hr h => ?_)
  · obtain ⟨v, z, n, rfl, _⟩ := h
    rfl
  · obtain ⟨v, ⟨a, b⟩, n, rfl, ⟨t, rfl, ht⟩, h0, h1, h2, q⟩ := h
    simp only at h0 h1 h2 ht
    refine ⟨_, pss_cons (ps_if (PW.pt (pw_or (pt_not (pt_val (pe_call G2 (hr.mono (by decide)) rfl d2.m d2.F.kp d2.b .nil pass0 (pa_cons (pv 0) pa_nil))))
        (pw_or1 (pt_not (pt_val (pe_callB (cr_all rfl) (by rfl) T.b_all (by decide +kernel) (pa_cons
        (pe_lc (own := [("post", 2)]) (g := gName 2) (tt := tYes) rfl sc_is_tie.nd (pi_tup (pv 0)) (blkOk_by (N := N_is_tie) (sc := defScope s_is_tie) (by decide +kernel)) (fun _ _ _ _ _ => pg_name (i := 2) sc_is_tie.nd rfl (Or.inl rfl)) (fun _ _ _ _ _ => pts_nil)
          (fun _ _ _ _ _ => pe_call G1 hr rfl d1.m d1.F.kp d1.b .nil pass0 (pa_cons (pv 2) (pa_cons (pv 1) pa_nil)))) pa_nil))))))) (pss_one (ps_ret pe_bl)) pss_nil)
      (pss_one (ps_ret (pe_cmpR op_lt (pe_ix ix_tup (pv 0) pe_int (fun _ _ => rfl)) (pe_ix ix_tup (pv 0) pe_int (fun _ _ => rfl)) (nomark _)))), ?_⟩
    refine ⟨_, rfl, t, _, _, rfl, ht, _, rfl, iteF ⟨_, rfl, t, rfl, ⟨_, .of ht⟩, fun D hD => ?_⟩⟩
    refine lc_fm (walk_tup (xs := [V.int a, V.int b])) rBl (fun _ => some true) hD (fun H' s' => .of (s'.keep.tup ht)) ?_ ?_
    · rintro i x H2 H3 hi pv ⟨rfl, hx⟩
      have hi2 : i < 2 := hi
      rcases two_at hx with rfl | rfl
      · refine ⟨rfl, _, rfl, _, rfl, a, n, rfl, ?_⟩
        rw [decide_eq_true ⟨h0, by omega⟩]
        exact fm_keep mono_bl pv hD (by omega) (Same.refl _) rfl rfl
      · refine ⟨rfl, _, rfl, _, rfl, b, n, rfl, ?_⟩
        rw [decide_eq_true ⟨by omega, h2⟩]
        exact fm_keep mono_bl pv hD (by omega) (Same.refl _) rfl rfl
    · intro H2 xs s2 hD2 hp
      have := paired_bl hp
      subst this
      refine ⟨_, _, rfl, .of hD2, _, rfl, ?_⟩
      rw [all_true_fm rfl]
      have ht2 := s2.keep.tup ht
      refine iteF ⟨_, rfl, t, _, _, _, rfl, rfl, .of ht2, at_of (j := 0) rfl rfl, _, rfl, t, _, _, _, rfl, rfl, .of ht2, at_of (j := 1) rfl rfl, _, _, rfl, rfl, ?_⟩
      show Q (V.bl (decide (a < b))) H2
      rw [decide_eq_true h1]
      exact q _ s2
def spIsWay (cT : Addr) : Sp := fun vs H Q _ => ∃ (u v : V) (ties : List (Int × Int)) (z : Int × Int), vs = [u, v] ∧ rTree cT H u ties ∧ rPI H v z ∧ 0 ≤ z.1 ∧ 0 ≤ z.2 ∧ z.1 < (ties.length : Int) + 1 ∧ z.2 < (ties.length : Int) + 1 ∧ (z ∈ ties ∨ z.swap ∈ ties) ∧
  ∀ H', Same H H' → Q (.bl true) H'
end
end S4

namespace S4
open PySem L2 TT MM
section
variable {P : Program} {w : World} {K : PySem.W.Frag} {mg : Str → Option Value} {base : Heap} {cT cS : Addr}
def spTied (cT : Addr) : Sp := fun vs H Q _ => ∃ (u : V) (ties : List (Int × Int)) (post : Int), vs = [u, .int post] ∧ rTree cT H u ties ∧ ties.length ≤ 1000 ∧ 0 ≤ post ∧ post < (ties.length : Int) + 1 ∧
  ∀ H' v' ns, Same H H' → rRow H' v' ns → ns.Perm (nb ties post) → Up ns → Q v' H'
def spThis (cT : Addr) : Sp := fun vs H Q _ => ∃ (u v : V) (ties : List (Int × Int)) (z : Int × Int) (U : List Int), vs = [u, v] ∧ rTree cT H u ties ∧ rPI H v z ∧ ties.length ≤ 1000 ∧ Shut ties U ∧ z.1 ∈ U ∧ U.length < 64 ∧
  ∀ H' v' ns, Same H H' → rRow H' v' ns → Up ns → ns.Nodup → (∀ x, x ∈ ns ↔ Rch ties (some z.2) z.1 x) → Q v' H'
def spBeyond (cT : Addr) : Sp := fun vs H Q _ => ∃ (u v : V) (ties : List (Int × Int)) (z : Int × Int) (U : List Int), vs = [u, v] ∧ rTree cT H u ties ∧ rPI H v z ∧ ties.length ≤ 1000 ∧ Shut ties U ∧ z.2 ∈ U ∧ U.length < 64 ∧
  0 ≤ z.1 ∧ 0 ≤ z.2 ∧ z.1 < (ties.length : Int) + 1 ∧ z.2 < (ties.length : Int) + 1 ∧ (z ∈ ties ∨ z.swap ∈ ties) ∧
  ∀ H' v' ns, Same H H' → rRow H' v' ns → Up ns → ns.Nodup → (∀ x, x ∈ ns ↔ Rch ties (some z.1) z.2 x) → Q v' H'
/-! ### all ways -/
def flipAll (ties : List (Int × Int)) : List (Int × Int) := ties.map Prod.swap
/-- a new ascending list of all ways -/
def spWays (cT : Addr) : Sp := fun vs H Q _ => ∃ (u : V) (ties : List (Int × Int)), vs = [u] ∧ rTree cT H u ties ∧ ties.length ≤ 1000 ∧
  ∀ H' p xs m, Same H H' → H p = none → H' p = some (.lst xs) → Paired (rPI H') xs m → m.Perm (ties ++ flipAll ties) → m.Pairwise lxLe → Q (.ref p) H'
theorem fm_some {α β : Type} (l : List α) (h : α → β) : (List.range l.length).filterMap (fun i => l[i]?.bind fun x => some (h x)) = l.map h := by
  rw [fm_list, List.filterMap_eq_map']
end
end S4

namespace S4
open PySem L2 TT MM
/-- ties that make a tree of n posts -/
structure TiesOk (ties : List (Int × Int)) (n : Nat) : Prop where
  len : ties.length + 1 = n
  n24 : n ≤ 24
  b0 : ∀ z ∈ ties, 0 ≤ z.1 ∧ z.1 < z.2 ∧ z.2 < (n : Int)
  asc : ties.Pairwise lxLt
  all : ∀ x : Int, 0 ≤ x → x < (n : Int) → Rch ties none 0 x
theorem nb_mem {ties : List (Int × Int)} {u v : Int} : v ∈ nb ties u ↔ (u, v) ∈ ties ∨ (v, u) ∈ ties := by
  unfold nb
  rw [List.mem_filterMap]
  constructor
  · rintro ⟨⟨a, b⟩, hz, he⟩
    unfold nbOf at he
    by_cases hc : a = u ∨ b = u
    · rw [if_pos hc] at he
      have e := Option.some.inj he
      by_cases h1 : a = u
      · rw [if_pos h1] at e
        subst h1 e
        exact .inl hz
      · rw [if_neg h1] at e
        have h2 : b = u := hc.resolve_left h1
        subst h2 e
        exact .inr hz
    · rw [if_neg hc] at he
      cases he
  · rintro (h | h)
    · refine ⟨(u, v), h, ?_⟩
      unfold nbOf
      rw [if_pos (.inl rfl), if_pos rfl]
    · refine ⟨(v, u), h, ?_⟩
      unfold nbOf
      rw [if_pos (.inr rfl)]
      by_cases e : v = u
      · rw [if_pos e, e]
      · rw [if_neg e]
def rng (n : Nat) : List Int := (List.range n).map fun (i : Nat) => (i : Int)
theorem rng_mem {n : Nat} {x : Int} : x ∈ rng n ↔ 0 ≤ x ∧ x < (n : Int) := by
  unfold rng
  rw [List.mem_map]
  constructor
  · rintro ⟨i, hi, rfl⟩
    have := List.mem_range.mp hi
    omega
  · rintro ⟨h1, h2⟩
    exact ⟨x.toNat, List.mem_range.mpr (by omega), by omega⟩
theorem rng_len (n : Nat) : (rng n).length = n := by simp [rng]
theorem rng_nodup (n : Nat) : (rng n).Nodup := by
  unfold rng
  rw [List.nodup_iff_pairwise_ne, List.pairwise_map]
  exact List.nodup_range.imp fun {a b} h e => h (by omega)
theorem TiesOk.shut {ties : List (Int × Int)} {n : Nat} (o : TiesOk ties n) : Shut ties (rng n) := ⟨fun u hu v hv => by
  rw [rng_mem]
  rcases nb_mem.mp hv with h | h
  · have := o.b0 _ h
    simp only at this
    omega
  · have := o.b0 _ h
    simp only at this
    omega⟩
theorem le_pairs (a b c e : Int) : Ob.lexAt (fun j => decide ([a, b].getD j 0 = [c, e].getD j 0)) (fun j => decide ([a, b].getD j 0 ≤ [c, e].getD j 0)) (decide ([a, b].length ≤ [c, e].length)) 0 (min [a, b].length [c, e].length) = decide (¬ lxLt (c, e) (a, b)) := by
  show (if decide (a = c) = true then (if decide (b = e) = true then decide (2 ≤ 2) else decide (b ≤ e)) else decide (a ≤ c)) = decide (¬ lxLt (c, e) (a, b))
  unfold lxLt
  by_cases h1 : a = c
  · rw [if_pos (decide_eq_true h1)]
    by_cases h2 : b = e
    · rw [if_pos (decide_eq_true h2)]
      subst h1 h2
      rw [decide_eq_true (by omega : (2 : Nat) ≤ 2), decide_eq_true (by omega)]
    · rw [if_neg (by rw [decide_eq_true_eq]; exact h2)]
      subst h1
      by_cases h3 : b ≤ e
      · rw [decide_eq_true h3, decide_eq_true (by omega)]
      · rw [decide_eq_false h3, decide_eq_false (by omega)]
  · rw [if_neg (by rw [decide_eq_true_eq]; exact h1)]
    by_cases h3 : a ≤ c
    · rw [decide_eq_true h3, decide_eq_true (by omega)]
    · rw [decide_eq_false h3, decide_eq_false (by omega)]
section
variable {P : Program} {w : World} {K : PySem.W.Frag} {mg : Str → Option Value} {base : Heap} {cT cS : Addr}
def spCheckTies : Sp := fun vs H Q _ => ∃ (v : V) (ties : List (Int × Int)) (n : Nat), vs = [v] ∧ rTup rPI H v ties ∧ TiesOk ties n ∧ ∀ H', Same H H' → Q .non H'
theorem ok_check_ties (T : Tx K mg cT cS) {f : Addr} {fd : FuncData} (d : D K mg "check_ties" s_check_ties ["ties"] f fd) : FnOk P w K mg base CX0 4 f fd ["ties"] spCheckTies := by
  obtain ⟨f1, fd1, d1⟩ := T.d_is_tie
  have G1 : FnOk P w K mg base CX0 3 f1 fd1 ["thing", "posts"] spIsTie := ok_is_tie T d1
  obtain ⟨f2, fd2, d2⟩ := T.d_reached
  have G2 : FnOk P w K mg base CX0 2 f2 fd2 ["ties", "start", "barred"] spReached := ok_reached T d2
  obtain ⟨tk, hM⟩ := T.c_MOST_TIES
  refine d.F.ok sc_check_ties (fun vs H Q E h => ?_) (fun cdv A outer s H vs Q E hr h => ?_)
  · obtain ⟨v, ties, n, rfl, _⟩ := h
    rfl
  · obtain ⟨v, ties, n, rfl, ⟨t, xs, rfl, ht, hp⟩, ok, q⟩ := h
    have hlen := paired_len hp
    have hn := ok.len
    have hn24 := ok.n24
    refine ⟨_, pss_cons (ps_if (PW.pt (pw_or (pt_not (pt_val (pe_callB call_isi (by rfl) T.b_isinstance (by decide +kernel) (pa_cons (pv 0) (pa_cons (ty_tuple T.b_tuple) pa_nil)))))
        (pw_or1 (pt_cmpR op_gt (pe_callB call_len_seq (by rfl) T.b_len PySem.boot_len (pa_cons (pv 0) pa_nil)) (pe_glob (v := .int 23) rfl hM ⟨_, rfl⟩) (nomark _))))) pss_never pss_nil)
      (pss_cons (ps_set (i := 1) sc_check_ties.nd rfl (.inl rfl) (pe_op op_add (pe_callB call_len_seq (by rfl) T.b_len PySem.boot_len (pa_cons (pv 0) pa_nil)) pe_int))
      (pss_cons (ps_for PassesOwn.never rfl (pi_enumT (by rfl) T.b_enumerate (pa_cons (pv 0) pa_nil)) (pg_tup rfl (pgs_cons (pg_name (i := 2) sc_check_ties.nd rfl (.inl rfl)) (pgs_cons (pg_name (i := 3) sc_check_ties.nd rfl (.inl rfl)) pgs_nil)))
        (pss_one (ps_if (PW.pt (pw_or (pt_not (pt_val (pe_call G1 hr rfl d1.m d1.F.kp d1.b .nil pass0 (pa_cons (pv 3) (pa_cons (pv 1) pa_nil)))))
          (pw_or1 (PW.pt (pw_and (pt_cmpR op_gt (pv 2) pe_int (nomark _)) (pw_and1 (pt_cmpR (op_leT hr.units0) (pv 3) (pe_ix ix_tup (pv 0) (pe_op op_sub (pv 2) pe_int) (fun _ _ => rfl)) (nomark _)))))))) pss_never pss_nil)))
      (pss_one (ps_if (pt_cmpR op_lt (pe_callB call_len_seq (by rfl) T.b_len PySem.boot_len (pa_cons (pe_call G2 (hr.mono (by decide)) rfl d2.m d2.F.kp d2.b .nil pass0 (pa_cons (pv 0) (pa_cons pe_int (pa_cons pe_non pa_nil)))) pa_nil)) (pv 1) (nomark _)) pss_never pss_nil)))), ?_⟩
    refine ⟨_, rfl, _, _, _, _, _, rfl, .ty _, .base (.tup ht), kit_tt, _, rfl, iteF ⟨_, rfl, _, _, rfl, .inr (.of ht), _, _, rfl, rfl, _, rfl, ?_⟩⟩
    rw [decide_eq_false (by rw [hlen]; omega)]
    refine iteF ⟨_, rfl, _, _, rfl, .inr (.of ht), _, _, rfl, rfl, ?_⟩
    dsimp only [gName, tSeq]
    have e1 : ((xs.length : Nat) : Int) + 1 = (n : Int) := by rw [hlen]; omega
    rw [e1]
    refine ⟨_, rfl, t, xs, rfl, .of ht, ?_⟩
    refine for_it (walk_enumT (xs := xs)) (fun i σ H' => Same H H' ∧ ∃ a b, σ = [some (.ref t), some (.int n), a, b]) ⟨.refl _, none, none, rfl⟩ (fun i σ H' _ h => .of (h.1.keep.tup ht)) ?_ ?_
    · rintro i x σ H2 H3 hi ⟨s2, a, b, rfl⟩ ⟨tp, x1, x2, rfl, np, rfl, e2, e3⟩
      have s3 := same_new (o := .tup [x1, x2]) np
      cases (Option.some.inj e2)
      obtain ⟨z, hz, t2, rfl, ht2⟩ := paired_get (paired_mono mono_pi (s2.trans s3).keep hp) e3
      have hzm := List.mem_of_getElem? hz
      obtain ⟨b1, b2, b3⟩ := ok.b0 z hzm
      refine ⟨tp, _, rfl, .of upd_same, rfl, _, _, rfl, _, _, rfl, rfl, ?_⟩
      refine ⟨_, rfl, _, rfl, .ref t2, z, n, rfl, ⟨t2, rfl, ht2⟩, b1, b2, b3, fun H4 s4 => ⟨_, rfl, iteF ?_⟩⟩
      have s5 := (s2.trans s3).trans s4
      refine ⟨_, rfl, _, _, rfl, rfl, _, rfl, ?_⟩
      by_cases hi0 : 0 < i
      · rw [decide_eq_true (by omega)]
        have hi1 : i - 1 < ties.length := by omega
        have hz1 : ties[i - 1]? = some ties[i - 1] := List.getElem?_eq_getElem hi1
        obtain ⟨y, hy, t3, rfl, ht3⟩ := paired_get2 (paired_mono mono_pi s5.keep hp) hz1
        refine iteT ⟨_, rfl, _, rfl, _, rfl, _, _, rfl, rfl, t, xs, _, _, rfl, rfl, .of (s5.keep.tup ht), at_of (j := i - 1) (by omega) hy, ?_⟩
        refine ⟨t2, t3, [z.1, z.2], [ties[i - 1].1, ties[i - 1].2], rfl, rfl, .of (s4.keep.tup ht2), .of ht3, _, rfl, ?_⟩
        rw [le_pairs]
        have hlt : lxLt (ties[i - 1].1, ties[i - 1].2) (z.1, z.2) := by
          have hzi : i < ties.length := (List.getElem?_eq_some_iff.mp hz).1
          have hze : ties[i] = z := (List.getElem?_eq_some_iff.mp hz).2
          have := (List.pairwise_iff_getElem.mp ok.asc) (i - 1) i hi1 hzi (by omega)
          rw [hze] at this
          exact this
        rw [decide_eq_false (fun h => h hlt)]
        exact iteF ⟨s5, _, _, rfl⟩
      · rw [decide_eq_false (by omega)]
        exact iteF (iteF ⟨s5, _, _, rfl⟩)
    · rintro σ H2 ⟨s2, a, b, rfl⟩
      refine ⟨_, rfl, .ref t, ties, 0, none, rng n, rfl, ⟨t, xs, rfl, s2.keep.tup ht, paired_mono mono_pi s2.keep hp⟩, by omega, ok.shut, rng_mem.mpr ⟨by omega, by omega⟩, by rw [rng_len]; omega, fun H3 v' ns s3 hrow hup hnd hmem => ?_⟩
      obtain ⟨t4, rfl, ht4⟩ := hrow
      refine ⟨_, _, rfl, .inr (.of ht4), _, rfl, _, _, rfl, rfl, _, rfl, ?_⟩
      have hge : n ≤ ns.length := by
        have := nodup_len (V := ns) (rng_nodup n) fun v hv => by
          obtain ⟨c1, c2⟩ := rng_mem.mp hv
          exact (hmem v).mpr (ok.all v c1 c2)
        rwa [rng_len] at this
      rw [decide_eq_false (by rw [List.length_map]; omega)]
      exact iteF (q _ (s2.trans s3))
def spInitTree (cT : Addr) : Sp := fun vs H Q _ => ∃ (x dx : Addr) (v : V) (ties : List (Int × Int)) (n : Nat), vs = [.ref x, v] ∧ H x = some (.ins cT dx []) ∧ rTup rPI H v ties ∧ TiesOk ties n ∧
  ∀ H', (∀ b o, b ≠ x → H b = some o → H' b = some o) → rTree cT H' (.ref x) ties → Q .non H'
theorem ok_Tree (T : Tx K mg cT cS) {f : Addr} {fd : FuncData} (d : DC K mg "Tree" "Tree.__init__" s_Tree ["self", "ties"] ["ties", "posts"] cT f fd) : FnOk P w K mg base CX0 5 f fd ["self", "ties"] (spInitTree cT) := by
  obtain ⟨f1, fd1, d1⟩ := T.d_check_ties
  have G1 : FnOk P w K mg base CX0 4 f1 fd1 ["ties"] spCheckTies := ok_check_ties T d1
  have nP : NoAttr K cT "posts" := d.na _ (by simp)
  have nT : NoAttr K cT "ties" := d.na _ (by simp)
  refine d.F.ok sc_Tree (fun vs H Q E h => ?_) (fun cdv A outer s H vs Q E hr h => ?_)
  · obtain ⟨x, dx, v, ties, n, rfl, _⟩ := h
    rfl
  · obtain ⟨x, dx, v, ties, n, rfl, hx, hties, ok, q⟩ := h
    refine ⟨_, pss_cons (ps_expr (pe_call G1 hr rfl d1.m d1.F.kp d1.b .nil pass0 (pa_cons (pv 1) pa_nil)))
      (pss_cons (ps_fld (pv 0) (pv 1) rfl) (pss_one (ps_fld (pv 0) (pe_op op_add (pe_callB call_len_seq (by rfl) T.b_len PySem.boot_len (pa_cons (pv 1) pa_nil)) pe_int) rfl))), ?_⟩
    refine ⟨_, rfl, v, ties, n, rfl, hties, ok, fun H2 s2 => ?_⟩
    obtain ⟨t, xs, rfl, ht, hp⟩ := mono_tup mono_pi _ _ _ _ s2.keep hties
    have hx2 := s2.keep.ins hx
    refine ⟨_, rfl, _, rfl, x, cT, dx, [], rfl, hx2, d.cl, nT, by show 0 < 1000; decide, ?_⟩
    have htx : t ≠ x := ne_of ht hx2 (fun z => nomatch z)
    have ht3 : (upd H2 x (.ins cT dx (putF "ties" (.ref t) []))) t = some (.tup xs) := by rw [upd_ne htx]; exact ht
    refine ⟨_, rfl, _, _, rfl, .inr (.of ht3), _, _, rfl, rfl, _, rfl, x, cT, dx, _, rfl, upd_same, d.cl, nP, by show 1 < 1000; decide, ?_⟩
    rw [upd_upd]
    refine q _ (fun b o hb e => by rw [upd_ne hb]; exact s2 b o e) ⟨x, dx, t, xs, rfl, ?_, by rw [upd_ne htx]; exact ht, ?_⟩
    · rw [upd_same, paired_len hp]
      rfl
    · have k : Keep H2 (upd H2 x (.ins cT dx (tfs t ((ties.length : Int) + 1)))) → True := fun _ => trivial
      refine Paired.mapP hp fun a b ⟨t2, e, h2⟩ => ⟨t2, e, ?_⟩
      rw [upd_ne (ne_of h2 hx2 (fun z => nomatch z))]
      exact h2
end
end S4

namespace S4
open PySem L2 TT MM
/-! ### sheets -/
structure SD where
  p : Int
  ties : List (Int × Int)
  holds : List Int
  wants : List (List (List Int))
abbrev rWants : Rp (List (List (List Int))) := rTup (rTup rRow)
structure CountsOk (holds : List Int) (n : Nat) : Prop where
  len : holds.length = n
  b : ∀ h ∈ holds, 0 ≤ h ∧ h < 9
  s : holds.sum ≤ 60
structure WantsOk (p : Int) (wd : Int) (n : Nat) (wants : List (List (List Int))) : Prop where
  len : wants.length = n
  b : ∀ rows ∈ wants, rows.length ≤ 8 ∧ ∀ r ∈ rows, isRow r p wd
  s : (wants.map List.length).sum ≤ 60
structure SheetOk (S : SD) (n : Nat) : Prop where
  ties : TiesOk S.ties n
  clock : NoDiv S.p
  holds : CountsOk S.holds n
  wants : WantsOk S.p S.holds.sum n S.wants
theorem sum_lens : ∀ l : List (List (List Int)), (l.map fun r => ((r.length : Nat) : Int)).sum = (((l.map List.length).sum : Nat) : Int)
  | [] => rfl
  | a :: l => by
    rw [List.map_cons, List.map_cons, List.sum_cons, List.sum_cons, sum_lens l]
    omega
theorem mono_wants : Mono rWants := mono_tup (mono_tup mono_row)
section
variable {P : Program} {w : World} {K : PySem.W.Frag} {mg : Str → Option Value} {base : Heap} {cT cS : Addr}
def spAreCounts (cT : Addr) : Sp := fun vs H Q _ => ∃ (u v : V) (ties : List (Int × Int)) (holds : List Int) (n : Nat), vs = [u, v] ∧ rTree cT H u ties ∧ ties.length + 1 = n ∧ n ≤ 24 ∧ rRow H v holds ∧ CountsOk holds n ∧ ∀ H', Same H H' → Q (.bl true) H'
theorem ok_are_counts (T : Tx K mg cT cS) {f : Addr} {fd : FuncData} (d : D K mg "are_counts" s_are_counts ["tree", "thing"] f fd) : FnOk P w K mg base CX0 3 f fd ["tree", "thing"] (spAreCounts cT) := by
  obtain ⟨f1, fd1, d1⟩ := T.d_is_below
  have G1 : FnOk P w K mg base CX0 2 f1 fd1 ["thing", "end"] spIsBelow := ok_is_below T d1
  obtain ⟨fT, fdT, kT⟩ := T.k_Tree
  have nP : NoAttr K cT "posts" := kT.na _ (by simp)
  obtain ⟨tk1, hM1⟩ := T.c_MOST_AT_POST
  obtain ⟨tk2, hM2⟩ := T.c_MOST_IN_ALL
  refine d.F.ok sc_are_counts (fun vs H Q E h => ?_) (fun cdv A outer s H vs Q E hr h => ?_)
  · obtain ⟨u, v, ties, holds, n, rfl, _⟩ := h
    rfl
  · obtain ⟨u, v, ties, holds, n, rfl, ⟨tr, dx, t, xs, rfl, hI, ht, hp⟩, hn, hn24, ⟨th, rfl, hh⟩, ok, q⟩ := h
    refine ⟨_, pss_cons (ps_if (PW.pt (pw_or (pt_not (pt_val (pe_callB call_isi (by rfl) T.b_isinstance (by decide +kernel) (pa_cons (pv 1) (pa_cons (ty_tuple T.b_tuple) pa_nil)))))
        (pw_or1 (pt_cmpR op_ne (pe_callB call_len_seq (by rfl) T.b_len PySem.boot_len (pa_cons (pv 1) pa_nil)) (pe_fld (pv 0) rfl) (nomark _))))) (pss_one (ps_ret pe_bl)) pss_nil)
      (pss_cons (ps_if (pt_not (pt_val (pe_callB (cr_all rfl) (by rfl) T.b_all (by decide +kernel) (pa_cons
        (pe_lc (own := [("count", 2)]) (g := gName 2) (tt := tYes) rfl sc_are_counts.nd (pi_tup (pv 1)) (blkOk_by (N := N_are_counts) (sc := defScope s_are_counts) (by decide +kernel)) (fun _ _ _ _ _ => pg_name (i := 2) sc_are_counts.nd rfl (Or.inl rfl)) (fun _ _ _ _ _ => pts_nil)
          (fun _ _ _ _ _ => pe_call G1 hr rfl d1.m d1.F.kp d1.b .nil pass0 (pa_cons (pv 2) (pa_cons (pe_op op_add (pe_glob (v := .int 8) rfl hM1 ⟨_, rfl⟩) pe_int) pa_nil)))) pa_nil)))) (pss_one (ps_ret pe_bl)) pss_nil)
      (pss_one (ps_ret (pe_cmpR op_le (pe_callB (cr_sumT rfl) (by rfl) T.b_sum (by decide +kernel) (pa_cons (pv 1) pa_nil)) (pe_glob (v := .int 60) rfl hM2 ⟨_, rfl⟩) (nomark _))))), ?_⟩
    have hl := ok.len
    refine ⟨_, rfl, _, _, _, _, _, rfl, .ty _, .base (.tup hh), kit_tt, _, rfl, iteF ?_⟩
    refine ⟨_, rfl, _, _, rfl, .inr (.of hh), _, rfl, tr, cT, dx, _, _, rfl, hI, kT.cl, nP, tfs_posts _ _, rfl, _, rfl, ?_⟩
    have e1 : V.int (((holds.map V.int).length : Nat) : Int) = V.int ((ties.length : Int) + 1) := by rw [List.length_map]; congr 1; omega
    rw [e1, decide_eq_true rfl]
    refine iteF ⟨_, rfl, th, rfl, ⟨_, .of hh⟩, fun D hD => ?_⟩
    refine lc_fm (walk_tup (xs := holds.map V.int)) rBl (fun _ => some true) hD (fun H' s' => .of (s'.keep.tup hh)) ?_ ?_
    · rintro i x H2 H3 hi pv ⟨rfl, hx⟩
      obtain ⟨k, hk, rfl⟩ := at_int hx
      rw [List.length_map] at hi
      obtain ⟨g1, g2⟩ := ok.b k (List.mem_of_getElem? hk)
      refine ⟨rfl, _, rfl, _, _, rfl, rfl, k, _, rfl, ?_⟩
      rw [decide_eq_true ⟨g1, by omega⟩]
      exact fm_keep mono_bl pv hD (by omega) (Same.refl _) rfl rfl
    · intro H2 ys s2 hD2 hp2
      have := paired_bl hp2
      subst this
      refine ⟨_, _, rfl, .of hD2, _, rfl, ?_⟩
      rw [all_true_fm rfl]
      refine iteF ⟨_, rfl, th, holds, rfl, .of (s2.keep.tup hh), _, _, rfl, rfl, ?_⟩
      show Q (V.bl (decide (holds.sum ≤ 60))) H2
      rw [decide_eq_true ok.s]
      exact q _ s2
def spCheckWants (cT : Addr) : Sp := fun vs H Q _ => ∃ (u v : V) (p wd : Int) (ties : List (Int × Int)) (wants : List (List (List Int))) (n : Nat), vs = [.int p, u, .int wd, v] ∧ rTree cT H u ties ∧ ties.length + 1 = n ∧ n ≤ 24 ∧ rWants H v wants ∧
  WantsOk p wd n wants ∧ wd ≤ 60 ∧ ∀ H', Same H H' → Q .non H'
theorem row_small {l : List Int} {p wd : Int} (h : isRow l p wd) (hw : wd ≤ 60) : l.length ≤ 100000 := by
  have := h.1
  omega
end
end S4

namespace S4
open PySem L2 TT MM
def sfs (p : Int) (tr th tw : Addr) (m : Int) : List (Str × V) := putF "numbers" (.int m) (putF "wants" (.ref tw) (putF "holds" (.ref th) (putF "tree" (.ref tr) (putF "p" (.int p) []))))
section
variable {p m : Int} {tr th tw : Addr}
theorem sfs_p : (sfs p tr th tw m).lookup ("p" : Str) = some (.int p) := by
  unfold sfs
  rw [lookup_putF, if_neg (by decide +kernel), lookup_putF, if_neg (by decide +kernel), lookup_putF, if_neg (by decide +kernel), lookup_putF, if_neg (by decide +kernel), lookup_putF, if_pos rfl]
theorem sfs_tree : (sfs p tr th tw m).lookup ("tree" : Str) = some (.ref tr) := by
  unfold sfs
  rw [lookup_putF, if_neg (by decide +kernel), lookup_putF, if_neg (by decide +kernel), lookup_putF, if_neg (by decide +kernel), lookup_putF, if_pos rfl]
theorem sfs_holds : (sfs p tr th tw m).lookup ("holds" : Str) = some (.ref th) := by
  unfold sfs
  rw [lookup_putF, if_neg (by decide +kernel), lookup_putF, if_neg (by decide +kernel), lookup_putF, if_pos rfl]
theorem sfs_wants : (sfs p tr th tw m).lookup ("wants" : Str) = some (.ref tw) := by
  unfold sfs
  rw [lookup_putF, if_neg (by decide +kernel), lookup_putF, if_pos rfl]
theorem sfs_numbers : (sfs p tr th tw m).lookup ("numbers" : Str) = some (.int m) := by
  unfold sfs
  rw [lookup_putF, if_pos rfl]
end
/-- a sheet in the heap -/
def rSheet (cT cS : Addr) : Rp SD := fun H v S => ∃ a dx tr th tw, v = .ref a ∧ H a = some (.ins cS dx (sfs S.p tr th tw S.holds.sum)) ∧ rTree cT H (.ref tr) S.ties ∧ rRow H (.ref th) S.holds ∧ rWants H (.ref tw) S.wants
theorem mono_sheet (cT cS : Addr) : Mono (rSheet cT cS) := fun _ _ _ _ k ⟨a, dx, tr, th, tw, e, h1, h2, h3, h4⟩ => ⟨a, dx, tr, th, tw, e, k.ins h1, mono_tree cT _ _ _ _ k h2, mono_row _ _ _ _ k h3, mono_wants _ _ _ _ k h4⟩
/-- carried over a change of one instance -/
theorem keep_at {H H' : Hp} {x : Addr} {C dx : Addr} {fs : List (Str × V)} (hx : H x = some (.ins C dx fs)) (k : ∀ b o, b ≠ x → H b = some o → H' b = some o) {t : Addr} {xs : List V} (h : H t = some (.tup xs)) : H' t = some (.tup xs) := k t _ (ne_of h hx (fun z => nomatch z)) h
section
variable {H H' : Hp} {x : Addr} (kt : ∀ t xs, H t = some (.tup xs) → H' t = some (.tup xs))
include kt
theorem row_kt {v : V} {l : List Int} (h : rRow H v l) : rRow H' v l := let ⟨t, e, h1⟩ := h; ⟨t, e, kt _ _ h1⟩
theorem pi_kt {v : V} {l : Int × Int} (h : rPI H v l) : rPI H' v l := let ⟨t, e, h1⟩ := h; ⟨t, e, kt _ _ h1⟩
theorem rows_kt {v : V} {l : List (List Int)} (h : rTup rRow H v l) : rTup rRow H' v l := let ⟨t, xs, e, h1, h2⟩ := h; ⟨t, xs, e, kt _ _ h1, Paired.mapP h2 fun _ _ q => row_kt kt q⟩
theorem wants_kt {v : V} {l : List (List (List Int))} (h : rWants H v l) : rWants H' v l := let ⟨t, xs, e, h1, h2⟩ := h; ⟨t, xs, e, kt _ _ h1, Paired.mapP h2 fun _ _ q => rows_kt kt q⟩
theorem tree_kt {cT : Addr} {v : V} {l : List (Int × Int)} (h : rTree cT H v l) (ki : ∀ a dx fs, v = .ref a → H a = some (.ins cT dx fs) → H' a = some (.ins cT dx fs)) : rTree cT H' v l :=
  let ⟨a, dx, t, xs, e, h1, h2, h3⟩ := h
  ⟨a, dx, t, xs, e, ki _ _ _ e h1, kt _ _ h2, Paired.mapP h3 fun _ _ q => pi_kt kt q⟩
end
section
variable {P : Program} {w : World} {K : PySem.W.Frag} {mg : Str → Option Value} {base : Heap} {cT cS : Addr}
def spInitSheet (cT cS : Addr) : Sp := fun vs H Q _ => ∃ (x dx : Addr) (u v1 v2 : V) (S : SD) (n : Nat), vs = [.ref x, .int S.p, u, v1, v2] ∧ H x = some (.ins cS dx []) ∧ rTree cT H u S.ties ∧ u ≠ .ref x ∧ rRow H v1 S.holds ∧ rWants H v2 S.wants ∧ SheetOk S n ∧
  ∀ H', (∀ b o, b ≠ x → H b = some o → H' b = some o) → rSheet cT cS H' (.ref x) S → Q .non H'
end
end S4

namespace S4
open PySem L2 TT MM
/-! ### numbers held, wants beyond -/
def heldL (holds : List Int) (post : Int) : List Int := (List.range (holds.getD post.toNat 0).toNat).map fun (i : Nat) => (holds.take post.toNat).sum + (i : Int)
def numsL (holds : List Int) (posts : List Int) : List Int := posts.flatMap (heldL holds)
def farL (wants : List (List (List Int))) (posts : List Int) : List (Int × Int) := posts.flatMap fun post => (List.range (wants.getD post.toNat []).length).map fun (k : Nat) => (post, (k : Int))
def cutL (r l : List Int) : List Int := l.map fun i => r.getD i.toNat 0
def blockL (S : SD) (near far : List Int) : List (List Int) := (farL S.wants far).map fun z => cutL ((S.wants.getD z.1.toNat []).getD z.2.toNat []) (numsL S.holds near)
section
variable {P : Program} {w : World} {K : PySem.W.Frag} {mg : Str → Option Value} {base : Heap} {cT cS : Addr}
theorem take_sum_le {holds : List Int} {n : Nat} (ok : CountsOk holds n) (k : Nat) : 0 ≤ (holds.take k).sum ∧ (holds.take k).sum + (holds.getD k 0) ≤ 60 ∧ 0 ≤ holds.getD k 0 := by
  have hs : ∀ l : List Int, (∀ x ∈ l, 0 ≤ x) → 0 ≤ l.sum := by
    intro l
    induction l with
    | nil => intro _; simp
    | cons a l ih => intro h; rw [List.sum_cons]; have := ih fun x hx => h x (by simp [hx]); have := h a (by simp); omega
  have h1 : 0 ≤ (holds.take k).sum := hs _ fun x hx => (ok.b x (List.mem_of_mem_take hx)).1
  have h2 : 0 ≤ (holds.drop (k + 1)).sum := hs _ fun x hx => (ok.b x (List.mem_of_mem_drop hx)).1
  have e : holds.sum = (holds.take k).sum + (holds.drop k).sum := by rw [← List.sum_append, List.take_append_drop]
  by_cases hk : k < holds.length
  · have e2 : holds.drop k = holds[k] :: holds.drop (k + 1) := List.drop_eq_getElem_cons hk
    have e3 : holds.getD k 0 = holds[k] := by rw [List.getD_eq_getElem?_getD, List.getElem?_eq_getElem hk]; rfl
    rw [e2, List.sum_cons] at e
    have := ok.s
    have := (ok.b _ (List.getElem_mem hk)).1
    rw [e3]
    omega
  · have e3 : holds.getD k 0 = 0 := by rw [List.getD_eq_getElem?_getD, List.getElem?_eq_none (by omega)]; rfl
    have := ok.s
    rw [List.take_of_length_le (by omega)]
    rw [List.take_of_length_le (by omega)] at h1
    omega
theorem getD_at {α : Type} {l : List α} {k : Nat} {d x : α} (h : l[k]? = some x) : l.getD k d = x := by rw [List.getD_eq_getElem?_getD, h]; rfl
def spOwn : Sp := fun vs H Q _ => ∃ (v : V) (l : List Int) (post : Int) (n : Nat), vs = [v, .int post] ∧ rRow H v l ∧ n ≤ 24 ∧ CountsOk l n ∧ 0 ≤ post ∧ post < (n : Int) ∧
  ∀ H' v', Same H H' → rRow H' v' (heldL l post) → Q v' H'
def spHeld (cT cS : Addr) : Sp := fun vs H Q _ => ∃ (u : V) (S : SD) (post : Int) (n : Nat), vs = [u, .int post] ∧ rSheet cT cS H u S ∧ TiesOk S.ties n ∧ CountsOk S.holds n ∧ 0 ≤ post ∧ post < (n : Int) ∧
  ∀ H' v', Same H H' → rRow H' v' (heldL S.holds post) → Q v' H'
def spCut : Sp := fun vs H Q _ => ∃ (u v : V) (r l : List Int), vs = [u, v] ∧ rRow H u r ∧ rRow H v l ∧ l.length ≤ 1000 ∧ (∀ i ∈ l, 0 ≤ i ∧ i < (r.length : Int)) ∧ ∀ H' v', Same H H' → rRow H' v' (cutL r l) → Q v' H'
end
end S4

namespace S4
open PySem L2 TT MM
theorem numsL_small {holds : List Int} {n : Nat} (ok : CountsOk holds n) {posts : List Int} (hl : posts.length ≤ 64) : (numsL holds posts).length ≤ 60 * 64 := by
  have h : ∀ l : List Int, (numsL holds l).length ≤ 60 * l.length := by
    intro l
    induction l with
    | nil => simp [numsL]
    | cons a l ih =>
      show (heldL holds a ++ numsL holds l).length ≤ _
      rw [List.length_append, List.length_cons]
      have : (heldL holds a).length ≤ 60 := by
        unfold heldL
        rw [List.length_map, List.length_range]
        have := take_sum_le ok a.toNat
        omega
      omega
  have := h posts
  omega
theorem flat_len {F : Nat → List Int} {i : Nat} {b : Nat} (h : ∀ j, j < i → (F j).length ≤ b) : ((List.range i).flatMap F).length ≤ b * i := by
  induction i with
  | zero => simp
  | succ i ih =>
    rw [List.range_succ, List.flatMap_append, List.length_append, List.flatMap_singleton]
    have := ih fun j hj => h j (by omega)
    have := h i (by omega)
    rw [Nat.mul_succ]
    omega
theorem flat_len' {α : Type} {F : Nat → List α} {i : Nat} {b : Nat} (h : ∀ j, j < i → (F j).length ≤ b) : ((List.range i).flatMap F).length ≤ b * i := by
  induction i with
  | zero => simp
  | succ i ih =>
    rw [List.range_succ, List.flatMap_append, List.length_append, List.flatMap_singleton]
    have := ih fun j hj => h j (by omega)
    have := h i (by omega)
    rw [Nat.mul_succ]
    omega
section
variable {P : Program} {w : World} {K : PySem.W.Frag} {mg : Str → Option Value} {base : Heap} {cT cS : Addr}
structure WayOk (S : SD) (n : Nat) (z : Int × Int) : Prop where
  a0 : 0 ≤ z.1
  b0 : 0 ≤ z.2
  a1 : z.1 < (n : Int)
  b1 : z.2 < (n : Int)
  m : z ∈ S.ties ∨ z.swap ∈ S.ties
def spNear (cT cS : Addr) : Sp := fun vs H Q _ => ∃ (u v : V) (S : SD) (z : Int × Int) (n : Nat), vs = [u, v] ∧ rSheet cT cS H u S ∧ rPI H v z ∧ TiesOk S.ties n ∧ CountsOk S.holds n ∧ WayOk S n z ∧
  ∀ H' v' ns, Same H H' → rRow H' v' (numsL S.holds ns) → Up ns → ns.Nodup → (∀ x, x ∈ ns ↔ Rch S.ties (some z.2) z.1 x) → (∀ x ∈ ns, x ∈ rng n) → Q v' H'
def rPP : Rp (Int × Int) := rPI
def spFar (cT cS : Addr) : Sp := fun vs H Q _ => ∃ (u v : V) (S : SD) (z : Int × Int) (n : Nat), vs = [u, v] ∧ rSheet cT cS H u S ∧ rPI H v z ∧ TiesOk S.ties n ∧ WantsOk S.p S.holds.sum n S.wants ∧ WayOk S n z ∧
  ∀ H' v' ns, Same H H' → rTup rPI H' v' (farL S.wants ns) → Up ns → ns.Nodup → (∀ x, x ∈ ns ↔ Rch S.ties (some z.1) z.2 x) → (∀ x ∈ ns, x ∈ rng n) → Q v' H'
end
end S4

namespace S4
open PySem L2 TT MM
theorem heldL_in {holds : List Int} {n : Nat} (ok : CountsOk holds n) {post i : Int} (h : i ∈ heldL holds post) : 0 ≤ i ∧ i < holds.sum := by
  unfold heldL at h
  obtain ⟨j, hj, rfl⟩ := List.mem_map.mp h
  have hj' := List.mem_range.mp hj
  have hs : ∀ l : List Int, (∀ x ∈ l, 0 ≤ x) → 0 ≤ l.sum := by
    intro l
    induction l with
    | nil => intro _; simp
    | cons a l ih => intro h; rw [List.sum_cons]; have := ih fun x hx => h x (by simp [hx]); have := h a (by simp); omega
  have h1 : 0 ≤ (holds.take post.toNat).sum := hs _ fun x hx => (ok.b x (List.mem_of_mem_take hx)).1
  have h2 : 0 ≤ (holds.drop (post.toNat + 1)).sum := hs _ fun x hx => (ok.b x (List.mem_of_mem_drop hx)).1
  have e : holds.sum = (holds.take post.toNat).sum + (holds.drop post.toNat).sum := by rw [← List.sum_append, List.take_append_drop]
  by_cases hk : post.toNat < holds.length
  · have e2 : holds.drop post.toNat = holds[post.toNat] :: holds.drop (post.toNat + 1) := List.drop_eq_getElem_cons hk
    have e3 : holds.getD post.toNat 0 = holds[post.toNat] := getD_at (List.getElem?_eq_getElem hk)
    rw [e2, List.sum_cons] at e
    rw [e3] at hj'
    omega
  · have e3 : holds.getD post.toNat 0 = 0 := by rw [List.getD_eq_getElem?_getD, List.getElem?_eq_none (by omega)]; rfl
    rw [e3] at hj'
    simp at hj'
theorem numsL_in {holds : List Int} {n : Nat} (ok : CountsOk holds n) {posts : List Int} {i : Int} (h : i ∈ numsL holds posts) : 0 ≤ i ∧ i < holds.sum := by
  obtain ⟨p, _, hp⟩ := List.mem_flatMap.mp h
  exact heldL_in ok hp
theorem farL_in {wants : List (List (List Int))} {posts : List Int} {z : Int × Int} (h : z ∈ farL wants posts) : z.1 ∈ posts ∧ 0 ≤ z.2 ∧ z.2 < ((wants.getD z.1.toNat []).length : Int) := by
  obtain ⟨p, hp, h2⟩ := List.mem_flatMap.mp h
  obtain ⟨k, hk, rfl⟩ := List.mem_map.mp h2
  have := List.mem_range.mp hk
  exact ⟨hp, by simp only; omega, by simp only; omega⟩
/-- how many numbers: nodup posts hold all at most -/
theorem numsL_len {holds : List Int} {n : Nat} (ok : CountsOk holds n) {posts : List Int} (hl : posts.length ≤ 24) (hb : ∀ p ∈ posts, 0 ≤ p ∧ p < (n : Int)) : (numsL holds posts).length ≤ 216 := by
  have h : ∀ l : List Int, (∀ p ∈ l, 0 ≤ p ∧ p < (n : Int)) → (numsL holds l).length ≤ 9 * l.length := by
    intro l
    induction l with
    | nil => intro _; simp [numsL]
    | cons a l ih =>
      intro hb
      show (heldL holds a ++ numsL holds l).length ≤ _
      rw [List.length_append, List.length_cons]
      have := ih fun p hp => hb p (by simp [hp])
      have : (heldL holds a).length ≤ 9 := by
        unfold heldL
        rw [List.length_map, List.length_range]
        have hl := ok.len
        have := hb a (by simp)
        have hx : holds[a.toNat]? = some (holds[a.toNat]'(by omega)) := List.getElem?_eq_getElem (by omega)
        rw [getD_at hx]
        have := ok.b _ (List.getElem_mem (h := by omega) (l := holds) (n := a.toNat))
        omega
      omega
  have := h posts hb
  omega
section
variable {P : Program} {w : World} {K : PySem.W.Frag} {mg : Str → Option Value} {base : Heap} {cT cS : Addr}
def spBlock (cT cS : Addr) : Sp := fun vs H Q _ => ∃ (u v : V) (S : SD) (z : Int × Int) (n : Nat), vs = [u, v] ∧ rSheet cT cS H u S ∧ rPI H v z ∧ SheetOk S n ∧ WayOk S n z ∧
  ∀ H' v' near far, Same H H' → rTup rRow H' v' (blockL S near far) → Up near → near.Nodup → (∀ x, x ∈ near ↔ Rch S.ties (some z.2) z.1 x) → Up far → far.Nodup → (∀ x, x ∈ far ↔ Rch S.ties (some z.1) z.2 x) → Q v' H'
def spNarrow : Sp := fun vs H Q _ => ∃ (a : Addr) (v : V) (xs : List V) (rws : List (List Int)) (l : List Int), vs = [.ref a, v] ∧ H a = some (.lst xs) ∧ Paired (rRow H) xs rws ∧ rws.length ≤ 1000 ∧ rRow H v l ∧ l.length ≤ 1000 ∧ (∀ r ∈ rws, ∀ i ∈ l, 0 ≤ i ∧ i < (r.length : Int)) ∧ ∀ H' v', Same H H' → rTup rRow H' v' (rws.map fun r => cutL r l) → Q v' H'
end
end S4

namespace S4
open PySem L2 TT MM
/-! ### the hand that draws -/
def hl (c : Addr) (i1 i2 i3 i4 : Int) : List V := [.ref c, .int i1, .int i2, .int i3, .int i4]
structure HandW (g c : Addr) (cells : List Int) (i1 i2 i3 i4 : Int) (H : Hp) : Prop where
  h : H g = some (.lst (hl c i1 i2 i3 i4))
  hc : H c = some (.lst (cells.map V.int))
  len : cells.length ≤ 63
  pos : ∀ x ∈ cells, 0 ≤ x
  b1 : 0 ≤ i1 ∧ i1 ≤ (cells.length : Int)
  b2 : 0 ≤ i2
  b3 : 0 ≤ i3 ∧ i3 < 4294967296
  b4 : 0 ≤ i4
def Hand (g c : Addr) (H : Hp) : Prop := ∃ cells i1 i2 i3 i4, HandW g c cells i1 i2 i3 i4 H
theorem HandW.ne {g c : Addr} {cells : List Int} {i1 i2 i3 i4 : Int} {H : Hp} (h : HandW g c cells i1 i2 i3 i4 H) : c ≠ g := ne_of h.hc h.h (fun e => by
  injection e with e
  cases cells with
  | nil => cases e
  | cons a l => rw [List.map_cons] at e; cases e)
theorem Hand.lst {g c : Addr} {H : Hp} (h : Hand g c H) : ∃ ys, H g = some (.lst ys) := let ⟨_, _, _, _, _, w⟩ := h; ⟨_, w.h⟩
theorem Hand.cells {g c : Addr} {H : Hp} (h : Hand g c H) : ∃ ys, H c = some (.lst ys) := let ⟨_, _, _, _, _, w⟩ := h; ⟨_, w.hc⟩
theorem Hand.setD {g c D : Addr} {H : Hp} {o : HO} (h : Hand g c H) (h1 : D ≠ g) (h2 : D ≠ c) : Hand g c (upd H D o) := let ⟨cells, i1, i2, i3, i4, w⟩ := h; ⟨cells, i1, i2, i3, i4, by rw [upd_ne h1.symm]; exact w.h, by rw [upd_ne h2.symm]; exact w.hc, w.len, w.pos, w.b1, w.b2, w.b3, w.b4⟩
theorem Hand.same {g c : Addr} {H H' : Hp} (h : Hand g c H) (s : Same H H') : Hand g c H' := by
  obtain ⟨cells, i1, i2, i3, i4, w⟩ := h
  exact ⟨cells, i1, i2, i3, i4, s _ _ w.h, s _ _ w.hc, w.len, w.pos, w.b1, w.b2, w.b3, w.b4⟩
/-- a list apart from the hand stays apart -/
theorem _root_.TT.But.lst {g : Addr} {H H' : Hp} (k : But g H H') {b : Addr} (hb : b ≠ g) {xs : List V} (h : H b = some (.lst xs)) : H' b = some (.lst xs) := k b _ hb h
theorem Hand.keep {g c : Addr} {H H' : Hp} (h : Hand g c H) (k : But g H H') : Keep H H' := let ⟨_, e⟩ := h.lst; k.keep e
section
variable {P : Program} {w : World} {K : PySem.W.Frag} {mg : Str → Option Value} {base : Heap} {cT cS : Addr}
def spHand (K : PySem.W.Frag) : Sp := fun vs H Q _ => ∃ (a : Addr) (ns : List Int), vs = [.ref a] ∧ SqL K H a (ns.map V.int) ∧ ns.length ≤ 63 ∧ ∀ H' g c, Same H H' → H g = none → Hand g c H' → Q (.ref g) H'
def spDraw : Sp := fun vs H Q _ => ∃ (g c : Addr) (m : Int), vs = [.ref g, .int m] ∧ 0 < m ∧ m < 1073741824 ∧ Hand g c H ∧ ∀ H' n, But g H H' → Hand g c H' → 0 ≤ n → n < m → Q (.int n) H'
theorem mod_b {a m : Int} (h : 0 < m) : 0 ≤ a % m ∧ a % m < m := ⟨Int.emod_nonneg _ (by omega), Int.emod_lt_of_pos _ h⟩
end
end S4

namespace S4
open PySem L2 TT MM
theorem walk_zipT {K : PySem.W.Frag} {a b : Addr} {xs ys : List V} {n : Nat} (hn : n = min xs.length ys.length) : Walk (RZ.ItzT K a b) n (fun H => SqT K H a xs ∧ SqT K H b ys) (YPair (fun i => xs[i]?) (fun i => ys[i]?)) := by
  subst hn
  refine ⟨fun i _ hi q => ?_, fun _ q => ⟨xs, ys, q.1, q.2, by omega⟩, fun i H v H' _ q y => ?_⟩
  · have h1 : i < xs.length := by omega
    have h2 : i < ys.length := by omega
    exact ⟨xs, ys, xs[i], ys[i], q.1, q.2, by simp [h1], by simp [h2]⟩
  · obtain ⟨T, x, z, h1, h2, h3, h4, h5⟩ := y
    exact ⟨T, x, z, h1, h2, h3, h4 xs q.1, h5 ys q.2⟩
/-- two values of the same data, of the same kinds, n deep -/
def Alike (H : Hp) : Nat → V → V → Prop
  | 0, x, y => ∃ k, x = .int k ∧ y = .int k
  | n + 1, x, y => (∃ k, x = .int k ∧ y = .int k) ∨ ∃ a b xs ys, x = .ref a ∧ y = .ref b ∧ ((H a = some (.tup xs) ∧ H b = some (.tup ys)) ∨ (H a = some (.lst xs) ∧ H b = some (.lst ys))) ∧ xs.length ≤ 1000 ∧ Paired (Alike H n) xs ys
theorem alike_same {H H' : Hp} (s : Same H H') : ∀ (n : Nat) {x y : V}, Alike H n x y → Alike H' n x y
  | 0, _, _, h => h
  | n + 1, _, _, h => by
    rcases h with h | ⟨a, b, xs, ys, e1, e2, h, hl, hp⟩
    · exact .inl h
    · refine .inr ⟨a, b, xs, ys, e1, e2, ?_, hl, Paired.mapP hp fun _ _ q => alike_same s n q⟩
      rcases h with ⟨h1, h2⟩ | ⟨h1, h2⟩
      · exact .inl ⟨s _ _ h1, s _ _ h2⟩
      · exact .inr ⟨s _ _ h1, s _ _ h2⟩
section
variable {K : PySem.W.Frag}
theorem kit_lt : PySem.W.kitOne K (.type "list") (.type "tuple") = some false := kit_ty (by decide +kernel)
theorem kit_ll : PySem.W.kitOne K (.type "list") (.type "list") = some true := kit_ty (by decide +kernel)
theorem kit_it : PySem.W.kitOne K (.type "int") (.type "tuple") = some false := kit_ty (by decide +kernel)
theorem kit_il : PySem.W.kitOne K (.type "int") (.type "list") = some false := kit_ty (by decide +kernel)
theorem kitA_t : PySem.W.kitAny K (.type "tuple") [.type "tuple", .type "list"] = some true := by unfold PySem.W.kitAny; rw [kit_tt]
theorem kitA_l : PySem.W.kitAny K (.type "list") [.type "tuple", .type "list"] = some true := by
  unfold PySem.W.kitAny
  rw [kit_lt]
  show PySem.W.kitAny K (.type "list") [.type "list"] = some true
  unfold PySem.W.kitAny
  rw [kit_ll]
theorem kitA_i : PySem.W.kitAny K (.type "int") [.type "tuple", .type "list"] = some false := by
  unfold PySem.W.kitAny
  rw [kit_it]
  show PySem.W.kitAny K (.type "int") [.type "list"] = some false
  unfold PySem.W.kitAny
  rw [kit_il]
  rfl
end
section
variable {P : Program} {w : World} {K : PySem.W.Frag} {mg : Str → Option Value} {base : Heap} {cT cS : Addr}
def spAny : Sp := fun vs H Q _ => ∃ (g c b : Addr) (xs : List V), vs = [.ref g, .ref b] ∧ H b = some (.lst xs) ∧ b ≠ g ∧ 0 < xs.length ∧ xs.length < 1000000 ∧ Hand g c H ∧ ∀ H' (i : Nat) x, But g H H' → Hand g c H' → xs[i]? = some x → Q x H'
end
end S4

/-! rows modulo a number: what they span, the ladder of a room is only one -/
namespace MM
/-- alike modulo p -/
def Cg (p a b : Int) : Prop := p ∣ a - b
theorem Cg.refl {p : Int} (a : Int) : Cg p a a := by unfold Cg; rw [Int.sub_self]; exact Int.dvd_zero p
theorem Cg.of_eq {p a b : Int} (h : a = b) : Cg p a b := h ▸ .refl a
theorem Cg.symm {p a b : Int} (h : Cg p a b) : Cg p b a := by
  obtain ⟨k, hk⟩ := h
  exact ⟨-k, by rw [Int.mul_neg, ← hk]; omega⟩
theorem Cg.trans {p a b c : Int} (h : Cg p a b) (g : Cg p b c) : Cg p a c := by
  obtain ⟨k, hk⟩ := h
  obtain ⟨l, hl⟩ := g
  exact ⟨k + l, by rw [Int.mul_add, ← hk, ← hl]; omega⟩
theorem Cg.add {p a b c d : Int} (h : Cg p a b) (g : Cg p c d) : Cg p (a + c) (b + d) := by
  obtain ⟨k, hk⟩ := h
  obtain ⟨l, hl⟩ := g
  exact ⟨k + l, by rw [Int.mul_add, ← hk, ← hl]; omega⟩
theorem Cg.mul {p a b c d : Int} (h : Cg p a b) (g : Cg p c d) : Cg p (a * c) (b * d) := by
  obtain ⟨k, hk⟩ := h
  obtain ⟨l, hl⟩ := g
  refine ⟨k * c + b * l, ?_⟩
  have e1 : a = b + p * k := by omega
  have e2 : c = d + p * l := by omega
  subst e1 e2
  simp only [Int.mul_add, Int.add_mul]
  have h1 : p * k * d = p * (k * d) := Int.mul_assoc _ _ _
  have h2 : p * k * (p * l) = p * (k * (p * l)) := Int.mul_assoc _ _ _
  have h3 : b * (p * l) = p * (b * l) := by rw [← Int.mul_assoc, Int.mul_comm b p, Int.mul_assoc]
  omega
theorem Cg.neg {p a b : Int} (h : Cg p a b) : Cg p (-a) (-b) := by
  obtain ⟨k, hk⟩ := h
  exact ⟨-k, by rw [Int.mul_neg, ← hk]; omega⟩
theorem Cg.sub {p a b c d : Int} (h : Cg p a b) (g : Cg p c d) : Cg p (a - c) (b - d) := by
  have := h.add g.neg
  rwa [← Int.sub_eq_add_neg, ← Int.sub_eq_add_neg] at this
theorem Cg.mod {p : Int} (a : Int) : Cg p (a % p) a := by
  refine ⟨-(a / p), ?_⟩
  have := Int.mul_ediv_add_emod a p
  rw [Int.mul_neg]
  omega
theorem Cg.eq {p a b : Int} (h : Cg p a b) (a0 : 0 ≤ a) (a1 : a < p) (b0 : 0 ≤ b) (b1 : b < p) : a = b := by
  obtain ⟨k, hk⟩ := h
  have p0 : 0 < p := by omega
  rcases Int.lt_trichotomy k 0 with h | h | h
  · have : p * k ≤ p * (-1) := Int.mul_le_mul_of_nonneg_left (by omega) (by omega)
    omega
  · subst h
    omega
  · have : p * 1 ≤ p * k := Int.mul_le_mul_of_nonneg_left (by omega) (by omega)
    omega
theorem Cg.zero_of {p a : Int} (h : Cg p a 0) (a0 : 0 ≤ a) (a1 : a < p) : a = 0 := h.eq a0 a1 (by omega) (by omega)
/-! ### what rows span -/
abbrev Vc := Nat → Int
inductive Spn (p : Int) (R : Vc → Prop) : Vc → Prop
  | zero {v : Vc} : (∀ x, Cg p (v x) 0) → Spn p R v
  | add {u r v : Vc} (c : Int) : Spn p R u → R r → (∀ x, Cg p (v x) (u x + c * r x)) → Spn p R v
section
variable {p : Int} {R R' : Vc → Prop}
theorem Spn.cg {u v : Vc} (h : Spn p R u) (e : ∀ x, Cg p (v x) (u x)) : Spn p R v := by
  cases h with
  | zero h => exact .zero fun x => (e x).trans (h x)
  | add c hu hr h => exact .add c hu hr fun x => (e x).trans (h x)
theorem Spn.row {r : Vc} (h : R r) : Spn p R r := .add 1 (.zero (v := fun _ => 0) fun _ => .refl 0) h fun x => .of_eq (by omega)
theorem Spn.plus {u w v : Vc} (c : Int) (hu : Spn p R u) (hw : Spn p R w) (e : ∀ x, Cg p (v x) (u x + c * w x)) : Spn p R v := by
  induction hw generalizing v with
  | @zero w h =>
    refine hu.cg fun x => (e x).trans ?_
    have := (Cg.refl (p := p) (u x)).add ((Cg.refl c).mul (h x))
    rwa [Int.mul_zero, Int.add_zero] at this
  | @add w' r w d hw' hr h ih =>
    have h1 : Spn p R (fun x => u x + c * w' x) := ih fun x => .refl _
    refine .add (c * d) h1 hr fun x => (e x).trans ?_
    have := (Cg.refl (p := p) (u x)).add ((Cg.refl c).mul (h x))
    refine this.trans (.of_eq ?_)
    rw [Int.mul_add, ← Int.mul_assoc]
    omega
theorem Spn.sub (hs : ∀ r, R r → Spn p R' r) {v : Vc} (h : Spn p R v) : Spn p R' v := by
  induction h with
  | zero h => exact .zero h
  | add c _ hr h ih => exact .plus c ih (hs _ hr) h
theorem Spn.mono (hs : ∀ r, R r → R' r) {v : Vc} (h : Spn p R v) : Spn p R' v := h.sub fun r hr => .row (hs r hr)
/-- two lots of rows, each in the room of the other -/
def Same2 (p : Int) (R R' : Vc → Prop) : Prop := ∀ v, Spn p R v ↔ Spn p R' v
theorem same2_of (h1 : ∀ r, R r → Spn p R' r) (h2 : ∀ r, R' r → Spn p R r) : Same2 p R R' := fun v => ⟨fun h => h.sub h1, fun h => h.sub h2⟩
/-- what is 0 in the places of all rows is so in all of the room -/
theorem Spn.nought {v : Vc} {x : Nat} (h : Spn p R v) (hr : ∀ r, R r → Cg p (r x) 0) : Cg p (v x) 0 := by
  induction h with
  | zero h => exact h x
  | @add u r v c hu hr' h ih =>
    have := ih.add ((Cg.refl c).mul (hr r hr'))
    rw [Int.mul_zero, Int.add_zero] at this
    exact (h x).trans this
end
/-! ### sums over a list of places -/
def sumP (P : List Nat) (f : Nat → Int) : Int := (P.map f).sum
theorem sumP_cons (i : Nat) (P : List Nat) (f : Nat → Int) : sumP (i :: P) f = f i + sumP P f := by unfold sumP; rw [List.map_cons, List.sum_cons]
theorem sumP_add (P : List Nat) (f g : Nat → Int) : sumP P (fun i => f i + g i) = sumP P f + sumP P g := by
  induction P with
  | nil => rfl
  | cons i P ih => rw [sumP_cons, sumP_cons, sumP_cons, ih]; omega
theorem sumP_mul (P : List Nat) (c : Int) (f : Nat → Int) : sumP P (fun i => c * f i) = c * sumP P f := by
  induction P with
  | nil => show (0 : Int) = c * 0; rw [Int.mul_zero]
  | cons i P ih => rw [sumP_cons, sumP_cons, ih, Int.mul_add]
theorem sumP_cg {p : Int} {P : List Nat} {f g : Nat → Int} (h : ∀ i ∈ P, Cg p (f i) (g i)) : Cg p (sumP P f) (sumP P g) := by
  induction P with
  | nil => exact .refl _
  | cons i P ih =>
    rw [sumP_cons, sumP_cons]
    exact (h i (by simp)).add (ih fun j hj => h j (by simp [hj]))
theorem sumP_zero {p : Int} {P : List Nat} {f : Nat → Int} (h : ∀ i ∈ P, Cg p (f i) 0) : Cg p (sumP P f) 0 := by
  have := sumP_cg (g := fun _ => 0) h
  have e : sumP P (fun _ => 0) = 0 := by
    clear this h
    induction P with
    | nil => rfl
    | cons i P ih => rw [sumP_cons, ih]; rfl
  rwa [e] at this
/-- only one of the places counts -/
theorem sumP_one {p : Int} {P : List Nat} {f : Nat → Int} {k : Nat} (nd : P.Nodup) (hk : k ∈ P) (h : ∀ i ∈ P, i ≠ k → Cg p (f i) 0) : Cg p (sumP P f) (f k) := by
  induction P with
  | nil => cases hk
  | cons i P ih =>
    obtain ⟨n1, n2⟩ := List.nodup_cons.mp nd
    rw [sumP_cons]
    by_cases e : i = k
    · subst e
      have := (Cg.refl (p := p) (f i)).add (sumP_zero (p := p) (P := P) (f := f) fun j hj => h j (by simp [hj]) fun q => n1 (q ▸ hj))
      rwa [Int.add_zero] at this
    · have hk' : k ∈ P := by
        rcases List.mem_cons.mp hk with q | q
        · exact absurd q.symm e
        · exact q
      have := (h i (by simp) e).add (ih n2 hk' fun j hj => h j (by simp [hj]))
      rwa [Int.zero_add] at this
/-! ### ladders -/
/-- rows by their first places -/
structure Lad (p : Int) (P : List Nat) (r : Nat → Vc) : Prop where
  nd : P.Nodup
  one : ∀ i ∈ P, Cg p (r i i) 1
  off : ∀ i ∈ P, ∀ j ∈ P, j ≠ i → Cg p (r i j) 0
  low : ∀ i ∈ P, ∀ x, x < i → Cg p (r i x) 0
def rungs (P : List Nat) (r : Nat → Vc) : Vc → Prop := fun v => ∃ i ∈ P, v = r i
section
variable {p : Int} {P P' : List Nat} {r r' : Nat → Vc}
theorem Lad.self (L : Lad p P r) {k : Nat} (hk : k ∈ P) (x : Nat) : Cg p (sumP P fun i => r k i * r i x) (r k x) := by
  refine (sumP_one L.nd hk fun i hi e => ?_).trans ?_
  · have := (L.off k hk i hi e).mul (Cg.refl (r i x))
    rwa [Int.zero_mul] at this
  · have := (L.one k hk).mul (Cg.refl (r k x))
    rwa [Int.one_mul] at this
/-- a row of the room is told by its values in the first places -/
theorem Lad.coord (L : Lad p P r) {v : Vc} (h : Spn p (rungs P r) v) (x : Nat) : Cg p (v x) (sumP P fun i => v i * r i x) := by
  induction h with
  | @zero v h =>
    refine (h x).trans (sumP_zero fun i hi => ?_).symm
    have := (h i).mul (Cg.refl (r i x))
    rwa [Int.zero_mul] at this
  | @add u w v c hu hw h ih =>
    obtain ⟨k, hk, rfl⟩ := hw
    have h1 : Cg p (sumP P fun i => v i * r i x) (sumP P fun i => u i * r i x + c * (r k i * r i x)) := sumP_cg fun i hi => by
      have := (h i).mul (Cg.refl (p := p) (r i x))
      refine this.trans (.of_eq ?_)
      rw [Int.add_mul, Int.mul_assoc]
    rw [sumP_add, sumP_mul] at h1
    exact (h x).trans (((ih.add ((Cg.refl c).mul (L.self hk x).symm))).trans h1.symm)
theorem Lad.zero (L : Lad p P r) {v : Vc} (h : Spn p (rungs P r) v) (hz : ∀ i ∈ P, Cg p (v i) 0) (x : Nat) : Cg p (v x) 0 := (L.coord h x).trans (sumP_zero fun i hi => by
  have := (hz i hi).mul (Cg.refl (p := p) (r i x))
  rwa [Int.zero_mul] at this)
/-- the first place of a row of the room is one of the first places -/
theorem Lad.lead (L : Lad p P r) {v : Vc} (h : Spn p (rungs P r) v) {x : Nat} (hx : ¬ Cg p (v x) 0) (hl : ∀ y, y < x → Cg p (v y) 0) : x ∈ P := by
  by_cases hm : x ∈ P
  · exact hm
  · exfalso
    refine hx ((L.coord h x).trans (sumP_zero fun i hi => ?_))
    rcases Nat.lt_trichotomy i x with q | q | q
    · have := (hl i q).mul (Cg.refl (p := p) (r i x))
      rwa [Int.zero_mul] at this
    · exact absurd (q ▸ hi) hm
    · have := (Cg.refl (p := p) (v i)).mul (L.low i hi x q)
      rwa [Int.mul_zero] at this
theorem one_ne {p a : Int} (p2 : 2 ≤ p) (h : Cg p a 1) : ¬ Cg p a 0 := fun h0 => by
  have := (h.symm.trans h0).eq (by omega) (by omega) (by omega) (by omega)
  omega
/-- the ladder of a room is only one: the places -/
theorem Lad.places (L : Lad p P r) (L' : Lad p P' r') (p2 : 2 ≤ p) (hs : Same2 p (rungs P r) (rungs P' r')) {i : Nat} (hi : i ∈ P) : i ∈ P' :=
  L'.lead ((hs _).mp (.row ⟨i, hi, rfl⟩)) (one_ne p2 (L.one i hi)) (L.low i hi)
theorem Same2.symm {R R' : Vc → Prop} (h : Same2 p R R') : Same2 p R' R := fun v => (h v).symm
theorem Same2.trans {R R' R2 : Vc → Prop} (h : Same2 p R R') (g : Same2 p R' R2) : Same2 p R R2 := fun v => (h v).trans (g v)
/-- and the rows -/
theorem Lad.rows (L : Lad p P r) (L' : Lad p P' r') (p2 : 2 ≤ p) (hs : Same2 p (rungs P r) (rungs P' r')) {i : Nat} (hi : i ∈ P) (x : Nat) : Cg p (r i x) (r' i x) := by
  have hi' := L.places L' p2 hs hi
  have hc := L'.coord ((hs _).mp (.row ⟨i, hi, rfl⟩)) x
  refine hc.trans ((sumP_one L'.nd hi' fun j hj e => ?_).trans ?_)
  · have hj' := L'.places L p2 hs.symm hj
    have := (L.off i hi j hj' e).mul (Cg.refl (p := p) (r' j x))
    rwa [Int.zero_mul] at this
  · have := (L.one i hi).mul (Cg.refl (p := p) (r' i x))
    rwa [Int.one_mul] at this
/-- one row more: the rest of it, cleared of the ladder, made to begin with 1 -/
theorem Lad.more (L : Lad p P r) {g : Vc} {k : Nat} (hk : k ∉ P) (g1 : Cg p (g k) 1) (g0 : ∀ i ∈ P, Cg p (g i) 0) (gl : ∀ x, x < k → Cg p (g x) 0)
    {q : Nat → Vc} (hq : ∀ x, Cg p (q k x) (g x)) (ho : ∀ i ∈ P, ∀ x, Cg p (q i x) (r i x - r i k * g x)) : Lad p (P ++ [k]) q := by
  have hne : ∀ i ∈ P, i ≠ k := fun i hi e => hk (e ▸ hi)
  have low0 : ∀ i ∈ P, ∀ x, x < i → Cg p (r i k * g x) 0 := fun i hi x hx => by
    by_cases h : x < k
    · have := (Cg.refl (p := p) (r i k)).mul (gl x h)
      rwa [Int.mul_zero] at this
    · have := (L.low i hi k (by omega)).mul (Cg.refl (p := p) (g x))
      rwa [Int.zero_mul] at this
  refine ⟨?_, fun i hi => ?_, fun i hi j hj e => ?_, fun i hi x hx => ?_⟩
  · rw [List.nodup_append]
    exact ⟨L.nd, by simp, fun a ha b hb => by rw [List.mem_singleton.mp hb]; exact hne a ha⟩
  · rcases List.mem_append.mp hi with hi | hi
    · have := (L.one i hi).sub ((Cg.refl (p := p) (r i k)).mul (g0 i hi))
      rw [Int.mul_zero, Int.sub_zero] at this
      exact (ho i hi i).trans this
    · rw [List.mem_singleton.mp hi]
      exact (hq k).trans g1
  · rcases List.mem_append.mp hi with hi | hi
    · rcases List.mem_append.mp hj with hj | hj
      · have := (L.off i hi j hj e).sub ((Cg.refl (p := p) (r i k)).mul (g0 j hj))
        rw [Int.mul_zero, Int.sub_zero] at this
        exact (ho i hi j).trans this
      · rw [List.mem_singleton.mp hj]
        have := (Cg.refl (p := p) (r i k)).sub ((Cg.refl (p := p) (r i k)).mul g1)
        rw [Int.mul_one, Int.sub_self] at this
        exact (ho i hi k).trans this
    · rw [List.mem_singleton.mp hi] at e ⊢
      rcases List.mem_append.mp hj with hj | hj
      · exact (hq j).trans (g0 j hj)
      · exact absurd (List.mem_singleton.mp hj) e
  · rcases List.mem_append.mp hi with hi | hi
    · have := (L.low i hi x hx).sub (low0 i hi x hx)
      rw [Int.sub_zero] at this
      exact (ho i hi x).trans this
    · rw [List.mem_singleton.mp hi] at hx ⊢
      exact (hq x).trans (gl x hx)
theorem Lad.nil (p : Int) (r : Nat → Vc) : Lad p [] r := ⟨.nil, fun _ h => (nomatch h), fun _ h => (nomatch h), fun _ h => (nomatch h)⟩
end
end MM

namespace MM
section
variable {p : Int} {P : List Nat} {r : Nat → Vc}
/-- the room of one row more -/
theorem Lad.moreSpan (L : Lad p P r) {g : Vc} {k : Nat} {q : Nat → Vc} (hq : ∀ x, Cg p (q k x) (g x)) (ho : ∀ i ∈ P, ∀ x, Cg p (q i x) (r i x - r i k * g x)) :
    Same2 p (rungs (P ++ [k]) q) (fun v => rungs P r v ∨ v = g) := by
  refine same2_of (fun v hv => ?_) (fun v hv => ?_)
  · obtain ⟨i, hi, rfl⟩ := hv
    rcases List.mem_append.mp hi with hi | hi
    · refine .plus (-(r i k)) (.row (.inl ⟨i, hi, rfl⟩)) (.row (.inr rfl)) fun x => (ho i hi x).trans (.of_eq ?_)
      rw [Int.neg_mul]
      omega
    · rw [List.mem_singleton.mp hi]
      exact (Spn.row (.inr rfl)).cg hq
  · have hg : Spn p (rungs (P ++ [k]) q) g := (Spn.row ⟨k, by simp, rfl⟩).cg fun x => (hq x).symm
    rcases hv with ⟨i, hi, rfl⟩ | rfl
    · refine .plus (r i k) (.row ⟨i, by simp [hi], rfl⟩) hg fun x => ?_
      have := (ho i hi x).add (Cg.refl (p := p) (r i k * g x))
      refine (this.trans (.of_eq ?_)).symm
      omega
    · exact hg
/-- the same room, with one row more each -/
theorem same2_more {R R' : Vc → Prop} (h : Same2 p R R') {g row rest : Vc} {c d : Int} (hw : Spn p R' (fun x => row x - rest x)) (hg : ∀ x, Cg p (g x) (c * rest x)) (hr : ∀ x, Cg p (rest x) (d * g x)) :
    Same2 p (fun v => R v ∨ v = g) (fun v => R' v ∨ v = row) := by
  have up : ∀ {R : Vc → Prop} {u v : Vc}, Spn p R v → Spn p (fun v => R v ∨ v = u) v := fun h => h.mono fun _ q => .inl q
  refine same2_of (fun v hv => ?_) (fun v hv => ?_)
  · rcases hv with hv | rfl
    · exact up ((h v).mp (.row hv))
    · have h1 : Spn p (fun v => R' v ∨ v = row) rest := .plus (-1) (.row (.inr rfl)) (up hw) fun x => .of_eq (by omega)
      refine .plus c (.zero (v := fun _ => 0) fun _ => .refl 0) h1 fun x => (hg x).trans (.of_eq (by omega))
  · rcases hv with hv | rfl
    · exact up ((h v).mpr (.row hv))
    · have h1 : Spn p (fun v => R v ∨ v = g) rest := .plus d (.zero (v := fun _ => 0) fun _ => .refl 0) (.row (.inr rfl)) fun x => (hr x).trans (.of_eq (by omega))
      exact .plus 1 h1 (up ((h _).mpr hw)) fun x => .of_eq (by omega)
theorem same2_in {R R' : Vc → Prop} (h : Same2 p R R') {row : Vc} (hw : Spn p R' row) : Same2 p R (fun v => R' v ∨ v = row) := by
  refine same2_of (fun v hv => ?_) (fun v hv => ?_)
  · exact ((h v).mp (.row hv)).mono fun _ q => .inl q
  · rcases hv with hv | rfl
    · exact (h v).mpr (.row hv)
    · exact (h _).mpr hw
end
/-! ### the inverse, by the steps of the program -/
/-- what holds of ahead, now, before, factor -/
structure Eu (p v a n b f : Int) : Prop where
  ha : Cg p (b * v) a
  hn : Cg p (f * v) n
  g : Int.gcd a n = 1
  n0 : 0 < n
  na : n ≤ a
  sz : ∃ s t u : Int, (s = 1 ∨ s = -1) ∧ 0 ≤ t ∧ 0 ≤ u ∧ b = -s * t ∧ f = s * u ∧ t * n + u * a = p
theorem Eu.step {p v a n b f : Int} (E : Eu p v a n b f) (h1 : n ≠ 1) : Eu p v n (a - a / n * n) f (b - a / n * f) ∧ a - a / n * n < n := by
  have hn := E.n0
  have hm : a - a / n * n = a % n := by
    have := Int.mul_ediv_add_emod a n
    rw [Int.mul_comm] at this
    omega
  have h0 := Int.emod_nonneg a (by omega : n ≠ 0)
  have hlt := Int.emod_lt_of_pos a hn
  have q0 : 0 ≤ a / n := Int.ediv_nonneg (by have := E.na; omega) (by omega)
  have hg : Int.gcd n (a % n) = 1 := by
    rw [← hm, Int.gcd_sub_mul_right_right, Int.gcd_comm]
    exact E.g
  have hne : a % n ≠ 0 := fun e => by
    rw [e, Int.gcd_zero_right] at hg
    omega
  obtain ⟨s, t, u, hs, ht, hu, hb, hf, he⟩ := E.sz
  refine ⟨⟨E.hn, ?_, by rw [hm]; exact hg, by omega, by omega, ⟨-s, u, t + a / n * u, by omega, hu, ?_, ?_, ?_, ?_⟩⟩, by omega⟩
  · have := E.ha.sub ((Cg.refl (p := p) (a / n)).mul E.hn)
    refine (Cg.of_eq ?_).trans this
    rw [Int.sub_mul, Int.mul_assoc]
  · have := Int.mul_nonneg q0 hu
    omega
  · rw [hf, Int.neg_neg]
  · rw [hb, hf, Int.mul_add, Int.neg_mul, Int.neg_mul]
    have : a / n * (s * u) = s * (a / n * u) := by rw [← Int.mul_assoc, Int.mul_comm (a / n) s, Int.mul_assoc]
    omega
  · rw [← he, Int.mul_sub, Int.add_mul]
    have e1 : u * (a / n * n) = a / n * u * n := by rw [← Int.mul_assoc, Int.mul_comm u (a / n)]
    omega
theorem Eu.start {p v : Int} (v0 : 0 < v) (v1 : v < p) (g : Int.gcd p v = 1) : Eu p v p v 0 1 :=
  ⟨by rw [Int.zero_mul]; exact ⟨-1, by rw [Int.mul_neg, Int.mul_one]; omega⟩, by rw [Int.one_mul]; exact .refl v, g, v0, by omega, 1, 0, 1, .inl rfl, by omega, by omega, by omega, by omega, by omega⟩
theorem Eu.exists {p v : Int} : ∀ (m : Nat) {a n b f : Int}, Eu p v a n b f → n ≤ (m : Int) → ∃ u, Cg p (u * v) 1
  | 0, _, _, _, _, E, h => by have := E.n0; omega
  | m + 1, a, n, b, f, E, h => by
    by_cases h1 : n = 1
    · subst h1
      exact ⟨f, E.hn⟩
    · obtain ⟨E2, hlt⟩ := E.step h1
      exact Eu.exists m E2 (by omega)
/-- bounded throughout -/
theorem Eu.small {p v a n b f : Int} (E : Eu p v a n b f) : -p ≤ b ∧ b ≤ p ∧ -p ≤ f ∧ f ≤ p ∧ a ≤ p ∨ f = 0 := by
  obtain ⟨s, t, u, hs, ht, hu, hb, hf, he⟩ := E.sz
  have hn := E.n0
  have ha := E.na
  have e1 : t ≤ t * n := by
    have := Int.mul_le_mul_of_nonneg_left (show (1 : Int) ≤ n by omega) ht
    rwa [Int.mul_one] at this
  have e2 : u ≤ u * a := by
    have := Int.mul_le_mul_of_nonneg_left (show (1 : Int) ≤ a by omega) hu
    rwa [Int.mul_one] at this
  have f1 : 0 ≤ t * n := Int.mul_nonneg ht (by omega)
  have f2 : 0 ≤ u * a := Int.mul_nonneg hu (by omega)
  by_cases hu0 : u = 0
  · right
    rw [hf, hu0, Int.mul_zero]
  · left
    have e3 : a ≤ u * a := by
      have := Int.mul_le_mul_of_nonneg_right (show (1 : Int) ≤ u by omega) (show 0 ≤ a by omega)
      rwa [Int.one_mul] at this
    rcases hs with rfl | rfl
    · rw [Int.one_mul] at hf
      rw [Int.neg_mul, Int.one_mul] at hb
      exact ⟨by omega, by omega, by omega, by omega, by omega⟩
    · rw [Int.neg_neg, Int.one_mul] at hb
      rw [Int.neg_mul, Int.one_mul] at hf
      exact ⟨by omega, by omega, by omega, by omega, by omega⟩
end MM

namespace MM
/-! ### primes -/
/-- no divisor but 1 and itself, by divisors up to the root -/
def Prm (p : Int) : Prop := 2 ≤ p ∧ ∀ k : Int, 2 ≤ k → k * k ≤ p → p % k ≠ 0
theorem Prm.gcd {p v : Int} (h : Prm p) (v0 : 0 < v) (v1 : v < p) : Int.gcd p v = 1 := by
  obtain ⟨p2, hd⟩ := h
  have g1 : ((Int.gcd p v : Nat) : Int) ∣ p := Int.gcd_dvd_left ..
  have g2 : ((Int.gcd p v : Nat) : Int) ∣ v := Int.gcd_dvd_right ..
  have gle : ((Int.gcd p v : Nat) : Int) ≤ v := Int.le_of_dvd v0 g2
  have g0 : Int.gcd p v ≠ 0 := fun e => by
    rw [e] at g2
    have := Int.zero_dvd.mp g2
    omega
  by_cases h1 : Int.gcd p v = 1
  · exact h1
  · exfalso
    generalize hd' : ((Int.gcd p v : Nat) : Int) = d at *
    have d2 : 2 ≤ d := by omega
    obtain ⟨e, he⟩ := g1
    have e2 : 2 ≤ e := by
      rcases Int.lt_trichotomy e 1 with q | q | q
      · have : d * e ≤ d * 0 := Int.mul_le_mul_of_nonneg_left (by omega) (by omega)
        omega
      · subst q
        omega
      · omega
    rcases Int.le_total d e with q | q
    · refine hd d d2 ?_ ?_
      · rw [he]
        exact Int.mul_le_mul_of_nonneg_left q (by omega)
      · rw [he]
        exact Int.mul_emod_right d e
    · refine hd e e2 ?_ ?_
      · rw [he]
        exact Int.mul_le_mul_of_nonneg_right q (by omega)
      · rw [he]
        exact Int.mul_emod_left d e
theorem Prm.inv {p v : Int} (h : Prm p) (v0 : 0 < v) (v1 : v < p) : ∃ u, Cg p (u * v) 1 :=
  Eu.exists v.toNat (Eu.start v0 v1 (h.gcd v0 v1)) (by omega)
/-- an inverse is only one -/
theorem inv_one {p u w v : Int} (h1 : Cg p (u * v) 1) (h2 : Cg p (w * v) 1) : Cg p u w := by
  have a1 := (h2.mul (Cg.refl (p := p) u))
  rw [Int.one_mul] at a1
  have a2 := (h1.mul (Cg.refl (p := p) w))
  rw [Int.one_mul] at a2
  refine a1.symm.trans ((Cg.of_eq ?_).trans a2)
  rw [Int.mul_assoc, Int.mul_comm v u, Int.mul_comm w]
/-! ### Fermat -/
def prodL : List Int → Int
  | [] => 1
  | a :: l => a * prodL l
theorem prodL_perm {l m : List Int} (h : l.Perm m) : prodL l = prodL m := by
  induction h with
  | nil => rfl
  | cons a _ ih => show a * _ = a * _; rw [ih]
  | swap a b l => show b * (a * _) = a * (b * _); rw [← Int.mul_assoc, ← Int.mul_assoc, Int.mul_comm a b]
  | trans _ _ h1 h2 => rw [h1, h2]
def ones (p : Int) : List Int := (List.range (p - 1).toNat).map fun (i : Nat) => (i : Int) + 1
theorem ones_mem {p x : Int} : x ∈ ones p ↔ 0 < x ∧ x < p := by
  unfold ones
  rw [List.mem_map]
  constructor
  · rintro ⟨i, hi, rfl⟩
    have := List.mem_range.mp hi
    omega
  · rintro ⟨a, b⟩
    exact ⟨(x - 1).toNat, List.mem_range.mpr (by omega), by omega⟩
theorem ones_nodup (p : Int) : (ones p).Nodup := by
  unfold ones
  rw [List.nodup_iff_pairwise_ne, List.pairwise_map]
  exact List.nodup_range.imp fun {a b} h e => h (by omega)
theorem ones_len (p : Int) : (ones p).length = (p - 1).toNat := by simp [ones]
theorem prodL_map {p a : Int} : ∀ l : List Int, Cg p (prodL (l.map fun x => a * x % p)) (a ^ l.length * prodL l)
  | [] => .of_eq (by show (1 : Int) = a ^ 0 * 1; rw [Int.pow_zero]; rfl)
  | x :: l => by
    have h := (Cg.mod (p := p) (a * x)).mul (prodL_map (p := p) (a := a) l)
    refine h.trans (.of_eq ?_)
    show a * x * (a ^ l.length * prodL l) = a ^ (l.length + 1) * (x * prodL l)
    rw [Int.pow_succ, Int.mul_assoc, Int.mul_assoc, ← Int.mul_assoc x, Int.mul_comm x, Int.mul_assoc, ← Int.mul_assoc a, Int.mul_comm a, Int.mul_assoc]
theorem Prm.prod_inv {p : Int} (h : Prm p) : ∀ l : List Int, (∀ x ∈ l, 0 < x ∧ x < p) → ∃ w, Cg p (w * prodL l) 1
  | [], _ => ⟨1, .refl _⟩
  | x :: l, hl => by
    obtain ⟨w, hw⟩ := h.prod_inv l fun y hy => hl y (by simp [hy])
    obtain ⟨x0, x1⟩ := hl x (by simp)
    obtain ⟨u, hu⟩ := h.inv x0 x1
    refine ⟨u * w, ?_⟩
    have := hu.mul hw
    refine (Cg.of_eq ?_).trans this
    show u * w * (x * prodL l) = u * x * (w * prodL l)
    rw [Int.mul_assoc, Int.mul_assoc, ← Int.mul_assoc w, Int.mul_comm w, Int.mul_assoc]
theorem Prm.fermat {p a : Int} (h : Prm p) (a0 : 0 < a) (a1 : a < p) : Cg p (a ^ (p - 1).toNat) 1 := by
  have p2 := h.1
  obtain ⟨u, hu⟩ := h.inv a0 a1
  have cancel : ∀ x : Int, Cg p (u * (a * x)) x := fun x => by
    have := hu.mul (Cg.refl (p := p) x)
    rw [Int.one_mul, Int.mul_assoc] at this
    exact this
  have inR : ∀ x, 0 < x → x < p → 0 < a * x % p ∧ a * x % p < p := fun x x0 x1 => by
    have n0 := Int.emod_nonneg (a * x) (by omega : p ≠ 0)
    have n1 := Int.emod_lt_of_pos (a * x) (by omega : 0 < p)
    refine ⟨?_, n1⟩
    rcases Int.lt_or_eq_of_le n0 with q | q
    · exact q
    · exfalso
      have c0 : Cg p (a * x) 0 := (Cg.mod (a * x)).symm.trans (.of_eq q.symm)
      have := (Cg.refl (p := p) u).mul c0
      rw [Int.mul_zero] at this
      have := ((cancel x).symm.trans this).zero_of (by omega) x1
      omega
  have perm : ((ones p).map fun x => a * x % p).Perm (ones p) := by
    refine (List.perm_ext_iff_of_nodup ?_ (ones_nodup p)).mpr fun y => ?_
    · rw [List.nodup_iff_pairwise_ne, List.pairwise_map]
      refine List.Pairwise.imp_of_mem (fun {x y} hx hy hne e => ?_) (ones_nodup p)
      obtain ⟨x0, x1⟩ := ones_mem.mp hx
      obtain ⟨y0, y1⟩ := ones_mem.mp hy
      have c : Cg p (a * x) (a * y) := (Cg.mod (a * x)).symm.trans ((Cg.of_eq e).trans (Cg.mod (a * y)))
      have := (Cg.refl (p := p) u).mul c
      exact hne (((cancel x).symm.trans (this.trans (cancel y))).eq (by omega) x1 (by omega) y1)
    · rw [ones_mem, List.mem_map]
      constructor
      · rintro ⟨x, hx, rfl⟩
        obtain ⟨x0, x1⟩ := ones_mem.mp hx
        exact inR x x0 x1
      · rintro ⟨y0, y1⟩
        have m0 := Int.emod_nonneg (u * y) (by omega : p ≠ 0)
        have m1 := Int.emod_lt_of_pos (u * y) (by omega : 0 < p)
        have c1 : Cg p (a * (u * y % p)) y := by
          have := (Cg.refl (p := p) a).mul (Cg.mod (p := p) (u * y))
          refine this.trans ?_
          refine (Cg.of_eq ?_).trans (cancel y)
          rw [← Int.mul_assoc, Int.mul_comm a u, Int.mul_assoc]
        have e1 : a * (u * y % p) % p = y := ((Cg.mod _).trans c1).eq (Int.emod_nonneg _ (by omega)) (Int.emod_lt_of_pos _ (by omega)) (by omega) y1
        refine ⟨u * y % p, ones_mem.mpr ⟨?_, m1⟩, e1⟩
        rcases Int.lt_or_eq_of_le m0 with q | q
        · exact q
        · exfalso
          rw [← q, Int.mul_zero, Int.zero_emod] at e1
          omega
  have h1 := prodL_map (p := p) (a := a) (ones p)
  rw [prodL_perm perm, ones_len] at h1
  obtain ⟨w, hw⟩ := h.prod_inv (ones p) fun x hx => ones_mem.mp hx
  have h2 := (Cg.refl (p := p) w).mul h1
  have h3 : Cg p (w * (a ^ (p - 1).toNat * prodL (ones p))) (a ^ (p - 1).toNat) := by
    have := (Cg.refl (p := p) (a ^ (p - 1).toNat)).mul hw
    rw [Int.mul_one] at this
    refine (Cg.of_eq ?_).trans this
    rw [← Int.mul_assoc, Int.mul_comm w, Int.mul_assoc]
  exact h3.symm.trans (h2.symm.trans hw)
/-- the power that the check takes is the inverse -/
theorem Prm.turn {p a : Int} (h : Prm p) (a0 : 0 < a) (a1 : a < p) : Cg p (a ^ (p - 2).toNat * a) 1 := by
  have p2 := h.1
  have e : (p - 1).toNat = (p - 2).toNat + 1 := by omega
  have := h.fermat a0 a1
  rw [e, Int.pow_succ] at this
  exact this
end MM

namespace S4
open PySem L2 TT MM
theorem twice {Y G : Prop} (h : Y → G) (y : Y) : G := h y
theorem hu64 {k : Nat} {A : Around} (r : Room k A) : A.units + 64 < cLine := by have := r.un; omega
theorem paired_take {α β : Type} {F : α → β → Prop} : ∀ {xs : List α} {l : List β} (k : Nat), Paired F xs l → Paired F (xs.take k) (l.take k)
  | _, _, 0, _ => .nil
  | _, _, k + 1, .nil => .nil
  | _, _, k + 1, .cons r t => .cons r (paired_take k t)
end S4

namespace S4
open PySem L2 TT MM
section
variable {P : Program} {w : World} {K : PySem.W.Frag} {mg : Str → Option Value} {base : Heap} {cT cS : Addr}
def spInverse : Sp := fun vs H Q _ => ∃ (p v : Int), vs = [.int p, .int v] ∧ p ≤ 1000000 ∧ 0 < v ∧ v < p ∧ Int.gcd p v = 1 ∧ ∀ u, 0 ≤ u → u < p → Cg p (u * v) 1 → ∀ H', Same H H' → Q (.int u) H'
def spFirst : Sp := fun vs H Q _ => ∃ (v : V) (l : List Int) (wd : Nat), vs = [v, .int (wd : Int)] ∧ rRow H v l ∧ wd ≤ l.length ∧ wd ≤ 100000 ∧
  ((∀ x, x < wd → l.getD x 0 = 0) → Q .non H) ∧ (∀ k, k < wd → l.getD k 0 ≠ 0 → (∀ x, x < k → l.getD x 0 = 0) → Q (.int (k : Nat)) H)
end
end S4

namespace S4
open PySem L2 TT MM
/-- a row less so many times another -/
def lessL (p : Int) (l r : List Int) (m : Int) : List Int := (List.range l.length).map fun (i : Nat) => (l.getD i 0 - m * r.getD i 0) % p
def mulL (p f : Int) (l : List Int) : List Int := l.map fun x => f * x % p
abbrev RG := List (Nat × List Int)
def clr1 (p : Int) (l : List Int) (z : Nat × List Int) : List Int := if l.getD z.1 0 = 0 then l else lessL p l z.2 (l.getD z.1 0)
def clr (p : Int) (rs : RG) (l : List Int) : List Int := rs.foldl (clr1 p) l
theorem lessL_len (p : Int) (l r : List Int) (m : Int) : (lessL p l r m).length = l.length := by unfold lessL; rw [List.length_map, List.length_range]
theorem clr1_len (p : Int) (l : List Int) (z : Nat × List Int) : (clr1 p l z).length = l.length := by
  unfold clr1
  split
  · rfl
  · exact lessL_len _ _ _ _
theorem clr_len (p : Int) (rs : RG) : ∀ l : List Int, (clr p rs l).length = l.length := by
  induction rs with
  | nil => intro l; rfl
  | cons z rs ih => intro l; show (clr p rs (clr1 p l z)).length = _; rw [ih, clr1_len]
def InB (p : Int) (l : List Int) : Prop := ∀ x ∈ l, 0 ≤ x ∧ x < p
theorem lessL_in {p : Int} (p0 : 0 < p) (l r : List Int) (m : Int) : InB p (lessL p l r m) := fun x hx => by
  obtain ⟨i, _, rfl⟩ := List.mem_map.mp hx
  exact mod_b p0
theorem clr1_in {p : Int} (p0 : 0 < p) {l : List Int} (h : InB p l) (z : Nat × List Int) : InB p (clr1 p l z) := by
  unfold clr1
  split
  · exact h
  · exact lessL_in p0 _ _ _
theorem clr_in {p : Int} (p0 : 0 < p) (rs : RG) : ∀ {l : List Int}, InB p l → InB p (clr p rs l) := by
  induction rs with
  | nil => intro l h; exact h
  | cons z rs ih => intro l h; exact ih (clr1_in p0 h z)
theorem getD_in {p : Int} (p0 : 0 < p) {l : List Int} (h : InB p l) (i : Nat) : 0 ≤ l.getD i 0 ∧ l.getD i 0 < p := by
  rw [List.getD_eq_getElem?_getD]
  cases e : l[i]? with
  | none => exact ⟨Int.le_refl _, p0⟩
  | some x => exact h x (List.mem_of_getElem? e)
/-- a dict of rows by places, in the heap -/
def kvR (H : Hp) : (L2.Key × V) → (Nat × List Int) → Prop := fun kv z => kv.1 = Sum.inl ((z.1 : Nat) : Int) ∧ rRow H kv.2 z.2
def rDict (H : Hp) (u : HO) (rs : RG) : Prop := ∃ kvs, u = .dK kvs ∧ Paired (kvR H) kvs rs
theorem kvR_mono {H H' : Hp} (k : ∀ t xs, H t = some (.tup xs) → H' t = some (.tup xs)) {kvs : List (L2.Key × V)} {rs : RG} (h : Paired (kvR H) kvs rs) : Paired (kvR H') kvs rs :=
  Paired.mapP h fun _ _ ⟨e, t, e2, h2⟩ => ⟨e, t, e2, k _ _ h2⟩
theorem val_at : ∀ {kvs : List (L2.Key × V)} {rs : RG} {H : Hp} {i : Nat} {k : L2.Key} {v : V}, Paired (kvR H) kvs rs → (rs.map (·.1)).Nodup → kvs[i]? = some (k, v) → valV kvs k = some v
  | _, _, _, i, k, v, .nil, _, h => by simp at h
  | _, _, _, 0, k, v, .cons r t, nd, h => by
    have h := Option.some.inj h
    subst h
    exact valV_pos rfl
  | (k0, v0) :: kvs, z :: rs, H, i + 1, k, v, .cons r t, nd, h => by
    obtain ⟨n1, n2⟩ := List.nodup_cons.mp nd
    have h' : kvs[i]? = some (k, v) := h
    have ih := val_at t n2 h'
    obtain ⟨y, hy, hr⟩ := paired_get t h'
    have hne : ¬ k0 = k := fun e => by
      have e1 := r.1
      have e2 := hr.1
      simp only at e1 e2
      rw [e, e2] at e1
      have e3 := Sum.inl.inj e1
      have e4 : y.1 = z.1 := by omega
      exact n1 (List.mem_map.mpr ⟨y, List.mem_of_getElem? hy, e4⟩)
    rw [valV_neg hne]
    exact ih
section
variable {P : Program} {w : World} {K : PySem.W.Frag} {mg : Str → Option Value} {base : Heap} {cT cS : Addr}
def spMult : Sp := fun vs H Q _ => ∃ (v : V) (l : List Int) (p f : Int), vs = [.int p, .int f, v] ∧ rRow H v l ∧ 0 < p ∧ (-(2 ^ 63) < f ∧ f < 2 ^ 63) ∧ l.length ≤ 1000 ∧ ∀ H' v', Same H H' → rRow H' v' (mulL p f l) → Q v' H'
def spCleared : Sp := fun vs H Q _ => ∃ (d : Addr) (u : HO) (v : V) (l : List Int) (rs : RG) (p : Int), vs = [.int p, .ref d, v] ∧ H d = some u ∧ rDict H u rs ∧ (rs.map (·.1)).Nodup ∧ rRow H v l ∧ 0 < p ∧ p ≤ 1000000 ∧ InB p l ∧ l.length ≤ 1000 ∧ rs.length ≤ 1000 ∧ (∀ z ∈ rs, z.1 < l.length ∧ z.2.length = l.length) ∧
  ∀ H' v', Same H H' → rRow H' v' (clr p rs l) → Q v' H'
end
end S4

namespace S4
open PySem L2 TT MM
/-! ### rows as they are reasoned of -/
def vec (l : List Int) : Vc := fun x => l.getD x 0
def rowOf (rs : RG) (i : Nat) : List Int := ((rs.find? fun z => z.1 == i).map (·.2)).getD []
def rv (rs : RG) : Nat → Vc := fun i => vec (rowOf rs i)
theorem rowOf_mem : ∀ {rs : RG} {z : Nat × List Int}, (rs.map (·.1)).Nodup → z ∈ rs → rowOf rs z.1 = z.2
  | [], _, _, h => by cases h
  | y :: rs, z, nd, h => by
    obtain ⟨n1, n2⟩ := List.nodup_cons.mp nd
    unfold rowOf
    rw [List.find?_cons]
    by_cases e : y.1 = z.1
    · have hb : (y.1 == z.1) = true := beq_iff_eq.mpr e
      rw [hb]
      rcases List.mem_cons.mp h with q | q
      · rw [q]; rfl
      · exact absurd (List.mem_map.mpr ⟨z, q, e.symm⟩) n1
    · have hb : (y.1 == z.1) = false := beq_eq_false_iff_ne.mpr e
      rw [hb]
      rcases List.mem_cons.mp h with q | q
      · exact absurd (by rw [q]) e
      · exact rowOf_mem n2 q
theorem vec_over {l : List Int} {x : Nat} (h : l.length ≤ x) : vec l x = 0 := by
  unfold vec
  rw [List.getD_eq_getElem?_getD, List.getElem?_eq_none h]
  rfl
theorem vec_map {f : Nat → Int} {n x : Nat} (h : x < n) : vec ((List.range n).map f) x = f x := by
  unfold vec
  have : ((List.range n).map f)[x]? = some (f x) := by rw [List.getElem?_map, List.getElem?_range h]; rfl
  exact getD_at this
theorem lessL_vec {p : Int} {l r : List Int} (h : r.length = l.length) (m : Int) (x : Nat) : Cg p (vec (lessL p l r m) x) (vec l x - m * vec r x) := by
  by_cases hx : x < l.length
  · unfold lessL
    rw [vec_map hx]
    exact Cg.mod _
  · rw [vec_over (by rw [lessL_len]; omega), vec_over (by omega), vec_over (by omega), Int.mul_zero, Int.sub_zero]
    exact .refl _
theorem mulL_vec {p f : Int} {l : List Int} (x : Nat) : Cg p (vec (mulL p f l) x) (f * vec l x) := by
  by_cases hx : x < l.length
  · have h1 : l[x]? = some l[x] := List.getElem?_eq_getElem hx
    have h2 : (mulL p f l)[x]? = some (f * l[x] % p) := by unfold mulL; rw [List.getElem?_map, h1]; rfl
    unfold vec
    rw [getD_at h2, getD_at h1]
    exact Cg.mod _
  · rw [vec_over (by unfold mulL; rw [List.length_map]; omega), vec_over (by omega), Int.mul_zero]
    exact .refl _
theorem clr1_vec {p : Int} {l : List Int} {z : Nat × List Int} (h : z.2.length = l.length) (x : Nat) : Cg p (vec (clr1 p l z) x) (vec l x - vec l z.1 * vec z.2 x) := by
  unfold clr1
  split
  · rename_i h0
    have e : vec l z.1 = 0 := h0
    rw [e, Int.zero_mul, Int.sub_zero]
    exact .refl _
  · exact lessL_vec h _ x
section
variable {p : Int} {P : List Nat} {r : Nat → Vc}
/-- what clearing by some of the ladder's rows does -/
theorem clr_lad (L : Lad p P r) : ∀ (rs : RG) (l : List Int), (rs.map (·.1)).Nodup → (∀ z ∈ rs, z.1 ∈ P ∧ z.2.length = l.length ∧ ∀ x, r z.1 x = vec z.2 x) →
    Spn p (rungs P r) (fun x => vec l x - vec (clr p rs l) x) ∧ (∀ i ∈ P, i ∉ rs.map (·.1) → Cg p (vec (clr p rs l) i) (vec l i)) ∧ (∀ i ∈ rs.map (·.1), Cg p (vec (clr p rs l) i) 0)
  | [], l, _, _ => ⟨.zero fun x => .of_eq (by show vec l x - vec l x = 0; omega), fun i _ _ => .refl _, fun i h => by simp at h⟩
  | z :: rs, l, nd, hz => by
    obtain ⟨n1, n2⟩ := List.nodup_cons.mp nd
    obtain ⟨zP, zl, zr⟩ := hz z (by simp)
    have hs : ∀ x, Cg p (vec (clr1 p l z) x) (vec l x - vec l z.1 * r z.1 x) := fun x => by rw [zr]; exact clr1_vec zl x
    obtain ⟨a, b, c⟩ := clr_lad L rs (clr1 p l z) n2 fun y hy => by
      obtain ⟨y1, y2, y3⟩ := hz y (by simp [hy])
      exact ⟨y1, by rw [clr1_len]; exact y2, y3⟩
    have e : clr p (z :: rs) l = clr p rs (clr1 p l z) := rfl
    rw [e]
    have own : Cg p (vec (clr1 p l z) z.1) 0 := by
      have := (Cg.refl (p := p) (vec l z.1)).sub ((Cg.refl (p := p) (vec l z.1)).mul (L.one z.1 zP))
      rw [Int.mul_one, Int.sub_self] at this
      exact (hs z.1).trans this
    have oth : ∀ i ∈ P, i ≠ z.1 → Cg p (vec (clr1 p l z) i) (vec l i) := fun i hi hne => by
      have := (Cg.refl (p := p) (vec l i)).sub ((Cg.refl (p := p) (vec l z.1)).mul (L.off z.1 zP i hi hne))
      rw [Int.mul_zero, Int.sub_zero] at this
      exact (hs i).trans this
    refine ⟨.plus (vec l z.1) a (.row ⟨z.1, zP, rfl⟩) fun x => ?_, fun i hi hn => ?_, fun i hi => ?_⟩
    · have := (Cg.refl (p := p) (vec l x - vec (clr p rs (clr1 p l z)) x)).sub ((hs x).sub (Cg.refl (p := p) (vec l x - vec l z.1 * r z.1 x)))
      have h2 := hs x
      have h3 : Cg p (vec l x - vec (clr p rs (clr1 p l z)) x) (vec (clr1 p l z) x + vec l z.1 * r z.1 x - vec (clr p rs (clr1 p l z)) x) := by
        have h4 := (h2.symm.add (Cg.refl (p := p) (vec l z.1 * r z.1 x))).sub (Cg.refl (p := p) (vec (clr p rs (clr1 p l z)) x))
        refine (Cg.of_eq ?_).trans h4
        omega
      refine h3.trans (.of_eq ?_)
      omega
    · have hne : i ≠ z.1 := fun q => hn (by rw [q]; simp)
      have hn' : i ∉ rs.map (·.1) := fun q => hn (by simp only [List.map_cons, List.mem_cons]; exact .inr q)
      exact (b i hi hn').trans (oth i hi hne)
    · rcases List.mem_cons.mp (by simpa only [List.map_cons] using hi) with q | q
      · rw [q]
        exact (b z.1 zP n1).trans own
      · exact c i q
end
/-- the state of the going: right rows, a ladder, the room of the rows so far -/
structure St1 (p : Int) (wd : Nat) (rs : RG) (rows : List (List Int)) : Prop where
  lad : Lad p (rs.map (·.1)) (rv rs)
  ok : ∀ z ∈ rs, z.1 < wd ∧ z.2.length = wd ∧ InB p z.2
  room : Same2 p (rungs (rs.map (·.1)) (rv rs)) (fun v => ∃ l ∈ rows, v = vec l)
theorem St1.nil (p : Int) (wd : Nat) : St1 p wd [] [] := ⟨Lad.nil p _, fun z h => (nomatch h), same2_of (fun v h => by obtain ⟨i, hi, _⟩ := h; cases hi) (fun v h => by obtain ⟨i, hi, _⟩ := h; cases hi)⟩
theorem St1.len {p : Int} {wd : Nat} {rs : RG} {rows : List (List Int)} (S : St1 p wd rs rows) : rs.length ≤ wd := by
  have h : ∀ (P : List Nat) (n : Nat), P.Nodup → (∀ i ∈ P, i < n) → P.length ≤ n := fun P n nd hb => by
    have := nodup_len (l := P.map fun (i : Nat) => (i : Int)) (V := (List.range n).map fun (i : Nat) => (i : Int)) (by
      rw [List.nodup_iff_pairwise_ne, List.pairwise_map]
      exact (List.nodup_iff_pairwise_ne.mp nd).imp fun {a b} h e => h (by omega)) (fun v hv => by
      obtain ⟨i, hi, rfl⟩ := List.mem_map.mp hv
      exact List.mem_map.mpr ⟨i, List.mem_range.mpr (hb i hi), rfl⟩)
    rw [List.length_map, List.length_map, List.length_range] at this
    exact this
  have := h (rs.map (·.1)) wd S.lad.nd fun i hi => by
    obtain ⟨z, hz, rfl⟩ := List.mem_map.mp hi
    exact (S.ok z hz).1
  rw [List.length_map] at this
  exact this
section
variable {p : Int} {wd : Nat} {rs : RG} {rows : List (List Int)} {row : List Int}
theorem St1.clear (S : St1 p wd rs rows) (hl : row.length = wd) : Spn p (rungs (rs.map (·.1)) (rv rs)) (fun x => vec row x - vec (clr p rs row) x) ∧ ∀ i ∈ rs.map (·.1), Cg p (vec (clr p rs row) i) 0 := by
  obtain ⟨a, _, c⟩ := clr_lad S.lad rs row S.lad.nd fun z hz => ⟨List.mem_map.mpr ⟨z, hz, rfl⟩, by rw [(S.ok z hz).2.1, hl], fun x => by unfold rv; rw [rowOf_mem S.lad.nd hz]⟩
  exact ⟨a, c⟩
/-- a row that is in the room -/
theorem St1.skip (S : St1 p wd rs rows) (hl : row.length = wd) (hz : ∀ x, x < wd → (clr p rs row).getD x 0 = 0) : St1 p wd rs (rows ++ [row]) := by
  obtain ⟨a, _⟩ := S.clear hl
  refine ⟨S.lad, S.ok, ?_⟩
  have hin : Spn p (fun v => ∃ l ∈ rows, v = vec l) (vec row) := by
    refine (S.room _).mp (a.cg fun x => ?_)
    have e : vec (clr p rs row) x = 0 := by
      by_cases hx : x < wd
      · exact hz x hx
      · exact vec_over (by rw [clr_len]; omega)
    rw [e, Int.sub_zero]
    exact .refl _
  refine (same2_in S.room hin).trans (same2_of (fun v h => ?_) (fun v h => ?_))
  · rcases h with ⟨l, h1, rfl⟩ | rfl
    · exact .row ⟨l, by simp [h1], rfl⟩
    · exact .row ⟨row, by simp, rfl⟩
  · obtain ⟨l, h1, rfl⟩ := h
    rcases List.mem_append.mp h1 with h1 | h1
    · exact .row (.inl ⟨l, h1, rfl⟩)
    · rw [List.mem_singleton.mp h1]
      exact .row (.inr rfl)
/-- a row that is not -/
def putIn (p : Int) (rs : RG) (k : Nat) (g : List Int) : RG := rs.map (fun z => (z.1, clr p [(k, g)] z.2)) ++ [(k, g)]
theorem putIn_keys (p : Int) (rs : RG) (k : Nat) (g : List Int) : (putIn p rs k g).map (·.1) = rs.map (·.1) ++ [k] := by
  unfold putIn
  rw [List.map_append, List.map_map]
  rfl
theorem St1.put (S : St1 p wd rs rows) (p2 : 2 ≤ p) (hl : row.length = wd) (hin : InB p row) {k : Nat} {u : Int} (hk : k < wd) (h0 : (clr p rs row).getD k 0 ≠ 0) (hz : ∀ x, x < k → (clr p rs row).getD x 0 = 0)
    (hu : Cg p (u * (clr p rs row).getD k 0) 1) : St1 p wd (putIn p rs k (mulL p u (clr p rs row))) (rows ++ [row]) := by
  obtain ⟨a, c⟩ := S.clear hl
  generalize hr : clr p rs row = rest at *
  have hrl : rest.length = wd := by rw [← hr, clr_len]; exact hl
  have hri : InB p rest := by rw [← hr]; exact clr_in (by omega) rs hin
  have hgl : (mulL p u rest).length = wd := by unfold mulL; rw [List.length_map]; exact hrl
  have hgi : InB p (mulL p u rest) := fun x hx => by
    obtain ⟨y, _, rfl⟩ := List.mem_map.mp hx
    exact mod_b (by omega)
  have kP : k ∉ rs.map (·.1) := fun q => by
    have := c k q
    have b := getD_in (by omega) hri k
    exact h0 (this.zero_of b.1 b.2)
  have g1 : Cg p (vec (mulL p u rest) k) 1 := (mulL_vec k).trans hu
  have g0 : ∀ i ∈ rs.map (·.1), Cg p (vec (mulL p u rest) i) 0 := fun i hi => by
    have := (Cg.refl (p := p) u).mul (c i hi)
    rw [Int.mul_zero] at this
    exact (mulL_vec i).trans this
  have gl : ∀ x, x < k → Cg p (vec (mulL p u rest) x) 0 := fun x hx => by
    have := (Cg.refl (p := p) u).mul (Cg.of_eq (p := p) (hz x hx))
    rw [Int.mul_zero] at this
    exact (mulL_vec x).trans this
  have nd : ((putIn p rs k (mulL p u rest)).map (·.1)).Nodup := by
    rw [putIn_keys, List.nodup_append]
    exact ⟨S.lad.nd, by simp, fun a ha b hb e => kP (by rw [← List.mem_singleton.mp hb, ← e]; exact ha)⟩
  have hq : ∀ x, Cg p (rv (putIn p rs k (mulL p u rest)) k x) (vec (mulL p u rest) x) := fun x => by
    unfold rv
    rw [rowOf_mem (z := (k, mulL p u rest)) nd (by unfold putIn; simp)]
    exact .refl _
  have ho : ∀ i ∈ rs.map (·.1), ∀ x, Cg p (rv (putIn p rs k (mulL p u rest)) i x) (rv rs i x - rv rs i k * vec (mulL p u rest) x) := fun i hi x => by
    obtain ⟨z, hz1, rfl⟩ := List.mem_map.mp hi
    unfold rv
    rw [rowOf_mem (z := (z.1, clr p [(k, mulL p u rest)] z.2)) nd (by unfold putIn; exact List.mem_append_left _ (List.mem_map.mpr ⟨z, hz1, rfl⟩)), rowOf_mem S.lad.nd hz1]
    exact clr1_vec (z := (k, mulL p u rest)) (by rw [(S.ok z hz1).2.1]; exact hgl) x
  refine ⟨?_, fun z hz2 => ?_, ?_⟩
  · rw [putIn_keys]
    exact S.lad.more kP g1 g0 gl hq ho
  · rcases List.mem_append.mp hz2 with h | h
    · obtain ⟨y, hy, rfl⟩ := List.mem_map.mp h
      obtain ⟨b1, b2, b3⟩ := S.ok y hy
      exact ⟨b1, by show (clr p _ y.2).length = wd; rw [clr_len]; exact b2, clr_in (by omega) _ b3⟩
    · rw [List.mem_singleton.mp h]
      exact ⟨hk, hgl, hgi⟩
  · rw [putIn_keys]
    refine (S.lad.moreSpan hq ho).trans ?_
    have m := same2_more (g := vec (mulL p u rest)) (row := vec row) (rest := vec rest) (c := u) (d := rest.getD k 0) S.room ((S.room _).mp a) (fun x => mulL_vec x) fun x => ?_
    · refine m.trans (same2_of (fun v h => ?_) (fun v h => ?_))
      · rcases h with ⟨l, h1, rfl⟩ | rfl
        · exact .row ⟨l, by simp [h1], rfl⟩
        · exact .row ⟨row, by simp, rfl⟩
      · obtain ⟨l, h1, rfl⟩ := h
        rcases List.mem_append.mp h1 with h1 | h1
        · exact .row (.inl ⟨l, h1, rfl⟩)
        · rw [List.mem_singleton.mp h1]
          exact .row (.inr rfl)
    · have h1 := (Cg.refl (p := p) (rest.getD k 0)).mul (mulL_vec (p := p) (f := u) (l := rest) x)
      have h2 := hu.mul (Cg.refl (p := p) (vec rest x))
      rw [Int.one_mul] at h2
      refine (h1.trans ((Cg.of_eq ?_).trans h2)).symm
      rw [← Int.mul_assoc, Int.mul_comm (rest.getD k 0) u]
end
/-- the ladders of two lots of rows that span the same are the same -/
theorem St1.only {p : Int} {wd : Nat} {rs rs' : RG} {rows rows' : List (List Int)} (S : St1 p wd rs rows) (S' : St1 p wd rs' rows') (p2 : 2 ≤ p) (h : Same2 p (fun v => ∃ l ∈ rows, v = vec l) (fun v => ∃ l ∈ rows', v = vec l)) :
    (∀ i, i ∈ rs.map (·.1) ↔ i ∈ rs'.map (·.1)) ∧ ∀ z ∈ rs, z ∈ rs' := by
  have hs := (S.room.trans h).trans S'.room.symm
  have pl : ∀ i, i ∈ rs.map (·.1) ↔ i ∈ rs'.map (·.1) := fun i => ⟨S.lad.places S'.lad p2 hs, S'.lad.places S.lad p2 hs.symm⟩
  refine ⟨pl, fun z hz => ?_⟩
  have hi : z.1 ∈ rs.map (·.1) := List.mem_map.mpr ⟨z, hz, rfl⟩
  obtain ⟨y, hy, e⟩ := List.mem_map.mp ((pl z.1).mp hi)
  obtain ⟨a1, a2, a3⟩ := S.ok z hz
  obtain ⟨b1, b2, b3⟩ := S'.ok y hy
  have e2 : z.2 = y.2 := by
    apply List.ext_getElem (by rw [a2, b2])
    intro x h1 h2
    have := S.lad.rows S'.lad p2 hs hi x
    unfold rv at this
    have e0 : rowOf rs' z.1 = y.2 := by rw [← e]; exact rowOf_mem S'.lad.nd hy
    rw [rowOf_mem S.lad.nd hz, e0] at this
    have c1 := getD_in (by omega) a3 x
    have c2 := getD_in (by omega) b3 x
    have := this.eq c1.1 c1.2 c2.1 c2.2
    unfold vec at this
    rw [getD_at (List.getElem?_eq_getElem h1), getD_at (List.getElem?_eq_getElem h2)] at this
    exact this
  have : z = y := Prod.ext e.symm e2
  rw [this]
  exact hy
end S4

namespace S4
open PySem L2 TT MM
/-! ### either a list or a tuple -/
theorem pi_or {X : Cx} {tg e : Expr} {w1 w2 : TI} (h1 : PI X tg e w1) (h2 : PI X tg e w2) : PI X tg e (fun σ H R => w1 σ H R ∨ w2 σ H R) := ⟨fun pins s σ H R I h => h.elim (h1.run pins s σ H R I) (h2.run pins s σ H R I)⟩
/-- the items of a list or a tuple -/
def SqS (K : PySem.W.Frag) (H : Hp) (a : Addr) (xs : List V) : Prop := H a = some (.lst xs) ∨ H a = some (.tup xs)
theorem SqS.same {K : PySem.W.Frag} {H H' : Hp} {a : Addr} {xs : List V} (h : SqS K H a xs) (s : Same H H') : SqS K H' a xs := h.elim (fun h => .inl (s _ _ h)) (fun h => .inr (s _ _ h))
theorem val_none : ∀ {kvs : List (L2.Key × V)} {rs : RG} {H : Hp} {k : Nat}, Paired (kvR H) kvs rs → k ∉ rs.map (·.1) → valV kvs (Sum.inl ((k : Nat) : Int)) = none
  | _, _, _, _, .nil, _ => rfl
  | (k0, v0) :: kvs, z :: rs, H, k, .cons r t, hn => by
    have hne : ¬ k0 = Sum.inl ((k : Nat) : Int) := fun e => by
      have e1 := r.1
      simp only at e1
      rw [e] at e1
      have e2 := Sum.inl.inj e1
      have e3 : k = z.1 := by omega
      exact hn (by rw [e3]; simp)
    rw [valV_neg hne]
    exact val_none t fun q => hn (by simp only [List.map_cons, List.mem_cons]; exact .inr q)
theorem put_map {kvs : List (L2.Key × V)} {rs : RG} {H : Hp} {k : Nat} {v : V} {g : List Int} (h : Paired (kvR H) kvs rs) (hv : rRow H v g) (hk : k ∈ rs.map (·.1)) :
    Paired (kvR H) (putK kvs (Sum.inl ((k : Nat) : Int)) v) (rs.map fun z => if z.1 = k then (z.1, g) else z) := by
  have hm : ∀ {kvs : List (L2.Key × V)} {rs : RG}, Paired (kvR H) kvs rs → Paired (kvR H) (kvs.map fun kv => if kv.1 = Sum.inl ((k : Nat) : Int) then (kv.1, v) else kv) (rs.map fun z => if z.1 = k then (z.1, g) else z) := by
    intro kvs rs h
    induction h with
    | nil => exact .nil
    | @cons kv z kvs rs r t ih =>
      rw [List.map_cons, List.map_cons]
      refine .cons ?_ ih
      have e1 := r.1
      by_cases e : z.1 = k
      · rw [if_pos e, if_pos (by rw [e1, e])]
        exact ⟨e1, hv⟩
      · rw [if_neg e, if_neg (fun q => e (by rw [e1] at q; have := Sum.inl.inj q; omega))]
        exact r
  unfold putK
  rw [if_pos ?_]
  · exact hm h
  · obtain ⟨z, hz, e⟩ := List.mem_map.mp hk
    obtain ⟨i, hi⟩ := List.getElem?_of_mem hz
    obtain ⟨kv, hkv, r⟩ := paired_get2 h hi
    rw [List.any_eq_true]
    refine ⟨kv, List.mem_of_getElem? hkv, decide_eq_true ?_⟩
    rw [r.1, e]
/-- those of the first have been cleared -/
def part (p : Int) (k : Nat) (g : List Int) (D : List Nat) (rs : RG) : RG := rs.map fun z => if z.1 ∈ D then (z.1, clr p [(k, g)] z.2) else z
theorem part_keys (p : Int) (k : Nat) (g : List Int) (D : List Nat) (rs : RG) : (part p k g D rs).map (·.1) = rs.map (·.1) := by
  unfold part
  rw [List.map_map]
  refine List.map_congr_left fun z _ => ?_
  show (if z.1 ∈ D then (z.1, clr p [(k, g)] z.2) else z).1 = z.1
  split <;> rfl
theorem part_nil (p : Int) (k : Nat) (g : List Int) (rs : RG) : part p k g [] rs = rs := by
  unfold part
  have : (fun z : Nat × List Int => if z.1 ∈ ([] : List Nat) then (z.1, clr p [(k, g)] z.2) else z) = id := by
    funext z
    rw [if_neg (by simp)]
    rfl
  rw [this, List.map_id]
theorem part_all (p : Int) (k : Nat) (g : List Int) (rs : RG) : part p k g (rs.map (·.1)) rs ++ [(k, g)] = putIn p rs k g := by
  unfold part putIn
  congr 1
  refine List.map_congr_left fun z hz => ?_
  rw [if_pos (List.mem_map.mpr ⟨z, hz, rfl⟩)]
theorem part_step {p : Int} {k : Nat} {g : List Int} {D : List Nat} {rs : RG} (nd : (rs.map (·.1)).Nodup) {z : Nat × List Int} (hz : z ∈ rs) :
    (part p k g D rs).map (fun y => if y.1 = z.1 then (y.1, clr p [(k, g)] z.2) else y) = part p k g (D ++ [z.1]) rs := by
  unfold part
  rw [List.map_map]
  refine List.map_congr_left fun y hy => ?_
  have same : y.1 = z.1 → y.2 = z.2 := fun e => by
    have h1 := rowOf_mem nd hy
    have h2 := rowOf_mem nd hz
    rw [e] at h1
    rw [← h1, ← h2]
  have pe : (if y.1 ∈ D then (y.1, clr p [(k, g)] y.2) else y).1 = y.1 := by split <;> rfl
  show (if (if y.1 ∈ D then (y.1, clr p [(k, g)] y.2) else y).1 = z.1 then ((if y.1 ∈ D then (y.1, clr p [(k, g)] y.2) else y).1, clr p [(k, g)] z.2) else (if y.1 ∈ D then (y.1, clr p [(k, g)] y.2) else y)) = _
  rw [pe]
  by_cases e : y.1 = z.1
  · rw [if_pos e, if_pos (by rw [e]; simp), same e]
  · rw [if_neg e]
    by_cases hD : y.1 ∈ D
    · rw [if_pos hD, if_pos (List.mem_append_left _ hD)]
    · rw [if_neg hD, if_neg (fun q => (List.mem_append.mp q).elim hD fun q => e (List.mem_singleton.mp q))]
structure RGS (H0 : Hp) (dr nw : Addr) (rs : RG) (i : Nat) (H : Hp) : Prop where
  same : Same H0 H
  d0 : H0 dr = none
  n0 : H0 nw = none
  ne : dr ≠ nw
  dict : ∃ kvs, H dr = some (.dK kvs) ∧ Paired (kvR H) kvs rs
  news : ∃ ns : List Int, H nw = some (.lst (ns.map V.int)) ∧ ns.length ≤ i
theorem RGS.more {H0 : Hp} {dr nw : Addr} {rs : RG} {i : Nat} {H H' : Hp} (R : RGS H0 dr nw rs i H) (s : Same H H') : RGS H0 dr nw rs i H' :=
  ⟨R.same.trans s, R.d0, R.n0, R.ne, let ⟨kvs, a, b⟩ := R.dict; ⟨kvs, s _ _ a, kvR_mono (fun _ _ h => s _ _ h) b⟩, let ⟨ns, a, b⟩ := R.news; ⟨ns, s _ _ a, b⟩⟩
theorem RGS.setD {H0 : Hp} {dr nw : Addr} {rs rs' : RG} {i : Nat} {H : Hp} (R : RGS H0 dr nw rs i H) {kvs : List (L2.Key × V)} (h : Paired (kvR H) kvs rs') : RGS H0 dr nw rs' i (upd H dr (.dK kvs)) := by
  obtain ⟨kv0, a, b⟩ := R.dict
  obtain ⟨ns, c, e⟩ := R.news
  exact ⟨same_own R.same R.d0, R.d0, R.n0, R.ne, ⟨kvs, upd_same, kvR_mono (fun t xs h => by rw [upd_ne (ne_of h a (fun z => nomatch z))]; exact h) h⟩, ⟨ns, by rw [upd_ne R.ne.symm]; exact c, e⟩⟩
section
variable {P : Program} {w : World} {K : PySem.W.Frag} {mg : Str → Option Value} {base : Heap} {cT cS : Addr}
def spRungs : Sp := fun vs H Q _ => ∃ (a : Addr) (p : Int) (wd : Nat) (xs : List V) (rws : List (List Int)), vs = [.int p, .int (wd : Int), .ref a] ∧ SqS K H a xs ∧ Paired (rRow H) xs rws ∧ rws.length ≤ 1000 ∧ Prm p ∧ p ≤ 1000000 ∧ wd ≤ 1000 ∧ (∀ r ∈ rws, isRow r p wd) ∧
  ∀ H' t dr nw rs, Same H H' → H' t = some (.tup [.ref dr, .ref nw]) → H dr = none → (∃ kvs, H' dr = some (.dK kvs) ∧ Paired (kvR H') kvs rs) → St1 p wd rs rws → rs.length ≤ rws.length → Q (.ref t) H'
end
end S4

namespace S4
open PySem L2 TT MM
def keysI (rs : RG) : List Int := rs.map fun z => ((z.1 : Nat) : Int)
/-- the ladder of a room, as a list of rows -/
def IsLad (p : Int) (wd : Nat) (rows lad : List (List Int)) : Prop := ∃ (rs : RG) (ys : List Int), St1 p wd rs rows ∧ ys.Perm (keysI rs) ∧ Up ys ∧ lad = ys.map fun y => rowOf rs y.toNat
theorem keysI_nodup {rs : RG} (h : (rs.map (·.1)).Nodup) : (keysI rs).Nodup := by
  unfold keysI
  rw [List.nodup_iff_pairwise_ne] at *
  rw [List.pairwise_map] at *
  exact h.imp fun {a b} h e => h (by omega)
theorem keysI_mem {rs : RG} {y : Int} : y ∈ keysI rs ↔ ∃ i ∈ rs.map (·.1), y = ((i : Nat) : Int) := by
  unfold keysI
  rw [List.mem_map]
  constructor
  · rintro ⟨z, hz, rfl⟩
    exact ⟨z.1, List.mem_map.mpr ⟨z, hz, rfl⟩, rfl⟩
  · rintro ⟨i, hi, rfl⟩
    obtain ⟨z, hz, rfl⟩ := List.mem_map.mp hi
    exact ⟨z, hz, rfl⟩
theorem IsLad.only {p : Int} {wd : Nat} {rows rows' lad lad' : List (List Int)} (A : IsLad p wd rows lad) (B : IsLad p wd rows' lad') (p2 : 2 ≤ p) (h : Same2 p (fun v => ∃ l ∈ rows, v = vec l) (fun v => ∃ l ∈ rows', v = vec l)) : lad = lad' := by
  obtain ⟨rs, ys, S, hp, hu, rfl⟩ := A
  obtain ⟨rs', ys', S', hp', hu', rfl⟩ := B
  obtain ⟨k1, k2⟩ := S.only S' p2 h
  have e : ys = ys' := by
    refine up_same (hp.trans (List.Perm.trans ?_ hp'.symm)) hu hu'
    refine (List.perm_ext_iff_of_nodup (keysI_nodup S.lad.nd) (keysI_nodup S'.lad.nd)).mpr fun y => ?_
    rw [keysI_mem, keysI_mem]
    constructor
    · rintro ⟨i, hi, rfl⟩; exact ⟨i, (k1 i).mp hi, rfl⟩
    · rintro ⟨i, hi, rfl⟩; exact ⟨i, (k1 i).mpr hi, rfl⟩
  subst e
  refine List.map_congr_left fun y hy => ?_
  obtain ⟨i, hi, rfl⟩ := keysI_mem.mp (hp.mem_iff.mp hy)
  obtain ⟨z, hz, rfl⟩ := List.mem_map.mp hi
  rw [Int.toNat_natCast, rowOf_mem S.lad.nd hz, rowOf_mem S'.lad.nd (k2 z hz)]
theorem IsLad.rows {p : Int} {wd : Nat} {rows lad : List (List Int)} (A : IsLad p wd rows lad) : lad.length ≤ wd ∧ ∀ l ∈ lad, isRow l p wd := by
  obtain ⟨rs, ys, S, hp, hu, rfl⟩ := A
  refine ⟨?_, fun l hl => ?_⟩
  · rw [List.length_map, hp.length_eq]
    unfold keysI
    rw [List.length_map]
    exact S.len
  · obtain ⟨y, hy, rfl⟩ := List.mem_map.mp hl
    obtain ⟨i, hi, rfl⟩ := keysI_mem.mp (hp.mem_iff.mp hy)
    obtain ⟨z, hz, rfl⟩ := List.mem_map.mp hi
    rw [Int.toNat_natCast, rowOf_mem S.lad.nd hz]
    obtain ⟨_, b, c⟩ := S.ok z hz
    exact ⟨by omega, c⟩
/-- the ladder spans what the rows span -/
theorem IsLad.room {p : Int} {wd : Nat} {rows lad : List (List Int)} (A : IsLad p wd rows lad) : Same2 p (fun v => ∃ l ∈ lad, v = vec l) (fun v => ∃ l ∈ rows, v = vec l) := by
  obtain ⟨rs, ys, S, hp, hu, rfl⟩ := A
  refine Same2.trans (same2_of (fun v h => ?_) (fun v h => ?_)) S.room
  · obtain ⟨l, hl, rfl⟩ := h
    obtain ⟨y, hy, rfl⟩ := List.mem_map.mp hl
    obtain ⟨i, hi, rfl⟩ := keysI_mem.mp (hp.mem_iff.mp hy)
    rw [Int.toNat_natCast]
    exact .row ⟨i, hi, rfl⟩
  · obtain ⟨i, hi, rfl⟩ := h
    exact .row ⟨rowOf rs i, List.mem_map.mpr ⟨((i : Nat) : Int), hp.mem_iff.mpr (keysI_mem.mpr ⟨i, hi, rfl⟩), by rw [Int.toNat_natCast]⟩, rfl⟩
section
variable {P : Program} {w : World} {K : PySem.W.Frag} {mg : Str → Option Value} {base : Heap} {cT cS : Addr}
def spLadOf (K : PySem.W.Frag) : Sp := fun vs H Q _ => ∃ (a : Addr) (p : Int) (wd : Nat) (xs : List V) (rws : List (List Int)), vs = [.int p, .int (wd : Int), .ref a] ∧ SqS K H a xs ∧ Paired (rRow H) xs rws ∧ rws.length ≤ 1000 ∧ Prm p ∧ p ≤ 1000000 ∧ wd ≤ 1000 ∧ (wd < 64 ∨ rws.length < 64) ∧ (∀ r ∈ rws, isRow r p wd) ∧
  ∀ H' v lad, Same H H' → rTup rRow H' v lad → IsLad p wd rws lad → lad.length ≤ rws.length → Q v H'
end
end S4

namespace S4
open PySem L2 TT MM
/-! ### clearing by rungs that are not cleared of one another -/
/-- a rung is 0 in the first places of those ahead, 1 in its own -/
structure Tri (p : Int) (wd : Nat) (rs : RG) : Prop where
  ok : ∀ z ∈ rs, z.1 < wd ∧ z.2.length = wd ∧ InB p z.2
  one : ∀ z ∈ rs, Cg p (vec z.2 z.1) 1
  tri : rs.Pairwise fun a b => Cg p (vec b.2 a.1) 0
section
variable {p : Int} {wd : Nat}
theorem Tri.tail {z : Nat × List Int} {rs : RG} (T : Tri p wd (z :: rs)) : Tri p wd rs := ⟨fun y h => T.ok y (by simp [h]), fun y h => T.one y (by simp [h]), (List.pairwise_cons.mp T.tri).2⟩
theorem clr_at : ∀ (rs : RG) (l : List Int) (x : Nat), (∀ z ∈ rs, z.2.length = l.length ∧ Cg p (vec z.2 x) 0) → Cg p (vec (clr p rs l) x) (vec l x)
  | [], l, x, _ => .refl _
  | z :: rs, l, x, h => by
    obtain ⟨h1, h2⟩ := h z (by simp)
    have ih := clr_at rs (clr1 p l z) x fun y hy => by
      obtain ⟨a, b⟩ := h y (by simp [hy])
      exact ⟨by rw [clr1_len]; exact a, b⟩
    have s := clr1_vec (p := p) h1 x
    have m := (Cg.refl (p := p) (vec l x)).sub ((Cg.refl (p := p) (vec l z.1)).mul h2)
    rw [Int.mul_zero, Int.sub_zero] at m
    exact ih.trans (s.trans m)
theorem Tri.clear {R : Vc → Prop} : ∀ (rs : RG) (l : List Int), Tri p wd rs → l.length = wd → (∀ z ∈ rs, Spn p R (vec z.2)) → Spn p R (fun x => vec l x - vec (clr p rs l) x) ∧ ∀ z ∈ rs, Cg p (vec (clr p rs l) z.1) 0
  | [], l, _, _, _ => ⟨.zero fun x => .of_eq (by show vec l x - vec l x = 0; omega), fun z h => (nomatch h)⟩
  | z :: rs, l, T, hl, hR => by
    have hz := T.ok z (by simp)
    have s : ∀ x, Cg p (vec (clr1 p l z) x) (vec l x - vec l z.1 * vec z.2 x) := fun x => clr1_vec (by rw [hz.2.1, hl]) x
    obtain ⟨a, c⟩ := Tri.clear rs (clr1 p l z) T.tail (by rw [clr1_len]; exact hl) fun y hy => hR y (by simp [hy])
    have e : clr p (z :: rs) l = clr p rs (clr1 p l z) := rfl
    rw [e]
    refine ⟨.plus (vec l z.1) a (hR z (by simp)) fun x => ?_, fun y hy => ?_⟩
    · have h4 := ((s x).symm.add (Cg.refl (p := p) (vec l z.1 * vec z.2 x))).sub (Cg.refl (p := p) (vec (clr p rs (clr1 p l z)) x))
      refine ((Cg.of_eq ?_).trans h4).trans (.of_eq ?_) <;> omega
    · rcases List.mem_cons.mp hy with rfl | hy
      · have own : Cg p (vec (clr1 p l y) y.1) 0 := by
          have := (Cg.refl (p := p) (vec l y.1)).sub ((Cg.refl (p := p) (vec l y.1)).mul (T.one y (by simp)))
          rw [Int.mul_one, Int.sub_self] at this
          exact (s y.1).trans this
        refine (clr_at rs (clr1 p l y) y.1 fun z hz2 => ⟨?_, (List.pairwise_cons.mp T.tri).1 z hz2⟩).trans own
        rw [clr1_len, hl]
        exact (T.ok z (by simp [hz2])).2.1
      · exact c y hy
/-- the state of the short going: as many rungs, in the same places, as the ladder's going has -/
structure St2 (p : Int) (wd : Nat) (rs : RG) (rows : List (List Int)) : Prop where
  T : Tri p wd rs
  room : ∀ z ∈ rs, Spn p (fun v => ∃ l ∈ rows, v = vec l) (vec z.2)
  twin : ∃ rs', St1 p wd rs' rows ∧ rs'.map (·.1) = rs.map (·.1)
theorem St2.nil (p : Int) (wd : Nat) : St2 p wd [] [] := ⟨⟨fun z h => (nomatch h), fun z h => (nomatch h), .nil⟩, fun z h => (nomatch h), [], St1.nil p wd, rfl⟩
theorem eq_of_cg {a b : List Int} (p0 : 0 < p) (hl : a.length = b.length) (ha : InB p a) (hb : InB p b) (h : ∀ x, Cg p (vec a x) (vec b x)) : a = b := by
  apply List.ext_getElem hl
  intro x h1 h2
  have c1 := getD_in p0 ha x
  have c2 := getD_in p0 hb x
  have := (h x).eq c1.1 c1.2 c2.1 c2.2
  unfold vec at this
  rwa [getD_at (List.getElem?_eq_getElem h1), getD_at (List.getElem?_eq_getElem h2)] at this
variable {rs : RG} {rows : List (List Int)} {row : List Int}
theorem St2.same (S : St2 p wd rs rows) (p2 : 2 ≤ p) (hl : row.length = wd) (hin : InB p row) {rs' : RG} (S' : St1 p wd rs' rows) (hk : rs'.map (·.1) = rs.map (·.1)) : clr p rs row = clr p rs' row := by
  have p0 : 0 < p := by omega
  obtain ⟨a, b⟩ := S.T.clear rs row hl S.room
  obtain ⟨a', b'⟩ := S'.clear hl
  have d : Spn p (rungs (rs'.map (·.1)) (rv rs')) (fun x => vec (clr p rs row) x - vec (clr p rs' row) x) := by
    refine .plus (-1) a' ((S'.room _).mpr a) fun x => .of_eq ?_
    omega
  refine eq_of_cg p0 (by rw [clr_len, clr_len]) (clr_in p0 _ hin) (clr_in p0 _ hin) fun x => ?_
  have z := S'.lad.zero d (fun i hi => by
    have h2 := b' i hi
    rw [hk] at hi
    obtain ⟨y, hy, rfl⟩ := List.mem_map.mp hi
    have := (b y hy).sub h2
    rwa [Int.sub_zero] at this) x
  have := z.add (Cg.refl (p := p) (vec (clr p rs' row) x))
  refine ((Cg.of_eq ?_).trans this).trans (.of_eq ?_) <;> omega
theorem span_more {v : Vc} (h : Spn p (fun v => ∃ l ∈ rows, v = vec l) v) : Spn p (fun v => ∃ l ∈ rows ++ [row], v = vec l) v := h.mono fun r ⟨l, hl, e⟩ => ⟨l, List.mem_append_left _ hl, e⟩
theorem St2.skip (S : St2 p wd rs rows) (p2 : 2 ≤ p) (hl : row.length = wd) (hin : InB p row) (hz : ∀ x, x < wd → (clr p rs row).getD x 0 = 0) : St2 p wd rs (rows ++ [row]) := by
  obtain ⟨rs', S', hk⟩ := S.twin
  have e := S.same p2 hl hin S' hk
  exact ⟨S.T, fun z h => span_more (S.room z h), rs', S'.skip hl (by rw [← e]; exact hz), hk⟩
theorem St2.put (S : St2 p wd rs rows) (p2 : 2 ≤ p) (hl : row.length = wd) (hin : InB p row) {k : Nat} {u : Int} (hk : k < wd) (h0 : (clr p rs row).getD k 0 ≠ 0) (hz : ∀ x, x < k → (clr p rs row).getD x 0 = 0)
    (hu : Cg p (u * (clr p rs row).getD k 0) 1) : k ∉ rs.map (·.1) ∧ St2 p wd (rs ++ [(k, mulL p u (clr p rs row))]) (rows ++ [row]) := by
  have p0 : 0 < p := by omega
  obtain ⟨rs', S', hkk⟩ := S.twin
  have e := S.same p2 hl hin S' hkk
  have St := S'.put (u := u) p2 hl hin hk (by rw [← e]; exact h0) (by rw [← e]; exact hz) (by rw [← e]; exact hu)
  obtain ⟨a, b⟩ := S.T.clear rs row hl S.room
  have kP : k ∉ rs.map (·.1) := fun q => by
    obtain ⟨z, hz1, rfl⟩ := List.mem_map.mp q
    have := b z hz1
    have c := getD_in p0 (clr_in p0 rs hin) z.1
    exact h0 (this.zero_of c.1 c.2)
  refine ⟨kP, ⟨⟨fun z h => ?_, fun z h => ?_, ?_⟩, fun z h => ?_, _, St, ?_⟩⟩
  · rcases List.mem_append.mp h with h | h
    · exact S.T.ok z h
    · rw [List.mem_singleton.mp h]
      refine ⟨hk, ?_, fun x hx => ?_⟩
      · show (mulL p u (clr p rs row)).length = wd
        unfold mulL
        rw [List.length_map, clr_len]
        exact hl
      · obtain ⟨y, _, rfl⟩ := List.mem_map.mp hx
        exact mod_b p0
  · rcases List.mem_append.mp h with h | h
    · exact S.T.one z h
    · rw [List.mem_singleton.mp h]
      exact (mulL_vec k).trans hu
  · rw [List.pairwise_append]
    refine ⟨S.T.tri, List.pairwise_singleton _ _, fun y hy z hz2 => ?_⟩
    rw [List.mem_singleton.mp hz2]
    have := (Cg.refl (p := p) u).mul (b y hy)
    rw [Int.mul_zero] at this
    exact (mulL_vec y.1).trans this
  · rcases List.mem_append.mp h with h | h
    · exact span_more (S.room z h)
    · rw [List.mem_singleton.mp h]
      have hr : Spn p (fun v => ∃ l ∈ rows ++ [row], v = vec l) (vec (clr p rs row)) := .plus (-1) (.row ⟨row, by simp, rfl⟩) (span_more a) fun x => .of_eq (by omega)
      exact .plus u (.zero (v := fun _ => 0) fun _ => .refl 0) hr fun x => (mulL_vec x).trans (.of_eq (by omega))
  · rw [putIn_keys, hkk, List.map_append]
    rfl
end
/-- how many there are is the rank -/
theorem IsLad.len {p : Int} {wd : Nat} {rows lad : List (List Int)} {rs' : RG} (A : IsLad p wd rows lad) (S' : St1 p wd rs' rows) (p2 : 2 ≤ p) : lad.length = rs'.length := by
  obtain ⟨rs, ys, S, hp, hu, rfl⟩ := A
  obtain ⟨k1, _⟩ := S.only S' p2 fun v => Iff.rfl
  have h1 := ((List.perm_ext_iff_of_nodup S.lad.nd S'.lad.nd).mpr k1).length_eq
  rw [List.length_map, List.length_map] at h1
  rw [List.length_map, hp.length_eq]
  unfold keysI
  rw [List.length_map]
  exact h1
theorem St2.len {p : Int} {wd : Nat} {rs : RG} {rows lad : List (List Int)} (S : St2 p wd rs rows) (p2 : 2 ≤ p) (A : IsLad p wd rows lad) : lad.length = rs.length := by
  obtain ⟨rs', S', hk⟩ := S.twin
  have := congrArg List.length hk
  rw [List.length_map, List.length_map] at this
  rw [A.len S' p2, this]
end S4

namespace S4
open PySem L2 TT MM
section
variable {K : PySem.W.Frag}
theorem kit_tl : PySem.W.kitOne K (.type "tuple") (.type "list") = some false := kit_ty (by decide +kernel)
theorem kitB_l : PySem.W.kitAny K (.type "list") [.type "list", .type "tuple"] = some true := by unfold PySem.W.kitAny; rw [kit_ll]
theorem kitB_t : PySem.W.kitAny K (.type "tuple") [.type "list", .type "tuple"] = some true := by
  unfold PySem.W.kitAny
  rw [kit_tl]
  show PySem.W.kitAny K (.type "tuple") [.type "tuple"] = some true
  unfold PySem.W.kitAny
  rw [kit_tt]
end
theorem NoDiv.prm {p : Int} (h : NoDiv p) : Prm p := ⟨h.1, h.2.2⟩
section
variable {P : Program} {w : World} {K : PySem.W.Frag} {mg : Str → Option Value} {base : Heap} {cT cS : Addr}
def spEach (K : PySem.W.Frag) : Sp := fun vs H Q _ => ∃ (a : Addr) (p : Int) (wd : Nat) (xs : List V) (rws : List (List Int)), vs = [.int p, .int (wd : Int), .ref a] ∧ SqS K H a xs ∧ Paired (rRow H) xs rws ∧ wd ≤ 1000 ∧ (∀ r ∈ rws, isRow r p wd) ∧ ∀ H', Same H H' → Q .non H'
def spClk : Sp := fun vs H Q _ => ∃ (n : Int), vs = [.int n] ∧ NoDiv n ∧ Q .non H
theorem ok_check_clock (T : Tx K mg cT cS) {f : Addr} {fd : FuncData} (d : D K mg "check_clock" s_check_clock ["p"] f fd) : FnOk P w K mg base CX0 3 f fd ["p"] spClk := by
  obtain ⟨f1, fd1, d1⟩ := T.d_is_clock
  have G1 : FnOk P w K mg base CX0 2 f1 fd1 ["thing"] spIsClock := ok_is_clock T d1
  refine d.F.ok sc_check_clock (fun vs H Q E h => ?_) (fun cdv A outer s H vs Q E hr h => ?_)
  · obtain ⟨n, rfl, _⟩ := h
    rfl
  · obtain ⟨n, rfl, nd, q⟩ := h
    exact ⟨_, pss_one (ps_if (pt_not (pt_val (pe_call G1 hr rfl d1.m d1.F.kp d1.b .nil pass0 (pa_cons (pv 0) pa_nil)))) pss_never pss_nil), ⟨_, rfl, n, rfl, nd, _, rfl, iteF q⟩⟩
def spRowsC (K : PySem.W.Frag) : Sp := fun vs H Q _ => ∃ (a : Addr) (p : Int) (wd : Nat) (xs : List V) (rws : List (List Int)), vs = [.int p, .int (wd : Int), .ref a] ∧ SqS K H a xs ∧ Paired (rRow H) xs rws ∧ rws.length ≤ 200 ∧ NoDiv p ∧ wd ≤ 200 ∧ (∀ r ∈ rws, isRow r p wd) ∧ ∀ H', Same H H' → Q .non H'
end
end S4

/-! zip of two, each a list or a tuple -/
namespace TT
open PySem PySem.Spec PyProof.Rows L2
def SqK : Bool → PySem.W.Frag → Hp → Addr → List V → Prop
  | true, K, H, a, xs => SqL K H a xs
  | false, K, H, a, xs => SqT K H a xs
def ItO : Bool → Heap → Addr → Addr → Nat → Prop
  | true, h, it, a, i => h.IsListIter it a i
  | false, h, it, a, i => h.IsTupleIter it a i
def SeO : Bool → Heap → Addr → Array Value → Prop
  | true, h, a, xs => h.IsList a xs
  | false, h, a, xs => h.IsTuple a xs
theorem ItO.obj {b : Bool} {h : Heap} {it a : Addr} {i : Nat} (x : ItO b h it a i) : ∃ o, h.get? it = some o ∧ ∀ v, o.data ≠ .cell v := by
  cases b <;> (obtain ⟨o, e, _, d⟩ := x; exact ⟨o, e, fun v q => by rw [d] at q; cases q⟩)
theorem ItO.at {b : Bool} {h h' : Heap} {it a : Addr} {i : Nat} (x : ItO b h it a i) (k : ∀ o, h.get? it = some o → h'.get? it = some o) : ItO b h' it a i := by
  cases b
  · exact Heap.IsTupleIter.at (show h.IsTupleIter it a i from x) k
  · exact Heap.IsListIter.at (show h.IsListIter it a i from x) k
theorem drawsK {prog : Program} {w : World} {A : Around} (hh : A.handled = none) (b : Bool) (it a : Addr) (hne : a ≠ it) (items : Array Value) :
    Draws prog w A it [it, a] items.size (fun i v => items[i]? = some v) (fun i h => ItO b h it a i ∧ SeO b h a items) := by
  cases b
  · exact Draws.tuple hh it a hne items
  · exact Draws.list hh it a hne items
section
variable {X : Cx} {pins : List (Addr × Obj)} {σ : L2.St} {H : Hp} {s : Shared} {a : Addr} {xs ys : List V} {b : Bool}
theorem seqK (I : L2.Inv X pins σ H s) (h : SqK b X.K H a xs) : ∃ its : List Value, L2.Vals xs its ∧ SeO b s.heap a its.toArray ∧ a < s.heap.objs.size := by
  cases b
  · obtain ⟨its, r, p, _⟩ := I.tuple h
    exact ⟨its, r, p, p.lt⟩
  · obtain ⟨its, r, p, _⟩ := I.list h
    exact ⟨its, r, p.isList, p.lt⟩
theorem injK (I : L2.Inv X pins σ H s) (h : SqK b X.K H a xs) (h' : SqK b X.K H a ys) : xs = ys := by
  cases b
  · exact I.tuple_inj h h'
  · exact I.list_inj h h'
end
def ItzM (b1 b2 : Bool) (K : PySem.W.Frag) (a b : Addr) : It :=
  ⟨fun i H => ∃ (xs ys : List V) (x y : V), SqK b1 K H a xs ∧ SqK b2 K H b ys ∧ xs[i]? = some x ∧ ys[i]? = some y,
    fun i H v H' => ∃ T x y, v = .ref T ∧ H T = none ∧ H' = upd H T (.tup [x, y]) ∧ (∀ xs, SqK b1 K H a xs → xs[i]? = some x) ∧ ∀ ys, SqK b2 K H b ys → ys[i]? = some y,
    fun i H => ∃ xs ys : List V, SqK b1 K H a xs ∧ SqK b2 K H b ys ∧ i = min xs.length ys.length⟩
theorem turn_zipM {P : Program} {w : World} {K : PySem.W.Frag} {elts : List Expr} {kk : Nat} {tpos : Pos} {b1 b2 : Bool} {a b z TI TO i1 i2 : Addr} (D : ZipSep2 z TI TO i1 i2 [i1, a] [i2, b]) (ha : a ≠ i1) (hb : b ≠ i2) :
    Turn P w K (.Tuple elts kk tpos) (ItzM b1 b2 K a b) [z, TI, TO, i1, i2] z (fun i h => IsZip h z TI TO .none ∧ IsTupOf2 h TI (.ref i1) (.ref i2) ∧ (∃ x y, IsTupOf2 h TO x y) ∧ ItO b1 h i1 a i ∧ ItO b2 h i2 b i) where
  mem := by simp
  obj := fun i h st c hc => by
    obtain ⟨hz, hTI, ⟨x, y, hTO⟩, h1, h2⟩ := st
    have e' : c = z ∨ c = TI ∨ c = TO ∨ c = i1 ∨ c = i2 := by simpa using hc
    rcases e' with q | q | q | q | q
    · rw [q]; exact ⟨_, hz, fun v q => nomatch q⟩
    · rw [q]; exact ⟨_, hTI, fun v q => nomatch q⟩
    · rw [q]; exact ⟨_, hTO, fun v q => nomatch q⟩
    · rw [q]; exact h1.obj
    · rw [q]; exact h2.obj
  keep := fun i h h' st k => by
    obtain ⟨hz, hTI, ⟨x, y, hTO⟩, h1, h2⟩ := st
    exact ⟨k z (by simp) _ hz, k TI (by simp) _ hTI, ⟨x, y, k TO (by simp) _ hTO⟩, h1.at fun o q => k i1 (by simp) o q, h2.at fun o q => k i2 (by simp) o q⟩
  item := by
    intro X hP hw hK hc i pins s σ H E I hf st hg
    subst hP hw hK
    obtain ⟨hz, hTI, ⟨x0, y0, hTO⟩, h1, h2⟩ := st
    obtain ⟨xs, ys, x, y, hqx, hqy, hx, hy⟩ := hg
    obtain ⟨its, rv, p, _⟩ := seqK I hqx
    obtain ⟨its2, rv2, p2, _⟩ := seqK I hqy
    obtain ⟨u, hu, ru⟩ := rv.get hx
    obtain ⟨u2, hu2, ru2⟩ := rv2.get hy
    have hzl : z < s.heap.objs.size := Heap.lt_size hz
    have lt1 : i < its.toArray.size := by rw [List.size_toArray]; exact (List.getElem?_eq_some_iff.mp hu).1
    have lt2 : i < its2.toArray.size := by rw [List.size_toArray]; exact (List.getElem?_eq_some_iff.mp hu2).1
    refine wpAny_pyNext_zipD2_item D (drawsK (A := X.A.in1) (I.ok.hd hc) b1 i1 a ha its.toArray) (drawsK (A := X.A.in1) (I.ok.hd hc) b2 i2 b hb its2.toArray) hz hTI hTO ⟨h1, p⟩ ⟨h2, p2⟩ lt1 lt2 fun v1 v2 h' tk g1 g2 z' TO' d1 d2 hT hsz hk => ?_
    have e1 : v1 = u := by
      have q : its.toArray[i]? = some v1 := g1
      rw [show its.toArray[i]? = its[i]? by simp, hu] at q
      exact (Option.some.inj q).symm
    have e2 : v2 = u2 := by
      have q : its2.toArray[i]? = some v2 := g2
      rw [show its2.toArray[i]? = its2[i]? by simp, hu2] at q
      exact (Option.some.inj q).symm
    subst e1 e2
    refine ⟨_, rfl, wpAny_letOwnedTupleGo_zip (s := { s with heap := h', toks := tk }) z' fun h'' z'' sb => ?_⟩
    have hT2 : h''.get? s.heap.objs.size = some { cls := .type "tuple", data := .seq #[v1, v2] } := (sb.2 _ (Nat.ne_of_gt hzl)).trans hT
    have new : ObjOk X.prog X.w (upd H s.heap.objs.size (.tup [x, y])) h'' s.heap.objs.size (.tup [x, y]) :=
      ⟨by show 2 ≤ sizeLine; decide, [v1, v2], .cons ru (.cons ru2 .nil), ⟨_, hT2, rfl, _, rfl⟩⟩
    have I1 : L2.Inv X pins σ (upd H s.heap.objs.size (.tup [x, y])) { s with heap := h'', toks := tk } :=
      I.turnedNew (t' := tk) (ch := [z, TI, TO, i1, i2]) (fun c o hb q => (sb.2 c (fun q' => hb (by simp [q']))).trans (hk c o (fun q' => hb (by simp [q'])) (fun q' => hb (by simp [q'])) (fun q' => hb (by simp [q'])) (fun q' => hb (by simp [q'])) q)) hf (Nat.le_refl _) new
    refine ⟨.ref s.heap.objs.size, _, I1, rfl, ⟨_, x, y, rfl, I.hok.fresh (Nat.le_refl _), rfl, fun l hl => by rw [injK I hl hqx]; exact hx, fun l hl => by rw [injK I hl hqy]; exact hy⟩, ⟨z'', ?_, ⟨v1, v2, ?_⟩, ?_, ?_⟩, fun c hcm => ?_⟩
    · exact (sb.2 _ D.TIz).trans (hk _ _ D.TIz D.TITO D.TIi1 D.TIi2 hTI)
    · exact (sb.2 _ D.TOz).trans TO'
    · exact d1.1.at fun o q => (sb.2 _ D.zi1.symm).trans q
    · exact d2.1.at fun o q => (sb.2 _ D.zi2.symm).trans q
    · have hlt : c < s.heap.objs.size := by
        have e' : c = z ∨ c = TI ∨ c = TO ∨ c = i1 ∨ c = i2 := by simpa using hcm
        rcases e' with q | q | q | q | q
        · rw [q]; exact hzl
        · rw [q]; exact Heap.lt_size hTI
        · rw [q]; exact Heap.lt_size hTO
        · rw [q]; obtain ⟨_, e1, _⟩ := h1.obj; exact Heap.lt_size e1
        · rw [q]; obtain ⟨_, e2, _⟩ := h2.obj; exact Heap.lt_size e2
      rw [upd_ne (Nat.ne_of_lt hlt)]
      exact (hf c hcm).1
  done := by
    intro X hP hw hK hc i pins s σ H E I hf st hg
    subst hP hw hK
    obtain ⟨hz, hTI, ⟨x0, y0, hTO⟩, h1, h2⟩ := st
    obtain ⟨xs, ys, hqx, hqy, hend⟩ := hg
    obtain ⟨its, rv, p, _⟩ := seqK I hqx
    obtain ⟨its2, rv2, p2, _⟩ := seqK I hqy
    have l1 := rv.length
    have l2 := rv2.length
    exact wpAny_pyNext_zipD2_end D (drawsK (A := X.A.in1) (I.ok.hd hc) b1 i1 a ha its.toArray) (drawsK (A := X.A.in1) (I.ok.hd hc) b2 i2 b hb its2.toArray) hz hTI hTO ⟨h1, p⟩ ⟨h2, p2⟩ (by rw [List.size_toArray]; omega) (by rw [List.size_toArray]; omega) (by rw [List.size_toArray, List.size_toArray]; omega)
      fun h' tk hk => ⟨rfl, I.turnedL (t' := tk) (ch := [z, TI, TO, i1, i2]) (fun c o hb q => hk c o (fun q' => hb (by simp [q'])) (fun q' => hb (by simp [q'])) (fun q' => hb (by simp [q'])) (fun q' => hb (by simp [q'])) q) hf⟩
  self := fun A i s Q E st h => wpAny_pyIter_zip st.1 h
def itObj (b : Bool) (a : Addr) : Obj := match b with
  | true => { cls := .type "list_iterator", data := .fields #[.ref a, .int 0 0] }
  | false => { cls := .type "tuple_iterator", data := .fields #[.ref a, .int 0 0] }
theorem beginsK (b : Bool) (a : Addr) (items : Array Value) : Begins (.ref a) (itObj b a) fun h => SeO b h a items := by
  cases b
  · exact begins_tuple a items
  · exact begins_list a items
theorem itK {b : Bool} {h : Heap} {it a : Addr} (e : h.get? it = some (itObj b a)) : ItO b h it a 0 := by
  cases b
  · exact ⟨_, e, rfl, rfl⟩
  · exact ⟨_, e, rfl, rfl⟩
def iZipM (K : PySem.W.Frag) (ta : TA) : TI := fun σ H R => ta σ H fun vs H1 => ∃ a b xs ys b1 b2, vs = [.ref a, .ref b] ∧ SqK b1 K H1 a xs ∧ SqK b2 K H1 b ys ∧ R (ItzM b1 b2 K a b) H1
theorem pi_zipM {X : Cx} {e e2 : Expr} {ta : TA} {p pos tpos : Pos} {elts : List Expr} {kk : Nat} (hg : Gl X "zip") (hm : X.mg "zip" = none) (ha : PA X [e, e2] ta)
    (hs : starEach [e, e2] X.env = (false, eval e X.env) :: starEach [e2] X.env := by rfl) (hpl : (backTo pos (starEach [e2] X.env)).any (·.1) = false := by rfl) :
    PI X (.Tuple elts kk tpos) (.Call (.Name "zip" p) [e, e2] [] pos) (iZipM X.K ta) := by
  refine ⟨fun pins s σ H R I h => ?_⟩
  refine Call_ (ld_blt I hg hm PyProof.Rows.boot_zip (PyProof.Rows.callWith_type1 (thn (ha.run pos pins s σ H _ I h) fun us s1 ⟨vs, H1, I1, r1, q1⟩ => ?_) hs hpl))
  obtain ⟨a, b, xs, ys, b1, b2, ex, hqx, hqy, q⟩ := q1
  subst ex
  cases r1 with
  | cons r rr =>
    cases rr with
    | cons r' rr =>
      cases rr
      cases r
      cases r'
      have fresh5 : ∀ c, c ∈ [s1.heap.objs.size + 4, s1.heap.objs.size + 2, s1.heap.objs.size + 3, s1.heap.objs.size, s1.heap.objs.size + 1] → FpOk X pins H1 c := fun c hcm => by
        have e' : c = s1.heap.objs.size + 4 ∨ c = s1.heap.objs.size + 2 ∨ c = s1.heap.objs.size + 3 ∨ c = s1.heap.objs.size ∨ c = s1.heap.objs.size + 1 := by simpa using hcm
        have hle : s1.heap.objs.size ≤ c := by
          rcases e' with z | z | z | z | z
          · rw [z]; exact Nat.le_add_right _ _
          · rw [z]; exact Nat.le_add_right _ _
          · rw [z]; exact Nat.le_add_right _ _
          · rw [z]; exact Nat.le_refl _
          · rw [z]; exact Nat.le_add_right _ _
        exact I1.fpOk hle (I1.hok.fresh hle)
      obtain ⟨its, rv, p1, l1⟩ := seqK I1 hqx
      obtain ⟨its2, rv2, p2, l2⟩ := seqK I1 hqy
      refine zip_begins2 (beginsK b1 a its.toArray) (beginsK b2 b its2.toArray) p1 p2 fun h' hz hTI hTO h1 h2 hsz hk => wpAny_pyIter_zip hz ?_
      have I2 : L2.Inv X pins σ H1 { s1 with heap := h' } := I1.kept (t' := s1.toks) hk
      exact ⟨s1.heap.objs.size + 4, [s1.heap.objs.size + 4, s1.heap.objs.size + 2, s1.heap.objs.size + 3, s1.heap.objs.size, s1.heap.objs.size + 1], _, _, H1, rfl, I2,
        turn_zipM (zip_sep2 (fun c hc => by rw [List.mem_singleton.mp hc]; exact l1) (fun c hc => by rw [List.mem_singleton.mp hc]; exact l2)) (Nat.ne_of_lt l1) (Nat.ne_of_lt (Nat.lt_succ_of_lt l2)), ⟨hz, hTI, ⟨_, _, hTO⟩, itK h1, itK h2⟩, fresh5, q⟩
theorem walk_zipM {K : PySem.W.Frag} {a b : Addr} {b1 b2 : Bool} {xs ys : List V} {n : Nat} (hn : n = min xs.length ys.length) : Walk (ItzM b1 b2 K a b) n (fun H => SqK b1 K H a xs ∧ SqK b2 K H b ys) (YPair (fun i => xs[i]?) (fun i => ys[i]?)) := by
  subst hn
  refine ⟨fun i _ hi q => ?_, fun _ q => ⟨xs, ys, q.1, q.2, rfl⟩, fun i H v H' _ q y => ?_⟩
  · have h1 : i < xs.length := by omega
    have h2 : i < ys.length := by omega
    exact ⟨xs, ys, xs[i], ys[i], q.1, q.2, by simp [h1], by simp [h2]⟩
  · obtain ⟨T, x, z, h1, h2, h3, h4, h5⟩ := y
    exact ⟨T, x, z, h1, h2, h3, h4 xs q.1, h5 ys q.2⟩
end TT

/-! any(t), t a tuple of ints -/
namespace TT
open PySem PySem.Spec PyProof.Rows L2
def rAnyTI (K : PySem.W.Frag) : List V → Hp → VK → Prop := fun vs H Q => ∃ (a : Addr) (ns : List Int), vs = [V.ref a] ∧ SqT K H a (ns.map V.int) ∧ Q (.bl (ns.any fun n => n != 0)) H
theorem truth_ints {prog : Program} {w : World} {A : Around} {ns : List Int} {its : List Value} (h : Vals (ns.map V.int) its) : TruthOf prog w A (fun i v => its.toArray[i]? = some v) fun i => ns.getD i 0 != 0 := by
  intro i v s Q E hi q
  have hi : its[i]? = some v := by simpa using hi
  have hl := h.length
  rw [List.length_map] at hl
  have hlt := (List.getElem?_eq_some_iff.mp hi).1
  have hn : ns[i]? = some (ns[i]'(by omega)) := List.getElem?_eq_getElem _
  obtain ⟨u, hu, ru⟩ := h.get (show (ns.map V.int)[i]? = some (V.int (ns[i]'(by omega))) by rw [List.getElem?_map, hn]; rfl)
  rw [hi] at hu
  cases (Option.some.inj hu)
  obtain ⟨t, e⟩ := ru
  rw [e]
  refine PyProof.Rows.truthy_int ?_
  have : ns.getD i 0 = ns[i]'(by omega) := by rw [List.getD_eq_getElem?_getD, hn]; rfl
  simp only [this] at q
  exact q
theorem any_rangeI (ns : List Int) : ((List.range ns.length).any fun i => ns.getD i 0 != 0) = ns.any fun n => n != 0 := by
  rw [Bool.eq_iff_iff, List.any_eq_true, List.any_eq_true]
  constructor
  · rintro ⟨i, hi, h⟩
    have hi := List.mem_range.mp hi
    have e : ns.getD i 0 = ns[i]'hi := by rw [List.getD_eq_getElem?_getD, List.getElem?_eq_getElem hi]; rfl
    exact ⟨_, List.getElem_mem hi, by rw [← e]; exact h⟩
  · rintro ⟨x, hx, h⟩
    obtain ⟨i, hi, rfl⟩ := List.getElem_of_mem hx
    refine ⟨i, List.mem_range.mpr hi, ?_⟩
    have e : ns.getD i 0 = ns[i]'hi := by rw [List.getD_eq_getElem?_getD, List.getElem?_eq_getElem hi]; rfl
    rw [e]
    exact h
theorem cr_anyTI {X : Cx} (hc : X.calm = true) : CallR X (.builtin "any") (rAnyTI X.K) := by
  intro pins s σ H vs us Q I r h
  obtain ⟨a, ns, rfl, hs, q⟩ := h
  obtain ⟨its, rv, hl, _⟩ := I.tuple hs
  rw [Vals.ref1 r]
  obtain ⟨o, ho, hcl, n, hd⟩ := id hl
  have hlt := Heap.lt_size ho
  have hlen := rv.length
  rw [List.length_map] at hlen
  refine call_any_walk (iter_tuple hl ⟨s.heap.objs.size, [s.heap.objs.size, a], [s.heap.objs.size], its.toArray.size, _, _, _, rfl, Walks.tuple (prog := X.prog) (w := X.w) (A := X.A.in1) (I.ok.hd hc) s.heap.objs.size a (Nat.ne_of_lt hlt) its.toArray,
    ⟨⟨{ cls := .type "tuple_iterator", data := .fields #[.ref a, .int 0 0] }, by simp [Heap.get?, Heap.push], rfl, rfl⟩, ⟨o, Heap.get?_push_of_some _ ho, hcl, n, hd⟩⟩, truth_ints rv, fun h' tk hk => ?_⟩)
  rw [List.size_toArray, ← hlen, any_rangeI]
  refine ⟨.bl _, H, I.kept fun b o eo => hk b o (fun hm => absurd (Heap.lt_size eo) (by rw [List.mem_singleton.mp hm]; exact Nat.lt_irrefl _)) (Heap.get?_push_of_some _ eo), rfl, q⟩
theorem anyTIK {X : Cx} {K : PySem.W.Frag} (h : X.K = K) (hc : X.calm = true) : CallR X (.builtin "any") (rAnyTI K) := h ▸ cr_anyTI hc
end TT
namespace S4
open PySem L2 TT
theorem catK {X : Cx} {K : PySem.W.Frag} (h : X.K = K) : OpR X (binaryOp .Add) (rCatA K) := h ▸ op_catA
theorem repK {X : Cx} {K : PySem.W.Frag} (h : X.K = K) : OpR X (binaryOp .Mult) (rRepA K) := h ▸ op_repA
theorem slK {X : Cx} {K : PySem.W.Frag} (h : X.K = K) : SlR X (rSlA K) := h ▸ sl_tupA
end S4

/-! any(a), a a list of ints -/
namespace TT
open PySem PySem.Spec PyProof.Rows L2
def rAnyLI (K : PySem.W.Frag) : List V → Hp → VK → Prop := fun vs H Q => ∃ (a : Addr) (ns : List Int), vs = [V.ref a] ∧ SqL K H a (ns.map V.int) ∧ Q (.bl (ns.any fun n => n != 0)) H
theorem cr_anyLI {X : Cx} (hc : X.calm = true) : CallR X (.builtin "any") (rAnyLI X.K) := by
  intro pins s σ H vs us Q I r h
  obtain ⟨a, ns, rfl, hs, q⟩ := h
  obtain ⟨its, rv, hl, _⟩ := I.list hs
  rw [Vals.ref1 r]
  have hlen := rv.length
  rw [List.length_map] at hlen
  refine call_any_walk (iter_any hl.isList fun s₂ e2 st hne => ?_)
  subst e2
  refine ⟨_, _, _, _, _, _, _, rfl, Walks.list (A := X.A.in1) (I.ok.hd hc) _ a hne its.toArray, st, truth_ints rv, fun h' tk hk => ?_⟩
  refine ⟨.bl _, H, I.kept fun b o eo => hk b o (fun hmem => ?_) (Heap.get?_push_of_some _ eo), ?_, q⟩
  · rcases List.mem_cons.mp hmem with e1 | hmem
    · exact absurd (e1 ▸ Heap.lt_size eo) (Nat.lt_irrefl _)
    · cases hmem
  · show Value.bool _ = Value.bool _
    rw [← any_rangeI, List.size_toArray, hlen]
theorem anyLIK {X : Cx} {K : PySem.W.Frag} (h : X.K = K) (hc : X.calm = true) : CallR X (.builtin "any") (rAnyLI K) := h ▸ cr_anyLI hc
theorem anyLK {X : Cx} {K : PySem.W.Frag} (h : X.K = K) (hc : X.calm = true) : CallR X (.builtin "any") (rAny K) := h ▸ cr_any hc
theorem piLK {X : Cx} {K : PySem.W.Frag} {tg l : Expr} {tl : TE} (hh : X.K = K) (hl : PI X tg l (iList X.K tl)) : PI X tg l (iList K tl) := hh ▸ hl
end TT

/-! rules of exceptions and own == that the library lacks -/
namespace EE
open PySem PySem.Spec PyProof.Rows L2
section
variable {X : Cx} {C : Addr} {bmB : List Value} {B newId initId : String}
/-- X() -/
theorem pmk_own0 {x : Str} {p pos : Pos} (F : ExcBaseFacts B newId initId bmB) (q : PySem.W.excIn X.K C bmB newId = true) (gC : X.mg x = some (.ref C)) (kC : PySem.W.keepIn X.K (.ref C) = true) (r : Raises X (.ref C)) (hg : Gl X x)
    (hdb : (x == ("__debug__" : Str)) = false := by decide) : PMk X (.Call (.Name x p) [] [] pos) (fun _ H Q => Q (.ref C) none H) := by
  intro pins s σ H Q I h
  refine wpAny_Call_Name_kw (ld_glob I hg gC ?_ hdb)
  obtain ⟨bm, N, nm, qn, bs, hdct, sn, sub, ab, col, dd, k0, k1, k2, k3, k5, mN, hC, hN, hni, T⟩ := exc_obj I.kIn q
  refine PySem.W.callWith_K0 I.kIn kC ?_
  refine wpAny_call_exc_subT F T hC hN hni (fun h' e hm => ?_) (Nat.zero_le _)
  exact mk_of I hm r h (I.hok.gone hm.new)
end
/-! ### isinstance of a caught error, whatever its own dict -/
end EE
namespace PySem.W
open PySem PySem.Spec PySem.Calls PyProof.Rows
section
variable {prog : Program} {w : World} {A : Around} {E : Value → Shared → Prop} {s : Shared} {K : Frag} {x D : Addr} {ox : Obj} {od : Option Obj}
theorem findObj_dataG {C : Addr} {name : Str} {a g : Value} (hc : (clsIn K C).isSome = true) (ha : findIn K (.ref C) name = some (some a)) (hg : specialIn K a "__get__" = some (some g)) (ht : takesIn K a = some true) : findObj K C od name = some (.bind g a) := by
  obtain ⟨cd, hc⟩ := Option.isSome_iff_exists.mp hc
  unfold findObj
  rw [hc, Option.bind_some, ha, Option.bind_some]
  simp [hg, ht]
theorem kin_classG {Q : Option Value → Shared → Prop} (hga : findIn K (.ref D) "__getattribute__" = some (some (.builtin "BaseException.__getattribute__"))) (hgt : findIn K (.ref D) "__getattr__" = some none) (hsub : subIn K (.ref D) (.type "BaseException") = some true)
    (hdct : hasDictIn K D = true) (ha : findIn K (.ref D) "__class__" = some (some (.builtin "object.__class__")))
    (hn : specialIn K (.builtin "object.__class__") "__get__" = some (some (.builtin "getset_descriptor.__get__"))) (htk : takesIn K (.builtin "object.__class__") = some true) (hm : mroIn K D (.type "object") = some true)
    (X : K.In s.heap) (I : InstAt s.heap x ox D od) (h : Q (some (.ref D)) { s with toks := s.toks + 1 }) : wpAny (model prog w) A (getAttr? (.ref x) "__class__") Q E s := by
  have hf : findObj K D od "__class__" = some (.bind (.builtin "getset_descriptor.__get__") (.builtin "object.__class__")) := findObj_dataG (by obtain ⟨cd, hc, _⟩ := any_some hdct; rw [hc]; rfl) ha hn htk
  obtain ⟨hp, g, d, t, os⟩ := s
  have L0 := I.type (M := model prog w)
  have L1 := looks_findIn (M := model prog w) X hga
  have L2 := looks_findIn (M := model prog w) X hgt
  have L3 := looks_find (M := model prog w) X I hf
  have sub : Looks (model prog w) hp (isInstance (.ref x) (.type "BaseException")) true := L0.andThen (looks_subIn X hsub)
  have hx0 : (false && onTheHeap (Value.builtin "BaseException.__getattribute__")) = false := rfl
  have hx2 : (Value.builtin "BaseException.__getattribute__" == Value.builtin "object.__getattribute__") = false := by decide +kernel
  have hx1 : (onTheHeap (Value.ref D) && Value.builtin "BaseException.__getattribute__" == Value.builtin "object.__getattribute__") = false := by rw [hx2]; rfl
  unfold getAttr? getAttrBy? getAttrBy
  refine wpAny_bind (wpAny_mkText (wpAny_bind (wpAny_attempt (wpAny_holding (wpAny_bind (L0.at (wpAny_bind (L1.at ?_))))))))
  show wpAny _ _ (if (onTheHeap (Value.ref D) && Value.builtin "BaseException.__getattribute__" == Value.builtin "object.__getattribute__") = true then _ else _) _ _ _
  rw [hx1, if_neg Bool.false_ne_true]
  unfold getAttrByItsOwn hookBefore
  refine wpAny_bind ?_
  rw [if_pos (show onTheHeap (Value.ref D) = true from rfl)]
  refine L2.at ?_
  refine wpAny_bind (wpAny_attempt (wpAny_holding ?_))
  unfold callGetattribute
  rw [hx0, if_neg Bool.false_ne_true]
  unfold boundAndCalled
  rw [PySem.F.excAttr_ValueError.ga.bind (.ref x)]
  refine wpAny_bind (wpAny_pure ?_)
  show wpAny _ _ (call (.builtin "BaseException.__getattribute__") [.ref x, .str "__class__" t]) _ _ _
  refine wpAny_call (codeAny_call_builtin PySem.F.excAttr_ValueError.ga.plain PySem.F.entry_bexc_ga ?_)
  refine @check_slot (model prog w) _ _ ⟨hp, g, d, t + 1, os⟩ "BaseException.__getattribute__" "BaseException" "__getattribute__" (.ref x) [.str "__class__" t] [] _ (by decide +kernel) (by decide +kernel) sub (PySem.F.args_bexc_ga (.ref x) (.str "__class__" t)) ?_
  unfold Builtin.«object.__getattribute__»
  refine wpAny_bind (wpAny_of_eq (a := ((Value.ref x : Value), [Value.str "__class__" t])) (by first | rfl | (simp only [slotArgs]; rfl)) ?_)
  refine wpAny_bind (wpAny_pure (wpAny_bind (L0.at (wpAny_bind (L3.at ?_)))))
  show wpAny _ _ (holding [Value.builtin "object.__class__"] (call (.builtin "getset_descriptor.__get__") [.builtin "object.__class__", .ref x, .ref D]) >>= ret) _ _ _
  refine wpAny_bind (wpAny_holding (wpAny_call (class_get (s := ⟨hp, g, d, t + 1, os⟩) (ox := ox) (od := od) X I hm ?_)))
  refine wpAny_pure ?_
  show wpAny _ _ (handedOut (.ref D)) _ _ _
  rw [handedOut_of (v := .ref D) rfl]
  first
    | exact wpAny_pure (wpAny_pure h)
    | exact wpAny_pure h
    | exact wpAny_pure (wpAny_bind (wpAny_pure (wpAny_pure h)))
theorem kitx_excG (hga : findIn K (.ref D) "__getattribute__" = some (some (.builtin "BaseException.__getattribute__"))) (hgt : findIn K (.ref D) "__getattr__" = some none) (hsub : subIn K (.ref D) (.type "BaseException") = some true) (hdct : hasDictIn K D = true) (ha : findIn K (.ref D) "__class__" = some (some (.builtin "object.__class__")))
    (hn : specialIn K (.builtin "object.__class__") "__get__" = some (some (.builtin "getset_descriptor.__get__"))) (htk : takesIn K (.builtin "object.__class__") = some true) (hm : mroIn K D (.type "object") = some true) :
    KitX K (.ref x) (.ref D) (fun h => InstAt h x ox D od) where
  ty := fun _ _ _ I => I.type
  it := fun _ _ X _ => by
    obtain ⟨cdD, hcD, _⟩ := any_some hdct
    unfold clsIn at hcD
    split at hcD
    · rename_i c' d' cd' sl' ho
      intro A' Q' E' s' k q
      unfold isType loadHead
      exact wpAny_bind (wpAny_loadPart (k _ _ (X _ _ ho)) (wpAny_pure q))
    · cases hcD
  ne := fun h tp dd its n sl X htp => by
    obtain ⟨cdD, hcD, _⟩ := any_some hdct
    refine Bool.eq_false_iff.mpr fun q => ?_
    have e : D = tp := Value.ref.inj (beq_iff_eq.mp q)
    subst e
    unfold clsIn at hcD
    split at hcD
    · rename_i c' d' cd' sl' ho
      have z := (X _ _ ho).symm.trans htp
      cases z
    · cases hcD
  ca := fun X I k => kin_classG hga hgt hsub hdct ha hn htk hm X I k
end
end PySem.W
namespace EE
open PySem PySem.Spec PyProof.Rows L2
/-- isinstance(e, c), e the exception that the suite holds, at a; cls its class, d its dict -/
def rIsG (K : PySem.W.Frag) (cls : Value) (d : Option Addr) (a : Addr) : List V → Hp → VK → Prop := fun xs H Q => ∃ (D : Addr) (c : V) (cv : Value) (b : Bool), xs = [.ref a, c] ∧ cls = .ref D ∧ ExcC K D ∧ (d = none ∨ ∃ dd fs, d = some dd ∧ H dd = some (.xd fs)) ∧
  (∀ u, RelV c u → u = cv) ∧ PySem.W.kitOne K (.ref D) cv = some b ∧ Q (.bl b) H
theorem call_isG {X : Cx} {a : Addr} {cls : Value} {d : Option Addr} {oe : Obj} {pn : List (Addr × Obj)} (hz : Zc cls d oe) (hf : ∃ vs, oe.data = .fields vs) : CallR (X.suite a ((a, oe) :: pn)) (.builtin "isinstance") (rIsG X.K cls d a) := by
  intro pins s σ H xs us Q I r h
  obtain ⟨D, c, cv, b, rfl, rfl, C, hd, hcv, e, q⟩ := h
  cases r with
  | cons rx rr =>
    cases rr with
    | cons rt rr =>
      cases rr
      cases rx
      have ec := hcv _ rt
      subst ec
      obtain ⟨hget, _⟩ := I.pin (a, oe) (List.mem_append.mpr (.inl List.mem_cons_self))
      obtain ⟨vs, hv⟩ := hf
      have hno : PySem.W.notCls oe = true := by unfold PySem.W.notCls; rw [hv] <;> rfl
      have J : ∃ od, PySem.W.InstAt s.heap a oe D od := by
        rcases hd with rfl | ⟨dd, fs, rfl, hdd⟩
        · refine ⟨none, hget, hz.1, hno, ?_⟩
          rw [hz.2]
          trivial
        · have hx : ObjOk X.prog X.w H s.heap dd (.xd fs) := I.hok dd _ hdd
          obtain ⟨mA, hns, hr⟩ := hx
          obtain ⟨od, ho, hl⟩ := lookIn_ns hns
          refine ⟨some od, hget, hz.1, hno, ?_⟩
          rw [hz.2]
          exact ho
      obtain ⟨od, J⟩ := J
      exact PySem.W.kia_one (PySem.W.kitx_excG C.hg C.hk C.hs C.hd C.ha C.hn C.ht C.hm) I.kIn J e (fun z => nomatch z) fun tk => ⟨.bl b, H, I.kept (t' := tk) fun _ _ z => z, rfl, q⟩
theorem ref_cls {C : Addr} : ∀ u, RelV (.ref C) u → u = .ref C := fun _ h => h
theorem ty_cls {n : String} : ∀ u, RelV (.ty n) u → u = .type n := fun _ h => h
/-- own classes of exceptions against one another -/
theorem kit_sub {K : PySem.W.Frag} {A C : Addr} {b : Bool} (hC : PySem.W.hasDictIn K C = true) (ht : PySem.W.typeIn K (.ref C) = some (.type "type")) (hs : PySem.W.subIn K (.ref C) (.ref C) = some true) (h : PySem.W.subIn K (.ref A) (.ref C) = some b) : PySem.W.kitOne K (.ref A) (.ref C) = some b := by
  obtain ⟨cd, hc, _⟩ := PySem.W.any_some hC
  unfold PySem.W.kitOne
  by_cases e : A = C
  · subst e
    rw [hs] at h
    rw [if_pos (beq_self_eq_true _)]
    exact h
  · rw [if_neg (by rw [beq_iff_eq]; exact fun z => e (Value.ref.inj z))]
    have e2 : ((PySem.W.clsIn K C).isSome && PySem.W.typeIn K (.ref C) == some (.type "type")) = true := by rw [hc, ht] <;> rfl
    show (if ((PySem.W.clsIn K C).isSome && PySem.W.typeIn K (.ref C) == some (.type "type")) = true then PySem.W.subIn K (.ref A) (.ref C) else none) = some b
    rw [if_pos e2]
    exact h
/-! ### a new object whose __init__ may raise, in a try -/
def tMakeS (C : Addr) (sp : Sp) (E : L2.St → XK) (t : TA) : TE := fun σ H Q => t σ H fun vs H1 => ∀ x dx, H1 x = none → H1 dx = none → dx ≠ x →
  sp (.ref x :: vs) (upd (upd H1 dx (.own x)) x (.ins C dx [])) (fun v H2 => v = .non ∧ Q (.ref x) H2) (E σ)
section
variable {X : Cx} {CX : CXT} {k : Nat} {f C : Addr} {fd : FuncData} {ps : List Str} {sp : Sp} {E : L2.St → XK} {x m : Str} {p pos apos : Pos} {e o fe : Expr} {es : List Expr} {ta tf : TE} {t : TA}
theorem run_makeS {pins : List (Addr × Obj)} {σ : L2.St} {H : Hp} {s : Shared} {Q : VK} {us : List Value} {vs : List V} (M : Mk X.K C f) (F : FnOk X.prog X.w X.K X.mg X.base CX k f fd ps sp) (hr : Room (k + 1) X.A) (hb : Binds X.K fd ps [])
    (hx : PassesAt CX X σ (E σ)) (I : Inv X pins σ H s) (r : Vals vs us)
    (h : ∀ x dx, H x = none → H dx = none → dx ≠ x → sp (.ref x :: vs) (upd (upd H dx (.own x)) x (.ins C dx [])) (fun v H2 => v = .non ∧ Q (.ref x) H2) (E σ)) :
    wpAny (model X.prog X.w) X.A (call (.ref C) us) (EP X pins σ Q) X.xe s := by
  have hq := h (s.heap.objs.size + 1) s.heap.objs.size (I.hok.fresh (Nat.le_succ _)) (I.hok.fresh (Nat.le_refl _)) (Nat.ne_of_lt (Nat.lt_succ_self _))
  have I2 := Inv.made (C := C) I
  have r2 : Vals (V.ref (s.heap.objs.size + 1) :: vs) (Value.ref (s.heap.objs.size + 1) :: us) := .cons rfl r
  have hl : (Value.ref (s.heap.objs.size + 1) :: us).length = ps.length := by
    have e := r2.length
    rw [F.len _ _ _ _ hq] at e
    exact e.symm
  have hbb := hb _ (Value.ref (s.heap.objs.size + 1) :: us) I2.kIn (by rw [List.append_nil]; exact hl)
  rw [List.append_nil] at hbb
  refine wpAny_call (make_map (f := f) I.kIn M.makes M.init (beq_iff_eq.mp M.fn) (codeAny_mono (F.run _ X.stack _ _ ⟨Value.ref (s.heap.objs.size + 1) :: us, []⟩ (Value.ref (s.heap.objs.size + 1) :: us) _ _ (E σ) (hr.make C us [])
    (I2.env0.make C us []) hbb r2 hq) fun r s' hq' => ?_))
  cases r with
  | error e => exact hx pins _ _ e s' I2 hq'
  | ok fl =>
    cases fl with
    | ret u =>
      obtain ⟨v, H', I3, rv, ev, q3⟩ := I2.after hq'
      subst ev
      exact ⟨rv, ⟨V.ref (s.heap.objs.size + 1), H', I3, rfl, q3⟩⟩
    | next => exact False.elim hq'
    | brk => exact False.elim hq'
    | cont => exact False.elim hq'
theorem pe_makeS (M : Mk X.K C f) (F : FnOk X.prog X.w X.K X.mg X.base CX k f fd ps sp) (hr : Room (k + 1) X.A) (hg : Gl X x) (hm : X.mg x = some (.ref C)) (hb : Binds X.K fd ps []) (hx : ∀ σ, PassesAt CX X σ (E σ))
    (ha : PA X (e :: es) t) (hdb : (x == ("__debug__" : Str)) = false := by decide) (he : starEach (e :: es) X.env = (false, eval e X.env) :: starEach es X.env := by rfl) (hpl : (backTo pos (starEach es X.env)).any (·.1) = false := by rfl) :
    PE X (.Call (.Name x p) (e :: es) [] pos) (tMakeS C sp E t) := by
  refine ⟨fun pins s σ H Q I h => ?_⟩
  refine wpAny_Call_Name_kw (ld_glob I hg hm ?_ hdb)
  refine PySem.W.callWith_K (h₀ := X.base) I.ok.mod.kin M.kp (thn (ha.run pos pins s σ H _ I h) fun us s1 ⟨vs, H1, I1, r, q⟩ => ⟨I1.kIn, ?_⟩) he hpl
  exact run_makeS M F hr hb (hx σ) I1 r q
/-- a call of what an expression tells: one of some defs, each with its promise -/
structure HeldS (X : Cx) (CX : CXT) (k : Nat) (f : Addr) (sp : Sp) : Prop where
  ex : ∃ (fd : FuncData) (ps : List Str), FnOk X.prog X.w X.K X.mg X.base CX k f fd ps sp ∧ PySem.W.keepIn X.K (.ref f) = true ∧ Binds X.K fd ps []
def tCallF (S : Addr → Option Sp) (E : L2.St → XK) (tf : TE) (t : TA) : TE := fun σ H Q => tf σ H fun y H0 => ∃ f sp, y = .ref f ∧ S f = some sp ∧ t σ H0 fun vs H1 => sp vs H1 Q (E σ)
end
/-! ### one == other, an own __eq__ -/
/-- the one an instance of the class at C, the other anything that has a class -/
def rEqO (K : PySem.W.Frag) (C : Addr) (sp : Sp) (E : XK) : R2 := fun x y H Q => ∃ a dx fs, x = .ref a ∧ H a = some (.ins C dx fs) ∧ (∃ t, TyX K H y t ∧ PySem.W.notFirst K C t = true) ∧ sp [x, y] H (fun v H' => (∃ b, v = .bl b) ∧ Q v H') E
theorem op_eqO {X : Cx} {CX : CXT} {k : Nat} {C f : Addr} {fd : FuncData} {ps : List Str} {sp : Sp} {E : XK} (F : FnOk X.prog X.w X.K X.mg X.base CX k f fd ps sp) (hr : Room k X.A)
    (hs : PySem.W.findIn X.K (.ref C) "__eq__" = some (some (.ref f))) (hf : PySem.W.isFn X.K (.ref f) = true) (hb : Binds X.K fd ps []) (hx : Passes CX X E) : OpR X (compareOp .Eq) (rEqO X.K C sp E) := by
  intro pins s σ H x y v u Q I rx ry hq
  obtain ⟨a, dx, fs, rfl, ha, ⟨t, ty, nf⟩, q⟩ := hq
  cases rx
  show wpAny (model X.prog X.w) X.A (richCompare .Eq (.ref a) u) (EP X pins σ Q) X.xe s
  obtain ⟨mA, J, _⟩ := ins_get I.hok ha
  obtain ⟨od, J, _⟩ := J.look
  obtain ⟨m, hF⟩ := I.fr
  obtain ⟨Pk, Z, p, hne⟩ := kit_of I ry ty
  refine PySem.W.cmp_K (op := .Eq) (tb := t) hr.units0 hF I.ok.mod.kin J (Z.ty _ _ I.kIn p) nf hs hf ?_
  refine run_fn (dvs := []) (ds := []) (us := [.ref a, u]) (vs := [.ref a, y]) (Q := fun v H' => (∃ b, v = .bl b) ∧ Q v H') F hr hb .nil hx I (.cons rfl (.cons ry .nil)) q |> fun h => wpAny_mono h (fun v' s' hv => ?_) fun _ _ z => z
  obtain ⟨z, H', I', rz, ⟨b, rfl⟩, q'⟩ := hv
  cases rz
  exact ⟨.bl b, H', I', rfl, q'⟩
/-! ### list.count of flat things -/
section
variable {X : Cx}
def rCntF (K : PySem.W.Frag) : V → List V → Hp → VK → Prop := fun x xs H Q => ∃ (p : Addr) (ys : List V) (y : V), x = .ref p ∧ xs = [y] ∧ SqL K H p ys ∧ flatV y = true ∧ ys.all flatV = true ∧ Q (.int ((ys.countP fun z => eqV z y : Nat) : Int)) H
theorem countU {y : V} : ∀ {ys : List V} {its : List Value}, Vals ys its → ys.all flatV = true → its.countP (eqU y) = ys.countP fun z => eqV z y
  | _, _, .nil, _ => rfl
  | z :: ys, _, .cons r t, h => by
    rw [List.all_cons, Bool.and_eq_true] at h
    rw [List.countP_cons, List.countP_cons, countU t h.2, eqU_of r h.1]
theorem mt_countF : MtR X "list.count" (rCntF X.K) := by
  intro pins s σ H x xs v us Q I rx rxs h
  obtain ⟨p, ys, y, rfl, rfl, hs, fy, fys, q⟩ := h
  cases rx
  obtain ⟨u, rfl, ru⟩ := rxs.one
  obtain ⟨its, rv, ⟨⟨cls, dd, data, sl⟩, n, ho, hc, hdn, hd⟩, hlen⟩ := I.list hs
  simp only at hc hd
  subst hc hd
  refine call_meets PySem.F.slot_list_count ⟨_, ho, rfl⟩ PySem.F.entry_list_count (PySem.F.args_list_count_2 _ _)
    (SeqAt.list_countAt p its.toArray n dd sl u (eqU y)) ⟨ho, fun u' hu' => mem_eqAt ru fy rv fys u' (by simpa using hu'), ?_⟩
  refine ⟨.int ((ys.countP fun z => eqV z y : Nat) : Int), H, I.tok _, ⟨s.toks, ?_⟩, q⟩
  show Value.int ((its.toArray.toList.countP (eqU y) : Nat) : Int) s.toks = _
  rw [show its.toArray.toList = its from rfl, countU rv fys]
end
end EE

/-! calls of what an expression tells; == of the same objects -/
namespace EE
open PySem PySem.Spec PyProof.Rows L2
section
variable {X : Cx} {CX : CXT} {k : Nat} {S : Addr → Option Sp} {E : L2.St → XK} {pos : Pos} {e fe : Expr} {es : List Expr} {tf : TE} {t : TA}
theorem pe_callF (hf : PE X fe tf) (A : ∀ f sp, S f = some sp → HeldS X CX k f sp) (hr : Room k X.A) (hx : ∀ σ, PassesAt CX X σ (E σ)) (ha : PA X (e :: es) t)
    (ht : eval (.Call fe (e :: es) [] pos) X.env = (do callWith pos (← eval fe X.env) [] (backTo pos (starEach (e :: es) X.env)) (backToKw pos (keywordEach [] X.env))) := by rfl)
    (he : starEach (e :: es) X.env = (false, eval e X.env) :: starEach es X.env := by rfl) (hpl : (backTo pos (starEach es X.env)).any (·.1) = false := by rfl) : PE X (.Call fe (e :: es) [] pos) (tCallF S E tf t) := by
  refine ⟨fun pins s σ H Q I h => ?_⟩
  refine Call_ (thn (hf.run pins s σ H _ I h) fun u s1 ⟨y, H1, I1, ry, f, sp, ey, hS, q⟩ => ?_) ht
  subst ey
  obtain rfl : u = Value.ref f := ry
  obtain ⟨fd, ps, F, hk, hb⟩ := (A f sp hS).ex
  refine PySem.W.callWith_K (h₀ := X.base) I.ok.mod.kin hk (thn (ha.run pos pins s1 σ H1 _ I1 q) fun us s2 ⟨vs, H2, I2, r, q2⟩ => ⟨I2.kIn, ?_⟩) he hpl
  exact run_fnS F hr hb (hx σ) I2 r q2
end
def DSame : Eqv := fun x y _ => ∃ a, x = .ref a ∧ y = .ref a
theorem mon_same : Mon DSame := fun _ _ _ _ _ d => d
theorem eqG_same {X : Cx} : EqG X 0 DSame := by
  intro A pins s σ H x y u v sb I rx ry d
  obtain ⟨a, rfl, rfl⟩ := d
  cases rx
  cases ry
  exact SeqAt.EqAt.same (A := A) (s := s) (.ref a) X.prog X.w X.xe _ ⟨rfl, H, I, Ext.rfl'⟩
theorem op_eqSame {X : Cx} (hr : Room 1 X.A) : OpR X (compareOp .Eq) (rEqG (DTup X.K DSame)) := op_eqG (rcG_tup mon_same eqG_same) hr
theorem XfC.of {K : PySem.W.Frag} {C : Addr} (e : ExcC K C) : XfC K C := ⟨e.hg, e.hk, e.hs, e.hd⟩
end EE

namespace S4
open PySem L2 TT MM EE
/-! ### rows that are 1 in one place alone -/
theorem vec_zero (n x : Nat) : vec (List.replicate n 0) x = 0 := by
  unfold vec
  rw [List.getD_eq_getElem?_getD]
  cases e : (List.replicate n (0 : Int))[x]? with
  | none => rfl
  | some y => exact (List.mem_replicate.mp (List.mem_of_getElem? e)).2
theorem rep_row (H : Hp) (k : Nat) : (List.replicate k [V.int 0]).flatten = (List.replicate k (0 : Int)).map V.int := by
  induction k with
  | zero => rfl
  | succ k ih => rw [List.replicate_succ, List.replicate_succ, List.flatten_cons, ih, List.map_cons]; rfl
/-- (0,) * k -/
theorem zeros {K : PySem.W.Frag} {H : Hp} {t : Addr} {k : Nat} {Q : V → Hp → Prop} (ht : H t = some (.tup [V.int 0])) (hk : k ≤ 1000) (q : ∀ H' v, Same H H' → rRow H' v (List.replicate k 0) → Q v H') : rRepA K (.ref t) (.int (k : Int)) H Q := by
  refine ⟨t, k, [V.int 0], rfl, rfl, .of ht, by simp, by omega, by omega, by show 1 ≤ 1000; decide, fun e => ?_, fun e p np => ?_⟩
  · have : k = 1 := by omega
    subst this
    exact q H _ (.refl _) ⟨t, rfl, ht⟩
  · refine q _ _ (same_new np) ⟨p, rfl, ?_⟩
    rw [upd_same, Int.toNat_natCast, rep_row H k]
theorem cat_rows {K : PySem.W.Frag} {H : Hp} {u v : V} {l m : List Int} {Q : V → Hp → Prop} (hu : rRow H u l) (hv : rRow H v m) (hz : l.length + m.length ≤ 100000) (q : ∀ H' w, Same H H' → rRow H' w (l ++ m) → Q w H') : rCatA K u v H Q := by
  obtain ⟨a, rfl, ha⟩ := hu
  obtain ⟨b, rfl, hb⟩ := hv
  refine ⟨a, b, _, _, rfl, rfl, .of ha, .of hb, by rw [List.length_map, List.length_map]; exact Nat.le_trans hz (by decide), fun e => ?_, fun _ e => ?_, fun _ _ p np => ?_⟩
  · refine q H _ (.refl _) ⟨b, rfl, ?_⟩
    rw [List.map_eq_nil_iff.mp e]
    exact hb
  · refine q H _ (.refl _) ⟨a, rfl, ?_⟩
    rw [List.map_eq_nil_iff.mp e, List.append_nil]
    exact ha
  · exact q _ _ (same_new np) ⟨p, rfl, by rw [upd_same, List.map_append]⟩
/-- the row that is 1 in a place alone -/
def uRow (n i : Nat) : List Int := List.replicate i 0 ++ [1] ++ List.replicate (n - i - 1) 0
theorem uRow_len {n i : Nat} (h : i < n) : (uRow n i).length = n := by
  unfold uRow
  rw [List.length_append, List.length_append, List.length_replicate, List.length_replicate, List.length_singleton]
  omega
theorem rep_getD (k x : Nat) : (List.replicate k (0 : Int)).getD x 0 = 0 := vec_zero k x
theorem uRow_at {n i : Nat} (x : Nat) : (uRow n i).getD x 0 = if x = i then 1 else 0 := by
  unfold uRow
  rw [List.append_assoc, List.getD_eq_getElem?_getD]
  by_cases h : x < i
  · rw [List.getElem?_append_left (by rw [List.length_replicate]; exact h), ← List.getD_eq_getElem?_getD, rep_getD, if_neg (by omega)]
  · rw [List.getElem?_append_right (by rw [List.length_replicate]; omega), List.length_replicate]
    by_cases e : x = i
    · subst e
      rw [Nat.sub_self, if_pos rfl]
      rfl
    · obtain ⟨y, hy⟩ : ∃ y, x - i = y + 1 := ⟨x - i - 1, by omega⟩
      rw [hy, if_neg e]
      show ((List.replicate (n - i - 1) (0 : Int))[y]?).getD 0 = 0
      rw [← List.getD_eq_getElem?_getD, rep_getD]
def uRows (n : Nat) : List (List Int) := (List.range n).map (uRow n)
section
variable {P : Program} {w : World} {K : PySem.W.Frag} {mg : Str → Option Value} {base : Heap} {cT cS : Addr}
def spUnits : Sp := fun vs H Q _ => ∃ (n : Nat), vs = [.int (n : Int)] ∧ n ≤ 1000 ∧ ∀ H' a xs, Same H H' → H a = none → H' a = some (.lst xs) → Paired (rRow H') xs (uRows n) → Q (.ref a) H'
end
end S4

namespace S4
open PySem L2 TT MM
section
variable {P : Program} {w : World} {K : PySem.W.Frag} {mg : Str → Option Value} {base : Heap} {cT cS : Addr}
/-! ### the rank -/
def spRankOf (K : PySem.W.Frag) : Sp := fun vs H Q _ => ∃ (a : Addr) (p : Int) (wd : Nat) (xs : List V) (rws : List (List Int)), vs = [.int p, .int (wd : Int), .ref a] ∧ SqS K H a xs ∧ Paired (rRow H) xs rws ∧ rws.length ≤ 1000 ∧ Prm p ∧ p ≤ 1000000 ∧ wd ≤ 1000 ∧ (∀ r ∈ rws, isRow r p wd) ∧
  ∀ H' (n : Nat), Same H H' → n ≤ wd → (∀ lad, IsLad p wd rws lad → lad.length = n) → Q (.int (n : Int)) H'
def spWiden (K : PySem.W.Frag) : Sp := fun vs H Q _ => ∃ (H0 : Hp) (a dr : Addr) (p : Int) (wd : Nat) (xs : List V) (rws : List (List Int)), vs = [.int p, .int (wd : Int), .ref dr, .ref a] ∧ Same H0 H ∧ H0 dr = none ∧ H dr = some (.dK []) ∧ SqS K H0 a xs ∧ Paired (rRow H0) xs rws ∧ rws.length ≤ 1000 ∧ Prm p ∧ p ≤ 1000000 ∧ wd ≤ 1000 ∧ (∀ r ∈ rws, isRow r p wd) ∧
  ∀ H' kvs rs, Same H0 H' → H' dr = some (.dK kvs) → Paired (kvR H') kvs rs → St2 p wd rs rws → Q (.ref dr) H'
def spRank (K : PySem.W.Frag) : Sp := fun vs H Q _ => ∃ (a : Addr) (p : Int) (wd : Nat) (xs : List V) (rws : List (List Int)), vs = [.int p, .int (wd : Int), .ref a] ∧ SqS K H a xs ∧ Paired (rRow H) xs rws ∧ rws.length ≤ 200 ∧ NoDiv p ∧ wd ≤ 200 ∧ (∀ r ∈ rws, isRow r p wd) ∧
  ∀ H' (n : Nat), Same H H' → n ≤ wd → (∀ lad, IsLad p wd rws lad → lad.length = n) → Q (.int (n : Int)) H'
end

end S4

namespace S4
open PySem L2 TT MM
theorem up_nodup_same {l m : List Int} (h1 : Up l) (h2 : Up m) (n1 : l.Nodup) (n2 : m.Nodup) (h : ∀ x, x ∈ l ↔ x ∈ m) : l = m := up_same ((List.perm_ext_iff_of_nodup n1 n2).mpr h) h1 h2
theorem sum_sub {f : Int → Nat} : ∀ (posts U : List Int), posts.Nodup → (∀ x ∈ posts, x ∈ U) → (posts.map f).sum ≤ (U.map f).sum
  | [], U, _, _ => Nat.zero_le _
  | x :: posts, U, nd, h => by
    have hx := h x (by simp)
    have pm := (List.perm_cons_erase hx).map f
    have nd' := List.nodup_cons.mp nd
    have := sum_sub (f := f) posts (U.erase x) nd'.2 fun y hy => (List.mem_erase_of_ne (fun e => nd'.1 (by rw [← e]; exact hy))).mpr (h y (by simp [hy]))
    rw [pm.sum_nat, List.map_cons, List.map_cons, List.sum_cons, List.sum_cons]
    omega
theorem toNat_sum : ∀ (l : List Int), (∀ x ∈ l, 0 ≤ x) → (((l.map Int.toNat).sum : Nat) : Int) = l.sum
  | [], _ => rfl
  | x :: l, h => by
    have h0 := h x (by simp)
    rw [List.map_cons, List.sum_cons, List.sum_cons, ← toNat_sum l fun y hy => h y (by simp [hy])]
    omega
theorem numsL_le {holds : List Int} {n : Nat} (oh : CountsOk holds n) {posts : List Int} (nd : posts.Nodup) (hin : ∀ x ∈ posts, x ∈ rng n) : (numsL holds posts).length ≤ 60 := by
  have e1 : (numsL holds posts).length = (posts.map fun q => (holds.getD q.toNat 0).toNat).sum := by
    unfold numsL
    rw [List.length_flatMap]
    congr 1
    refine List.map_congr_left fun q _ => ?_
    unfold heldL
    rw [List.length_map, List.length_range]
  have e2 := sum_sub (f := fun q => (holds.getD q.toNat 0).toNat) posts (rng n) nd hin
  have e3 : (rng n).map (fun q => (holds.getD q.toNat 0).toNat) = holds.map Int.toNat := by
    apply List.ext_getElem
    · rw [List.length_map, List.length_map, rng_len, oh.len]
    · intro i h1 h2
      rw [List.length_map] at h2
      rw [List.getElem_map, List.getElem_map]
      have : (rng n)[i]'(by rw [rng_len]; have := oh.len; omega) = (i : Int) := by
        unfold rng
        rw [List.getElem_map, List.getElem_range]
      rw [this, Int.toNat_natCast, getD_at (List.getElem?_eq_getElem h2)]
  rw [e3] at e2
  have e4 := toNat_sum holds fun x hx => (oh.b x hx).1
  have e5 := oh.s
  omega
/-- the two sides of a way, as lists -/
structure Sides (S : SD) (n : Nat) (z : Int × Int) (near far : List Int) : Prop where
  nu : Up near
  nn : near.Nodup
  nm : ∀ x, x ∈ near ↔ Rch S.ties (some z.2) z.1 x
  fu : Up far
  fn : far.Nodup
  fm : ∀ x, x ∈ far ↔ Rch S.ties (some z.1) z.2 x
  ni : ∀ x ∈ near, x ∈ rng n
  fi : ∀ x ∈ far, x ∈ rng n
theorem farL_len {S : SD} {n : Nat} (ok : WantsOk S.p S.holds.sum n S.wants) (n24 : n ≤ 24) {far : List Int} (nd : far.Nodup) (hin : ∀ x ∈ far, x ∈ rng n) : (farL S.wants far).length ≤ 192 := by
  have h : ∀ l : List Int, (∀ x ∈ l, x ∈ rng n) → (farL S.wants l).length ≤ 8 * l.length := by
    intro l
    induction l with
    | nil => intro _; simp [farL]
    | cons c l ih =>
      intro hl
      have hc := rng_mem.mp (hl c (by simp))
      have hlw := ok.len
      have h8 : (S.wants.getD c.toNat []).length ≤ 8 := by
        rw [getD_at (List.getElem?_eq_getElem (by omega))]
        exact (ok.b _ (List.getElem_mem _)).1
      have := ih fun x hx => hl x (by simp [hx])
      show (((List.range (S.wants.getD c.toNat []).length).map fun (k : Nat) => (c, (k : Int))) ++ farL S.wants l).length ≤ _
      rw [List.length_append, List.length_map, List.length_range, List.length_cons]
      omega
  have := h far hin
  have := nodup_len nd hin
  rw [rng_len] at this
  omega
theorem block_rows {S : SD} {n : Nat} (ok : SheetOk S n) {near far : List Int} (hn : ∀ x ∈ near, x ∈ rng n) (hf : ∀ x ∈ far, x ∈ rng n) : ∀ r ∈ blockL S near far, isRow r S.p ((numsL S.holds near).length : Nat) := fun r hr => by
  obtain ⟨z, hz, rfl⟩ := List.mem_map.mp hr
  obtain ⟨h1, h2, h3⟩ := farL_in hz
  have hz1 := rng_mem.mp (hf _ h1)
  have hlw := ok.wants.len
  have e1 := getD_at (d := []) (List.getElem?_eq_getElem (l := S.wants) (i := z.1.toNat) (by omega))
  rw [e1] at h3
  have hw := (ok.wants.b _ (List.getElem_mem (l := S.wants) (n := z.1.toNat) (by omega))).2 _ (List.getElem_mem (l := S.wants[z.1.toNat]'(by omega)) (n := z.2.toNat) (by omega))
  have e2 := getD_at (d := []) (List.getElem?_eq_getElem (l := S.wants[z.1.toNat]'(by omega)) (i := z.2.toNat) (by omega))
  rw [e1, e2]
  refine ⟨by unfold cutL; rw [List.length_map], fun x hx => ?_⟩
  obtain ⟨i, hi, rfl⟩ := List.mem_map.mp hx
  exact getD_in (by have := ok.clock.prm.1; omega) hw.2 _
section
variable {P : Program} {w : World} {K : PySem.W.Frag} {mg : Str → Option Value} {base : Heap} {cT cS : Addr}
def spToll (cT cS : Addr) : Sp := fun vs H Q _ => ∃ (u v : V) (S : SD) (z : Int × Int) (n : Nat), vs = [u, v] ∧ rSheet cT cS H u S ∧ rPI H v z ∧ SheetOk S n ∧ WayOk S n z ∧
  ∀ H' k near far, Same H H' → Sides S n z near far → (∀ lad, IsLad S.p (numsL S.holds near).length (blockL S near far) lad → lad.length = k) → k ≤ 60 → Q (.int (k : Nat)) H'
end
end S4

namespace S4
open PySem L2 TT MM
/-! ### longer rows: what stands behind the places goes along -/
def tr (wd : Nat) (rs : RG) : RG := rs.map fun z => (z.1, z.2.take wd)
theorem tr_keys (wd : Nat) (rs : RG) : (tr wd rs).map (·.1) = rs.map (·.1) := by unfold tr; rw [List.map_map]; rfl
theorem getD_take {l : List Int} {wd i : Nat} (h : i < wd) : (l.take wd).getD i 0 = l.getD i 0 := by
  rw [List.getD_eq_getElem?_getD, List.getElem?_take, if_pos h, List.getD_eq_getElem?_getD]
theorem less_take {p : Int} {l r : List Int} {m : Int} {wd : Nat} : (lessL p l r m).take wd = lessL p (l.take wd) (r.take wd) m := by
  unfold lessL
  rw [← List.map_take, List.take_range, List.length_take]
  refine List.map_congr_left fun i hi => ?_
  have hi := List.mem_range.mp hi
  rw [getD_take (by omega), getD_take (by omega)]
theorem clr1_take {p : Int} {l : List Int} {z : Nat × List Int} {wd : Nat} (h : z.1 < wd) : (clr1 p l z).take wd = clr1 p (l.take wd) (z.1, z.2.take wd) := by
  unfold clr1
  rw [getD_take h]
  split
  · rfl
  · exact less_take
theorem clr_take {p : Int} {wd : Nat} : ∀ (rs : RG) (l : List Int), (∀ z ∈ rs, z.1 < wd) → (clr p rs l).take wd = clr p (tr wd rs) (l.take wd)
  | [], _, _ => rfl
  | z :: rs, l, h => by
    show (clr p rs (clr1 p l z)).take wd = clr p (tr wd rs) (clr1 p (l.take wd) (z.1, z.2.take wd))
    rw [clr_take rs _ fun y hy => h y (by simp [hy]), clr1_take (h z (by simp))]
theorem mul_take {p u : Int} {l : List Int} {wd : Nat} : (mulL p u l).take wd = mulL p u (l.take wd) := by unfold mulL; rw [List.map_take]
theorem putIn_tr {p : Int} {wd k : Nat} {rs : RG} {g : List Int} (hk : k < wd) : tr wd (putIn p rs k g) = putIn p (tr wd rs) k (g.take wd) := by
  unfold tr putIn
  rw [List.map_append, List.map_map, List.map_map]
  congr 1
  refine List.map_congr_left fun z _ => ?_
  show (z.1, (clr1 p z.2 (k, g)).take wd) = (z.1, clr1 p (z.2.take wd) (k, g.take wd))
  rw [clr1_take hk]
theorem clr_span {p : Int} {R : Vc → Prop} : ∀ (rs : RG) (l : List Int), (∀ z ∈ rs, Spn p R (vec z.2) ∧ z.2.length = l.length) → Spn p R (fun x => vec l x - vec (clr p rs l) x)
  | [], l, _ => .zero fun x => .of_eq (by show vec l x - vec l x = 0; omega)
  | z :: rs, l, h => by
    obtain ⟨h1, h2⟩ := h z (by simp)
    have s : ∀ x, Cg p (vec (clr1 p l z) x) (vec l x - vec l z.1 * vec z.2 x) := fun x => clr1_vec h2 x
    have a := clr_span rs (clr1 p l z) fun y hy => by
      obtain ⟨b, c⟩ := h y (by simp [hy])
      exact ⟨b, by rw [clr1_len]; exact c⟩
    have e : clr p (z :: rs) l = clr p rs (clr1 p l z) := rfl
    rw [e]
    refine .plus (vec l z.1) a h1 fun x => ?_
    have h4 := ((s x).symm.add (Cg.refl (p := p) (vec l z.1 * vec z.2 x))).sub (Cg.refl (p := p) (vec (clr p rs (clr1 p l z)) x))
    refine ((Cg.of_eq ?_).trans h4).trans (.of_eq ?_) <;> omega
def inRows (rows : List (List Int)) : Vc → Prop := fun v => ∃ l ∈ rows, v = vec l
theorem in_more {p : Int} {rows : List (List Int)} {row : List Int} {v : Vc} (h : Spn p (inRows rows) v) : Spn p (inRows (rows ++ [row])) v := h.mono fun r ⟨l, hl, e⟩ => ⟨l, List.mem_append_left _ hl, e⟩
structure St1W (p : Int) (wd W : Nat) (rs : RG) (rows : List (List Int)) : Prop where
  st : St1 p wd (tr wd rs) (rows.map (List.take wd))
  ok : ∀ z ∈ rs, z.1 < wd ∧ z.2.length = W ∧ InB p z.2
  room : ∀ z ∈ rs, Spn p (inRows rows) (vec z.2)
section
variable {p : Int} {wd W : Nat} {rs : RG} {rows : List (List Int)} {row : List Int}
theorem St1W.nil (p : Int) (wd W : Nat) : St1W p wd W [] [] := ⟨St1.nil p wd, fun z h => (nomatch h), fun z h => (nomatch h)⟩
theorem St1W.nd (S : St1W p wd W rs rows) : (rs.map (·.1)).Nodup := by rw [← tr_keys wd]; exact S.st.lad.nd
theorem St1W.len (S : St1W p wd W rs rows) : rs.length ≤ wd := by
  have := S.st.len
  unfold tr at this
  rwa [List.length_map] at this
theorem St1W.clrT (S : St1W p wd W rs rows) (l : List Int) : (clr p rs l).take wd = clr p (tr wd rs) (l.take wd) := clr_take rs l fun z hz => (S.ok z hz).1
theorem St1W.rest (S : St1W p wd W rs rows) (hl : row.length = W) : Spn p (inRows rows) (fun x => vec row x - vec (clr p rs row) x) := clr_span rs row fun z hz => ⟨S.room z hz, by rw [(S.ok z hz).2.1, hl]⟩
theorem St1W.restD (S : St1W p wd W rs rows) {x : Nat} (hx : x < wd) : (clr p (tr wd rs) (row.take wd)).getD x 0 = (clr p rs row).getD x 0 := by rw [← S.clrT, getD_take hx]
theorem St1W.skip (S : St1W p wd W rs rows) (hw : wd ≤ W) (hl : row.length = W) (hz : ∀ x, x < wd → (clr p rs row).getD x 0 = 0) : St1W p wd W rs (rows ++ [row]) ∧ Spn p (inRows (rows.map (List.take wd))) (vec (row.take wd)) := by
  have htl : (row.take wd).length = wd := by rw [List.length_take]; omega
  have h0 : ∀ x, x < wd → (clr p (tr wd rs) (row.take wd)).getD x 0 = 0 := fun x hx => by rw [S.restD hx]; exact hz x hx
  refine ⟨⟨?_, S.ok, fun z h => in_more (S.room z h)⟩, ?_⟩
  · rw [List.map_append]
    exact S.st.skip htl h0
  · obtain ⟨a, _⟩ := S.st.clear htl
    refine ((S.st.room _).mp a).cg fun x => ?_
    have e : vec (clr p (tr wd rs) (row.take wd)) x = 0 := by
      by_cases hx : x < wd
      · exact h0 x hx
      · exact vec_over (by rw [clr_len]; omega)
    rw [e, Int.sub_zero]
    exact .refl _
theorem St1W.put (S : St1W p wd W rs rows) (hw : wd ≤ W) (p2 : 2 ≤ p) (hl : row.length = W) (hin : InB p row) {k : Nat} {u : Int} (hk : k < wd) (h0 : (clr p rs row).getD k 0 ≠ 0) (hz : ∀ x, x < k → (clr p rs row).getD x 0 = 0)
    (hu : Cg p (u * (clr p rs row).getD k 0) 1) : St1W p wd W (putIn p rs k (mulL p u (clr p rs row))) (rows ++ [row]) ∧ ¬ Spn p (inRows (rows.map (List.take wd))) (vec (row.take wd)) := by
  have p0 : 0 < p := by omega
  have htl : (row.take wd).length = wd := by rw [List.length_take]; omega
  have hti : InB p (row.take wd) := fun x hx => hin x (List.mem_of_mem_take hx)
  have hcl : (clr p rs row).length = W := by rw [clr_len]; exact hl
  have gl : (mulL p u (clr p rs row)).length = W := by unfold mulL; rw [List.length_map]; exact hcl
  have gi : InB p (mulL p u (clr p rs row)) := fun x hx => by
    obtain ⟨y, _, rfl⟩ := List.mem_map.mp hx
    exact mod_b p0
  have hr : Spn p (inRows (rows ++ [row])) (vec (clr p rs row)) := .plus (-1) (.row ⟨row, by simp, rfl⟩) (in_more (S.rest hl)) fun x => .of_eq (by omega)
  have hg : Spn p (inRows (rows ++ [row])) (vec (mulL p u (clr p rs row))) := .plus u (.zero (v := fun _ => 0) fun _ => .refl 0) hr fun x => (mulL_vec x).trans (.of_eq (by omega))
  refine ⟨⟨?_, fun z h => ?_, fun z h => ?_⟩, fun hs => ?_⟩
  · rw [putIn_tr hk, mul_take, S.clrT, List.map_append]
    exact S.st.put p2 htl hti hk (by rw [S.restD hk]; exact h0) (fun x hx => by rw [S.restD (by omega)]; exact hz x hx) (by rw [S.restD hk]; exact hu)
  · rcases List.mem_append.mp h with h | h
    · obtain ⟨y, hy, rfl⟩ := List.mem_map.mp h
      obtain ⟨b1, b2, b3⟩ := S.ok y hy
      exact ⟨b1, by show (clr p _ y.2).length = W; rw [clr_len]; exact b2, clr_in p0 _ b3⟩
    · rw [List.mem_singleton.mp h]
      exact ⟨hk, gl, gi⟩
  · rcases List.mem_append.mp h with h | h
    · obtain ⟨y, hy, rfl⟩ := List.mem_map.mp h
      refine .plus (-(vec y.2 k)) (in_more (S.room y hy)) hg fun x => ?_
      refine (clr1_vec (z := (k, mulL p u (clr p rs row))) (by rw [(S.ok y hy).2.1]; exact gl) x).trans (.of_eq ?_)
      rw [Int.neg_mul]
      show _ - vec y.2 k * vec (mulL p u (clr p rs row)) x = _
      omega
    · rw [List.mem_singleton.mp h]
      exact hg
  · obtain ⟨a, b⟩ := S.st.clear htl
    have hd : Spn p (rungs ((tr wd rs).map (·.1)) (rv (tr wd rs))) (vec (clr p (tr wd rs) (row.take wd))) := .plus (-1) ((S.st.room _).mpr hs) a fun x => .of_eq (by omega)
    have := S.st.lad.zero hd b k
    have e : vec (clr p (tr wd rs) (row.take wd)) k = (clr p rs row).getD k 0 := S.restD hk
    rw [e] at this
    have c := getD_in p0 (clr_in p0 rs hin) k
    exact h0 (this.zero_of c.1 c.2)
end
/-- the numbers of the rows that those ahead do not span -/
noncomputable def nwL (p : Int) (wd : Nat) (rows : List (List Int)) : Nat → List Nat
  | 0 => []
  | i + 1 => nwL p wd rows i ++ (open Classical in if Spn p (inRows ((rows.take i).map (List.take wd))) (vec ((rows.getD i []).take wd)) then [] else [i])
theorem nwL_len (p : Int) (wd : Nat) (rows : List (List Int)) : ∀ i, (nwL p wd rows i).length ≤ i
  | 0 => Nat.le_refl _
  | i + 1 => by
    have := nwL_len p wd rows i
    unfold nwL
    rw [List.length_append]
    split
    · show _ + 0 ≤ _; omega
    · show _ + 1 ≤ _; omega
theorem nwL_in {p : Int} {wd : Nat} {rows : List (List Int)} {i : Nat} (h : Spn p (inRows ((rows.take i).map (List.take wd))) (vec ((rows.getD i []).take wd))) : nwL p wd rows (i + 1) = nwL p wd rows i := by
  rw [nwL, if_pos h, List.append_nil]
theorem nwL_out {p : Int} {wd : Nat} {rows : List (List Int)} {i : Nat} (h : ¬ Spn p (inRows ((rows.take i).map (List.take wd))) (vec ((rows.getD i []).take wd))) : nwL p wd rows (i + 1) = nwL p wd rows i ++ [i] := by
  rw [nwL, if_neg h]
end S4

namespace S4
open PySem L2 TT MM
structure RGSW (H0 : Hp) (dr nw : Addr) (rs : RG) (ns : List Nat) (H : Hp) : Prop where
  same : Same H0 H
  d0 : H0 dr = none
  n0 : H0 nw = none
  ne : dr ≠ nw
  dict : ∃ kvs, H dr = some (.dK kvs) ∧ Paired (kvR H) kvs rs
  news : H nw = some (.lst (ns.map fun k => V.int (k : Nat)))
theorem RGSW.more {H0 : Hp} {dr nw : Addr} {rs : RG} {ns : List Nat} {H H' : Hp} (R : RGSW H0 dr nw rs ns H) (s : Same H H') : RGSW H0 dr nw rs ns H' :=
  ⟨R.same.trans s, R.d0, R.n0, R.ne, let ⟨kvs, a, b⟩ := R.dict; ⟨kvs, s _ _ a, kvR_mono (fun _ _ h => s _ _ h) b⟩, s _ _ R.news⟩
theorem RGSW.setD {H0 : Hp} {dr nw : Addr} {rs rs' : RG} {ns : List Nat} {H : Hp} (R : RGSW H0 dr nw rs ns H) {kvs : List (L2.Key × V)} (h : Paired (kvR H) kvs rs') : RGSW H0 dr nw rs' ns (upd H dr (.dK kvs)) := by
  obtain ⟨kv0, a, b⟩ := R.dict
  exact ⟨same_own R.same R.d0, R.d0, R.n0, R.ne, ⟨kvs, upd_same, kvR_mono (fun t xs h => by rw [upd_ne (ne_of h a (fun z => nomatch z))]; exact h) h⟩, by rw [upd_ne R.ne.symm]; exact R.news⟩
section
variable {P : Program} {w : World} {K : PySem.W.Frag} {mg : Str → Option Value} {base : Heap} {cT cS : Addr}
def spRungsW : Sp := fun vs H Q _ => ∃ (a : Addr) (p : Int) (wd W : Nat) (xs : List V) (rws : List (List Int)), vs = [.int p, .int (wd : Int), .ref a] ∧ SqS K H a xs ∧ Paired (rRow H) xs rws ∧ rws.length ≤ 1000 ∧ Prm p ∧ p ≤ 1000000 ∧ wd ≤ W ∧ W ≤ 1000 ∧ (∀ r ∈ rws, isRow r p W) ∧
  ∀ H' t dr nw rs, Same H H' → H' t = some (.tup [.ref dr, .ref nw]) → H dr = none → H nw = none → (∃ kvs, H' dr = some (.dK kvs) ∧ Paired (kvR H') kvs rs) → H' nw = some (.lst ((nwL p wd rws rws.length).map fun k => V.int (k : Nat))) → St1W p wd W rs rws → rs.length ≤ rws.length → Q (.ref t) H'
end
end S4

namespace S4
open PySem L2 TT MM EE
theorem isRow_len {l : List Int} {p : Int} {wd : Nat} (h : isRow l p wd) : l.length = wd := by have := h.1; omega
def dotC (r : List Int) (B : List (List Int)) (x : Nat) : Int := sumP (List.range B.length) fun j => r.getD j 0 * (B.getD j []).getD x 0
/-! ### mixtures -/
/-- how many times each row goes into one -/
def IsMix (p : Int) (wd : Nat) (rws : List (List Int)) (row l : List Int) : Prop := l.length = rws.length ∧ InB p l ∧ ∀ x, x < wd → Cg p (row.getD x 0) (dotC l rws x)
/-- the rows with their marks -/
def withMarks (rws : List (List Int)) : List (List Int) := (List.range rws.length).map fun i => rws.getD i [] ++ uRow rws.length i
theorem SqS.or {K : PySem.W.Frag} {H : Hp} {a : Addr} {xs : List V} (h : SqS K H a xs) : SqL K H a xs ∨ SqT K H a xs := h.elim (fun h => .inl (.of h)) fun h => .inr (.of h)
theorem SqS.kd {K : PySem.W.Frag} {H : Hp} {a : Addr} {xs : List V} (h : SqS K H a xs) : ∃ b, SqK b K H a xs ∧ ∀ H', Same H H' → SqK b K H' a xs := h.elim (fun h => ⟨true, .of h, fun H' s => .of (s _ _ h)⟩) fun h => ⟨false, .of h, fun H' s => .of (s _ _ h)⟩
theorem slice_fromP {K : PySem.W.Frag} {H : Hp} {a : Addr} {xs : List V} {k : Nat} {Q : VK} (h : H a = some (.tup xs)) (hk : k ≤ xs.length) (q : ∀ H' p, Same H H' → H' p = some (.tup (xs.drop k)) → Q (.ref p) H') : rSlA K (.ref a) (some (k : Int)) none H Q := by
  have ec : cutV xs (some (k : Int)) none = xs.drop k := by
    unfold cutV
    rw [HT.sIx_none, HT.sIx_nat, Nat.min_eq_left hk, List.take_of_length_le (by rw [List.length_drop]; omega)]
  refine ⟨a, xs, rfl, .of h, fun e => q H a (.refl _) ?_, fun _ p np => ?_⟩
  · rw [HT.sIx_nat, Nat.min_eq_left hk] at e
    have e1 := e.1
    rw [e1, List.drop_zero]
    exact h
  · rw [ec]
    exact q _ p (same_new np) upd_same
/-! ### marks -/
theorem marks_at {rws : List (List Int)} {i : Nat} (h : i < rws.length) : (withMarks rws)[i]? = some (rws.getD i [] ++ uRow rws.length i) := by
  unfold withMarks
  rw [List.getElem?_map, List.getElem?_range h]
  rfl
theorem marks_len (rws : List (List Int)) : (withMarks rws).length = rws.length := by unfold withMarks; rw [List.length_map, List.length_range]
section
variable {p : Int} {wd : Nat} {rws : List (List Int)}
theorem getD_mem {i : Nat} (h : i < rws.length) : rws.getD i [] ∈ rws ∧ rws[i]? = some (rws.getD i []) := by
  have e : rws[i]? = some rws[i] := List.getElem?_eq_getElem h
  have e2 : rws.getD i [] = rws[i] := by rw [List.getD_eq_getElem?_getD, e]; rfl
  rw [e2]
  exact ⟨List.getElem_mem h, e⟩
theorem marks_row (p2 : 2 ≤ p) (hr : ∀ r ∈ rws, isRow r p wd) : ∀ r ∈ withMarks rws, isRow r p ((wd + rws.length : Nat) : Int) := fun r hr2 => by
  unfold withMarks at hr2
  obtain ⟨i, hi, rfl⟩ := List.mem_map.mp hr2
  have hi := List.mem_range.mp hi
  have h1 := hr _ (getD_mem hi).1
  refine ⟨by rw [List.length_append, isRow_len h1, uRow_len hi], fun v hv => ?_⟩
  rcases List.mem_append.mp hv with h | h
  · exact h1.2 v h
  · unfold uRow at h
    simp only [List.mem_append, List.mem_replicate, List.mem_singleton] at h
    rcases h with (⟨_, rfl⟩ | rfl) | ⟨_, rfl⟩ <;> omega
theorem app_at {a b : List Int} {x : Nat} : (a ++ b).getD x 0 = if x < a.length then a.getD x 0 else b.getD (x - a.length) 0 := by
  rw [List.getD_eq_getElem?_getD]
  split
  · rename_i h; rw [List.getElem?_append_left h, ← List.getD_eq_getElem?_getD]
  · rename_i h; rw [List.getElem?_append_right (by omega), ← List.getD_eq_getElem?_getD]
theorem marks_take (hr : ∀ r ∈ rws, isRow r p wd) : (withMarks rws).map (List.take wd) = rws := by
  apply List.ext_getElem?
  intro i
  rw [List.getElem?_map]
  by_cases h : i < rws.length
  · rw [marks_at h, (getD_mem h).2]
    show some _ = some _
    rw [List.take_left' (isRow_len (hr _ (getD_mem h).1))]
  · rw [List.getElem?_eq_none (by rw [marks_len]; omega), List.getElem?_eq_none (by omega)]
    rfl
/-- the marks tell how a row is made -/
theorem marks_rel (hr : ∀ r ∈ rws, isRow r p wd) {v : Vc} (h : Spn p (inRows (withMarks rws)) v) : ∀ x, x < wd → Cg p (v x) (sumP (List.range rws.length) fun j => v (wd + j) * (rws.getD j []).getD x 0) := by
  induction h with
  | @zero v h =>
    intro x _
    refine (h x).trans (sumP_zero fun j _ => ?_).symm
    have := (h (wd + j)).mul (Cg.refl (p := p) ((rws.getD j []).getD x 0))
    rwa [Int.zero_mul] at this
  | @add u r v c hu hm h ih =>
    intro x hx
    obtain ⟨l, hl, rfl⟩ := hm
    unfold withMarks at hl
    obtain ⟨i, hi, rfl⟩ := List.mem_map.mp hl
    have hi := List.mem_range.mp hi
    have hil := isRow_len (hr _ (getD_mem hi).1)
    have e1 : vec (rws.getD i [] ++ uRow rws.length i) x = (rws.getD i []).getD x 0 := by unfold vec; rw [app_at, if_pos (by omega)]
    have e2 : ∀ j, vec (rws.getD i [] ++ uRow rws.length i) (wd + j) = if j = i then 1 else 0 := fun j => by
      unfold vec
      rw [app_at, if_neg (by omega), uRow_at, hil]
      by_cases q : j = i
      · rw [if_pos q, if_pos (by omega)]
      · rw [if_neg q, if_neg (by omega)]
    have h1 : Cg p (sumP (List.range rws.length) fun j => v (wd + j) * (rws.getD j []).getD x 0) (sumP (List.range rws.length) fun j => u (wd + j) * (rws.getD j []).getD x 0 + c * ((if j = i then 1 else 0) * (rws.getD j []).getD x 0)) := sumP_cg fun j _ => by
      have := (h (wd + j)).mul (Cg.refl (p := p) ((rws.getD j []).getD x 0))
      rw [e2] at this
      refine this.trans (.of_eq ?_)
      rw [Int.add_mul, Int.mul_assoc]
    rw [sumP_add, sumP_mul] at h1
    have h2 : Cg p (sumP (List.range rws.length) fun j => (if j = i then 1 else 0) * (rws.getD j []).getD x 0) ((rws.getD i []).getD x 0) := by
      refine (sumP_one (k := i) List.nodup_range (List.mem_range.mpr hi) fun j _ e => ?_).trans ?_
      · rw [if_neg e, Int.zero_mul]; exact .refl 0
      · rw [if_pos rfl, Int.one_mul]; exact .refl _
    have h3 := (h x)
    rw [e1] at h3
    exact h3.trans (((ih x hx).add ((Cg.refl c).mul h2.symm)).trans h1.symm)
theorem zrow_take {row : List Int} (hw : row.length = wd) (m : Nat) : (row ++ List.replicate m 0).take wd = row := List.take_left' hw
theorem mix_of (p2 : 2 ≤ p) (hr : ∀ r ∈ rws, isRow r p wd) {row : List Int} (hrow : isRow row p wd) {rs : RG} (S : St1W p wd (wd + rws.length) rs (withMarks rws)) (hz : ∀ x, x < wd → (clr p rs (row ++ List.replicate rws.length 0)).getD x 0 = 0) :
    Spn p (inRows rws) (vec row) ∧ IsMix p wd rws row (((clr p rs (row ++ List.replicate rws.length 0)).drop wd).map fun v => -v % p) := by
  have hl := isRow_len hrow
  have hrl : (row ++ List.replicate rws.length 0).length = wd + rws.length := by rw [List.length_append, List.length_replicate, hl]
  obtain ⟨_, sp⟩ := S.skip (by omega) hrl hz
  rw [marks_take hr, zrow_take hl] at sp
  refine ⟨sp, ?_, fun y hy => ?_, fun x hx => ?_⟩
  · rw [List.length_map, List.length_drop, clr_len, hrl]; omega
  · obtain ⟨z, _, rfl⟩ := List.mem_map.mp hy
    exact mod_b (by omega)
  · have h1 := marks_rel hr (S.rest hrl) x hx
    have e1 : vec (row ++ List.replicate rws.length 0) x = row.getD x 0 := by unfold vec; rw [app_at, if_pos (by omega)]
    have e2 : vec (clr p rs (row ++ List.replicate rws.length 0)) x = 0 := hz x hx
    rw [e1, e2, Int.sub_zero] at h1
    refine h1.trans (sumP_cg fun j hj => ?_)
    have hj := List.mem_range.mp hj
    refine Cg.mul ?_ (.refl _)
    have e3 : vec (row ++ List.replicate rws.length 0) (wd + j) = 0 := by unfold vec; rw [app_at, if_neg (by omega), rep_getD]
    have e4 : (((clr p rs (row ++ List.replicate rws.length 0)).drop wd).map fun v => -v % p).getD j 0 = (-(clr p rs (row ++ List.replicate rws.length 0)).getD (wd + j) 0) % p := by
      rw [List.getD_eq_getElem?_getD, List.getElem?_map, List.getElem?_drop]
      have hlt : wd + j < (clr p rs (row ++ List.replicate rws.length 0)).length := by rw [clr_len, hrl]; omega
      rw [List.getElem?_eq_getElem hlt, List.getD_eq_getElem?_getD, List.getElem?_eq_getElem hlt]
      rfl
    rw [e3, e4]
    refine (Cg.of_eq ?_).trans (Cg.mod _).symm
    show 0 - (clr p rs (row ++ List.replicate rws.length 0)).getD (wd + j) 0 = _
    omega
theorem mix_no (prm : Prm p) (hr : ∀ r ∈ rws, isRow r p wd) {row : List Int} (hrow : isRow row p wd) {rs : RG} (S : St1W p wd (wd + rws.length) rs (withMarks rws)) {k : Nat} (hk : k < wd) (h0 : (clr p rs (row ++ List.replicate rws.length 0)).getD k 0 ≠ 0)
    (hz : ∀ x, x < k → (clr p rs (row ++ List.replicate rws.length 0)).getD x 0 = 0) : ¬ Spn p (inRows rws) (vec row) := by
  have p2 := prm.1
  have hl := isRow_len hrow
  have hrl : (row ++ List.replicate rws.length 0).length = wd + rws.length := by rw [List.length_append, List.length_replicate, hl]
  have hin : InB p (row ++ List.replicate rws.length 0) := fun v hv => by
    rcases List.mem_append.mp hv with h | h
    · exact hrow.2 v h
    · rw [(List.mem_replicate.mp h).2]; omega
  have hb := getD_in (by omega) (clr_in (by omega) rs hin) k
  obtain ⟨u, hu⟩ := prm.inv (v := (clr p rs (row ++ List.replicate rws.length 0)).getD k 0) (by omega) (by omega)
  obtain ⟨_, sn⟩ := S.put (by omega) p2 hrl hin hk h0 hz hu
  rwa [marks_take hr, zrow_take hl] at sn
end
def rMix (p : Int) (wd : Nat) (rws : List (List Int)) : Rp (List Int) := fun H v row => ∃ l, rRow H v l ∧ IsMix p wd rws row l
theorem mono_mix (p : Int) (wd : Nat) (rws : List (List Int)) : Mono (rMix p wd rws) := fun _ _ _ _ k ⟨l, h1, h2⟩ => ⟨l, mono_row _ _ _ _ k h1, h2⟩
section
variable {P : Program} {w : World} {K : PySem.W.Frag} {mg : Str → Option Value} {base : Heap} {cT cS : Addr}
def spMixs (K : PySem.W.Frag) : Sp := fun vs H Q _ => ∃ (a b : Addr) (p : Int) (wd : Nat) (xs : List V) (rws : List (List Int)) (us : List V) (R : List (List Int)), vs = [.int p, .int (wd : Int), .ref a, .ref b] ∧ SqS K H a xs ∧ Paired (rRow H) xs rws ∧ rws.length ≤ 400 ∧ Prm p ∧ p ≤ 1000000 ∧ wd ≤ 400 ∧ (∀ r ∈ rws, isRow r p wd) ∧
  H b = some (.lst us) ∧ Paired (rRow H) us R ∧ R.length ≤ 400 ∧ (∀ row ∈ R, isRow row p wd ∧ Spn p (inRows rws) (vec row)) ∧ ∀ H' c vs', Same H H' → H c = none → H' c = some (.lst vs') → Paired (rMix p wd rws H') vs' R → Q (.ref c) H'
end
end S4

namespace S4
open PySem L2 TT MM
/-! ### trees built leaf by leaf -/
def Rooted (ties : List (Int × Int)) (s : Int) : Prop := ∃ par : Int → Int, ∀ u v, v ∈ nb ties u → (v = par u ∧ u ≠ s) ∨ (u = par v ∧ v ≠ s)
def tieOf (l q : Int) : Int × Int := if l < q then (l, q) else (q, l)
inductive Tr : List Int → List (Int × Int) → Prop
  | one (a : Int) : Tr [a] []
  | leaf {vs : List Int} {es : List (Int × Int)} {l q : Int} : Tr vs es → q ∈ vs → l ∉ vs → Tr (vs ++ [l]) (es ++ [tieOf l q])
theorem tieOf_mem {l q u v : Int} : ((u, v) = tieOf l q ∨ (v, u) = tieOf l q) ↔ (u = l ∧ v = q) ∨ (u = q ∧ v = l) := by
  unfold tieOf
  split
  · constructor
    · rintro (h | h)
      · cases h; exact .inl ⟨rfl, rfl⟩
      · cases h; exact .inr ⟨rfl, rfl⟩
    · rintro (⟨rfl, rfl⟩ | ⟨rfl, rfl⟩)
      · exact .inl rfl
      · exact .inr rfl
  · constructor
    · rintro (h | h)
      · cases h; exact .inr ⟨rfl, rfl⟩
      · cases h; exact .inl ⟨rfl, rfl⟩
    · rintro (⟨rfl, rfl⟩ | ⟨rfl, rfl⟩)
      · exact .inr rfl
      · exact .inl rfl
theorem nb_app {es : List (Int × Int)} {l q u v : Int} : v ∈ nb (es ++ [tieOf l q]) u ↔ v ∈ nb es u ∨ (u = l ∧ v = q) ∨ (u = q ∧ v = l) := by
  rw [nb_mem, nb_mem, List.mem_append, List.mem_append, List.mem_singleton, List.mem_singleton, ← tieOf_mem]
  constructor
  · rintro ((h | h) | (h | h))
    · exact .inl (.inl h)
    · exact .inr (.inl h)
    · exact .inl (.inr h)
    · exact .inr (.inr h)
  · rintro ((h | h) | (h | h))
    · exact .inl (.inl h)
    · exact .inr (.inl h)
    · exact .inl (.inr h)
    · exact .inr (.inr h)
theorem Tr.len {vs : List Int} {es : List (Int × Int)} (t : Tr vs es) : es.length + 1 = vs.length := by
  induction t with
  | one => rfl
  | leaf t _ _ ih => rw [List.length_append, List.length_append, List.length_singleton, List.length_singleton]; omega
theorem Tr.ends {vs : List Int} {es : List (Int × Int)} (t : Tr vs es) : ∀ z ∈ es, z.1 < z.2 ∧ z.1 ∈ vs ∧ z.2 ∈ vs := by
  induction t with
  | one => intro z h; cases h
  | @leaf vs es l q t hq hl ih =>
    intro z hz
    rcases List.mem_append.mp hz with hz | hz
    · obtain ⟨a, b, c⟩ := ih z hz
      exact ⟨a, List.mem_append_left _ b, List.mem_append_left _ c⟩
    · rw [List.mem_singleton.mp hz]
      have hne : l ≠ q := fun e => hl (e ▸ hq)
      unfold tieOf
      split
      · exact ⟨by assumption, by simp, by simp [hq]⟩
      · exact ⟨by simp only; omega, by simp [hq], by simp⟩
theorem Tr.nbIn {vs : List Int} {es : List (Int × Int)} (t : Tr vs es) {u v : Int} (h : v ∈ nb es u) : u ∈ vs ∧ v ∈ vs := by
  rcases nb_mem.mp h with h | h
  · exact (t.ends _ h).2
  · exact (t.ends _ h).2.symm
theorem Tr.nodup {vs : List Int} {es : List (Int × Int)} (t : Tr vs es) : es.Nodup := by
  induction t with
  | one => exact List.nodup_nil
  | @leaf vs es l q t hq hl ih =>
    rw [List.nodup_append]
    refine ⟨ih, by simp, fun a ha b hb e => ?_⟩
    subst e
    obtain ⟨_, h1, h2⟩ := t.ends _ ha
    have hb := List.mem_singleton.mp hb
    unfold tieOf at hb
    split at hb
    · rw [hb] at h1
      exact hl h1
    · rw [hb] at h2
      exact hl h2
theorem Tr.rooted {vs : List Int} {es : List (Int × Int)} (t : Tr vs es) : ∀ s ∈ vs, Rooted es s := by
  induction t with
  | one => intro s _; exact ⟨fun x => x, fun u v h => by simp [nb] at h⟩
  | @leaf vs es l q t hq hl ih =>
    intro s hs
    by_cases hsl : s = l
    · obtain ⟨par, hp⟩ := ih q hq
      refine ⟨fun x => if x = q then l else par x, fun u v h => ?_⟩
      have hlq : l ≠ q := fun e => hl (e ▸ hq)
      rcases nb_app.mp h with h | ⟨rfl, rfl⟩ | ⟨rfl, rfl⟩
      · obtain ⟨hu, hv⟩ := t.nbIn h
        rcases hp u v h with ⟨e, n⟩ | ⟨e, n⟩
        · exact .inl ⟨e.trans (if_neg n).symm, fun q => hl (by rw [← hsl, ← q]; exact hu)⟩
        · exact .inr ⟨e.trans (if_neg n).symm, fun q => hl (by rw [← hsl, ← q]; exact hv)⟩
      · exact .inr ⟨(if_pos rfl).symm, fun e => hlq (by rw [e, hsl])⟩
      · exact .inl ⟨(if_pos rfl).symm, fun e => hlq (by rw [e, hsl])⟩
    · have hsv : s ∈ vs := by
        rcases List.mem_append.mp hs with h | h
        · exact h
        · exact absurd (List.mem_singleton.mp h) hsl
      obtain ⟨par, hp⟩ := ih s hsv
      refine ⟨fun x => if x = l then q else par x, fun u v h => ?_⟩
      rcases nb_app.mp h with h | ⟨rfl, rfl⟩ | ⟨rfl, rfl⟩
      · obtain ⟨hu, hv⟩ := t.nbIn h
        have hul : u ≠ l := fun e => hl (e ▸ hu)
        have hvl : v ≠ l := fun e => hl (e ▸ hv)
        rcases hp u v h with ⟨e, n⟩ | ⟨e, n⟩
        · exact .inl ⟨e.trans (if_neg hul).symm, n⟩
        · exact .inr ⟨e.trans (if_neg hvl).symm, n⟩
      · exact .inl ⟨(if_pos rfl).symm, fun e => hsl e.symm⟩
      · exact .inr ⟨(if_pos rfl).symm, fun e => hsl e.symm⟩
theorem Rch.trans {ties : List (Int × Int)} {bar : Option Int} {a b c : Int} (h : Rch ties bar a b) (h2 : Rch ties bar b c) : Rch ties bar a c := by
  induction h2 with
  | refl => exact h
  | step _ hv hb ih => exact .step ih hv hb
theorem nb_symm {ties : List (Int × Int)} {u v : Int} (h : v ∈ nb ties u) : u ∈ nb ties v := by
  rcases nb_mem.mp h with h | h
  · exact nb_mem.mpr (.inr h)
  · exact nb_mem.mpr (.inl h)
theorem Rch.symm {ties : List (Int × Int)} {a b : Int} (h : Rch ties none a b) : Rch ties none b a := by
  induction h with
  | refl => exact .refl
  | step _ hv _ ih => exact Rch.trans (.step .refl (nb_symm hv) (fun e => nomatch e)) ih
theorem Rch.sub {t1 t2 : List (Int × Int)} {bar : Option Int} (hs : ∀ u v, v ∈ nb t1 u → v ∈ nb t2 u) {a b : Int} (h : Rch t1 bar a b) : Rch t2 bar a b := by
  induction h with
  | refl => exact .refl
  | step _ hv hb ih => exact .step ih (hs _ _ hv) hb
theorem Tr.conn {vs : List Int} {es : List (Int × Int)} (t : Tr vs es) : ∀ x ∈ vs, ∀ y ∈ vs, Rch es none x y := by
  induction t with
  | one a =>
    intro x hx y hy
    rw [List.mem_singleton.mp hx, List.mem_singleton.mp hy]
    exact .refl
  | @leaf vs es l q t hq hl ih =>
    have up : ∀ x ∈ vs, ∀ y ∈ vs, Rch (es ++ [tieOf l q]) none x y := fun x hx y hy => Rch.sub (fun u v h => nb_app.mpr (.inl h)) (ih x hx y hy)
    have ql : Rch (es ++ [tieOf l q]) none q l := .step .refl (nb_app.mpr (.inr (.inr ⟨rfl, rfl⟩))) (fun e => nomatch e)
    have toQ : ∀ x ∈ vs ++ [l], Rch (es ++ [tieOf l q]) none x q := fun x hx => by
      rcases List.mem_append.mp hx with h | h
      · exact up x h q hq
      · rw [List.mem_singleton.mp h]
        exact Rch.symm ql
    intro x hx y hy
    exact Rch.trans (toQ x hx) (Rch.symm (toQ y hy))
/-! ### the ties as they stand: sorted -/
theorem nb_perm {t1 t2 : List (Int × Int)} (h : t1.Perm t2) (u v : Int) : v ∈ nb t1 u ↔ v ∈ nb t2 u := by
  rw [nb_mem, nb_mem, h.mem_iff, h.mem_iff]
structure TreeOk (ties : List (Int × Int)) (n : Nat) : Prop where
  ok : TiesOk ties n
  rt : ∀ s, 0 ≤ s → s < (n : Int) → Rooted ties s
theorem treeOk_of {vs : List Int} {es ties : List (Int × Int)} {n : Nat} (t : Tr vs es) (hv : vs.Perm (rng n)) (hn : n ≤ 24) (hp : ties.Perm es) (hs : ties.Pairwise lxLe) : TreeOk ties n := by
  have hl : vs.length = n := by rw [hv.length_eq, rng_len]
  have hlen := t.len
  have h0 : ∀ x : Int, 0 ≤ x → x < (n : Int) → x ∈ vs := fun x a b => hv.mem_iff.mpr (rng_mem.mpr ⟨a, b⟩)
  refine ⟨⟨by rw [hp.length_eq]; omega, hn, fun z hz => ?_, lex_strict hs (hp.nodup_iff.mpr t.nodup), fun x a b => ?_⟩, fun s a b => ?_⟩
  · obtain ⟨a, b, c⟩ := t.ends z (hp.mem_iff.mp hz)
    have := rng_mem.mp (hv.mem_iff.mp b)
    have := rng_mem.mp (hv.mem_iff.mp c)
    omega
  · exact Rch.sub (fun u v h => (nb_perm hp u v).mpr h) (t.conn 0 (h0 0 (by omega) (by omega)) x (h0 x a b))
  · obtain ⟨par, hp2⟩ := t.rooted s (h0 s a b)
    exact ⟨par, fun u v h => hp2 u v ((nb_perm hp u v).mp h)⟩
theorem nb_nodup {ties : List (Int × Int)} {n : Nat} (o : TiesOk ties n) (post : Int) : (nb ties post).Nodup := by
  unfold nb
  rw [List.nodup_iff_pairwise_ne, List.pairwise_filterMap]
  refine List.Pairwise.imp_of_mem (fun {z y} hz hy hlt => ?_) o.asc
  intro a ha b hb hab
  subst hab
  have h1 := o.b0 z hz
  have h2 := o.b0 y hy
  unfold nbOf at ha hb
  split at ha
  · split at hb
    · have ha := Option.some.inj ha
      have hb := Option.some.inj hb
      unfold lxLt at hlt
      split at ha <;> split at hb <;> omega
    · cases hb
  · cases ha
/-! ### the two sides of a tie -/
inductive Desc (par : Int → Int) (a b : Int) : Int → Prop
  | top : Desc par a b b
  | sub {v : Int} : Desc par a b (par v) → v ≠ a → Desc par a b v
theorem sides_apart {ties : List (Int × Int)} {a b x : Int} (r : Rooted ties a) (hab : b ∈ nb ties a) (h1 : Rch ties (some b) a x) (h2 : Rch ties (some a) b x) : False := by
  obtain ⟨par, hp⟩ := r
  have hpb : a = par b ∧ b ≠ a := by
    rcases hp a b hab with ⟨_, h⟩ | h
    · exact absurd rfl h
    · exact h
  have inv : ∀ u, Desc par a b u → u = b ∨ (Desc par a b (par u) ∧ u ≠ a) := fun u h => by
    cases h with
    | top => exact .inl rfl
    | sub h n => exact .inr ⟨h, n⟩
  have hB : ∀ x, Rch ties (some a) b x → Desc par a b x ∧ x ≠ a := fun x h => by
    induction h with
    | refl => exact ⟨.top, hpb.2⟩
    | @step u v _ hv hb ih =>
      have hva : v ≠ a := fun e => hb (by rw [e])
      refine ⟨?_, hva⟩
      rcases hp u v hv with ⟨e, n⟩ | ⟨e, n⟩
      · rcases inv u ih.1 with q | ⟨q, _⟩
        · rw [q, ← hpb.1] at e
          exact absurd e hva
        · rw [e]
          exact q
      · exact .sub (by rw [← e]; exact ih.1) n
  have hA : ∀ x, Rch ties (some b) a x → ¬ Desc par a b x := fun x h => by
    induction h with
    | refl =>
      intro h
      rcases inv a h with q | ⟨_, q⟩
      · exact hpb.2 q.symm
      · exact q rfl
    | @step u v _ hv hb ih =>
      have hvb : v ≠ b := fun e => hb (by rw [e])
      intro hd
      rcases hp u v hv with ⟨e, n⟩ | ⟨e, n⟩
      · exact ih (.sub (by rw [← e]; exact hd) n)
      · rcases inv v hd with q | ⟨q, _⟩
        · exact hvb q
        · rw [← e] at q
          exact ih q
  exact hA x h1 (hB x h2).1
theorem sides_all {ties : List (Int × Int)} {a b x : Int} (h : Rch ties none a x) : Rch ties (some b) a x ∨ Rch ties (some a) b x := by
  induction h with
  | refl => exact .inl .refl
  | @step u v _ hv _ ih =>
    rcases ih with h | h
    · by_cases e : v = b
      · subst e; exact .inr .refl
      · exact .inl (.step h hv (fun q => e (Option.some.inj q).symm))
    · by_cases e : v = a
      · subst e; exact .inl .refl
      · exact .inr (.step h hv (fun q => e (Option.some.inj q).symm))
/-- the two sides together are all posts, none twice -/
theorem sides_perm {ties : List (Int × Int)} {n : Nat} (o : TreeOk ties n) {a b : Int} (hab : b ∈ nb ties a) {l m : List Int} (hl : l.Nodup) (hm : m.Nodup) (h1 : ∀ x, x ∈ l ↔ Rch ties (some b) a x) (h2 : ∀ x, x ∈ m ↔ Rch ties (some a) b x) : (l ++ m).Perm (rng n) := by
  have hb : b ∈ rng n := by
    have := o.ok.shut
    rcases nb_mem.mp hab with h | h
    · have := o.ok.b0 _ h
      exact rng_mem.mpr ⟨by simp only at this; omega, by simp only at this; omega⟩
    · have := o.ok.b0 _ h
      exact rng_mem.mpr ⟨by simp only at this; omega, by simp only at this; omega⟩
  have ha : a ∈ rng n := o.ok.shut.cl b hb a (nb_symm hab)
  obtain ⟨a1, a2⟩ := rng_mem.mp ha
  have nd : (l ++ m).Nodup := by
    rw [List.nodup_append]
    refine ⟨hl, hm, fun x hx y hy e => ?_⟩
    subst e
    exact sides_apart (o.rt a a1 a2) hab ((h1 x).mp hx) ((h2 x).mp hy)
  refine (List.perm_ext_iff_of_nodup nd (rng_nodup n)).mpr fun x => ?_
  rw [List.mem_append, h1, h2]
  constructor
  · rintro (h | h)
    · exact h.inV o.ok.shut ha
    · exact h.inV o.ok.shut hb
  · intro h
    obtain ⟨x1, x2⟩ := rng_mem.mp h
    exact sides_all (Rch.trans (Rch.symm (o.ok.all a a1 a2)) (o.ok.all x x1 x2))
/-! ### the walk of the law -/
theorem riPerm {ties : List (Int × Int)} {bar : Option Int} {s : Int} {ex : Option Int} {f f' wt : List Int} (r : RI ties bar s ex f wt) (h : f'.Perm f) : RI ties bar s ex f' wt :=
  ⟨h.nodup_iff.mpr r.nd, h.mem_iff.mpr r.st, fun v hv => r.ok v (h.mem_iff.mp hv), fun v hv => h.mem_iff.mpr (r.sub v hv), fun u hu hw he v hv hb => h.mem_iff.mpr (r.cl u (h.mem_iff.mp hu) hw he v hv hb), fun q e => h.mem_iff.mpr (r.exf q e), by rw [h.length_eq]; exact r.wl⟩
theorem riAll {ties : List (Int × Int)} {bar : Option Int} {s h : Int} : ∀ {L f wt : List Int}, RI ties bar s (some h) f wt → L.Nodup → (∀ v ∈ L, v ∈ nb ties h ∧ bar ≠ some v ∧ v ∉ f) → RI ties bar s (some h) (f ++ L) (wt ++ L)
  | [], f, wt, r, _, _ => by rw [List.append_nil, List.append_nil]; exact r
  | v :: L, f, wt, r, hn, hL => by
    obtain ⟨h1, h2⟩ := List.nodup_cons.mp hn
    obtain ⟨a, b, c⟩ := hL v (by simp)
    have := riAll (L := L) (r.add a b c) h2 fun u hu => by
      obtain ⟨x, y, z⟩ := hL u (by simp [hu])
      refine ⟨x, y, fun q => ?_⟩
      rcases List.mem_append.mp q with q | q
      · exact z q
      · exact h1 (by rw [← List.mem_singleton.mp q]; exact hu)
    rw [List.append_assoc, List.append_assoc] at this
    exact this
/-- what stands: F taken, W waiting -/
structure LW (ties : List (Int × Int)) (bar s : Int) (par : Int → Int) (F W : List Int) : Prop where
  ri : RI ties (some bar) s none (F ++ W) W
  pf : ∀ u ∈ F, u = s ∨ par u ∈ F
  pw : ∀ u ∈ W, u = s ∨ par u ∈ F
theorem LW.step {ties : List (Int × Int)} {bar s : Int} {par : Int → Int} (hp : ∀ u v, v ∈ nb ties u → (v = par u ∧ u ≠ s) ∨ (u = par v ∧ v ≠ s)) {F W : List Int} {h : Int} {ns : List Int} (r : LW ties bar s par F (W ++ [h])) (hn : ns.Nodup) (hm : ∀ v, v ∈ ns ↔ v ∈ nb ties h) :
    LW ties bar s par (F ++ [h]) (W ++ ns.filter fun v => decide (v ∉ F ++ [h] ∧ v ≠ bar)) := by
  have nd := r.ri.nd
  have hlast : (W ++ [h])[(W ++ [h]).length - 1]? = some h := by rw [List.length_append, List.length_singleton, Nat.add_sub_cancel, List.getElem?_append_right (Nat.le_refl _), Nat.sub_self]; rfl
  have r1 := r.ri.pop hlast
  have edl : (W ++ [h]).dropLast = W := by simp
  rw [edl] at r1
  have pm : ((F ++ [h]) ++ W).Perm (F ++ (W ++ [h])) := by
    rw [List.append_assoc]
    exact List.Perm.append_left F List.perm_append_comm
  have r2 := riPerm r1 pm
  have hF : h ∉ F := fun q => by
    rw [List.nodup_append] at nd
    exact nd.2.2 h q h (by simp) rfl
  have hW : ∀ v, v ∈ nb ties h → v ∉ F ++ [h] → v ∉ W ∧ h = par v := fun v hv hnf => by
    rcases hp h v hv with ⟨e, n⟩ | ⟨e, n⟩
    · exfalso
      rcases r.pw h (by simp) with q | q
      · exact n q
      · rw [← e] at q
        exact hnf (List.mem_append_left _ q)
    · refine ⟨fun q => ?_, e⟩
      rcases r.pw v (List.mem_append_left _ q) with z | z
      · exact n z
      · rw [← e] at z
        exact hF z
  have r3 := riAll (L := ns.filter fun v => decide (v ∉ F ++ [h] ∧ v ≠ bar)) r2 (hn.filter _) fun v hv => by
    obtain ⟨h1, h2⟩ := List.mem_filter.mp hv
    obtain ⟨h3, h4⟩ := of_decide_eq_true h2
    have h5 := (hm v).mp h1
    refine ⟨h5, fun q => h4 (Option.some.inj q).symm, fun q => ?_⟩
    rcases List.mem_append.mp q with q | q
    · exact h3 q
    · exact (hW v h5 h3).1 q
  have r4 := r3.close fun v hv hb => by
    by_cases hf : v ∈ F ++ [h]
    · exact List.mem_append_left _ (List.mem_append_left _ hf)
    · exact List.mem_append_right _ (List.mem_filter.mpr ⟨(hm v).mpr hv, decide_eq_true ⟨hf, fun e => hb (by rw [e])⟩⟩)
  rw [List.append_assoc] at r4
  refine ⟨r4, fun u hu => ?_, fun u hu => ?_⟩
  · rcases List.mem_append.mp hu with hu | hu
    · exact (r.pf u hu).imp id fun q => List.mem_append_left _ q
    · rw [List.mem_singleton.mp hu]
      exact (r.pw h (by simp)).imp id fun q => List.mem_append_left _ q
  · rcases List.mem_append.mp hu with hu | hu
    · exact (r.pw u (List.mem_append_left _ hu)).imp id fun q => List.mem_append_left _ q
    · obtain ⟨h1, h2⟩ := List.mem_filter.mp hu
      obtain ⟨h3, h4⟩ := of_decide_eq_true h2
      right
      rw [← (hW u ((hm u).mp h1) h3).2]
      simp
theorem LW.start {ties : List (Int × Int)} {bar s : Int} {par : Int → Int} : LW ties bar s par [] [s] := ⟨.start, fun _ h => (nomatch h), fun u h => .inl (List.mem_singleton.mp h)⟩
end S4

namespace S4
open PySem L2 TT MM
theorem same_make {H : Hp} {x dx C : Addr} (nx : H x = none) (ndx : H dx = none) (ne : dx ≠ x) : Same H (upd (upd H dx (.own x)) x (.ins C dx [])) := fun b o e => by
  rw [upd_ne (ne_of_none e nx), upd_ne (ne_of_none e ndx)]
  exact e
theorem sum_nn {l : List Int} (h : ∀ x ∈ l, 0 ≤ x) : 0 ≤ l.sum := by
  induction l with
  | nil => simp
  | cons a l ih => rw [List.sum_cons]; have := ih fun x hx => h x (by simp [hx]); have := h a (by simp); omega
theorem up_lt {l : List Int} (h : Up l) (nd : l.Nodup) : l.Pairwise (· < ·) := (List.Pairwise.and h nd).imp fun ⟨a, b⟩ => by omega
open Classical in
noncomputable def ladL (p : Int) (wd : Nat) (rows : List (List Int)) : List (List Int) := if h : ∃ lad, IsLad p wd rows lad then h.choose else []
theorem ladL_eq {p : Int} {wd : Nat} {rows lad : List (List Int)} (p2 : 2 ≤ p) (h : IsLad p wd rows lad) : lad = ladL p wd rows := by
  classical
  have hx : ∃ lad, IsLad p wd rows lad := ⟨lad, h⟩
  unfold ladL
  rw [dif_pos hx]
  exact IsLad.only h hx.choose_spec p2 fun v => Iff.rfl
theorem flat_lenR {α : Type} {F : Nat → List α} {i : Nat} {b : Nat} (h : ∀ j, j < i → (F j).length ≤ b) : ((List.range i).flatMap F).length ≤ b * i := by
  induction i with
  | zero => simp
  | succ i ih =>
    rw [List.range_succ, List.flatMap_append, List.length_append, List.flatMap_singleton]
    have := ih fun j hj => h j (by omega)
    have := h i (by omega)
    rw [Nat.mul_succ]
    omega
theorem take_sum_step : ∀ {holds : List Int}, (∀ x ∈ holds, 0 ≤ x) → ∀ {a b : Nat}, a < b → (holds.take a).sum + holds.getD a 0 ≤ (holds.take b).sum
  | [], _, a, b, _ => by simp
  | x :: l, h, 0, b + 1, _ => by
    have := sum_nn (l := l.take b) fun y hy => h y (by simp [List.mem_of_mem_take hy])
    rw [List.take_zero, List.take_succ_cons, List.sum_cons]
    show 0 + x ≤ _
    omega
  | x :: l, h, a + 1, b + 1, hab => by
    have := take_sum_step (holds := l) (fun y hy => h y (by simp [hy])) (a := a) (b := b) (by omega)
    rw [List.take_succ_cons, List.take_succ_cons, List.sum_cons, List.sum_cons]
    show x + (l.take a).sum + l.getD a 0 ≤ _
    omega
theorem held_in {unk : List Int} {n : Nat} (ok : CountsOk unk n) {post i : Int} (h : i ∈ heldL unk post) : (unk.take post.toNat).sum ≤ i ∧ i < (unk.take post.toNat).sum + unk.getD post.toNat 0 := by
  unfold heldL at h
  obtain ⟨j, hj, rfl⟩ := List.mem_map.mp h
  have hj' := List.mem_range.mp hj
  have := take_sum_le ok post.toNat
  omega
theorem held_lt {unk : List Int} {n : Nat} (ok : CountsOk unk n) {post i : Int} (h : i ∈ heldL unk post) : 0 ≤ i ∧ i < unk.sum := by
  have hi := held_in ok h
  have h1 := take_sum_le ok post.toNat
  have nn : ∀ x ∈ unk, 0 ≤ x := fun x hx => (ok.b x hx).1
  by_cases hp : post.toNat < unk.length
  · have := take_sum_step nn (a := post.toNat) (b := unk.length) hp
    rw [List.take_length] at this
    omega
  · rw [List.getD_eq_getElem?_getD, List.getElem?_eq_none (by omega)] at hi
    have hi := hi
    simp at hi
    omega
theorem held_nodup (unk : List Int) (post : Int) : (heldL unk post).Nodup := by
  unfold heldL
  refine List.Pairwise.map _ (fun a b h e => h ?_) List.nodup_range
  omega
end S4

namespace S4
open PySem L2 TT MM
/-! ### ladders there are -/
theorem isRow_len2 {l : List Int} {p : Int} {wd : Nat} (h : isRow l p wd) : l.length = wd := by have := h.1; omega
theorem first_nz (l : List Int) : ∀ n : Nat, (∀ x, x < n → l.getD x 0 = 0) ∨ ∃ k, k < n ∧ l.getD k 0 ≠ 0 ∧ ∀ x, x < k → l.getD x 0 = 0
  | 0 => .inl fun x h => absurd h (Nat.not_lt_zero x)
  | n + 1 => by
    rcases first_nz l n with h | ⟨k, h1, h2, h3⟩
    · by_cases e : l.getD n 0 = 0
      · refine .inl fun x hx => ?_
        by_cases q : x = n
        · rw [q]; exact e
        · exact h x (by omega)
      · exact .inr ⟨n, by omega, e, h⟩
    · exact .inr ⟨k, by omega, h2, h3⟩
theorem st_app {p : Int} {wd : Nat} (prm : Prm p) : ∀ (l : List (List Int)) {rs : RG} {acc : List (List Int)}, St1 p wd rs acc → (∀ r ∈ l, isRow r p wd) → ∃ rs', St1 p wd rs' (acc ++ l)
  | [], rs, acc, S, _ => ⟨rs, by rw [List.append_nil]; exact S⟩
  | row :: l, rs, acc, S, h => by
    have hr := h row (by simp)
    have hl := isRow_len2 hr
    have p2 := prm.1
    have e : acc ++ row :: l = (acc ++ [row]) ++ l := by rw [List.append_assoc]; rfl
    rw [e]
    rcases first_nz (clr p rs row) wd with h0 | ⟨k, k1, k2, k3⟩
    · exact st_app prm l (S.skip hl h0) fun r hr => h r (by simp [hr])
    · have hb := getD_in (by omega) (clr_in (by omega) rs hr.2) k
      obtain ⟨u, hu⟩ := prm.inv (v := (clr p rs row).getD k 0) (by omega) hb.2
      exact st_app prm l (S.put p2 hl hr.2 k1 k2 k3 hu) fun r hr => h r (by simp [hr])
theorem st_ex {p : Int} {wd : Nat} (prm : Prm p) {rows : List (List Int)} (h : ∀ r ∈ rows, isRow r p wd) : ∃ rs, St1 p wd rs rows := by
  have := st_app prm rows (St1.nil p wd) h
  rwa [List.nil_append] at this
theorem srt_ex (l : List Int) : ∃ ys : List Int, ys.Perm l ∧ Up ys := by
  induction l with
  | nil => exact ⟨[], .refl _, .nil⟩
  | cons a l ih =>
    obtain ⟨ys, h1, h2⟩ := ih
    have ins : ∀ ys : List Int, Up ys → ∃ zs : List Int, zs.Perm (a :: ys) ∧ Up zs := by
      intro ys
      induction ys with
      | nil => intro _; exact ⟨[a], .refl _, List.pairwise_singleton _ _⟩
      | cons b ys ih2 =>
        intro hu
        obtain ⟨u1, u2⟩ := List.pairwise_cons.mp hu
        by_cases hab : a ≤ b
        · refine ⟨a :: b :: ys, .refl _, List.pairwise_cons.mpr ⟨fun c hc => ?_, hu⟩⟩
          rcases List.mem_cons.mp hc with e | hc
          · rw [e]; exact hab
          · have := u1 c hc; omega
        · obtain ⟨zs, z1, z2⟩ := ih2 u2
          refine ⟨b :: zs, (List.Perm.cons b z1).trans (.swap a b ys), List.pairwise_cons.mpr ⟨fun c hc => ?_, z2⟩⟩
          rcases List.mem_cons.mp (z1.mem_iff.mp hc) with e | hc
          · omega
          · exact u1 c hc
    obtain ⟨zs, z1, z2⟩ := ins ys h2
    exact ⟨zs, z1.trans (List.Perm.cons a h1), z2⟩
theorem lad_ex {p : Int} {wd : Nat} (prm : Prm p) {rows : List (List Int)} (h : ∀ r ∈ rows, isRow r p wd) : IsLad p wd rows (ladL p wd rows) := by
  obtain ⟨rs, S⟩ := st_ex prm h
  obtain ⟨ys, h1, h2⟩ := srt_ex (keysI rs)
  have : IsLad p wd rows (ys.map fun y => rowOf rs y.toNat) := ⟨rs, ys, S, h1, h2, rfl⟩
  rw [← ladL_eq prm.1 this]
  exact this
/-! ### sums within a room -/
theorem spn_sumP {p : Int} {R : Vc → Prop} {f : Nat → Vc} {c : Nat → Int} : ∀ {P : List Nat}, (∀ i ∈ P, Spn p R (f i)) → Spn p R fun x => sumP P fun i => c i * f i x
  | [], _ => .zero fun x => .refl _
  | i :: P, h => by
    have h1 := spn_sumP (c := c) (P := P) fun j hj => h j (by simp [hj])
    refine .plus (c i) h1 (h i (by simp)) fun x => .of_eq ?_
    rw [sumP_cons]
    omega
open Classical in
noncomputable def rsL (p : Int) (wd : Nat) (rows : List (List Int)) : RG := if h : ∃ rs, St1 p wd rs rows then h.choose else []
theorem rsL_st {p : Int} {wd : Nat} {rows : List (List Int)} {rs : RG} (S : St1 p wd rs rows) : St1 p wd (rsL p wd rows) rows := by
  have h : ∃ rs, St1 p wd rs rows := ⟨rs, S⟩
  unfold rsL
  rw [dif_pos h]
  exact h.choose_spec
/-! ### rows cut down to places -/
def cutV (v : Vc) (ord : List Int) : Vc := fun x => if x < ord.length then v (ord.getD x 0).toNat else 0
theorem vec_cut {r ord : List Int} (x : Nat) : vec (cutL r ord) x = cutV (vec r) ord x := by
  unfold cutV
  by_cases h : x < ord.length
  · rw [if_pos h]
    unfold vec cutL
    have e : (ord.map fun i => r.getD i.toNat 0)[x]? = some (r.getD (ord[x]).toNat 0) := by rw [List.getElem?_map, List.getElem?_eq_getElem h]; rfl
    rw [getD_at e, getD_at (List.getElem?_eq_getElem h)]
  · rw [if_neg h]
    exact vec_over (by unfold cutL; rw [List.length_map]; omega)
section
variable {p : Int} {wd : Nat} {rows : List (List Int)} {ord : List Int}
theorem cut_up {v : Vc} (h : Spn p (inRows rows) v) : Spn p (inRows (rows.map fun r => cutL r ord)) (cutV v ord) := by
  induction h with
  | @zero v h => exact .zero fun x => by unfold cutV; split; exact h _; exact .refl _
  | @add u r v c hu hr h ih =>
    obtain ⟨l, hl, rfl⟩ := hr
    refine .plus c ih (.row ⟨cutL l ord, List.mem_map.mpr ⟨l, hl, rfl⟩, rfl⟩) fun x => ?_
    rw [vec_cut]
    unfold cutV
    split
    · exact h _
    · exact .of_eq (by omega)
theorem cut_down {u : Vc} (h : Spn p (inRows (rows.map fun r => cutL r ord)) u) : ∃ v, Spn p (inRows rows) v ∧ ∀ x, Cg p (u x) (cutV v ord x) := by
  induction h with
  | @zero u h => exact ⟨fun _ => 0, .zero fun _ => .refl _, fun x => (h x).trans (.of_eq (by unfold cutV; split <;> rfl))⟩
  | @add u r v c hu hr h ih =>
    obtain ⟨w, w1, w2⟩ := ih
    obtain ⟨l, hl, rfl⟩ := hr
    obtain ⟨r, hr, rfl⟩ := List.mem_map.mp hl
    refine ⟨fun x => w x + c * vec r x, .plus c w1 (.row ⟨r, hr, rfl⟩) fun x => .refl _, fun x => (h x).trans (((w2 x).add ((Cg.refl c).mul (.of_eq (vec_cut x)))).trans (.of_eq ?_))⟩
    unfold cutV
    split
    · rfl
    · omega
end
/-! ### ranks -/
theorem len_of_keys {rs rs' : RG} (nd : (rs.map (·.1)).Nodup) (h : ∀ i, i ∈ rs.map (·.1) → i ∈ rs'.map (·.1)) : rs.length ≤ rs'.length := by
  have := nodup_len (keysI_nodup nd) (V := keysI rs') fun v hv => by
    obtain ⟨i, hi, rfl⟩ := keysI_mem.mp hv
    exact keysI_mem.mpr ⟨i, h i hi, rfl⟩
  unfold keysI at this
  rwa [List.length_map, List.length_map] at this
noncomputable def rk (p : Int) (wd : Nat) (rows : List (List Int)) : Nat := (rsL p wd rows).length
theorem rk_span {p : Int} {wd : Nat} {rs rs' : RG} {rows rows' : List (List Int)} (p2 : 2 ≤ p) (S : St1 p wd rs rows) (S' : St1 p wd rs' rows') (h : Same2 p (inRows rows) (inRows rows')) : rs.length = rs'.length := by
  have k1 := (S.only S' p2 h).1
  exact Nat.le_antisymm (len_of_keys S.lad.nd fun i hi => (k1 i).mp hi) (len_of_keys S'.lad.nd fun i hi => (k1 i).mpr hi)
theorem rk_eq {p : Int} {wd : Nat} {rs : RG} {rows : List (List Int)} (p2 : 2 ≤ p) (S : St1 p wd rs rows) : rs.length = rk p wd rows := rk_span p2 S (rsL_st S) fun _ => Iff.rfl
theorem rk_same {p : Int} {wd : Nat} {rows rows' : List (List Int)} (prm : Prm p) (h1 : ∀ r ∈ rows, isRow r p wd) (h2 : ∀ r ∈ rows', isRow r p wd) (h : Same2 p (inRows rows) (inRows rows')) : rk p wd rows = rk p wd rows' := by
  obtain ⟨rs, S⟩ := st_ex prm h1
  obtain ⟨rs', S'⟩ := st_ex prm h2
  rw [← rk_eq prm.1 S, ← rk_eq prm.1 S']
  exact rk_span prm.1 S S' h
theorem st_step {p : Int} {wd : Nat} {rs : RG} {rows : List (List Int)} {row : List Int} (prm : Prm p) (S : St1 p wd rs rows) (hr : isRow row p wd) :
    ∃ rs', St1 p wd rs' (rows ++ [row]) ∧ ((Spn p (inRows rows) (vec row) ∧ rs'.length = rs.length) ∨ (¬ Spn p (inRows rows) (vec row) ∧ rs'.length = rs.length + 1)) := by
  have hl := isRow_len2 hr
  have p2 := prm.1
  obtain ⟨a, c⟩ := S.clear hl
  rcases first_nz (clr p rs row) wd with h0 | ⟨k, k1, k2, k3⟩
  · refine ⟨rs, S.skip hl h0, .inl ⟨(S.room _).mp (a.cg fun x => ?_), rfl⟩⟩
    have e : vec (clr p rs row) x = 0 := by
      by_cases hx : x < wd
      · exact h0 x hx
      · exact vec_over (by rw [clr_len]; omega)
    rw [e, Int.sub_zero]
    exact .refl _
  · have hb := getD_in (by omega) (clr_in (by omega) rs hr.2) k
    obtain ⟨u, hu⟩ := prm.inv (v := (clr p rs row).getD k 0) (by omega) hb.2
    refine ⟨_, S.put p2 hl hr.2 k1 k2 k3 hu, .inr ⟨fun hs => ?_, by unfold putIn; rw [List.length_append, List.length_map]; rfl⟩⟩
    have h1 := (S.room _).mpr hs
    have h2 : Spn p (rungs (rs.map (·.1)) (rv rs)) (vec (clr p rs row)) := .plus (-1) h1 a fun x => .of_eq (by omega)
    have h3 := S.lad.zero h2 c k
    exact k2 (h3.zero_of hb.1 hb.2)
theorem rk_step {p : Int} {wd : Nat} {rows : List (List Int)} {row : List Int} (prm : Prm p) (h : ∀ r ∈ rows, isRow r p wd) (hr : isRow row p wd) :
    (Spn p (inRows rows) (vec row) ∧ rk p wd (rows ++ [row]) = rk p wd rows) ∨ (¬ Spn p (inRows rows) (vec row) ∧ rk p wd (rows ++ [row]) = rk p wd rows + 1) := by
  obtain ⟨rs, S⟩ := st_ex prm h
  obtain ⟨rs', S', h2⟩ := st_step prm S hr
  rw [← rk_eq prm.1 S, ← rk_eq prm.1 S']
  exact h2
theorem rk_nil {p : Int} {wd : Nat} (p2 : 2 ≤ p) : rk p wd [] = 0 := (rk_eq p2 (St1.nil p wd)).symm
/-- two lists of rows go along -/
theorem rk_along {p : Int} {w1 w2 : Nat} {base Y Z : List (List Int)} (prm : Prm p) (hb : ∀ r ∈ base, isRow r p w1) (hY : ∀ r ∈ Y, isRow r p w1) (hZ : ∀ r ∈ Z, isRow r p w2) (hl : Y.length = Z.length)
    (h : ∀ k y z, Y[k]? = some y → Z[k]? = some z → (Spn p (inRows (base ++ Y.take k)) (vec y) ↔ Spn p (inRows (Z.take k)) (vec z))) : rk p w1 (base ++ Y) = rk p w1 base + rk p w2 Z := by
  have go : ∀ k, k ≤ Y.length → rk p w1 (base ++ Y.take k) = rk p w1 base + rk p w2 (Z.take k) := fun k => by
    induction k with
    | zero => intro _; rw [List.take_zero, List.take_zero, List.append_nil, rk_nil prm.1]; rfl
    | succ k ih =>
      intro hk
      have h1 : Y[k]? = some (Y[k]'(by omega)) := List.getElem?_eq_getElem (by omega)
      have h2 : Z[k]? = some (Z[k]'(by omega)) := List.getElem?_eq_getElem (by omega)
      have hh := h k _ _ h1 h2
      rw [List.take_succ, List.take_succ, h1, h2]
      show rk p w1 (base ++ (Y.take k ++ [_])) = rk p w1 base + rk p w2 (Z.take k ++ [_])
      rw [← List.append_assoc]
      have s1 := rk_step prm (rows := base ++ Y.take k) (row := Y[k]'(by omega)) (fun r hr => (List.mem_append.mp hr).elim (hb r) fun hr => hY r (List.mem_of_mem_take hr)) (hY _ (List.getElem_mem _))
      have s2 := rk_step prm (rows := Z.take k) (row := Z[k]'(by omega)) (fun r hr => hZ r (List.mem_of_mem_take hr)) (hZ _ (List.getElem_mem _))
      have := ih (by omega)
      rcases s1 with ⟨a, b⟩ | ⟨a, b⟩
      · rcases s2 with ⟨c, d⟩ | ⟨c, d⟩
        · omega
        · exact absurd (hh.mp a) c
      · rcases s2 with ⟨c, d⟩ | ⟨c, d⟩
        · exact absurd (hh.mpr c) a
        · omega
  have := go Y.length (Nat.le_refl _)
  rwa [List.take_length, hl, List.take_length] at this
theorem rk_iso {p : Int} {w1 w2 : Nat} {Y Z : List (List Int)} (prm : Prm p) (hY : ∀ r ∈ Y, isRow r p w1) (hZ : ∀ r ∈ Z, isRow r p w2) (hl : Y.length = Z.length)
    (h : ∀ k y z, Y[k]? = some y → Z[k]? = some z → (Spn p (inRows (Y.take k)) (vec y) ↔ Spn p (inRows (Z.take k)) (vec z))) : rk p w1 Y = rk p w2 Z := by
  have := rk_along (base := []) prm (fun _ h => nomatch h) hY hZ hl h
  rw [rk_nil prm.1] at this
  simpa using this
theorem rk_le {p : Int} {wd : Nat} {rows : List (List Int)} (prm : Prm p) (h : ∀ r ∈ rows, isRow r p wd) : ∀ k, k ≤ rows.length → rk p wd rows ≤ rk p wd (rows.take k) + (rows.length - k) := fun k hk => by
  have go : ∀ j, k + j ≤ rows.length → rk p wd (rows.take (k + j)) ≤ rk p wd (rows.take k) + j := fun j => by
    induction j with
    | zero => intro _; exact Nat.le_refl _
    | succ j ih =>
      intro hj
      have h1 : rows[k + j]? = some (rows[k + j]'(by omega)) := List.getElem?_eq_getElem (by omega)
      have := ih (by omega)
      rw [← Nat.add_assoc, List.take_succ, h1]
      show rk p wd (rows.take (k + j) ++ [_]) ≤ _
      have s1 := rk_step prm (rows := rows.take (k + j)) (row := rows[k + j]'(by omega)) (fun r hr => h r (List.mem_of_mem_take hr)) (h _ (List.getElem_mem _))
      rcases s1 with ⟨_, b⟩ | ⟨_, b⟩ <;> omega
  have := go (rows.length - k) (by omega)
  rwa [show k + (rows.length - k) = rows.length by omega, List.take_length] at this
theorem rk_len {p : Int} {wd : Nat} {rows : List (List Int)} (prm : Prm p) (h : ∀ r ∈ rows, isRow r p wd) : rk p wd rows ≤ rows.length := by
  have := rk_le prm h 0 (Nat.zero_le _)
  rw [List.take_zero, rk_nil prm.1] at this
  omega
/-- as many as there are: none comes of those ahead -/
theorem rk_full {p : Int} {wd : Nat} {rows : List (List Int)} (prm : Prm p) (h : ∀ r ∈ rows, isRow r p wd) : rk p wd rows = rows.length ↔ ∀ k r, rows[k]? = some r → ¬ Spn p (inRows (rows.take k)) (vec r) := by
  constructor
  · intro hf k r hk hs
    have hkl := (List.getElem?_eq_some_iff.mp hk).1
    have s1 := rk_step prm (rows := rows.take k) (row := r) (fun r hr => h r (List.mem_of_mem_take hr)) (h r (List.mem_of_getElem? hk))
    have h1 := rk_le prm h (k + 1) (by omega)
    have h2 := rk_len prm (rows := rows.take k) fun r hr => h r (List.mem_of_mem_take hr)
    rw [List.length_take] at h2
    rw [List.take_succ, hk] at h1
    rcases s1 with ⟨_, b⟩ | ⟨a, _⟩
    · have h1' : rk p wd rows ≤ rk p wd (rows.take k ++ [r]) + (rows.length - (k + 1)) := h1
      omega
    · exact a hs
  · intro hi
    have go : ∀ k, k ≤ rows.length → rk p wd (rows.take k) = k := fun k => by
      induction k with
      | zero => intro _; rw [List.take_zero, rk_nil prm.1]
      | succ k ih =>
        intro hk
        have h1 : rows[k]? = some (rows[k]'(by omega)) := List.getElem?_eq_getElem (by omega)
        rw [List.take_succ, h1]
        show rk p wd (rows.take k ++ [_]) = _
        have s1 := rk_step prm (rows := rows.take k) (row := rows[k]'(by omega)) (fun r hr => h r (List.mem_of_mem_take hr)) (h _ (List.getElem_mem _))
        have := ih (by omega)
        rcases s1 with ⟨a, _⟩ | ⟨_, b⟩
        · exact absurd a (hi k _ h1)
        · omega
    have := go rows.length (Nat.le_refl _)
    rwa [List.take_length] at this
end S4

namespace S4
open PySem L2 TT MM
/-! ### complementary blocks of a square and of its inverse -/
def units (n : Nat) (S : List Int) : List (List Int) := S.map fun j => uRow n j.toNat
theorem unit_vec (n j x : Nat) : vec (uRow n j) x = if x = j then 1 else 0 := uRow_at x
theorem unit_row {p : Int} (p2 : 2 ≤ p) {n j : Nat} (h : j < n) : isRow (uRow n j) p n := by
  refine ⟨by rw [uRow_len h], fun v hv => ?_⟩
  unfold uRow at hv
  simp only [List.mem_append, List.mem_replicate, List.mem_singleton] at hv
  rcases hv with (⟨_, rfl⟩ | rfl) | ⟨_, rfl⟩ <;> omega
theorem units_row {p : Int} (p2 : 2 ≤ p) {n : Nat} {S : List Int} (h : ∀ x ∈ S, x ∈ rng n) : ∀ r ∈ units n S, isRow r p n := fun r hr => by
  obtain ⟨j, hj, rfl⟩ := List.mem_map.mp hr
  obtain ⟨a, b⟩ := rng_mem.mp (h j hj)
  exact unit_row p2 (by omega)
theorem cutL_row {r l : List Int} {p : Int} {wd : Nat} (h : isRow r p wd) (hin : ∀ i ∈ l, 0 ≤ i ∧ i < (wd : Int)) : isRow (cutL r l) p l.length := by
  have hl := h.1
  refine ⟨by unfold cutL; rw [List.length_map], fun v hv => ?_⟩
  unfold cutL at hv
  obtain ⟨i, hi, rfl⟩ := List.mem_map.mp hv
  have hb := hin i hi
  have hx : r[i.toNat]? = some (r[i.toNat]'(by omega)) := List.getElem?_eq_getElem (by omega)
  rw [getD_at hx]
  exact h.2 _ (List.mem_of_getElem? hx)
theorem spn_over2 {p : Int} {wd : Nat} {rows : List (List Int)} {v : Vc} (hr : ∀ r ∈ rows, isRow r p wd) (h : Spn p (inRows rows) v) {x : Nat} (hx : wd ≤ x) : Cg p (v x) 0 := h.nought fun r ⟨l, hl, e⟩ => by
  rw [e, vec_over (by rw [isRow_len2 (hr l hl)]; exact hx)]
  exact .refl _
/-- what is 0 but at some places comes of these units -/
theorem units_span {p : Int} {n : Nat} {S : List Int} (hS : ∀ x ∈ S, x ∈ rng n) (nd : S.Nodup) {d : Vc} (h : ∀ x : Nat, (x : Int) ∉ S → Cg p (d x) 0) : Spn p (inRows (units n S)) d := by
  have hnd : (S.map Int.toNat).Nodup := by
    rw [List.nodup_iff_pairwise_ne, List.pairwise_map]
    refine List.Pairwise.imp_of_mem (fun {a b} ha hb hne e => ?_) (List.nodup_iff_pairwise_ne.mp nd)
    have := rng_mem.mp (hS a ha)
    have := rng_mem.mp (hS b hb)
    exact hne (by omega)
  have h1 : Spn p (inRows (units n S)) fun x => sumP (S.map Int.toNat) fun i => d i * vec (uRow n i) x := by
    refine spn_sumP (f := fun i x => vec (uRow n i) x) fun i hi => ?_
    obtain ⟨j, hj, rfl⟩ := List.mem_map.mp hi
    exact .row ⟨uRow n j.toNat, List.mem_map.mpr ⟨j, hj, rfl⟩, rfl⟩
  refine h1.cg fun x => ?_
  by_cases hx : (x : Int) ∈ S
  · have hxm : x ∈ S.map Int.toNat := List.mem_map.mpr ⟨(x : Int), hx, Int.toNat_natCast x⟩
    refine (Cg.of_eq ?_).trans (sumP_one hnd hxm fun i hi hne => .of_eq (by rw [unit_vec, if_neg (fun e => hne e.symm), Int.mul_zero])).symm
    rw [unit_vec, if_pos rfl, Int.mul_one]
  · refine (h x hx).trans (sumP_zero fun i hi => .of_eq ?_).symm
    obtain ⟨j, hj, rfl⟩ := List.mem_map.mp hi
    have := rng_mem.mp (hS j hj)
    rw [unit_vec, if_neg (fun e => hx (by rw [show (x : Int) = j by omega]; exact hj)), Int.mul_zero]
theorem rk_units {p : Int} (prm : Prm p) {n : Nat} {S : List Int} (hS : ∀ x ∈ S, x ∈ rng n) (nd : S.Nodup) : rk p n (units n S) = S.length := by
  have hl : (units n S).length = S.length := by unfold units; rw [List.length_map]
  rw [← hl]
  refine (rk_full prm (units_row prm.1 hS)).mpr fun k r hk hs => ?_
  unfold units at hk
  rw [List.getElem?_map] at hk
  obtain ⟨j, hj, e⟩ := Option.map_eq_some_iff.mp hk
  subst e
  have h0 := hs.nought (x := j.toNat) fun v hv => by
    obtain ⟨l, hl, rfl⟩ := hv
    unfold units at hl
    rw [← List.map_take] at hl
    obtain ⟨i, hi, rfl⟩ := List.mem_map.mp hl
    obtain ⟨m, hm⟩ := List.getElem?_of_mem hi
    have hmk : m < k := by
      have := (List.getElem?_eq_some_iff.mp hm).1
      rw [List.length_take] at this
      omega
    rw [List.getElem?_take_of_lt hmk] at hm
    refine .of_eq ?_
    rw [unit_vec, if_neg]
    intro e
    have h1 := rng_mem.mp (hS i (List.mem_of_getElem? hm))
    have h2 := rng_mem.mp (hS j (List.mem_of_getElem? hj))
    have e : i = j := by omega
    subst e
    have ha := List.getElem?_eq_some_iff.mp hm
    have hb := List.getElem?_eq_some_iff.mp hj
    have := (List.getElem_inj nd).mp (ha.2.trans hb.2.symm)
    omega
  rw [unit_vec, if_pos rfl] at h0
  exact one_ne prm.1 (.refl 1) h0
/-- units, and more rows: what these are elsewhere -/
theorem rk_beside {p : Int} (prm : Prm p) {n : Nat} {S S' : List Int} (hp : (S ++ S').Perm (rng n)) {Y : List (List Int)} (hY : ∀ r ∈ Y, isRow r p n) :
    rk p n (units n S ++ Y) = S.length + rk p S'.length (Y.map fun r => cutL r S') := by
  have hnd : (S ++ S').Nodup := hp.nodup_iff.mpr (rng_nodup n)
  obtain ⟨nS, nS', hdis⟩ := List.nodup_append.mp hnd
  have hS : ∀ x ∈ S, x ∈ rng n := fun x hx => hp.mem_iff.mp (List.mem_append_left _ hx)
  have hS' : ∀ x ∈ S', x ∈ rng n := fun x hx => hp.mem_iff.mp (List.mem_append_right _ hx)
  have hS'b : ∀ x ∈ S', 0 ≤ x ∧ x < (n : Int) := fun x hx => rng_mem.mp (hS' x hx)
  rw [rk_along (Z := Y.map fun r => cutL r S') (w2 := S'.length) prm (units_row prm.1 hS) hY (fun r hr => by
    obtain ⟨y, hy, rfl⟩ := List.mem_map.mp hr
    exact cutL_row (hY y hy) hS'b) (by rw [List.length_map]) (fun k y z hy hz => ?_), rk_units prm hS nS]
  rw [List.getElem?_map, hy] at hz
  have hz := Option.some.inj hz
  subst hz
  rw [← List.map_take]
  have hcv : ∀ r : List Int, ∀ x, Cg p (vec (cutL r S') x) (cutV (vec r) S' x) := fun r x => .of_eq (vec_cut x)
  constructor
  · intro h
    have h1 := cut_up (ord := S') h
    refine (h1.sub fun r hr => ?_).cg fun x => hcv y x
    obtain ⟨l, hl, rfl⟩ := hr
    obtain ⟨q, hq, rfl⟩ := List.mem_map.mp hl
    rcases List.mem_append.mp hq with hq | hq
    · obtain ⟨j, hj, rfl⟩ := List.mem_map.mp hq
      refine .zero fun x => .of_eq ?_
      rw [vec_cut]
      unfold cutV
      split
      · rename_i hx
        rw [getD_at (List.getElem?_eq_getElem hx), unit_vec, if_neg]
        intro e
        have h1 := rng_mem.mp (hS j hj)
        have h2 := hS'b _ (List.getElem_mem hx)
        exact hdis j hj _ (List.getElem_mem hx) (by omega)
      · rfl
    · exact .row ⟨_, List.mem_map.mpr ⟨q, hq, rfl⟩, rfl⟩
  · intro h
    obtain ⟨v, v1, v2⟩ := cut_down h
    have hv0 : ∀ x, n ≤ x → Cg p (v x) 0 := fun x hx => spn_over2 (fun r hr => hY r (List.mem_of_mem_take hr)) v1 hx
    have hyl := isRow_len2 (hY y (List.mem_of_getElem? hy))
    have hd : Spn p (inRows (units n S)) fun x => vec y x - v x := units_span hS nS fun x hx => by
      by_cases hxn : x < n
      · have hxS : (x : Int) ∈ S' := by
          have : (x : Int) ∈ S ++ S' := hp.mem_iff.mpr (rng_mem.mpr ⟨by omega, by omega⟩)
          exact (List.mem_append.mp this).resolve_left hx
        obtain ⟨m, hm⟩ := List.getElem?_of_mem hxS
        have hml := (List.getElem?_eq_some_iff.mp hm).1
        have h1 := v2 m
        rw [vec_cut] at h1
        unfold cutV at h1
        rw [if_pos hml, if_pos hml, getD_at hm, Int.toNat_natCast] at h1
        have := h1.sub (Cg.refl (p := p) (v x))
        rwa [Int.sub_self] at this
      · have h1 := hv0 x (by omega)
        rw [vec_over (l := y) (by omega)]
        have := (Cg.refl (p := p) 0).sub h1
        rwa [Int.sub_self] at this
    refine Spn.plus 1 (v1.mono (R' := inRows (units n S ++ Y.take k)) fun r ⟨l, hl, e⟩ => ⟨l, List.mem_append_right _ hl, e⟩) (hd.mono (R' := inRows (units n S ++ Y.take k)) fun r ⟨l, hl, e⟩ => ⟨l, List.mem_append_left _ hl, e⟩) fun x => .of_eq ?_
    omega
/-! ### rows put to rows -/
def tA (A : List (List Int)) (v : Vc) : Vc := fun x => sumP (List.range A.length) fun j => v j * (A.getD j []).getD x 0
theorem tA_cg {p : Int} {A : List (List Int)} {u v : Vc} (h : ∀ j, j < A.length → Cg p (u j) (v j)) (x : Nat) : Cg p (tA A u x) (tA A v x) := sumP_cg fun j hj => (h j (List.mem_range.mp hj)).mul (.refl _)
theorem tA_add {A : List (List Int)} {u v : Vc} (c : Int) (x : Nat) : tA A (fun j => u j + c * v j) x = tA A u x + c * tA A v x := by
  unfold tA
  rw [← sumP_mul, ← sumP_add]
  unfold sumP
  congr 1
  refine List.map_congr_left fun j _ => ?_
  rw [Int.add_mul, Int.mul_assoc]
theorem tA_zero {p : Int} {A : List (List Int)} {v : Vc} (h : ∀ j, Cg p (v j) 0) (x : Nat) : Cg p (tA A v x) 0 := sumP_zero fun j _ => by
  have := (h j).mul (Cg.refl (p := p) ((A.getD j []).getD x 0))
  rwa [Int.zero_mul] at this
section
variable {p : Int} {A P Q : List (List Int)} {n : Nat}
theorem tA_spn (h : ∀ r ∈ P, ∃ q ∈ Q, ∀ x, Cg p (vec q x) (tA A (vec r) x)) {v : Vc} (hv : Spn p (inRows P) v) : Spn p (inRows Q) (tA A v) := by
  induction hv with
  | @zero v hz => exact .zero fun x => tA_zero hz x
  | @add u r v c hu hr he ih =>
    obtain ⟨l, hl, rfl⟩ := hr
    obtain ⟨q, hq, e⟩ := h l hl
    refine .plus c ih (.row ⟨q, hq, rfl⟩) fun x => ?_
    refine (tA_cg (fun j _ => he j) x).trans ((Cg.of_eq (tA_add c x)).trans ((Cg.refl _).add ((Cg.refl c).mul (e x).symm)))
theorem tA_back (h : ∀ q ∈ Q, ∃ r ∈ P, ∀ x, Cg p (vec q x) (tA A (vec r) x)) {w : Vc} (hw : Spn p (inRows Q) w) : ∃ v, Spn p (inRows P) v ∧ ∀ x, Cg p (w x) (tA A v x) := by
  induction hw with
  | @zero w hz => exact ⟨fun _ => 0, .zero fun _ => .refl _, fun x => (hz x).trans (tA_zero (fun _ => .refl _) x).symm⟩
  | @add u q w c hu hq he ih =>
    obtain ⟨v, v1, v2⟩ := ih
    obtain ⟨l, hl, rfl⟩ := hq
    obtain ⟨r, hr, e⟩ := h l hl
    exact ⟨fun j => v j + c * vec r j, .plus c v1 (.row ⟨r, hr, rfl⟩) fun x => .refl _, fun x => (he x).trans (((v2 x).add ((Cg.refl c).mul (e x))).trans (.of_eq (tA_add c x).symm))⟩
/-- a square of whole rank: only noughts are put to noughts -/
theorem tA_inj (prm : Prm p) (hA : ∀ r ∈ A, isRow r p n) (hf : rk p n A = A.length) {v : Vc} (h : ∀ x, Cg p (tA A v x) 0) : ∀ j, j < A.length → Cg p (v j) 0 := by
  have p2 := prm.1
  have go : ∀ m, m ≤ A.length → ∀ j, A.length - m ≤ j → j < A.length → Cg p (v j) 0 := fun m => by
    induction m with
    | zero => intro _ j h1 h2; omega
    | succ m ih =>
      intro hm j h1 h2
      have up := ih (by omega)
      by_cases hj : A.length - m ≤ j
      · exact up j hj h2
      · have hb := mod_b (a := v j) (m := p) (by omega)
        by_cases h0 : v j % p = 0
        · exact (Cg.mod (p := p) (v j)).symm.trans (.of_eq h0)
        · exfalso
          obtain ⟨u, hu⟩ := prm.inv (v := v j % p) (by omega) hb.2
          have hu : Cg p (u * v j) 1 := ((Cg.refl u).mul (Cg.mod (v j)).symm).trans hu
          have hjx : A[j]? = some (A[j]'h2) := List.getElem?_eq_getElem h2
          refine (rk_full prm hA).mp hf j _ hjx ?_
          have hs : Spn p (inRows (A.take j)) fun x => sumP (List.range j) fun i => (-(u * v i)) * (A.getD i []).getD x 0 := spn_sumP (f := fun i x => (A.getD i []).getD x 0) fun i hi => by
            have hi := List.mem_range.mp hi
            refine .row ⟨A[i]'(by omega), ?_, ?_⟩
            · have : (A.take j)[i]? = some (A[i]'(by omega)) := by rw [List.getElem?_take_of_lt hi, List.getElem?_eq_getElem]
              exact List.mem_of_getElem? this
            · rw [getD_at (List.getElem?_eq_getElem (show i < A.length by omega))]
              rfl
          refine hs.cg fun x => ?_
          have hsplit : Cg p (tA A v x) (sumP (List.range j) (fun i => v i * (A.getD i []).getD x 0) + v j * (A.getD j []).getD x 0) := by
            unfold tA
            have e : List.range A.length = List.range j ++ (j :: (List.range (A.length - j - 1)).map fun i => j + 1 + i) := by
              have h1 : A.length = j + (1 + (A.length - j - 1)) := by omega
              rw [h1, List.range_add, List.range_add]
              rw [show j + (1 + (A.length - j - 1)) - j - 1 = A.length - j - 1 by omega]
              simp [List.range_succ, Nat.add_assoc, Function.comp_def]
            have e2 : sumP (List.range A.length) (fun i => v i * (A.getD i []).getD x 0) = sumP (List.range j) (fun i => v i * (A.getD i []).getD x 0) + (v j * (A.getD j []).getD x 0 + sumP ((List.range (A.length - j - 1)).map fun i => j + 1 + i) fun i => v i * (A.getD i []).getD x 0) := by
              rw [e]
              unfold sumP
              rw [List.map_append, List.sum_append, List.map_cons, List.sum_cons]
            rw [e2]
            have hz : Cg p (sumP ((List.range (A.length - j - 1)).map fun i => j + 1 + i) fun i => v i * (A.getD i []).getD x 0) 0 := sumP_zero fun i hi => by
              obtain ⟨t, ht, rfl⟩ := List.mem_map.mp hi
              have ht := List.mem_range.mp ht
              have := (up (j + 1 + t) (by omega) (by omega)).mul (Cg.refl (p := p) ((A.getD (j + 1 + t) []).getD x 0))
              rwa [Int.zero_mul] at this
            have := (Cg.refl (p := p) (sumP (List.range j) fun i => v i * (A.getD i []).getD x 0)).add ((Cg.refl (p := p) (v j * (A.getD j []).getD x 0)).add hz)
            rwa [Int.add_zero] at this
          have h3 := hsplit.symm.trans (h x)
          have h4 := (Cg.refl (p := p) u).mul h3
          rw [Int.mul_zero, Int.mul_add] at h4
          have h5 : Cg p (u * (v j * (A.getD j []).getD x 0)) (vec (A[j]'h2) x) := by
            have := hu.mul (Cg.refl (p := p) ((A.getD j []).getD x 0))
            rw [Int.one_mul, Int.mul_assoc] at this
            rw [getD_at hjx] at this ⊢
            exact this
          have h6 : sumP (List.range j) (fun i => (-(u * v i)) * (A.getD i []).getD x 0) = -(u * sumP (List.range j) fun i => v i * (A.getD i []).getD x 0) := by
            rw [← sumP_mul, show (fun i => (-(u * v i)) * (A.getD i []).getD x 0) = fun i => (-1) * (u * (v i * (A.getD i []).getD x 0)) from funext fun i => by rw [Int.neg_mul, Int.mul_assoc]; omega, sumP_mul]
            omega
          rw [h6]
          have h7 := ((Cg.refl (p := p) (u * sumP (List.range j) fun i => v i * (A.getD i []).getD x 0)).add h5).symm.trans h4
          have h8 := h7.sub (Cg.refl (p := p) (u * sumP (List.range j) fun i => v i * (A.getD i []).getD x 0))
          refine (Cg.of_eq ?_).trans (h8.trans (.of_eq ?_)) <;> omega
  exact fun j hj => go A.length (Nat.le_refl _) j (by omega) hj
theorem rk_tA (prm : Prm p) (hA : ∀ r ∈ A, isRow r p n) (hAl : A.length = n) (hf : rk p n A = A.length) (hP : ∀ r ∈ P, isRow r p n) (hQ : ∀ r ∈ Q, isRow r p n) (hl : P.length = Q.length)
    (h : ∀ (k : Nat) (r q : List Int), P[k]? = some r → Q[k]? = some q → ∀ x, Cg p (vec q x) (tA A (vec r) x)) : rk p n P = rk p n Q := by
  refine rk_iso prm hP hQ hl fun k y z hy hz => ?_
  have hPQ : ∀ r ∈ P.take k, ∃ q ∈ Q.take k, ∀ x, Cg p (vec q x) (tA A (vec r) x) := fun r hr => by
    obtain ⟨i, hi⟩ := List.getElem?_of_mem hr
    have hik : i < k := by have := (List.getElem?_eq_some_iff.mp hi).1; rw [List.length_take] at this; omega
    rw [List.getElem?_take_of_lt hik] at hi
    have hiQ : Q[i]? = some (Q[i]'(by have := (List.getElem?_eq_some_iff.mp hi).1; omega)) := List.getElem?_eq_getElem _
    exact ⟨_, List.mem_of_getElem? (show (Q.take k)[i]? = some _ by rw [List.getElem?_take_of_lt hik]; exact hiQ), h i _ _ hi hiQ⟩
  have hQP : ∀ q ∈ Q.take k, ∃ r ∈ P.take k, ∀ x, Cg p (vec q x) (tA A (vec r) x) := fun q hq => by
    obtain ⟨i, hi⟩ := List.getElem?_of_mem hq
    have hik : i < k := by have := (List.getElem?_eq_some_iff.mp hi).1; rw [List.length_take] at this; omega
    rw [List.getElem?_take_of_lt hik] at hi
    have hiP : P[i]? = some (P[i]'(by have := (List.getElem?_eq_some_iff.mp hi).1; omega)) := List.getElem?_eq_getElem _
    exact ⟨_, List.mem_of_getElem? (show (P.take k)[i]? = some _ by rw [List.getElem?_take_of_lt hik]; exact hiP), h i _ _ hiP hi⟩
  constructor
  · intro hs
    exact (tA_spn hPQ hs).cg fun x => h k y z hy hz x
  · intro hs
    obtain ⟨v, v1, v2⟩ := tA_back hQP hs
    have hd : ∀ j, j < A.length → Cg p (vec y j - v j) 0 := tA_inj prm hA hf fun x => by
      have e : tA A (fun j => vec y j - v j) x = tA A (vec y) x - tA A v x := by
        have := tA_add (A := A) (u := vec y) (v := v) (-1) x
        rw [show (fun j => vec y j - v j) = fun j => vec y j + (-1) * v j from funext fun j => by omega, this]
        omega
      rw [e]
      have := ((h k y z hy hz x).symm.trans (v2 x)).sub (Cg.refl (p := p) (tA A v x))
      rwa [Int.sub_self] at this
    have hyl := isRow_len2 (hP y (List.mem_of_getElem? hy))
    refine v1.cg fun x => ?_
    by_cases hx : x < A.length
    · have := (hd x hx).add (Cg.refl (p := p) (v x))
      rw [Int.zero_add] at this
      exact (Cg.of_eq (by omega)).trans this
    · rw [vec_over (by omega)]
      exact (spn_over2 (fun r hr => hP r (List.mem_of_mem_take hr)) v1 (by omega)).symm
end
/-- THE FACT OF PIVOTS: complementary blocks -/
theorem nullity {p : Int} (prm : Prm p) {n : Nat} {A B : List (List Int)} {I I' J J' : List Int} (hA : ∀ r ∈ A, isRow r p n) (hAl : A.length = n) (hf : rk p n A = n) (hB : ∀ r ∈ B, isRow r p n) (hBl : B.length = n)
    (hBA : ∀ k, k < n → ∀ x, x < n → Cg p (if x = k then 1 else 0) (tA A (vec (B.getD k [])) x)) (hI : (I ++ I').Perm (rng n)) (hJ : (J ++ J').Perm (rng n)) :
    I'.length + rk p I.length ((J'.map fun k => B.getD k.toNat []).map fun r => cutL r I) = J'.length + rk p J.length ((I'.map fun j => A.getD j.toNat []).map fun r => cutL r J) := by
  have p2 := prm.1
  have hI' : ∀ x ∈ I', x ∈ rng n := fun x hx => hI.mem_iff.mp (List.mem_append_right _ hx)
  have hJ' : ∀ x ∈ J', x ∈ rng n := fun x hx => hJ.mem_iff.mp (List.mem_append_right _ hx)
  have gB : ∀ k ∈ J', B.getD k.toNat [] ∈ B := fun k hk => by
    obtain ⟨a, b⟩ := rng_mem.mp (hJ' k hk)
    rw [getD_at (List.getElem?_eq_getElem (show k.toNat < B.length by omega))]
    exact List.getElem_mem _
  have gA : ∀ k ∈ I', A.getD k.toNat [] ∈ A := fun k hk => by
    obtain ⟨a, b⟩ := rng_mem.mp (hI' k hk)
    rw [getD_at (List.getElem?_eq_getElem (show k.toNat < A.length by omega))]
    exact List.getElem_mem _
  have hY : ∀ r ∈ J'.map fun k => B.getD k.toNat [], isRow r p n := fun r hr => by
    obtain ⟨k, hk, rfl⟩ := List.mem_map.mp hr
    exact hB _ (gB k hk)
  have hZ : ∀ r ∈ I'.map fun k => A.getD k.toNat [], isRow r p n := fun r hr => by
    obtain ⟨k, hk, rfl⟩ := List.mem_map.mp hr
    exact hA _ (gA k hk)
  have hX := units_row p2 hI'
  have hX2 := units_row p2 hJ'
  have e1 := rk_beside prm (S := I') (S' := I) (List.perm_append_comm.trans hI) hY
  have e2 := rk_beside prm (S := J') (S' := J) (List.perm_append_comm.trans hJ) hZ
  have e3 : rk p n (units n I' ++ J'.map fun k => B.getD k.toNat []) = rk p n ((J'.map fun k => B.getD k.toNat []) ++ units n I') := rk_same prm (fun r hr => (List.mem_append.mp hr).elim (hX r) (hY r)) (fun r hr => (List.mem_append.mp hr).elim (hY r) (hX r)) fun v =>
    ⟨fun h => h.mono fun r ⟨l, hl, e⟩ => ⟨l, List.mem_append.mpr (List.mem_append.mp hl).symm, e⟩, fun h => h.mono fun r ⟨l, hl, e⟩ => ⟨l, List.mem_append.mpr (List.mem_append.mp hl).symm, e⟩⟩
  have e4 : rk p n ((J'.map fun k => B.getD k.toNat []) ++ units n I') = rk p n (units n J' ++ I'.map fun j => A.getD j.toNat []) := by
    refine rk_tA prm hA hAl (by rw [hf, hAl]) (fun r hr => (List.mem_append.mp hr).elim (hY r) (hX r)) (fun r hr => (List.mem_append.mp hr).elim (hX2 r) (hZ r)) (by unfold units; simp) fun k r q hr hq x => ?_
    unfold units at hr hq
    by_cases hk : k < J'.length
    · rw [List.getElem?_append_left (by rw [List.length_map]; exact hk), List.getElem?_map] at hr hq
      obtain ⟨j, hj, rfl⟩ := Option.map_eq_some_iff.mp hr
      rw [hj] at hq
      have hq := Option.some.inj hq
      subst hq
      obtain ⟨a, b⟩ := rng_mem.mp (hJ' j (List.mem_of_getElem? hj))
      rw [unit_vec]
      by_cases hx : x < n
      · exact hBA j.toNat (by omega) x hx
      · rw [if_neg (by omega)]
        refine (sumP_zero fun i hi => .of_eq ?_).symm
        have hi := List.mem_range.mp hi
        have hil := isRow_len2 (hA _ (List.getElem_mem hi))
        have : (A.getD i []).getD x 0 = 0 := by
          rw [getD_at (List.getElem?_eq_getElem hi)]
          exact vec_over (l := A[i]) (by omega)
        rw [this, Int.mul_zero]
    · rw [List.getElem?_append_right (by rw [List.length_map]; omega), List.length_map, List.getElem?_map] at hr hq
      obtain ⟨j, hj, rfl⟩ := Option.map_eq_some_iff.mp hr
      rw [hj] at hq
      have hq := Option.some.inj hq
      subst hq
      obtain ⟨a, b⟩ := rng_mem.mp (hI' j (List.mem_of_getElem? hj))
      have hjr : j.toNat ∈ List.range A.length := List.mem_range.mpr (by omega)
      refine (Cg.of_eq ?_).trans (sumP_one List.nodup_range hjr fun i hi hne => .of_eq (by rw [unit_vec, if_neg hne, Int.zero_mul])).symm
      rw [unit_vec, if_pos rfl, Int.one_mul]
      rfl
  have hlen : (units n I').length = I'.length := by unfold units; rw [List.length_map]
  omega
end S4

namespace S4
open PySem L2 TT MM EE
/-! ### sheets of rules, whether they can be undone -/
def rowsW (S : SD) : List (List Int) := S.wants.flatMap fun own => own
noncomputable def canU (S : SD) (wd : Nat) : Bool := decide ((rowsW S).length = wd) && decide (rk S.p wd (rowsW S) = wd)
theorem rowsW_len {S : SD} : (rowsW S).length = (S.wants.map List.length).sum := by
  unfold rowsW
  rw [List.length_flatMap]
theorem rowsW_row {S : SD} {n : Nat} (ok : SheetOk S n) : ∀ r ∈ rowsW S, isRow r S.p S.holds.sum := fun r hr => by
  obtain ⟨own, ho, hr⟩ := List.mem_flatMap.mp hr
  exact (ok.wants.b own ho).2 r hr
theorem sum_row {S : SD} {n : Nat} (ok : SheetOk S n) : ∃ wd : Nat, S.holds.sum = (wd : Int) ∧ wd ≤ 60 := by
  have h := take_sum_le ok.holds S.holds.length
  rw [List.take_length] at h
  have := ok.holds.s
  exact ⟨S.holds.sum.toNat, by omega, by omega⟩
theorem rk_lad {p : Int} {wd : Nat} {rows lad : List (List Int)} (prm : Prm p) (h : IsLad p wd rows lad) : lad.length = rk p wd rows := by
  obtain ⟨rs, ys, S, hp, _, e⟩ := h
  rw [e, List.length_map, hp.length_eq]
  unfold keysI
  rw [List.length_map]
  exact rk_eq prm.1 S
section
variable {P : Program} {w : World} {K : PySem.W.Frag} {mg : Str → Option Value} {base : Heap} {cT cS : Addr}
def spAllW (cT cS : Addr) : Sp := fun vs H Q _ => ∃ (u : V) (S : SD) (n : Nat), vs = [u] ∧ rSheet cT cS H u S ∧ SheetOk S n ∧ ∀ H' r xs, Same H H' → H r = none → H' r = some (.lst xs) → Paired (rRow H') xs (rowsW S) → Q (.ref r) H'
def spWCnt (cT cS : Addr) : Sp := fun vs H Q _ => ∃ (u : V) (S : SD) (n : Nat), vs = [u] ∧ rSheet cT cS H u S ∧ SheetOk S n ∧ ∀ H' v, Same H H' → rRow H' v (S.wants.map fun own => (own.length : Int)) → Q v H'
def spCanU (cT cS : Addr) : Sp := fun vs H Q _ => ∃ (u : V) (S : SD) (n wd : Nat), vs = [u] ∧ rSheet cT cS H u S ∧ SheetOk S n ∧ S.holds.sum = (wd : Int) ∧ ∀ H', Same H H' → Q (.bl (canU S wd)) H'
end
end S4

namespace S4
open PySem L2 TT MM EE
/-! ### the way back -/
theorem rk_le_wd {p : Int} {wd : Nat} {rows : List (List Int)} (prm : Prm p) (h : ∀ r ∈ rows, isRow r p wd) : rk p wd rows ≤ wd := by
  obtain ⟨rs, S⟩ := st_ex prm h
  rw [← rk_eq prm.1 S]
  exact S.len
theorem spn_full {p : Int} {wd : Nat} {rows : List (List Int)} (prm : Prm p) (h : ∀ r ∈ rows, isRow r p wd) (hk : rk p wd rows = wd) {u : List Int} (hu : isRow u p wd) : Spn p (inRows rows) (vec u) := by
  classical
  by_cases hs : Spn p (inRows rows) (vec u)
  · exact hs
  · rcases rk_step prm h hu with ⟨h1, _⟩ | ⟨_, h1⟩
    · exact h1
    rw [hk] at h1
    have := rk_le_wd prm (rows := rows ++ [u]) fun r hr => (List.mem_append.mp hr).elim (h r) fun e => by rw [List.mem_singleton.mp e]; exact hu
    omega
def byP (counts : List Int) (n : Nat) (A : List (List Int)) : List (List (List Int)) := (List.range n).map fun (j : Nat) => (heldL counts (j : Int)).map fun i => A.getD i.toNat []
/-- A undoes the rows B -/
structure IsInv (p : Int) (wd : Nat) (B A : List (List Int)) : Prop where
  len : A.length = wd
  mix : ∀ k, k < wd → IsMix p wd B (uRow wd k) (A.getD k [])
def undOf (S : SD) (n : Nat) (A : List (List Int)) : SD := ⟨S.p, S.ties, S.wants.map fun own => (own.length : Int), byP S.holds n A⟩
theorem sum_cnt (S : SD) : (S.wants.map fun own => (own.length : Int)).sum = ((rowsW S).length : Nat) := by
  rw [sum_lens, rowsW_len]
theorem inv_row {p : Int} {wd : Nat} {B A : List (List Int)} (h : IsInv p wd B A) (hB : B.length = wd) : ∀ r ∈ A, isRow r p wd := fun r hr => by
  obtain ⟨k, hk, e⟩ := List.getElem_of_mem hr
  have h1 := h.mix k (by have := h.len; omega)
  rw [getD_at (List.getElem?_eq_getElem hk), e] at h1
  exact ⟨by rw [h1.1, hB], h1.2.1⟩
theorem heldL_ln {holds : List Int} {n : Nat} (ok : CountsOk holds n) {j : Nat} (hj : j < n) : ((heldL holds (j : Int)).length : Int) = holds.getD j 0 ∧ (heldL holds (j : Int)).length ≤ 8 := by
  have hl : j < holds.length := by rw [ok.len]; exact hj
  have hb := ok.b _ (List.getElem_mem hl)
  unfold heldL
  rw [List.length_map, List.length_range, Int.toNat_natCast, getD_at (List.getElem?_eq_getElem hl)]
  omega
theorem byP_sum {counts : List Int} {n : Nat} (ok : CountsOk counts n) (A : List (List Int)) : ((byP counts n A).map List.length).sum = counts.sum.toNat := by
  have e : (byP counts n A).map List.length = counts.map Int.toNat := by
    unfold byP
    refine List.ext_getElem (by simp [ok.len]) fun j h1 h2 => ?_
    rw [List.getElem_map, List.getElem_map, List.getElem_range, List.length_map, List.getElem_map]
    have hj : j < n := by simpa using h1
    have := (heldL_ln ok hj).1
    rw [getD_at (List.getElem?_eq_getElem (by rw [ok.len]; exact hj))] at this
    omega
  rw [e]
  have := toNat_sum counts fun x hx => (ok.b x hx).1
  omega
theorem und_ok {S : SD} {n wd : Nat} {A : List (List Int)} (ok : SheetOk S n) (hwd : S.holds.sum = (wd : Int)) (hl : (rowsW S).length = wd) (h : IsInv S.p wd (rowsW S) A) : SheetOk (undOf S n A) n := by
  have hs := ok.holds.s
  refine ⟨ok.ties, ok.clock, ⟨by show (S.wants.map _).length = n; rw [List.length_map, ok.wants.len], fun x hx => ?_, ?_⟩, ⟨?_, fun rows hrw => ?_, ?_⟩⟩
  · obtain ⟨own, ho, rfl⟩ := List.mem_map.mp hx
    have := (ok.wants.b own ho).1
    omega
  · show (S.wants.map _).sum ≤ 60
    rw [sum_cnt, hl]
    omega
  · show ((List.range n).map _).length = n
    simp
  · obtain ⟨j, hj, rfl⟩ := List.mem_map.mp hrw
    have hj := List.mem_range.mp hj
    refine ⟨by rw [List.length_map]; exact (heldL_ln ok.holds hj).2, fun r hr => ?_⟩
    obtain ⟨i, hi, rfl⟩ := List.mem_map.mp hr
    obtain ⟨i0, i1⟩ := heldL_in ok.holds hi
    show isRow _ S.p (S.wants.map _).sum
    rw [sum_cnt, hl]
    refine inv_row h hl _ ?_
    have hi' : i.toNat < A.length := by rw [h.len]; omega
    rw [getD_at (List.getElem?_eq_getElem hi')]
    exact List.getElem_mem _
  · show ((byP S.holds n A).map List.length).sum ≤ 60
    rw [byP_sum ok.holds]
    omega
def scBp : Scope := { kind := .function, names := [(".0", .local), ("post", .local), ("tuple", .globalImplicit), ("own_places", .globalImplicit), ("counts", .cell), ("things", .cell)], isGenerator := false, isCoroutine := false }
section
variable {P : Program} {w : World} {K : PySem.W.Frag} {mg : Str → Option Value} {base : Heap} {cT cS : Addr}
def spByPosts : Sp := fun vs H Q _ => ∃ (v : V) (a : Addr) (us : List V) (counts : List Int) (n : Nat) (A : List (List Int)), vs = [v, .ref a] ∧ rRow H v counts ∧ CountsOk counts n ∧ n ≤ 24 ∧ H a = some (.lst us) ∧ Paired (rRow H) us A ∧ counts.sum ≤ (A.length : Int) ∧
  ∀ H' v', Same H H' → rWants H' v' (byP counts n A) → Q v' H'
def spWayB (cT cS : Addr) : Sp := fun vs H Q _ => ∃ (u : V) (S : SD) (n wd : Nat), vs = [u] ∧ rSheet cT cS H u S ∧ SheetOk S n ∧ S.holds.sum = (wd : Int) ∧ canU S wd = true ∧
  ∀ H' c vs' A, Same H H' → H c = none → H' c = some (.lst vs') → Paired (rRow H') vs' A → IsInv S.p wd (rowsW S) A → Q (.ref c) H'
end
end S4

namespace S4
open PySem L2 TT MM EE
/-! ### undone, what is worked out -/
section
variable {P : Program} {w : World} {K : PySem.W.Frag} {mg : Str → Option Value} {base : Heap} {cT cS : Addr}
def spUndone (cT cS : Addr) : Sp := fun vs H Q _ => ∃ (u : V) (S : SD) (n wd : Nat), vs = [u] ∧ rSheet cT cS H u S ∧ SheetOk S n ∧ S.holds.sum = (wd : Int) ∧ canU S wd = true ∧
  ∀ H' v A, Same H H' → rSheet cT cS H' v (undOf S n A) → IsInv S.p wd (rowsW S) A → Q v H'
end
end S4

namespace S4
open PySem L2 TT MM
theorem ixN_nat {n j : Nat} (h : j < n) : ixN n (j : Int) = some j := by
  unfold ixN
  rw [if_pos (by omega), if_pos (by omega), Int.toNat_natCast]
theorem hu1 {k : Nat} {A : Around} (r : Room k A) : A.units + 1 < cLine := by have := r.un; omega
theorem rowOf_perm {rs rs' : RG} (nd : (rs.map (·.1)).Nodup) (h : rs.Perm rs') {i : Nat} (hi : i ∈ rs.map (·.1)) : rowOf rs i = rowOf rs' i := by
  obtain ⟨z, hz, rfl⟩ := List.mem_map.mp hi
  rw [rowOf_mem nd hz, rowOf_mem ((h.map (·.1)).nodup_iff.mp nd) (h.mem_iff.mp hz)]
theorem St1.perm {p : Int} {wd : Nat} {rs rs' : RG} {rows : List (List Int)} (S : St1 p wd rs rows) (h : rs.Perm rs') : St1 p wd rs' rows := by
  have hk : ∀ i, i ∈ rs.map (·.1) ↔ i ∈ rs'.map (·.1) := fun i => (h.map (·.1)).mem_iff
  have hr : ∀ i ∈ rs.map (·.1), rv rs i = rv rs' i := fun i hi => by unfold rv; rw [rowOf_perm S.lad.nd h hi]
  refine ⟨⟨(h.map (·.1)).nodup_iff.mp S.lad.nd, fun i hi => ?_, fun i hi j hj e => ?_, fun i hi x hx => ?_⟩, fun z hz => S.ok z (h.mem_iff.mpr hz), fun v => Iff.trans ?_ (S.room v)⟩
  · rw [← hr i ((hk i).mpr hi)]; exact S.lad.one i ((hk i).mpr hi)
  · rw [← hr i ((hk i).mpr hi)]; exact S.lad.off i ((hk i).mpr hi) j ((hk j).mpr hj) e
  · rw [← hr i ((hk i).mpr hi)]; exact S.lad.low i ((hk i).mpr hi) x hx
  · refine ⟨fun h => h.mono fun r ⟨i, hi, e⟩ => ⟨i, (hk i).mpr hi, by rw [e, hr i ((hk i).mpr hi)]⟩, fun h => h.mono fun r ⟨i, hi, e⟩ => ⟨i, (hk i).mp hi, by rw [e, hr i hi]⟩⟩
/-- the first place of a row of a ladder -/
structure Lead (z : Nat × List Int) : Prop where
  one : z.2.getD z.1 0 = 1
  low : ∀ x, x < z.1 → z.2.getD x 0 = 0
theorem St1.lead {p : Int} {wd : Nat} {rs : RG} {rows : List (List Int)} (p2 : 2 ≤ p) (S : St1 p wd rs rows) {z : Nat × List Int} (hz : z ∈ rs) : Lead z := by
  have hi : z.1 ∈ rs.map (·.1) := List.mem_map.mpr ⟨z, hz, rfl⟩
  have h1 := S.lad.one z.1 hi
  have h2 := S.lad.low z.1 hi
  unfold rv at h1 h2
  rw [rowOf_mem S.lad.nd hz] at h1 h2
  have hin := (S.ok z hz).2.2
  refine ⟨?_, fun x hx => ?_⟩
  · have b := getD_in (by omega) hin z.1
    exact h1.eq b.1 b.2 (by omega) (by omega)
  · have b := getD_in (by omega) hin x
    exact (h2 x hx).zero_of b.1 b.2
theorem IsLad.rsc {p : Int} {wd : Nat} {rows lad : List (List Int)} (h : IsLad p wd rows lad) : ∃ rs : RG, St1 p wd rs rows ∧ lad = rs.map (·.2) := by
  obtain ⟨rs, ys, S, hp, hu, rfl⟩ := h
  refine ⟨ys.map fun y => (y.toNat, rowOf rs y.toNat), S.perm ?_, by rw [List.map_map]; rfl⟩
  have h1 := hp.map fun y => (y.toNat, rowOf rs y.toNat)
  refine (h1.trans (.of_eq ?_)).symm
  unfold keysI
  rw [List.map_map]
  refine (List.map_congr_left fun z hz => ?_).trans (List.map_id rs)
  show ((((z.1 : Nat) : Int)).toNat, rowOf rs (((z.1 : Nat) : Int)).toNat) = z
  rw [Int.toNat_natCast, rowOf_mem S.lad.nd hz]
/-! ### what can be added to solutions -/
def kerRow (p : Int) (rs : RG) (wd k : Nat) : List Int := (List.range wd).map fun x => if x = k then 1 else if x ∈ rs.map (·.1) then (-((rowOf rs x).getD k 0)) % p else 0
def kerL (p : Int) (wd : Nat) (rs : RG) : List (List Int) := (List.range wd).filterMap fun k => if k ∈ rs.map (·.1) then none else some (kerRow p rs wd k)
theorem kerL_only {p : Int} {wd : Nat} {rs rs' : RG} {rows : List (List Int)} (p2 : 2 ≤ p) (S : St1 p wd rs rows) (S' : St1 p wd rs' rows) : kerL p wd rs = kerL p wd rs' := by
  obtain ⟨k1, k2⟩ := S.only S' p2 fun _ => Iff.rfl
  have hr : ∀ i ∈ rs.map (·.1), rowOf rs i = rowOf rs' i := fun i hi => by
    obtain ⟨z, hz, rfl⟩ := List.mem_map.mp hi
    rw [rowOf_mem S.lad.nd hz, rowOf_mem S'.lad.nd (k2 z hz)]
  have er : ∀ k, kerRow p rs wd k = kerRow p rs' wd k := fun k => by
    unfold kerRow
    refine List.map_congr_left fun x _ => ?_
    by_cases h : x ∈ rs.map (·.1)
    · rw [if_pos h, if_pos ((k1 x).mp h), hr x h]
    · rw [if_neg h, if_neg (fun q => h ((k1 x).mpr q))]
  unfold kerL
  congr 1
  funext k
  by_cases h : k ∈ rs.map (·.1)
  · rw [if_pos h, if_pos ((k1 k).mp h)]
  · rw [if_neg h, if_neg (fun q => h ((k1 k).mpr q)), er k]
theorem kerRow_is {p : Int} {wd k : Nat} {rs : RG} (p2 : 2 ≤ p) : isRow (kerRow p rs wd k) p wd := by
  refine ⟨by unfold kerRow; rw [List.length_map, List.length_range], fun v hv => ?_⟩
  unfold kerRow at hv
  obtain ⟨x, _, rfl⟩ := List.mem_map.mp hv
  split
  · omega
  · split
    · exact mod_b (by omega)
    · omega
theorem kerL_is {p : Int} {wd : Nat} {rs : RG} (p2 : 2 ≤ p) : ∀ r ∈ kerL p wd rs, isRow r p wd := fun r hr => by
  unfold kerL at hr
  obtain ⟨k, _, e⟩ := List.mem_filterMap.mp hr
  split at e
  · cases e
  · cases e; exact kerRow_is p2
theorem kerL_len {p : Int} {wd : Nat} {rs : RG} : (kerL p wd rs).length ≤ wd := by
  unfold kerL
  have := List.length_filterMap_le (fun k => if k ∈ rs.map (·.1) then none else some (kerRow p rs wd k)) (List.range wd)
  rwa [List.length_range] at this
open Classical in
noncomputable def looseU (p : Int) (wd : Nat) (rows : List (List Int)) : List (List Int) := ladL p wd (kerL p wd (rsL p wd rows))
theorem loose_eq {p : Int} {wd : Nat} {rows lad : List (List Int)} {rs : RG} (p2 : 2 ≤ p) (S : St1 p wd rs rows) (h : IsLad p wd (kerL p wd rs) lad) : lad = looseU p wd rows := by
  unfold looseU
  rw [← kerL_only p2 S (rsL_st S)]
  exact ladL_eq p2 h
theorem loose_is {p : Int} {wd : Nat} {rows : List (List Int)} (prm : Prm p) : IsLad p wd (kerL p wd (rsL p wd rows)) (looseU p wd rows) := lad_ex prm (kerL_is prm.1)

end S4

namespace S4
open PySem L2 TT MM EE
/-! ### kernel_of, all_rules, loose -/
theorem val_some {kvs : List (L2.Key × V)} {rs : RG} {H : Hp} (h : Paired (kvR H) kvs rs) (nd : (rs.map (·.1)).Nodup) {z : Nat × List Int} (hz : z ∈ rs) : ∃ v, valV kvs (Sum.inl ((z.1 : Nat) : Int)) = some v ∧ rRow H v z.2 := by
  obtain ⟨j, hj⟩ := List.getElem?_of_mem hz
  obtain ⟨⟨k, v⟩, hkv, e1, r⟩ := paired_get2 h hj
  have e1 : k = Sum.inl ((z.1 : Nat) : Int) := e1
  subst e1
  exact ⟨v, val_at h nd hkv, r⟩
/-- the row of a kernel, so far -/
def kerPre (p : Int) (rs : RG) (wd k j : Nat) : List Int := (List.range wd).map fun x => if x = k then 1 else if x ∈ (rs.take j).map (·.1) then (-((rowOf rs x).getD k 0)) % p else 0
theorem kerPre_zero {p : Int} {rs : RG} {wd k : Nat} (hk : k < wd) : kerPre p rs wd k 0 = uRow wd k := by
  unfold kerPre
  refine List.ext_getElem (by rw [List.length_map, List.length_range, uRow_len hk]) fun x h1 h2 => ?_
  rw [List.getElem_map, List.getElem_range]
  have := uRow_at (n := wd) (i := k) x
  rw [getD_at (List.getElem?_eq_getElem h2)] at this
  rw [this]
  split
  · rfl
  · rw [if_neg (by simp)]
theorem kerPre_all {p : Int} {rs : RG} {wd k : Nat} : kerPre p rs wd k rs.length = kerRow p rs wd k := by unfold kerPre kerRow; rw [List.take_length]
theorem kerPre_step {p : Int} {rs : RG} {wd k j : Nat} (nd : (rs.map (·.1)).Nodup) {z : Nat × List Int} (hj : rs[j]? = some z) (hz : z.1 < wd) (hk : k ≠ z.1) : (kerPre p rs wd k j).set z.1 ((-(z.2.getD k 0)) % p) = kerPre p rs wd k (j + 1) := by
  have hrow := rowOf_mem nd (List.mem_of_getElem? hj)
  unfold kerPre
  refine List.ext_getElem (by rw [List.length_set, List.length_map, List.length_map]) fun x h1 h2 => ?_
  rw [List.getElem_set, List.getElem_map, List.getElem_map, List.getElem_range]
  have et : (rs.take (j + 1)).map (·.1) = (rs.take j).map (·.1) ++ [z.1] := by rw [List.take_succ, hj, List.map_append]; rfl
  rw [et]
  by_cases e : z.1 = x
  · subst e
    rw [if_pos rfl, if_neg (fun q => hk q.symm), if_pos (by simp), hrow]
  · rw [if_neg e]
    by_cases e2 : x = k
    · rw [if_pos e2, if_pos e2]
    · rw [if_neg e2, if_neg e2]
      by_cases h : x ∈ (rs.take j).map (·.1)
      · rw [if_pos h, if_pos (List.mem_append_left _ h)]
      · rw [if_neg h, if_neg (fun q => (List.mem_append.mp q).elim h fun q => e (List.mem_singleton.mp q).symm)]
theorem neg_mod {p a : Int} (p0 : 0 < p) : 0 ≤ (-a) % p ∧ (-a) % p < p := mod_b p0
section
variable {P : Program} {w : World} {K : PySem.W.Frag} {mg : Str → Option Value} {base : Heap} {cT cS : Addr}
def spKer (K : PySem.W.Frag) : Sp := fun vs H Q _ => ∃ (a : Addr) (p : Int) (wd : Nat) (xs : List V) (rws : List (List Int)), vs = [.int p, .int (wd : Int), .ref a] ∧ SqS K H a xs ∧ Paired (rRow H) xs rws ∧ rws.length ≤ 1000 ∧ Prm p ∧ p ≤ 1000000 ∧ wd < 64 ∧ (∀ r ∈ rws, isRow r p wd) ∧
  ∀ H' v, Same H H' → rTup rRow H' v (looseU p wd rws) → Q v H'
end
end S4

namespace S4
open PySem L2 TT MM EE
/-! ### the bag that is picked from -/
def bgl (s k : Int) (q : Addr) (a : V) : List V := [.int s, .int k, .ref q, a]
structure BagW (b q : Addr) (s k : Int) (gs : List Int) (a : V) (H : Hp) : Prop where
  h : H b = some (.lst (bgl s k q a))
  hq : H q = some (.lst (gs.map V.int))
  ne : b ≠ q
  len : gs.length ≤ 63
  pos : ∀ x ∈ gs, 0 ≤ x
  s0 : 0 ≤ s ∧ s < 4294967296
  k0 : 0 ≤ k
  al : a = .non ∨ ∃ n, a = .int n ∧ 0 ≤ n
def Bag (b q : Addr) (H : Hp) : Prop := ∃ s k gs a, BagW b q s k gs a H
theorem seqIx_natB {j n : Nat} (h : j < n) : seqIndex? (j : Int) n = some j := by
  unfold seqIndex?
  have e1 : (if (j : Int) < 0 then (j : Int) + (n : Int) else (j : Int)) = j := if_neg (by omega)
  simp only [e1]
  rw [if_pos (by rw [Bool.and_eq_true]; exact ⟨decide_eq_true (by omega), decide_eq_true (by omega)⟩), Int.toNat_natCast]
/-- all but the two lists of the bag -/
def Bt (b q : Addr) (H H' : Hp) : Prop := ∀ x o, x ≠ b → x ≠ q → H x = some o → H' x = some o
section
variable {b q : Addr} {H H1 H' : Hp}
theorem Bt.refl (b q : Addr) (H : Hp) : Bt b q H H := fun _ _ _ _ h => h
theorem Bt.trans (u : Bt b q H H1) (v : Bt b q H1 H') : Bt b q H H' := fun x o n1 n2 h => v x o n1 n2 (u x o n1 n2 h)
theorem _root_.L2.Same.bt (s : Same H H') (b q : Addr) : Bt b q H H' := fun x o _ _ h => s x o h
theorem bt_b {o : HO} : Bt b q H (upd H b o) := fun x u n _ e => by rw [upd_ne n]; exact e
theorem bt_q {o : HO} : Bt b q H (upd H q o) := fun x u _ n e => by rw [upd_ne n]; exact e
theorem Bag.lst (h : Bag b q H) : ∃ ys, H b = some (.lst ys) := let ⟨_, _, _, _, w⟩ := h; ⟨_, w.h⟩
theorem Bag.cells (h : Bag b q H) : ∃ ys, H q = some (.lst ys) := let ⟨_, _, _, _, w⟩ := h; ⟨_, w.hq⟩
theorem Bag.keep (h : Bag b q H) (k : Bt b q H H') : Keep H H' := fun x o n e => by
  obtain ⟨y1, h1⟩ := h.lst
  obtain ⟨y2, h2⟩ := h.cells
  by_cases e1 : x = b
  · subst e1; rw [h1] at e; cases e; exact absurd rfl (n _)
  · by_cases e2 : x = q
    · subst e2; rw [h2] at e; cases e; exact absurd rfl (n _)
    · exact k x o e1 e2 e
theorem Bag.new (h : Bag b q H) {D : Addr} (hD : H D = none) : D ≠ b ∧ D ≠ q := by
  obtain ⟨_, e⟩ := h.lst
  obtain ⟨_, e2⟩ := h.cells
  exact ⟨fun z => (by rw [z, e] at hD; cases hD), fun z => (by rw [z, e2] at hD; cases hD)⟩
theorem Bag.setD (h : Bag b q H) {D : Addr} {o : HO} (h1 : D ≠ b) (h2 : D ≠ q) : Bag b q (upd H D o) := let ⟨s, k, gs, a, w⟩ := h; ⟨s, k, gs, a, by rw [upd_ne h1.symm]; exact w.h, by rw [upd_ne h2.symm]; exact w.hq, w.ne, w.len, w.pos, w.s0, w.k0, w.al⟩
theorem Bag.same (h : Bag b q H) (s : Same H H') : Bag b q H' := let ⟨s', k, gs, a, w⟩ := h; ⟨s', k, gs, a, s _ _ w.h, s _ _ w.hq, w.ne, w.len, w.pos, w.s0, w.k0, w.al⟩
theorem Bt.free (k : Bt b q H H') (h : Bag b q H') {p : Addr} (hp : H' p = none) : H p = none := by
  obtain ⟨n1, n2⟩ := h.new hp
  cases e : H p with
  | none => rfl
  | some o => rw [k p o n1 n2 e] at hp; cases hp
end
section
variable {J : It} {n : Nat} {G : Hp → Prop} {Y : Nat → Hp → V → Hp → Prop} {H1 : Hp} {b q D : Addr} {α : Type}
/-- the list at D holds data of which F holds, all else but the bag staying -/
def PvB (R : Rp α) (F : α → Prop) (b q D : Addr) (H1 : Hp) (i : Nat) (H : Hp) : Prop := Bt b q H1 H ∧ Bag b q H ∧ ∃ xs l, H D = some (.lst xs) ∧ Paired (R H) xs l ∧ l.length = i ∧ ∀ a ∈ l, F a
theorem pb_start {R : Rp α} {F : α → Prop} (h : Bag b q H1) (hD : H1 D = none) : PvB R F b q D H1 0 (upd H1 D (.lst [])) :=
  ⟨(same_new hD).bt b q, h.same (same_new hD), [], [], upd_same, .nil, rfl, fun _ h => nomatch h⟩
theorem pb_keep {R : Rp α} (m : Mono R) {F : α → Prop} {i : Nat} {H H4 : Hp} {y : V} {a : α} (h : Bag b q H1) (p : PvB R F b q D H1 i H) (hD : H1 D = none) (hi : i ≤ 100000) (b4 : Bt b q H H4) (h4 : Bag b q H4) (ra : R H4 y a) (fa : F a) :
    ∃ acc, H4 D = some (.lst acc) ∧ acc.length < sizeLine ∧ PvB R F b q D H1 (i + 1) (upd H4 D (.lst (acc ++ [y]))) := by
  obtain ⟨bt, hh, xs, l, h1, h2, h3, hf⟩ := p
  obtain ⟨d1, d2⟩ := h.new hD
  have hD4 : H4 D = some (.lst xs) := b4 D _ d1 d2 h1
  have k5 : Keep H4 (upd H4 D (.lst (xs ++ [y]))) := keep_lst hD4
  have hlen := paired_len h2
  refine ⟨xs, hD4, Nat.lt_of_le_of_lt (Nat.le_trans (by omega) hi) (by decide), fun x o n1 n2 e => ?_, h4.setD d1 d2, xs ++ [y], l ++ [a], upd_same, ?_, by rw [List.length_append, h3]; rfl, fun z hz => ?_⟩
  · have hxD : x ≠ D := fun q => by subst q; rw [hD] at e; cases e
    rw [upd_ne hxD]
    exact (bt.trans b4) x o n1 n2 e
  · exact paired_app (paired_mono m k5 (paired_mono m (hh.keep b4) h2)) (.cons (m _ _ _ _ k5 ra) .nil)
  · rcases List.mem_append.mp hz with hz | hz
    · exact hf z hz
    · rw [List.mem_singleton.mp hz]
      exact fa
end
section
variable {P : Program} {w : World} {K : PySem.W.Frag} {mg : Str → Option Value} {base : Heap} {cT cS : Addr}
def bigF (x : Int) : Option Int := if (10 : Int) ^ Int.toNat 18 ≤ (if x < 0 then -x else x) then some (if x < 0 then -x else x) else none
theorem bigF_nn {x y : Int} (h : bigF x = some y) : 0 ≤ y := by
  unfold bigF at h
  by_cases hc : (10 : Int) ^ Int.toNat 18 ≤ (if x < 0 then -x else x)
  · rw [if_pos hc] at h
    have e := Option.some.inj h
    split at e <;> omega
  · rw [if_neg hc] at h
    cases h
def spBag (K : PySem.W.Frag) : Sp := fun vs H Q _ => ∃ (a : Addr) (ns : List Int), vs = [.ref a] ∧ SqL K H a (ns.map V.int) ∧ ns.length ≤ 63 ∧ ∀ H' b q, Same H H' → H b = none → H q = none → Bag b q H' → Q (.ref b) H'
theorem ok_bag (T : Tx K mg cT cS) {f : Addr} {fd : FuncData} (d : D K mg "_law_bag" s_law_bag ["script"] f fd) : FnOk P w K mg base CX0 1 f fd ["script"] (spBag K) := by
  refine d.F.ok sc_law_bag (fun vs H Q E h => ?_) (fun cdv A outer s H vs Q E hr h => ?_)
  · obtain ⟨a, ns, rfl, _⟩ := h
    rfl
  · obtain ⟨a, ns, rfl, hS, hl63, q⟩ := h
    refine ⟨_, pss_cons (ps_set (i := 1) sc_law_bag.nd rfl (.inl rfl) (pe_op op_add pe_int (pe_callB call_len_seq (by rfl) T.b_len PySem.boot_len (pa_cons (pv 0) pa_nil))))
      (pss_cons (ps_for PassesOwn.never rfl (pi_list (pe_slice sl_list (pv 0) po_none (po_some pe_int))) (pg_name (i := 2) sc_law_bag.nd rfl (.inl rfl))
        (pss_one (ps_set (i := 1) sc_law_bag.nd rfl (.inl rfl) (pe_op op_mod (pe_callTy call_int1 (by rfl) T.b_int (by decide +kernel) (pa_cons (pe_op op_add (pe_op op_add (pe_op op_mul (pv 1) pe_int) (pe_op op_mod (pe_callTy call_int1 (by rfl) T.b_int (by decide +kernel) (pa_cons (pv 2) pa_nil)) pe_int)) pe_int) pa_nil)) pe_int))))
      (pss_cons (ps_setLc (i := 3) (own := [("cell", 2)]) (g := (gName 2)) (tt := _) rfl sc_law_bag.nd rfl rfl (sw_true rfl rfl rfl (by decide +kernel)) (pi_list (pe_slice sl_list (pv 0) po_none (po_some pe_int))) (blkOk_by (N := N_law_bag) (sc := defScope s_law_bag) (by decide +kernel)) (fun _ _ _ _ _ => (pg_name (i := 2) sc_law_bag.nd rfl (Or.inl rfl))) (fun _ _ _ _ _ => (pts_one (pt_cmpR op_ge (pe_callB call_abs (by rfl) T.b_abs (by decide +kernel) (pa_cons (pe_callTy call_int1 (by rfl) T.b_int (by decide +kernel) (pa_cons (pv 2) pa_nil)) pa_nil)) (pe_op op_pow pe_int pe_int) (nomark _))))
            (fun _ _ _ _ _ => (pe_callB call_abs (by rfl) T.b_abs (by decide +kernel) (pa_cons (pe_callTy call_int1 (by rfl) T.b_int (by decide +kernel) (pa_cons (pv 2) pa_nil)) pa_nil))))
      (pss_cons (ps_set (i := 4) sc_law_bag.nd rfl (.inl rfl) pe_non)
      (pss_cons (ps_if (PW.pt (pw_and (pt_cmpR op_lt (pe_callB call_len_seq (by rfl) T.b_len PySem.boot_len (pa_cons (pv 0) pa_nil)) pe_int (nomark _)) (pw_and1 (pt_cmpR op_eq (pe_callB call_len_seq (by rfl) T.b_len PySem.boot_len (pa_cons (pv 3) pa_nil)) pe_int (nomark _))))) (pss_one (ps_set (i := 4) sc_law_bag.nd rfl (.inl rfl) (pe_callB call_abs (by rfl) T.b_abs (by decide +kernel) (pa_cons (pe_callB (cr_sum rfl) (by rfl) T.b_sum (by decide +kernel) (pa_cons (pe_lc (own := [("cell", 2)]) (g := (gName 2)) (tt := tYes) rfl sc_law_bag.nd (pi_list (pv 0)) (blkOk_by (N := N_law_bag) (sc := defScope s_law_bag) (by decide +kernel)) (fun _ _ _ _ _ => (pg_name (i := 2) sc_law_bag.nd rfl (Or.inl rfl))) (fun _ _ _ _ _ => pts_nil)
            (fun _ _ _ _ _ => (pe_callTy call_int1 (by rfl) T.b_int (by decide +kernel) (pa_cons (pv 2) pa_nil)))) pa_nil)) pa_nil)))) pss_nil)
      (pss_one (ps_ret (pe_lst (pa_cons (pv 1) (pa_cons pe_int (pa_cons (pv 3) (pa_cons (pv 4) pa_nil))))))))))), ?_⟩
    have e63 : L2.cutV (ns.map V.int) none (some 63) = ns.map V.int := by
      have := cutV_upto (ns.map V.int) 63
      rw [List.take_of_length_le (by rw [List.length_map]; exact hl63)] at this
      exact this
    refine ⟨_, rfl, a, _, rfl, .inl hS, _, _, rfl, rfl, ?_⟩
    dsimp only [gName, tSeq]
    refine ⟨_, rfl, 63, rfl, a, _, rfl, hS, fun p np => ?_⟩
    rw [e63]
    have s1 := same_new (o := .lst (ns.map V.int)) np
    have hp1 := upd_same (H := H) (a := p) (o := .lst (ns.map V.int))
    generalize upd H p (.lst (ns.map V.int)) = H1 at *
    refine ⟨p, rfl, ⟨_, .of hp1⟩, ?_⟩
    have pm : (0 : Int) < 2147483647 := by decide
    refine for_it (walk_list (xs := ns.map V.int)) (fun i σ H' => H1 = H' ∧ ∃ (sd : Int) (x2 : Option V), σ = [some (.ref a), some (.int sd), x2, none, none] ∧ 0 ≤ sd ∧ sd < 4294967296)
      ⟨rfl, _, none, rfl, by omega, by rw [List.length_map]; omega⟩ (fun i σ H' _ h => by obtain ⟨rfl, _⟩ := h; exact .of hp1) ?_ ?_
    · rintro i x σ H2 H3 hi ⟨rfl, sd, x2, rfl, d0, d1⟩ ⟨rfl, hx⟩
      obtain ⟨k, hk, rfl⟩ := at_int hx
      dsimp only [gName, tSeq]
      have hm := mod_b (a := sd * 69621 + k % 1000003 + 7) pm
      refine ⟨_, rfl, _, _, rfl, rfl, .inl ⟨by omega, by omega⟩, _, rfl, .inl ⟨k, rfl, _, _, rfl, rfl, (by dsimp only; decide), _, _, rfl, rfl, _, _, rfl, rfl, .inl ⟨_, rfl, _, _, rfl, rfl, (by dsimp only; decide), ?_⟩⟩⟩
      exact ⟨rfl, _, _, rfl, hm.1, by omega⟩
    rintro σ H2 ⟨rfl, sd, x2, rfl, d0, d1⟩
    have hS1 := SqL.ext hS s1
    dsimp only [gName, tSeq]
    refine ⟨_, rfl, 63, rfl, a, _, rfl, hS1, fun p2 np2 => ?_⟩
    rw [e63]
    have s2 := same_new (o := .lst (ns.map V.int)) np2
    have hp2 := upd_same (H := H1) (a := p2) (o := .lst (ns.map V.int))
    generalize upd H1 p2 (.lst (ns.map V.int)) = H2 at *
    refine ⟨p2, rfl, ⟨_, .of hp2⟩, fun D hD => ?_⟩
    refine lc_fm (walk_list (xs := ns.map V.int)) rInt (fun i => ns[i]?.bind bigF) hD (fun H' s' => .of (s' _ _ hp2)) ?_ ?_
    · rintro i x H3 H4 hi pv ⟨rfl, hx⟩
      obtain ⟨k, hk, rfl⟩ := at_int hx
      rw [List.length_map] at hi
      refine ⟨rfl, _, rfl, .inl ⟨k, rfl, k, rfl, _, _, rfl, rfl, ⟨by decide, by decide, by decide⟩, _, _, rfl, rfl, _, rfl, ?_⟩⟩
      refine ite2 (fun hc => ?_) (fun hc => ?_)
      · refine ⟨_, rfl, .inl ⟨k, rfl, k, rfl, ?_⟩⟩
        exact fm_keep mono_int pv hD (by omega) (Same.refl _) (by rw [hk]; exact if_pos (of_decide_eq_true hc)) rfl
      · exact fm_skip mono_int pv (Same.refl _) (by rw [hk]; exact if_neg (fun z => hc (decide_eq_true z)))
    intro H3 ys s3 hD3 hp3
    rw [List.length_map, fm_list] at hp3
    have := paired_int hp3
    subst this
    generalize hgs : ns.filterMap bigF = gs at *
    have glen : gs.length ≤ 63 := by rw [← hgs]; exact Nat.le_trans (List.length_filterMap_le _ _) hl63
    have gpos : ∀ x ∈ gs, 0 ≤ x := fun x hx => by
      rw [← hgs] at hx
      obtain ⟨y, _, hy⟩ := List.mem_filterMap.mp hx
      exact bigF_nn hy
    have t3 := (s1.trans s2).trans s3
    have hD0 : H D = none := (s1.trans s2).free hD
    have fin : ∀ (H4 : Hp) (al : V) (b : Addr), Same H3 H4 → H4 b = none → (al = .non ∨ ∃ n, al = .int n ∧ 0 ≤ n) → Q (.ref b) (upd H4 b (.lst [V.int sd, V.int 1, V.ref D, al])) := fun H4 al b s4 nb hal => by
      have s5 := same_new (o := .lst [V.int sd, V.int 1, V.ref D, al]) nb
      have hD4 := s4 _ _ hD3
      have ne : D ≠ b := ne_of_none hD4 nb
      exact q _ b D (t3.trans (s4.trans s5)) ((t3.trans s4).free nb) hD0 ⟨sd, 1, gs, al, upd_same, s5 _ _ hD4, ne.symm, glen, gpos, ⟨d0, d1⟩, by omega, hal⟩
    have hS3 := SqL.ext hS t3
    dsimp only [gName, tSeq]
    refine ⟨_, rfl, a, _, rfl, .inl hS3, _, _, rfl, rfl, _, rfl, ?_⟩
    refine ite2 (fun hc => ?_) (fun hc => ?_)
    · refine ⟨_, rfl, D, _, rfl, .inl (.of hD3), rfl, _, rfl, ?_⟩
      refine ite2 (fun hc2 => ?_) (fun hc2 => ?_)
      · refine ⟨_, rfl, a, rfl, ⟨_, hS3⟩, fun D2 hD2 => ?_⟩
        refine lc_fm (walk_list (xs := ns.map V.int)) rInt (fun i => ns[i]?.bind fun x => some x) hD2 (fun H' s' => SqL.ext hS3 s') ?_ ?_
        · rintro i x H4 H5 hi pv ⟨rfl, hx⟩
          obtain ⟨k, hk, rfl⟩ := at_int hx
          rw [List.length_map] at hi
          refine ⟨rfl, _, rfl, .inl ⟨k, rfl, ?_⟩⟩
          exact fm_keep mono_int pv hD2 (by omega) (Same.refl _) (by rw [hk]; rfl) rfl
        intro H4 zs s4 hD4 hp4
        rw [List.length_map, fm_some] at hp4
        have := paired_int hp4
        subst this
        refine ⟨D2, _, rfl, .of hD4, _, rfl, ?_⟩
        dsimp only [gName, tSeq]
        refine ⟨_, rfl, _, rfl, _, rfl, by show 4 ≤ sizeLine; decide, fun b nb => ?_⟩
        exact fin _ _ _ s4 nb (.inr ⟨_, rfl, by split <;> omega⟩)
      · dsimp only [tNext, tSeq]
        refine ⟨_, rfl, _, rfl, _, rfl, by show 4 ≤ sizeLine; decide, fun b nb => ?_⟩
        exact fin _ _ _ (.refl _) nb (.inl rfl)
    · refine iteF ?_
      dsimp only [tNext, tSeq]
      refine ⟨_, rfl, _, rfl, _, rfl, by show 4 ≤ sizeLine; decide, fun b nb => ?_⟩
      exact fin _ _ _ (.refl _) nb (.inl rfl)
def spPick : Sp := fun vs H Q _ => ∃ (b q : Addr) (m : Int), vs = [.ref b, .int m] ∧ 0 < m ∧ m < 1073741824 ∧ Bag b q H ∧ ∀ H' n, Bt b q H H' → Bag b q H' → 0 ≤ n → n < m → Q (.int n) H'
theorem ok_pick (T : Tx K mg cT cS) {f : Addr} {fd : FuncData} (d : D K mg "_law_pick" s_law_pick ["bag", "many"] f fd) : FnOk P w K mg base CX0 1 f fd ["bag", "many"] spPick := by
  refine d.F.ok sc_law_pick (fun vs H Q E h => ?_) (fun cdv A outer s H vs Q E hr h => ?_)
  · obtain ⟨b, q0, m, rfl, _⟩ := h
    rfl
  · obtain ⟨b, q0, m, rfl, m0, m1, ⟨s, k, gs, a, W⟩, q⟩ := h
    refine ⟨_, pss_cons (ps_if (pt_cmp (pc_notN (pe_ix ix_list (pv 0) pe_int (fun _ _ => rfl)))) (pss_one (ps_ret (pe_op op_mod (pe_callTy call_int1 (by rfl) T.b_int (by decide +kernel) (pa_cons (pe_ix ix_list (pv 0) pe_int (fun _ _ => rfl)) pa_nil)) (pv 1)))) pss_nil)
      (pss_cons (ps_asg (pe_op op_add (pe_ix ix_list (pv 0) pe_int (fun _ _ => rfl)) pe_int) (pg_sub (pv 0) pe_int set_list))
      (pss_cons (ps_set (i := 2) sc_law_pick.nd rfl (.inl rfl) (pe_ix ix_list (pv 0) pe_int (fun _ _ => rfl)))
      (pss_cons (ps_if (pt_cmpR op_gt (pe_callB call_len_seq (by rfl) T.b_len PySem.boot_len (pa_cons (pv 2) pa_nil)) pe_int (nomark _)) (pss_cons (ps_set (i := 3) sc_law_pick.nd rfl (.inl rfl) (pe_op op_mod (pe_callTy call_int1 (by rfl) T.b_int (by decide +kernel) (pa_cons (pe_ix ix_list (pv 2) pe_int (fun _ _ => rfl)) pa_nil)) (pv 1)))
      (pss_cons (ps_asg (pe_op op_fdivN (pe_callTy call_int1 (by rfl) T.b_int (by decide +kernel) (pa_cons (pe_ix ix_list (pv 2) pe_int (fun _ _ => rfl)) pa_nil)) (pv 1)) (pg_sub (pv 2) pe_int set_list))
      (pss_cons (ps_if (pt_cmpR op_eq (pe_ix ix_list (pv 2) pe_int (fun _ _ => rfl)) pe_int (nomark _)) (pss_one (ps_expr (pe_bm PySem.F.plainAttrs_list PySem.F.slot_list_pop PySem.F.type_list_pop mt_popAt (pv 2) (pa_cons pe_int pa_nil)))) pss_nil)
      (pss_one (ps_ret (pv 3)))))) pss_nil)
      (pss_cons (ps_set (i := 4) sc_law_pick.nd rfl (.inl rfl) (pe_op op_mod (pe_callTy call_int1 (by rfl) T.b_int (by decide +kernel) (pa_cons (pe_op op_mul (pe_op op_add (pe_ix ix_list (pv 0) pe_int (fun _ _ => rfl)) (pe_op op_mul pe_int (pe_ix ix_list (pv 0) pe_int (fun _ _ => rfl)))) pe_int) pa_nil)) pe_int))
      (pss_cons (ps_set (i := 4) sc_law_pick.nd rfl (.inl rfl) (pe_op op_mod (pe_callTy call_int1 (by rfl) T.b_int (by decide +kernel) (pa_cons (pe_op op_mul (pv 4) (pe_op op_add (pe_op op_fdiv (pv 4) pe_int) pe_int)) pa_nil)) pe_int))
      (pss_cons (ps_set (i := 4) sc_law_pick.nd rfl (.inl rfl) (pe_op op_mod (pe_callTy call_int1 (by rfl) T.b_int (by decide +kernel) (pa_cons (pe_op op_mul (pv 4) (pe_op op_add (pe_op op_fdiv (pv 4) pe_int) pe_int)) pa_nil)) pe_int))
      (pss_one (ps_ret (pe_op op_mod (pe_callTy call_int1 (by rfl) T.b_int (by decide +kernel) (pa_cons (pe_op op_fdiv (pv 4) pe_int) pa_nil)) (pv 1)))))))))), ?_⟩
    refine ⟨_, rfl, b, _, _, _, rfl, rfl, .of W.h, at_of (j := 3) rfl rfl, _, rfl, ?_⟩
    rcases W.al with rfl | ⟨n, rfl, hn⟩
    · rw [decide_eq_true rfl]
      refine iteF ?_
      dsimp only [tNext, tSeq]
      refine ⟨_, rfl, b, _, _, _, rfl, rfl, .of W.h, at_of (j := 1) rfl rfl, _, _, rfl, rfl, _, rfl, b, _, _, _, rfl, rfl, W.h, rfl, ?_⟩
      have W2 : BagW b q0 s (k + 1) gs .non (upd H b (.lst (bgl s (k + 1) q0 .non))) := ⟨upd_same, by rw [upd_ne W.ne.symm]; exact W.hq, W.ne, W.len, W.pos, W.s0, by have := W.k0; omega, W.al⟩
      have B2 : Bt b q0 H (upd H b (.lst (bgl s (k + 1) q0 .non))) := bt_b
      show tSeq _ _ _ _ (upd H b (.lst (bgl s (k + 1) q0 .non)))
      generalize upd H b (.lst (bgl s (k + 1) q0 .non)) = H2 at *
      dsimp only [gName, tSeq]
      refine ⟨_, rfl, b, _, _, _, rfl, rfl, .of W2.h, at_of (j := 2) rfl rfl, ?_⟩
      dsimp only [gName, tSeq]
      refine ⟨_, rfl, q0, _, rfl, .inl (.of W2.hq), _, _, rfl, rfl, _, rfl, ?_⟩
      have hq2 := W2.hq
      cases gs with
      | nil =>
        rw [decide_eq_false (by show ¬ (0 : Int) < (([] : List V).length : Int); decide)]
        refine iteF ?_
        dsimp only [tNext, tSeq]
        refine ⟨_, rfl, b, _, _, _, rfl, rfl, .of W2.h, at_of (j := 0) rfl rfl, _, rfl, b, _, _, _, rfl, rfl, .of W2.h, at_of (j := 1) rfl rfl, _, _, rfl, rfl, .inl ⟨by decide, by decide⟩, _, _, rfl, rfl, _, _, rfl, rfl, .inr ⟨by decide, by decide⟩, .inl ⟨_, rfl, _, _, rfl, rfl, (by dsimp only; decide), ?_⟩⟩
        dsimp only [gName, tSeq]
        generalize hn1 : (s + 7919 * (k + 1)) * 48271 % 2147483647 = n1
        have a1 := mod_b (a := (s + 7919 * (k + 1)) * 48271) (m := 2147483647) (by decide)
        rw [hn1] at a1
        refine ⟨_, rfl, _, rfl, _, _, rfl, rfl, ⟨by decide, by decide⟩, _, _, rfl, rfl, _, _, rfl, rfl, .inl ⟨by omega, by omega⟩, .inl ⟨_, rfl, _, _, rfl, rfl, (by dsimp only; decide), ?_⟩⟩
        dsimp only [gName, tSeq]
        generalize hn2 : n1 * (n1 / 1009 + 69621) % 2147483647 = n2
        have a2 := mod_b (a := n1 * (n1 / 1009 + 69621)) (m := 2147483647) (by decide)
        rw [hn2] at a2
        refine ⟨_, rfl, _, rfl, _, _, rfl, rfl, ⟨by decide, by decide⟩, _, _, rfl, rfl, _, _, rfl, rfl, .inl ⟨by omega, by omega⟩, .inl ⟨_, rfl, _, _, rfl, rfl, (by dsimp only; decide), ?_⟩⟩
        dsimp only [gName, tSeq]
        generalize hn3 : n2 * (n2 / 2003 + 40692) % 2147483399 = n3
        refine ⟨_, rfl, _, _, rfl, rfl, ⟨by decide, by decide⟩, .inl ⟨_, rfl, _, rfl, _, _, rfl, rfl, m0, ?_⟩⟩
        have hm := mod_b (a := n3 / 16) m0
        exact q _ _ B2 ⟨_, _, _, _, W2⟩ hm.1 hm.2
      | cons g0 gt =>
        rw [decide_eq_true (by rw [List.map_cons, List.length_cons]; omega)]
        have p0 := W2.pos g0 (by simp)
        refine iteT ⟨_, rfl, q0, _, _, _, rfl, rfl, .of hq2, at_of (j := 0) rfl rfl, .inl ⟨_, rfl, _, rfl, _, _, rfl, rfl, m0, ?_⟩⟩
        have hm := mod_b (a := g0) m0
        dsimp only [gName, tSeq]
        refine ⟨_, rfl, q0, _, _, _, rfl, rfl, .of hq2, at_of (j := 0) rfl rfl, .inl ⟨_, rfl, _, rfl, _, _, rfl, rfl, ⟨by omega, by omega⟩, _, rfl, q0, _, _, _, rfl, rfl, hq2, ixN_nat (j := 0) (n := ((g0 :: gt).map V.int).length) (by rw [List.length_map]; exact Nat.succ_pos _), ?_⟩⟩
        have f0 : 0 ≤ g0.fdiv m := by rw [Int.fdiv_eq_ediv_of_nonneg _ (by omega)]; exact Int.ediv_nonneg p0 (by omega)
        have W3 : BagW b q0 s (k + 1) (g0.fdiv m :: gt) .non (upd H2 q0 (.lst ((g0.fdiv m :: gt).map V.int))) := ⟨by rw [upd_ne W2.ne]; exact W2.h, upd_same, W2.ne, W2.len, fun x hx => by
          rcases List.mem_cons.mp hx with rfl | h
          · exact f0
          · exact W2.pos x (by simp [h]), W2.s0, W2.k0, W2.al⟩
        have B3 : Bt b q0 H (upd H2 q0 (.lst ((g0.fdiv m :: gt).map V.int))) := B2.trans bt_q
        show tSeq _ _ _ _ (upd H2 q0 (.lst ((g0.fdiv m :: gt).map V.int)))
        generalize upd H2 q0 (.lst ((g0.fdiv m :: gt).map V.int)) = H3 at *
        dsimp only [gName, tSeq]
        have hq3 := W3.hq
        refine ⟨_, rfl, q0, _, _, _, rfl, rfl, .of hq3, at_of (j := 0) rfl rfl, rfl, _, rfl, ?_⟩
        refine ite2 (fun hc => ?_) (fun hc => ?_)
        · refine ⟨_, rfl, .inl ⟨rfl, _, .of hq3⟩, q0, _, _, 0, _, rfl, rfl, hq3, by decide, by decide, seqIx_natB (j := 0) (by rw [List.length_map]; exact Nat.succ_pos _), rfl, ?_⟩
          have W4 : BagW b q0 s (k + 1) gt .non (upd H3 q0 (.lst (gt.map V.int))) := ⟨by rw [upd_ne W3.ne]; exact W3.h, upd_same, W3.ne, by have := W3.len; rw [List.length_cons] at this; omega, fun x hx => W3.pos x (by simp [hx]), W3.s0, W3.k0, W3.al⟩
          exact ⟨_, rfl, q _ _ (B3.trans bt_q) ⟨_, _, _, _, W4⟩ hm.1 hm.2⟩
        · exact ⟨_, rfl, q _ _ B3 ⟨_, _, _, _, W3⟩ hm.1 hm.2⟩
    · rw [decide_eq_false (by simp)]
      refine iteT ⟨_, rfl, b, _, _, _, rfl, rfl, .of W.h, at_of (j := 3) rfl rfl, .inl ⟨n, rfl, _, rfl, _, _, rfl, rfl, m0, ?_⟩⟩
      have hm := mod_b (a := n) m0
      exact q _ _ (.refl _ _ _) ⟨_, _, _, _, W⟩ hm.1 hm.2
end
end S4

/-! one != other: tuples that hold instances, instances with an own == -/
namespace GQ
open PySem PySem.SeqAt
open AutoSeq1 (wpAny_loadPart')
open MeetsSeq MeetsSeq2 MeetsSeq3 SeqRoads2
section
variable {prog : Program} {w : World} {A : Around} {R : Result → Shared → Prop}
theorem tuple_neG (l b : Addr) (items items2 : Array Value) (n n2 : Nat) (dd dd2 : Option Addr) (sl sl2 : Array (Option Value)) (hsz : items.size = items2.size) (I : Nat → Shared → Prop)
    (turn : ∀ i (h1 : i < items.size) (h2 : i < items2.size) s, I i s → wpAny (model prog w) A.in1 (eqBool items[i] items2[i]) (fun r s' => r = true ∧ I (i + 1) s') (fun e s' => R (.error e) s') s)
    (fin : ∀ s, I items.size s → R (.ok (.ret (.bool false))) s) {s : Shared} (hl1 : s.heap.get? l = some { cls := .type "tuple", dict := dd, data := .seq items n, slots := sl }) (hb1 : s.heap.get? b = some { cls := .type "tuple", dict := dd2, data := .seq items2 n2, slots := sl2 }) (h : I 0 s) :
    wpAny (model prog w) A.in1 (Builtin.«tuple.__ne__» ⟨[.ref l, .ref b], []⟩) (FinOf prog w A R) (fun e s' => R (.error e) s') s := by
  have f2 := AutoSeq1.sub_tuple_tuple
  have hZ : (items.toList.zip items2.toList).length = items.size := by simp [hsz]
  have h0 := h
  obtain ⟨hp, g, d, tk, os⟩ := s
  wp_walk using wpAny_loadPart' hl1, wpAny_loadPart' hb1, wpAny_forIn_list _ (fun rest b s' => b.1 = none ∧ ∃ i, rest = (items.toList.zip items2.toList).drop i ∧ i ≤ items.size ∧ I i s') _
  case turn =>
    rintro ⟨y, x⟩ rest b s' ⟨hb', i, hz, hi, hI⟩
    have hlt : i < (items.toList.zip items2.toList).length := by
      rcases Nat.lt_or_ge i (items.toList.zip items2.toList).length with h' | h'
      · exact h'
      · rw [List.drop_of_length_le h'] at hz; cases hz
    have h1 : i < items.size := hZ ▸ hlt
    have h2 : i < items2.size := hsz ▸ h1
    rw [List.drop_eq_getElem_cons hlt] at hz
    injection hz with hyx hrest
    have hy : y = items[i] := by have := congrArg Prod.fst hyx; simpa using this
    have hx : x = items2[i] := by have := congrArg Prod.snd hyx; simpa using this
    subst hy hx
    refine wpAny_bind (wpAny_mono (turn i h1 h2 s' hI) (fun r s2 q2 => ?_) fun _ _ x => x)
    obtain ⟨hr, q2⟩ := q2
    subst hr
    wp_walk
    exact ⟨rfl, i + 1, hrest, h1, q2⟩
  case fin =>
    rintro ⟨b1, b2⟩ s' ⟨hb', i, hz, hi, hI⟩
    simp only at hb'
    subst hb'
    have hge : items.size ≤ i := by
      rcases Nat.lt_or_ge i (items.toList.zip items2.toList).length with h' | h'
      · rw [List.drop_eq_getElem_cons h'] at hz; cases hz
      · exact hZ ▸ h'
    have hi' : i = items.size := by omega
    have hR : R (.ok (.ret (.bool false))) s' := fin s' (hi' ▸ hI)
    wp_walk
    simpa [Builtin.Tuple.tupleCompareSizes, hsz] using hR
  case h =>
    exact ⟨rfl, 0, rfl, Nat.zero_le _, h0⟩
end
section
variable {prog : Program} {w : World} {A : Around} {E : Value → Shared → Prop} {s : Shared}
theorem rcn_tupG {l b : Addr} {items items2 : Array Value} {Q : Value → Shared → Prop} (hsz : items.size = items2.size) (hu : A.units < cLine) (I : Nat → Shared → Prop)
    (hl : s.heap.IsTuple l items) (hb : s.heap.IsTuple b items2)
    (turn : ∀ i (h1 : i < items.size) (h2 : i < items2.size) s, I i s → wpAny (model prog w) A.in1 (eqBool items[i] items2[i]) (fun r s' => r = true ∧ I (i + 1) s') E s)
    (fin : ∀ s, I items.size s → Q (.bool false) s) (h : I 0 s) : wpAny (model prog w) A (richCompare .NotEq (.ref l) (.ref b)) Q E s := by
  obtain ⟨⟨cls, dd, data, sl⟩, ho, hc, n, hd⟩ := id hl
  obtain ⟨⟨cls2, dd2, data2, sl2⟩, ho2, hc2, n2, hd2⟩ := id hb
  simp only at hc hd hc2 hd2
  subst hc hd hc2 hd2
  refine wpAny_richCompare_same_room (op := .NotEq) ⟨_, ho, rfl⟩ ⟨_, ho2, rfl⟩ F.slot_tuple_ne (call_here F.slot_tuple_ne ⟨_, ho, rfl⟩ F.entry_tuple_ne (F.args_tuple_ne_2 _ _) ?_) hu
  exact tuple_neG (R := wants (fun v s' => v ≠ .notImplemented ∧ Q v s') E) l b items items2 n n2 dd dd2 sl sl2 hsz I turn (fun s' q => ⟨(fun x => nomatch x), fin s' q⟩) ho ho2 h
end
end GQ

namespace PySem.W
open PySem PySem.Calls PyProof.Rows
theorem on_bind (self : Value) : bindSpecial (.builtin "object.__ne__") self = pure (.builtin "object.__ne__", [self]) :=
  (Slot.of (T := "object") (name := "__ne__") (owner := "object") (n := "__ne__") (by rw [typeLookup_type, builtinLookup_eq_fast]; kernel_rfl) (by decide +kernel) (by decide +kernel) (by decide +kernel)
    (.inl (by decide +kernel)) (by rw [isSubtype_type]; kernel_rfl)).bind self
theorem entry_on : entryFor table "object.__ne__" = some Builtin.«object.__ne__» := entryFor_of_tree (by kernel_rfl)
theorem on_plain : plainId "object.__ne__" = true := by decide +kernel
theorem on_kind : builtinKind "object.__ne__" = some .slot := by decide +kernel
theorem on_split : splitId "object.__ne__" = some ("object", "__ne__") := by decide +kernel
theorem on_args (a b : Value) : argsOk "object.__ne__" ⟨[a, b], []⟩ := by unfold argsOk; kernel_rfl
section
variable {prog : Program} {w : World} {A : Around} {E : Value → Shared → Prop} {s : Shared} {K : Frag} {x C L f : Addr} {h₀ : Heap} {m : Str → Option Value} {ox : Obj} {od : Option Obj} {name : Str} {b tb : Value}
theorem ifBound_B {M : Model} {args : List Value} {id : String} {Q : Option Value → Shared → Prop} (X : K.In s.heap) (I : InstAt s.heap x ox C od) (hs : findIn K (.ref C) name = some (some (.builtin id))) (hbi : ∀ self, bindSpecial (.builtin id) self = pure (.builtin id, [self]))
    (h : wpAny M A (call (.builtin id) (.ref x :: args)) (fun v => Q (some v)) E s) : wpAny M A (callSpecialIfBound? (.ref x) name args) Q E s := by
  simp only [callSpecialIfBound?, bindSpecialIfBound?]
  refine wpAny_holding (wpAny_bind (wpAny_bind (wpAny_bind (I.type.here ((looks_findIn X hs).here ?_)))))
  refine wpAny_bind (wpAny_askSetting (wpAny_ite ?_))
  have fin : wpAny M A (call (.builtin id) ([.ref x] ++ args) >>= fun v => pure (some v)) Q E s := wpAny_bind (wpAny_mono h (fun v s' h' => wpAny_pure h') fun _ _ h' => h')
  split
  · rw [hbi]; exact wpAny_bind (wpAny_pure (wpAny_pure (by exact fin)))
  · rw [hbi]; exact wpAny_tryCatch (wpAny_bind (wpAny_pure (wpAny_pure (by exact fin))))
theorem ne_body {Q : Value → Shared → Prop} (hu1 : A.in1.units < cLine) (X : K.In s.heap) (I : InstAt s.heap x ox C od) (hob : subIn K (.ref C) (.type "object") = some true)
    (hs : findIn K (.ref C) "__eq__" = some (some (.ref f))) (hf : isFn K (.ref f) = true)
    (h : wpAny (model prog w) A.in1 (call (.ref f) [.ref x, b]) (fun v s' => ∃ c, v = .bool c ∧ Q (.bool (!c)) s') E s) : wpAny (model prog w) A (call (.builtin "object.__ne__") [.ref x, b]) Q E s := by
  refine wpAny_call (codeAny_call_builtin on_plain entry_on (@check_slot (model prog w) _ _ _ "object.__ne__" "object" "__ne__" (.ref x) [b] [] _ on_kind on_split (I.type.andThen (looks_subIn X hob)) (on_args (.ref x) b) ?_))
  have hb2 : wpAny (model prog w) A.in1 (callSpecialIfBound? (.ref x) "__eq__" [b]) (fun r s' => ∃ c, r = some (.bool c) ∧ Q (.bool (!c)) s') E s :=
    ifBound_K X I hs hf (wpAny_mono h (fun v s' ⟨c, e, q⟩ => ⟨c, by rw [e], q⟩) fun _ _ e => e)
  show wpAny (model prog w) A.in1 (do
    cRoomFor "comparison" [.ref x, b]
    match ← callSpecialIfBound? (.ref x) "__eq__" [b] with
    | some .notImplemented | none => ret .notImplemented
    | some r => ret (.bool (!(← truthy r)))) _ _ s
  refine wpAny_bind (wpAny_cRoomFor hu1 (wpAny_bind (wpAny_mono hb2 (fun r s' z => ?_) fun _ _ e => e)))
  obtain ⟨c, rfl, q⟩ := z
  refine wpAny_bind ?_
  show wpAny (model prog w) A.in1 (pure c) _ _ _
  exact wpAny_pure (wpAny_pure q)
theorem cmpNe_K {Q : Value → Shared → Prop} (hu : A.units < cLine) (hu1 : A.in1.units < cLine) (F : Fr h₀ L s.heap m) (X₀ : K.In h₀) (I : InstAt s.heap x ox C od) (hb : Looks (model prog w) s.heap (typeOf b) tb) (hn : notFirst K C tb = true)
    (ho : findIn K (.ref C) "__ne__" = some (some (.builtin "object.__ne__"))) (hob : subIn K (.ref C) (.type "object") = some true)
    (hs : findIn K (.ref C) "__eq__" = some (some (.ref f))) (hf : isFn K (.ref f) = true)
    (h : wpAny (model prog w) A.in1 (call (.ref f) [.ref x, b]) (fun v s' => ∃ c, v = .bool c ∧ Q (.bool (!c)) s') E s) : wpAny (model prog w) A (richCompare .NotEq (.ref x) b) Q E s := by
  have X := X₀.keeps F.keep
  have one : wpAny (model prog w) A (tryCompare (.ref x) "__ne__" b) (fun r s' => ∃ v, r = some v ∧ Q v s') E s := by
    unfold tryCompare
    refine wpAny_bind (ifBound_B X I ho on_bind (ne_body (Q := fun v s' => ∃ c, v = .bool c ∧ Q (.bool c) s') hu1 X I hob hs hf (wpAny_mono h (fun v s' ⟨c, e, q⟩ => ⟨c, e, _, rfl, q⟩) fun _ _ e => e) |> fun z => wpAny_mono z (fun v s' hv => ?_) fun _ _ e => e))
    obtain ⟨c, rfl, q⟩ := hv
    exact wpAny_pure ⟨_, rfl, q⟩
  unfold richCompare
  simp only [oneThing_ref]
  refine wpAny_holding (wpAny_bind (wpAny_cRoomFor hu ?_))
  refine wpAny_bind (I.type.here (wpAny_bind (hb.here ?_)))
  split
  · rename_i q
    have e : subIn K tb (.ref C) = some false := by
      rcases Bool.or_eq_true_iff.mp hn with e | e
      · rw [beq_iff_eq.mp e] at q; simp at q
      · exact beq_iff_eq.mp e
    refine wpAny_bind ((looks_subIn X e).here ?_)
    simp only [Bool.false_eq_true, if_false]
    refine wpAny_bind (wpAny_mono one (fun r s' z => ?_) fun _ _ e => e)
    obtain ⟨v, rfl, hq⟩ := z
    exact wpAny_pure hq
  · refine wpAny_bind (wpAny_pure ?_)
    simp only [Bool.false_eq_true, if_false]
    refine wpAny_bind (wpAny_mono one (fun r s' z => ?_) fun _ _ e => e)
    obtain ⟨v, rfl, hq⟩ := z
    exact wpAny_pure hq
end
end PySem.W
namespace L2
open PySem
/-- != gives False for what D says, and only makes objects -/
def RcNG (X : Cx) (n : Nat) (D : Eqv) : Prop :=
  ∀ (A : Around) (pins : List (Addr × Obj)) (s : Shared) (σ : St) (H : Hp) (x y : V) (u v : Value), Sub X n A → Inv X pins σ H s → RelV x u → RelV y v → D x y H →
    wpAny (model X.prog X.w) A (richCompare .NotEq u v) (fun r s' => r = .bool false ∧ ∃ H', Inv X pins σ H' s' ∧ Ext H H') X.xe s
section
variable {X : Cx} {n m : Nat} {D D' : Eqv}
theorem rcN_tup (hD : Mon D) (h : EqG X n D) : RcNG X (n + 1) (DTup X.K D) := by
  intro A pins s σ H x y u v sb I rx ry d
  obtain ⟨a, b, xs, ys, rfl, rfl, ha, hb, p⟩ := d
  cases rx
  cases ry
  obtain ⟨its, r, e, z⟩ := I.tuple ha
  obtain ⟨its2, r2, e2, z2⟩ := I.tuple hb
  have hsz : its.toArray.size = its2.toArray.size := by rw [List.size_toArray, List.size_toArray, ← r.length, ← r2.length]; exact p.1
  exact GQ.rcn_tupG hsz sb.room.units0 (fun _ s' => LoopI X pins σ H s') e e2 (fun i h1 h2 s' q => turnG hD h sb p r r2 i h1 h2 s' q) (fun s' q => ⟨rfl, q⟩) ⟨H, I, Ext.rfl'⟩
theorem rcN_ins {CX : CXT} {C f : Addr} {fd : FuncData} {ps : List Str} {R : Addr → Addr → Hp → Prop} {E : XK} (F : FnOk X.prog X.w X.K X.mg X.base CX n f fd ps (spEq R))
    (ho : PySem.W.findIn X.K (.ref C) "__ne__" = some (some (.builtin "object.__ne__"))) (hob : PySem.W.subIn X.K (.ref C) (.type "object") = some true)
    (hs : PySem.W.findIn X.K (.ref C) "__eq__" = some (some (.ref f))) (hf : PySem.W.isFn X.K (.ref f) = true) (hb : Binds X.K fd ps []) (hx : Passes CX X E) : RcNG X (n + 1) (DIns C R) := by
  intro A pins s σ H x y u v sb0 I rx ry d
  have sb := sb0.in1
  obtain ⟨a, b, dx, dy, fs, gs, rfl, rfl, ha, hb', hr⟩ := d
  cases rx
  cases ry
  obtain ⟨mA, J, _⟩ := ins_get I.hok ha
  obtain ⟨mB, J', _⟩ := ins_get I.hok hb'
  obtain ⟨od, J, _⟩ := J.look
  obtain ⟨od', J', _⟩ := J'.look
  obtain ⟨m, hF⟩ := I.fr
  refine PySem.W.cmpNe_K (tb := .ref C) sb0.room.units0 sb.room.units0 hF I.ok.mod.kin J J'.type (by simp [PySem.W.notFirst]) ho hob hs hf ?_
  have hsp : spEq R [.ref a, .ref b] H (fun v H' => v = .bl true ∧ Ext H H') E := ⟨a, b, rfl, hr, fun H' e => ⟨rfl, e⟩⟩
  have e0 : Env0 X.prog X.w X.K X.mg X.base A.in1 X.stack s H := by
    have e := I.env0
    exact ⟨by rw [sb.fr]; exact e.frames, e.mod, e.bs, e.bsz, e.funs, e.frf, e.hok, e.bare⟩
  have hl := F.len _ _ _ _ hsp
  have r2 : Vals [V.ref a, V.ref b] [Value.ref a, Value.ref b] := .cons rfl (.cons rfl .nil)
  refine wpAny_call (codeAny_mono (F.run A.in1 X.stack s H ⟨[.ref a, .ref b], []⟩ [.ref a, .ref b] [.ref a, .ref b] _ E sb.room e0 (by
    have := hb s [.ref a, .ref b] I.kIn (by simpa using hl)
    simpa using this) r2 hsp) fun r s' hq => ?_)
  cases r with
  | error e => exact hx pins σ H s e s' I hq
  | ok fl =>
    cases fl with
    | ret w =>
      obtain ⟨z, H', I', rz, ez, ex⟩ := I.after hq
      subst ez
      cases rz
      exact ⟨true, rfl, rfl, H', I', ex⟩
    | next => exact False.elim hq
    | brk => exact False.elim hq
    | cont => exact False.elim hq
/-- x != y as an expression, the two equal -/
def rNeG (D : Eqv) : R2 := fun x y H Q => D x y H ∧ ∀ H', Ext H H' → Q (.bl false) H'
theorem op_neG (h : RcNG X n D) (hr : Room n X.A) : OpR X (compareOp .NotEq) (rNeG D) := by
  intro pins s σ H x y v u Q I rx ry hq
  obtain ⟨d, q⟩ := hq
  show wpAny (model X.prog X.w) X.A (richCompare .NotEq v u) (EP X pins σ Q) X.xe s
  refine wpAny_mono (h X.A pins s σ H x y v u ⟨hr, rfl⟩ I rx ry d) (fun r s' z => ?_) fun _ _ x => x
  obtain ⟨hr', H', I', e⟩ := z
  subst hr'
  exact ⟨.bl false, H', I', rfl, q H' e⟩
end
end L2

namespace S4
open PySem L2 TT MM
/-! ### data to compare -/
def Shp (n : Nat) (d : PyData) : Prop := PyData.canLay0 d = true ∧ PyData.depth d ≤ n
theorem Shp.int (i : Int) : Shp 0 (.int i) := ⟨by simp [PyData.canLay0], by simp [PyData.depth]⟩
theorem Shp.mono {n m : Nat} {d : PyData} (h : Shp n d) (hm : n ≤ m) : Shp m d := ⟨h.1, Nat.le_trans h.2 hm⟩
theorem shp_all {n : Nat} : ∀ {l : List PyData}, (∀ x ∈ l, Shp n x) → PyData.canLayAll0 l = true ∧ PyData.depthAll l ≤ n
  | [], _ => ⟨by simp [PyData.canLayAll0], by simp [PyData.depthAll]⟩
  | x :: l, h => by
    obtain ⟨h1, h2⟩ := shp_all (l := l) fun y hy => h y (by simp [hy])
    obtain ⟨h3, h4⟩ := h x (by simp)
    exact ⟨by simp [PyData.canLayAll0, h1, h3], by simp only [PyData.depthAll]; omega⟩
theorem Shp.tup {n : Nat} {l : List PyData} (h : ∀ x ∈ l, Shp n x) : Shp (n + 1) (.tuple l) := by
  obtain ⟨h1, h2⟩ := shp_all h
  exact ⟨by simp only [PyData.canLay0]; exact h1, by simp only [PyData.depth]; omega⟩
theorem Shp.lst {n : Nat} {l : List PyData} (h : ∀ x ∈ l, Shp n x) : Shp (n + 1) (.list l) := by
  obtain ⟨h1, h2⟩ := shp_all h
  exact ⟨by simp only [PyData.canLay0]; exact h1, by simp only [PyData.depth]; omega⟩
theorem Shp.ok {n : Nat} {d : PyData} (h : Shp n d) (hn : n ≤ 64) : SeqAt.shaped d = true := by
  show (PyData.canLay0 d && decide (PyData.depth d ≤ 64)) = true
  rw [Bool.and_eq_true]
  exact ⟨h.1, decide_eq_true (Nat.le_trans h.2 hn)⟩
/-- data in the heap, told apart by == -/
structure Enc {α : Type} (R : Rp α) (enc : α → PyData) (n : Nat) : Prop where
  eq : ∀ a b, PyData.eqv (enc a) (enc b) = true ↔ a = b
  shp : ∀ a, Shp n (enc a)
  dp : ∀ (K : PySem.W.Frag) (H : Hp) (v : V) (a : α), R H v a → Dp K H v (enc a)
theorem eqvAll_iff {α : Type} {enc : α → PyData} (h : ∀ a b, PyData.eqv (enc a) (enc b) = true ↔ a = b) : ∀ l m : List α, PyData.eqvAll (l.map enc) (m.map enc) = true ↔ l = m
  | [], [] => by simp [PyData.eqvAll]
  | [], b :: m => by simp [PyData.eqvAll]
  | a :: l, [] => by simp [PyData.eqvAll]
  | a :: l, b :: m => by
    rw [List.map_cons, List.map_cons]
    simp only [PyData.eqvAll, Bool.and_eq_true]
    rw [h, eqvAll_iff h l m, List.cons.injEq]
theorem int_iff (a b : Int) : PyData.eqv (.int a) (.int b) = true ↔ a = b := by simp [PyData.eqv]
theorem enc_int : Enc rInt PyData.int 0 := ⟨int_iff, Shp.int, fun K H v a h => by rw [show v = .int a from h]; exact .int a⟩
theorem enc_tup {α : Type} {R : Rp α} {enc : α → PyData} {n : Nat} (E : Enc R enc n) : Enc (rTup R) (fun l => .tuple (l.map enc)) (n + 1) := by
  refine ⟨fun a b => ?_, fun a => .tup fun x hx => ?_, fun K H v a ⟨t, xs, e, h, p⟩ => ?_⟩
  · simp only [PyData.eqv]
    exact eqvAll_iff E.eq a b
  · obtain ⟨y, _, rfl⟩ := List.mem_map.mp hx
    exact E.shp y
  · subst e
    refine .tup (.of h) ?_
    clear h
    have go : ∀ {xs : List V} {l : List α}, Paired (R H) xs l → DpAll K H xs (l.map enc) := fun p => by
      induction p with
      | nil => exact .nil
      | cons r t ih => exact .cons (E.dp K H _ _ r) ih
    exact go p
theorem enc_row : Enc rRow (fun l => .tuple (l.map PyData.int)) 1 := by
  refine ⟨fun a b => ?_, fun a => .tup fun x hx => ?_, fun K H v a ⟨t, e, h⟩ => ?_⟩
  · simp only [PyData.eqv]
    exact eqvAll_iff int_iff a b
  · obtain ⟨y, _, rfl⟩ := List.mem_map.mp hx
    exact .int y
  · subst e
    refine .tup (.of h) ?_
    have go : ∀ l : List Int, DpAll K H (l.map V.int) (l.map PyData.int) := fun l => by
      induction l with
      | nil => exact .nil
      | cons r t ih => exact .cons (.int _) ih
    exact go a
theorem enc_pi : Enc rPI (fun z => .tuple [.int z.1, .int z.2]) 1 := by
  refine ⟨fun a b => ?_, fun a => .tup fun x hx => ?_, fun K H v a ⟨t, e, h⟩ => ?_⟩
  · simp only [PyData.eqv, PyData.eqvAll, Bool.and_true, Bool.and_eq_true]
    exact ⟨fun h => Prod.ext (by simpa using h.1) (by simpa using h.2), fun h => by subst h; simp⟩
  · simp only [List.mem_cons, List.not_mem_nil, or_false] at hx
    rcases hx with rfl | rfl <;> exact .int _
  · subst e
    exact .tup (.of h) (.cons (.int _) (.cons (.int _) .nil))
section
variable {α : Type} {R : Rp α} {enc : α → PyData} {n : Nat} {K : PySem.W.Frag} {H : Hp} {x y : V} {a b : α} {Q : VK}
theorem Enc.eqD (E : Enc R enc n) (hn : n ≤ 64) (hx : R H x a) (hy : R H y b) [d : Decidable (a = b)] (q : Q (.bl (decide (a = b))) H) : rEqD K x y H Q := by
  refine ⟨_, _, E.dp K H _ _ hx, E.dp K H _ _ hy, (E.shp a).ok hn, (E.shp b).ok hn, ?_⟩
  rw [show PyData.eqv (enc a) (enc b) = decide (a = b) from by rw [Bool.eq_iff_iff, E.eq, decide_eq_true_iff]]
  exact q
theorem Enc.neD (E : Enc R enc n) (hn : n ≤ 64) (hx : R H x a) (hy : R H y b) [d : Decidable (a = b)] (q : Q (.bl (!decide (a = b))) H) : rNeD K x y H Q := by
  refine ⟨_, _, E.dp K H _ _ hx, E.dp K H _ _ hy, (E.shp a).ok hn, (E.shp b).ok hn, ?_⟩
  rw [show PyData.eqv (enc a) (enc b) = decide (a = b) from by rw [Bool.eq_iff_iff, E.eq, decide_eq_true_iff]]
  exact q
end
end S4

namespace S4
open PySem L2 TT MM
/-! ### rows put right place by place -/
structure LG (p : Int) (wd : Nat) (rows : List (List Int)) (pl : List Nat) (c : Nat) (W : List (List Int)) : Prop where
  row : ∀ r ∈ W, isRow r p wd
  len : W.length = rows.length
  sp : Same2 p (inRows W) (inRows rows)
  asc : pl.Pairwise (· < ·)
  lt : ∀ x ∈ pl, x < c
  one : ∀ (a x : Nat), pl[a]? = some x → (W.getD a []).getD x 0 = 1
  off : ∀ (a x i : Nat), pl[a]? = some x → i ≠ a → (W.getD i []).getD x 0 = 0
  low : ∀ (a x y : Nat), pl[a]? = some x → y < x → (W.getD a []).getD y 0 = 0
  rest : ∀ (i y : Nat), pl.length ≤ i → y < c → (W.getD i []).getD y 0 = 0
section
variable {p : Int} {wd : Nat} {rows W W' : List (List Int)} {pl : List Nat} {c : Nat}
theorem getD_set (W : List (List Int)) {i : Nat} (hi : i < W.length) (r : List Int) (k : Nat) : (W.set i r).getD k [] = if k = i then r else W.getD k [] := by
  rw [List.getD_eq_getElem?_getD, List.getElem?_set]
  by_cases h : k = i
  · subst h
    rw [if_pos rfl, if_pos rfl, if_pos hi]
    rfl
  · rw [if_neg (fun e => h e.symm), if_neg h, List.getD_eq_getElem?_getD]
theorem same_set {i : Nat} (hi : i < W.length) {r : List Int} (h1 : Spn p (inRows W) (vec r)) (h2 : Spn p (inRows (W.set i r)) (vec (W.getD i []))) : Same2 p (inRows (W.set i r)) (inRows W) := by
  refine same2_of (fun v ⟨l, hl, e⟩ => ?_) fun v ⟨l, hl, e⟩ => ?_
  · subst e
    rcases List.mem_or_eq_of_mem_set hl with h | h
    · exact .row ⟨l, h, rfl⟩
    · subst h; exact h1
  · subst e
    obtain ⟨k, hk, rfl⟩ := List.getElem_of_mem hl
    by_cases e : k = i
    · subst e
      have e2 : W.getD k [] = W[k] := getD_at (List.getElem?_eq_getElem hk)
      rw [← e2]; exact h2
    · refine .row ⟨W[k], ?_, rfl⟩
      have : (W.set i r)[k]? = some W[k] := by rw [List.getElem?_set, if_neg (fun q => e q.symm), List.getElem?_eq_getElem hk]
      exact List.mem_of_getElem? this
theorem same_trans {R1 R2 R3 : Vc → Prop} (a : Same2 p R1 R2) (b : Same2 p R2 R3) : Same2 p R1 R3 := fun v => (a v).trans (b v)
theorem same_swap {i j : Nat} (hi : i < W.length) (hj : j < W.length) : Same2 p (inRows ((W.set i (W.getD j [])).set j (W.getD i []))) (inRows W) := by
  have ei : W.getD i [] = W[i] := getD_at (List.getElem?_eq_getElem hi)
  have ej : W.getD j [] = W[j] := getD_at (List.getElem?_eq_getElem hj)
  refine same2_of (fun v ⟨l, hl, e⟩ => ?_) fun v ⟨l, hl, e⟩ => ?_
  · subst e
    refine .row ⟨l, ?_, rfl⟩
    rcases List.mem_or_eq_of_mem_set hl with h | h
    · rcases List.mem_or_eq_of_mem_set h with h | h
      · exact h
      · rw [h, ej]; exact List.getElem_mem hj
    · rw [h, ei]; exact List.getElem_mem hi
  · subst e
    refine .row ⟨l, ?_, rfl⟩
    obtain ⟨k, hk, rfl⟩ := List.getElem_of_mem hl
    have hl1 : j < (W.set i (W.getD j [])).length := by rw [List.length_set]; exact hj
    by_cases e1 : k = i
    · subst e1
      have : ((W.set k (W.getD j [])).set j (W.getD k []))[j]? = some W[k] := by rw [List.getElem?_set, if_pos rfl, if_pos hl1, ei]
      exact List.mem_of_getElem? this
    · by_cases e2 : k = j
      · subst e2
        have : ((W.set i (W.getD k [])).set k (W.getD i []))[i]? = some W[k] := by
          rw [List.getElem?_set, if_neg e1, List.getElem?_set, if_pos rfl, if_pos hi, ej]
        exact List.mem_of_getElem? this
      · have : ((W.set i (W.getD j [])).set j (W.getD i []))[k]? = some W[k] := by
          rw [List.getElem?_set, if_neg (fun q => e2 q.symm), List.getElem?_set, if_neg (fun q => e1 q.symm), List.getElem?_eq_getElem hk]
        exact List.mem_of_getElem? this
theorem LG.le (L : LG p wd rows pl c W) : pl.length ≤ W.length := by
  by_cases h : pl.length ≤ W.length
  · exact h
  · have hx : pl[W.length]? = some (pl[W.length]'(by omega)) := List.getElem?_eq_getElem (by omega)
    have := L.one _ _ hx
    rw [List.getD_eq_getElem?_getD (l := W), List.getElem?_eq_none (Nat.le_refl _)] at this
    simp at this
theorem LG.start (hr : ∀ r ∈ rows, isRow r p wd) : LG p wd rows [] 0 rows :=
  ⟨hr, rfl, fun v => Iff.rfl, .nil, fun x h => (nomatch h), fun a x h => by simp at h, fun a x i h => by simp at h, fun a x y h => by simp at h, fun i y _ h => absurd h (Nat.not_lt_zero y)⟩
/-- no row is left that has something at the place -/
theorem LG.none (L : LG p wd rows pl c W) (h : ∀ i, pl.length ≤ i → (W.getD i []).getD c 0 = 0) : LG p wd rows pl (c + 1) W :=
  ⟨L.row, L.len, L.sp, L.asc, fun x hx => Nat.lt_succ_of_lt (L.lt x hx), L.one, L.off, L.low, fun i y hi hy => by
    by_cases e : y = c
    · subst e; exact h i hi
    · exact L.rest i y hi (by omega)⟩
/-- a row is put at the top, all others cleared of the place -/
theorem LG.some (L : LG p wd rows pl c W) (hr : ∀ r ∈ W', isRow r p wd) (hl : W'.length = W.length) (hs : Same2 p (inRows W') (inRows W)) (un : ∀ i x, x < c → (W'.getD i []).getD x 0 = (W.getD i []).getD x 0)
    (h1 : (W'.getD pl.length []).getD c 0 = 1) (h0 : ∀ i, i ≠ pl.length → (W'.getD i []).getD c 0 = 0) : LG p wd rows (pl ++ [c]) (c + 1) W' := by
  have at_ : ∀ a x, (pl ++ [c])[a]? = Option.some x → (pl[a]? = Option.some x ∧ x < c) ∨ (a = pl.length ∧ x = c) := fun a x h => by
    by_cases ha : a < pl.length
    · rw [List.getElem?_append_left ha] at h
      exact .inl ⟨h, L.lt x (List.mem_of_getElem? h)⟩
    · rw [List.getElem?_append_right (by omega)] at h
      obtain ⟨hh, e⟩ := List.getElem?_eq_some_iff.mp h
      have : a - pl.length = 0 := by rw [List.length_singleton] at hh; omega
      simp only [this, List.getElem_singleton] at e
      exact .inr ⟨by omega, e.symm⟩
  refine ⟨hr, by rw [hl, L.len], same_trans hs L.sp, ?_, fun x hx => ?_, fun a x h => ?_, fun a x i h hi => ?_, fun a x y h hy => ?_, fun i y hi hy => ?_⟩
  · rw [List.pairwise_append]
    exact ⟨L.asc, List.pairwise_singleton _ _, fun a ha b hb => by rw [List.mem_singleton.mp hb]; exact L.lt a ha⟩
  · rcases List.mem_append.mp hx with h | h
    · have := L.lt x h; omega
    · rw [List.mem_singleton.mp h]; omega
  · rcases at_ a x h with ⟨h, hx⟩ | ⟨rfl, rfl⟩
    · rw [un a x hx]; exact L.one a x h
    · exact h1
  · rcases at_ a x h with ⟨h, hx⟩ | ⟨rfl, rfl⟩
    · rw [un i x hx]; exact L.off a x i h hi
    · exact h0 i hi
  · rcases at_ a x h with ⟨h, hx⟩ | ⟨rfl, rfl⟩
    · rw [un a y (by omega)]; exact L.low a x y h hy
    · rw [un _ y hy]; exact L.rest _ y (Nat.le_refl _) hy
  · rw [List.length_append, List.length_singleton] at hi
    by_cases e : y = c
    · subst e; exact h0 i (by omega)
    · rw [un i y (by omega)]; exact L.rest i y (by omega) (by omega)
theorem rowOf_zip : ∀ {pl : List Nat} {W : List (List Int)} {a x : Nat}, pl.Nodup → pl[a]? = Option.some x → a < W.length → rowOf (pl.zip W) x = W.getD a []
  | [], _, _, _, _, h, _ => by simp at h
  | y :: pl, [], a, x, _, _, h => by simp at h
  | y :: pl, w :: W, 0, x, nd, h, _ => by
    cases (Option.some.inj h)
    unfold rowOf
    simp
  | y :: pl, w :: W, a + 1, x, nd, h, hl => by
    obtain ⟨n1, n2⟩ := List.nodup_cons.mp nd
    have hm : x ∈ pl := List.mem_of_getElem? (by simpa using h)
    have hne : y ≠ x := fun e => n1 (e ▸ hm)
    have ih := rowOf_zip (W := W) (a := a) (x := x) n2 (by simpa using h) (by simpa using hl)
    unfold rowOf at ih ⊢
    rw [List.zip_cons_cons, List.find?_cons]
    simp only [beq_false_of_ne hne]
    rw [ih]
    simp
theorem LG.done (p2 : 2 ≤ p) (L : LG p wd rows pl wd W) : IsLad p wd rows (W.take pl.length) := by
  have hle := L.le
  have nd : pl.Nodup := L.asc.imp fun h => Nat.ne_of_lt h
  have hfst : (pl.zip W).map (·.1) = pl := by rw [List.map_fst_zip hle]
  have hro : ∀ a x, pl[a]? = Option.some x → rowOf (pl.zip W) x = W.getD a [] := fun a x h => rowOf_zip nd h (by have := (List.getElem?_eq_some_iff.mp h).1; omega)
  refine ⟨pl.zip W, pl.map fun (x : Nat) => (x : Int), ⟨⟨?_, ?_, ?_, ?_⟩, ?_, ?_⟩, ?_, ?_, ?_⟩
  · rw [hfst]; exact nd
  · rw [hfst]
    intro i hi
    obtain ⟨a, ha⟩ := List.getElem?_of_mem hi
    unfold rv vec
    rw [hro a i ha, L.one a i ha]
    exact .refl _
  · rw [hfst]
    intro i hi j hj hne
    obtain ⟨a, ha⟩ := List.getElem?_of_mem hi
    obtain ⟨b, hb⟩ := List.getElem?_of_mem hj
    unfold rv vec
    rw [hro a i ha, L.off b j a hb (fun e => by subst e; rw [ha] at hb; exact hne (Option.some.inj hb).symm)]
    exact .refl _
  · rw [hfst]
    intro i hi x hx
    obtain ⟨a, ha⟩ := List.getElem?_of_mem hi
    unfold rv vec
    rw [hro a i ha, L.low a i x ha hx]
    exact .refl _
  · intro z hz
    have h1 := List.of_mem_zip hz
    have hr := L.row z.2 h1.2
    exact ⟨L.lt z.1 h1.1, by have := hr.1; omega, hr.2⟩
  · refine same_trans ?_ L.sp
    refine same2_of (fun v hv => ?_) fun v ⟨l, hl, e⟩ => ?_
    · obtain ⟨i, hi, rfl⟩ := hv
      rw [hfst] at hi
      obtain ⟨a, ha⟩ := List.getElem?_of_mem hi
      have hlt : a < W.length := by have := (List.getElem?_eq_some_iff.mp ha).1; omega
      refine .row ⟨W[a], List.getElem_mem hlt, ?_⟩
      unfold rv
      rw [hro a i ha, getD_at (List.getElem?_eq_getElem hlt)]
    · subst e
      obtain ⟨k, hk, rfl⟩ := List.getElem_of_mem hl
      have ek : W.getD k [] = W[k] := getD_at (List.getElem?_eq_getElem hk)
      by_cases hkp : k < pl.length
      · have hx : pl[k]? = Option.some pl[k] := List.getElem?_eq_getElem hkp
        refine .row ⟨pl[k], by rw [hfst]; exact List.getElem_mem hkp, ?_⟩
        unfold rv
        rw [hro k _ hx, ek]
      · refine .zero fun x => ?_
        have hw := (L.row _ (List.getElem_mem hk)).1
        unfold vec
        by_cases hx : x < wd
        · rw [← ek, L.rest k x (by omega) hx]
          exact .refl _
        · rw [List.getD_eq_getElem?_getD, List.getElem?_eq_none (by omega)]
          exact .refl _
  · unfold keysI
    rw [← hfst, List.map_map]
    rw [hfst]
    exact .refl _
  · unfold Up
    rw [List.pairwise_map]
    exact L.asc.imp fun h => by omega
  · rw [List.map_map]
    apply List.ext_getElem?
    intro k
    rw [List.getElem?_map, List.getElem?_take]
    by_cases hk : k < pl.length
    · have hx : pl[k]? = Option.some pl[k] := List.getElem?_eq_getElem hk
      have hlt : k < W.length := by omega
      rw [if_pos hk, hx, List.getElem?_eq_getElem hlt]
      show Option.some W[k] = Option.some (rowOf (pl.zip W) ((pl[k] : Nat) : Int).toNat)
      rw [Int.toNat_natCast, hro k _ hx, getD_at (List.getElem?_eq_getElem hlt)]
    · rw [if_neg hk, List.getElem?_eq_none (by omega)]
      rfl
end
end S4

namespace S4
open PySem L2 TT MM EE
def rLI : Rp (List Int) := fun H v l => ∃ a, v = .ref a ∧ H a = some (.lst (l.map V.int))
theorem li_same {H H' : Hp} (s : Same H H') : ∀ {xs : List V} {W : List (List Int)}, Paired (rLI H) xs W → Paired (rLI H') xs W := fun p => Paired.mapP p fun _ _ ⟨a, e, h⟩ => ⟨a, e, s _ _ h⟩
theorem li_upd {H : Hp} {wk : Addr} {xs ys : List V} {W : List (List Int)} (hw : H wk = some (.lst xs)) (p : Paired (rLI H) xs W) : Paired (rLI (upd H wk (.lst ys))) xs W := by
  have hne : ∀ v ∈ xs, ∀ a, v = .ref a → ∀ l : List Int, H a = some (.lst (l.map V.int)) → a ≠ wk := fun v hv a e l h q => by
    subst q
    rw [hw] at h
    have h := HO.lst.inj (Option.some.inj h)
    rw [h] at hv
    obtain ⟨n, _, e2⟩ := List.mem_map.mp hv
    rw [e] at e2
    cases e2
  have go : ∀ {zs : List V} {W : List (List Int)}, (∀ v ∈ zs, v ∈ xs) → Paired (rLI H) zs W → Paired (rLI (upd H wk (.lst ys))) zs W := by
    intro zs W hz p
    induction p with
    | nil => exact .nil
    | cons r t ih =>
      obtain ⟨a, e, h⟩ := r
      refine .cons ⟨a, e, ?_⟩ (ih fun v hv => hz v (by simp [hv]))
      rw [upd_ne (hne _ (hz _ (by simp)) a e _ h)]
      exact h
  exact go (fun _ h => h) p
theorem paired_set {α β : Type} {F : α → β → Prop} : ∀ {xs : List α} {l : List β} (i : Nat) {x : α} {y : β}, Paired F xs l → F x y → Paired F (xs.set i x) (l.set i y)
  | _, _, _, _, _, .nil, _ => .nil
  | _, _, 0, _, _, .cons _ t, r => .cons r t
  | _, _, i + 1, _, _, .cons q t, r => .cons q (paired_set i t r)
theorem listS {X : Cx} {K : PySem.W.Frag} (h : X.K = K) : CallR X (.type "list") (fun xs H Q => ∃ p ys, xs = [.ref p] ∧ (SqL K H p ys ∨ SqT K H p ys) ∧ ∀ l, H l = none → Q (.ref l) (upd H l (.lst ys))) := h ▸ call_list_of
theorem LG.widen {p : Int} {wd : Nat} {pl : List Nat} {c : Nat} {W : List (List Int)} (L : LG p wd [] pl c W) : LG p wd [] pl wd W := by
  have hW : W = [] := List.eq_nil_of_length_eq_zero L.len
  have hpl := L.le
  rw [L.len] at hpl
  have hpl : pl = [] := List.eq_nil_of_length_eq_zero (by simpa using hpl)
  subst hW hpl
  exact ⟨L.row, L.len, L.sp, .nil, fun x h => (nomatch h), L.one, L.off, L.low, fun i y _ _ => by simp⟩
theorem wide_of {K : PySem.W.Frag} {σ : St} {H : Hp} {wk : Addr} {ys : List V} {rows : List (List Int)} {wd : Nat} {Q : V → Hp → Prop} (h2 : σ[2]? = some (some (.ref wk))) (hw : H wk = some (.lst ys)) (hp : Paired (rLI H) ys rows) (hr : ∀ r ∈ rows, r.length = wd) (q : Q (.int ((if rows = [] then 0 else wd : Nat) : Int)) H) :
    tIf (tTest (tOp (rI0 fun i j => V.bl (decide (j < i))) (tCB (fun xs H Q => ∃ p ys, xs = [.ref p] ∧ (SqL K H p ys ∨ SqT K H p ys) ∧ Q (.int ((ys.length : Nat) : Int)) H) (tCons (tVar 2) tNil)) (tC (.int 0))))
      (tCB (fun xs H Q => ∃ p ys, xs = [.ref p] ∧ (SqL K H p ys ∨ SqT K H p ys) ∧ Q (.int ((ys.length : Nat) : Int)) H) (tCons (tOp (rIxL K) (tVar 2) (tC (.int 0))) tNil)) (tC (.int 0)) σ H Q := by
  refine ⟨_, h2, wk, ys, rfl, .inl (.of hw), _, _, rfl, rfl, _, rfl, ?_⟩
  cases hp with
  | nil =>
    rw [if_pos rfl] at q
    rw [decide_eq_false (by show ¬ (0 : Int) < (([] : List V).length : Int); decide)]
    exact iteF q
  | cons r t =>
    obtain ⟨b, rfl, hb⟩ := r
    rw [if_neg (by simp)] at q
    rw [decide_eq_true (by rw [List.length_cons]; omega)]
    refine iteT ⟨_, h2, wk, _, _, _, rfl, rfl, .of hw, at_of (j := 0) rfl rfl, b, _, rfl, .inl (.of hb), ?_⟩
    rw [List.length_map, hr _ (by simp)]
    exact q
end S4

namespace S4
open PySem L2 TT MM EE
/-! ### l.remove(row) of a list of lists of ints -/
def encLI (l : List Int) : PyData := .list (l.map PyData.int)
theorem enc_li : Enc rLI encLI 1 := by
  refine ⟨fun a b => ?_, fun a => .lst fun x hx => ?_, fun K H v a ⟨t, e, h⟩ => ?_⟩
  · simp only [PyData.eqv, encLI]
    exact eqvAll_iff int_iff a b
  · obtain ⟨y, _, rfl⟩ := List.mem_map.mp hx
    exact .int y
  · subst e
    refine .lst (.of h) ?_
    have go : ∀ l : List Int, DpAll K H (l.map V.int) (l.map PyData.int) := fun l => by
      induction l with
      | nil => exact .nil
      | cons r t ih => exact .cons (.int _) ih
    exact go a
def rRemLI : V → List V → Hp → VK → Prop := fun x xs H Q => ∃ (l : Addr) (ys : List V) (L : List (List Int)) (v : V) (r : List Int) (j : Nat), x = .ref l ∧ xs = [v] ∧ H l = some (.lst ys) ∧ Paired (rLI H) ys L ∧ rLI H v r ∧ L[j]? = some r ∧ (∀ m : Nat, m < j → L[m]? ≠ some r) ∧ Q .non (upd H l (.lst (ys.eraseIdx j)))
theorem dpAll_of {K : PySem.W.Frag} {H : Hp} : ∀ {ys : List V} {L : List (List Int)}, Paired (rLI H) ys L → DpAll K H ys (L.map encLI)
  | _, _, .nil => .nil
  | _, _, .cons r t => .cons (enc_li.dp K H _ _ r) (dpAll_of t)
theorem mt_removeLI {X : Cx} (hu : X.A.units + 64 < cLine) : MtM X "list.remove" rRemLI := by
  intro pins s σ H x xs v us Q I rx rxs h
  obtain ⟨l, ys, L, y, row, j, rfl, rfl, hH, hp, hy, hj, hno, q⟩ := h
  cases rx
  obtain ⟨u, rfl, ru⟩ := rxs.one
  obtain ⟨z, its, n, r, hl, e⟩ := I.lstM hH
  obtain ⟨as, rs⟩ := Dp.readsAll I _ ys its (dpAll_of (K := X.K) hp) r
  obtain ⟨bs, rx⟩ := Dp.reads I _ y u (enc_li.dp X.K H _ _ hy) ru
  have hsh := shp_all (l := L.map encLI) (n := 1) fun d hd => by
    obtain ⟨a, _, rfl⟩ := List.mem_map.mp hd
    exact enc_li.shp a
  have hsd := enc_li.shp row
  have hlen := paired_len hp
  have hjn : j < L.length := (List.getElem?_eq_some_iff.mp hj).1
  have hplace : SeqAt.dataPlace (L.map encLI) (encLI row) = some j := by
    unfold SeqAt.dataPlace
    rw [List.findIdx?_eq_some_iff_getElem]
    refine ⟨by rw [List.length_map]; exact hjn, ?_, fun m hm => ?_⟩
    · rw [List.getElem_map]
      exact (enc_li.eq _ _).mpr (List.getElem?_eq_some_iff.mp hj).2
    · rw [List.getElem_map]
      intro hh
      refine hno m hm ?_
      rw [List.getElem?_eq_getElem (by omega)]
      exact congrArg some ((enc_li.eq _ _).mp hh)
  refine SeqAt.remove_list_data (vs := its.toArray) (j := j) ⟨_, e, rfl, n, rfl⟩ rs rx (PyData.plainAll_of_canLay0 _ hsh.1) (PyData.plain_of_canLay0 _ hsd.1) ?_ hplace ?_ ?_
  · have := hsd.2
    have : min (PyData.depthAll (L.map encLI)) (encLI row).depth ≤ 1 := Nat.le_trans (Nat.min_le_right _ _) hsd.2
    omega
  · rw [List.size_toArray]
    have h1 := r.length
    omega
  · have rr := r.eraseIdx j
    refine ⟨.non, _, I.lset (its' := its.eraseIdx j) (t' := s.toks) hH e ?_ rr ?_, rfl, q⟩
    · show its.toArray.eraseIdxIfInBounds j = (its.eraseIdx j).toArray
      rw [List.eraseIdxIfInBounds_toArray]
    · have h1 := r.length
      have h2 : (ys.eraseIdx j).length ≤ ys.length := by rw [List.length_eraseIdx]; split <;> omega
      omega
end S4

namespace S4
open PySem L2 TT MM EE
/-! ### a row of what is left is put behind what is made -/
theorem getD_app2 (A B : List (List Int)) (i : Nat) : (A ++ B).getD i [] = if i < A.length then A.getD i [] else B.getD (i - A.length) [] := by
  rw [List.getD_eq_getElem?_getD]
  by_cases h : i < A.length
  · rw [if_pos h, List.getElem?_append_left h, List.getD_eq_getElem?_getD]
  · rw [if_neg h, List.getElem?_append_right (by omega), List.getD_eq_getElem?_getD]
theorem getD_mem2 (X : List (List Int)) (k : Nat) : X.getD k [] = [] ∨ X.getD k [] ∈ X := by
  rw [List.getD_eq_getElem?_getD]
  cases h : X[k]? with
  | none => exact .inl rfl
  | some r => exact .inr (List.mem_of_getElem? h)
theorem getD_map2 (f : List Int → List Int) (hf : f [] = []) (A : List (List Int)) (i : Nat) : (A.map f).getD i [] = f (A.getD i []) := by
  rw [List.getD_eq_getElem?_getD, List.getElem?_map, List.getD_eq_getElem?_getD]
  cases A[i]? with
  | none => exact hf.symm
  | some r => rfl
theorem mem_eraseIdx2 {B : List (List Int)} {j : Nat} {r : List Int} (hj : B[j]? = some r) (l : List Int) : l ∈ r :: B.eraseIdx j ↔ l ∈ B := by
  obtain ⟨hj1, hj2⟩ := List.getElem?_eq_some_iff.mp hj
  subst hj2
  have e : B = B.take j ++ B[j] :: B.drop (j + 1) := by rw [← List.drop_eq_getElem_cons hj1, List.take_append_drop]
  rw [List.eraseIdx_eq_take_drop_succ]
  conv => rhs; rw [e]
  simp only [List.mem_cons, List.mem_append]
  constructor
  · rintro (h | h | h)
    · exact .inr (.inl h)
    · exact .inl h
    · exact .inr (.inr h)
  · rintro (h | h | h)
    · exact .inr (.inl h)
    · exact .inl h
    · exact .inr (.inr h)
section
variable {p : Int} {wd : Nat} {rows A B : List (List Int)} {pl : List Nat} {c j : Nat} {r : List Int}
theorem LG.top (L : LG p wd rows pl c (A ++ B)) (hA : A.length = pl.length) (hj : B[j]? = Option.some r) : LG p wd rows pl c (A ++ r :: B.eraseIdx j) := by
  have hm := mem_eraseIdx2 hj
  have hjl := (List.getElem?_eq_some_iff.mp hj).1
  have mem : ∀ l, l ∈ A ++ r :: B.eraseIdx j ↔ l ∈ A ++ B := fun l => by rw [List.mem_append, List.mem_append, hm]
  have sp : Same2 p (inRows (A ++ r :: B.eraseIdx j)) (inRows (A ++ B)) := same2_of (fun v ⟨l, hl, e⟩ => .row ⟨l, (mem l).mp hl, e⟩) fun v ⟨l, hl, e⟩ => .row ⟨l, (mem l).mpr hl, e⟩
  have low : ∀ b ∈ B, ∃ i, pl.length ≤ i ∧ (A ++ B).getD i [] = b := fun b hb => by
    obtain ⟨k, hk, e⟩ := List.getElem_of_mem hb
    refine ⟨A.length + k, by omega, ?_⟩
    rw [getD_app2, if_neg (by omega), show A.length + k - A.length = k by omega, ← e]
    exact getD_at (List.getElem?_eq_getElem hk)
  have top : ∀ i, i < A.length → (A ++ r :: B.eraseIdx j).getD i [] = (A ++ B).getD i [] := fun i h => by rw [getD_app2, getD_app2, if_pos h, if_pos h]
  have bot : ∀ i, A.length ≤ i → (A ++ r :: B.eraseIdx j).getD i [] = [] ∨ (A ++ r :: B.eraseIdx j).getD i [] ∈ B := fun i h => by
    rw [getD_app2, if_neg (by omega)]
    exact (getD_mem2 _ _).imp id fun q => (hm _).mp q
  have lt : ∀ a x, pl[a]? = Option.some x → a < A.length := fun a x h => by rw [hA]; exact (List.getElem?_eq_some_iff.mp h).1
  refine ⟨fun l hl => L.row l ((mem l).mp hl), ?_, same_trans sp L.sp, L.asc, L.lt, fun a x h => by rw [top a (lt a x h)]; exact L.one a x h, fun a x i h hi => ?_, fun a x y h hy => by rw [top a (lt a x h)]; exact L.low a x y h hy, fun i y hi hy => ?_⟩
  · rw [← L.len, List.length_append, List.length_append, List.length_cons, List.length_eraseIdx, if_pos hjl]
    omega
  · by_cases h2 : i < A.length
    · rw [top i h2]; exact L.off a x i h hi
    · rcases bot i (by omega) with e | e
      · rw [e]; rfl
      · obtain ⟨i', h1, e2⟩ := low _ e
        rw [← e2]
        exact L.off a x i' h (by have := lt a x h; omega)
  · rcases bot i (by omega) with e | e
    · rw [e]; rfl
    · obtain ⟨i', h1, e2⟩ := low _ e
      rw [← e2]
      exact L.rest i' y h1 hy
theorem clr1_nil (p : Int) (z : Nat × List Int) : clr1 p [] z = [] := by
  unfold clr1
  rw [if_pos (by simp)]
theorem LG.clear (p2 : 2 ≤ p) (L : LG p wd rows pl c (A ++ r :: B)) (hA : A.length = pl.length) (hc : c < wd) {u : Int} (hu : Cg p (u * r.getD c 0) 1) :
    LG p wd rows (pl ++ [c]) (c + 1) ((A.map fun l => clr1 p l (c, mulL p u r)) ++ mulL p u r :: B.map fun l => clr1 p l (c, mulL p u r)) := by
  have hh : ∃ hd, hd = mulL p u r := ⟨_, rfl⟩
  obtain ⟨hd, ehd⟩ := hh
  rw [← ehd]
  have p0 : 0 < p := by omega
  have hrr := L.row r (by simp)
  have hrl := isRow_len hrr
  have hdr : isRow hd p wd := by
    refine ⟨by rw [ehd]; unfold mulL; rw [List.length_map]; exact hrr.1, fun v hv => ?_⟩
    rw [ehd] at hv
    unfold mulL at hv
    obtain ⟨y, _, rfl⟩ := List.mem_map.mp hv
    exact mod_b p0
  have hdl := isRow_len hdr
  have hdv : ∀ x, Cg p (vec hd x) (u * vec r x) := fun x => by rw [ehd]; exact mulL_vec x
  have hdb : ∀ x, 0 ≤ hd.getD x 0 ∧ hd.getD x 0 < p := fun x => getD_in (by omega) hdr.2 x
  have hdc : hd.getD c 0 = 1 := ((hdv c).trans hu).eq (hdb c).1 (hdb c).2 (by omega) (by omega)
  have er : ∀ i, i = A.length → (A ++ r :: B).getD i [] = r := fun i h => by rw [getD_app2, if_neg (by omega), h, Nat.sub_self]; rfl
  have hd0 : ∀ x, x < c → hd.getD x 0 = 0 := fun x hx => by
    have e := L.rest A.length x (by omega) hx
    rw [er _ rfl] at e
    have h := hdv x
    rw [show vec r x = 0 from e, Int.mul_zero] at h
    exact h.eq (hdb x).1 (hdb x).2 (by omega) (by omega)
  have fv : ∀ l : List Int, l.length = wd → ∀ x, Cg p (vec (clr1 p l (c, hd)) x) (vec l x - vec l c * vec hd x) := fun l hl x => clr1_vec (z := (c, hd)) (by rw [hl]; exact hdl) x
  have frow : ∀ l, isRow l p wd → isRow (clr1 p l (c, hd)) p wd := fun l hl => ⟨by rw [clr1_len]; exact hl.1, clr1_in p0 hl.2 _⟩
  have rowA : ∀ l ∈ A, isRow l p wd := fun l h => L.row l (by simp [h])
  have rowB : ∀ l ∈ B, isRow l p wd := fun l h => L.row l (by simp [h])
  have un1 : ∀ l, l = [] ∨ isRow l p wd → ∀ x, x < c → (clr1 p l (c, hd)).getD x 0 = l.getD x 0 := fun l hl x hx => by
    rcases hl with rfl | hl
    · rw [clr1_nil]
    · have h := fv l (isRow_len hl) x
      rw [show vec hd x = 0 from hd0 x hx, Int.mul_zero, Int.sub_zero] at h
      have b1 := getD_in (by omega) (frow l hl).2 x
      have b2 := getD_in (by omega) hl.2 x
      exact h.eq b1.1 b1.2 b2.1 b2.2
  have z1 : ∀ l, l = [] ∨ isRow l p wd → (clr1 p l (c, hd)).getD c 0 = 0 := fun l hl => by
    rcases hl with rfl | hl
    · rw [clr1_nil]; rfl
    · have h := fv l (isRow_len hl) c
      rw [show vec hd c = 1 from hdc, Int.mul_one, Int.sub_self] at h
      have b1 := getD_in (by omega) (frow l hl).2 c
      exact h.eq b1.1 b1.2 (by omega) (by omega)
  have getA : ∀ i, A.getD i [] = [] ∨ isRow (A.getD i []) p wd := fun i => (getD_mem2 A i).imp id (rowA _)
  have getB : ∀ i, B.getD i [] = [] ∨ isRow (B.getD i []) p wd := fun i => (getD_mem2 B i).imp id (rowB _)
  have hlA : (A.map fun l => clr1 p l (c, hd)).length = A.length := List.length_map ..
  have g1 : ∀ i, ((A.map fun l => clr1 p l (c, hd)) ++ hd :: B.map fun l => clr1 p l (c, hd)).getD i [] = if i < A.length then clr1 p (A.getD i []) (c, hd) else if i = A.length then hd else clr1 p (B.getD (i - A.length - 1) []) (c, hd) := fun i => by
    rw [getD_app2, hlA]
    by_cases h : i < A.length
    · rw [if_pos h, if_pos h]; exact getD_map2 (fun l => clr1 p l (c, hd)) (clr1_nil p _) A i
    · rw [if_neg h, if_neg h]
      by_cases h2 : i = A.length
      · rw [if_pos h2, h2, Nat.sub_self]; rfl
      · rw [if_neg h2]
        obtain ⟨k, hk⟩ : ∃ k, i - A.length = k + 1 := ⟨i - A.length - 1, by omega⟩
        rw [hk, show k + 1 - 1 = k by omega, List.getD_cons_succ]
        exact getD_map2 (fun l => clr1 p l (c, hd)) (clr1_nil p _) B k
  have g0 : ∀ i, (A ++ r :: B).getD i [] = if i < A.length then A.getD i [] else if i = A.length then r else B.getD (i - A.length - 1) [] := fun i => by
    rw [getD_app2]
    by_cases h : i < A.length
    · rw [if_pos h, if_pos h]
    · rw [if_neg h, if_neg h]
      by_cases h2 : i = A.length
      · rw [if_pos h2, h2, Nat.sub_self]; rfl
      · rw [if_neg h2]
        obtain ⟨k, hk⟩ : ∃ k, i - A.length = k + 1 := ⟨i - A.length - 1, by omega⟩
        rw [hk, show k + 1 - 1 = k by omega, List.getD_cons_succ]
  refine L.some (fun l hl => ?_) (by simp) ?_ (fun i x hx => ?_) ?_ fun i hi => ?_
  · rcases List.mem_append.mp hl with h | h
    · obtain ⟨y, hy, rfl⟩ := List.mem_map.mp h
      exact frow y (rowA y hy)
    · rcases List.mem_cons.mp h with rfl | h
      · exact hdr
      · obtain ⟨y, hy, rfl⟩ := List.mem_map.mp h
        exact frow y (rowB y hy)
  · have sh : Spn p (inRows (A ++ r :: B)) (vec hd) := .plus u (.zero (v := fun _ => 0) fun _ => .refl 0) (.row ⟨r, by simp, rfl⟩) fun x => (hdv x).trans (.of_eq (by omega))
    have hdm : hd ∈ (A.map fun l => clr1 p l (c, hd)) ++ hd :: B.map fun l => clr1 p l (c, hd) := by simp
    refine same2_of (fun v ⟨l, hl, e⟩ => ?_) fun v ⟨l, hl, e⟩ => ?_
    · subst e
      have one : ∀ y ∈ A ++ r :: B, Spn p (inRows (A ++ r :: B)) (vec (clr1 p y (c, hd))) := fun y hy => by
        refine .plus (-(vec y c)) (.row ⟨y, hy, rfl⟩) sh fun x => (fv y (isRow_len (L.row y hy)) x).trans (.of_eq ?_)
        rw [Int.neg_mul]; omega
      rcases List.mem_append.mp hl with h | h
      · obtain ⟨y, hy, rfl⟩ := List.mem_map.mp h
        exact one y (by simp [hy])
      · rcases List.mem_cons.mp h with rfl | h
        · exact sh
        · obtain ⟨y, hy, rfl⟩ := List.mem_map.mp h
          exact one y (by simp [hy])
    · subst e
      have two : ∀ y, isRow y p wd → clr1 p y (c, hd) ∈ (A.map fun l => clr1 p l (c, hd)) ++ hd :: (B.map fun l => clr1 p l (c, hd)) → Spn p (inRows ((A.map fun l => clr1 p l (c, hd)) ++ hd :: B.map fun l => clr1 p l (c, hd))) (vec y) := fun y hy hm => by
        refine .plus (vec y c) (.row ⟨_, hm, rfl⟩) (.row ⟨hd, hdm, rfl⟩) fun x => ?_
        have h := (fv y (isRow_len hy) x).add (Cg.refl (p := p) (vec y c * vec hd x))
        exact ((Cg.of_eq (by omega)).trans h.symm)
      rcases List.mem_append.mp hl with h | h
      · exact two l (rowA l h) (List.mem_append_left _ (List.mem_map.mpr ⟨l, h, rfl⟩))
      · rcases List.mem_cons.mp h with rfl | h
        · refine .plus (vec l c) (.zero (v := fun _ => 0) fun _ => .refl 0) (.row ⟨hd, hdm, rfl⟩) fun x => ?_
          have h1 := (Cg.refl (p := p) (vec l c)).mul (hdv x)
          have h2 := hu.mul (Cg.refl (p := p) (vec l x))
          rw [Int.one_mul] at h2
          rw [Int.zero_add]
          refine h2.symm.trans (.trans (.of_eq ?_) h1.symm)
          show u * vec l c * vec l x = vec l c * (u * vec l x)
          rw [← Int.mul_assoc, Int.mul_comm u (vec l c)]
        · exact two l (rowB l h) (List.mem_append_right _ (List.mem_cons_of_mem _ (List.mem_map.mpr ⟨l, h, rfl⟩)))
  · rw [g1, g0]
    by_cases h : i < A.length
    · rw [if_pos h, if_pos h]; exact un1 _ (getA i) x hx
    · rw [if_neg h, if_neg h]
      by_cases h2 : i = A.length
      · rw [if_pos h2, if_pos h2, hd0 x hx]
        have e := L.rest A.length x (by omega) hx
        rw [er _ rfl] at e
        exact e.symm
      · rw [if_neg h2, if_neg h2]; exact un1 _ (getB _) x hx
  · rw [g1, if_neg (by omega), if_pos hA.symm]; exact hdc
  · rw [g1]
    by_cases h : i < A.length
    · rw [if_pos h]; exact z1 _ (getA i)
    · rw [if_neg h, if_neg (by omega)]; exact z1 _ (getB _)
theorem LG.nothing (L : LG p wd rows pl c (A ++ B)) (hA : A.length = pl.length) (h : ∀ b ∈ B, b.getD c 0 = 0) : LG p wd rows pl (c + 1) (A ++ B) := L.none fun i hi => by
  rw [getD_app2, if_neg (by omega)]
  rcases getD_mem2 B (i - A.length) with e | e
  · rw [e]; rfl
  · exact h _ e
end
end S4

namespace S4
open PySem L2 TT MM EE
/-! ### the law's own ladder -/
/-- Euclid's steps, the factors modulo p -/
structure Et (p v a n b f : Int) : Prop where
  ha : Cg p (b * v) a
  hn : Cg p (f * v) n
  g : Int.gcd a n = 1
  n0 : 0 < n
  na : n ≤ a
  b0 : 0 ≤ b
  b1 : b < p
  f0 : 0 ≤ f
  f1 : f < p
theorem Et.step {p v a n b f : Int} (p0 : 0 < p) (E : Et p v a n b f) (h1 : n ≠ 1) : Et p v n (a % n) f ((b - a / n * f) % p) ∧ a % n < n := by
  have hn := E.n0
  have hm : a - a / n * n = a % n := by
    have := Int.mul_ediv_add_emod a n
    rw [Int.mul_comm] at this
    omega
  have h0 := Int.emod_nonneg a (by omega : n ≠ 0)
  have hlt := Int.emod_lt_of_pos a hn
  have hg : Int.gcd n (a % n) = 1 := by
    rw [← hm, Int.gcd_sub_mul_right_right, Int.gcd_comm]
    exact E.g
  have hne : a % n ≠ 0 := fun e => by
    rw [e, Int.gcd_zero_right] at hg
    omega
  have mf := mod_b (a := b - a / n * f) p0
  refine ⟨⟨E.hn, ?_, hg, by omega, by omega, E.f0, E.f1, mf.1, mf.2⟩, hlt⟩
  refine ((Cg.mod _).mul (Cg.refl v)).trans ?_
  rw [← hm, Int.sub_mul]
  refine E.ha.sub ?_
  rw [Int.mul_assoc]
  exact (Cg.refl _).mul E.hn
section
variable {P : Program} {w : World} {K : PySem.W.Frag} {mg : Str → Option Value} {base : Heap} {cT cS : Addr}
def spSome : Sp := fun vs H Q _ => ∃ (b q c : Addr) (xs : List V), vs = [.ref b, .ref c] ∧ H c = some (.lst xs) ∧ c ≠ b ∧ c ≠ q ∧ 0 < xs.length ∧ xs.length < 1000000 ∧ Bag b q H ∧ ∀ H' (i : Nat) x, Bt b q H H' → Bag b q H' → xs[i]? = some x → Q x H'
theorem ok_some (T : Tx K mg cT cS) {f : Addr} {fd : FuncData} (d : D K mg "_law_some" s_law_some ["bag", "things"] f fd) : FnOk P w K mg base CX0 2 f fd ["bag", "things"] spSome := by
  obtain ⟨f1, fd1, d1⟩ := T.d_law_pick
  have G1 := ok_pick (P := P) (w := w) (base := base) T d1
  refine d.F.ok sc_law_some (fun vs H Q E h => ?_) (fun cdv A outer s H vs Q E hr h => ?_)
  · obtain ⟨b, q0, c, xs, rfl, _⟩ := h
    rfl
  · obtain ⟨b, q0, c, xs, rfl, hc, n1, n2, x0, x1, hB, q⟩ := h
    refine ⟨_, pss_one (ps_ret (pe_ix ix_list (pv 1) (pe_call G1 (hr.mono (by decide)) rfl d1.m d1.F.kp d1.b .nil pass0 (pa_cons (pv 0) (pa_cons (pe_callB call_len_seq (by rfl) T.b_len PySem.boot_len (pa_cons (pv 1) pa_nil)) pa_nil))) (fun _ _ => rfl))), ?_⟩
    refine ⟨_, rfl, _, rfl, _, rfl, c, _, rfl, .inl (.of hc), b, q0, _, rfl, by omega, by omega, hB, fun H1 n bt hB1 i0 i1 => ?_⟩
    obtain ⟨k, rfl⟩ : ∃ k : Nat, n = (k : Int) := ⟨n.toNat, by omega⟩
    have hk : xs[k]? = some (xs[k]'(by omega)) := List.getElem?_eq_getElem (by omega)
    exact ⟨c, _, _, _, rfl, rfl, .of (bt _ _ n1 n2 hc), atI_nat hk, q _ k _ bt hB1 hk⟩
def spTurned : Sp := fun vs H Q _ => ∃ (p v : Int), vs = [.int p, .int v] ∧ 2 ≤ p ∧ p ≤ 1000000 ∧ 0 < v ∧ v < p ∧ Int.gcd p v = 1 ∧ ∀ H' u, Same H H' → 0 ≤ u → u < p → Cg p (u * v) 1 → Q (.int u) H'
theorem ok_turned (T : Tx K mg cT cS) {f : Addr} {fd : FuncData} (d : D K mg "_law_turned" s_law_turned ["p", "value"] f fd) : FnOk P w K mg base CX0 1 f fd ["p", "value"] spTurned := by
  refine d.F.ok sc_law_turned (fun vs H Q E h => ?_) (fun cdv A outer s H vs Q E hr h => ?_)
  · obtain ⟨p, v, rfl, _⟩ := h
    rfl
  · obtain ⟨p, v, rfl, p2, pm, v0, v1, hg, q⟩ := h
    refine ⟨_, pss_cons (ps_asg (pe_tup (pa_cons (pv 0) (pa_cons (pe_op op_mod (pe_callTy call_int1 (by rfl) T.b_int (by decide +kernel) (pa_cons (pv 1) pa_nil)) (pv 0)) (pa_cons pe_int (pa_cons pe_int pa_nil))))) (pg_tup rfl (pgs_cons (pg_name (i := 2) sc_law_turned.nd rfl (.inl rfl)) (pgs_cons (pg_name (i := 3) sc_law_turned.nd rfl (.inl rfl)) (pgs_cons (pg_name (i := 4) sc_law_turned.nd rfl (.inl rfl)) (pgs_cons (pg_name (i := 5) sc_law_turned.nd rfl (.inl rfl)) pgs_nil))))))
      (pss_cons (ps_while PassesOwn.never (pt_cmpR op_gt (pv 3) pe_int (nomark _))
        (pss_cons (ps_set (i := 6) sc_law_turned.nd rfl (.inl rfl) (pe_op op_fdivN (pv 2) (pv 3)))
      (pss_one (ps_asg (pe_tup (pa_cons (pv 3) (pa_cons (pe_op op_mod (pe_callTy call_int1 (by rfl) T.b_int (by decide +kernel) (pa_cons (pv 2) pa_nil)) (pv 3)) (pa_cons (pv 5) (pa_cons (pe_op op_mod (pe_callTy call_int1 (by rfl) T.b_int (by decide +kernel) (pa_cons (pe_op op_sub (pv 4) (pe_op op_mul (pv 6) (pv 5))) pa_nil)) (pv 0)) pa_nil))))) (pg_tup rfl (pgs_cons (pg_name (i := 2) sc_law_turned.nd rfl (.inl rfl)) (pgs_cons (pg_name (i := 3) sc_law_turned.nd rfl (.inl rfl)) (pgs_cons (pg_name (i := 4) sc_law_turned.nd rfl (.inl rfl)) (pgs_cons (pg_name (i := 5) sc_law_turned.nd rfl (.inl rfl)) pgs_nil)))))))))
      (pss_one (ps_ret (pv 5)))), ?_⟩
    have ev : v % p = v := Int.emod_eq_of_lt (by omega) v1
    refine ⟨_, rfl, _, rfl, .inl ⟨v, rfl, _, rfl, _, _, rfl, rfl, by show 0 < p; omega, by show 4 ≤ sizeLine; decide, fun t nt => ⟨t, _, rfl, .of upd_same, rfl, _, _, rfl, _, _, rfl, _, _, rfl, _, _, rfl, rfl, ?_⟩⟩⟩
    dsimp only [gName, tSeq]
    rw [ev]
    refine while_by (fun σ H' => ∃ a n b f x, σ = [some (.int p), some (.int v), some (.int a), some (.int n), some (.int b), some (.int f), x] ∧ Et p v a n b f ∧ a ≤ p ∧ Same H H')
      (fun σ _ => match σ[3]? with | some (some (V.int n)) => n.toNat | _ => 0) ⟨p, v, 0, 1, none, rfl, ⟨by rw [Int.zero_mul]; exact ⟨-1, by rw [Int.mul_neg, Int.mul_one]; omega⟩, by rw [Int.one_mul]; exact .refl v, hg, v0, by omega, by omega, by omega, by omega, by omega⟩, Int.le_refl _, same_new nt⟩ ?_ ?_
    · rintro σ H1 ⟨a, n, b, f, x, rfl, EE, ap, ss⟩
      refine ⟨_, rfl, _, _, rfl, rfl, _, rfl, ?_⟩
      have hn := EE.n0
      have hna := EE.na
      have hf0 := EE.f0
      have hf1 := EE.f1
      have hb0 := EE.b0
      have hb1 := EE.b1
      by_cases h1 : n = 1
      · subst h1
        rw [decide_eq_false (by omega)]
        refine iteF ⟨_, rfl, q _ _ ss EE.f0 EE.f1 EE.hn⟩
      · rw [decide_eq_true (by omega)]
        obtain ⟨E2, hlt⟩ := EE.step (by omega) h1
        refine iteT ⟨_, rfl, _, rfl, _, _, rfl, rfl, ⟨by omega, by omega⟩, ?_⟩
        dsimp only [gName, tSeq]
        rw [Int.fdiv_eq_ediv_of_nonneg _ (by omega)]
        refine ⟨_, rfl, _, rfl, .inl ⟨a, rfl, _, rfl, _, _, rfl, rfl, by show 0 < n; omega, _, rfl, _, rfl, _, rfl, _, rfl, _, _, rfl, rfl, .inr ⟨by omega, by omega⟩, _, _, rfl, rfl, .inl ⟨_, rfl, _, rfl, _, _, rfl, rfl, by show 0 < p; omega, by show 4 ≤ sizeLine; decide, fun t2 nt2 => ⟨t2, _, rfl, .of upd_same, rfl, _, _, rfl, _, _, rfl, _, _, rfl, _, _, rfl, rfl, ?_⟩⟩⟩⟩
        refine ⟨⟨n, a % n, f, (b - a / n * f) % p, _, rfl, E2, by omega, ss.trans (same_new nt2)⟩, ?_⟩
        show (a % n).toNat < n.toNat
        have := E2.n0
        omega
    · rintro σ H' Q1 Q2 i ⟨x, e1, i1, j1, e2, e3, k, e4, h⟩
      exact ⟨x, e1, i1, j1, e2, e3, k, e4, i _ _ h⟩
def spWithout : Sp := fun vs H Q _ => ∃ (p : Int) (a b : Addr) (l h : List Int) (k : Nat), vs = [.int p, .ref a, .ref b, .int (k : Int)] ∧ H a = some (.lst (l.map V.int)) ∧ H b = some (.lst (h.map V.int)) ∧ 2 ≤ p ∧ p ≤ 1000000 ∧ l.length = h.length ∧ l.length ≤ 1000 ∧ k < l.length ∧ (∀ x ∈ l, 0 ≤ x ∧ x < p) ∧ (∀ x ∈ h, 0 ≤ x ∧ x < p) ∧
  ∀ H' v, Same H H' → rLI H' v (clr1 p l (k, h)) → Q v H'
theorem ok_without (T : Tx K mg cT cS) {f : Addr} {fd : FuncData} (d : D K mg "_law_without" s_law_without ["p", "row", "head", "place"] f fd) : FnOk P w K mg base CX0 1 f fd ["p", "row", "head", "place"] spWithout := by
  refine d.F.ok sc_law_without (fun vs H Q E h => ?_) (fun cdv A outer s H vs Q E hr h => ?_)
  · obtain ⟨p, a, b, l, h, k, rfl, _⟩ := h
    rfl
  · obtain ⟨p, a, b, l, h, k, rfl, ha, hb, p2, pm, hlh, hl, hk, lb, hbd, q⟩ := h
    refine ⟨_, pss_cons (ps_if (pt_cmpR op_eq (pe_ix ix_list (pv 1) (pv 3) (fun _ _ => rfl)) pe_int (nomark _)) (pss_one (ps_ret (pv 1))) pss_nil)
      (pss_one (ps_ret (pe_lc (own := [("one", 4), ("two", 5)]) (g := (gTup K 2 (gCons (gName 4) (gCons (gName 5) gNil)))) (tt := tYes) rfl sc_law_without.nd (RZ.pi_zipA (by rfl) T.b_zip (pa_cons (pv 1) (pa_cons (pv 2) pa_nil))) (blkOk_by (N := N_law_without) (sc := defScope s_law_without) (by decide +kernel)) (fun _ _ _ _ _ => (pgT rfl rfl (pgs_cons (pg_name (i := 4) sc_law_without.nd rfl (Or.inl rfl)) (pgs_cons (pg_name (i := 5) sc_law_without.nd rfl (Or.inl rfl)) pgs_nil)))) (fun _ _ _ _ _ => pts_nil)
            (fun _ _ _ _ _ => (pe_op op_mod (pe_callTy call_int1 (by rfl) T.b_int (by decide +kernel) (pa_cons (pe_op op_sub (pv 4) (pe_op op_mul (pe_ix (ixL (K := K) rfl) (pv 1) (pv 3) (fun _ _ => rfl)) (pv 5))) pa_nil)) (pv 0)))))), ?_⟩
    have he : l[k]? = some (l[k]'hk) := List.getElem?_eq_getElem hk
    have hgd : l.getD k 0 = l[k]'hk := getD_at he
    refine ⟨_, rfl, _, rfl, a, _, _, _, rfl, rfl, .of ha, atI_nat (int_at he), rfl, _, rfl, ?_⟩
    by_cases h0 : l[k]'hk = 0
    · rw [decide_eq_true (congrArg V.int h0)]
      refine iteT ⟨_, rfl, q _ _ (.refl _) ⟨a, rfl, ?_⟩⟩
      rw [ha]
      unfold clr1
      rw [if_pos (by rw [hgd]; exact h0)]
    · rw [decide_eq_false (fun e => h0 (V.int.inj e))]
      refine iteF ?_
      dsimp only [tNext, tSeq]
      refine ⟨_, rfl, _, rfl, a, b, _, _, rfl, .inl ⟨.of ha, .of hb, fun D hD => ?_⟩⟩
      have p0 : 0 < p := by omega
      have hkb := lb _ (List.getElem_mem hk)
      refine lc_fm (walk_zip (n := l.length) (by rw [List.length_map, List.length_map]; omega)) rInt (fun i => some ((l.getD i 0 - l.getD k 0 * h.getD i 0) % p)) hD (fun H' s' => ⟨.of (s' _ _ ha), .of (s' _ _ hb)⟩) ?_ ?_
      · rintro i x H2 H3 hi pv ⟨tz, u1, u2, rfl, nz, rfl, e1, e2⟩
        obtain ⟨y1, hy1, rfl⟩ := at_int e1
        obtain ⟨y2, hy2, rfl⟩ := at_int e2
        have h1 := lb y1 (List.mem_of_getElem? hy1)
        have h2 := hbd y2 (List.mem_of_getElem? hy2)
        refine ⟨tz, _, rfl, .of upd_same, rfl, _, _, rfl, _, _, rfl, rfl, rfl, ?_⟩
        refine ⟨_, rfl, _, rfl, _, rfl, a, _, _, _, rfl, rfl, .of ((pv.1.trans (same_new nz)) _ _ ha), atI_nat (int_at he), _, rfl, _, _, rfl, rfl, .inl ⟨by omega, by omega⟩, _, _, rfl, rfl, .inl ⟨_, rfl, _, rfl, _, _, rfl, rfl, p0, ?_⟩⟩
        exact fm_keep mono_int pv hD (by omega) (same_new nz) rfl (by rw [getD_at hy1, getD_at hy2, hgd]; rfl)
      intro H2 ys s2 hD2 hp2
      rw [fm_all] at hp2
      have := paired_int hp2
      subst this
      refine q _ _ s2 ⟨D, rfl, ?_⟩
      rw [hD2]
      unfold clr1
      rw [if_neg (by rw [hgd]; exact h0)]
      rfl
theorem li_ne {H : Hp} {wk b : Addr} {zs : List V} {B : List (List Int)} {j : Nat} {r l : List Int} (hw : H wk = some (.lst zs)) (p : Paired (rLI H) zs B) (hj : B[j]? = some r) (h : H b = some (.lst (l.map V.int))) : b ≠ wk := fun e => by
  subst e
  obtain ⟨v, hv, a, rfl, _⟩ := paired_get2 p hj
  rw [hw] at h
  have h := HO.lst.inj (Option.some.inj h)
  rw [h] at hv
  obtain ⟨n, _, e2⟩ := List.mem_map.mp (List.mem_of_getElem? hv)
  cases e2
theorem li_new_ne {H : Hp} {wk b : Addr} {zs : List V} {B : List (List Int)} {l : List Int} (hw : H wk = some (.lst zs)) (p : Paired (rLI H) zs B) (h : H b = some (.lst (l.map V.int))) (hl : l ≠ []) : b ≠ wk := fun e => by
  subst e
  rw [hw] at h
  have h := HO.lst.inj (Option.some.inj h)
  subst h
  cases l with
  | nil => exact hl rfl
  | cons x l =>
    cases p with
    | cons h _ =>
      obtain ⟨_, e, _⟩ := h
      cases e
/-- a list of rows that are lists, or tuples -/
def rLT : Rp (List Int) := fun H v l => ∃ a, v = .ref a ∧ (H a = some (.lst (l.map V.int)) ∨ H a = some (.tup (l.map V.int)))
theorem lt_same {H H' : Hp} (s : Same H H') : ∀ {xs : List V} {W : List (List Int)}, Paired (rLT H) xs W → Paired (rLT H') xs W := fun p => Paired.mapP p fun _ _ ⟨a, e, h⟩ => ⟨a, e, h.elim (fun h => .inl (s _ _ h)) (fun h => .inr (s _ _ h))⟩
theorem paired_erase {α β : Type} {F : α → β → Prop} : ∀ {xs : List α} {l : List β} (i : Nat), Paired F xs l → Paired F (xs.eraseIdx i) (l.eraseIdx i)
  | _, _, _, .nil => .nil
  | _, _, 0, .cons _ t => t
  | _, _, i + 1, .cons r t => .cons r (paired_erase i t)
theorem find_nz (B : List (List Int)) (c : Nat) : (B.filter fun r => r.getD c 0 != 0) = [] ∧ (∀ b ∈ B, b.getD c 0 = 0) ∨ ∃ (j : Nat) (r : List Int) (R : List (List Int)), (B.filter fun r => r.getD c 0 != 0) = r :: R ∧ B[j]? = some r ∧ r.getD c 0 ≠ 0 ∧ ∀ m : Nat, m < j → B[m]? ≠ some r := by
  induction B with
  | nil => exact .inl ⟨rfl, fun _ h => nomatch h⟩
  | cons b B ih =>
    by_cases h : b.getD c 0 = 0
    · have e : ((b :: B).filter fun r => r.getD c 0 != 0) = B.filter fun r => r.getD c 0 != 0 := by rw [List.filter_cons, if_neg (by simpa using h)]
      rw [e]
      rcases ih with ⟨h1, h2⟩ | ⟨j, r, R, h1, h2, h3, h4⟩
      · exact .inl ⟨h1, fun x hx => (List.mem_cons.mp hx).elim (fun e => e ▸ h) (h2 x)⟩
      · refine .inr ⟨j + 1, r, R, h1, by simpa using h2, h3, fun m hm => ?_⟩
        cases m with
        | zero => exact fun e => h3 (by have := Option.some.inj (by simpa using e : some b = some r); rw [← this]; exact h)
        | succ m => simpa using h4 m (by omega)
    · exact .inr ⟨0, b, _, by rw [List.filter_cons, if_pos (by simpa using h)], rfl, h, fun m hm => by omega⟩
def spLLad : Sp := fun vs H Q _ => ∃ (a : Addr) (p : Int) (wd : Nat) (xs : List V) (rows : List (List Int)), vs = [.int p, .ref a] ∧ H a = some (.lst xs) ∧ Paired (rLT H) xs rows ∧ rows.length ≤ 400 ∧ Prm p ∧ p ≤ 1000000 ∧ wd ≤ 200 ∧ (∀ r ∈ rows, isRow r p wd) ∧
  ∀ H' v lad, Same H H' → rTup rRow H' v lad → IsLad p wd rows lad → Q v H'
theorem ok_llad (T : Tx K mg cT cS) {f : Addr} {fd : FuncData} (d : D K mg "_law_ladder" s_law_ladder ["p", "rows"] f fd) : FnOk P w K mg base CX0 2 f fd ["p", "rows"] spLLad := by
  obtain ⟨f1, fd1, d1⟩ := T.d_law_turned
  have G1 := ok_turned (P := P) (w := w) (base := base) T d1
  obtain ⟨f2, fd2, d2⟩ := T.d_law_without
  have G2 := ok_without (P := P) (w := w) (base := base) T d2
  refine d.F.ok sc_law_ladder (fun vs H Q E h => ?_) (fun cdv A outer s H vs Q E hr h => ?_)
  · obtain ⟨a, p, wd, xs, rows, rfl, _⟩ := h
    rfl
  · obtain ⟨a, p, wd, xs, rows, rfl, ha, hp, hl, prm, pm, hwd, hrw, q⟩ := h
    refine ⟨_, pss_cons (ps_par (i := 2) (j := 3) (by rfl) sc_law_ladder.nd rfl rfl (by decide) rfl rfl (pa_cons (pe_lc (own := [("row", 9)]) (g := (gName 9)) (tt := tYes) rfl sc_law_ladder.nd (pi_list (pv 1)) (blkOk_by (N := N_law_ladder) (sc := defScope s_law_ladder) (by decide +kernel)) (fun _ _ _ _ _ => (pg_name (i := 9) sc_law_ladder.nd rfl (Or.inl rfl))) (fun _ _ _ _ _ => pts_nil)
            (fun _ _ _ _ _ => (pe_callTy (listS (K := K) rfl) (by rfl) T.b_list (by decide +kernel) (pa_cons (pv 9) pa_nil)))) (pa_cons (pe_lst pa_nil) pa_nil)) (by rfl))
      (pss_cons (ps_set (i := 4) sc_law_ladder.nd rfl (.inl rfl) (pe_ifExp (pt_cmpR op_gt (pe_callB call_len_seq (by rfl) T.b_len PySem.boot_len (pa_cons (pv 2) pa_nil)) pe_int (nomark _)) (pe_callB call_len_seq (by rfl) T.b_len PySem.boot_len (pa_cons (pe_ix ix_list (pv 2) pe_int (fun _ _ => rfl)) pa_nil)) pe_int))
      (pss_cons (ps_for PassesOwn.never rfl (pi_range1 rfl T.b_range (pa_cons (pv 4) pa_nil)) (pg_name (i := 5) sc_law_ladder.nd rfl (.inr rfl))
        (pss_cons (ps_setLc (i := 6) (own := [("row", 9)]) (g := (gName 9)) (tt := _) rfl sc_law_ladder.nd rfl rfl (sw_true rfl rfl rfl (by decide +kernel)) (pi_list (pv 2)) (blkOk_by (N := N_law_ladder) (sc := defScope s_law_ladder) (by decide +kernel)) (fun _ _ _ _ _ => (pg_name (i := 9) sc_law_ladder.nd rfl (Or.inl rfl))) (fun _ _ _ _ _ => (pts_one (pt_cmpR op_ne (pe_ix (ixL (K := K) rfl) (pv 9) (pv 5) (fun _ _ => rfl)) pe_int (nomark _))))
            (fun _ _ _ _ _ => (pv 9)))
      (pss_one (ps_if (pt_cmpR op_gt (pe_callB call_len_seq (by rfl) T.b_len PySem.boot_len (pa_cons (pv 6) pa_nil)) pe_int (nomark _)) (pss_cons (ps_expr (pe_bm PySem.F.plainAttrs_list PySem.F.slot_list_remove PySem.F.type_list_remove (mt_removeLI (hu64 hr)) (pv 2) (pa_cons (pe_ix ix_list (pv 6) pe_int (fun _ _ => rfl)) pa_nil)))
      (pss_cons (ps_set (i := 7) sc_law_ladder.nd rfl (.inr rfl) (pe_call G1 (hr.mono (by decide)) rfl d1.m d1.F.kp d1.b .nil pass0 (pa_cons (pv 0) (pa_cons (pe_ix ix_list (pe_ix ix_list (pv 6) pe_int (fun _ _ => rfl)) (pv 5) (fun _ _ => rfl)) pa_nil))))
      (pss_cons (ps_set (i := 8) sc_law_ladder.nd rfl (.inr rfl) (pe_lc (own := [("value", 10)]) (g := (gName 10)) (tt := tYes) rfl sc_law_ladder.nd (pi_list (pe_ix ix_list (pv 6) pe_int (fun _ _ => rfl))) (blkOk_by (N := N_law_ladder) (sc := defScope s_law_ladder) (by decide +kernel)) (fun _ _ _ _ _ => (pg_name (i := 10) sc_law_ladder.nd rfl (Or.inl rfl))) (fun _ _ _ _ _ => pts_nil)
            (fun _ _ _ _ _ => (pe_op op_mod (pe_callTy call_int1 (by rfl) T.b_int (by decide +kernel) (pa_cons (pe_op op_mul (pv 7) (pv 10)) pa_nil)) (pv 0)))))
      (pss_cons (ps_setLc (i := 2) (own := [("row", 9)]) (g := (gName 9)) (tt := tYes) rfl sc_law_ladder.nd rfl rfl (sw_true rfl rfl rfl (by decide +kernel)) (pi_list (pv 2)) (blkOk_by (N := N_law_ladder) (sc := defScope s_law_ladder) (by decide +kernel)) (fun _ _ _ _ _ => (pg_name (i := 9) sc_law_ladder.nd rfl (Or.inl rfl))) (fun _ _ _ _ _ => pts_nil)
            (fun _ _ _ _ _ => (pe_call G2 (hr.mono (by decide)) rfl d2.m d2.F.kp d2.b .nil pass0 (pa_cons (pv 0) (pa_cons (pv 9) (pa_cons (pv 8) (pa_cons (pv 5) pa_nil)))))))
      (pss_one (ps_set (i := 3) sc_law_ladder.nd rfl (.inl rfl) (pe_op op_cat (pe_lc (own := [("row", 9)]) (g := (gName 9)) (tt := tYes) rfl sc_law_ladder.nd (pi_list (pv 3)) (blkOk_by (N := N_law_ladder) (sc := defScope s_law_ladder) (by decide +kernel)) (fun _ _ _ _ _ => (pg_name (i := 9) sc_law_ladder.nd rfl (Or.inl rfl))) (fun _ _ _ _ _ => pts_nil)
            (fun _ _ _ _ _ => (pe_call G2 (hr.mono (by decide)) rfl d2.m d2.F.kp d2.b .nil pass0 (pa_cons (pv 0) (pa_cons (pv 9) (pa_cons (pv 8) (pa_cons (pv 5) pa_nil))))))) (pe_lst (pa_cons (pv 8) pa_nil))))))))) pss_nil))))
      (pss_one (ps_ret (pe_callTy call_tuple_of (by rfl) T.b_tuple (by decide +kernel) (pa_cons (pe_lc (own := [("row", 9)]) (g := (gName 9)) (tt := tYes) rfl sc_law_ladder.nd (pi_list (pv 3)) (blkOk_by (N := N_law_ladder) (sc := defScope s_law_ladder) (by decide +kernel)) (fun _ _ _ _ _ => (pg_name (i := 9) sc_law_ladder.nd rfl (Or.inl rfl))) (fun _ _ _ _ _ => pts_nil)
            (fun _ _ _ _ _ => (pe_callTy (tupS (K := K) rfl) (by rfl) T.b_tuple (by decide +kernel) (pa_cons (pv 9) pa_nil)))) pa_nil)))))), ?_⟩
    have p2 := prm.1
    have hlr := paired_len hp
    refine ⟨_, rfl, a, rfl, ⟨_, .of ha⟩, fun wk hwk => ?_⟩
    refine walk_W (walk_list (xs := xs)) _ (fun i H' => Same H H' ∧ ∃ ys, H' wk = some (.lst ys) ∧ Paired (rLI H') ys (rows.take i)) ⟨same_new hwk, [], upd_same, .nil⟩ (fun i H' _ h => .of (h.1 _ _ ha)) ?_ ?_
    · rintro i x H2 H3 hi ⟨s2, ys, h1, h2⟩ ⟨rfl, hx⟩
      obtain ⟨l, hl, b, rfl, hb⟩ := paired_get (lt_same s2 hp) hx
      refine ⟨rfl, _, rfl, b, _, rfl, hb.elim (fun h => .inl (.of h)) (fun h => .inr (.of h)), fun nl nnl => ?_⟩
      have s3 := same_new (o := .lst (l.map V.int)) nnl
      have h13 := s3 _ _ h1
      have lys := paired_len h2
      rw [List.length_take] at lys
      refine ⟨ys, h13, Nat.lt_of_le_of_lt (by omega : _ ≤ 400) (by decide), same_own (s2.trans s3) hwk, ys ++ [.ref nl], upd_same, ?_⟩
      rw [List.take_succ, hl]
      refine paired_app (li_upd h13 (li_same s3 h2)) (.cons ⟨nl, rfl, ?_⟩ .nil)
      rw [upd_ne (fun e => by subst e; rw [nnl] at h1; cases h1)]
      exact upd_same
    rintro H2 ⟨s2, ys, h1, h2⟩
    rw [hlr, List.take_length] at h2
    refine ⟨by show 0 ≤ sizeLine; decide, fun mk nmk => ⟨_, _, rfl, ?_⟩⟩
    have s3 := same_new (o := .lst []) nmk
    have hlen : ∀ r ∈ rows, r.length = wd := fun r h => isRow_len (hrw r h)
    have hmk3 := upd_same (H := H2) (a := mk) (o := .lst [])
    have hwk3 := s3 _ _ h1
    have hp3 := li_same s3 h2
    have nmk0 : H mk = none := s2.free nmk
    generalize upd H2 mk (.lst []) = H3 at *
    have t3 := s2.trans s3
    dsimp only [gName, tSeq]
    refine wide_of (rows := rows) (wd := wd) rfl hwk3 hp3 hlen ?_
    dsimp only [gName, tSeq]
    refine ⟨_, rfl, _, rfl, by split <;> omega, by split <;> omega, ?_⟩
    refine for_it (walk_range (lo := 0) (n := ((if rows = [] then 0 else wd : Nat) : Int).toNat)) (fun i σ H' => ∃ (wk mk : Addr) (x4 x5 x6 x7 x8 : Option V) (pl : List Nat) (A B : List (List Int)) (us zs : List V), σ = [some (.int p), some (.ref a), some (.ref wk), some (.ref mk), x4, x5, x6, x7, x8, none, none] ∧ Same H H' ∧ H wk = none ∧ wk ≠ mk ∧ H' wk = some (.lst zs) ∧ Paired (rLI H') zs B ∧ H' mk = some (.lst us) ∧ Paired (rLI H') us A ∧ A.length = pl.length ∧ LG p wd rows pl i (A ++ B))
      ⟨wk, mk, _, none, none, none, none, [], [], rows, [], ys, rfl, t3, hwk, ne_of_none h1 nmk, hwk3, hp3, hmk3, .nil, rfl, LG.start hrw⟩ (fun _ _ _ _ _ => trivial) ?_ ?_
    · rintro c x σ H4 H5 hi ⟨wk, mk, x4, x5, x6, x7, x8, pl, A, B, us, zs, rfl, s4, nwk, wmk, hwk4, hpB, hmk4, hpA, hA, L⟩ ⟨rfl, rfl⟩
      rw [Int.toNat_natCast] at hi
      have hcw : c < wd := by split at hi <;> omega
      have hlW := L.len
      rw [List.length_append] at hlW
      have lzs := paired_len hpB
      have lus := paired_len hpA
      dsimp only [gName, tSeq]
      refine ⟨_, rfl, wk, rfl, ⟨_, .of hwk4⟩, fun D hD => ?_⟩
      refine walk_W (walk_list (xs := zs)) _ (fun i H' => Same H5 H' ∧ ∃ ys, H' D = some (.lst ys) ∧ Paired (rLI H') ys ((B.take i).filter fun r => r.getD c 0 != 0)) ⟨same_new hD, [], upd_same, .nil⟩ (fun i H' _ h => .of (h.1 _ _ hwk4)) ?_ ?_
      · rintro i x H6 H7 hi2 ⟨s6, ys6, h1, h2⟩ ⟨rfl, hx⟩
        obtain ⟨r, hr', b, rfl, hb0⟩ := paired_get hpB hx
        have hb := s6 _ _ hb0
        have hrr := L.row r (List.mem_append_right _ (List.mem_of_getElem? hr'))
        have hrl := isRow_len hrr
        have he : r[c]? = some (r[c]'(by omega)) := List.getElem?_eq_getElem (by omega)
        have hgd : r.getD c 0 = r[c]'(by omega) := getD_at he
        refine ⟨rfl, _, rfl, _, rfl, b, _, _, _, rfl, rfl, .of hb, by rw [Int.zero_add]; exact atI_nat (int_at he), rfl, _, rfl, ?_⟩
        have lys := paired_len h2
        have ll := List.length_filter_le (fun r : List Int => r.getD c 0 != 0) (B.take i)
        rw [List.length_take] at ll
        have et : (B.take (i + 1)).filter (fun r => r.getD c 0 != 0) = (B.take i).filter (fun r => r.getD c 0 != 0) ++ if r.getD c 0 = 0 then [] else [r] := by
          rw [List.take_succ, hr', List.filter_append]
          congr 1
          by_cases h0 : r.getD c 0 = 0
          · rw [if_pos h0]; exact List.filter_eq_nil_iff.mpr fun x hx => by rw [List.mem_singleton.mp hx, h0]; simp
          · rw [if_neg h0]; exact List.filter_eq_self.mpr fun x hx => by rw [List.mem_singleton.mp hx]; exact bne_iff_ne.mpr h0
        by_cases h0 : r[c]'(by omega) = 0
        · rw [decide_eq_true (congrArg V.int h0)]
          refine iteF ⟨s6, ys6, h1, ?_⟩
          rw [et, if_pos (by rw [hgd]; exact h0), List.append_nil]
          exact h2
        · rw [decide_eq_false (fun e => h0 (V.int.inj e))]
          refine iteT ⟨_, rfl, ys6, h1, Nat.lt_of_le_of_lt (by omega : ys6.length ≤ 400) (by decide), same_own s6 hD, ys6 ++ [.ref b], upd_same, ?_⟩
          rw [et, if_neg (by rw [hgd]; exact h0)]
          refine paired_app (li_upd h1 h2) (.cons ⟨b, rfl, ?_⟩ .nil)
          rw [upd_ne (ne_of_none hb0 hD)]
          exact hb
      rintro H6 ⟨s6, ys6, hD6, hp6⟩
      rw [lzs, List.take_length] at hp6
      have t6 := s4.trans s6
      have hwk6 := s6 _ _ hwk4
      have hmk6 := s6 _ _ hmk4
      have hpB6 := li_same s6 hpB
      have hpA6 := li_same s6 hpA
      dsimp only [gName, tSeq]
      refine ⟨_, rfl, D, _, rfl, .inl (.of hD6), _, _, rfl, rfl, _, rfl, ?_⟩
      rcases find_nz B c with ⟨e1, e2⟩ | ⟨j, r, R, e1, hj, hrc, hno⟩
      · rw [e1] at hp6
        have ey := paired_len hp6
        have ey : ys6.length = 0 := ey
        rw [decide_eq_false (by omega)]
        exact iteF ⟨wk, mk, x4, _, _, x7, x8, pl, A, B, us, zs, rfl, t6, nwk, wmk, hwk6, hpB6, hmk6, hpA6, hA, L.nothing hA e2⟩
      · rw [e1] at hp6
        cases ys6 with
        | nil => exact absurd (paired_len hp6) (by simp)
        | cons v0 yt =>
        obtain ⟨b0, rfl, hb0⟩ : rLI H6 v0 r := by cases hp6 with | cons h _ => exact h
        rw [decide_eq_true (by rw [List.length_cons]; omega)]
        refine iteT ⟨_, rfl, .inl ⟨rfl, _, .of hwk6⟩, _, rfl, D, _, _, _, rfl, rfl, .of hD6, at_of (j := 0) rfl rfl, wk, zs, B, .ref b0, r, j, rfl, rfl, hwk6, hpB6, ⟨b0, rfl, hb0⟩, hj, hno, ?_⟩
        have ne := fun (b : Addr) (l : List Int) (h : H6 b = some (.lst (l.map V.int))) => li_ne hwk6 hpB6 hj h
        have hpB7 : Paired (rLI (upd H6 wk (.lst (zs.eraseIdx j)))) (zs.eraseIdx j) (B.eraseIdx j) := paired_erase j (li_upd hwk6 hpB6)
        have hpA7 : Paired (rLI (upd H6 wk (.lst (zs.eraseIdx j)))) us A := Paired.mapP hpA6 fun _ _ ⟨b, e, h⟩ => ⟨b, e, by rw [upd_ne (ne _ _ h)]; exact h⟩
        have hb7 : (upd H6 wk (.lst (zs.eraseIdx j))) b0 = some (.lst (r.map V.int)) := by rw [upd_ne (ne _ _ hb0)]; exact hb0
        have hD7 : (upd H6 wk (.lst (zs.eraseIdx j))) D = some (.lst (.ref b0 :: yt)) := by rw [upd_ne (fun e => by rw [← e] at hwk4; rw [hwk4] at hD; cases hD)]; exact hD6
        have hmk7 : (upd H6 wk (.lst (zs.eraseIdx j))) mk = some (.lst us) := by rw [upd_ne wmk.symm]; exact hmk6
        have hwk7 := upd_same (H := H6) (a := wk) (o := .lst (zs.eraseIdx j))
        have t7 : Same H (upd H6 wk (.lst (zs.eraseIdx j))) := same_own t6 nwk
        generalize upd H6 wk (.lst (zs.eraseIdx j)) = H7 at *
        have hrr : isRow r p wd := L.row r (List.mem_append_right _ (List.mem_of_getElem? hj))
        have hrl := isRow_len hrr
        have he : r[c]? = some (r[c]'(by omega)) := List.getElem?_eq_getElem (by omega)
        have hgd : r.getD c 0 = r[c]'(by omega) := getD_at he
        have heb := hrr.2 _ (List.getElem_mem (show c < r.length by omega))
        have he0 : 0 < r[c]'(by omega) := by
          have : r[c]'(by omega) ≠ 0 := fun e => hrc (by rw [hgd]; exact e)
          omega
        dsimp only [gName, tSeq]
        refine ⟨_, rfl, _, rfl, D, _, _, _, rfl, rfl, .of hD7, at_of (j := 0) rfl rfl, _, rfl, b0, _, _, _, rfl, rfl, .of hb7, by rw [Int.zero_add]; exact atI_nat (int_at he), p, _, rfl, p2, pm, he0, heb.2, prm.gcd he0 heb.2, fun H8 u s8 u0 u1 hu => ?_⟩
        have t8 := t7.trans s8
        have hD8 := s8 _ _ hD7
        have hb8 := s8 _ _ hb7
        have hu' : Cg p (u * r.getD c 0) 1 := by rw [hgd]; exact hu
        dsimp only [gName, tSeq]
        refine ⟨_, rfl, D, _, _, _, rfl, rfl, .of hD8, at_of (j := 0) rfl rfl, b0, rfl, ⟨_, .of hb8⟩, fun SD hSD => ?_⟩
        have p0 : 0 < p := by omega
        refine lc_fm (walk_list (xs := r.map V.int)) rInt (fun i => r[i]?.bind fun x => some (u * x % p)) hSD (fun H' s' => .of (s' _ _ hb8)) ?_ ?_
        · rintro i x H10 H11 hi pv ⟨rfl, hx⟩
          obtain ⟨k, hk, rfl⟩ := at_int hx
          have hkb := hrr.2 k (List.mem_of_getElem? hk)
          rw [List.length_map] at hi
          refine ⟨rfl, _, rfl, _, rfl, _, _, rfl, rfl, .inl ⟨by omega, by omega⟩, .inl ⟨_, rfl, _, rfl, _, _, rfl, rfl, p0, ?_⟩⟩
          exact fm_keep mono_int pv hSD (by omega) (Same.refl _) (by rw [hk]; rfl) rfl
        intro H9 ys9 s9 hSD9 hp9
        rw [List.length_map, fm_some] at hp9
        have := paired_int hp9
        subst this
        have ehd : (r.map fun x => u * x % p) = mulL p u r := rfl
        rw [ehd] at hSD9
        have t9 := t8.trans s9
        have s79 := s8.trans s9
        have hwk9 := s79 _ _ hwk7
        have hmk9 := s79 _ _ hmk7
        have hpB9 := li_same s79 hpB7
        have hpA9 := li_same s79 hpA7
        have hhl : (mulL p u r).length = wd := by unfold mulL; rw [List.length_map]; exact hrl
        have hhb : ∀ x ∈ mulL p u r, 0 ≤ x ∧ x < p := fun x hx => by
          unfold mulL at hx
          obtain ⟨y, _, rfl⟩ := List.mem_map.mp hx
          exact mod_b p0
        have LT := L.top hA hj
        have LC := LT.clear p2 hA hcw hu'
        have lB' := paired_len hpB9
        have hB400 : (B.eraseIdx j).length ≤ 400 := by rw [List.length_eraseIdx]; split <;> omega
        dsimp only [gName, tSeq]
        refine ⟨_, rfl, wk, rfl, ⟨_, .of hwk9⟩, fun D3 hD3 => ?_⟩
        refine walk_W (walk_list (xs := zs.eraseIdx j)) _ (fun i H' => Same H9 H' ∧ ∃ ys, H' D3 = some (.lst ys) ∧ Paired (rLI H') ys (((B.eraseIdx j).take i).map fun l => clr1 p l (c, mulL p u r))) ⟨same_new hD3, [], upd_same, .nil⟩ (fun i H' _ h => .of (h.1 _ _ hwk9)) ?_ ?_
        · rintro i x H10 H11 hi2 ⟨s10, ysD, h1, h2⟩ ⟨rfl, hx⟩
          obtain ⟨l, hl', b, rfl, hb⟩ := paired_get (li_same s10 hpB9) hx
          have hlr : isRow l p wd := LT.row l (by simp [List.mem_of_getElem? hl'])
          have hll := isRow_len hlr
          have lys := paired_len h2
          rw [List.length_map, List.length_take] at lys
          refine ⟨rfl, _, rfl, _, rfl, _, rfl, _, rfl, p, b, SD, l, mulL p u r, c, by show [V.int p, V.ref b, V.ref SD, V.int (0 + (c : Int))] = _; rw [Int.zero_add], hb, s10 _ _ hSD9, p2, pm, by omega, by omega, by omega, hlr.2, hhb, fun H12 v s12 hv => ?_⟩
          have h13 := s12 _ _ h1
          refine ⟨ysD, h13, Nat.lt_of_le_of_lt (by omega : _ ≤ 400) (by decide), same_own (s10.trans s12) hD3, ysD ++ [v], upd_same, ?_⟩
          rw [List.take_succ, hl', List.map_append]
          obtain ⟨bv, rfl, hbv⟩ := hv
          have hp12 := li_same s12 h2
          refine paired_app (li_upd h13 hp12) (.cons ⟨bv, rfl, ?_⟩ .nil)
          rw [upd_ne (li_new_ne h13 hp12 hbv fun e => by have := clr1_len p l (c, mulL p u r); rw [e] at this; have : 0 = l.length := this; omega)]
          exact hbv
        rintro H10 ⟨s10, ysD, hD10, hp10⟩
        rw [lB', List.take_length] at hp10
        dsimp only [gName, tSeq]
        have t10 := t9.trans s10
        have hmk10 := s10 _ _ hmk9
        have hpA10 := li_same s10 hpA9
        have hSD10 := s10 _ _ hSD9
        have lA' := paired_len hpA10
        refine ⟨_, rfl, mk, rfl, ⟨_, .of hmk10⟩, fun D4 hD4 => ?_⟩
        refine walk_W (walk_list (xs := us)) _ (fun i H' => Same H10 H' ∧ ∃ ys, H' D4 = some (.lst ys) ∧ Paired (rLI H') ys ((A.take i).map fun l => clr1 p l (c, mulL p u r))) ⟨same_new hD4, [], upd_same, .nil⟩ (fun i H' _ h => .of (h.1 _ _ hmk10)) ?_ ?_
        · rintro i x H11 H13 hi2 ⟨s11, ysE, h1, h2⟩ ⟨rfl, hx⟩
          obtain ⟨l, hl', b, rfl, hb⟩ := paired_get (li_same s11 hpA10) hx
          have hlr : isRow l p wd := LT.row l (by simp [List.mem_of_getElem? hl'])
          have hll := isRow_len hlr
          have lys := paired_len h2
          rw [List.length_map, List.length_take] at lys
          refine ⟨rfl, _, rfl, _, rfl, _, rfl, _, rfl, p, b, SD, l, mulL p u r, c, by show [V.int p, V.ref b, V.ref SD, V.int (0 + (c : Int))] = _; rw [Int.zero_add], hb, s11 _ _ hSD10, p2, pm, by omega, by omega, by omega, hlr.2, hhb, fun H12 v s12 hv => ?_⟩
          have h13 := s12 _ _ h1
          refine ⟨ysE, h13, Nat.lt_of_le_of_lt (by omega : _ ≤ 400) (by decide), same_own (s11.trans s12) hD4, ysE ++ [v], upd_same, ?_⟩
          rw [List.take_succ, hl', List.map_append]
          obtain ⟨bv, rfl, hbv⟩ := hv
          have hp12 := li_same s12 h2
          refine paired_app (li_upd h13 hp12) (.cons ⟨bv, rfl, ?_⟩ .nil)
          rw [upd_ne (li_new_ne h13 hp12 hbv fun e => by have := clr1_len p l (c, mulL p u r); rw [e] at this; have : 0 = l.length := this; omega)]
          exact hbv
        rintro H11 ⟨s11, ysE, hE11, hpE⟩
        rw [lA', List.take_length] at hpE
        have lE := paired_len hpE
        rw [List.length_map] at lE
        refine ⟨_, rfl, by show 1 ≤ sizeLine; decide, fun l1 nl1 => ?_⟩
        have q1 := same_new (o := .lst [V.ref SD]) nl1
        refine ⟨D4, l1, _, _, rfl, rfl, q1 _ _ hE11, upd_same, by rw [lE]; exact Nat.le_trans (show A.length + 1 ≤ 401 by omega) (by decide), fun l2 nl2 => ?_⟩
        have q2 := same_new (o := .lst (ysE ++ [V.ref SD])) nl2
        have qq := q1.trans q2
        have sx := s11.trans qq
        refine ⟨D3, l2, _, _, _, _, _, pl ++ [c], (A.map fun l => clr1 p l (c, mulL p u r)) ++ [mulL p u r], (B.eraseIdx j).map fun l => clr1 p l (c, mulL p u r), ysE ++ [.ref SD], ysD, rfl, t10.trans sx, t9.free hD3, ne_of_none ((s11.trans q1) _ _ hD10) nl2, sx _ _ hD10, li_same sx hp10, upd_same, paired_app (li_same qq hpE) (.cons ⟨SD, rfl, sx _ _ hSD10⟩ .nil), by simp [hA], by rw [List.append_assoc]; exact LC⟩
    · rintro σ H4 ⟨wk, mk, x4, x5, x6, x7, x8, pl, A, B, us, zs, rfl, s4, nwk, wmk, hwk4, hpB, hmk4, hpA, hA, L⟩
      rw [Int.toNat_natCast] at L
      have L2 : LG p wd rows pl wd (A ++ B) := by
        split at L
        · rename_i h
          subst h
          exact L.widen
        · exact L
      have hL := LG.done p2 L2
      rw [← hA, List.take_left' rfl] at hL
      have lus := paired_len hpA
      have hlW := L.len
      rw [List.length_append] at hlW
      refine ⟨_, rfl, mk, rfl, ⟨_, .of hmk4⟩, fun D hD => ?_⟩
      refine lc_fm (walk_list (xs := us)) rRow (fun i => A[i]?.bind fun r => some r) hD (fun H' s' => .of (s' _ _ hmk4)) ?_ ?_
      · rintro i x H6 H7 hi pv ⟨rfl, hx⟩
        obtain ⟨l, hl, b, rfl, hb⟩ := paired_get (li_same pv.1 hpA) hx
        refine ⟨rfl, _, rfl, b, _, rfl, .inl ⟨.of hb, fun t nt => ?_⟩⟩
        exact fm_keep mono_row pv hD (by omega) (same_new nt) (by rw [hl]; rfl) ⟨t, rfl, upd_same⟩
      · intro H6 ys6 s6 hD6 hp6
        rw [lus, fm_some, List.map_id'] at hp6
        refine ⟨D, _, rfl, .inl ⟨.of hD6, fun t nt => ?_⟩⟩
        have s7 := same_new (o := .tup ys6) nt
        exact q _ (.ref t) A ((s4.trans s6).trans s7) ⟨t, ys6, rfl, upd_same, paired_mono mono_row s7.keep hp6⟩ hL
end
end S4

namespace S4
open PySem L2 TT MM EE
/-! ### the law's null rows, inverse, products -/
theorem lead_list {z : Nat × List Int} {wd : Nat} (h : Lead z) (hz : z.1 < wd) : ∃ tl, ((List.range wd).filterMap fun (i : Nat) => if (!decide (z.2.getD i 0 = 0)) = true then some (i : Int) else none) = ((z.1 : Nat) : Int) :: tl := by
  have e : List.range wd = List.range z.1 ++ (z.1 :: (List.range (wd - z.1 - 1)).map fun i => z.1 + 1 + i) := by
    have h1 : wd = z.1 + (1 + (wd - z.1 - 1)) := by omega
    rw [h1, List.range_add, List.range_add]
    rw [show z.1 + (1 + (wd - z.1 - 1)) - z.1 - 1 = wd - z.1 - 1 by omega]
    simp [List.range_succ, Nat.add_assoc, Function.comp_def]
  rw [e, List.filterMap_append]
  have h0 : ((List.range z.1).filterMap fun (i : Nat) => if (!decide (z.2.getD i 0 = 0)) = true then some (i : Int) else none) = [] := by
    rw [List.filterMap_eq_nil_iff]
    intro i hi
    rw [h.low i (List.mem_range.mp hi)]
    rfl
  rw [h0, List.nil_append, List.filterMap_cons, h.one]
  exact ⟨_, rfl⟩
theorem inV_ints (x : Int) : ∀ l : List Int, inV (.int x) (l.map V.int) = decide (x ∈ l)
  | [] => by simp [inV]
  | a :: l => by
    have ih := inV_ints x l
    show ((a == x) || inV (.int x) (l.map V.int)) = _
    rw [ih]
    by_cases h : a = x
    · subst h; simp
    · have h' : ¬ x = a := fun e => h e.symm
      simp [h, h']
theorem flat_ints : ∀ l : List Int, (l.map V.int).all flatV = true
  | [] => rfl
  | a :: l => by
    show (true && (l.map V.int).all flatV) = true
    rw [flat_ints l]
    rfl
theorem unit_list {wd i : Nat} (h : i < wd) : ((List.range wd).map fun (a : Nat) => if a = i then (1 : Int) else 0) = uRow wd i := by
  refine List.ext_getElem (by rw [List.length_map, List.length_range, uRow_len h]) fun x h1 h2 => ?_
  have := uRow_at (n := wd) (i := i) x
  rw [getD_at (List.getElem?_eq_getElem h2)] at this
  rw [this, List.getElem_map, List.getElem_range]
theorem piE {X : Cx} {K : PySem.W.Frag} {tg l : Expr} {ta : TA} (hh : X.K = K) (hl : PI X tg l (iEnumT X.K ta)) : PI X tg l (iEnumT K ta) := hh ▸ hl
def scNu : Scope := { kind := .function, names := [(".0", .local), ("row", .local), ("enumerate", .globalImplicit)], isGenerator := false, isCoroutine := false }
section
variable {P : Program} {w : World} {K : PySem.W.Frag} {mg : Str → Option Value} {base : Heap} {cT cS : Addr}
def spNull : Sp := fun vs H Q _ => ∃ (a : Addr) (p : Int) (wd : Nat) (xs : List V) (rows : List (List Int)), vs = [.int p, .int (wd : Int), .ref a] ∧ H a = some (.lst xs) ∧ Paired (rRow H) xs rows ∧ rows.length ≤ 390 ∧ Prm p ∧ p ≤ 1000000 ∧ wd ≤ 60 ∧ (∀ r ∈ rows, isRow r p wd) ∧
  ∀ H' v, Same H H' → rTup rRow H' v (looseU p wd rows) → Q v H'
end
end S4

namespace S4
open PySem L2 TT MM EE
/-! ### one and the same; products -/
/-- two values of the same data, of ints and tuples, n deep -/
def AlikeT (H : Hp) : Nat → V → V → Prop
  | 0, x, y => ∃ k, x = .int k ∧ y = .int k
  | n + 1, x, y => (∃ k, x = .int k ∧ y = .int k) ∨ ∃ a b xs ys, x = .ref a ∧ y = .ref b ∧ H a = some (.tup xs) ∧ H b = some (.tup ys) ∧ xs.length ≤ 1000 ∧ Paired (AlikeT H n) xs ys
theorem alikeT_same {H H' : Hp} (s : Same H H') : ∀ (n : Nat) {x y : V}, AlikeT H n x y → AlikeT H' n x y
  | 0, _, _, h => h
  | n + 1, _, _, h => by
    rcases h with h | ⟨a, b, xs, ys, e1, e2, h1, h2, hl, hp⟩
    · exact .inl h
    · exact .inr ⟨a, b, xs, ys, e1, e2, s _ _ h1, s _ _ h2, hl, Paired.mapP hp fun _ _ q => alikeT_same s n q⟩
theorem piZ {X : Cx} {K : PySem.W.Frag} {tg l : Expr} {ta : TA} (hh : X.K = K) (hl : PI X tg l (RZ.iZipA X.K ta)) : PI X tg l (RZ.iZipA K ta) := hh ▸ hl
theorem sumLK {X : Cx} {K : PySem.W.Frag} (h : X.K = K) (hc : X.calm = true) : CallR X (.builtin "sum") (rSum K) := h ▸ cr_sum hc
theorem paired_two {α : Type} {F G : V → α → Prop} {R : V → V → Prop} (h : ∀ x y a, F x a → G y a → R x y) : ∀ {xs ys : List V} {l : List α}, Paired F xs l → Paired G ys l → Paired R xs ys
  | _, _, _, .nil, .nil => .nil
  | _, _, _, .cons r t, .cons q u => .cons (h _ _ _ r q) (paired_two h t u)
theorem alike_row {H : Hp} {x y : V} {l : List Int} (h1 : rRow H x l) (h2 : rRow H y l) (hl : l.length ≤ 1000) : AlikeT H 1 x y := by
  obtain ⟨a, rfl, ha⟩ := h1
  obtain ⟨b, rfl, hb⟩ := h2
  refine .inr ⟨a, b, _, _, rfl, rfl, ha, hb, by rw [List.length_map]; exact hl, ?_⟩
  exact paired_two (F := rInt H) (G := rInt H) (fun x y a h1 h2 => ⟨a, h1, h2⟩) (paired_ints l) (paired_ints l)
theorem paired_in {α : Type} {F : V → α → Prop} : ∀ {xs : List V} {l : List α}, Paired F xs l → Paired (fun x a => F x a ∧ a ∈ l) xs l
  | _, _, .nil => .nil
  | _, _, .cons r t => .cons ⟨r, by simp⟩ (Paired.mapP (paired_in t) fun _ _ h => ⟨h.1, by simp [h.2]⟩)
theorem alike_rows {H : Hp} {x y : V} {L : List (List Int)} (h1 : rTup rRow H x L) (h2 : rTup rRow H y L) (hL : L.length ≤ 1000) (hl : ∀ l ∈ L, l.length ≤ 1000) : AlikeT H 2 x y := by
  obtain ⟨a, xs, rfl, ha, hp⟩ := h1
  obtain ⟨b, ys, rfl, hb, hq⟩ := h2
  refine .inr ⟨a, b, xs, ys, rfl, rfl, ha, hb, by rw [paired_len hp]; exact hL, ?_⟩
  exact paired_two (fun x y a h1 h2 => alike_row h1.1 h2.1 (hl a h1.2)) (paired_in hp) (paired_in hq)
section
variable {P : Program} {w : World} {K : PySem.W.Frag} {mg : Str → Option Value} {base : Heap} {cT cS : Addr}
def spIs (n : Nat) : Sp := fun vs H Q _ => ∃ (x y : V), vs = [x, y] ∧ AlikeT H n x y ∧ ∀ H', Same H H' → Q (.bl true) H'
theorem sp_len (n : Nat) : ∀ vs H Q E, spIs n vs H Q E → vs.length = ["thing", "due"].length := fun vs H Q E h => by
  obtain ⟨x, y, rfl, _⟩ := h
  rfl
theorem ok_is (T : Tx K mg cT cS) {f : Addr} {fd : FuncData} (d : D K mg "_law_is" s_law_is ["thing", "due"] f fd) : ∀ n : Nat, FnOk P w K mg base CX0 (n + 1) f fd ["thing", "due"] (spIs n) := by
  intro n
  induction n with
  | zero =>
    refine d.F.ok sc_law_is (sp_len 0) (fun cdv A outer s H vs Q E hr h => ?_)
    obtain ⟨x, y, rfl, ⟨k, rfl, rfl⟩, q⟩ := h
    refine ⟨_, pss_cons (ps_if (pt_val (pe_callB call_isiT (by rfl) T.b_isinstance (by decide +kernel) (pa_cons (pv 1) (pa_cons (pe_tup (pa_cons (ty_tuple T.b_tuple) (pa_cons (ty_list T.b_list) pa_nil))) pa_nil)))) pss_never pss_nil)
      (pss_one (ps_ret (pe_and (pe_cmpR op_eq (pe_callB call_isi (by rfl) T.b_isinstance (by decide +kernel) (pa_cons (pv 0) (pa_cons (ty_bool T.b_bool) pa_nil))) (pe_callB call_isi (by rfl) T.b_isinstance (by decide +kernel) (pa_cons (pv 1) (pa_cons (ty_bool T.b_bool) pa_nil))) (nomark _))
        (pe_one (pe_cmpR op_eq (pv 0) (pv 1) (nomark _)))))), ?_⟩
    refine ⟨_, rfl, by show 2 ≤ sizeLine; decide, fun p np => ⟨_, p, _, _, _, _, rfl, upd_same, .cons (.ty _) (.cons (.ty _) .nil), .base (.int _), kitA_i, _, rfl, iteF ?_⟩⟩
    refine ⟨_, rfl, _, _, _, _, _, rfl, .ty _, .base (.int _), kit_ib, _, rfl, _, _, _, _, _, rfl, .ty _, .base (.int _), kit_ib, rfl, true, rfl, ?_⟩
    refine iteT ⟨_, rfl, _, rfl, rfl, ?_⟩
    rw [decide_eq_true rfl]
    exact q _ (same_new np)
  | succ n G =>
    refine d.F.ok sc_law_is (sp_len (n + 1)) (fun cdv A outer s H vs Q E hr h => ?_)
    obtain ⟨x, y, rfl, h, q⟩ := h
    refine ⟨_, pss_cons (ps_if (pt_val (pe_callB call_isiT (by rfl) T.b_isinstance (by decide +kernel) (pa_cons (pv 1) (pa_cons (pe_tup (pa_cons (ty_tuple T.b_tuple) (pa_cons (ty_list T.b_list) pa_nil))) pa_nil))))
        (pss_cons (ps_if (PW.pt (pw_or (pt_cmpR op_ne (pe_callB call_isi (by rfl) T.b_isinstance (by decide +kernel) (pa_cons (pv 0) (pa_cons (ty_tuple T.b_tuple) pa_nil))) (pe_callB call_isi (by rfl) T.b_isinstance (by decide +kernel) (pa_cons (pv 1) (pa_cons (ty_tuple T.b_tuple) pa_nil))) (nomark _))
            (pw_or1 (pt_cmpR op_ne (pe_callB call_isi (by rfl) T.b_isinstance (by decide +kernel) (pa_cons (pv 0) (pa_cons (ty_list T.b_list) pa_nil))) (pe_callB call_isi (by rfl) T.b_isinstance (by decide +kernel) (pa_cons (pv 1) (pa_cons (ty_list T.b_list) pa_nil))) (nomark _))))) pss_never pss_nil)
          (pss_one (ps_ret (pe_and (pe_cmpR op_eq (pe_callB call_len_seq (by rfl) T.b_len PySem.boot_len (pa_cons (pv 0) pa_nil)) (pe_callB call_len_seq (by rfl) T.b_len PySem.boot_len (pa_cons (pv 1) pa_nil)) (nomark _))
            (pe_one (pe_callB (cr_all rfl) (by rfl) T.b_all (by decide +kernel) (pa_cons
              (pe_lc (own := [("one", 2), ("other", 3)]) (g := gTup K 2 (gCons (gName 2) (gCons (gName 3) gNil))) (tt := tYes) rfl sc_law_is.nd (RZ.pi_zipA (by rfl) T.b_zip (pa_cons (pv 0) (pa_cons (pv 1) pa_nil))) (blkOk_by (N := N_law_is) (sc := defScope s_law_is) (by decide +kernel))
                (fun _ _ _ _ _ => pgT rfl rfl (pgs_cons (pg_name (i := 2) sc_law_is.nd rfl (Or.inl rfl)) (pgs_cons (pg_name (i := 3) sc_law_is.nd rfl (Or.inl rfl)) pgs_nil))) (fun _ _ _ _ _ => pts_nil)
                (fun _ _ _ _ _ => pe_call G hr rfl d.m d.F.kp d.b .nil pass0 (pa_cons (pv 2) (pa_cons (pv 3) pa_nil)))) pa_nil))))))) pss_nil)
      (pss_one (ps_ret (pe_and (pe_cmpR op_eq (pe_callB call_isi (by rfl) T.b_isinstance (by decide +kernel) (pa_cons (pv 0) (pa_cons (ty_bool T.b_bool) pa_nil))) (pe_callB call_isi (by rfl) T.b_isinstance (by decide +kernel) (pa_cons (pv 1) (pa_cons (ty_bool T.b_bool) pa_nil))) (nomark _))
        (pe_one (pe_cmpR op_eq (pv 0) (pv 1) (nomark _)))))), ?_⟩
    rcases h with ⟨k, rfl, rfl⟩ | ⟨a, b, xs, ys, rfl, rfl, h1, h2, hl, hp⟩
    · refine ⟨_, rfl, by show 2 ≤ sizeLine; decide, fun p np => ⟨_, p, _, _, _, _, rfl, upd_same, .cons (.ty _) (.cons (.ty _) .nil), .base (.int _), kitA_i, _, rfl, iteF ?_⟩⟩
      refine ⟨_, rfl, _, _, _, _, _, rfl, .ty _, .base (.int _), kit_ib, _, rfl, _, _, _, _, _, rfl, .ty _, .base (.int _), kit_ib, rfl, true, rfl, ?_⟩
      refine iteT ⟨_, rfl, _, rfl, rfl, ?_⟩
      rw [decide_eq_true rfl]
      exact q _ (same_new np)
    · have hle := paired_len hp
      refine ⟨_, rfl, by show 2 ≤ sizeLine; decide, fun p np => ⟨_, p, _, _, _, _, rfl, upd_same, .cons (.ty _) (.cons (.ty _) .nil), .base (.tup ((same_new np).keep.tup h2)), kitA_t, _, rfl, iteT ?_⟩⟩
      have s1 := same_new (o := .tup [V.ty "tuple", V.ty "list"]) np
      have h11 := s1 _ _ h1
      have h21 := s1 _ _ h2
      refine ⟨_, rfl, _, _, _, _, _, rfl, .ty _, .base (.tup h11), kit_tt, _, rfl, _, _, _, _, _, rfl, .ty _, .base (.tup h21), kit_tt, rfl, _, rfl, iteF ?_⟩
      refine ⟨_, rfl, _, _, _, _, _, rfl, .ty _, .base (.tup h11), kit_tl, _, rfl, _, _, _, _, _, rfl, .ty _, .base (.tup h21), kit_tl, rfl, _, rfl, iteF ?_⟩
      refine ⟨_, rfl, _, _, rfl, .inr (.of h11), _, rfl, _, _, rfl, .inr (.of h21), rfl, true, by rw [hle]; simp, ?_⟩
      refine iteT ⟨_, rfl, _, rfl, a, b, xs, ys, rfl, .inr ⟨.of h11, .of h21, fun D hD => ?_⟩⟩
      refine lc_fm (walk_zipT (n := xs.length) (by omega)) rBl (fun _ => some true) hD (fun H' s' => ⟨.of (s' _ _ h11), .of (s' _ _ h21)⟩) ?_ ?_
      · rintro i x H2 H3 hi pv ⟨tz, u1, u2, rfl, nz, rfl, e1, e2⟩
        obtain ⟨v, hv, hal⟩ := paired_get hp e1
        have : v = u2 := by
          have e2' : ys[i]? = some u2 := e2
          rw [hv] at e2'
          exact Option.some.inj e2'
        subst this
        have s3 := same_new (o := .tup [u1, v]) nz
        refine ⟨tz, _, rfl, .of upd_same, rfl, _, _, rfl, _, _, rfl, rfl, rfl, ?_⟩
        refine ⟨_, rfl, _, rfl, u1, v, rfl, alikeT_same ((s1.trans pv.1).trans s3) n hal, fun H5 s5 => ?_⟩
        exact fm_keep mono_bl pv hD (by omega) (s3.trans s5) rfl rfl
      intro H3 zs s3 hD3 hp3
      have := paired_bl hp3
      subst this
      refine ⟨_, _, rfl, .of hD3, ?_⟩
      rw [all_true_fm rfl]
      exact q _ (s1.trans s3)
def scPr : Scope := { kind := .function, names := [(".0", .local), ("row", .local), ("int", .globalImplicit), ("sum", .globalImplicit), ("zip", .globalImplicit), ("p", .cell), ("values", .cell)], isGenerator := false, isCoroutine := false }
def dotM (p : Int) (l m : List Int) : Int := ((List.range l.length).map fun i => l.getD i 0 * m.getD i 0).sum % p
def spProd : Sp := fun vs H Q _ => ∃ (a : Addr) (p : Int) (wd : Nat) (xs : List V) (rows : List (List Int)) (v : V) (l : List Int), vs = [.int p, .ref a, v] ∧ H a = some (.lst xs) ∧ Paired (rRow H) xs rows ∧ rRow H v l ∧ rows.length ≤ 100 ∧ 2 ≤ p ∧ p ≤ 1000000 ∧ wd ≤ 100 ∧ isRow l p wd ∧ (∀ r ∈ rows, isRow r p wd) ∧
  ∀ H' r, Same H H' → H' r = some (.lst ((rows.map fun r => dotM p r l).map V.int)) → Q (.ref r) H'
end
end S4

namespace S4
open PySem L2 TT MM EE
/-! ### the law's own inverse -/
def scI1 : Scope := { kind := .function, names := [(".0", .local), ("number", .cell), ("row", .local), ("list", .globalImplicit), ("range", .globalImplicit), ("many", .cell)], isGenerator := false, isCoroutine := false }
def scI2 : Scope := { kind := .function, names := [(".0", .local), ("number", .cell), ("tuple", .globalImplicit), ("range", .globalImplicit), ("many", .cell)], isGenerator := false, isCoroutine := false }
/-- a list of rows -/
def rLR : Rp (List (List Int)) := fun H v L => ∃ a xs, v = .ref a ∧ H a = some (.lst xs) ∧ Paired (rRow H) xs L
theorem enc_lr : Enc rLR (fun L => .list (L.map fun l => .tuple (l.map PyData.int))) 2 := by
  refine ⟨fun a b => ?_, fun a => .lst fun x hx => ?_, fun K H v a ⟨t, xs, e, h, p⟩ => ?_⟩
  · simp only [PyData.eqv]
    exact eqvAll_iff enc_row.eq a b
  · obtain ⟨y, _, rfl⟩ := List.mem_map.mp hx
    exact enc_row.shp y
  · subst e
    refine .lst (.of h) ?_
    clear h
    have go : ∀ {xs : List V} {l : List (List Int)}, Paired (rRow H) xs l → DpAll K H xs (l.map fun l => .tuple (l.map PyData.int)) := fun p => by
      induction p with
      | nil => exact .nil
      | cons r t ih => exact .cons (enc_row.dp K H _ _ r) ih
    exact go p
theorem inv_of {p : Int} {wd : Nat} {rows lad : List (List Int)} (hrw : ∀ r ∈ rows, isRow r p wd) (hlen : rows.length = wd) (hlad : IsLad p (wd + wd) (withMarks rows) lad) (he : (lad.map fun l => l.take wd) = uRows wd) : IsInv p wd rows (lad.map fun l => l.drop wd) := by
  have hl : lad.length = wd := by
    have := congrArg List.length he
    rw [List.length_map] at this
    unfold uRows at this
    rw [List.length_map, List.length_range] at this
    exact this
  refine ⟨by rw [List.length_map]; exact hl, fun k hk => ?_⟩
  have hlk : lad[k]? = some (lad[k]'(by omega)) := List.getElem?_eq_getElem (by omega)
  generalize lad[k]'(by omega) = l at hlk
  have hm := List.mem_of_getElem? hlk
  have hr := hlad.rows.2 l hm
  have hll := isRow_len hr
  have e1 : (lad.map fun l => l.drop wd).getD k [] = l.drop wd := getD_at (by rw [List.getElem?_map, hlk]; rfl)
  have e2 : uRow wd k = l.take wd := by
    have h1 : (lad.map fun l => l.take wd)[k]? = some (l.take wd) := by rw [List.getElem?_map, hlk]; rfl
    rw [he] at h1
    unfold uRows at h1
    rw [List.getElem?_map, List.getElem?_range hk] at h1
    exact Option.some.inj h1
  rw [e1, e2]
  have sp : Spn p (inRows (withMarks rows)) (vec l) := (hlad.room _).mp (.row ⟨l, hm, rfl⟩)
  refine ⟨by rw [List.length_drop]; omega, fun x hx => hr.2 x (List.mem_of_mem_drop hx), fun x hx => ?_⟩
  have h := marks_rel hrw sp x hx
  have g1 : (l.take wd).getD x 0 = vec l x := by
    unfold vec
    rw [List.getD_eq_getElem?_getD, List.getD_eq_getElem?_getD, List.getElem?_take, if_pos hx]
  rw [g1]
  refine h.trans (.of_eq ?_)
  unfold dotC
  congr 1
  funext j
  congr 1
  unfold vec
  rw [List.getD_eq_getElem?_getD, List.getD_eq_getElem?_getD, List.getElem?_drop]
section
variable {P : Program} {w : World} {K : PySem.W.Frag} {mg : Str → Option Value} {base : Heap} {cT cS : Addr}
def spInv : Sp := fun vs H Q _ => ∃ (a : Addr) (p : Int) (wd : Nat) (xs : List V) (rows : List (List Int)), vs = [.int p, .ref a] ∧ H a = some (.lst xs) ∧ Paired (rRow H) xs rows ∧ rows.length = wd ∧ wd ≤ 60 ∧ Prm p ∧ p ≤ 1000000 ∧ (∀ r ∈ rows, isRow r p wd) ∧
  (∀ H', Same H H' → Q .non H') ∧ ∀ H' c ys A, Same H H' → H' c = some (.lst ys) → Paired (rRow H') ys A → IsInv p wd rows A → Q (.ref c) H'
end
end S4

namespace S4
open PySem L2 TT MM EE
/-! ### the law's own sides -/
theorem tied_perm (post : Int) : ∀ ties : List (Int × Int), (∀ z ∈ ties, z.1 ≠ z.2) → ((ties.filterMap fun z => if z.1 = post then some z.2 else none) ++ ties.filterMap fun z => if z.2 = post then some z.1 else none).Perm (nb ties post)
  | [], _ => .refl _
  | z :: ties, h => by
    have ih := tied_perm post ties fun y hy => h y (by simp [hy])
    have hz := h z (by simp)
    unfold nb at ih ⊢
    rw [List.filterMap_cons, List.filterMap_cons, List.filterMap_cons]
    by_cases h1 : z.1 = post
    · have h2 : z.2 ≠ post := fun e => hz (h1.trans e.symm)
      rw [show nbOf post z = some z.2 by unfold nbOf; rw [if_pos (.inl h1), if_pos h1]]
      simp only [if_pos h1, if_neg h2]
      exact ih.cons _
    · by_cases h2 : z.2 = post
      · rw [show nbOf post z = some z.1 by unfold nbOf; rw [if_pos (.inr h2), if_neg h1]]
        simp only [if_neg h1, if_pos h2]
        exact List.perm_middle.trans (ih.cons _)
      · rw [show nbOf post z = none by unfold nbOf; rw [if_neg (fun q => q.elim h1 h2)]]
        simp only [if_neg h1, if_neg h2]
        exact ih
section
variable {P : Program} {w : World} {K : PySem.W.Frag} {mg : Str → Option Value} {base : Heap} {cT cS : Addr}
def spTiedL : Sp := fun vs H Q _ => ∃ (v : V) (ties : List (Int × Int)) (post : Int), vs = [v, .int post] ∧ rTup rPI H v ties ∧ ties.length ≤ 100 ∧ (∀ z ∈ ties, z.1 ≠ z.2) ∧
  ∀ H' r ns, Same H H' → H r = none → H' r = some (.lst (ns.map V.int)) → ns.Perm (nb ties post) → Up ns → Q (.ref r) H'
theorem ok_tiedL (T : Tx K mg cT cS) {f : Addr} {fd : FuncData} (d : D K mg "_law_tied" s_law_tied ["ties", "post"] f fd) : FnOk P w K mg base CX0 1 f fd ["ties", "post"] spTiedL := by
  refine d.F.ok sc_law_tied (fun vs H Q E h => ?_) (fun cdv A outer s H vs Q E hr h => ?_)
  · obtain ⟨v, ties, post, rfl, _⟩ := h
    rfl
  · obtain ⟨v, ties, post, rfl, hv, hl, hd, q⟩ := h
    refine ⟨_, pss_one (ps_ret (pe_callB cr_sortedI (by rfl) T.b_sorted (by decide +kernel) (pa_cons (pe_op op_cat (pe_lc (own := [("one", 2), ("other", 3)]) (g := (gTup K 2 (gCons (gName 2) (gCons (gName 3) gNil)))) (tt := _) rfl sc_law_tied.nd (pi_tup (pv 0)) (blkOk_by (N := N_law_tied) (sc := defScope s_law_tied) (by decide +kernel)) (fun _ _ _ _ _ => (pgT rfl rfl (pgs_cons (pg_name (i := 2) sc_law_tied.nd rfl (Or.inl rfl)) (pgs_cons (pg_name (i := 3) sc_law_tied.nd rfl (Or.inl rfl)) pgs_nil)))) (fun _ _ _ _ _ => (pts_one (pt_cmpR op_eq (pv 2) (pv 1) (nomark _))))
            (fun _ _ _ _ _ => (pv 3))) (pe_lc (own := [("one", 2), ("other", 3)]) (g := (gTup K 2 (gCons (gName 2) (gCons (gName 3) gNil)))) (tt := _) rfl sc_law_tied.nd (pi_tup (pv 0)) (blkOk_by (N := N_law_tied) (sc := defScope s_law_tied) (by decide +kernel)) (fun _ _ _ _ _ => (pgT rfl rfl (pgs_cons (pg_name (i := 2) sc_law_tied.nd rfl (Or.inl rfl)) (pgs_cons (pg_name (i := 3) sc_law_tied.nd rfl (Or.inl rfl)) pgs_nil)))) (fun _ _ _ _ _ => (pts_one (pt_cmpR op_eq (pv 3) (pv 1) (nomark _))))
            (fun _ _ _ _ _ => (pv 2)))) pa_nil))), ?_⟩
    obtain ⟨t, xs, rfl, ht, hp⟩ := id hv
    have hlen := paired_len hp
    refine ⟨_, rfl, t, rfl, ⟨_, .of ht⟩, fun D hD => ?_⟩
    refine lc_fm (walk_tup (xs := xs)) rInt (fun i => ties[i]?.bind fun z => if z.1 = post then some z.2 else none) hD (fun H' s' => .of (s'.keep.tup ht)) ?_ ?_
    · rintro i x H2 H3 hi pv ⟨rfl, hx⟩
      obtain ⟨z, hz, t2, rfl, ht2⟩ := paired_get (paired_mono mono_pi pv.1.keep hp) hx
      refine ⟨t2, _, rfl, .of ht2, rfl, _, _, rfl, _, _, rfl, rfl, rfl, _, rfl, _, rfl, rfl, _, rfl, ?_⟩
      by_cases h : z.1 = post
      · rw [decide_eq_true (congrArg V.int h)]
        exact iteT ⟨_, rfl, fm_keep mono_int pv hD (by omega) (.refl _) (by rw [hz]; exact if_pos h) rfl⟩
      · rw [decide_eq_false (fun e => h (V.int.inj e))]
        exact iteF (fm_skip mono_int pv (.refl _) (by rw [hz]; exact if_neg h))
    intro H2 ys s2 hD2 hp2
    rw [hlen, fm_list] at hp2
    have := paired_int hp2
    subst this
    have ht2 := s2 _ _ ht
    refine ⟨_, rfl, t, rfl, ⟨_, .of ht2⟩, fun D2 hD2' => ?_⟩
    refine lc_fm (walk_tup (xs := xs)) rInt (fun i => ties[i]?.bind fun z => if z.2 = post then some z.1 else none) hD2' (fun H' s' => .of (s'.keep.tup ht2)) ?_ ?_
    · rintro i x H3 H4 hi pv ⟨rfl, hx⟩
      obtain ⟨z, hz, t2, rfl, ht3⟩ := paired_get (paired_mono mono_pi (s2.trans pv.1).keep hp) hx
      refine ⟨t2, _, rfl, .of ht3, rfl, _, _, rfl, _, _, rfl, rfl, rfl, _, rfl, _, rfl, rfl, _, rfl, ?_⟩
      by_cases h : z.2 = post
      · rw [decide_eq_true (congrArg V.int h)]
        exact iteT ⟨_, rfl, fm_keep mono_int pv hD2' (by omega) (.refl _) (by rw [hz]; exact if_pos h) rfl⟩
      · rw [decide_eq_false (fun e => h (V.int.inj e))]
        exact iteF (fm_skip mono_int pv (.refl _) (by rw [hz]; exact if_neg h))
    intro H3 ys s3 hD3 hp3
    rw [hlen, fm_list] at hp3
    have := paired_int hp3
    subst this
    have l1 := List.length_filterMap_le (fun z : Int × Int => if z.1 = post then some z.2 else none) ties
    have l2 := List.length_filterMap_le (fun z : Int × Int => if z.2 = post then some z.1 else none) ties
    refine ⟨D, D2, _, _, rfl, rfl, s3 _ _ hD2, hD3, by rw [List.length_map, List.length_map]; exact Nat.le_trans (show _ ≤ 200 by omega) (by decide), fun r nr => ?_⟩
    have s4 := same_new (o := .lst ((ties.filterMap fun z => if z.1 = post then some z.2 else none).map V.int ++ (ties.filterMap fun z => if z.2 = post then some z.1 else none).map V.int)) nr
    refine ⟨r, (ties.filterMap fun z => if z.1 = post then some z.2 else none) ++ ties.filterMap fun z => if z.2 = post then some z.1 else none, rfl, .of (by rw [upd_same, List.map_append]), fun ns r2 hperm hup nr2 => ?_⟩
    have t3 := (s2.trans s3).trans s4
    exact q _ r2 ns (t3.trans (same_new nr2)) (t3.free nr2) upd_same (hperm.trans (tied_perm post ties hd)) hup
/-- the two lists that stand in the walk -/
structure RL (H0 : Hp) (dm dw : Addr) (fnd wt : List Int) (H : Hp) : Prop where
  same : Same H0 H
  m0 : H0 dm = none
  w0 : H0 dw = none
  ne : dm ≠ dw
  md : H dm = some (.lst (fnd.map V.int))
  wd : H dw = some (.lst (wt.map V.int))
theorem RL.more {H0 : Hp} {dm dw : Addr} {fnd wt : List Int} {H H' : Hp} (r : RL H0 dm dw fnd wt H) (s : Same H H') : RL H0 dm dw fnd wt H' := ⟨r.same.trans s, r.m0, r.w0, r.ne, s _ _ r.md, s _ _ r.wd⟩
theorem RL.setW {H0 : Hp} {dm dw : Addr} {fnd wt : List Int} {H : Hp} (r : RL H0 dm dw fnd wt H) (wt' : List Int) : RL H0 dm dw fnd wt' (upd H dw (.lst (wt'.map V.int))) :=
  ⟨same_own r.same r.w0, r.m0, r.w0, r.ne, by rw [upd_ne r.ne]; exact r.md, upd_same⟩
theorem RL.setM {H0 : Hp} {dm dw : Addr} {fnd wt : List Int} {H : Hp} (r : RL H0 dm dw fnd wt H) (fnd' : List Int) : RL H0 dm dw fnd' wt (upd H dm (.lst (fnd'.map V.int))) :=
  ⟨same_own r.same r.m0, r.m0, r.w0, r.ne, upd_same, by rw [upd_ne r.ne.symm]; exact r.wd⟩
def spSide : Sp := fun vs H Q _ => ∃ (v : V) (ties : List (Int × Int)) (st bar : Int) (U : List Int), vs = [v, .int st, .int bar] ∧ rTup rPI H v ties ∧ ties.length ≤ 100 ∧ (∀ z ∈ ties, z.1 ≠ z.2) ∧ Shut ties U ∧ st ∈ U ∧ U.length < 64 ∧
  ∀ H' r ns, Same H H' → H r = none → H' r = some (.lst (ns.map V.int)) → Up ns → ns.Nodup → (∀ x, x ∈ ns ↔ Rch ties (some bar) st x) → Q (.ref r) H'
theorem ok_side (T : Tx K mg cT cS) {f : Addr} {fd : FuncData} (d : D K mg "_law_side" s_law_side ["ties", "post", "barred"] f fd) : FnOk P w K mg base CX0 2 f fd ["ties", "post", "barred"] spSide := by
  obtain ⟨f1, fd1, d1⟩ := T.d_law_tied
  have G1 := ok_tiedL (P := P) (w := w) (base := base) T d1
  refine d.F.ok sc_law_side (fun vs H Q E h => ?_) (fun cdv A outer s H vs Q E hr h => ?_)
  · obtain ⟨v, ties, st, bar, U, rfl, _⟩ := h
    rfl
  · obtain ⟨v, ties, st, bar, U, rfl, hties, hl, hd, hU, hst, hU64, q⟩ := h
    refine ⟨_, pss_cons (ps_set (i := 3) sc_law_side.nd rfl (.inl rfl) (pe_lst (pa_cons (pv 1) pa_nil)))
      (pss_cons (ps_for PassesOwn.never rfl (pi_list (pe_slice sl_list (pv 3) po_none (po_some pe_int))) (pg_name (i := 4) sc_law_side.nd rfl (.inl rfl))
        (pss_cons (ps_set (i := 5) sc_law_side.nd rfl (.inl rfl) (pe_lst (pa_cons (pv 4) pa_nil)))
      (pss_one (ps_while PassesOwn.never (pt_cmpR op_gt (pe_callB call_len_seq (by rfl) T.b_len PySem.boot_len (pa_cons (pv 5) pa_nil)) pe_int (nomark _))
        (pss_one (ps_for PassesOwn.never rfl (pi_list (pe_call G1 (hr.mono (by decide)) rfl d1.m d1.F.kp d1.b .nil pass0 (pa_cons (pv 0) (pa_cons (pe_bm0 PySem.F.plainAttrs_list PySem.F.slot_list_pop PySem.F.type_list_pop mt_pop (pv 5)) pa_nil)))) (pg_name (i := 6) sc_law_side.nd rfl (.inl rfl))
        (pss_one (ps_if (PW.pt (pw_and (pt_cmpR op_ne (pv 6) (pv 2) (nomark _)) (pw_and1 (pt_cmpR (ninS (K := K) rfl) (pv 6) (pv 3) (by rfl))))) (pss_cons (ps_expr (pe_bm PySem.F.plainAttrs_list PySem.F.slot_list_append PySem.F.type_list_append mt_append (pv 3) (pa_cons (pv 6) pa_nil)))
      (pss_one (ps_expr (pe_bm PySem.F.plainAttrs_list PySem.F.slot_list_append PySem.F.type_list_append mt_append (pv 5) (pa_cons (pv 6) pa_nil))))) pss_nil))))))))
      (pss_one (ps_ret (pe_callB cr_sortedI (by rfl) T.b_sorted (by decide +kernel) (pa_cons (pv 3) pa_nil))))), ?_⟩
    obtain ⟨t, xs, rfl, ht, hp⟩ := id hties
    refine ⟨_, rfl, by show 1 ≤ sizeLine; decide, fun dm ndm => ?_⟩
    have s1 := same_new (o := .lst [V.int st]) ndm
    have hm1 := upd_same (H := H) (a := dm) (o := .lst [V.int st])
    generalize upd H dm (.lst [V.int st]) = H1 at *
    dsimp only [gName, tSeq]
    refine ⟨_, rfl, 1, rfl, dm, _, rfl, .of hm1, fun p np => ?_⟩
    have e1 : L2.cutV [V.int st] none (some 1) = [V.int st] := cutV_upto [V.int st] 1
    rw [e1]
    have s2 := same_new (o := .lst [V.int st]) np
    have hp2 := upd_same (H := H1) (a := p) (o := .lst [V.int st])
    have hm2 := s2 _ _ hm1
    have pdm : p ≠ dm := fun e => by rw [e, hm1] at np; cases np
    generalize upd H1 p (.lst [V.int st]) = H2 at *
    have t2 := s1.trans s2
    refine ⟨p, rfl, ⟨_, .of hp2⟩, ?_⟩
    refine for_it (walk_list (xs := [V.int st])) (fun i σ H' => ∃ (fnd : List Int) (x4 x5 x6 : Option V), σ = [some (.ref t), some (.int st), some (.int bar), some (.ref dm), x4, x5, x6] ∧ Same H H' ∧ H' p = some (.lst [V.int st]) ∧ H' dm = some (.lst (fnd.map V.int)) ∧ (i = 0 → fnd = [st]) ∧ (i = 1 → RI ties (some bar) st none fnd []))
      ⟨[st], none, none, none, rfl, t2, hp2, hm2, fun _ => rfl, fun e => absurd e (by omega)⟩ (fun i σ H' _ h => by obtain ⟨_, _, _, _, _, _, h, _⟩ := h; exact .of h) ?_ ?_
    · rintro i x σ H3 H4 hi ⟨fnd0, x4, x5, x6, rfl, s3, hp3, hm3, hf, _⟩ ⟨rfl, hx⟩
      have hi0 : i = 0 := by have : i < 1 := hi; omega
      subst hi0
      have := hf rfl
      subst this
      have hx : V.int st = x := Option.some.inj hx
      subst hx
      dsimp only [gName, tSeq]
      refine ⟨_, rfl, by show 1 ≤ sizeLine; decide, fun dw ndw => ?_⟩
      have hne : dm ≠ dw := ne_of_none hm3 ndw
      have R0 : RL H dm dw [st] [st] (upd H4 dw (.lst [V.int st])) := ⟨s3.trans (same_new ndw), ndm, s3.free ndw, hne, by rw [upd_ne hne]; exact hm3, upd_same⟩
      have hp4 := same_new (o := .lst [V.int st]) ndw _ _ hp3
      have pdw : p ≠ dw := ne_of_none hp3 ndw
      dsimp only [gName, tSeq]
      refine while_by (fun σ H' => ∃ (fnd wt : List Int) (x6 : Option V), σ = [some (.ref t), some (.int st), some (.int bar), some (.ref dm), some (.int st), some (.ref dw), x6] ∧ RL H dm dw fnd wt H' ∧ H' p = some (.lst [V.int st]) ∧ RI ties (some bar) st none fnd wt)
        (fun σ H' => match H' dm, H' dw with | some (.lst a), some (.lst b) => 2 * (64 - a.length) + b.length | _, _ => 0) ⟨[st], [st], x6, rfl, R0, hp4, .start⟩ ?_ ?_
      · rintro σ H5 ⟨fnd, wt, x6, rfl, R, hp5, I⟩
        have hmu : (match H5 dm, H5 dw with | some (.lst a), some (.lst b) => 2 * (64 - a.length) + b.length | _, _ => 0) = 2 * (64 - fnd.length) + wt.length := by
          rw [R.md, R.wd]
          show 2 * (64 - (fnd.map V.int).length) + (wt.map V.int).length = _
          rw [List.length_map, List.length_map]
        rw [hmu]
        refine ⟨_, rfl, dw, _, rfl, .inl (.of R.wd), _, _, rfl, rfl, _, rfl, ?_⟩
        cases hw : wt with
        | nil =>
          subst hw
          rw [decide_eq_false (by show ¬ (0 : Int) < (([] : List V).length : Int); decide)]
          exact iteF ⟨fnd, _, _, _, rfl, R.same, hp5, R.md, fun e => absurd e (by omega), fun _ => I⟩
        | cons w0 wr =>
          rw [← hw]
          have hpos : 0 < wt.length := by rw [hw]; simp
          rw [decide_eq_true (by rw [List.length_map]; omega)]
          refine iteT ?_
          have hlast : wt[wt.length - 1]? = some wt[wt.length - 1] := List.getElem?_eq_getElem (by omega)
          obtain ⟨h, hh⟩ : ∃ h, wt[wt.length - 1]? = some h := ⟨_, hlast⟩
          have I1 := I.pop hh
          have R1 : RL H dm dw fnd wt.dropLast (upd H5 dw (.lst (wt.map V.int).dropLast)) := by
            have := R.setW wt.dropLast
            rw [List.map_dropLast] at this
            exact this
          have hp6 : (upd H5 dw (.lst (wt.map V.int).dropLast)) p = some (.lst [V.int st]) := by rw [upd_ne pdw]; exact hp5
          have hdl : wt.dropLast.length = wt.length - 1 := List.length_dropLast
          refine ⟨_, rfl, _, rfl, .inl ⟨rfl, _, .of R.wd⟩, dw, _, V.int h, rfl, rfl, R.wd, by rw [List.length_map]; exact int_at hh, .ref t, ties, h, rfl, ⟨t, xs, rfl, R1.same _ _ ht, paired_mono mono_pi R1.same.keep hp⟩, hl, hd, fun H6 r ns s6 nr hr6 hperm hup => ⟨r, rfl, ⟨_, .of hr6⟩, ?_⟩⟩
          have R2 := R1.more s6
          have hp7 := s6 _ _ hp6
          have rdm : r ≠ dm := fun e => by rw [e, R1.md] at nr; cases nr
          have rdw : r ≠ dw := fun e => by rw [e, R1.wd] at nr; cases nr
          refine for_it (walk_list (xs := ns.map V.int)) (fun i σ H' => ∃ (fnd' wt' : List Int) (x6 : Option V), σ = [some (.ref t), some (.int st), some (.int bar), some (.ref dm), some (.int st), some (.ref dw), x6] ∧ RL H dm dw fnd' wt' H' ∧ H' p = some (.lst [V.int st]) ∧ H' r = some (.lst (ns.map V.int)) ∧
            RI ties (some bar) st (some h) fnd' wt' ∧ (∀ j v, j < i → ns[j]? = some v → some bar ≠ some v → v ∈ fnd') ∧ 2 * (64 - fnd'.length) + wt'.length ≤ 2 * (64 - fnd.length) + (wt.length - 1))
            ⟨fnd, wt.dropLast, x6, rfl, R2, hp7, hr6, I1, fun j v hj => absurd hj (Nat.not_lt_zero _), by rw [hdl]; exact Nat.le_refl _⟩ (fun i σ H' _ ⟨_, _, _, _, _, _, e, _⟩ => .of e) ?_ ?_
          · rintro i x σ H7 H8 hi ⟨fnd', wt', x6, rfl, R3, hp8, hr8, I3, hc, hm⟩ ⟨rfl, hx⟩
            obtain ⟨n, hn, rfl⟩ := at_int hx
            dsimp only [gName, tSeq]
            refine ⟨_, rfl, _, rfl, rfl, _, rfl, ?_⟩
            by_cases hb : n = bar
            · rw [decide_eq_true (congrArg V.int hb)]
              refine iteF (iteF ⟨fnd', wt', _, rfl, R3, hp8, hr8, I3, fun j v hj hv hbv => ?_, hm⟩)
              by_cases ej : j = i
              · subst ej
                rw [hn] at hv
                cases hv
                exact absurd (congrArg some hb.symm) hbv
              · exact hc j v (by omega) hv hbv
            · rw [decide_eq_false (fun e => hb (V.int.inj e))]
              refine iteT ⟨_, rfl, _, rfl, dm, _, rfl, .inl (.of R3.md), rfl, flat_ints _, _, rfl, ?_⟩
              rw [inV_ints]
              have hbs : some bar ≠ some n := fun e => hb (Option.some.inj e).symm
              by_cases hin : n ∈ fnd'
              · rw [decide_eq_true hin]
                refine iteF ⟨fnd', wt', _, rfl, R3, hp8, hr8, I3, fun j v hj hv hbv => ?_, hm⟩
                by_cases ej : j = i
                · subst ej
                  rw [hn] at hv
                  cases hv
                  exact hin
                · exact hc j v (by omega) hv hbv
              · rw [decide_eq_false hin]
                refine iteT ?_
                have hnb : n ∈ nb ties h := hperm.mem_iff.mp (List.mem_of_getElem? hn)
                have I4 := I3.add hnb hbs hin
                have l4 := I4.len hU hst
                have l3 := I3.len hU hst
                have lw3 := I3.wl
                refine ⟨_, rfl, .inl ⟨rfl, _, .of R3.md⟩, _, rfl, dm, _, _, rfl, rfl, R3.md, by rw [List.length_map]; exact Nat.lt_of_le_of_lt (Nat.le_trans l3 (Nat.le_of_lt hU64)) (by decide), ?_⟩
                have R4 := R3.setM (fnd' ++ [n])
                rw [List.map_append] at R4
                refine ⟨_, rfl, .inl ⟨rfl, _, .of R4.wd⟩, _, rfl, dw, _, _, rfl, rfl, R4.wd, by rw [List.length_map]; exact Nat.lt_of_le_of_lt (Nat.le_trans lw3 (Nat.le_trans l3 (Nat.le_of_lt hU64))) (by decide), ?_⟩
                have R5 := R4.setW (wt' ++ [n])
                rw [List.map_append] at R5
                refine ⟨fnd' ++ [n], wt' ++ [n], _, rfl, R5, by rw [upd_ne pdw, upd_ne pdm]; exact hp8, by rw [upd_ne rdw, upd_ne rdm]; exact hr8, I4, fun j v hj hv hbv => ?_, ?_⟩
                · by_cases ej : j = i
                  · subst ej
                    rw [hn] at hv
                    cases hv
                    simp
                  · exact List.mem_append_left _ (hc j v (by omega) hv hbv)
                · rw [List.length_append, List.length_append, List.length_singleton]
                  rw [List.length_append, List.length_singleton] at l4
                  omega
          · rintro σ H7 ⟨fnd', wt', x6, rfl, R3, hp8, hr8, I3, hc, hm⟩
            refine ⟨⟨fnd', wt', _, rfl, R3, hp8, I3.close fun v hv hb => ?_⟩, ?_⟩
            · have hv' := hperm.mem_iff.mpr hv
              obtain ⟨j, hj⟩ := List.getElem?_of_mem hv'
              exact hc j v (by rw [List.length_map]; exact (List.getElem?_eq_some_iff.mp hj).1) hj hb
            · rw [R3.md, R3.wd]
              show 2 * (64 - (fnd'.map V.int).length) + (wt'.map V.int).length < _
              rw [List.length_map, List.length_map]
              omega
      · rintro σ H' Q1 Q2 i ⟨x, e1, p, ys, e2, h2, a, b, e3, e4, k, e5, h⟩
        exact ⟨x, e1, p, ys, e2, h2, a, b, e3, e4, k, e5, i _ _ h⟩
    · rintro σ H3 ⟨fnd, x4, x5, x6, rfl, s3, hp3, hm3, _, hI⟩
      have I := hI rfl
      refine ⟨_, rfl, dm, fnd, rfl, .of hm3, fun ys r hperm hup nr => ?_⟩
      exact q _ r ys (s3.trans (same_new nr)) (s3.free nr) upd_same hup (hperm.symm.nodup I.nd) fun x => by rw [hperm.mem_iff]; exact I.done x
end
end S4

namespace S4
open PySem L2 TT MM EE
/-! ### the law's ways, numbers, rows, blocks -/
theorem take_succ_sum {l : List Int} {k : Nat} (h : k < l.length) : (l.take (k + 1)).sum = (l.take k).sum + l[k] := by
  rw [List.take_succ, List.getElem?_eq_getElem h, List.sum_append]
  simp
theorem numsL_app (holds a b : List Int) : numsL holds (a ++ b) = numsL holds a ++ numsL holds b := by unfold numsL; rw [List.flatMap_append]
/-- what the law holds of a sheet -/
def rSpec : Rp SD := fun H v S => ∃ t tt th tw, v = .ref t ∧ H t = some (.tup [.int S.p, tt, th, tw]) ∧ rTup rPI H tt S.ties ∧ rRow H th S.holds ∧ rWants H tw S.wants
theorem mono_spec : Mono rSpec := fun _ _ _ _ k ⟨t, tt, th, tw, e, h, h1, h2, h3⟩ => ⟨t, tt, th, tw, e, k.tup h, mono_tup mono_pi _ _ _ _ k h1, mono_row _ _ _ _ k h2, mono_tup (mono_tup mono_row) _ _ _ _ k h3⟩
theorem blockL_flat (S : SD) (near : List Int) : ∀ far : List Int, blockL S near far = far.flatMap fun post => (S.wants.getD post.toNat []).map fun r => cutL r (numsL S.holds near)
  | [] => rfl
  | q :: far => by
    have ih := blockL_flat S near far
    unfold blockL farL at ih ⊢
    rw [List.flatMap_cons, List.map_append, ih, List.flatMap_cons]
    congr 1
    rw [List.map_map]
    refine List.ext_getElem (by simp) fun i h1 h2 => ?_
    have hi : i < (S.wants.getD q.toNat []).length := by simpa using h1
    rw [List.getElem_map, List.getElem_map, List.getElem_range]
    show cutL ((S.wants.getD q.toNat []).getD ((i : Nat) : Int).toNat []) _ = _
    rw [Int.toNat_natCast, getD_at (List.getElem?_eq_getElem hi)]
def scBk : Scope := { kind := .function, names := [(".0", .local), ("row", .cell), ("tuple", .globalImplicit), ("numbers", .cell)], isGenerator := false, isCoroutine := false }
section
variable {P : Program} {w : World} {K : PySem.W.Frag} {mg : Str → Option Value} {base : Heap} {cT cS : Addr}
def spLWays : Sp := fun vs H Q _ => ∃ (v : V) (ties : List (Int × Int)), vs = [v] ∧ rTup rPI H v ties ∧ ties.length ≤ 1000 ∧
  ∀ H' p xs m, Same H H' → H p = none → H' p = some (.lst xs) → Paired (rPI H') xs m → m.Perm (ties ++ flipAll ties) → m.Pairwise lxLe → Q (.ref p) H'
theorem ok_lways (T : Tx K mg cT cS) {f : Addr} {fd : FuncData} (d : D K mg "_law_ways" s_law_ways ["ties"] f fd) : FnOk P w K mg base CX0 1 f fd ["ties"] spLWays := by
  refine d.F.ok sc_law_ways (fun vs H Q E h => ?_) (fun cdv A outer s H vs Q E hr h => ?_)
  · obtain ⟨v, ties, rfl, _⟩ := h
    rfl
  · obtain ⟨v, ties, rfl, ⟨t, xs, rfl, ht, hp⟩, hl, q⟩ := h
    refine ⟨_, pss_one (ps_ret (pe_callB cr_sortedPD (by rfl) T.b_sorted (by decide +kernel) (pa_cons (pe_op op_cat (pe_callTy call_list_of (by rfl) T.b_list (by decide +kernel) (pa_cons (pv 0) pa_nil)) (pe_lc (own := [("one", 1), ("other", 2)]) (g := (gTup K 2 (gCons (gName 1) (gCons (gName 2) gNil)))) (tt := tYes) rfl sc_law_ways.nd (pi_tup (pv 0)) (blkOk_by (N := N_law_ways) (sc := defScope s_law_ways) (by decide +kernel)) (fun _ _ _ _ _ => (pgT rfl rfl (pgs_cons (pg_name (i := 1) sc_law_ways.nd rfl (Or.inl rfl)) (pgs_cons (pg_name (i := 2) sc_law_ways.nd rfl (Or.inl rfl)) pgs_nil)))) (fun _ _ _ _ _ => pts_nil)
            (fun _ _ _ _ _ => (pe_tup (pa_cons (pv 2) (pa_cons (pv 1) pa_nil)))))) pa_nil))), ?_⟩
    have hlen := paired_len hp
    refine ⟨_, rfl, t, _, rfl, .inr (.of ht), fun D hD => ?_⟩
    have s2 := same_new (o := .lst xs) hD
    refine ⟨_, rfl, t, rfl, ⟨_, .of (s2.keep.tup ht)⟩, fun D2 hD' => ?_⟩
    refine lc_fm (walk_tup (xs := xs)) rPI (fun i => ties[i]?.bind fun x => some x.swap) hD' (fun H' s' => .of ((s2.trans s').keep.tup ht)) ?_ ?_
    · rintro i x H3 H4 hi pv ⟨rfl, hx⟩
      obtain ⟨z, hz, t2, rfl, ht2⟩ := paired_get (paired_mono mono_pi (s2.trans pv.1).keep hp) hx
      refine ⟨t2, _, rfl, .of ht2, rfl, _, _, rfl, _, _, rfl, rfl, rfl, _, rfl, _, rfl, by show 2 ≤ sizeLine; decide, fun p np => ?_⟩
      exact fm_keep mono_pi pv hD' (by omega) (same_new np) (by rw [hz]; rfl) ⟨p, rfl, upd_same⟩
    · intro H3 zs s3 hD3 hp3
      rw [hlen, fm_some] at hp3
      have l2 := paired_len hp3
      rw [List.length_map] at l2
      have l3 : xs.length + zs.length ≤ 2000 := by omega
      refine ⟨D, D2, xs, zs, rfl, rfl, s3 _ _ upd_same, hD3, Nat.le_trans l3 (by decide), fun p np => ?_⟩
      have s4 := same_new (o := .lst (xs ++ zs)) np
      have s6 := ((s2.trans s3).trans s4)
      refine ⟨p, _, ties ++ flipAll ties, rfl, .of upd_same, paired_app (paired_mono mono_pi s6.keep hp) (paired_mono mono_pi s4.keep hp3), fun ws m r hw hperm hs nr => ?_⟩
      have s5 := same_new (o := .lst ws) nr
      exact q _ r ws m (s6.trans s5) (s6.free nr) upd_same (paired_mono mono_pi s5.keep hw) hperm hs
def spCounts : Sp := fun vs H Q _ => ∃ (v : V) (S : SD), vs = [v] ∧ rSpec H v S ∧ S.wants.length ≤ 24 ∧ ∀ H' v', Same H H' → rRow H' v' (S.wants.map fun own => (own.length : Int)) → Q v' H'
def spRows : Sp := fun vs H Q _ => ∃ (v : V) (S : SD), vs = [v] ∧ rSpec H v S ∧ S.wants.length ≤ 24 ∧ (∀ own ∈ S.wants, own.length ≤ 8) ∧ ∀ H' r xs, Same H H' → H r = none → H' r = some (.lst xs) → Paired (rRow H') xs (rowsW S) → Q (.ref r) H'
theorem flat_le {α : Type} {b : Nat} : ∀ l : List (List α), (∀ x ∈ l, x.length ≤ b) → (l.flatMap fun x => x).length ≤ b * l.length
  | [], _ => by simp
  | x :: l, h => by
    have := flat_le l fun y hy => h y (by simp [hy])
    have := h x (by simp)
    rw [List.flatMap_cons, List.length_append, List.length_cons, Nat.mul_succ]
    omega
def spNumsOf : Sp := fun vs H Q _ => ∃ (v : V) (b : Addr) (holds ps : List Int) (n : Nat), vs = [v, .ref b] ∧ rRow H v holds ∧ CountsOk holds n ∧ n ≤ 24 ∧ H b = some (.lst (ps.map V.int)) ∧ ps.length ≤ 24 ∧ (∀ p ∈ ps, 0 ≤ p ∧ p < (n : Int)) ∧
  ∀ H' r, Same H H' → H r = none → H' r = some (.lst ((numsL holds ps).map V.int)) → Q (.ref r) H'
theorem ok_numsOf (T : Tx K mg cT cS) {f : Addr} {fd : FuncData} (d : D K mg "_law_numbers_of" s_law_numbers_of ["holds", "posts"] f fd) : FnOk P w K mg base CX0 1 f fd ["holds", "posts"] spNumsOf := by
  refine d.F.ok sc_law_numbers_of (fun vs H Q E h => ?_) (fun cdv A outer s H vs Q E hr h => ?_)
  · obtain ⟨v, b, holds, ps, n, rfl, _⟩ := h
    rfl
  · obtain ⟨v, b, holds, ps, n, rfl, ⟨th, rfl, hth⟩, oh, hn24, hb, hpl, hpb, q⟩ := h
    refine ⟨_, pss_cons (ps_set (i := 2) sc_law_numbers_of.nd rfl (.inl rfl) (pe_lst pa_nil))
      (pss_cons (ps_for PassesOwn.never rfl (pi_list (pv 1)) (pg_name (i := 3) sc_law_numbers_of.nd rfl (.inl rfl))
        (pss_one (ps_expr (pe_bm PySem.F.plainAttrs_list PySem.F.slot_list_extend PySem.F.type_list_extend mt_extend (pv 2) (pa_cons (pe_listRg rfl (by rfl) T.b_list (prg_2 (by rfl) T.b_range (pe_callB (cr_sumT rfl) (by rfl) T.b_sum (by decide +kernel) (pa_cons (pe_slice sl_tupA (pv 0) po_none (po_some (pv 3))) pa_nil)) (pe_callB (cr_sumT rfl) (by rfl) T.b_sum (by decide +kernel) (pa_cons (pe_slice sl_tupA (pv 0) po_none (po_some (pe_op op_add (pv 3) pe_int))) pa_nil)))) pa_nil)))))
      (pss_one (ps_ret (pv 2)))), ?_⟩
    refine ⟨by show 0 ≤ sizeLine; decide, fun fo hfo => ?_⟩
    have s1 := same_new (o := .lst []) hfo
    dsimp only [gName, tSeq]
    have hb1 := s1 _ _ hb
    have hne : b ≠ fo := fun e => by rw [e, hfo] at hb; cases hb
    refine ⟨_, rfl, b, rfl, ⟨_, .of hb1⟩, ?_⟩
    refine for_it (walk_list (xs := ps.map V.int)) (fun i σ H' => Same H H' ∧ H' b = some (.lst (ps.map V.int)) ∧ H' fo = some (.lst ((numsL holds (ps.take i)).map V.int)) ∧ ∃ x, σ = [some (.ref th), some (.ref b), some (.ref fo), x])
      ⟨s1, hb1, upd_same, none, rfl⟩ (fun i σ H' _ h => .of h.2.1) ?_ ?_
    · rintro i x σ H3 H4 hi ⟨s3, h3, g3, y, rfl⟩ ⟨rfl, hx⟩
      obtain ⟨p, hp, rfl⟩ := at_int hx
      obtain ⟨p0, p1⟩ := hpb p (List.mem_of_getElem? hp)
      obtain ⟨k, rfl⟩ : ∃ k : Nat, p = (k : Int) := ⟨p.toNat, by omega⟩
      have hl := oh.len
      have hk : k < holds.length := by omega
      have hx : holds[k]? = some holds[k] := List.getElem?_eq_getElem hk
      have e3 : holds.getD k 0 = holds[k] := getD_at hx
      obtain ⟨b1, b2, b3⟩ := take_sum_le oh k
      rw [e3] at b2 b3
      refine ⟨_, rfl, .inl ⟨rfl, _, .of g3⟩, _, rfl, _, rfl, (k : Int), rfl, slice_upto (s3.keep.tup hth) fun H5 t5 s5 h5 => ⟨t5, holds.take k, rfl, .of (by rw [List.map_take]; exact h5), ?_⟩⟩
      refine ⟨_, rfl, _, rfl, _, _, rfl, rfl, ((k + 1 : Nat) : Int), rfl, slice_upto ((s3.trans s5).keep.tup hth) fun H6 t6 s6 h6 => ⟨t6, holds.take (k + 1), rfl, .of (by rw [List.map_take]; exact h6), ?_⟩⟩
      rw [take_succ_sum hk]
      refine ⟨_, _, rfl, rfl, .of_le b1 (by omega) (by omega) (by omega), fun r nr => ?_⟩
      have s56 := s5.trans s6
      have s7 := same_new (o := .lst (rgV (holds.take k).sum ((holds.take k).sum + holds[k]))) nr
      have g7 := s7 _ _ (s56 _ _ g3)
      have hnl := numsL_len oh (posts := ps.take i) (by rw [List.length_take]; omega) (fun p hp => hpb p (List.mem_of_mem_take hp))
      have e4 : rgV (holds.take k).sum ((holds.take k).sum + holds[k]) = (heldL holds (k : Int)).map V.int := by
        rw [rgV_int]
        unfold heldL
        rw [Int.toNat_natCast, e3]
        have e4 : ((holds.take k).sum + holds[k] - (holds.take k).sum).toNat = holds[k].toNat := by omega
        rw [e4]
      refine ⟨fo, r, _, _, rfl, rfl, g7, upd_same, ?_, ?_⟩
      · rw [e4, List.length_map, List.length_map]
        have : (heldL holds (k : Int)).length ≤ 60 := by
          unfold heldL
          rw [List.length_map, List.length_range, Int.toNat_natCast, e3]
          omega
        exact Nat.le_trans (by omega : _ ≤ 300) (by decide)
      · refine ⟨same_own ((s3.trans s56).trans s7) hfo, ?_, ?_, _, rfl⟩
        · rw [upd_ne hne]
          exact s7 _ _ (s56 _ _ h3)
        · rw [upd_same, e4, List.take_succ, hp, numsL_app, List.map_append]
          simp [numsL]
    · rintro σ H3 ⟨s3, h3, g3, y, rfl⟩
      rw [List.length_map, List.take_length] at g3
      exact ⟨_, rfl, q _ fo s3 hfo g3⟩
def spLBlock : Sp := fun vs H Q _ => ∃ (v u : V) (S : SD) (z : Int × Int) (n : Nat), vs = [v, u] ∧ rSpec H v S ∧ rPI H u z ∧ SheetOk S n ∧ WayOk S n z ∧
  ∀ H' r xs near far, Same H H' → H' r = some (.lst xs) → Paired (rRow H') xs (blockL S near far) → Up near → near.Nodup → (∀ x, x ∈ near ↔ Rch S.ties (some z.2) z.1 x) → Up far → far.Nodup → (∀ x, x ∈ far ↔ Rch S.ties (some z.1) z.2 x) → Q (.ref r) H'
theorem ok_lblock (T : Tx K mg cT cS) {f : Addr} {fd : FuncData} (d : D K mg "_law_block" s_law_block ["spec", "way"] f fd) : FnOk P w K mg base CX0 3 f fd ["spec", "way"] spLBlock := by
  obtain ⟨f1, fd1, d1⟩ := T.d_law_side
  have G1 := ok_side (P := P) (w := w) (base := base) T d1
  obtain ⟨f2, fd2, d2⟩ := T.d_law_numbers_of
  have G2 := ok_numsOf (P := P) (w := w) (base := base) T d2
  refine d.F.ok sc_law_block (fun vs H Q E h => ?_) (fun cdv A outer s H vs Q E hr h => ?_)
  · obtain ⟨v, u, S, z, n, rfl, _⟩ := h
    rfl
  · obtain ⟨v, u, S, z, n, rfl, hS, hz, ok, hw, q⟩ := h
    refine ⟨_, pss_cons (ps_set (i := 2) sc_law_block.nd rfl (.inr rfl) (pe_call G2 (hr.mono (by decide)) rfl d2.m d2.F.kp d2.b .nil pass0 (pa_cons (pe_ix ix_tup (pv 0) pe_int (fun _ _ => rfl)) (pa_cons (pe_call G1 (hr.mono (by decide)) rfl d1.m d1.F.kp d1.b .nil pass0 (pa_cons (pe_ix ix_tup (pv 0) pe_int (fun _ _ => rfl)) (pa_cons (pe_ix ix_tup (pv 1) pe_int (fun _ _ => rfl)) (pa_cons (pe_ix ix_tup (pv 1) pe_int (fun _ _ => rfl)) pa_nil)))) pa_nil))))
      (pss_cons (ps_set (i := 3) sc_law_block.nd rfl (.inl rfl) (pe_lst pa_nil))
      (pss_cons (ps_for PassesOwn.never rfl (pi_list (pe_call G1 (hr.mono (by decide)) rfl d1.m d1.F.kp d1.b .nil pass0 (pa_cons (pe_ix ix_tup (pv 0) pe_int (fun _ _ => rfl)) (pa_cons (pe_ix ix_tup (pv 1) pe_int (fun _ _ => rfl)) (pa_cons (pe_ix ix_tup (pv 1) pe_int (fun _ _ => rfl)) pa_nil))))) (pg_name (i := 4) sc_law_block.nd rfl (.inl rfl))
        (pss_one (ps_expr (pe_bm PySem.F.plainAttrs_list PySem.F.slot_list_extend PySem.F.type_list_extend mt_extend (pv 3) (pa_cons (pe_lc (own := [("row", 6)]) (g := (gName 6)) (tt := tYes) rfl sc_law_block.nd (pi_tup (pe_ix ix_tup (pe_ix ix_tup (pv 0) pe_int (fun _ _ => rfl)) (pv 4) (fun _ _ => rfl))) (blkOk_by (N := N_law_block) (sc := defScope s_law_block) (by decide +kernel)) (fun _ _ _ _ _ => (pg_name (i := 6) sc_law_block.nd rfl (Or.inr rfl))) (fun _ _ _ _ _ => pts_nil)
            (fun _ _ _ _ _ => (pe_callTy (tupS (K := K) rfl) (by rfl) T.b_tuple (by decide +kernel) (pa_cons (pe_lc (own := [("number", 5)]) (g := (gName 5)) (tt := tYes) rfl sc_law_block.nd (piLK rfl (pi_list (pv 2))) (blkOk_by (N := N_law_block) (sc := scBk) (own := [("number", 5)]) (by decide +kernel)) (fun _ _ _ _ _ => (pg_name (i := 5) sc_law_block.nd rfl (Or.inl rfl))) (fun _ _ _ _ _ => pts_nil)
            (fun _ _ _ _ _ => (pe_ix (ixT (K := K) rfl) (pv 6) (pv 5) (fun _ _ => rfl)))) pa_nil)))) pa_nil)))))
      (pss_one (ps_ret (pv 3))))), ?_⟩
    obtain ⟨t, tt, th, tw, rfl, ht, htt, hth, htw⟩ := id hS
    obtain ⟨ta, xs, rfl, hta, hxs⟩ := id htw
    obtain ⟨tz, rfl, htz⟩ := id hz
    have hn24 := ok.ties.n24
    have hnl := ok.ties.len
    have hne : ∀ y ∈ S.ties, y.1 ≠ y.2 := fun y hy => by have := ok.ties.b0 y hy; omega
    have hr64 : (rng n).length < 64 := by rw [rng_len]; omega
    have inn : ∀ {st bar : Int} {ns : List Int}, st ∈ rng n → ns.Nodup → (∀ x, x ∈ ns ↔ Rch S.ties (some bar) st x) → ns.length ≤ 24 ∧ ∀ x ∈ ns, 0 ≤ x ∧ x < (n : Int) := fun hs hnd hm => by
      have hin : ∀ x ∈ _, x ∈ rng n := fun x hx => ((hm x).mp hx).inV ok.ties.shut hs
      have h := nodup_len hnd hin
      rw [rng_len] at h
      exact ⟨by omega, fun x hx => rng_mem.mp (hin x hx)⟩
    have m1 : z.1 ∈ rng n := rng_mem.mpr ⟨hw.a0, hw.a1⟩
    have m2 : z.2 ∈ rng n := rng_mem.mpr ⟨hw.b0, hw.b1⟩
    refine ⟨_, rfl, t, _, _, _, rfl, rfl, .of ht, at_of (j := 2) rfl rfl, _, rfl, t, _, _, _, rfl, rfl, .of ht, at_of (j := 1) rfl rfl, _, rfl, tz, _, _, _, rfl, rfl, .of htz, at_of (j := 0) rfl rfl, _, rfl, tz, _, _, _, rfl, rfl, .of htz, at_of (j := 1) rfl rfl, tt, S.ties, z.1, z.2, rng n, rfl, htt, by omega, hne, ok.ties.shut, m1, hr64, fun H1 r1 near s1 nr1 hr1 hup hnd hmem => ?_⟩
    obtain ⟨nl24, nin⟩ := inn m1 hnd hmem
    refine ⟨th, r1, S.holds, near, n, rfl, mono_row _ _ _ _ s1.keep hth, ok.holds, hn24, hr1, nl24, nin, fun H2 r2 s2 nr2 hr2 => ?_⟩
    have t2 := s1.trans s2
    have hnums := numsL_len ok.holds nl24 nin
    have hnin : ∀ i ∈ numsL S.holds near, 0 ≤ i ∧ i < S.holds.sum := fun i hi => by
      obtain ⟨q, hq, hi⟩ := List.mem_flatMap.mp hi
      exact held_lt ok.holds hi
    generalize hNU : numsL S.holds near = NU at *
    dsimp only [gName, tSeq]
    refine ⟨by show 0 ≤ sizeLine; decide, fun fo nfo => ?_⟩
    have s3 := same_new (o := .lst []) nfo
    have hfo3 := upd_same (H := H2) (a := fo) (o := .lst [])
    have hr3 := s3 _ _ hr2
    have nfo0 := t2.free nfo
    have r2fo : r2 ≠ fo := ne_of_none hr2 nfo
    generalize upd H2 fo (.lst []) = H3 at *
    have t3 := t2.trans s3
    dsimp only [gName, tSeq]
    refine ⟨_, rfl, t, _, _, _, rfl, rfl, .of (t3 _ _ ht), at_of (j := 1) rfl rfl, _, rfl, tz, _, _, _, rfl, rfl, .of (t3 _ _ htz), at_of (j := 1) rfl rfl, _, rfl, tz, _, _, _, rfl, rfl, .of (t3 _ _ htz), at_of (j := 0) rfl rfl, tt, S.ties, z.2, z.1, rng n, rfl, mono_tup mono_pi _ _ _ _ t3.keep htt, by omega, hne, ok.ties.shut, m2, hr64, fun H4 r4 far s4 nr4 hr4 hup4 hnd4 hmem4 => ⟨r4, rfl, ⟨_, .of hr4⟩, ?_⟩⟩
    obtain ⟨fl24, fin⟩ := inn m2 hnd4 hmem4
    have t4 := t3.trans s4
    have r4fo : r4 ≠ fo := fun e => by rw [e, hfo3] at nr4; cases nr4
    have lxs := paired_len hxs
    have hwl := ok.wants.len
    let G : Int → List (List Int) := fun post => (S.wants.getD post.toNat []).map fun r => cutL r NU
    have h8 : ∀ q, (S.wants.getD q []).length ≤ 8 ∧ ∀ r ∈ S.wants.getD q [], isRow r S.p S.holds.sum := fun q => by
      rw [List.getD_eq_getElem?_getD]
      cases h : S.wants[q]? with
      | none => exact ⟨Nat.zero_le _, fun _ h => nomatch h⟩
      | some own => exact ok.wants.b own (List.mem_of_getElem? h)
    refine for_it (walk_list (xs := far.map V.int)) (fun i σ H' => ∃ x4 ys, σ = [some (.ref t), some (.ref tz), some (.ref r2), some (.ref fo), x4, none, none] ∧ Same H H' ∧ H' r4 = some (.lst (far.map V.int)) ∧ H' r2 = some (.lst (NU.map V.int)) ∧ H' fo = some (.lst ys) ∧ Paired (rRow H') ys ((far.take i).flatMap G))
      ⟨none, [], rfl, t4, hr4, s4 _ _ hr3, s4 _ _ hfo3, .nil⟩ (fun i σ H' _ h => by obtain ⟨_, _, _, _, h, _⟩ := h; exact .of h) ?_ ?_
    · rintro i x σ H5 H6 hi ⟨x4, ys, rfl, s5, hr45, hr25, hfo5, hp5⟩ ⟨rfl, hx⟩
      obtain ⟨post, hpost, rfl⟩ := at_int hx
      obtain ⟨p0, p1⟩ := fin post (List.mem_of_getElem? hpost)
      obtain ⟨k, rfl⟩ : ∃ k : Nat, post = (k : Int) := ⟨post.toNat, by omega⟩
      have hwk : S.wants[k]? = some (S.wants[k]'(by omega)) := List.getElem?_eq_getElem (by omega)
      generalize S.wants[k]'(by omega) = own at hwk
      obtain ⟨x0, hx0, to, xo, rfl, hto, hpo⟩ := paired_get2 (paired_mono (mono_tup mono_row) s5.keep hxs) hwk
      have hgo : S.wants.getD k [] = own := getD_at hwk
      obtain ⟨o8, orow⟩ := h8 k
      rw [hgo] at o8 orow
      have hlo := paired_len hpo
      have lys := paired_len hp5
      have hfl : ((far.take i).flatMap G).length ≤ 8 * 24 := by
        have h : ∀ l : List Int, (l.flatMap G).length ≤ 8 * l.length := fun l => by
          induction l with
          | nil => simp
          | cons a l ih =>
            have : (G a).length ≤ 8 := by show (List.map _ _).length ≤ 8; rw [List.length_map]; exact (h8 _).1
            rw [List.flatMap_cons, List.length_append, List.length_cons, Nat.mul_succ]
            omega
        have h2 := h (far.take i)
        rw [List.length_take] at h2
        exact Nat.le_trans h2 (Nat.mul_le_mul_left 8 (by omega))
      dsimp only [gName]
      refine ⟨_, rfl, .inl ⟨rfl, _, .of hfo5⟩, _, rfl, t, _, _, _, rfl, rfl, .of (s5 _ _ ht), at_of (j := 3) rfl rfl, _, rfl, ta, _, _, _, rfl, rfl, .of (s5 _ _ hta), atI_nat hx0, to, rfl, ⟨_, .of hto⟩, fun D hD => ?_⟩
      have Dfo : D ≠ fo := fun e => by rw [e, hfo5] at hD; cases hD
      refine lc_fm (walk_tup (xs := xo)) rRow (fun i => own[i]?.bind fun r => some (cutL r NU)) hD (fun H' s' => .of (s' _ _ hto)) ?_ ?_
      · rintro j x H7 H8 hj pv ⟨rfl, hx⟩
        obtain ⟨r, hrj, tr, rfl, htr⟩ := paired_get (paired_mono mono_row pv.1.keep hpo) hx
        have hrr := orow r (List.mem_of_getElem? hrj)
        have hr27 := pv.1 _ _ hr25
        refine ⟨rfl, _, rfl, r2, rfl, ⟨_, .of hr27⟩, fun D2 hD2 => ?_⟩
        refine lc_fm (walk_list (xs := NU.map V.int)) rInt (fun i => NU[i]?.bind fun x => some (r.getD x.toNat 0)) hD2 (fun H' s' => .of (s' _ _ hr27)) ?_ ?_
        · rintro l x H9 H10 hl pw ⟨rfl, hx⟩
          obtain ⟨y, hy, rfl⟩ := at_int hx
          obtain ⟨y0, y1⟩ := hnin y (List.mem_of_getElem? hy)
          obtain ⟨m, rfl⟩ : ∃ m : Nat, y = (m : Int) := ⟨y.toNat, by omega⟩
          have hrl := hrr.1
          have hrm : r[m]? = some (r[m]'(by omega)) := List.getElem?_eq_getElem (by omega)
          refine ⟨rfl, _, rfl, _, rfl, tr, _, _, _, rfl, rfl, .of (pw.1 _ _ htr), atI_nat (int_at hrm), ?_⟩
          exact fm_keep mono_int pw hD2 (by rw [List.length_map] at hl; omega) (.refl _) (by rw [hy]; rfl) (by rw [Int.toNat_natCast, getD_at hrm]; rfl)
        intro H9 zs s9 hD9 hp9
        rw [List.length_map, fm_some] at hp9
        have := paired_int hp9
        subst this
        refine ⟨D2, _, rfl, .inl ⟨.of hD9, fun tq ntq => ?_⟩⟩
        exact fm_keep mono_row pv hD (by omega) (s9.trans (same_new ntq)) (by rw [hrj]; rfl) ⟨tq, rfl, upd_same⟩
      intro H7 zs s7 hD7 hp7
      rw [hlo, fm_some] at hp7
      have lzs := paired_len hp7
      rw [List.length_map] at lzs
      have hfo7 := s7 _ _ hfo5
      have kA : Keep H7 (upd H7 fo (.lst (ys ++ zs))) := keep_lst hfo7
      refine ⟨fo, D, _, _, rfl, rfl, hfo7, hD7, Nat.le_trans (show ys.length + zs.length ≤ 300 by omega) (by decide), ?_⟩
      refine ⟨_, ys ++ zs, rfl, same_own (s5.trans s7) nfo0, by rw [upd_ne r4fo]; exact s7 _ _ hr45, by rw [upd_ne r2fo]; exact s7 _ _ hr25, upd_same, ?_⟩
      rw [List.take_succ, hpost, List.flatMap_append]
      refine paired_app (paired_mono mono_row (s7.keep.trans kA) hp5) ?_
      rw [show (some ((k : Nat) : Int)).toList.flatMap G = own.map fun r => cutL r NU by show G ((k : Nat) : Int) ++ [] = _; rw [List.append_nil]; show (S.wants.getD ((k : Nat) : Int).toNat []).map _ = _; rw [Int.toNat_natCast, hgo]]
      exact paired_mono mono_row kA hp7
    · rintro σ H5 ⟨x4, ys, rfl, s5, hr45, hr25, hfo5, hp5⟩
      rw [List.length_map, List.take_length] at hp5
      refine ⟨_, rfl, q _ fo ys near far s5 hfo5 ?_ hup hnd hmem hup4 hnd4 hmem4⟩
      rw [blockL_flat, hNU]
      exact hp5
end
end S4

/-! dicts with tuples for keys: the comprehension -/
namespace TT
open PySem PySem.Spec PyProof.Rows L2
theorem d_dictSetT {X : Cx} {pins : List (Addr × Obj)} {σ : L2.St} {H : Hp} {s : Shared} {E : Value → Shared → Prop} {D b : Addr} {kvs : List (List L2.Key × V)} {k : List L2.Key} {v : V} {u r : Value} {Q : Unit → Shared → Prop}
    (hu : (tupleKind (mixKind X.prog X.w)).room X.A) (I : L2.Inv X pins σ H s) (e : H D = some (.dT kvs)) (eb : H b = some (.tup (k.map kV))) (l : kvs.length < sizeLine) (ry : RelV (.ref b) u) (rv : RelV v r)
    (h : ∀ s', L2.Inv X pins σ (upd H D (.dT (putK kvs k v))) s' → Q () s') : wpAny (model X.prog X.w) X.A (dictSet D u r) Q E s := by
  obtain rfl : u = Value.ref b := ry
  obtain ⟨z, hd, xs, rel, dd⟩ := dt_of I.hok e
  have hz : xs.length ≤ sizeLine := by rw [← rel.length]; exact z
  have hl : (putK kvs k v).length ≤ sizeLine := by have := length_putK kvs k v; omega
  refine wpAny_dictSet_heap hu (key_of I.hok eb) dd (fun h' dd' hs => h _ ?_) hz
  obtain ⟨q, es, ep, hq, h2, h3, h4, _, h5⟩ := dd'
  exact d_write I (by rw [e]; trivial) hs ⟨q, hq⟩ ⟨hl, hd, storedH xs k b r, (KT.put rel k eb rv).keeps fun c ys ec => by rw [upd_ne (ne_of ec e fun z => nomatch z)]; exact ec, q, es, ep, hq, h2, h3, h4, h5⟩
/-- what one entry asks -/
def PutT (H : Hp) (D : Addr) (y z : V) (Nx : Hp → Prop) : Prop := ∃ kvs k b, y = V.ref b ∧ H b = some (.tup (k.map kV)) ∧ H D = some (.dT kvs) ∧ kvs.length < sizeLine ∧ Nx (upd H D (.dT (putK kvs k z)))
def tDcT (wi : TI) (g : TG) (tt : TT) (tk tv : TE) (vs : List Nat) : TE := fun σ H Q => wi σ H fun J H1 => ∀ D : Addr, H1 D = none →
  ∃ W : Nat → Nat → Hp → Prop, (∃ m, W 0 m (upd H1 D (.dT []))) ∧ ∀ (i m : Nat) (H : Hp), W i m H → (J.stop i H ∧ Q (.ref D) H) ∨ (J.go i H ∧ ∃ Nx : Hp → Prop, (∀ H', Nx H' → ∃ m', m' < m ∧ W (i + 1) m' H') ∧
    ∀ x H', J.yld i H x H' → g x (wipe σ vs) H' fun σ2 H2 => wipe σ2 vs = wipe σ vs ∧ tt σ2 H2 fun b H3 => if b = true then tk σ2 H3 fun y H4 => tv σ2 H4 fun z H5 => PutT H5 D y z Nx else Nx H3)
theorem pe_dcT {X : Cx} {kx vx tg iter : Expr} {ifs : List Expr} {scope : Scope} {own : List (Str × Nat)} {pos : Pos} {wi : TI} {g : TG} {tt : L2.TT} {tk tv : TE} (hc : X.calm = true) (hu : (tupleKind (mixKind X.prog X.w)).room X.A) (hN : X.N.Nodup) (hi : PI X tg iter wi)
    (ok : BlkOk X.N X.env.scope scope own) (hg : ∀ (s : Shared) (H : Hp) (C : Addr) (cl : List (Str × Addr)) (fp : List Addr), PG (X.blk s H scope (compEnvC scope cl C X.env) fp) tg g)
    (ht : ∀ (s : Shared) (H : Hp) (C : Addr) (cl : List (Str × Addr)) (fp : List Addr), PTs (X.blk s H scope (compEnvC scope cl C X.env) fp) ifs tt)
    (hk : ∀ (s : Shared) (H : Hp) (C : Addr) (cl : List (Str × Addr)) (fp : List Addr), PE (X.blk s H scope (compEnvC scope cl C X.env) fp) kx tk)
    (he : ∀ (s : Shared) (H : Hp) (C : Addr) (cl : List (Str × Addr)) (fp : List Addr), PE (X.blk s H scope (compEnvC scope cl C X.env) fp) vx tv)
    (hs : ∀ x, foldedSetIterable iter X.env x = pure x := by intro x; rfl) : PE X (.DictComp kx vx [⟨tg, iter, ifs, 0⟩] scope pos) (tDcT wi g tt tk tv (own.map (·.2))) := by
  refine ⟨fun pins s σ H Q I h => ?_⟩
  rw [arm_eval_DictComp]
  have hfree : ∀ y : Str × NameKind, y ∈ scope.names → y.2 = NameKind.free → ∃ c, List.lookup y.1 X.env.cells = some c := fun y hy e => by
    rcases ok.free y hy e with k | k
    · exact I.ok.has y.1 (.inl k)
    · exact I.ok.has y.1 (.inr k)
  refine wpAny_comprehension_free rfl hs (closure_ok hfree) ok.kind (fun y hy e => by rw [ok.uniq y hy, e]) ?_
  refine thn (hi.run pins s σ H _ I h) fun xv s1 hx => thn hx fun itv s2 h2 => ?_
  obtain ⟨it, fp, tn, J, H2, e, I2, T, st2, f2, q⟩ := h2
  subst e
  refine wpAny_newObj_type (newEnv_comp ?_)
  have hDn : H2 s2.heap.objs.size = none := I2.hok.fresh (Nat.le_refl _)
  obtain ⟨W, ⟨m0, w0⟩, turn⟩ := q _ hDn
  have I3 : L2.Inv X pins σ (upd H2 s2.heap.objs.size (.dT [])) { s2 with heap := s2.heap.push { cls := Value.type "dict", data := Data.dict #[] } } :=
    Inv.laid (t' := s2.toks) I2 (fun b o e => Heap.get?_push_of_some { cls := Value.type "dict", data := Data.dict #[] } e) (Nat.le_refl _) (dt_empty s2.heap I2.big)
  have sz : ∀ b ∈ fp, b < s2.heap.objs.size := fun b hb => by
    obtain ⟨o, e, _⟩ := T.obj 0 s2.heap st2 b hb
    exact Heap.lt_size e
  have st3 : tn 0 (s2.heap.push { cls := Value.type "dict", data := Data.dict #[] }) := T.keep 0 s2.heap _ st2 fun b x o e => Heap.get?_push_of_some _ e
  have hsz : s2.heap.objs.size < (s2.heap.push { cls := Value.type "dict", data := Data.dict #[] }).objs.size := by rw [Heap.size_push]; exact Nat.lt_succ_self _
  have f3 : ∀ b ∈ fp, FpOk X pins (upd H2 s2.heap.objs.size (.dT [])) b ∧ b < (s2.heap.push { cls := Value.type "dict", data := Data.dict #[] }).objs.size := fun b hb =>
    ⟨⟨by rw [upd_ne (Nat.ne_of_lt (sz b hb))]; exact (f2 b hb).1, (f2 b hb).2⟩, Nat.lt_trans (sz b hb) hsz⟩
  generalize hD : s2.heap.objs.size = D at *
  generalize hS : ({ s2 with heap := s2.heap.push { cls := Value.type "dict", data := Data.dict #[] } } : Shared) = S3 at *
  have hS' : s2.heap.push { cls := Value.type "dict", data := Data.dict #[] } = S3.heap := by rw [← hS]
  rw [hS'] at st3 hsz f3
  have I4 := block_start I3 ok hN f3
  have pg := hg S3 (upd H2 D (.dT [])) S3.heap.objs.size (cellsFrom (S3.heap.objs.size + 1) scope.names (cloFrom X.env.cells scope.names [])) fp
  have pt := ht S3 (upd H2 D (.dT [])) S3.heap.objs.size (cellsFrom (S3.heap.objs.size + 1) scope.names (cloFrom X.env.cells scope.names [])) fp
  have pk := hk S3 (upd H2 D (.dT [])) S3.heap.objs.size (cellsFrom (S3.heap.objs.size + 1) scope.names (cloFrom X.env.cells scope.names [])) fp
  have pe := he S3 (upd H2 D (.dT [])) S3.heap.objs.size (cellsFrom (S3.heap.objs.size + 1) scope.names (cloFrom X.env.cells scope.names [])) fp
  have st4 : tn 0 (pushCells (S3.heap.push { cls := Value.type "dict", data := Data.dict #[] }) scope.names) := T.keep 0 _ _ st3 fun b x o e => pushCells_keeps _ _ _ _ (Heap.get?_push_of_some _ e)
  suffices key : codeAny (model X.prog X.w) X.A (.compLoop (.DictComp kx vx [⟨tg, iter, ifs, 0⟩] scope pos) 0 (.ref it) (.ref D) (compEnvC scope (cellsFrom (S3.heap.objs.size + 1) scope.names (cloFrom X.env.cells scope.names [])) S3.heap.objs.size X.env))
      (compPost (model X.prog X.w) X.A X.xe none (EP X pins σ Q) (.ref D) (compEnvC scope (cellsFrom (S3.heap.objs.size + 1) scope.names (cloFrom X.env.cells scope.names [])) S3.heap.objs.size X.env).locals)
      { S3 with heap := pushCells (S3.heap.push { cls := Value.type "dict", data := Data.dict #[] }) scope.names } by exact codeAny_compStart_dict key (T.self X.A 0 _ _ _ st4 key)
  have cL : (compEnvC scope (cellsFrom (S3.heap.objs.size + 1) scope.names (cloFrom X.env.cells scope.names [])) S3.heap.objs.size X.env).locals = S3.heap.objs.size := rfl
  generalize hce : compEnvC scope (cellsFrom (S3.heap.objs.size + 1) scope.names (cloFrom X.env.cells scope.names [])) S3.heap.objs.size X.env = ce at *
  have nfp : ∀ b ∈ fp, (upd H2 D (.dT [])) b = none := fun b hb => (f3 b hb).1.1
  have stat : ∀ {σ' : L2.St} {H' : Hp} {s' : Shared}, L2.Inv (X.blk S3 (upd H2 D (.dT [])) scope ce fp) [] σ' H' s' → (∀ b ∈ fp, H' b = none) → ∀ b ∈ fp, FpOk (X.blk S3 (upd H2 D (.dT [])) scope ce fp) [] H' b :=
    fun I' hn b hb => ⟨hn b hb, (I'.ok.exf b hb).1, I'.ok.exfs b hb, .inl hb, fun x c e => (I'.ok.exf b hb).2 x c e, fun p hp => absurd (show p ∈ ([] ++ [] : List (Addr × Obj)) from hp) (by simp)⟩
  have eL : ce.locals = (X.blk S3 (upd H2 D (.dT [])) scope ce fp).env.locals := rfl
  refine compLoop_anyD (fun n s' => ∃ i H', L2.Inv (X.blk S3 (upd H2 D (.dT [])) scope ce fp) [] (wipe σ (own.map (·.2))) H' s' ∧ tn i s'.heap ∧ (∀ b ∈ fp, H' b = none) ∧ W i n H') ?_ m0 ⟨0, _, I4, st4, nfp, w0⟩
  rintro n s5 ⟨i, H5, I5, st5, n5, w5⟩
  rcases turn i n H5 w5 with ⟨stop, qq⟩ | ⟨go, Nx, hNx, step⟩
  · refine thnF (T.done (X.blk S3 (upd H2 D (.dT [])) scope ce fp) rfl rfl rfl hc i [] s5 _ H5 (fun _ _ => False) I5 (stat I5 n5) st5 stop) fun r s6 x => ?_
    obtain ⟨rfl, I6⟩ := x
    have I7 : L2.Inv X pins σ H5 s6 := I3.call' I6.os I6.base I6.hok I6.bare fun b hb => ⟨(f3 b hb).1.2.2.2.1, (f3 b hb).1.2.1, (f3 b hb).1.2.2.2.2.1, (f3 b hb).1.2.2.2.2.2⟩
    obtain ⟨m, hn, _⟩ := I6.loc
    have nC : H5 S3.heap.objs.size = none := by
      have z : H5 ce.locals = none := I6.free
      rw [cL] at z
      exact z
    have hn : s6.heap.Ns ce.locals m := hn
    have fC := I3.fpOk (Nat.le_refl _) nC
    refine ⟨m, hn, fun h' sb => ⟨.ref D, H5, ?_, rfl, qq⟩⟩
    rw [cL] at sb
    exact I7.turned (t' := s6.toks) (fun b o hb e => (sb.2 b hb).trans e) fC.1 fC.2.1 fC.2.2.2.1 fC.2.2.2.2.1 fC.2.2.2.2.2
  · refine thnF (T.item (X.blk S3 (upd H2 D (.dT [])) scope ce fp) rfl rfl rfl hc i [] s5 _ H5 (fun _ _ => False) I5 (stat I5 n5) st5 go) fun r s6 x => ?_
    obtain ⟨u, rfl, h6⟩ := x
    refine thnF h6 fun _ s7 x7 => ?_
    obtain ⟨x, H7, I7, r7, y7, st7, n7⟩ := x7
    have I7' := I7.pinned (stat I7 n7) (T.obj (i + 1) s7.heap st7)
    have fin : ∀ {s' : Shared} {σ8 : L2.St} {H' : Hp}, wipe σ8 (own.map (·.2)) = wipe σ (own.map (·.2)) → L2.Inv (X.blk S3 (upd H2 D (.dT [])) scope ce fp) ([] ++ pinsAt fp s7.heap) σ8 H' s' → Nx H' →
        ∃ m', m' < n ∧ ∃ i H', L2.Inv (X.blk S3 (upd H2 D (.dT [])) scope ce fp) [] (wipe σ (own.map (·.2))) H' s' ∧ tn i s'.heap ∧ (∀ b ∈ fp, H' b = none) ∧ W i m' H' := by
      intro s' σ8 H' hw8 I' nx
      obtain ⟨m', hm, w'⟩ := hNx H' nx
      have pin' : ∀ b ∈ fp, ∀ o, s7.heap.get? b = some o → s'.heap.get? b = some o ∧ H' b = none := fun b hb o e => by
        have z := I'.pin (b, o) (List.mem_append_right _ (List.mem_append_right [] (mem_pinsAt hb e)))
        exact ⟨z.1, z.2.1⟩
      have hl : (wipe σ (own.map (·.2))).length = σ8.length := by rw [← hw8, wipe_length]
      refine ⟨m', hm, i + 1, H', (I'.unpinned).weak hl fun j v e => ?_, T.keep (i + 1) s7.heap s'.heap st7 fun b hb o e => (pin' b hb o e).1, fun b hb => ?_, w'⟩
      · rw [← hw8] at e
        exact (wipe_some e).1
      · obtain ⟨o, e, _⟩ := T.obj (i + 1) s7.heap st7 b hb
        exact (pin' b hb o e).2
    refine thnF (pg.run ([] ++ pinsAt fp s7.heap) s7 _ H7 x u _ I7' r7 (step x H7 y7)) fun _ s8 x8 => ?_
    obtain ⟨σ8, H8, I8, hw8, q8⟩ := x8
    refine thnF (pt.run _ s8 σ8 H8 _ I8 q8) fun b s9 x9 => ?_
    obtain ⟨H9, I9, q9⟩ := x9
    cases b with
    | false => exact fin hw8 I9 q9
    | true =>
      refine thnF (pk.run _ s9 σ8 H9 _ I9 q9) fun ku s10 x10 => ?_
      obtain ⟨yk, H10, I10, r10, q10⟩ := x10
      refine thnF (pe.run _ s10 σ8 H10 _ I10 q10) fun vu s11 x11 => ?_
      obtain ⟨yv, H11, I11, r11, kvs, k, b, rfl, hb, hD11, hz11, nx⟩ := x11
      exact d_dictSetT (X := X.blk S3 (upd H2 D (.dT [])) scope ce fp) hu I11 hD11 hb hz11 r10 r11 fun s12 I12 => fin hw8 I12 nx
end TT

/-! dicts with tuples for keys: dict(pairs), clear -/
namespace TT
open PySem PySem.Spec PyProof.Rows L2
theorem dt_new {P : Program} {w : World} {H : Hp} {h : Heap} {a : Addr} {kvs : List (List L2.Key × V)} {xs : List (List L2.Key × Addr × Value)} (hl : kvs.length ≤ sizeLine) (hd : (a == sysModules) = false) (k : KT H kvs xs) (d : Heap.DictOfH (tupleKind (mixKind P w)) h a xs) : ObjOk P w H h a (.dT kvs) := by
  obtain ⟨q, es, ep, hq, h2, h3, h4, _, h5⟩ := d
  exact ⟨hl, hd, xs, k, q, es, ep, hq, h2, h3, h4, h5⟩
def rClearT : V → List V → Hp → VK → Prop := fun x vs H Q => ∃ (a : Addr) (kvs : List (List L2.Key × V)), x = .ref a ∧ vs = [] ∧ H a = some (.dT kvs) ∧ Q .non (upd H a (.dT []))
theorem mt_clearT {X : Cx} : MtR X "dict.clear" rClearT := by
  intro pins s σ H x xs v us Q I rx rxs h
  obtain ⟨a, kvs, rfl, rfl, ha, q⟩ := h
  cases rx
  cases rxs
  obtain ⟨z, hd, ys, rel, dd⟩ := dt_of I.hok ha
  refine clear_keyed (knd := tupleKind (mixKind X.prog X.w)) ⟨ys, dd, rfl⟩ (fun h' dk hs => ?_) ?_
  · obtain ⟨zs, dz, ez⟩ := dk
    have : zs = [] := by
      cases zs with
      | nil => rfl
      | cons a l => cases ez
    subst this
    obtain ⟨o, es, ep, ho, _⟩ := id dz
    exact ⟨.non, _, d_write (t' := s.toks) I (by rw [ha]; trivial) hs ⟨o, ho⟩ (dt_new (Nat.zero_le _) hd .nil dz), rfl, q⟩
  · show (pairsH ys).length ≤ sizeLine
    unfold pairsH
    rw [List.length_map, ← rel.length]
    exact z
/-! dict(pairs) -/
abbrev KA := List L2.Key × Addr
def mergeT (acc : List (List L2.Key × V)) (more : List (KA × V)) : List (List L2.Key × V) := more.foldl (fun acc kv => putK acc kv.1.1 kv.2) acc
def rDictPT (K : PySem.W.Frag) : List V → Hp → VK → Prop := fun xs H Q => ∃ (a : Addr) (ps : List Addr) (kvs : List (KA × V)), xs = [.ref a] ∧ SqL K H a (ps.map V.ref) ∧ Paired (fun p kv => SqT K H p [.ref kv.1.2, kv.2] ∧ H kv.1.2 = some (.tup (kv.1.1.map kV))) ps kvs ∧
  ∀ p, H p = none → Q (.ref p) (upd H p (.dT (mergeT [] kvs)))
def TrH (H : Hp) (kv : KA × V) (q : List L2.Key × Addr × Value) : Prop := q.1 = kv.1.1 ∧ q.2.1 = kv.1.2 ∧ RelV kv.2 q.2.2 ∧ H kv.1.2 = some (.tup (kv.1.1.map kV))
theorem pairs_are {X : Cx} {pins : List (Addr × Obj)} {σ : L2.St} {H : Hp} {s : Shared} (I : L2.Inv X pins σ H s) : ∀ {ps : List Addr} {kvs : List (KA × V)}, Paired (fun p kv => SqT X.K H p [.ref kv.1.2, kv.2] ∧ H kv.1.2 = some (.tup (kv.1.1.map kV))) ps kvs →
    ∃ xs : List (List L2.Key × Addr × Value), Paired (TrH H) kvs xs ∧ Paired (fun p q => s.heap.IsTuple p #[.ref q.2.1, q.2.2]) ps xs
  | _, _, .nil => ⟨[], .nil, .nil⟩
  | p :: ps, kv :: kvs, .cons ⟨r, e⟩ t => by
    obtain ⟨xs, h1, h2⟩ := pairs_are I t
    obtain ⟨its, rv, ht, _⟩ := I.tuple r
    cases rv with
    | cons r1 rv =>
      cases rv with
      | cons r2 rv =>
        cases rv
        cases r1
        exact ⟨(kv.1.1, kv.1.2, _) :: xs, .cons ⟨rfl, rfl, r2, e⟩ h1, .cons ht h2⟩
theorem kt_merge {H : Hp} : ∀ {kvs : List (KA × V)} {xs : List (List L2.Key × Addr × Value)} {acc : List (List L2.Key × V)} {ys : List (List L2.Key × Addr × Value)}, Paired (TrH H) kvs xs → KT H acc ys → KT H (mergeT acc kvs) (storedAllH ys xs)
  | _, _, _, _, .nil, k => k
  | kv :: kvs, q :: xs, acc, ys, .cons ⟨e1, e2, r, e⟩ t, k => by
    obtain ⟨q1, q2, q3⟩ := q
    simp only at e1 e2 r
    subst e1 e2
    show KT H (mergeT (putK acc kv.1.1 kv.2) kvs) (storedAllH (storedH ys kv.1.1 kv.1.2 q3) xs)
    exact kt_merge t (KT.put k kv.1.1 e r)
theorem merge_len {acc : List (List L2.Key × V)} : ∀ {kvs : List (KA × V)}, (mergeT acc kvs).length ≤ acc.length + kvs.length := by
  intro kvs
  induction kvs generalizing acc with
  | nil => exact Nat.le_refl _
  | cons kv kvs ih =>
    have h1 := ih (acc := putK acc kv.1.1 kv.2)
    have h2 := length_putK acc kv.1.1 kv.2
    show (mergeT (putK acc kv.1.1 kv.2) kvs).length ≤ _
    rw [List.length_cons]
    omega
theorem paired_atR {α β : Type} {F : α → β → Prop} : ∀ {xs : List α} {l : List β} {i : Nat} {y : β}, Paired F xs l → l[i]? = some y → ∃ x, xs[i]? = some x ∧ F x y
  | _, _, _, _, .nil, h => by simp at h
  | _, _, 0, _, .cons r t, h => by cases h; exact ⟨_, rfl, r⟩
  | _, _, n + 1, _, .cons r t, h => by
    rw [List.getElem?_cons_succ] at h
    obtain ⟨x, e, f⟩ := paired_atR t h
    exact ⟨x, by rw [List.getElem?_cons_succ]; exact e, f⟩
theorem call_dictPT {X : Cx} (hc : X.calm = true) (hu : X.A.units + 2 < cLine) : CallR X (.type "dict") (rDictPT X.K) := by
  intro pins s σ H xs us Q I r h
  obtain ⟨a, ps, kvs, rfl, hl, hp, q⟩ := h
  obtain ⟨u, rfl, ru⟩ := r.one
  cases ru
  obtain ⟨its, rv, pl, hlen⟩ := I.list hl
  obtain ⟨qs, hq, ht⟩ := pairs_are I hp
  have e1 : ps.length = qs.length := ht.length
  have e2 : kvs.length = qs.length := hq.length
  have e3 : ps.length = its.length := by rw [← rv.length, List.length_map]
  rw [List.length_map] at hlen
  have hits : ∀ (j : Nat) (p : Addr), ps[j]? = some p → its[j]? = some (Value.ref p) := fun j p hj => by
    obtain ⟨u, hu, ru⟩ := rv.get (show (ps.map V.ref)[j]? = some (V.ref p) by rw [List.getElem?_map, hj]; rfl)
    have : u = Value.ref p := ru
    subst this
    exact hu
  have hk : ∀ x ∈ qs, (tupleKind (mixKind X.prog X.w)).is s.heap x.1 x.2.1 := fun x hx => by
    obtain ⟨j, hj⟩ := List.getElem?_of_mem hx
    obtain ⟨kv, _, e, f, _, g⟩ := paired_atR hq hj
    rw [e, f]
    exact key_of I.hok g
  refine call_dict_pairsH (knd := tupleKind (mixKind X.prog X.w)) (ps := qs) (PairArg.list a its.toArray (fun j => (ps[j]?).getD 0) (qs.map fun q => (Value.ref q.2.1, q.2.2))) (I.ok.hd hc) ?_ ⟨?_, ?_, ?_⟩ ⟨?_, ?_⟩ ?_ ?_ ?_
  · show X.A.in1.in1.units < cLine
    show X.A.units + 1 + 1 < cLine
    omega
  · exact pl
  · rw [List.size_toArray, List.length_map]; omega
  · intro j k v hj
    rw [List.getElem?_map] at hj
    cases e : qs[j]? with
    | none => rw [e] at hj; cases hj
    | some x =>
      rw [e] at hj
      obtain ⟨rfl, rfl⟩ := Prod.mk.inj (Option.some.inj hj)
      obtain ⟨p, hp', hT⟩ := paired_atR ht e
      refine ⟨?_, .inl ?_⟩
      · show its.toArray[j]? = some (Value.ref ((ps[j]?).getD 0))
        rw [hp']
        show its.toArray[j]? = some (Value.ref p)
        rw [show its.toArray[j]? = its[j]? by simp]
        exact hits j p hp'
      · show s.heap.IsTuple ((ps[j]?).getD 0) _
        rw [hp']
        exact hT
  · rw [List.length_map]
  · intro i key v hi
    have hi : (qs.map fun q => (Value.ref q.2.1, q.2.2))[i]? = some (key, v) := hi
    rw [List.getElem?_map] at hi
    cases e : qs[i]? with
    | none => rw [e] at hi; cases hi
    | some x =>
      rw [e] at hi
      obtain ⟨rfl, rfl⟩ := Prod.mk.inj (Option.some.inj hi)
      exact ⟨x.1, x.2.1, rfl, rfl⟩
  · exact fun h' k x hx => tupleKind_stays.stays (fun b o vs n hb hd => k b o (Nat.ne_of_lt (Heap.lt_size hb)) (by simp) hb) (hk x hx)
  · rw [List.length_map]; omega
  · intro h' tk dd hs
    have nn : H s.heap.objs.size = none := I.hok.fresh (Nat.le_refl _)
    have hbig := I.big
    refine ⟨.ref s.heap.objs.size, _, I.laid (t' := tk) (fun b o e => hs b o (by simp) e) (Nat.le_refl _) (dt_new ?_ (beq_false_of_ne (Nat.ne_of_gt hbig)) ?_ dd), rfl, q _ nn⟩
    · have := merge_len (acc := []) (kvs := kvs)
      rw [List.length_nil, Nat.zero_add] at this
      omega
    · refine (kt_merge hq .nil).keeps fun c ys ec => ?_
      rw [upd_ne (ne_of_none ec nn)]
      exact ec
end TT

namespace S4
open PySem L2 TT MM EE
theorem rng_up (n : Nat) : (rng n).Pairwise (· < ·) := by
  unfold rng
  rw [List.pairwise_map]
  exact List.pairwise_lt_range.imp fun h => by omega
/-! ### the two sides, the rank, as data -/
open Classical in
noncomputable def nearOf (S : SD) (n : Nat) (z : Int × Int) : List Int := (rng n).filter fun x => decide (Rch S.ties (some z.2) z.1 x)
open Classical in
noncomputable def farOf (S : SD) (n : Nat) (z : Int × Int) : List Int := (rng n).filter fun x => decide (Rch S.ties (some z.1) z.2 x)
theorem near_of {S : SD} {n : Nat} {z : Int × Int} {near : List Int} (u : Up near) (nd : near.Nodup) (m : ∀ x, x ∈ near ↔ Rch S.ties (some z.2) z.1 x) (hin : ∀ x ∈ near, x ∈ rng n) : near = nearOf S n z := by
  classical
  refine up_nodup_same u ((List.Pairwise.filter _ (rng_up n)).imp fun h => by omega) nd (List.Pairwise.filter _ (rng_nodup n)) fun x => ?_
  unfold nearOf
  rw [List.mem_filter]
  exact ⟨fun h => ⟨hin x h, decide_eq_true ((m x).mp h)⟩, fun h => (m x).mpr (of_decide_eq_true h.2)⟩
theorem far_of {S : SD} {n : Nat} {z : Int × Int} {far : List Int} (u : Up far) (nd : far.Nodup) (m : ∀ x, x ∈ far ↔ Rch S.ties (some z.1) z.2 x) (hin : ∀ x ∈ far, x ∈ rng n) : far = farOf S n z := by
  classical
  refine up_nodup_same u ((List.Pairwise.filter _ (rng_up n)).imp fun h => by omega) nd (List.Pairwise.filter _ (rng_nodup n)) fun x => ?_
  unfold farOf
  rw [List.mem_filter]
  exact ⟨fun h => ⟨hin x h, decide_eq_true ((m x).mp h)⟩, fun h => (m x).mpr (of_decide_eq_true h.2)⟩
theorem Sides.eq {S : SD} {n : Nat} {z : Int × Int} {near far : List Int} (h : Sides S n z near far) : near = nearOf S n z ∧ far = farOf S n z := ⟨near_of h.nu h.nn h.nm h.ni, far_of h.fu h.fn h.fm h.fi⟩
noncomputable def rkZ (S : SD) (n : Nat) (z : Int × Int) : Nat := rk S.p (numsL S.holds (nearOf S n z)).length (blockL S (nearOf S n z) (farOf S n z))
theorem toll_is {S : SD} {n : Nat} {z : Int × Int} {near far : List Int} {k : Nat} (ok : SheetOk S n) (s : Sides S n z near far) (h : ∀ lad, IsLad S.p (numsL S.holds near).length (blockL S near far) lad → lad.length = k) : k = rkZ S n z := by
  obtain ⟨rfl, rfl⟩ := s.eq
  exact (h _ (lad_ex ok.clock.prm (block_rows ok s.ni s.fi))).symm.trans (rk_lad ok.clock.prm (lad_ex ok.clock.prm (block_rows ok s.ni s.fi)))
/-! ### tolls -/
def wayK (z : Int × Int) : List L2.Key := [.inl z.1, .inl z.2]
noncomputable def tollD (S : SD) (n : Nat) (m : List (Int × Int)) : List (List L2.Key × V) := m.map fun z => (wayK z, .int (rkZ S n z : Nat))
theorem hu0 {k : Nat} {A : Around} (r : Room k A) : A.units < cLine := by have := r.un; omega
theorem wayK_inj {a b : Int × Int} (h : wayK a = wayK b) : a = b := by
  unfold wayK at h
  injection h with h1 h2
  injection h2 with h2 _
  exact Prod.ext (Sum.inl.inj h1) (Sum.inl.inj h2)
theorem put_new {kvs : List (List L2.Key × V)} {k : List L2.Key} {v : V} (h : ∀ p ∈ kvs, p.1 ≠ k) : putK kvs k v = kvs ++ [(k, v)] := by
  unfold putK
  rw [if_neg]
  intro q
  obtain ⟨p, hp, e⟩ := List.any_eq_true.mp q
  exact h p hp (of_decide_eq_true e)
theorem way_ok {S : SD} {n : Nat} (ok : SheetOk S n) {m : List (Int × Int)} (hm : m.Perm (S.ties ++ flipAll S.ties)) {z : Int × Int} (hz : z ∈ m) : WayOk S n z := by
  have hz := hm.mem_iff.mp hz
  rcases List.mem_append.mp hz with h | h
  · have := ok.ties.b0 z h
    exact ⟨by omega, by omega, by omega, by omega, .inl h⟩
  · unfold flipAll at h
    obtain ⟨y, hy, rfl⟩ := List.mem_map.mp h
    have := ok.ties.b0 y hy
    exact ⟨by show 0 ≤ y.2; omega, by show 0 ≤ y.1; omega, by show y.2 < _; omega, by show y.1 < _; omega, .inr hy⟩
theorem ways_nodupT {ties : List (Int × Int)} {n : Nat} (ok : TiesOk ties n) {m : List (Int × Int)} (hm : m.Perm (ties ++ flipAll ties)) : m.Nodup := by
  have nt : ties.Nodup := ok.asc.imp fun h e => by
    subst e
    unfold lxLt at h
    omega
  refine hm.nodup_iff.mpr (List.nodup_append.mpr ⟨nt, ?_, fun a ha b hb e => ?_⟩)
  · unfold flipAll
    rw [List.nodup_iff_pairwise_ne, List.pairwise_map]
    exact (List.nodup_iff_pairwise_ne.mp nt).imp fun h e => h (by have := congrArg Prod.swap e; simpa using this)
  · subst e
    unfold flipAll at hb
    obtain ⟨y, hy, rfl⟩ := List.mem_map.mp hb
    have h1 := ok.b0 _ ha
    have h2 := ok.b0 _ hy
    have h3 : y.swap.1 = y.2 := rfl
    have h4 : y.swap.2 = y.1 := rfl
    omega
def rKV : Rp (KA × V) := fun H v kv => ∃ p, v = .ref p ∧ H p = some (.tup [.ref kv.1.2, kv.2]) ∧ H kv.1.2 = some (.tup (kv.1.1.map kV))
theorem mono_kv : Mono rKV := fun _ _ _ _ k ⟨p, e, h1, h2⟩ => ⟨p, e, k.tup h1, k.tup h2⟩
theorem kv_refs {K : PySem.W.Frag} {H : Hp} : ∀ {ys : List V} {kvs : List (KA × V)}, Paired (rKV H) ys kvs → ∃ ps : List Addr, ys = ps.map V.ref ∧ Paired (fun p kv => SqT K H p [.ref kv.1.2, kv.2] ∧ H kv.1.2 = some (.tup (kv.1.1.map kV))) ps kvs
  | _, _, .nil => ⟨[], rfl, .nil⟩
  | _, _, .cons ⟨p, e, h1, h2⟩ t => by
    obtain ⟨ps, rfl, hp⟩ := kv_refs (K := K) t
    subst e
    exact ⟨p :: ps, rfl, .cons ⟨.of h1, h2⟩ hp⟩
theorem pi_refs {H : Hp} : ∀ {xs : List V} {m : List (Int × Int)}, Paired (rPI H) xs m → ∃ ts : List Addr, xs = ts.map V.ref ∧ ts.length = m.length
  | _, _, .nil => ⟨[], rfl, rfl⟩
  | _, _, .cons ⟨p, e, h1⟩ t => by
    obtain ⟨ts, rfl, hl⟩ := pi_refs t
    subst e
    exact ⟨p :: ts, rfl, by rw [List.length_cons, List.length_cons, hl]⟩
theorem merge_toll {S : SD} {n : Nat} : ∀ {m pre : List (Int × Int)} {ts : List Addr}, (pre ++ m).Nodup → ts.length = m.length → mergeT (tollD S n pre) ((m.zip ts).map fun q => (((wayK q.1, q.2) : KA), V.int (rkZ S n q.1 : Nat))) = tollD S n (pre ++ m)
  | [], pre, ts, _, _ => by rw [List.append_nil]; rfl
  | z :: m, pre, [], _, hl => by simp at hl
  | z :: m, pre, t :: ts, nd, hl => by
    show mergeT (putK (tollD S n pre) (wayK z) (V.int (rkZ S n z : Nat))) ((m.zip ts).map _) = _
    rw [put_new fun p hp e => ?_]
    · have e : tollD S n pre ++ [(wayK z, V.int (rkZ S n z : Nat))] = tollD S n (pre ++ [z]) := by unfold tollD; rw [List.map_append]; rfl
      rw [e, merge_toll (pre := pre ++ [z]) (by rw [List.append_assoc]; exact nd) (by simpa using hl), List.append_assoc]
      rfl
    · obtain ⟨y, hy, rfl⟩ := List.mem_map.mp hp
      have := wayK_inj e
      subst this
      exact absurd rfl ((List.nodup_append.mp nd).2.2 y hy y (by simp))
theorem sides_of {S : SD} {n : Nat} {z : Int × Int} (ok : SheetOk S n) (W : WayOk S n z) {near far : List Int} (nu : Up near) (nn : near.Nodup) (nm : ∀ x, x ∈ near ↔ Rch S.ties (some z.2) z.1 x) (fu : Up far) (fn : far.Nodup) (fm : ∀ x, x ∈ far ↔ Rch S.ties (some z.1) z.2 x) : Sides S n z near far :=
  ⟨nu, nn, nm, fu, fn, fm, fun x hx => ((nm x).mp hx).inV ok.ties.shut (rng_mem.mpr ⟨W.a0, W.a1⟩), fun x hx => ((fm x).mp hx).inV ok.ties.shut (rng_mem.mpr ⟨W.b0, W.b1⟩)⟩
theorem toll_get {S : SD} {n : Nat} {m : List (Int × Int)} {z : Int × Int} (h : z ∈ m) : valV (tollD S n m) (wayK z) = some (.int (rkZ S n z : Nat)) := by
  unfold valV tollD
  induction m with
  | nil => simp at h
  | cons y m ih =>
    rw [List.map_cons, List.find?_cons]
    by_cases e : y = z
    · subst e
      rw [decide_eq_true rfl]
      rfl
    · rw [decide_eq_false (fun q => e (wayK_inj q))]
      exact ih (by rcases List.mem_cons.mp h with h | h; exact absurd h.symm e; exact h)
end S4

namespace S4
open PySem L2 TT MM EE
/-! ### the law's tolls, sheets, what is unheard -/
theorem hu2 {k : Nat} {A : Around} (r : Room k A) : A.units + 2 < cLine := by have := r.un; omega
theorem lad_toll {S : SD} {n : Nat} {z : Int × Int} {near far : List Int} {lad : List (List Int)} (ok : SheetOk S n) (sd : Sides S n z near far) (h : IsLad S.p (numsL S.holds near).length (blockL S near far) lad) : lad.length = rkZ S n z :=
  toll_is ok sd fun lad' h' => congrArg List.length (IsLad.only h' h ok.clock.1 fun v => Iff.rfl)
/-- what givens must answer with noughts beyond the way -/
def unhL (S : SD) (wd : Nat) (far : List Int) : List (List Int) := far.flatMap fun q => S.wants.getD q.toNat [] ++ (heldL S.holds q).map fun i => uRow wd i.toNat
section
variable {P : Program} {w : World} {K : PySem.W.Frag} {mg : Str → Option Value} {base : Heap} {cT cS : Addr}
def spLTolls : Sp := fun vs H Q _ => ∃ (v : V) (S : SD) (n : Nat), vs = [v] ∧ rSpec H v S ∧ SheetOk S n ∧
  ∀ H' D m, Same H H' → H D = none → H' D = some (.dT (tollD S n m)) → m.Perm (S.ties ++ flipAll S.ties) → m.Pairwise lxLe → Q (.ref D) H'
theorem ok_ltolls (T : Tx K mg cT cS) {f : Addr} {fd : FuncData} (d : D K mg "_law_tolls" s_law_tolls ["spec"] f fd) : FnOk P w K mg base CX0 4 f fd ["spec"] spLTolls := by
  obtain ⟨f1, fd1, d1⟩ := T.d_law_ways
  have G1 := ok_lways (P := P) (w := w) (base := base) T d1
  obtain ⟨f2, fd2, d2⟩ := T.d_law_block
  have G2 := ok_lblock (P := P) (w := w) (base := base) T d2
  obtain ⟨f3, fd3, d3⟩ := T.d_law_ladder
  have G3 := ok_llad (P := P) (w := w) (base := base) T d3
  refine d.F.ok sc_law_tolls (fun vs H Q E h => ?_) (fun cdv A outer s H vs Q E hr h => ?_)
  · obtain ⟨v, S, n, rfl, _⟩ := h
    rfl
  · obtain ⟨v, S, n, rfl, hS, ok, q⟩ := h
    refine ⟨_, pss_one (ps_ret (pe_callTy (call_dictPT rfl (hu2 hr)) (by rfl) T.b_dict (by decide +kernel) (pa_cons (pe_lc (own := [("way", 1)]) (g := (gName 1)) (tt := tYes) rfl sc_law_tolls.nd (pi_list (pe_call G1 (hr.mono (by decide)) rfl d1.m d1.F.kp d1.b .nil pass0 (pa_cons (pe_ix ix_tup (pv 0) pe_int (fun _ _ => rfl)) pa_nil))) (blkOk_by (N := N_law_tolls) (sc := defScope s_law_tolls) (by decide +kernel)) (fun _ _ _ _ _ => (pg_name (i := 1) sc_law_tolls.nd rfl (Or.inl rfl))) (fun _ _ _ _ _ => pts_nil)
            (fun _ _ _ _ _ => (pe_tup (pa_cons (pv 1) (pa_cons (pe_callB (lenS (K := K) rfl) (by rfl) T.b_len PySem.boot_len (pa_cons (pe_call G3 (hr.mono (by decide)) rfl d3.m d3.F.kp d3.b .nil pass0 (pa_cons (pe_ix (ixT (K := K) rfl) (pv 0) pe_int (fun _ _ => rfl)) (pa_cons (pe_call G2 (hr.mono (by decide)) rfl d2.m d2.F.kp d2.b .nil pass0 (pa_cons (pv 0) (pa_cons (pv 1) pa_nil))) pa_nil))) pa_nil)) pa_nil))))) pa_nil))), ?_⟩
    obtain ⟨t, tt, th, tw, rfl, ht, htt, hth, htw⟩ := id hS
    have hn24 := ok.ties.n24
    have hnl := ok.ties.len
    refine ⟨_, rfl, t, _, _, _, rfl, rfl, .of ht, at_of (j := 1) rfl rfl, tt, S.ties, rfl, htt, by omega, fun H1 ev xs m s1 nev hev hxs hm hs => ⟨ev, rfl, ⟨_, .of hev⟩, fun D hD => ?_⟩⟩
    have nd := ways_nodupT ok.ties hm
    obtain ⟨ts, rfl, htl⟩ := pi_refs hxs
    have hml : m.length ≤ 46 := by have := hm.length_eq; rw [List.length_append] at this; unfold flipAll at this; rw [List.length_map] at this; omega
    have hS1 := mono_spec _ _ _ _ s1.keep hS
    refine lc_fm (walk_list (xs := ts.map V.ref)) rKV (fun i => (m.zip ts)[i]?.bind fun q => some (((wayK q.1, q.2) : KA), V.int (rkZ S n q.1 : Nat))) hD (fun H' s' => .of (s' _ _ hev)) ?_ ?_
    · rintro i x H10 H11 hi pv ⟨rfl, hx⟩
      obtain ⟨z, hz, tz, rfl, htz⟩ := paired_get (paired_mono mono_pi pv.1.keep hxs) hx
      have hts : ts[i]? = some tz := by
        rw [List.getElem?_map] at hx
        cases e : ts[i]? with
        | none => rw [e] at hx; cases hx
        | some y => rw [e] at hx; cases hx; rfl
      have W := way_ok ok hm (List.mem_of_getElem? hz)
      refine ⟨rfl, _, rfl, _, rfl, t, _, _, _, rfl, rfl, .of ((s1.trans pv.1) _ _ ht), at_of (j := 0) rfl rfl, _, rfl, _, rfl, .ref t, .ref tz, S, z, n, rfl, mono_spec _ _ _ _ pv.1.keep hS1, ⟨tz, rfl, htz⟩, ok, W, fun H12 r xs2 near far s12 hr2 hp2 nu nn nm fu fn fm => ?_⟩
      have sd := sides_of ok W nu nn nm fu fn fm
      have lb := block_rows ok sd.ni sd.fi
      have lf := farL_len ok.wants hn24 fn sd.fi
      have lbl : (blockL S near far).length = (farL S.wants far).length := by unfold blockL; rw [List.length_map]
      have ln := numsL_le ok.holds nn sd.ni
      refine ⟨r, S.p, (numsL S.holds near).length, xs2, blockL S near far, rfl, hr2, Paired.mapP hp2 fun _ _ ⟨b, e, h⟩ => ⟨b, e, .inr h⟩, by omega, ok.clock.prm, ok.clock.2.1, by omega, lb, fun H13 v lad s13 hv hlad => ?_⟩
      obtain ⟨tl, xl, rfl, htl2, hxl⟩ := hv
      have ek := lad_toll ok sd hlad
      have lxl := paired_len hxl
      refine ⟨tl, xl, rfl, .inr (.of htl2), by show 2 ≤ sizeLine; decide, fun ty nty => ?_⟩
      rw [lxl, ek]
      have s14 := same_new (o := .tup [V.ref tz, V.int (rkZ S n z : Nat)]) nty
      have hkv : rKV (upd H13 ty (.tup [V.ref tz, V.int (rkZ S n z : Nat)])) (.ref ty) (((wayK z, tz) : KA), V.int (rkZ S n z : Nat)) := ⟨ty, rfl, upd_same, s14 _ _ (s13 _ _ (s12 _ _ htz))⟩
      exact fm_keep mono_kv pv hD (by rw [List.length_map] at hi; omega) ((s12.trans s13).trans s14) (by have e : (m.zip ts)[i]? = some (z, tz) := List.getElem?_zip_eq_some.mpr ⟨hz, hts⟩; rw [e]; rfl) hkv
    intro H10 ys s10 hD10 hp10
    rw [show (ts.map V.ref).length = (m.zip ts).length by rw [List.length_map, List.length_zip, htl, Nat.min_self], fm_some] at hp10
    obtain ⟨pd, rfl, hpd⟩ := kv_refs (K := K) hp10
    refine ⟨D, pd, _, rfl, .of hD10, hpd, fun dd ndd => ?_⟩
    rw [show mergeT [] ((m.zip ts).map fun q => (((wayK q.1, q.2) : KA), V.int (rkZ S n q.1 : Nat))) = tollD S n m from merge_toll (pre := []) nd htl]
    exact q _ dd m ((s1.trans s10).trans (same_new ndd)) ((s1.trans s10).free ndd) upd_same hm hs
def spMade (cT cS : Addr) : Sp := fun vs H Q _ => ∃ (v : V) (S : SD) (n : Nat), vs = [v] ∧ rSpec H v S ∧ SheetOk S n ∧ ∀ H' u, Same H H' → rSheet cT cS H' u S → Q u H'
end
end S4

namespace S4
open PySem L2 TT MM EE
/-! ### what is unheard, by the law -/
theorem unh_le {S : SD} {n wd : Nat} (ok : SheetOk S n) : ∀ far : List Int, (∀ x ∈ far, 0 ≤ x ∧ x < (n : Int)) → (unhL S wd far).length ≤ 16 * far.length
  | [], _ => by simp [unhL]
  | q :: far, h => by
    have ih := unh_le (wd := wd) ok far fun x hx => h x (by simp [hx])
    have h8 : (S.wants.getD q.toNat []).length ≤ 8 := by
      rw [List.getD_eq_getElem?_getD]
      cases e : S.wants[q.toNat]? with
      | none => exact Nat.zero_le _
      | some own => exact (ok.wants.b own (List.mem_of_getElem? e)).1
    have hl : (heldL S.holds q).length ≤ 8 := by
      obtain ⟨q0, q1⟩ := h q (by simp)
      obtain ⟨k, rfl⟩ : ∃ k : Nat, q = (k : Int) := ⟨q.toNat, by omega⟩
      exact (heldL_ln ok.holds (by omega)).2
    unfold unhL at ih ⊢
    rw [List.flatMap_cons, List.length_append, List.length_append, List.length_map, List.length_cons, Nat.mul_succ]
    omega
theorem unh_row {S : SD} {n wd : Nat} (ok : SheetOk S n) (hwd : S.holds.sum = (wd : Int)) {far : List Int} : ∀ r ∈ unhL S wd far, isRow r S.p wd := fun r hr => by
  obtain ⟨q, hq, hr⟩ := List.mem_flatMap.mp hr
  rcases List.mem_append.mp hr with h | h
  · rw [List.getD_eq_getElem?_getD] at h
    cases e : S.wants[q.toNat]? with
    | none => rw [e] at h; exact nomatch h
    | some own => rw [e] at h; rw [← hwd]; exact (ok.wants.b own (List.mem_of_getElem? e)).2 r h
  · obtain ⟨i, hi, rfl⟩ := List.mem_map.mp h
    obtain ⟨i0, i1⟩ := held_lt ok.holds hi
    exact unit_row ok.clock.1 (by omega)
theorem held_rest {unk : List Int} {n : Nat} (ok : CountsOk unk n) (post : Int) (i : Nat) {x : Int} (h : (heldL unk post)[i]? = some x) : 0 ≤ x ∧ x < unk.sum := held_lt ok (List.mem_of_getElem? h)
section
variable {P : Program} {w : World} {K : PySem.W.Frag} {mg : Str → Option Value} {base : Heap} {cT cS : Addr}
def spLUn : Sp := fun vs H Q _ => ∃ (v u : V) (S : SD) (z : Int × Int) (n wd : Nat), vs = [v, u] ∧ rSpec H v S ∧ rPI H u z ∧ SheetOk S n ∧ WayOk S n z ∧ S.holds.sum = (wd : Int) ∧
  ∀ H' v' far, Same H H' → rTup rRow H' v' (looseU S.p wd (unhL S wd far)) → Up far → far.Nodup → (∀ x, x ∈ far ↔ Rch S.ties (some z.1) z.2 x) → Q v' H'
end
end S4

namespace S4
open PySem L2 TT MM EE
/-! ### spread, unheard -/
theorem rep_zero (k : Nat) : (List.replicate k [V.int 0]).flatten = (List.replicate k (0 : Int)).map V.int := by
  induction k with
  | zero => rfl
  | succ k ih => rw [List.replicate_succ, List.flatten_cons, ih, List.replicate_succ, List.map_cons]; rfl
def sprF (wd : Nat) (lot row : List Int) (i : Nat) : List Int := ((lot.zip row).take i).foldl (fun acc z => acc.set z.1.toNat z.2) (List.replicate wd 0)
theorem sprF_len {wd : Nat} {lot row : List Int} (i : Nat) : (sprF wd lot row i).length = wd := by
  unfold sprF
  have h : ∀ (l : List (Int × Int)) (acc : List Int), (l.foldl (fun acc z => acc.set z.1.toNat z.2) acc).length = acc.length := fun l => by
    induction l with
    | nil => exact fun _ => rfl
    | cons z l ih => exact fun acc => (ih _).trans (List.length_set ..)
  rw [h, List.length_replicate]
theorem sprF_step {wd : Nat} {lot row : List Int} {i : Nat} {a b : Int} (ha : lot[i]? = some a) (hb : row[i]? = some b) : sprF wd lot row (i + 1) = (sprF wd lot row i).set a.toNat b := by
  unfold sprF
  rw [List.take_succ, show (lot.zip row)[i]? = some (a, b) from List.getElem?_zip_eq_some.mpr ⟨ha, hb⟩, List.foldl_append]
  rfl
section
variable {P : Program} {w : World} {K : PySem.W.Frag} {mg : Str → Option Value} {base : Heap} {cT cS : Addr}
def spSpread : Sp := fun vs H Q _ => ∃ (v u : V) (row lot : List Int) (wd : Nat), vs = [v, u, .int (wd : Int)] ∧ rRow H v row ∧ rRow H u lot ∧ row.length = lot.length ∧ lot.length ≤ 60 ∧ wd ≤ 60 ∧ (∀ x ∈ lot, 0 ≤ x ∧ x < (wd : Int)) ∧
  ∀ H' v', Same H H' → rRow H' v' (sprF wd lot row lot.length) → Q v' H'
def spUnheard (cT cS : Addr) : Sp := fun vs H Q _ => ∃ (u v : V) (S : SD) (z : Int × Int) (n wd : Nat), vs = [u, v] ∧ rSheet cT cS H u S ∧ rPI H v z ∧ SheetOk S n ∧ WayOk S n z ∧ S.holds.sum = (wd : Int) ∧
  ∀ H' v' near far, Same H H' → Sides S n z near far → rTup rRow H' v' ((looseU S.p (numsL S.holds near).length (blockL S near far)).map fun r => sprF wd (numsL S.holds near) r (numsL S.holds near).length) → Q v' H'
end
end S4

namespace S4
open PySem L2 TT MM EE
/-! ### clocks, rows, counts, ties that are drawn -/
def noDivB (n : Nat) : Bool := decide (2 ≤ n) && decide (n ≤ 1000000) && (List.range 1001).all fun k => decide (k < 2) || decide (n < k * k) || decide (n % k ≠ 0)
theorem noDiv_of {n : Nat} (h : noDivB n = true) : NoDiv (n : Int) := by
  unfold noDivB at h
  rw [Bool.and_eq_true, Bool.and_eq_true] at h
  obtain ⟨⟨h1, h2⟩, h3⟩ := h
  have h1 := of_decide_eq_true h1
  have h2 := of_decide_eq_true h2
  refine ⟨by omega, by omega, fun k hk hkk => ?_⟩
  have hk1 := sq_small hk (Int.le_trans hkk (by omega))
  obtain ⟨j, rfl⟩ : ∃ j : Nat, k = (j : Int) := ⟨k.toNat, by omega⟩
  have h4 := List.all_eq_true.mp h3 j (List.mem_range.mpr (by omega))
  rw [Bool.or_eq_true, Bool.or_eq_true] at h4
  rcases h4 with (h4 | h4) | h4
  · have := of_decide_eq_true h4
    omega
  · have := of_decide_eq_true h4
    have e : ((j * j : Nat) : Int) = (j : Int) * (j : Int) := Int.natCast_mul j j
    omega
  · have := of_decide_eq_true h4
    intro e
    apply this
    have e2 : ((n % j : Nat) : Int) = (n : Int) % (j : Int) := Int.natCast_emod n j
    omega
section
variable {H1 : Hp} {b q D : Addr} {α : Type}
/-- the list at D holds data of which G holds, all else but the bag staying -/
def PvG (R : Rp α) (G : Nat → List α → Prop) (b q D : Addr) (H1 : Hp) (i : Nat) (H : Hp) : Prop := Bt b q H1 H ∧ Bag b q H ∧ ∃ xs l, H D = some (.lst xs) ∧ Paired (R H) xs l ∧ l.length = i ∧ G i l
theorem pg_start {R : Rp α} {G : Nat → List α → Prop} (h : Bag b q H1) (hD : H1 D = none) (g : G 0 []) : PvG R G b q D H1 0 (upd H1 D (.lst [])) :=
  ⟨(same_new hD).bt b q, h.same (same_new hD), [], [], upd_same, .nil, rfl, g⟩
theorem pg_keep {R : Rp α} (m : Mono R) {G : Nat → List α → Prop} {i : Nat} {H H4 : Hp} {y : V} {a : α} (h : Bag b q H1) (p : PvG R G b q D H1 i H) (hD : H1 D = none) (hi : i ≤ 100000) (b4 : Bt b q H H4) (h4 : Bag b q H4) (ra : R H4 y a) (ga : ∀ l, l.length = i → G i l → G (i + 1) (l ++ [a])) :
    ∃ acc, H4 D = some (.lst acc) ∧ acc.length < sizeLine ∧ PvG R G b q D H1 (i + 1) (upd H4 D (.lst (acc ++ [y]))) := by
  obtain ⟨bt, hh, xs, l, h1, h2, h3, hg⟩ := p
  obtain ⟨d1, d2⟩ := h.new hD
  have hD4 : H4 D = some (.lst xs) := b4 D _ d1 d2 h1
  have k5 : Keep H4 (upd H4 D (.lst (xs ++ [y]))) := keep_lst hD4
  have hlen := paired_len h2
  refine ⟨xs, hD4, Nat.lt_of_le_of_lt (Nat.le_trans (by omega) hi) (by decide), fun x o n1 n2 e => ?_, h4.setD d1 d2, xs ++ [y], l ++ [a], upd_same, ?_, by rw [List.length_append, h3]; rfl, ga l h3 hg⟩
  · have hxD : x ≠ D := fun q => by subst q; rw [hD] at e; cases e
    rw [upd_ne hxD]
    exact (bt.trans b4) x o n1 n2 e
  · exact paired_app (paired_mono m k5 (paired_mono m (hh.keep b4) h2)) (.cons (m _ _ _ _ k5 ra) .nil)
end
theorem Bt.own {b q D : Addr} {H H' : Hp} {o : HO} (h : Bt b q H H') (hD : H D = none) : Bt b q H (upd H' D o) := fun x u n1 n2 e => by
  rw [upd_ne (fun z => by rw [z, hD] at e; cases e)]
  exact h x u n1 n2 e
theorem sum_set : ∀ {l : List Int} {k : Nat} (h : k < l.length) (v : Int), (l.set k v).sum = l.sum - l[k] + v
  | x :: l, 0, _, v => by simp; omega
  | x :: l, k + 1, h, v => by
    have := sum_set (l := l) (k := k) (by simpa using h) v
    simp only [List.set_cons_succ, List.sum_cons, List.getElem_cons_succ]
    omega
section
variable {P : Program} {w : World} {K : PySem.W.Frag} {mg : Str → Option Value} {base : Heap} {cT cS : Addr}
def spClockB : Sp := fun vs H Q _ => ∃ (b q : Addr), vs = [.ref b] ∧ Bag b q H ∧ ∀ H' p, Bt b q H H' → Bag b q H' → NoDiv p → Q (.int p) H'
theorem ok_clockB (T : Tx K mg cT cS) {f : Addr} {fd : FuncData} (d : D K mg "_law_clock" s_law_clock ["bag"] f fd) : FnOk P w K mg base CX0 3 f fd ["bag"] spClockB := by
  obtain ⟨f1, fd1, d1⟩ := T.d_law_some
  have G1 := ok_some (P := P) (w := w) (base := base) T d1
  refine d.F.ok sc_law_clock (fun vs H Q E h => ?_) (fun cdv A outer s H vs Q E hr h => ?_)
  · obtain ⟨b, q0, rfl, _⟩ := h
    rfl
  · obtain ⟨b, q0, rfl, hB, q⟩ := h
    refine ⟨_, pss_one (ps_ret (pe_call G1 (hr.mono (by decide)) rfl d1.m d1.F.kp d1.b .nil pass0 (pa_cons (pv 0) (pa_cons (pe_lst (pa_cons pe_int (pa_cons pe_int (pa_cons pe_int (pa_cons pe_int (pa_cons pe_int (pa_cons pe_int pa_nil))))))) pa_nil)))), ?_⟩
    refine ⟨_, rfl, by show 6 ≤ sizeLine; decide, fun lb nlb => ?_⟩
    have slb := same_new (o := .lst (([5, 2, 3, 7, 101, 999983] : List Int).map V.int)) nlb
    refine ⟨b, q0, lb, ([5, 2, 3, 7, 101, 999983] : List Int).map V.int, rfl, upd_same, (hB.new nlb).1, (hB.new nlb).2, by decide, by decide, hB.same slb, fun H3 j y b3 hB3 hy => ?_⟩
    obtain ⟨p, rfl, cl⟩ : ∃ p, y = V.int p ∧ NoDiv p := by
      obtain ⟨pz, hp, rfl⟩ := at_int hy
      have hm := List.mem_of_getElem? hp
      simp only [List.mem_cons, List.not_mem_nil, or_false] at hm
      refine ⟨pz, rfl, ?_⟩
      rcases hm with rfl | rfl | rfl | rfl | rfl | rfl
      · exact noDiv_of (n := 5) (by decide +kernel)
      · exact noDiv_of (n := 2) (by decide +kernel)
      · exact noDiv_of (n := 3) (by decide +kernel)
      · exact noDiv_of (n := 7) (by decide +kernel)
      · exact noDiv_of (n := 101) (by decide +kernel)
      · exact noDiv_of (n := 999983) (by decide +kernel)
    exact q _ p ((slb.bt b q0).trans b3) hB3 cl
def spRowB : Sp := fun vs H Q _ => ∃ (b q : Addr) (p : Int) (wd : Nat), vs = [.ref b, .int p, .int (wd : Int)] ∧ Bag b q H ∧ 2 ≤ p ∧ p ≤ 1000000 ∧ wd ≤ 60 ∧ ∀ H' v l, Bt b q H H' → Bag b q H' → rRow H' v l → isRow l p wd → Q v H'
def spDealt : Sp := fun vs H Q _ => ∃ (b q : Addr) (n m : Nat), vs = [.ref b, .int (n : Int), .int (m : Int)] ∧ Bag b q H ∧ 1 ≤ n ∧ n ≤ 24 ∧ m ≤ 60 ∧ ∀ H' v l, Bt b q H H' → Bag b q H' → rRow H' v l → CountsOk l n → l.sum ≤ (m : Int) → Q v H'
theorem ok_dealt (T : Tx K mg cT cS) {f : Addr} {fd : FuncData} (d : D K mg "_law_dealt" s_law_dealt ["bag", "posts", "many"] f fd) : FnOk P w K mg base CX0 2 f fd ["bag", "posts", "many"] spDealt := by
  obtain ⟨f1, fd1, d1⟩ := T.d_law_pick
  have G1 := ok_pick (P := P) (w := w) (base := base) T d1
  refine d.F.ok sc_law_dealt (fun vs H Q E h => ?_) (fun cdv A outer s H vs Q E hr h => ?_)
  · obtain ⟨b, q0, n, m, rfl, _⟩ := h
    rfl
  · obtain ⟨b, q0, n, m, rfl, hB, n1, n24, m60, q⟩ := h
    refine ⟨_, pss_cons (ps_set (i := 3) sc_law_dealt.nd rfl (.inl rfl) (pe_op op_rep (pe_lst (pa_cons pe_int pa_nil)) (pv 1)))
      (pss_cons (ps_for PassesOwn.never rfl (pi_range1 rfl T.b_range (pa_cons (pv 2) pa_nil)) (pg_name (i := 4) sc_law_dealt.nd rfl (.inl rfl))
        (pss_cons (ps_set (i := 5) sc_law_dealt.nd rfl (.inl rfl) (pe_call G1 (hr.mono (by decide)) rfl d1.m d1.F.kp d1.b .nil pass0 (pa_cons (pv 0) (pa_cons (pv 1) pa_nil))))
      (pss_one (ps_if (pt_cmpR op_lt (pe_ix ix_list (pv 3) (pv 5) (fun _ _ => rfl)) pe_int (nomark _)) (pss_one (ps_asg (pe_op op_add (pe_ix ix_list (pv 3) (pv 5) (fun _ _ => rfl)) pe_int) (pg_sub (pv 3) (pv 5) set_list))) pss_nil))))
      (pss_one (ps_ret (pe_callTy call_tuple_of (by rfl) T.b_tuple (by decide +kernel) (pa_cons (pv 3) pa_nil))))), ?_⟩
    refine ⟨by show 1 ≤ sizeLine; decide, fun l0 nl0 => ?_⟩
    have s1 := same_new (o := .lst [V.int 0]) nl0
    refine ⟨_, rfl, l0, _, _, rfl, rfl, upd_same, by omega, by omega, Nat.le_trans (by show 1 * _ ≤ _; omega : _ ≤ 100) (by decide), fun dm ndm => ?_⟩
    rw [Int.toNat_natCast, rep_zero]
    have s2 := same_new (o := .lst ((List.replicate n (0 : Int)).map V.int)) ndm
    have hdm := upd_same (H := upd H l0 (.lst [V.int 0])) (a := dm) (o := .lst ((List.replicate n (0 : Int)).map V.int))
    have ndm0 := s1.free ndm
    have s12 := s1.trans s2
    obtain ⟨d1, d2⟩ := hB.new ndm0
    generalize upd (upd H l0 (.lst [V.int 0])) dm (.lst ((List.replicate n (0 : Int)).map V.int)) = H2 at *
    dsimp only [gName, tSeq]
    refine ⟨_, rfl, _, rfl, by omega, by omega, ?_⟩
    refine for_it (walk_range (lo := 0) (n := ((m : Nat) : Int).toNat)) (fun i σ H' => ∃ x4 x5 l, σ = [some (.ref b), some (.int (n : Int)), some (.int (m : Int)), some (.ref dm), x4, x5] ∧ Bt b q0 H H' ∧ Bag b q0 H' ∧ H' dm = some (.lst ((l : List Int).map V.int)) ∧ l.length = n ∧ (∀ h ∈ l, 0 ≤ h ∧ h < 9) ∧ l.sum ≤ (i : Int))
      ⟨none, none, List.replicate n 0, rfl, s12.bt b q0, hB.same s12, hdm, List.length_replicate, fun h hh => by rw [List.eq_of_mem_replicate hh]; omega, by simp⟩ (fun _ _ _ _ _ => trivial) ?_ ?_
    · rintro i x σ H3 H4 hi ⟨x4, x5, l, rfl, bt, hB3, h3, hl, hb, hs⟩ ⟨rfl, rfl⟩
      dsimp only [gName, tSeq]
      refine ⟨_, rfl, _, rfl, b, q0, n, rfl, by omega, by omega, hB3, fun H5 e b5 hB5 e0 e1 => ?_⟩
      obtain ⟨k, rfl⟩ : ∃ k : Nat, e = (k : Int) := ⟨e.toNat, by omega⟩
      have hk : l[k]? = some (l[k]'(by omega)) := List.getElem?_eq_getElem (by omega)
      have hkb := hb _ (List.getElem_mem (show k < l.length by omega))
      have h5 := b5 _ _ d1 d2 h3
      dsimp only [gName, tSeq]
      refine ⟨_, rfl, _, rfl, dm, _, _, _, rfl, rfl, .of h5, atI_nat (int_at hk), _, _, rfl, rfl, _, rfl, ?_⟩
      refine ite2 (fun hc => ?_) (fun hc => ?_)
      · have hc := of_decide_eq_true hc
        refine ⟨_, rfl, _, rfl, dm, _, _, _, rfl, rfl, .of h5, atI_nat (int_at hk), _, _, rfl, rfl, _, rfl, _, rfl, dm, _, _, k, rfl, rfl, h5, ixN_nat (by rw [List.length_map]; omega), ?_⟩
        refine ⟨_, _, l.set k (l[k]'(by omega) + 1), rfl, (bt.trans b5).own ndm0, hB5.setD d1 d2, by rw [upd_same, List.map_set], by rw [List.length_set]; exact hl, fun h hh => ?_, ?_⟩
        · rcases List.mem_or_eq_of_mem_set hh with h' | h'
          · exact hb h h'
          · subst h'; omega
        · rw [sum_set (show k < l.length by omega)]
          omega
      · exact ⟨_, _, l, rfl, bt.trans b5, hB5, h5, hl, hb, by omega⟩
    · rintro σ H3 ⟨x4, x5, l, rfl, bt, hB3, h3, hl, hb, hs⟩
      rw [Int.toNat_natCast] at hs
      refine ⟨_, rfl, dm, _, rfl, .inl ⟨.of h3, fun tq ntq => ?_⟩⟩
      have s5 := same_new (o := .tup (l.map V.int)) ntq
      exact q _ _ l (bt.trans (s5.bt b q0)) (hB3.same s5) ⟨tq, rfl, upd_same⟩ ⟨hl, hb, by omega⟩ hs
end
end S4

namespace S4
open PySem L2 TT MM EE
/-! ### ties that are drawn; things parted by posts -/
theorem rng_succ (n : Nat) : rng (n + 1) = rng n ++ [(n : Int)] := by unfold rng; rw [List.range_succ, List.map_append]; rfl
theorem paired_takeR {α β : Type} {F : α → β → Prop} : ∀ (k : Nat) {xs : List α} {l : List β}, Paired F xs l → Paired F (xs.take k) (l.take k)
  | 0, _, _, _ => by rw [List.take_zero, List.take_zero]; exact .nil
  | k + 1, _, _, .nil => .nil
  | k + 1, _, _, .cons r t => .cons r (paired_takeR k t)
theorem paired_dropR {α β : Type} {F : α → β → Prop} : ∀ (k : Nat) {xs : List α} {l : List β}, Paired F xs l → Paired F (xs.drop k) (l.drop k)
  | 0, _, _, h => h
  | k + 1, _, _, .nil => .nil
  | k + 1, _, _, .cons _ t => paired_dropR k t
/-- so many for each post -/
def byPG {α : Type} (z : α) (counts : List Int) (n : Nat) (A : List α) : List (List α) := (List.range n).map fun (j : Nat) => (heldL counts (j : Int)).map fun i => A.getD i.toNat z
theorem cut_held {α : Type} {R : Rp α} {z : α} {H : Hp} {xs : List V} {A : List α} {counts : List Int} {n k : Nat} (ok : CountsOk counts n) (hp : Paired (R H) xs A) (hs : counts.sum = (A.length : Int)) (hk : k < counts.length) :
    Paired (R H) (L2.cutV xs (some (counts.take k).sum) (some (counts.take (k + 1)).sum)) ((heldL counts (k : Int)).map fun i => A.getD i.toNat z) := by
  have lx := paired_len hp
  have hx : counts[k]? = some counts[k] := List.getElem?_eq_getElem hk
  have e3 : counts.getD k 0 = counts[k] := getD_at hx
  obtain ⟨b1, b2, b3⟩ := take_sum_le ok k
  rw [e3] at b2 b3
  have htot : (counts.take k).sum + counts[k] ≤ counts.sum := by
    have := take_sum_step (fun x hx => (ok.b x hx).1) (a := k) (b := counts.length) hk
    rw [List.take_length, e3] at this
    exact this
  obtain ⟨s, es⟩ : ∃ s : Nat, (counts.take k).sum = (s : Int) := ⟨(counts.take k).sum.toNat, by omega⟩
  obtain ⟨c, ec⟩ : ∃ c : Nat, counts[k] = (c : Int) := ⟨counts[k].toNat, by omega⟩
  have et : (counts.take (k + 1)).sum = ((s + c : Nat) : Int) := by rw [take_succ_sum hk, es, ec]; omega
  rw [et, es]
  unfold L2.cutV
  rw [HT.sIx_nat, HT.sIx_nat, show min s xs.length = s by omega, show min (s + c) xs.length = s + c by omega, show s + c - s = c by omega]
  have e : (heldL counts (k : Int)).map (fun i => A.getD i.toNat z) = (A.drop s).take c := by
    unfold heldL
    rw [Int.toNat_natCast, e3, ec, es, Int.toNat_natCast, List.map_map]
    refine List.ext_getElem (by simp; omega) fun i h1 h2 => ?_
    rw [List.getElem_map, List.getElem_range, List.getElem_take, List.getElem_drop]
    show A.getD ((s : Int) + (i : Int)).toNat z = _
    rw [show ((s : Int) + (i : Int)).toNat = s + i by omega]
    exact getD_at (List.getElem?_eq_getElem _)
  rw [e]
  exact paired_takeR c (paired_dropR s hp)
section
variable {P : Program} {w : World} {K : PySem.W.Frag} {mg : Str → Option Value} {base : Heap} {cT cS : Addr}
def spTiesB : Sp := fun vs H Q _ => ∃ (b q : Addr) (most : Nat), vs = [.ref b, .int (most : Int)] ∧ Bag b q H ∧ 1 ≤ most ∧ most ≤ 24 ∧ ∀ H' v ties n, Bt b q H H' → Bag b q H' → rTup rPI H' v ties → TreeOk ties n → n ≤ most → Q v H'
theorem ok_tiesB (T : Tx K mg cT cS) {f : Addr} {fd : FuncData} (d : D K mg "_law_ties" s_law_ties ["bag", "most"] f fd) : FnOk P w K mg base CX0 3 f fd ["bag", "most"] spTiesB := by
  obtain ⟨f1, fd1, d1⟩ := T.d_law_pick
  have G1 := ok_pick (P := P) (w := w) (base := base) T d1
  obtain ⟨f2, fd2, d2⟩ := T.d_law_some
  have G2 := ok_some (P := P) (w := w) (base := base) T d2
  refine d.F.ok sc_law_ties (fun vs H Q E h => ?_) (fun cdv A outer s H vs Q E hr h => ?_)
  · obtain ⟨b, q0, most, rfl, _⟩ := h
    rfl
  · obtain ⟨b, q0, most, rfl, hB, m1, m24, q⟩ := h
    refine ⟨_, pss_cons (ps_set (i := 2) sc_law_ties.nd rfl (.inl rfl) (pe_op op_add pe_int (pe_call G1 (hr.mono (by decide)) rfl d1.m d1.F.kp d1.b .nil pass0 (pa_cons (pv 0) (pa_cons (pv 1) pa_nil)))))
      (pss_one (ps_ret (pe_callTy call_tuple_of (by rfl) T.b_tuple (by decide +kernel) (pa_cons (pe_callB cr_sortedPD (by rfl) T.b_sorted (by decide +kernel) (pa_cons (pe_lc (own := [("post", 3)]) (g := (gName 3)) (tt := tYes) rfl sc_law_ties.nd (pi_range2 rfl T.b_range (pa_cons pe_int (pa_cons (pv 2) pa_nil))) (blkOk_by (N := N_law_ties) (sc := defScope s_law_ties) (by decide +kernel)) (fun _ _ _ _ _ => (pg_name (i := 3) sc_law_ties.nd rfl (Or.inl rfl))) (fun _ _ _ _ _ => pts_nil)
            (fun _ _ _ _ _ => (pe_tup (pa_cons (pe_call G2 (hr.mono (by decide)) rfl d2.m d2.F.kp d2.b .nil pass0 (pa_cons (pv 0) (pa_cons (pe_lst (pa_cons (pe_op op_sub (pv 3) pe_int) (pa_cons pe_int (pa_cons (pe_call G1 (hr.mono (by decide)) rfl d1.m d1.F.kp d1.b .nil pass0 (pa_cons (pv 0) (pa_cons (pv 3) pa_nil))) pa_nil)))) pa_nil))) (pa_cons (pv 3) pa_nil))))) pa_nil)) pa_nil)))), ?_⟩
    refine ⟨_, rfl, _, rfl, b, q0, most, rfl, by omega, by omega, hB, fun H2 k b2 hB2 k0 k1 => ⟨_, _, rfl, rfl, ?_⟩⟩
    obtain ⟨kn, rfl⟩ : ∃ kn : Nat, k = (kn : Int) := ⟨k.toNat, by omega⟩
    have e1 : (1 + (kn : Int)) = ((kn + 1 : Nat) : Int) := by omega
    dsimp only [gName, tSeq]
    rw [e1]
    generalize hn : kn + 1 = n at *
    refine ⟨_, rfl, 1, (n : Int), rfl, ⟨by omega, by omega, by omega, by omega⟩, fun D hD => ?_⟩
    refine walk_W (walk_range (lo := 1) (n := ((n : Int) - 1).toNat)) _ (PvG rPI (fun i l => Tr (rng (i + 1)) l) b q0 D H2) (pg_start hB2 hD (.one 0)) (fun _ _ _ _ => trivial) ?_ ?_
    · rintro i x HA HC hi pv ⟨rfl, rfl⟩
      refine ⟨rfl, _, rfl, _, rfl, _, _, rfl, rfl, _, rfl, _, rfl, b, q0, _, rfl, by omega, by omega, pv.2.1, fun H5 e b5 hB5 e0 e1 => ⟨by show 3 ≤ sizeLine; decide, fun lb nlb => ?_⟩⟩
      have slb := same_new (o := .lst [V.int (1 + (i : Int) - 1), V.int 0, V.int e]) nlb
      refine ⟨b, q0, lb, [V.int (1 + (i : Int) - 1), V.int 0, V.int e], rfl, upd_same, (hB5.new nlb).1, (hB5.new nlb).2, Nat.succ_pos _, by show 3 < 1000000; decide, hB5.same slb, fun H6 j y b6 hB6 hy => ?_⟩
      obtain ⟨a, rfl, a0, a1⟩ : ∃ a, y = V.int a ∧ 0 ≤ a ∧ a < 1 + (i : Int) := by
        have hm := List.mem_of_getElem? hy
        simp only [List.mem_cons, List.not_mem_nil, or_false] at hm
        rcases hm with rfl | rfl | rfl
        · exact ⟨_, rfl, by omega, by omega⟩
        · exact ⟨_, rfl, by omega, by omega⟩
        · exact ⟨_, rfl, e0, e1⟩
      refine ⟨_, rfl, by show 2 ≤ sizeLine; decide, fun tp ntp => ?_⟩
      have stp := same_new (o := .tup [V.int a, V.int (1 + (i : Int))]) ntp
      refine pg_keep mono_pi hB2 pv hD (by omega) (b5.trans ((slb.bt b q0).trans (b6.trans (stp.bt b q0)))) (hB6.same stp) (a := (a, 1 + (i : Int))) ⟨tp, rfl, upd_same⟩ fun l hl hT => ?_
      have e2 : rng (i + 1 + 1) = rng (i + 1) ++ [((i + 1 : Nat) : Int)] := rng_succ _
      have e3 : (a, 1 + (i : Int)) = tieOf ((i + 1 : Nat) : Int) a := by unfold tieOf; rw [if_neg (by omega)]; congr 1; omega
      show Tr (rng (i + 1 + 1)) _
      rw [e2, e3]
      exact .leaf hT (rng_mem.mpr ⟨a0, by omega⟩) fun h => by have := (rng_mem.mp h).2; omega
    · rintro HA ⟨bA, hBA, xs, l, h1, h2, h3, hT⟩
      have en : ((n : Int) - 1).toNat + 1 = n := by omega
      have hT : Tr (rng (((n : Int) - 1).toNat + 1)) l := hT
      rw [en] at hT
      refine ⟨D, xs, l, rfl, .of h1, h2, fun ws m r hw hperm hs nr => ⟨r, ws, rfl, .inl ⟨.of upd_same, fun tq ntq => ?_⟩⟩⟩
      have s5 := same_new (o := .lst ws) nr
      have s6 := same_new (o := .tup ws) ntq
      have s56 := s5.trans s6
      exact q _ _ m n ((b2.trans bA).trans (s56.bt b q0)) (hBA.same s56) ⟨tq, ws, rfl, upd_same, paired_mono mono_pi s56.keep hw⟩ (treeOk_of hT (.refl _) (by omega) hperm hs) (by omega)
def spPartedG {α : Type} (R : Rp α) (z : α) : Sp := fun vs H Q _ => ∃ (a : Addr) (v : V) (xs : List V) (A : List α) (counts : List Int) (n : Nat), vs = [.ref a, v] ∧ H a = some (.lst xs) ∧ Paired (R H) xs A ∧ rRow H v counts ∧ CountsOk counts n ∧ n ≤ 24 ∧ counts.sum = (A.length : Int) ∧
  ∀ H' v', Same H H' → rTup (rTup R) H' v' (byPG z counts n A) → Q v' H'
variable {α : Type} {R : Rp α} (mR : Mono R) (z : α)
include mR in
theorem ok_partedG (T : Tx K mg cT cS) {f : Addr} {fd : FuncData} (d : D K mg "_law_parted" s_law_parted ["things", "counts"] f fd) : FnOk P w K mg base CX0 1 f fd ["things", "counts"] (spPartedG R z) := by
  refine d.F.ok sc_law_parted (fun vs H Q E h => ?_) (fun cdv A outer s H vs Q E hr h => ?_)
  · obtain ⟨a, v, xs, A, counts, n, rfl, _⟩ := h
    rfl
  · obtain ⟨a, v, xs, A, counts, n, rfl, ha, hp, ⟨tc, rfl, htc⟩, ok, hn24, hs, q⟩ := h
    refine ⟨_, pss_cons (ps_set (i := 2) sc_law_parted.nd rfl (.inl rfl) (pe_lst pa_nil))
      (pss_cons (ps_for PassesOwn.never rfl (pi_range1 rfl T.b_range (pa_cons (pe_callB call_len_seq (by rfl) T.b_len PySem.boot_len (pa_cons (pv 1) pa_nil)) pa_nil)) (pg_name (i := 3) sc_law_parted.nd rfl (.inl rfl))
        (pss_one (ps_expr (pe_bm PySem.F.plainAttrs_list PySem.F.slot_list_append PySem.F.type_list_append mt_append (pv 2) (pa_cons (pe_callTy call_tuple_of (by rfl) T.b_tuple (by decide +kernel) (pa_cons (pe_slice sl_list (pv 0) (po_some (pe_callB (cr_sumT rfl) (by rfl) T.b_sum (by decide +kernel) (pa_cons (pe_slice sl_tupA (pv 1) po_none (po_some (pv 3))) pa_nil))) (po_some (pe_callB (cr_sumT rfl) (by rfl) T.b_sum (by decide +kernel) (pa_cons (pe_slice sl_tupA (pv 1) po_none (po_some (pe_op op_add (pv 3) pe_int))) pa_nil)))) pa_nil)) pa_nil)))))
      (pss_one (ps_ret (pe_callTy call_tuple_of (by rfl) T.b_tuple (by decide +kernel) (pa_cons (pv 2) pa_nil))))), ?_⟩
    have hln := ok.len
    refine ⟨by show 0 ≤ sizeLine; decide, fun fo nfo => ?_⟩
    have s1 := same_new (o := .lst []) nfo
    have hfo1 := upd_same (H := H) (a := fo) (o := .lst [])
    generalize upd H fo (.lst []) = H1 at *
    dsimp only [gName, tSeq]
    refine ⟨_, rfl, tc, _, rfl, .inr (.of (s1 _ _ htc)), _, rfl, by rw [List.length_map]; omega, by rw [List.length_map]; omega, ?_⟩
    refine for_it (walk_range (lo := 0) (n := (((counts.map V.int).length : Nat) : Int).toNat)) (fun i σ H' => ∃ x3 ys, σ = [some (.ref a), some (.ref tc), some (.ref fo), x3] ∧ Same H H' ∧ H' fo = some (.lst ys) ∧ Paired (rTup R H') ys ((List.range i).map fun (j : Nat) => (heldL counts (j : Int)).map fun i => A.getD i.toNat z))
      ⟨none, [], rfl, s1, hfo1, .nil⟩ (fun _ _ _ _ _ => trivial) ?_ ?_
    · rintro i x σ H2 H3 hi ⟨x3, ys, rfl, s2, hfo, hpy⟩ ⟨rfl, rfl⟩
      rw [Int.toNat_natCast, List.length_map] at hi
      have lys := paired_len hpy
      rw [List.length_map, List.length_range] at lys
      dsimp only [gName]
      rw [show (0 : Int) + (i : Int) = (i : Int) from Int.zero_add _]
      refine ⟨_, rfl, .inl ⟨rfl, _, .of hfo⟩, _, rfl, _, rfl, _, rfl, (i : Int), rfl, slice_upto (s2.keep.tup htc) fun H5 t5 s5 h5 => ⟨t5, counts.take i, rfl, .of (by rw [List.map_take]; exact h5), ?_⟩⟩
      refine ⟨_, rfl, _, rfl, _, rfl, _, _, rfl, rfl, ((i + 1 : Nat) : Int), rfl, slice_upto ((s2.trans s5).keep.tup htc) fun H6 t6 s6 h6 => ⟨t6, counts.take (i + 1), rfl, .of (by rw [List.map_take]; exact h6), _, rfl, a, xs, rfl, .of ((s2.trans (s5.trans s6)) _ _ ha), fun pl npl => ⟨pl, _, rfl, .inl ⟨.of upd_same, fun tq ntq => ?_⟩⟩⟩⟩
      have s7 := same_new (o := .lst (L2.cutV xs (some (counts.take i).sum) (some (counts.take (i + 1)).sum))) npl
      have s8 := same_new (o := .tup (L2.cutV xs (some (counts.take i).sum) (some (counts.take (i + 1)).sum))) ntq
      have htq := upd_same (H := upd H6 pl (.lst (L2.cutV xs (some (counts.take i).sum) (some (counts.take (i + 1)).sum)))) (a := tq) (o := .tup (L2.cutV xs (some (counts.take i).sum) (some (counts.take (i + 1)).sum)))
      have s58 := s5.trans (s6.trans (s7.trans s8))
      have hpc := cut_held (z := z) ok (paired_mono mR (s2.trans s58).keep hp) hs (show i < counts.length by omega)
      have hfo8 := s58 _ _ hfo
      generalize upd (upd H6 pl (.lst (L2.cutV xs (some (counts.take i).sum) (some (counts.take (i + 1)).sum)))) tq (.tup (L2.cutV xs (some (counts.take i).sum) (some (counts.take (i + 1)).sum))) = H8 at *
      have kA : Keep H8 (upd H8 fo (.lst (ys ++ [V.ref tq]))) := keep_lst hfo8
      refine ⟨fo, _, _, rfl, rfl, hfo8, Nat.lt_of_le_of_lt (show ys.length ≤ 24 by omega) (by decide), ?_⟩
      refine ⟨_, ys ++ [.ref tq], rfl, same_own (s2.trans s58) nfo, upd_same, ?_⟩
      rw [List.range_succ, List.map_append]
      exact paired_app (paired_mono (mono_tup mR) (s58.keep.trans kA) hpy) (.cons ⟨tq, _, rfl, kA.tup htq, paired_mono mR kA hpc⟩ .nil)
    · rintro σ H2 ⟨x3, ys, rfl, s2, hfo, hpy⟩
      rw [Int.toNat_natCast, List.length_map, hln] at hpy
      refine ⟨_, rfl, fo, _, rfl, .inl ⟨.of hfo, fun tq ntq => ?_⟩⟩
      have s6 := same_new (o := .tup ys) ntq
      exact q _ _ (s2.trans s6) ⟨tq, ys, rfl, upd_same, paired_mono (mono_tup mR) s6.keep hpy⟩
def spParted : Sp := spPartedG rRow []
theorem ok_parted (T : Tx K mg cT cS) {f : Addr} {fd : FuncData} (d : D K mg "_law_parted" s_law_parted ["things", "counts"] f fd) : FnOk P w K mg base CX0 1 f fd ["things", "counts"] spParted := ok_partedG mono_row [] T d
def spPartedI : Sp := spPartedG rInt 0
theorem ok_partedI (T : Tx K mg cT cS) {f : Addr} {fd : FuncData} (d : D K mg "_law_parted" s_law_parted ["things", "counts"] f fd) : FnOk P w K mg base CX0 1 f fd ["things", "counts"] spPartedI := ok_partedG mono_int 0 T d
end
end S4

namespace S4
open PySem L2 TT MM EE
/-! ### wants that are drawn -/
structure WI (b q dm dr ds : Addr) (p : Int) (wd : Nat) (H0 : Hp) (W : List (List (List Int))) (s R : List (List Int)) (ys ss zs : List V) (H : Hp) : Prop where
  bt : Bt b q H0 H
  bag : Bag b q H
  m0 : H0 dm = none
  r0 : H0 dr = none
  s0 : H0 ds = none
  mr : dm ≠ dr
  sm : ds ≠ dm
  sr : ds ≠ dr
  md : H dm = some (.lst ys)
  mp : Paired (rTup rRow H) ys W
  rd : H dr = some (.lst zs)
  rp : Paired (rRow H) zs R
  sd : H ds = some (.lst ss)
  sp : Paired (rRow H) ss s
  rr : ∀ r ∈ R, isRow r p wd
  srr : ∀ r ∈ s, isRow r p wd
section
variable {b q dm dr ds : Addr} {p : Int} {wd : Nat} {H0 H H' : Hp} {W : List (List (List Int))} {s R : List (List Int)} {ys ss zs : List V}
theorem Bt.lst {D : Addr} {o : HO} (h : Bt b q H H') (n1 : D ≠ b) (n2 : D ≠ q) (e : H D = some o) : H' D = some o := h D o n1 n2 e
theorem WI.ne (I : WI b q dm dr ds p wd H0 W s R ys ss zs H) (hB : Bag b q H0) : (dm ≠ b ∧ dm ≠ q) ∧ (dr ≠ b ∧ dr ≠ q) ∧ ds ≠ b ∧ ds ≠ q := ⟨hB.new I.m0, hB.new I.r0, hB.new I.s0⟩
theorem WI.pick (hB : Bag b q H0) (I : WI b q dm dr ds p wd H0 W s R ys ss zs H) (t : Bt b q H H') (h' : Bag b q H') : WI b q dm dr ds p wd H0 W s R ys ss zs H' := by
  obtain ⟨⟨a1, a2⟩, ⟨b1, b2⟩, c1, c2⟩ := I.ne hB
  have k := I.bag.keep t
  exact ⟨I.bt.trans t, h', I.m0, I.r0, I.s0, I.mr, I.sm, I.sr, t.lst a1 a2 I.md, paired_mono (mono_tup mono_row) k I.mp, t.lst b1 b2 I.rd, paired_mono mono_row k I.rp, t.lst c1 c2 I.sd, paired_mono mono_row k I.sp, I.rr, I.srr⟩
theorem WI.add (hB : Bag b q H0) (I : WI b q dm dr ds p wd H0 W s R ys ss zs H) {v : V} {l : List Int} (hv : rRow H v l) (hl : isRow l p wd) :
    (upd H ds (.lst (ss ++ [v]))) dr = some (.lst zs) ∧ WI b q dm dr ds p wd H0 W (s ++ [l]) (R ++ [l]) ys (ss ++ [v]) (zs ++ [v]) (upd (upd H ds (.lst (ss ++ [v]))) dr (.lst (zs ++ [v]))) := by
  obtain ⟨⟨a1, a2⟩, ⟨b1, b2⟩, c1, c2⟩ := I.ne hB
  have e1 : (upd H ds (.lst (ss ++ [v]))) dr = some (.lst zs) := by rw [upd_ne I.sr.symm]; exact I.rd
  have k1 : Keep H (upd H ds (.lst (ss ++ [v]))) := keep_lst I.sd
  have k2 : Keep _ (upd (upd H ds (.lst (ss ++ [v]))) dr (.lst (zs ++ [v]))) := keep_lst e1
  have k := k1.trans k2
  refine ⟨e1, (I.bt.own I.s0).own I.r0, (I.bag.setD c1 c2).setD b1 b2, I.m0, I.r0, I.s0, I.mr, I.sm, I.sr, by rw [upd_ne I.mr, upd_ne I.sm.symm]; exact I.md, paired_mono (mono_tup mono_row) k I.mp, upd_same, paired_app (paired_mono mono_row k I.rp) (.cons (mono_row _ _ _ _ k hv) .nil), by rw [upd_ne I.sr, upd_same], paired_app (paired_mono mono_row k I.sp) (.cons (mono_row _ _ _ _ k hv) .nil), fun r hr => ?_, fun r hr => ?_⟩
  · rcases List.mem_append.mp hr with h | h
    · exact I.rr r h
    · rw [List.mem_singleton.mp h]; exact hl
  · rcases List.mem_append.mp hr with h | h
    · exact I.srr r h
    · rw [List.mem_singleton.mp h]; exact hl
end
section
variable {P : Program} {w : World} {K : PySem.W.Frag} {mg : Str → Option Value} {base : Heap} {cT cS : Addr}
def spWantsB : Sp := fun vs H Q _ => ∃ (b q : Addr) (p : Int) (v1 v2 : V) (holds counts : List Int) (wd n : Nat), vs = [.ref b, .int p, v1, v2] ∧ Bag b q H ∧ 2 ≤ p ∧ p ≤ 1000000 ∧ rRow H v1 holds ∧ holds.sum = (wd : Int) ∧ wd ≤ 60 ∧ rRow H v2 counts ∧ CountsOk counts n ∧ n ≤ 24 ∧
  ∀ H' v' W, Bt b q H H' → Bag b q H' → rWants H' v' W → WantsOk p wd n W → (W.map fun own => (own.length : Int)) = counts → Q v' H'
theorem wants_ok {p : Int} {wd n : Nat} {W : List (List (List Int))} {counts : List Int} (ok : CountsOk counts n) (e : (W.map fun own => (own.length : Int)) = counts) (h : ∀ rows ∈ W, ∀ r ∈ rows, isRow r p wd) : WantsOk p wd n W := by
  refine ⟨by have := congrArg List.length e; rw [List.length_map] at this; rw [this, ok.len], fun rows hr => ⟨?_, h rows hr⟩, ?_⟩
  · have : ((rows.length : Nat) : Int) ∈ counts := by rw [← e]; exact List.mem_map.mpr ⟨rows, hr, rfl⟩
    have := ok.b _ this
    omega
  · have := sum_lens W
    rw [e] at this
    have := ok.s
    omega
end
end S4

namespace S4
open PySem L2 TT MM EE
/-! ### sheets that are drawn -/
section
variable {P : Program} {w : World} {K : PySem.W.Frag} {mg : Str → Option Value} {base : Heap} {cT cS : Addr}
def spSpecB : Sp := fun vs H Q _ => ∃ (b q : Addr) (posts most : Nat), vs = [.ref b, .int (posts : Int), .int (most : Int)] ∧ Bag b q H ∧ 1 ≤ posts ∧ posts ≤ 24 ∧ most ≤ 60 ∧ ∀ H' v S n, Bt b q H H' → Bag b q H' → rSpec H' v S → SheetOk S n → TreeOk S.ties n → Q v H'
end
end S4

/-! defs that make lambdas; what stays behind them -/
namespace S4
open PySem L2 TT MM EE LamX
/-! ### what stays but for tables -/
def NoTab (o : HO) : Prop := ∀ ps, o ≠ .tbl ps
structure KeepN (H H' : Hp) : Prop where
  tup : ∀ {t : Addr} {xs : List V}, H t = some (.tup xs) → H' t = some (.tup xs)
  ins : ∀ {t C dx : Addr} {xs : List (Str × V)}, H t = some (.ins C dx xs) → H' t = some (.ins C dx xs)
theorem KeepN.refl (H : Hp) : KeepN H H := ⟨fun h => h, fun h => h⟩
theorem KeepN.trans {H H1 H2 : Hp} (a : KeepN H H1) (b : KeepN H1 H2) : KeepN H H2 := ⟨fun h => b.tup (a.tup h), fun h => b.ins (a.ins h)⟩
theorem _root_.TT.Keep.n {H H' : Hp} (k : Keep H H') : KeepN H H' := ⟨fun h => k.tup h, fun h => k.ins h⟩
theorem _root_.TT.But.n {H H' : Hp} {g : Addr} {kvs : List (List L2.Key × V)} (k : But g H H') (hg : H g = some (.dT kvs)) : KeepN H H' := ⟨fun h => k _ _ (fun e => by subst e; rw [hg] at h; cases h) h, fun h => k _ _ (fun e => by subst e; rw [hg] at h; cases h) h⟩
/-- all but the two lists of the bag, and tables -/
def BtN (b q : Addr) (H H' : Hp) : Prop := ∀ x o, x ≠ b → x ≠ q → NoTab o → H x = some o → H' x = some o
section
variable {b q : Addr} {H H1 H' : Hp} {TL : List (Addr × Str)}
theorem BtN.refl (b q : Addr) (H : Hp) : BtN b q H H := fun _ _ _ _ _ h => h
theorem BtN.trans (u : BtN b q H H1) (v : BtN b q H1 H') : BtN b q H H' := fun x o n1 n2 t h => v x o n1 n2 t (u x o n1 n2 t h)
theorem Bt.n (u : Bt b q H H') : BtN b q H H' := fun x o n1 n2 _ h => u x o n1 n2 h
theorem _root_.LamX.ExtN.btn (u : ExtN H H') : BtN b q H H' := fun x o _ _ t h => u x o h t
theorem _root_.LamX.ExtN.keep (u : ExtN H H') : KeepN H H' := ⟨fun h => u _ _ h (fun _ q => nomatch q), fun h => u _ _ h (fun _ q => nomatch q)⟩
theorem _root_.L2.Same.extN (s : Same H H') : ExtN H H' := fun x o h _ => s x o h
theorem Bag.neT (h : Bag b q H) {x : Addr} {o : HO} (e : H x = some o) (n : ∀ ys, o ≠ .lst ys) : x ≠ b ∧ x ≠ q := by
  obtain ⟨y1, e1⟩ := h.lst
  obtain ⟨y2, e2⟩ := h.cells
  exact ⟨fun z => by subst z; rw [e1] at e; cases e; exact n _ rfl, fun z => by subst z; rw [e2] at e; cases e; exact n _ rfl⟩
theorem Bag.keepN (h : Bag b q H) (k : BtN b q H H') : KeepN H H' := ⟨fun e => k _ _ (h.neT e fun _ q => nomatch q).1 (h.neT e fun _ q => nomatch q).2 (fun _ q => nomatch q) e, fun e => k _ _ (h.neT e fun _ q => nomatch q).1 (h.neT e fun _ q => nomatch q).2 (fun _ q => nomatch q) e⟩
theorem Bag.ext (h : Bag b q H) (s : ExtN H H') : Bag b q H' := let ⟨s', k, gs, a, w⟩ := h; ⟨s', k, gs, a, s _ _ w.h (fun _ q => nomatch q), s _ _ w.hq (fun _ q => nomatch q), w.ne, w.len, w.pos, w.s0, w.k0, w.al⟩
theorem Tabs.same (t : Tabs TL H) (s : Same H H') : Tabs TL H' := t.ext s
theorem Tabs.bt (h : Bag b q H) (t : Tabs TL H) (s : Bt b q H H') : Tabs TL H' := fun p hp => by
  obtain ⟨ps, h1, h2, h3⟩ := t p hp
  obtain ⟨y1, e1⟩ := h.lst
  obtain ⟨y2, e2⟩ := h.cells
  have ne : ∀ {x : Addr} {o : HO}, H x = some o → (∀ ys, o ≠ .lst ys) → x ≠ b ∧ x ≠ q := fun {x o} e n => ⟨fun z => by subst z; rw [e1] at e; cases e; exact n _ rfl, fun z => by subst z; rw [e2] at e; cases e; exact n _ rfl⟩
  refine ⟨ps, s _ _ (ne h1 fun _ z => nomatch z).1 (ne h1 fun _ z => nomatch z).2 h1, h2, fun pos cv hc => ?_⟩
  obtain ⟨c, e, e3⟩ := h3 pos cv hc
  have hn : ∀ ys, CodeO c p.2 ≠ .lst ys := fun ys z => by unfold CodeO at z; cases z
  exact ⟨c, e, s _ _ (ne e3 hn).1 (ne e3 hn).2 e3⟩
end
/-! ### data behind lambdas -/
def MonoN {α : Type} (R : Rp α) : Prop := ∀ H H' v x, KeepN H H' → R H v x → R H' v x
theorem monoN_int : MonoN rInt := fun _ _ _ _ _ h => h
theorem monoN_row : MonoN rRow := fun _ _ _ _ k ⟨t, e, h⟩ => ⟨t, e, k.tup h⟩
theorem monoN_pi : MonoN rPI := fun _ _ _ _ k ⟨t, e, h⟩ => ⟨t, e, k.tup h⟩
theorem pairedN {α : Type} {R : Rp α} (m : MonoN R) {H H' : Hp} (k : KeepN H H') {xs : List V} {l : List α} (p : Paired (R H) xs l) : Paired (R H') xs l := Paired.mapP p fun _ _ h => m _ _ _ _ k h
theorem monoN_tup {α : Type} {R : Rp α} (m : MonoN R) : MonoN (rTup R) := fun _ _ _ _ k ⟨t, xs, e, h, p⟩ => ⟨t, xs, e, k.tup h, pairedN m k p⟩
theorem monoN_tree (cT : Addr) : MonoN (rTree cT) := fun _ _ _ _ k ⟨a, dx, t, xs, e, h1, h2, h3⟩ => ⟨a, dx, t, xs, e, k.ins h1, k.tup h2, pairedN monoN_pi k h3⟩
theorem monoN_sheet (cT cS : Addr) : MonoN (rSheet cT cS) := fun _ _ _ _ k ⟨a, dx, tr, th, tw, e, h1, h2, h3, h4⟩ => ⟨a, dx, tr, th, tw, e, k.ins h1, monoN_tree cT _ _ _ _ k h2, monoN_row _ _ _ _ k h3, monoN_tup (monoN_tup monoN_row) _ _ _ _ k h4⟩
theorem monoN_spec : MonoN rSpec := fun _ _ _ _ k ⟨t, tt, th, tw, e, h, h1, h2, h3⟩ => ⟨t, tt, th, tw, e, k.tup h, monoN_tup monoN_pi _ _ _ _ k h1, monoN_row _ _ _ _ k h2, monoN_tup (monoN_tup monoN_row) _ _ _ _ k h3⟩
/-! ### a def that makes lambdas -/
structure LamD (mg : Str → Option Value) (base : Heap) (x : Str) (fd : FuncData) (c P : Addr) (TL : List (Addr × Str)) : Prop where
  code : fd.code = .ref c
  tb : TabB base mg c P
  mem : (P, x ++ ".<locals>." ++ "<lambda>") ∈ TL
  un : ∀ p ∈ TL, p.1 = P → p.2 = x ++ ".<locals>." ++ "<lambda>"
section
variable {P : Program} {w : World} {K : PySem.W.Frag} {mg : Str → Option Value} {base : Heap}
theorem _root_.L2.Fun.okT {x : Str} {st : Stmt} {f c : Addr} {fd : FuncData} {N ps : List Str} {k : Nat} {sp : Sp} (F : Fun K x x st f fd) (hc : fd.code = .ref c) (S : FnScope N ps (defScope st)) (len : ∀ vs H Q E, sp vs H Q E → vs.length = ps.length)
    (hbody : ∀ (A : Around) (outer : List Env) (s : Shared) (H : Hp) (vs : List V) (Q : VK) (E : XK), Room k (A.deeper (PyProof.Rows.envOfC x (defScope st) s.heap.objs.size f (.ref c))) → sp vs H Q E →
      ∃ t, PSs (cxOf CX0 P w K mg base N x (defScope st) f (.ref c) A outer s H E).nox (defBody st) t ∧ t { nx := fun _ H' => Q .non H', rt := Q } (start N vs) H) : FnOk P w K mg base CX0 (k + 1) f fd ps sp := by
  obtain ⟨oc, od, kV, doc, pm, an, cdv, ct, osl, rfl, lk, hcd⟩ := F.ex
  have e : cdv = .ref c := hc
  subst e
  refine fn_of lk hcd S len fun A outer s H vs Q E hr hsp => ?_
  obtain ⟨t, h, q⟩ := hbody A outer s H vs Q E hr hsp
  exact ⟨t, h.nox, q⟩
/-- y(lambda: body) -/
theorem pe_lamD {X : Cx} {TL : List (Addr × Str)} {TT : (XK → Hp → VK → Prop) → Hp → VK → Prop} {x y a : Str} {st : Stmt} {g c P : Addr} {gd fd : FuncData} {k : Nat} {Ng : List Str} {params : Arguments} {body : Expr} {scope : Scope} {t : XK → TE} {p lpos pos : Pos}
    (dg : D X.K X.mg y st [a] g gd) (L : LamD X.mg X.base x fd c P TL) (hg : Gl X y) (Sg : FnScope Ng [a] (defScope st)) (hNg : Ng[0]? = some a) (hva : Vis (defScope st) a)
    (hG : ∀ cdv, GivesTo X Ng y (defScope st) g cdv (defBody st) a (X.env.qual ++ "<lambda>") TT) (hq : X.env.qual = x ++ ".<locals>.") (hcode : X.env.code = .ref c) (hr : Room (k + 2) X.A) (Ls : LamS X.env.scope scope) (hdef : defaultsOf params X.env = ([], []))
    (hbind : ∀ (q : Str) (cl : List (Str × Addr)) (pm cv ctv : Value), bindArgs (PySem.W.kla_fn "<lambda>" q params body scope cl pm cv ctv) ⟨[], []⟩ = pure [])
    (hbody : ∀ (A : Around) (outer : List Env) (s : Shared) (H : Hp) (E : XK) (f c' : Addr), Room k (A.deeper (lamEnv X scope s.heap.objs.size f c')) → PE (lamCx X A outer s H E scope f c') body (t E))
    (hdb : (y == ("__debug__" : Str)) = false := by decide) (hd : (a == ("__debug__" : Str)) = false := by decide) (hcd : (a == ("__classdict__" : Str)) = false := by decide) :
    PE X (.Call (.Name y p) [.Lambda params body scope lpos] [] pos) (tLam TL TT t) := by
  obtain ⟨oc, od, kV, doc, pm, an, cdv, ct, osl, e, lk, hcg⟩ := dg.F.ex
  subst e
  refine pe_lamcall (c := c) (P := P) hg dg.m dg.F.kp lk hcg dg.b Sg hNg hva (hG cdv) L.tb hcode ?_ ?_ hr Ls hdef hbind hbody hdb hd hcd
  · rw [hq]; exact L.mem
  · rw [hq]; exact L.un
theorem takes_len {X : Cx} {W : WX} (tk : Takes X W) : Takes X (fun c d σ H => σ.length = X.N.length → W c d σ H) := fun u s' ⟨a, B, sI, pins, σ, H, cls, d, e, I, nb, up, sky, na, os, ag, w⟩ =>
  tk u s' ⟨a, B, sI, pins, σ, H, cls, d, e, I, nb, up, sky, na, os, ag, w I.len⟩
end
/-! ### the end -/
/-- the tables of all defs are empty -/
def AllTab (q : Program) (K : PySem.W.Frag) (h : Heap) : Prop := ∀ (x : Str) (c P : Addr), ((PyProof.Rows.recsOf q).any fun e => e.name == x) = true → PySem.W.tabIn K x = some (c, P) → PySem.W.CodeHd h c P ∧ h.get? P = some { cls := .none, data := .fields #[] }
theorem walk_lam {l : PySem.W.OpenLaw} {n k : Nat} {q : Program} {loose : List Str} {XP : (Str → Option Value) → Heap → Prop} {YP : World → Heap → Prop} {d : DefRec} {K : Params → PySem.W.Frag} {CX : World → CXT} {x : Str}
    (hn : l.most = some n) (hn2 : n ≤ sizeLine) (hdf : d.params.defaults = []) (hr : Room k callerA) (hY : ∀ (w : World) (h : Heap), YP w h → (K w.params).In h)
    (F : ∀ (w : World) (mg : Str → Option Value) (fa : Addr) (h : Heap), YP w h → (K w.params).In h → h.Ns mainGlobals mg → mg d.name = some (.ref fa) → AllTab q (K w.params) h → LawAtS l w (K w.params) (CX w) k n x mg fa h)
    (hCX : ∀ (w : World) (H : Hp) (s : Shared) (e : Value) (s' : Shared), CX w [] H s (fun _ _ _ => False) e s' → False) :
    PySem.W.WalkO q loose XP YP l.row.toRowW d [] (fun f vs => PySem.call f vs) := by
  refine Att.attach_callB hn hdf fun w s₀ s₁ mg mb fa o pm cd doc a vs ns G Y ho hd hcd hmg hobj hints hlen hbits hg => ?_
  have KX := hY w _ Y
  have all : AllTab q (K w.params) s₁.heap := fun x c P hx ht => by
    obtain ⟨dL, hm, hn1⟩ := List.any_eq_true.mp hx
    have hf : ((PyProof.Rows.recsOf q).find? fun e => e.name == x).isSome = true := List.find?_isSome.mpr ⟨dL, hm, hn1⟩
    obtain ⟨d2, hd2⟩ := Option.isSome_iff_exists.mp hf
    exact PySem.W.tab_of G.T KX hd2 ht
  obtain ⟨fd, cs, sp, hT, nT, C, hb, hsp, hF⟩ := F w mg fa _ Y KX G.T.g hmg all
  exact law_callTs KX G.T.g G.T.b G.T.builtins G.T.nolimit hg hT nT C G.T.bmain hobj hints (Nat.le_trans hlen hn2) hr hF hb (fun H hH hS => hsp H a ns hlen hbits hH hS) fun H e s' => hCX w H s₁ e s'
end S4

namespace S4
open PySem L2 TT MM EE
/-! ### what is wanted, by a given -/
def dsP (p : Int) (r g : List Int) (i : Nat) : Int := ((List.range i).map fun j => r.getD j 0 * g.getD j 0).sum % p
theorem dsP_zero (p : Int) (r g : List Int) : dsP p r g 0 = 0 := by unfold dsP; simp
theorem dsP_succ (p : Int) (r g : List Int) (i : Nat) : dsP p r g (i + 1) = (dsP p r g i + r.getD i 0 * g.getD i 0) % p := by
  unfold dsP
  rw [List.range_succ, List.map_append, List.sum_append, Int.emod_add_emod]
  simp
theorem dsP_all (p : Int) (r g : List Int) : dsP p r g r.length = dotM p r g := rfl
def wantV (p : Int) (A : List (List (List Int))) (g : List Int) : List (List Int) := A.map fun own => own.map fun r => dotM p r g
def scWa : Scope := { kind := .function, names := [(".0", .local), ("rows", .local), ("bare", .globalImplicit), ("sheet", .cell), ("starts", .cell)], isGenerator := false, isCoroutine := false }
section
variable {P : Program} {w : World} {K : PySem.W.Frag} {mg : Str → Option Value} {base : Heap} {cT cS : Addr}
def spMixed1 : Sp := fun vs H Q _ => ∃ (u : V) (a : Addr) (p : Int) (r g : List Int) (us : List V), vs = [.int p, .int 1, u, .ref a] ∧ 2 ≤ p ∧ p ≤ 1000000 ∧ rRow H u r ∧ H a = some (.lst us) ∧ Paired (rRow H) us (g.map fun x => [x]) ∧ r.length = g.length ∧ r.length ≤ 60 ∧ InB p r ∧ InB p g ∧
  ∀ H' v, Same H H' → rRow H' v [dotM p r g] → Q v H'
def spBare : Sp := fun vs H Q _ => ∃ (a : Addr) (us : List V) (l : List Int), vs = [.ref a] ∧ H a = some (.lst us) ∧ Paired (rRow H) us (l.map fun x => [x]) ∧ l.length ≤ 1000 ∧ ∀ H' v, Same H H' → rRow H' v l → Q v H'
def spChG (cT cS : Addr) : Sp := fun vs H Q _ => ∃ (u v : V) (S : SD) (n : Nat) (g : List Int), vs = [u, v] ∧ rSheet cT cS H u S ∧ SheetOk S n ∧ rRow H v g ∧ isRow g S.p S.holds.sum ∧ ∀ H', Same H H' → Q .non H'
def spWanted (cT cS : Addr) : Sp := fun vs H Q _ => ∃ (u v : V) (S : SD) (n : Nat) (g : List Int), vs = [u, v] ∧ rSheet cT cS H u S ∧ SheetOk S n ∧ rRow H v g ∧ isRow g S.p S.holds.sum ∧ ∀ H' v', Same H H' → rTup rRow H' v' (wantV S.p S.wants g) → Q v' H'
end
end S4

namespace S4
open PySem L2 TT MM EE
/-! ### the two sides, the rank, as data -/
/-! ### tolls -/
section
variable {P : Program} {w : World} {K : PySem.W.Frag} {mg : Str → Option Value} {base : Heap} {cT cS : Addr}
def spTolls (cT cS : Addr) : Sp := fun vs H Q _ => ∃ (u : V) (S : SD) (n : Nat), vs = [u] ∧ rSheet cT cS H u S ∧ SheetOk S n ∧
  ∀ H' D m, Same H H' → H D = none → H' D = some (.dT (tollD S n m)) → m.Perm (S.ties ++ flipAll S.ties) → m.Pairwise lxLe → m.Nodup → Q (.ref D) H'
theorem tollD_len (S : SD) (n : Nat) (m : List (Int × Int)) : (tollD S n m).length = m.length := by unfold tollD; rw [List.length_map]
theorem tollD_put {S : SD} {n : Nat} {m : List (Int × Int)} {i : Nat} {z : Int × Int} (nd : m.Nodup) (h : m[i]? = some z) : putK (tollD S n (m.take i)) (wayK z) (.int (rkZ S n z : Nat)) = tollD S n (m.take (i + 1)) := by
  rw [put_new fun p hp e => ?_]
  · unfold tollD
    rw [List.take_succ, h, List.map_append]
    rfl
  · unfold tollD at hp
    obtain ⟨y, hy, rfl⟩ := List.mem_map.mp hp
    have := wayK_inj e
    subst this
    obtain ⟨j, hj⟩ := List.getElem?_of_mem hy
    rw [List.getElem?_take] at hj
    split at hj
    · rename_i hlt
      have h1 := List.getElem?_eq_some_iff.mp hj
      have h2 := List.getElem?_eq_some_iff.mp h
      obtain ⟨a, b⟩ := h1
      obtain ⟨c, d⟩ := h2
      have := (List.getElem_inj (h₀ := a) (h₁ := c) nd).mp (by rw [b, d])
      omega
    · cases hj
end
end S4

namespace S4
open PySem L2 TT MM EE
/-! ### == of trees, of sheets; a thing nested deep; the law's look at flags -/
def sdEq (S1 S2 : SD) : Bool := decide (S1.p = S2.p) && (decide (S1.ties = S2.ties) && (decide (S1.holds = S2.holds) && decide (S1.wants = S2.wants)))
theorem sdEq_self (S : SD) : sdEq S S = true := by unfold sdEq; simp
section
variable {P : Program} {w : World} {K : PySem.W.Frag} {mg : Str → Option Value} {base : Heap} {cT cS : Addr}
def spEqTree (cT : Addr) : Sp := fun vs H Q _ => ∃ (u v : V) (t1 t2 : List (Int × Int)), vs = [u, v] ∧ rTree cT H u t1 ∧ rTree cT H v t2 ∧ Q (.bl (decide (t1 = t2))) H
theorem ok_eqTree (T : Tx K mg cT cS) {f : Addr} {fd : FuncData} (d : DM K "__eq__" "Tree.__eq__" s_Tree_eq ["self", "other"] cT f fd) : FnOk P w K mg base CX0 1 f fd ["self", "other"] (spEqTree cT) := by
  obtain ⟨fT, fdT, kT⟩ := T.k_Tree
  have nt : NoAttr K cT "ties" := kT.na _ (by simp)
  refine d.F.ok sc_Tree_eq (fun vs H Q E h => ?_) (fun cdv A outer s H vs Q E hr h => ?_)
  · obtain ⟨u, v, t1, t2, rfl, _⟩ := h
    rfl
  · obtain ⟨u, v, t1, t2, rfl, ⟨a, dx, t, xs, rfl, h1, h2, h3⟩, ⟨a2, dx2, tt2, xs2, rfl, g1, g2, g3⟩, q⟩ := h
    refine ⟨_, pss_one (ps_ret (pe_and (pe_callB (C8.call_isC T.i_Tree) (by rfl) T.b_isinstance (by decide +kernel) (pa_cons (pv 1) (pa_cons (pe_glob (v := .ref cT) rfl kT.m rfl) pa_nil)))
      (pe_one (pe_cmpR (op_eqD (hu64 hr)) (pe_fld (pv 0) rfl) (pe_fld (pv 1) rfl) (nomark _))))), ?_⟩
    refine ⟨_, rfl, a2, dx2, _, rfl, g1, _, rfl, iteT ?_⟩
    refine ⟨_, rfl, a, cT, dx, _, _, rfl, h1, kT.cl, nt, tfs_ties _ _, _, rfl, a2, cT, dx2, _, _, rfl, g1, kT.cl, nt, tfs_ties _ _, ?_⟩
    exact (enc_tup enc_pi).eqD (by decide) ⟨t, xs, rfl, h2, h3⟩ ⟨tt2, xs2, rfl, g2, g3⟩ q
def spEqSheet (cT cS : Addr) : Sp := fun vs H Q _ => ∃ (u v : V) (S1 S2 : SD), vs = [u, v] ∧ rSheet cT cS H u S1 ∧ rSheet cT cS H v S2 ∧ Q (.bl (sdEq S1 S2)) H
/-- two sheets of the same parts -/
def RSheet (cT cS : Addr) : Addr → Addr → Hp → Prop := fun a b H => ∃ S, rSheet cT cS H (.ref a) S ∧ rSheet cT cS H (.ref b) S
theorem eqSheet_R {f : Addr} {fd : FuncData} (F : FnOk P w K mg base CX0 2 f fd ["self", "other"] (spEqSheet cT cS)) : FnOk P w K mg base CX0 2 f fd ["self", "other"] (spEq (RSheet cT cS)) :=
  F.imp fun vs H Q E ⟨a, b, e, ⟨S, h1, h2⟩, q⟩ => ⟨.ref a, .ref b, S, S, e, h1, h2, by rw [sdEq_self]; exact q H Ext.rfl'⟩
theorem dsheet {H : Hp} {u v : V} {S : SD} (h1 : rSheet cT cS H u S) (h2 : rSheet cT cS H v S) : DIns cS (RSheet cT cS) u v H := by
  obtain ⟨a, dx, _, _, _, rfl, hI, _⟩ := id h1
  obtain ⟨b, dy, _, _, _, rfl, gI, _⟩ := id h2
  exact ⟨a, b, dx, dy, _, _, rfl, rfl, hI, gI, S, h1, h2⟩
def spDeepB : Sp := fun vs H Q _ => vs = [] ∧ ∀ H' a xs, Same H H' → H a = none → H' a = some (.lst xs) → Q (.ref a) H'
theorem kitA_b : PySem.W.kitAny K (.type "bool") [.type "tuple", .type "list"] = some false := by
  unfold PySem.W.kitAny
  rw [show PySem.W.kitOne K (.type "bool") (.type "tuple") = some false from kit_ty (r := false) (by decide +kernel)]
  show PySem.W.kitAny K (.type "bool") [.type "list"] = some false
  unfold PySem.W.kitAny
  rw [show PySem.W.kitOne K (.type "bool") (.type "list") = some false from kit_ty (r := false) (by decide +kernel)]
  rfl
def spIsB : Sp := fun vs H Q _ => ∃ (b : Bool), vs = [.bl b, .bl b] ∧ ∀ H', Same H H' → Q (.bl true) H'
theorem ok_isB (T : Tx K mg cT cS) {f : Addr} {fd : FuncData} (d : D K mg "_law_is" s_law_is ["thing", "due"] f fd) : FnOk P w K mg base CX0 1 f fd ["thing", "due"] spIsB := by
  refine d.F.ok sc_law_is (fun vs H Q E h => ?_) (fun cdv A outer s H vs Q E hr h => ?_)
  · obtain ⟨b, rfl, _⟩ := h
    rfl
  · obtain ⟨b, rfl, q⟩ := h
    refine ⟨_, pss_cons (ps_if (pt_val (pe_callB call_isiT (by rfl) T.b_isinstance (by decide +kernel) (pa_cons (pv 1) (pa_cons (pe_tup (pa_cons (ty_tuple T.b_tuple) (pa_cons (ty_list T.b_list) pa_nil))) pa_nil)))) pss_never pss_nil)
      (pss_one (ps_ret (pe_and (pe_cmpR op_eq (pe_callB call_isi (by rfl) T.b_isinstance (by decide +kernel) (pa_cons (pv 0) (pa_cons (ty_bool T.b_bool) pa_nil))) (pe_callB call_isi (by rfl) T.b_isinstance (by decide +kernel) (pa_cons (pv 1) (pa_cons (ty_bool T.b_bool) pa_nil))) (nomark _))
        (pe_one (pe_cmpR op_eq (pv 0) (pv 1) (nomark _)))))), ?_⟩
    have kbb : PySem.W.kitOne K (.type "bool") (.type "bool") = some true := kit_ty (by decide +kernel)
    refine ⟨_, rfl, by show 2 ≤ sizeLine; decide, fun p np => ⟨_, p, _, _, _, _, rfl, upd_same, .cons (.ty _) (.cons (.ty _) .nil), .base (.bl _), kitA_b, _, rfl, iteF ?_⟩⟩
    refine ⟨_, rfl, _, _, _, _, _, rfl, .ty _, .base (.bl _), kbb, _, rfl, _, _, _, _, _, rfl, .ty _, .base (.bl _), kbb, rfl, true, rfl, ?_⟩
    refine iteT ⟨_, rfl, _, rfl, rfl, ?_⟩
    rw [decide_eq_true rfl]
    exact q _ (same_new np)
end
end S4

/-! == of two dicts with tuples for keys -/
namespace TT
open PySem PySem.Calls PyProof.Rows PyProof.V PySem.Spec L2 PySem.W
section
variable {prog : Program} {w : World} {K : Type} [DecidableEq K] {knd : HeapKind prog w K} {A : Around} {E : Value → Shared → Prop} {s : Shared}
theorem keqH_samePairs {nm : String} {a b : Addr} {xa xb : List (K × Addr × Value)} {Q : Bool → Shared → Prop} (ha : (a == sysModules) = false) (hb : (b == sysModules) = false)
    (da : s.heap.DictOfH knd a xa) (db : s.heap.DictOfH knd b xb) (hu : knd.room A) (hl : xa.length = xb.length) (hits : ∀ (i : Nat) (x : K × Addr × Value), xa[i]? = some x → ∃ (j : Nat) (y : Addr × Value), xb[j]? = some (x.1, y) ∧ SeqAt.EqAt A s x.2.2 y.2 true) (h : Q true s) :
    wpAny (model prog w) A (Builtin.Dict.samePairs nm a b) Q E s := by
  obtain ⟨oa, es, ep, hoa, _, hda, hea, hisa, hna⟩ := da
  obtain ⟨ob, es', ep', hob, _, hdb, heb, hisb, hnb⟩ := db
  have hla := size_of_entries hea
  have hlb := size_of_entries heb
  unfold Builtin.Dict.samePairs Builtin.Dict.showsAll
  rw [if_neg (show ¬ (a == sysModules) = true by rw [ha]; exact Bool.false_ne_true), if_neg (show ¬ (b == sysModules) = true by rw [hb]; exact Bool.false_ne_true)]
  refine wpAny_bind (wpAny_pure (wpAny_bind (wpAny_pure ?_)))
  refine wpAny_bind (wpAny_dictEntries hoa hda ?_)
  dsimp only
  refine wpAny_bind (wpAny_dictEntries hob hdb ?_)
  have hsz : es.size = es'.size := by omega
  rw [if_neg (by rw [hsz]; simp)]
  refine wpAny_bind (wpAny_dictEpoch hoa hda ?_)
  refine wpAny_bind ?_
  rw [Std.Legacy.Range.forIn_eq_forIn_range']
  simp only [Std.Legacy.Range.size, Nat.sub_zero, Nat.add_sub_cancel, Nat.div_one]
  refine wpAny_forIn_list _
    (fun rest q s' => s' = s ∧ q = (none, ()) ∧ ∃ i, rest = List.range' i (es.size - i) ∧ i ≤ es.size)
    _ ?_ ?_ _ _ ⟨rfl, rfl, 0, by simp, Nat.zero_le _⟩
  · rintro x rest q s' ⟨rfl, rfl, i, hr, hi⟩
    have hlt : i < es.size := by
      rcases Nat.lt_or_ge i es.size with h | h
      · exact h
      · rw [Nat.sub_eq_zero_of_le h] at hr; simp at hr
    obtain ⟨rfl, hrest⟩ : x = i ∧ rest = List.range' (i + 1) (es.size - (i + 1)) := by
      have e : es.size - i = (es.size - (i + 1)) + 1 := by omega
      rw [e, List.range'_succ] at hr
      injection hr with h1 h2
      exact ⟨h1, h2⟩
    refine wpAny_bind (wpAny_dictEntries hoa hda ?_)
    rw [Array.getElem?_eq_getElem hlt]
    have hx : xa[x]? = some (xa[x]'(by omega)) := List.getElem?_eq_getElem (by omega)
    have hex : es[x] = entryOfKey knd (xa[x]'(by omega)) := by
      have := entry_at hea x
      rw [Array.getElem?_eq_getElem hlt, hx] at this
      exact Option.some.inj this
    obtain ⟨j, y, hj, he⟩ := hits x _ hx
    generalize xa[x]'(by omega) = X at *
    show wpAny _ _ (holding [es[x].key, es[x].val] _ >>= _) _ _ _
    rw [hex]
    have hkey : knd.is s'.heap X.1 X.2.1 := hisa X (List.mem_of_getElem? hx)
    refine wpAny_bind (wpAny_holding (wpAny_bind (wpAny_dictFind_heap hu hkey hob hdb heb hisb hnb (fun hn => absurd hj (hn j y)) fun j' p hj' => ?_)))
    have hjj := idxH_unique hnb hj hj'
    subst hjj
    have hjlt : j < es'.size := by have := (List.getElem?_eq_some_iff.mp hj).1; omega
    refine wpAny_bind (wpAny_dictEntries hob hdb ?_)
    rw [Array.getElem?_eq_getElem hjlt]
    have hey : es'[j] = entryOfKey knd (X.1, y) := by
      have := entry_at heb j
      rw [Array.getElem?_eq_getElem hjlt, hj] at this
      exact Option.some.inj this
    rw [hey]
    refine wpAny_holding (he prog w _ _ ?_)
    show wpAny _ _ (if (!true) = true then _ else _) _ _ _
    rw [if_neg (by decide)]
    refine wpAny_bind (wpAny_dictEpoch hoa hda ?_)
    rw [if_neg (by simp)]
    exact wpAny_pure ⟨rfl, rfl, x + 1, hrest, hlt⟩
  · rintro q s' ⟨rfl, rfl, i, hr, hi⟩
    exact wpAny_pure h
end
section
variable {prog : Program} {w : World} {K : Type} [DecidableEq K] {knd : HeapKind prog w K} {A : Around} {E : Value → Shared → Prop} {s : Shared}
theorem keqH_eq {a b : Addr} {xa xb : List (K × Addr × Value)} {Q : Value → Shared → Prop} (ha : (a == sysModules) = false) (hb : (b == sysModules) = false)
    (da : s.heap.DictOfH knd a xa) (db : s.heap.DictOfH knd b xb) (hr : knd.room A.in1) (hu : A.units < cLine) (hl : xa.length = xb.length) (hits : ∀ (i : Nat) (x : K × Addr × Value), xa[i]? = some x → ∃ (j : Nat) (y : Addr × Value), xb[j]? = some (x.1, y) ∧ SeqAt.EqAt A.in1 s x.2.2 y.2 true) (h : Q (.bool true) s) :
    wpAny (model prog w) A (compareOp .Eq (.ref a) (.ref b)) Q E s := by
  refine wpAny_richCompare_same_room (op := .Eq) da.typeIs db.typeIs PySem.F.slot_dict_eq (wpAny_call_entry PySem.F.slot_dict_eq da.typeIs PySem.F.entry_dict_eq ?_ (PySem.F.args_dict_eq_2 _ _)) hu
  show wpAny _ _ (Builtin.Dict.dictSlotArgs "__eq__" ⟨[.ref a, .ref b], []⟩ >>= _) _ _ s
  refine wpAny_bind ?_
  unfold Builtin.Dict.dictSlotArgs
  refine wpAny_bind (wpAny_notOrdered_dict da.typeIs ?_)
  show wpAny _ _ (pure (Value.ref a, Value.ref b)) _ _ s
  refine wpAny_pure ?_
  refine wpAny_bind (wpAny_isInstance (T := "dict") db.typeIs PySem.F.sub_dict_dict ?_)
  simp only [Bool.not_true, Bool.false_eq_true, if_false]
  refine wpAny_bind (wpAny_pure (wpAny_bind (wpAny_pure ?_)))
  refine wpAny_bind (keqH_samePairs ha hb da db hr hl hits ?_)
  refine wpAny_pure ⟨_, rfl, ?_, ?_⟩
  · exact fun x => nomatch x
  · simpa using h
theorem keqH_ne {a b : Addr} {xa xb : List (K × Addr × Value)} {Q : Value → Shared → Prop} (ha : (a == sysModules) = false) (hb : (b == sysModules) = false)
    (da : s.heap.DictOfH knd a xa) (db : s.heap.DictOfH knd b xb) (hr : knd.room A.in1) (hu : A.units < cLine) (hl : xa.length = xb.length) (hits : ∀ (i : Nat) (x : K × Addr × Value), xa[i]? = some x → ∃ (j : Nat) (y : Addr × Value), xb[j]? = some (x.1, y) ∧ SeqAt.EqAt A.in1 s x.2.2 y.2 true) (h : Q (.bool false) s) :
    wpAny (model prog w) A (compareOp .NotEq (.ref a) (.ref b)) Q E s := by
  refine wpAny_richCompare_same_room (op := .NotEq) da.typeIs db.typeIs PySem.F.slot_dict_ne (wpAny_call_entry PySem.F.slot_dict_ne da.typeIs PySem.F.entry_dict_ne ?_ (PySem.F.args_dict_ne_2 _ _)) hu
  show wpAny _ _ (Builtin.Dict.dictSlotArgs "__ne__" ⟨[.ref a, .ref b], []⟩ >>= _) _ _ s
  refine wpAny_bind ?_
  unfold Builtin.Dict.dictSlotArgs
  refine wpAny_bind (wpAny_notOrdered_dict da.typeIs ?_)
  show wpAny _ _ (pure (Value.ref a, Value.ref b)) _ _ s
  refine wpAny_pure ?_
  refine wpAny_bind (wpAny_isInstance (T := "dict") db.typeIs PySem.F.sub_dict_dict ?_)
  simp only [Bool.not_true, Bool.false_eq_true, if_false]
  refine wpAny_bind (wpAny_pure (wpAny_bind (wpAny_pure ?_)))
  refine wpAny_bind (keqH_samePairs ha hb da db hr hl hits ?_)
  refine wpAny_pure ⟨_, rfl, ?_, ?_⟩
  · exact fun x => nomatch x
  · simpa using h
end
section
variable {X : Cx}
theorem paired_getK {α β : Type} {F : α → β → Prop} : ∀ {xs : List α} {l : List β}, Paired F xs l → ∀ {i : Nat} {b : β}, l[i]? = some b → ∃ a, xs[i]? = some a ∧ F a b
  | _, _, .nil, i, b, h => by simp at h
  | _, _, .cons h t, 0, b, e => ⟨_, rfl, by cases (Option.some.inj e); exact h⟩
  | _, _, .cons h t, i + 1, b, e => paired_getK t (i := i) e
theorem paired_getL {α β : Type} {F : α → β → Prop} : ∀ {xs : List α} {l : List β}, Paired F xs l → ∀ {i : Nat} {a : α}, xs[i]? = some a → ∃ b, l[i]? = some b ∧ F a b
  | _, _, .nil, i, b, h => by simp at h
  | _, _, .cons h t, 0, b, e => ⟨_, rfl, by cases (Option.some.inj e); exact h⟩
  | _, _, .cons h t, i + 1, b, e => paired_getL t (i := i) e
def rEqDT : R2 := fun x y H Q => ∃ a b kvs, x = .ref a ∧ y = .ref b ∧ H a = some (.dT kvs) ∧ H b = some (.dT kvs) ∧ (∀ p ∈ kvs, flatB p.2 = true) ∧ Q (.bl true) H
theorem op_eqDT (hr : (tupleKind (mixKind X.prog X.w)).room X.A.in1) (hu : X.A.units < cLine) : OpR X (compareOp .Eq) rEqDT := by
  intro pins s σ H x y v u Q I rx ry h
  obtain ⟨a, b, kvs, rfl, rfl, ea, eb, fl, q⟩ := h
  obtain rfl : v = Value.ref a := rx
  obtain rfl : u = Value.ref b := ry
  obtain ⟨_, ya, xa, ra, da⟩ := dt_of I.hok ea
  obtain ⟨_, yb, xb, rb, db⟩ := dt_of I.hok eb
  refine keqH_eq ya yb da db hr hu (ra.length.symm.trans rb.length) (fun i z hz => ?_) (fin_bl I q rfl)
  obtain ⟨p, hp, e1, _, e3⟩ := paired_getK ra hz
  obtain ⟨z', hz', f1, _, f3⟩ := paired_getL rb hp
  refine ⟨i, z'.2, ?_, eqAt_same e3 f3 (fl p (List.mem_of_getElem? hp))⟩
  rw [hz', ← e1, f1]
def rNeDT : R2 := fun x y H Q => ∃ a b kvs, x = .ref a ∧ y = .ref b ∧ H a = some (.dT kvs) ∧ H b = some (.dT kvs) ∧ (∀ p ∈ kvs, flatB p.2 = true) ∧ Q (.bl false) H
theorem op_neDT (hr : (tupleKind (mixKind X.prog X.w)).room X.A.in1) (hu : X.A.units < cLine) : OpR X (compareOp .NotEq) rNeDT := by
  intro pins s σ H x y v u Q I rx ry h
  obtain ⟨a, b, kvs, rfl, rfl, ea, eb, fl, q⟩ := h
  obtain rfl : v = Value.ref a := rx
  obtain rfl : u = Value.ref b := ry
  obtain ⟨_, ya, xa, ra, da⟩ := dt_of I.hok ea
  obtain ⟨_, yb, xb, rb, db⟩ := dt_of I.hok eb
  refine keqH_ne ya yb da db hr hu (ra.length.symm.trans rb.length) (fun i z hz => ?_) (fin_bl I q rfl)
  obtain ⟨p, hp, e1, _, e3⟩ := paired_getK ra hz
  obtain ⟨z', hz', f1, _, f3⟩ := paired_getL rb hp
  refine ⟨i, z'.2, ?_, eqAt_same e3 f3 (fl p (List.mem_of_getElem? hp))⟩
  rw [hz', ← e1, f1]
end
end TT

/-! several except clauses that all bind one name -/
namespace L2
open PySem PySem.Spec PyProof.Rows
/-- what the clauses, each with the name in cell i, wish of an exception of the body -/
def wAsM (K : PySem.W.Frag) (i : Nat) (Wout : WX) (D : Ends) : List (Value × (Addr → Value → Option Addr → TS)) → WX
  | [] => Wout
  | (c, ts) :: r => fun cls d σ H => ∃ b, PySem.W.exmOne K cls c = some b ∧ (b = true → ∀ a, H a = none → ts a cls d { nx := fun σ' H' => D.nx (σ'.set i none) H', rt := D.rt, bk := fun σ' H' => D.bk (σ'.set i none) H', ct := fun σ' H' => D.ct (σ'.set i none) H' } (σ.set i (some (.ref a))) H) ∧
    (b = false → wAsM K i Wout D r cls d σ H)
inductive HdsAs (X : Cx) (n : Str) : List ExceptHandler → List (Value × (Addr → Value → Option Addr → TS)) → Prop
  | nil : HdsAs X n [] []
  | cons {x : Str} {c : Value} {ts : Addr → Value → Option Addr → TS} {b₀ : Stmt} {suite : List Stmt} {np pos' : Pos} {hds : List ExceptHandler} {l : List (Value × (Addr → Value → Option Addr → TS))} (hc : Names X x c)
      (hsu : ∀ (a : Addr) (oe : Obj) (cls : Value) (d : Option Addr) (pn : List (Addr × Obj)), Zc cls d oe → (∃ vs, oe.data = .fields vs) → PSs (X.suite a ((a, oe) :: pn)) (b₀ :: suite) (ts a cls d)) (r : HdsAs X n hds l) :
      HdsAs X n (.ExceptHandler (some (.Name x np)) (some n) (b₀ :: suite) pos' :: hds) ((c, ts) :: l)
section
variable {X : Cx} {n : Str} {i : Nat} {body : List Stmt} {h₀ : ExceptHandler} {hds : List ExceptHandler} {l : List (Value × (Addr → Value → Option Addr → TS))} {pos : Pos} {tb : WX → TS} {Wout : WX}
theorem ps_try_asM (hs : X.stack = X.env :: X.outer) (hf : X.env.frame = some X.env.locals) (hN : X.N.Nodup) (hi : X.N[i]? = some n) (hln : X.env.kindOf n = some .local) (tk : Takes X Wout)
    (hb : ∀ (W : WX) (pn : List (Addr × Obj)) (xe : Value → Shared → Prop), Takes (X.tr pn xe) W → PassesOwn (model X.prog X.w) X.A X.env xe → PSs (X.tr pn xe) body (tb W))
    (hh : HdsAs X n (h₀ :: hds) l) : PS X (.Try body (h₀ :: hds) [] [] pos) (fun D σ H => tb (wAsM X.K i Wout D l) D σ H) := by
  refine ⟨fun pins s σ H D I h => ?_⟩
  have ok := I.ok
  have hfr : X.A.frames = some (X.env :: X.outer) := by rw [ok.frames, hs]
  have hloc : Loc X.env.scope n := .inl hln
  refine wpAny_Try_except ?_
  refine wpAny_mono ((hb (wAsM X.K i Wout D l) (X.pn ++ pins) (fun e s₁ => wpAny (model X.prog X.w) X.A (noteFrame e X.env) (fun _ s₂ => wpAny (model X.prog X.w) X.A (setFlight e none) (fun _ s₃ =>
    wpAny (model X.prog X.w) X.A (handleBy e X.env (h₀ :: hds)) (SP X pins D) X.xe s₃) X.xe s₂) X.xe s₁) (fun u s' xx => ?_) PassesOwn.looking).run [] s σ H D (I.toTry _) h) (fun f s1 hsp => ?_) (fun e s1 he => he)
  · obtain ⟨a, B, sI, pins', σ', H', cls, d, rfl, J', nb, up, sky, na, os, ag, w⟩ := xx
    have J : Inv X pins σ' H' sI := J'.ofTry ok
    have sky' : Sky B (X.env :: X.outer) a (Zc cls d) X.env.locals s'.heap := by rw [← hs]; exact sky
    show wpAny (model X.prog X.w) X.A (noteFrame (.ref a) X.env) _ _ _
    refine Sky.land Zc.steady hfr hf sky' fun h3 fl3 up3 => ?_
    have J3 : Inv X pins σ' H' { s' with heap := h3 } := J.landed nb fl3.1 (up.trans up3) os ag
    obtain ⟨oe3, vs3, he3, hz3, hd3⟩ := fl3.there
    have nfr : a ∉ frs (X.env :: X.outer) := fun hm => by
      obtain ⟨_, o', e', hnf⟩ := fl3.2.2.1.mem hm
      rw [he3] at e'; cases e'
      exact hnf _ hd3
    have nL : a ≠ X.env.locals := fun z => nfr (List.mem_filterMap.mpr ⟨X.env, List.mem_cons_self, by rw [hf, z]⟩)
    have nF : a ∉ X.fs := fun hm => by
      obtain ⟨e, he, q⟩ := List.mem_filterMap.mp hm
      exact nfr (List.mem_filterMap.mpr ⟨e, List.mem_cons_of_mem _ he, q⟩)
    have S3 := J3.suite he3 hd3 na nL nF
    have go : ∀ {hds' : List ExceptHandler} {l' : List (Value × (Addr → Value → Option Addr → TS))}, HdsAs X n hds' l' → wAsM X.K i Wout D l' cls d σ' H' →
        wpAny (model X.prog X.w) X.A (handleBy (.ref a) X.env hds') (SP X pins D) X.xe { s' with heap := h3 } := by
      intro hds' l' hk
      induction hk with
      | nil =>
        intro w
        refine wpAny_handleBy_nil ?_
        obtain ⟨k1, k2, k3, oe, vs, T, oT, ts', he, hz, hd, h1, hr⟩ := id fl3
        unfold PySem.passOn
        refine wpAny_bind (wpAny_field he hd h1 ?_)
        rw [if_neg (show ¬ ((Value.ref T == Value.none) = true) from by simp)]
        have fin : wpAny (model X.prog X.w) X.A (setFlight (.ref a) X.env.frame) (fun _ s4 => wpAny (model X.prog X.w) X.A (throw (.ref a) : Sem Flow) (SP X pins D) X.xe s4) X.xe { s' with heap := h3 } := by
          rw [hf]
          refine HandSPX.setFlight_upZ fl3 fun h4 hh4 up4 => wpAny_throw (tk _ _ ?_)
          exact ⟨a, B, sI, pins, σ', H', cls, d, rfl, J, nb, (up.trans up3).trans up4, .inr (.inr (by rw [hs]; exact hh4)), na, os, ag, w⟩
        first
          | exact wpAny_bind (wpAny_pure (wpAny_bind fin))
          | exact wpAny_bind fin
      | @cons x c ts b₀ suite np pos' hds2 l2 hc hsu r ih =>
        intro w
        obtain ⟨b, hb1, hyes, hno⟩ := w
        refine wpAny_handleBy_cons (codeAny_handlers_test ?_) (by intro q; cases q)
        have LT : PySem.W.Looks (model X.prog X.w) h3 (typeOf (.ref a)) cls := fun A Q E s k q => wpAny_typeOf_ref (k _ _ he3) (by rw [hz3.1]; exact q)
        have LM := PySem.W.exm_one (M := model X.prog X.w) (J3.kIn) LT hb1
        have test : ∀ {Q : Value → Shared → Prop} {E : Value → Shared → Prop}, Q c { s' with heap := h3 } → wpAny (model X.prog X.w) (X.A.mark (some (.ref a))) (eval (.Name x np) X.env) Q E { s' with heap := h3 } := fun {Q E} q => by
          obtain ⟨hg, hdbg, hm | ⟨hm, hv, hnn⟩⟩ := hc
          · exact ld_glob (X := X.suite a ((a, oe3) :: (X.pn ++ pins))) S3 hg hm q hdbg
          · exact ld_blt (X := X.suite a ((a, oe3) :: (X.pn ++ pins))) S3 hg hm hv q hnn hdbg
        refine test (LM.here ?_)
        cases b with
        | true =>
          refine codeAny_handlers_suite_as ?_
          refine HandSPX.lands_againZ fl3 fun h4 fl4 up4 => ?_
          have J4 : Inv X pins σ' H' { s' with heap := h4 } := J.landed nb fl4.1 ((up.trans up3).trans up4) os ag
          obtain ⟨oe4, vs4, he4, hz4, hd4⟩ := fl4.there
          have S4 := J4.suite he4 hd4 na nL nF
          refine store_ok (X := X.suite a ((a, oe4) :: (X.pn ++ pins))) (v := .ref a) S4 hN hi hloc rfl (fun s5 S5 => ?_) (.inr hln)
          refine wpAny_mono ((hsu a oe4 cls d (X.pn ++ pins) hz4 ⟨_, hd4⟩).run [] s5 _ H' _ S5 (hyes rfl a na)) (fun f s6 hsp => ?_) (fun _ _ z => False.elim z)
          have end_ : ∀ {σ6 : St} {H6 : Hp} {Q : Shared → Prop}, Inv (X.suite a ((a, oe4) :: (X.pn ++ pins))) [] σ6 H6 s6 → (∀ s7, Inv X pins (σ6.set i none) H6 s7 → Q s7) →
              wpAny (model X.prog X.w) X.A (do bindName X.env n .none; unbindBehindTheSuite X.env n pos') (fun _ s7 => Q s7) X.xe s6 := fun {σ6 H6 Q} S6 hq => gone_ok (S6.unsuite ok) hN hi hln hq
          cases f with
          | next =>
            obtain ⟨σ6, H6, S6, q6⟩ := hsp
            exact end_ S6 fun s7 J7 => ⟨_, _, J7, q6⟩
          | brk =>
            obtain ⟨σ6, H6, S6, q6⟩ := hsp
            exact end_ S6 fun s7 J7 => ⟨_, _, J7, q6⟩
          | cont =>
            obtain ⟨σ6, H6, S6, q6⟩ := hsp
            exact end_ S6 fun s7 J7 => ⟨_, _, J7, q6⟩
          | ret u =>
            obtain ⟨v6, σ6, H6, S6, r6, q6⟩ := hsp
            exact end_ S6 fun s7 J7 => ⟨_, _, _, J7, r6, q6⟩
        | false =>
          show wpAny _ X.A (handleBy (.ref a) X.env hds2) _ _ _
          exact ih (hno rfl)
    exact go hh w
  · cases f with
    | next =>
      obtain ⟨σ', H', J', q⟩ := hsp
      exact wpAny_execs_nil ⟨σ', H', J'.ofTry ok, q⟩
    | brk =>
      obtain ⟨σ', H', J', q⟩ := hsp
      exact ⟨σ', H', J'.ofTry ok, q⟩
    | cont =>
      obtain ⟨σ', H', J', q⟩ := hsp
      exact ⟨σ', H', J'.ofTry ok, q⟩
    | ret u =>
      obtain ⟨v, σ', H', J', r, q⟩ := hsp
      exact ⟨v, σ', H', J'.ofTry ok, r, q⟩
end
end L2

namespace S4
open PySem L2 TT MM EE
/-! ### mirrored, staying -/
theorem iteT' {b : Bool} {p q : Prop} (h : b = true) (x : p) : if b = true then p else q := by rw [if_pos h]; exact x
theorem iteF' {b : Bool} {p q : Prop} (h : b = false) (x : q) : if b = true then p else q := by rw [h]; exact x
theorem tIf_any {t : TT} {ta tb : TE} {σ : St} {H : Hp} {Q : VK} (C : Hp → V → Prop) (h : ∀ Q' : VK, (∀ HX x, C HX x → Q' x HX) → tIf t ta tb σ H Q') (y : ∀ HX x, C HX x → Q x HX) : tIf t ta tb σ H Q := h Q y
theorem tIfS_any {c : TT} {t u : TS} {D : Ends} {σ : St} {H : Hp} (C : St → Hp → Prop) (h : ∀ N : St → Hp → Prop, (∀ σ' H', C σ' H' → N σ' H') → tIfS c t u { D with nx := N } σ H) (y : ∀ σ' H', C σ' H' → D.nx σ' H') : tIfS c t u D σ H := h D.nx y
theorem byp_ok {p : Int} {ties : List (Int × Int)} {holds counts : List Int} {n : Nat} {A : List (List Int)} (ht : TiesOk ties n) (clk : NoDiv p) (hh : CountsOk holds n) (hc : CountsOk counts n) (hl : counts.sum = (A.length : Int)) (hr : ∀ r ∈ A, isRow r p holds.sum) : SheetOk ⟨p, ties, holds, byP counts n A⟩ n := by
  have hs := hc.s
  refine ⟨ht, clk, hh, ⟨?_, fun rows hrw => ?_, ?_⟩⟩
  · show ((List.range n).map _).length = n
    simp
  · obtain ⟨j, hj, rfl⟩ := List.mem_map.mp hrw
    have hj := List.mem_range.mp hj
    refine ⟨by rw [List.length_map]; exact (heldL_ln hc hj).2, fun r hr2 => ?_⟩
    obtain ⟨i, hi, rfl⟩ := List.mem_map.mp hr2
    obtain ⟨i0, i1⟩ := heldL_in hc hi
    have hi' : i.toNat < A.length := by omega
    rw [getD_at (List.getElem?_eq_getElem hi')]
    exact hr _ (List.getElem_mem _)
  · show ((byP counts n A).map List.length).sum ≤ 60
    rw [byP_sum hc]
    omega
def cntW (S : SD) : List Int := S.wants.map fun own => (own.length : Int)
theorem cntW_ok {S : SD} {n : Nat} (ok : SheetOk S n) : CountsOk (cntW S) n := by
  refine ⟨by unfold cntW; rw [List.length_map]; exact ok.wants.len, fun x hx => ?_, ?_⟩
  · obtain ⟨own, ho, rfl⟩ := List.mem_map.mp hx
    have := (ok.wants.b own ho).1
    omega
  · unfold cntW
    rw [sum_lens]
    have := ok.wants.s
    omega
theorem atI_nat0 {xs : List V} {i : Nat} {x : V} (h : xs[i]? = some x) : atI xs (0 + (i : Int)) = some x := by rw [Int.zero_add]; exact atI_nat h
def scMi : Scope := { kind := .function, names := [(".0", .local), ("number", .cell), ("tuple", .globalImplicit), ("rows", .cell)], isGenerator := false, isCoroutine := false }
/-- the table turned: one row for each of wd places -/
def colsL (wd : Nat) (rows : List (List Int)) : List (List Int) := (List.range wd).map fun k => rows.map fun r => r.getD k 0
theorem colsL_len (wd : Nat) (rows : List (List Int)) : (colsL wd rows).length = wd := by unfold colsL; rw [List.length_map, List.length_range]
theorem colsL_row {p : Int} {wd : Nat} {rows : List (List Int)} (p2 : 2 ≤ p) (hr : ∀ r ∈ rows, isRow r p wd) : ∀ c ∈ colsL wd rows, isRow c p rows.length := fun c hc => by
  obtain ⟨k, hk, rfl⟩ := List.mem_map.mp hc
  refine ⟨by rw [List.length_map], fun x hx => ?_⟩
  obtain ⟨r, hr2, rfl⟩ := List.mem_map.mp hx
  have h := hr r hr2
  have hk : k < r.length := by rw [isRow_len2 h]; exact List.mem_range.mp hk
  rw [getD_at (List.getElem?_eq_getElem hk)]
  exact h.2 _ (List.getElem_mem _)
/-- the sheet of the turned table -/
def mirS (S : SD) (n wd : Nat) : SD := ⟨S.p, S.ties, cntW S, byP S.holds n (colsL wd (rowsW S))⟩
theorem mir_ok {S : SD} {n wd : Nat} (ok : SheetOk S n) (hwd : S.holds.sum = (wd : Int)) : SheetOk (mirS S n wd) n :=
  byp_ok ok.ties ok.clock (cntW_ok ok) ok.holds (by rw [colsL_len]; exact hwd) fun r hr => by
    have h := colsL_row (p := S.p) ok.clock.1 (fun r hr => by rw [← hwd]; exact rowsW_row ok r hr) r hr
    have e : (cntW S).sum = ((rowsW S).length : Int) := sum_cnt S
    rw [e]
    exact h
/-- the sheet in which each post wants what it holds -/
def staS (p : Int) (ties : List (Int × Int)) (holds : List Int) (n wd : Nat) : SD := ⟨p, ties, holds, byP holds n (uRows wd)⟩
theorem sta_ok {p : Int} {ties : List (Int × Int)} {holds : List Int} {n wd : Nat} (ht : TiesOk ties n) (clk : NoDiv p) (hh : CountsOk holds n) (hwd : holds.sum = (wd : Int)) : SheetOk (staS p ties holds n wd) n :=
  byp_ok ht clk hh hh (by unfold uRows; rw [List.length_map, List.length_range]; exact hwd) fun r hr => by
    obtain ⟨k, hk, rfl⟩ := List.mem_map.mp hr
    rw [hwd]
    exact unit_row clk.1 (List.mem_range.mp hk)
section
variable {P : Program} {w : World} {K : PySem.W.Frag} {mg : Str → Option Value} {base : Heap} {cT cS : Addr}
def spMir (cT cS : Addr) : Sp := fun vs H Q _ => ∃ (u : V) (S : SD) (n wd : Nat), vs = [u] ∧ rSheet cT cS H u S ∧ SheetOk S n ∧ S.holds.sum = (wd : Int) ∧ ∀ H' v, Same H H' → rSheet cT cS H' v (mirS S n wd) → Q v H'
def spCkC (cT : Addr) : Sp := fun vs H Q _ => ∃ (u v : V) (ties : List (Int × Int)) (holds : List Int) (n : Nat), vs = [u, v] ∧ rTree cT H u ties ∧ TiesOk ties n ∧ rRow H v holds ∧ CountsOk holds n ∧ ∀ H', Same H H' → Q .non H'
theorem ok_ckC (T : Tx K mg cT cS) {f : Addr} {fd : FuncData} (d : D K mg "check_counts" s_check_counts ["tree", "thing"] f fd) : FnOk P w K mg base CX0 4 f fd ["tree", "thing"] (spCkC cT) := by
  obtain ⟨f1, fd1, d1⟩ := T.d_are_counts
  have G1 := ok_are_counts (P := P) (w := w) (base := base) T d1
  refine d.F.ok sc_check_counts (fun vs H Q E h => ?_) (fun cdv A outer s H vs Q E hr h => ?_)
  · obtain ⟨u, v, ties, holds, n, rfl, _⟩ := h
    rfl
  · obtain ⟨u, v, ties, holds, n, rfl, hT, ht, hv, hc, q⟩ := h
    refine ⟨_, pss_one (ps_if (pt_not (pt_val (pe_call G1 (hr.mono (by decide)) rfl d1.m d1.F.kp d1.b .nil pass0 (pa_cons (pv 0) (pa_cons (pv 1) pa_nil))))) pss_never pss_nil), ?_⟩
    refine ⟨_, rfl, _, rfl, u, v, ties, holds, n, rfl, hT, ht.len, ht.n24, hv, hc, fun H1 s1 => ⟨_, rfl, iteF' (b := !true) rfl ?_⟩⟩
    exact q _ s1
def spSta (cT cS : Addr) : Sp := fun vs H Q _ => ∃ (u v : V) (p : Int) (ties : List (Int × Int)) (holds : List Int) (n wd : Nat), vs = [.int p, u, v] ∧ NoDiv p ∧ rTree cT H u ties ∧ TiesOk ties n ∧ rRow H v holds ∧ CountsOk holds n ∧ holds.sum = (wd : Int) ∧
  ∀ H' v', Same H H' → rSheet cT cS H' v' (staS p ties holds n wd) → Q v' H'
end
end S4

namespace S4
open PySem L2 TT MM
/-! ### trees whose ties may stand in the written part -/
def rPIK (K : PySem.W.Frag) : Rp (Int × Int) := fun H v z => ∃ t, v = .ref t ∧ SqT K H t [.int z.1, .int z.2]
def rTupK {α : Type} (K : PySem.W.Frag) (R : PySem.W.Frag → Rp α) : Rp (List α) := fun H v l => ∃ t xs, v = .ref t ∧ SqT K H t xs ∧ Paired (R K H) xs l
theorem sqtK {K : PySem.W.Frag} {H H' : Hp} {t : Addr} {xs : List V} (k : Keep H H') (h : SqT K H t xs) : SqT K H' t xs := by
  rcases h with (h | ⟨o, h⟩) | h
  · exact .inl (.inl (k.tup h))
  · exact .inl (.inr ⟨o, k _ _ (fun _ z => nomatch z) h⟩)
  · exact .inr h
theorem mono_piK (K : PySem.W.Frag) : Mono (rPIK K) := fun _ _ _ _ k ⟨t, e, h⟩ => ⟨t, e, sqtK k h⟩
theorem tyT {K : PySem.W.Frag} {H : Hp} {t : Addr} {xs : List V} (h : SqT K H t xs) : TyX K H (.ref t) (.type "tuple") := by
  rcases h with (h | ⟨o, h⟩) | ⟨o, its, n, h, c, _⟩
  · exact .base (.tup h)
  · exact .fTuple h
  · exact .kTuple h c
theorem rTupK_of {K : PySem.W.Frag} {H : Hp} {v : V} {ties : List (Int × Int)} (h : rTup rPI H v ties) : rTupK K rPIK H v ties := by
  obtain ⟨t, xs, e, h1, h2⟩ := h
  exact ⟨t, xs, e, .of h1, Paired.mapP h2 fun _ _ ⟨t2, e2, h3⟩ => ⟨t2, e2, .of h3⟩⟩
/-- a tree of n posts, as far as its number goes -/
def rPosts (cT : Addr) : Rp Nat := fun H v n => ∃ a dx fs, v = .ref a ∧ H a = some (.ins cT dx fs) ∧ fs.lookup ("posts" : Str) = some (.int (n : Int))
theorem mono_posts (cT : Addr) : Mono (rPosts cT) := fun _ _ _ _ k ⟨a, dx, fs, e, h1, h2⟩ => ⟨a, dx, fs, e, k.ins h1, h2⟩
section
variable {P : Program} {w : World} {K : PySem.W.Frag} {mg : Str → Option Value} {base : Heap} {cT cS : Addr}
def spIsPairK (K : PySem.W.Frag) : Sp := fun vs H Q _ => ∃ t x y, vs = [.ref t] ∧ SqT K H t [x, y] ∧ Q (.bl true) H
theorem ok_is_pairK (T : Tx K mg cT cS) {f : Addr} {fd : FuncData} (d : D K mg "is_pair" s_is_pair ["thing"] f fd) : FnOk P w K mg base CX0 1 f fd ["thing"] (spIsPairK K) := by
  refine d.F.ok sc_is_pair (fun vs H Q E h => ?_) (fun cdv A outer s H vs Q E hr h => ?_)
  · obtain ⟨t, x, y, rfl, _⟩ := h
    rfl
  · obtain ⟨t, x, y, rfl, ht, q⟩ := h
    refine ⟨_, pss_one (ps_ret (pe_and (pe_callB call_isi (by rfl) T.b_isinstance (by decide +kernel) (pa_cons (pv 0) (pa_cons (ty_tuple T.b_tuple) pa_nil)))
      (pe_one (pe_cmpR op_eq (pe_callB call_len_seq (by rfl) T.b_len PySem.boot_len (pa_cons (pv 0) pa_nil)) pe_int (nomark _))))), ?_⟩
    exact ⟨_, rfl, _, _, _, _, _, rfl, .ty _, tyT ht, kit_tt, _, rfl, iteT ⟨_, rfl, _, _, rfl, .inr (ht), rfl, q⟩⟩

def spNbrK (K : PySem.W.Frag) : Sp := fun vs H Q _ => ∃ (v : V) (ties : List (Int × Int)) (post : Int), vs = [v, .int post] ∧ rTupK K rPIK H v ties ∧ ties.length ≤ 1000 ∧
  ∀ H' v' ns, Same H H' → rRow H' v' ns → ns.Perm (nb ties post) → Up ns → Q v' H'
theorem ok_neighboursK (T : Tx K mg cT cS) {f : Addr} {fd : FuncData} (d : D K mg "neighbours" s_neighbours ["ties", "post"] f fd) : FnOk P w K mg base CX0 1 f fd ["ties", "post"] (spNbrK K) := by
  refine d.F.ok sc_neighbours (fun vs H Q E h => ?_) (fun cdv A outer s H vs Q E hr h => ?_)
  · obtain ⟨v, ties, post, rfl, _⟩ := h
    rfl
  · obtain ⟨v, ties, post, rfl, ⟨t, xs, rfl, ht, hp⟩, hl, q⟩ := h
    refine ⟨_, pss_one (ps_ret (pe_callTy call_tuple_of (by rfl) T.b_tuple (by decide +kernel) (pa_cons (pe_callB cr_sortedI (by rfl) T.b_sorted (by decide +kernel) (pa_cons
        (pe_lc (own := [("tie", 2)]) (g := gName 2) rfl sc_neighbours.nd (pi_tup (pv 0)) (blkOk_by (N := N_neighbours) (sc := defScope s_neighbours) (by decide +kernel)) (fun _ _ _ _ _ => pg_name (i := 2) sc_neighbours.nd rfl (Or.inl rfl))
          (fun _ _ _ _ _ => pts_one (pt_cmpR (inS (K := K) rfl) (pv 1) (pv 2) (by rfl)))
          (fun _ _ _ _ _ => pe_ifExp (pt_cmpR op_eq (pe_ix (ixT (K := K) rfl) (pv 2) pe_int (fun _ _ => rfl)) (pv 1) (nomark _)) (pe_ix (ixT (K := K) rfl) (pv 2) pe_int (fun _ _ => rfl)) (pe_ix (ixT (K := K) rfl) (pv 2) pe_int (fun _ _ => rfl)))) pa_nil)) pa_nil))), ?_⟩
    refine ⟨_, rfl, t, rfl, ⟨_, ht⟩, fun D hD => ?_⟩
    refine lc_fm (walk_tup (xs := xs)) rInt (fun i => ties[i]?.bind (nbOf post)) hD (fun H' s' => (sqtK s'.keep ht)) ?_ ?_
    · rintro i x H2 H3 hi pv ⟨rfl, hx⟩
      obtain ⟨z, hz, t2, rfl, ht2⟩ := paired_get (paired_mono (mono_piK K) pv.1.keep hp) hx
      have hlen := paired_len hp
      refine ⟨rfl, _, rfl, _, rfl, t2, _, rfl, .inr (ht2), rfl, rfl, _, rfl, ?_⟩
      rw [if_neg Bool.false_ne_true, inV2]
      by_cases hc : z.1 = post ∨ z.2 = post
      · rw [decide_eq_true hc]
        refine iteT ?_
        refine ⟨_, rfl, t2, _, _, _, rfl, rfl, ht2, at_of (j := 0) rfl rfl, _, rfl, rfl, _, rfl, ?_⟩
        have hf : ties[i]?.bind (nbOf post) = some (if z.1 = post then z.2 else z.1) := by
          rw [hz]
          show nbOf post z = _
          unfold nbOf
          rw [if_pos hc]
        by_cases h1 : z.1 = post
        · have e1 : V.int z.1 = V.int post := by rw [h1]
          rw [decide_eq_true e1]
          refine iteT ⟨_, rfl, t2, _, _, _, rfl, rfl, ht2, at_of (j := 1) rfl rfl, ?_⟩
          exact fm_keep mono_int pv hD (by omega) (Same.refl _) hf (by rw [if_pos h1]; rfl)
        · have e1 : ¬ V.int z.1 = V.int post := fun e => h1 (V.int.inj e)
          rw [decide_eq_false e1]
          refine iteF ⟨_, rfl, t2, _, _, _, rfl, rfl, ht2, at_of (j := 0) rfl rfl, ?_⟩
          exact fm_keep mono_int pv hD (by omega) (Same.refl _) hf (by rw [if_neg h1]; rfl)
      · rw [decide_eq_false hc]
        refine iteF (fm_skip mono_int pv (Same.refl _) ?_)
        rw [hz]
        show nbOf post z = _
        unfold nbOf
        rw [if_neg hc]
    · intro H2 ys s2 hD2 hp2
      have e := paired_int hp2
      subst e
      rw [paired_len hp, fm_list] at hD2
      refine ⟨D, _, rfl, .of hD2, fun ns' p hperm hup np => ?_⟩
      refine ⟨p, _, rfl, .inl ⟨.of upd_same, fun l hl2 => ?_⟩⟩
      have s3 : Same H (upd H2 p (.lst (ns'.map V.int))) := s2.trans (same_new np)
      exact q _ _ ns' (s3.trans (same_new hl2)) ⟨l, rfl, upd_same⟩ hperm hup

def spReachedK (K : PySem.W.Frag) : Sp := fun vs H Q _ => ∃ (v : V) (ties : List (Int × Int)) (st : Int) (bar : Option Int) (U : List Int), vs = [v, .int st, optV bar] ∧ rTupK K rPIK H v ties ∧ ties.length ≤ 1000 ∧ Shut ties U ∧ st ∈ U ∧ U.length < 64 ∧
  ∀ H' v' ns, Same H H' → rRow H' v' ns → Up ns → ns.Nodup → (∀ x, x ∈ ns ↔ Rch ties bar st x) → Q v' H'
theorem ok_reachedK (T : Tx K mg cT cS) {f : Addr} {fd : FuncData} (d : D K mg "reached" s_reached ["ties", "start", "barred"] f fd) : FnOk P w K mg base CX0 2 f fd ["ties", "start", "barred"] (spReachedK K) := by
  obtain ⟨f1, fd1, d1⟩ := T.d_neighbours
  have G1 : FnOk P w K mg base CX0 1 f1 fd1 ["ties", "post"] (spNbrK K) := ok_neighboursK T d1
  refine d.F.ok sc_reached (fun vs H Q E h => ?_) (fun cdv A outer s H vs Q E hr h => ?_)
  · obtain ⟨v, ties, st, bar, U, rfl, _⟩ := h
    rfl
  · obtain ⟨v, ties, st, bar, U, rfl, hties, hl, hU, hst, hU64, q⟩ := h
    refine ⟨_, pss_cons (ps_set (i := 3) sc_reached.nd rfl (.inl rfl) (pe_disp (pps_cons (pv 1) pe_bl pps_nil) (by rfl) (by rfl) (fun z => by cases z) (by decide)))
      (pss_cons (ps_set (i := 4) sc_reached.nd rfl (.inl rfl) (pe_lst (pa_cons (pv 1) pa_nil)))
      (pss_cons (ps_while PassesOwn.never (pt_truth (pv 4) (by intro _; rfl))
        (pss_cons (ps_set (i := 5) sc_reached.nd rfl (.inl rfl) (pe_bm0 PySem.F.plainAttrs_list PySem.F.slot_list_pop PySem.F.type_list_pop mt_pop (pv 4)))
          (pss_one (ps_for PassesOwn.never rfl (pi_tup (pe_call G1 hr rfl d1.m d1.F.kp d1.b .nil pass0 (pa_cons (pv 0) (pa_cons (pv 5) pa_nil)))) (pg_name (i := 6) sc_reached.nd rfl (Or.inl rfl))
            (pss_one (ps_if (PW.pt (pw_and (pt_cmpR op_ne (pv 6) (pv 2) (nomark _)) (pw_and1 (pt_cmp (pc_dnotin (hu_of hr) (pv 6) (pv 3))))))
              (pss_cons (ps_dput (hu_of hr) (pv 3) (pv 6) pe_bl rfl)
                (pss_one (ps_expr (pe_bm PySem.F.plainAttrs_list PySem.F.slot_list_append PySem.F.type_list_append mt_append (pv 4) (pa_cons (pv 6) pa_nil))))) pss_nil))))))
      (pss_one (ps_ret (pe_callTy call_tuple_of (by rfl) T.b_tuple (by decide +kernel) (pa_cons (pe_callB (call_sortedDI rfl) (by rfl) T.b_sorted (by decide +kernel) (pa_cons (pv 3) pa_nil)) pa_nil)))))), ?_⟩
    obtain ⟨t, xs, rfl, ht, hp⟩ := id hties
    intro df hdf
    refine ⟨_, rfl, upd_same, [(Sum.inl st, V.bl true)], rfl, by show 1 ≤ 15; decide, ?_⟩
    rw [upd_upd]
    refine ⟨_, rfl, by show 1 ≤ sizeLine; decide, fun dw hdw => ?_⟩
    have hne : dw ≠ df := fun e => by subst e; rw [upd_same] at hdw; cases hdw
    have hdw0 : H dw = none := by rw [upd_ne hne] at hdw; exact hdw
    have R0 : RS H df dw [st] [st] (upd (upd H df (.dK (mergeK [] [(Sum.inl st, V.bl true)]))) dw (.lst [V.int st])) :=
      ⟨same_own (same_new hdf) hdw0, hdf, hdw0, by rw [upd_ne hne.symm, upd_same]; rfl, upd_same⟩
    dsimp only [gName, tSeq]
    refine while_by (fun σ H' => ∃ (fnd wt : List Int) (h p : Option V), σ = [some (.ref t), some (.int st), some (optV bar), some (.ref df), some (.ref dw), h, p] ∧ RS H df dw fnd wt H' ∧ RI ties bar st none fnd wt)
      (fun σ H' => match H' df, H' dw with | some (.dK a), some (.lst b) => 2 * (64 - a.length) + b.length | _, _ => 0) ⟨[st], [st], none, none, rfl, R0, .start⟩ ?_ ?_
    · rintro σ H1 ⟨fnd, wt, h0, p0, rfl, R, I⟩
      refine ⟨_, rfl, _, .inl ⟨_, .of R.wd, rfl⟩, ?_⟩
      have hmu : (match H1 df, H1 dw with | some (.dK a), some (.lst b) => 2 * (64 - a.length) + b.length | _, _ => 0) = 2 * (64 - fnd.length) + wt.length := by
        rw [R.fd, R.wd]
        show 2 * (64 - (kf fnd).length) + (wt.map V.int).length = _
        rw [kf_len, List.length_map]
      rw [hmu]
      cases hw : wt with
      | nil =>
        subst hw
        refine iteF ?_
        have hlen := I.len hU hst
        refine ⟨_, rfl, df, _, fnd, rfl, .of R.fd, kf_keys fnd, by omega, fun ys p hperm hup np => ?_⟩
        refine ⟨p, _, rfl, .inl ⟨.of upd_same, fun l hl2 => ?_⟩⟩
        refine q _ _ ys ((R.same.trans (same_new np)).trans (same_new hl2)) ⟨l, rfl, upd_same⟩ hup (hperm.symm.nodup I.nd) fun x => ?_
        rw [hperm.mem_iff]
        exact I.done x
      | cons w0 wr =>
        rw [← hw]
        have hpos : 0 < wt.length := by rw [hw]; simp
        have hemp : (!(wt.map V.int).isEmpty) = true := by rw [hw]; rfl
        rw [hemp]
        refine iteT ?_
        have hlast : wt[wt.length - 1]? = some wt[wt.length - 1] := List.getElem?_eq_getElem (by omega)
        obtain ⟨h, hh⟩ : ∃ h, wt[wt.length - 1]? = some h := ⟨_, hlast⟩
        refine ⟨_, rfl, .inl ⟨rfl, _, .of R.wd⟩, dw, _, V.int h, rfl, rfl, R.wd, by rw [List.length_map]; exact int_at hh, ?_⟩
        have I1 := I.pop hh
        have R1 : RS H df dw fnd wt.dropLast (upd H1 dw (.lst (wt.map V.int).dropLast)) := by
          have := R.setW wt.dropLast
          rw [List.map_dropLast] at this
          exact this
        have hdl : wt.dropLast.length = wt.length - 1 := List.length_dropLast
        refine ⟨_, rfl, _, rfl, .ref t, ties, h, rfl, ⟨t, xs, rfl, sqtK R1.same.keep ht, paired_mono (mono_piK K) R1.same.keep hp⟩, hl, fun H2 v2 ns s2 hrow hperm hup => ?_⟩
        obtain ⟨t2, rfl, ht2⟩ := hrow
        have R2 := R1.more s2
        refine ⟨t2, rfl, ⟨_, .of ht2⟩, ?_⟩
        refine for_tup (K := K) (a := t2) (xs := ns.map V.int) (fun i σ H' => ∃ (fnd' wt' : List Int) (p : Option V), σ = [some (.ref t), some (.int st), some (optV bar), some (.ref df), some (.ref dw), some (.int h), p] ∧ RS H df dw fnd' wt' H' ∧ H' t2 = some (.tup (ns.map V.int)) ∧
          RI ties bar st (some h) fnd' wt' ∧ (∀ j v, j < i → ns[j]? = some v → bar ≠ some v → v ∈ fnd') ∧ 2 * (64 - fnd'.length) + wt'.length ≤ 2 * (64 - fnd.length) + (wt.length - 1))
          ⟨fnd, wt.dropLast, p0, rfl, R2, ht2, I1, fun j v hj => absurd hj (Nat.not_lt_zero _), by rw [hdl]; exact Nat.le_refl _⟩ (fun i σ H' _ ⟨_, _, _, _, _, e, _⟩ => .of e) ?_ ?_
        · rintro i x σ H3 hx ⟨fnd', wt', p, rfl, R3, ht3, I3, hc, hm⟩
          obtain ⟨n, hn, rfl⟩ := at_int hx
          have hsc : scal (V.int n) (optV bar) = true := by cases bar <;> rfl
          have hdec : (!decide (V.int n = optV bar)) = decide (bar ≠ some n) := by
            cases bar with
            | none => simp [optV]
            | some b =>
              by_cases e : n = b
              · subst e; simp [optV]
              · have e' : ¬ b = n := fun q => e q.symm
                simp [optV, e, e']
          refine ⟨_, rfl, _, rfl, hsc, _, rfl, ?_⟩
          rw [hdec]
          by_cases hb : bar ≠ some n
          · rw [decide_eq_true hb]
            refine iteT ⟨_, rfl, _, rfl, df, _, rfl, .k (k := Sum.inl n) R3.fd, _, rfl, ?_⟩
            rw [kf_look]
            by_cases hin : n ∈ fnd'
            · rw [if_pos hin]
              refine iteF ⟨fnd', wt', _, rfl, R3, ht3, I3, fun j v hj hv hbv => ?_, hm⟩
              by_cases ej : j = i
              · subst ej
                rw [hn] at hv
                cases hv
                exact hin
              · exact hc j v (by omega) hv hbv
            · rw [if_neg hin]
              refine iteT ?_
              have hnb : n ∈ nb ties h := hperm.mem_iff.mp (List.mem_of_getElem? hn)
              have I4 := I3.add hnb hb hin
              have l4 := I4.len hU hst
              have l3 := I3.len hU hst
              have lw : wt'.length ≤ 2 * 64 + wt.length := by omega
              have lw2 : wt.length ≤ 100000 ∨ True := .inr trivial
              refine ⟨_, rfl, _, rfl, df, _, rfl, .k (k := Sum.inl n) R3.fd (by rw [kf_len]; exact Nat.lt_of_le_of_lt (Nat.le_trans l3 (Nat.le_of_lt hU64)) (by decide)), ?_⟩
              rw [kf_put hin]
              have R4 := R3.setF (fnd' ++ [n])
              refine ⟨_, rfl, .inl ⟨rfl, _, .of R4.wd⟩, _, rfl, dw, _, _, rfl, rfl, R4.wd, ?_, ?_⟩
              · have := I3.wl
                rw [List.length_map]
                exact Nat.lt_of_le_of_lt (Nat.le_trans this (Nat.le_trans l3 (Nat.le_of_lt hU64))) (by decide)
              have R5 := R4.setW (wt' ++ [n])
              rw [List.map_append] at R5
              refine ⟨fnd' ++ [n], wt' ++ [n], _, rfl, R5, ?_, I4, fun j v hj hv hbv => ?_, ?_⟩
              · rw [upd_ne (ne_of ht3 R3.wd (fun z => nomatch z)), upd_ne (ne_of ht3 R3.fd (fun z => nomatch z))]
                exact ht3
              · by_cases ej : j = i
                · subst ej
                  rw [hn] at hv
                  cases hv
                  simp
                · exact List.mem_append_left _ (hc j v (by omega) hv hbv)
              · rw [List.length_append, List.length_append, List.length_singleton]
                rw [List.length_append, List.length_singleton] at l4
                omega
          · rw [decide_eq_false hb]
            refine iteF (iteF ⟨fnd', wt', _, rfl, R3, ht3, I3, fun j v hj hv hbv => ?_, hm⟩)
            by_cases ej : j = i
            · subst ej
              rw [hn] at hv
              cases hv
              exact absurd hbv hb
            · exact hc j v (by omega) hv hbv
        · rintro σ H3 ⟨fnd', wt', p, rfl, R3, ht3, I3, hc, hm⟩
          refine ⟨⟨fnd', wt', _, _, rfl, R3, I3.close fun v hv hb => ?_⟩, ?_⟩
          · have hv' := hperm.mem_iff.mpr hv
            obtain ⟨j, hj⟩ := List.getElem?_of_mem hv'
            exact hc j v (by rw [List.length_map]; exact (List.getElem?_eq_some_iff.mp hj).1) hj hb
          · rw [R3.fd, R3.wd]
            show 2 * (64 - (kf fnd').length) + (wt'.map V.int).length < _
            rw [kf_len, List.length_map]
            omega
    · rintro σ H' Q1 Q2 i ⟨v, e1, k, e2, h⟩
      exact ⟨v, e1, k, e2, i _ _ h⟩

def spIsTieK (K : PySem.W.Frag) : Sp := fun vs H Q _ => ∃ (v : V) (z : Int × Int) (n : Int), vs = [v, .int n] ∧ rPIK K H v z ∧ 0 ≤ z.1 ∧ z.1 < z.2 ∧ z.2 < n ∧ ∀ H', Same H H' → Q (.bl true) H'
theorem ok_is_tieK (T : Tx K mg cT cS) {f : Addr} {fd : FuncData} (d : D K mg "is_tie" s_is_tie ["thing", "posts"] f fd) : FnOk P w K mg base CX0 3 f fd ["thing", "posts"] (spIsTieK K) := by
  obtain ⟨f1, fd1, d1⟩ := T.d_is_below
  have G1 : FnOk P w K mg base CX0 2 f1 fd1 ["thing", "end"] spIsBelow := ok_is_below T d1
  obtain ⟨f2, fd2, d2⟩ := T.d_is_pair
  have G2 : FnOk P w K mg base CX0 1 f2 fd2 ["thing"] (spIsPairK K) := ok_is_pairK T d2
  refine d.F.ok sc_is_tie (fun vs H Q E h => ?_) (fun cdv A outer s H vs Q E hr h => ?_)
  · obtain ⟨v, z, n, rfl, _⟩ := h
    rfl
  · obtain ⟨v, ⟨a, b⟩, n, rfl, ⟨t, rfl, ht⟩, h0, h1, h2, q⟩ := h
    simp only at h0 h1 h2 ht
    refine ⟨_, pss_cons (ps_if (PW.pt (pw_or (pt_not (pt_val (pe_call G2 (hr.mono (by decide)) rfl d2.m d2.F.kp d2.b .nil pass0 (pa_cons (pv 0) pa_nil))))
        (pw_or1 (pt_not (pt_val (pe_callB (cr_all rfl) (by rfl) T.b_all (by decide +kernel) (pa_cons
        (pe_lc (own := [("post", 2)]) (g := gName 2) (tt := tYes) rfl sc_is_tie.nd (pi_tup (pv 0)) (blkOk_by (N := N_is_tie) (sc := defScope s_is_tie) (by decide +kernel)) (fun _ _ _ _ _ => pg_name (i := 2) sc_is_tie.nd rfl (Or.inl rfl)) (fun _ _ _ _ _ => pts_nil)
          (fun _ _ _ _ _ => pe_call G1 hr rfl d1.m d1.F.kp d1.b .nil pass0 (pa_cons (pv 2) (pa_cons (pv 1) pa_nil)))) pa_nil))))))) (pss_one (ps_ret pe_bl)) pss_nil)
      (pss_one (ps_ret (pe_cmpR op_lt (pe_ix ix_tup (pv 0) pe_int (fun _ _ => rfl)) (pe_ix ix_tup (pv 0) pe_int (fun _ _ => rfl)) (nomark _)))), ?_⟩
    refine ⟨_, rfl, t, _, _, rfl, ht, _, rfl, iteF ⟨_, rfl, t, rfl, ⟨_, ht⟩, fun D hD => ?_⟩⟩
    refine lc_fm (walk_tup (xs := [V.int a, V.int b])) rBl (fun _ => some true) hD (fun H' s' => (sqtK s'.keep ht)) ?_ ?_
    · rintro i x H2 H3 hi pv ⟨rfl, hx⟩
      have hi2 : i < 2 := hi
      rcases two_at hx with rfl | rfl
      · refine ⟨rfl, _, rfl, _, rfl, a, n, rfl, ?_⟩
        rw [decide_eq_true ⟨h0, by omega⟩]
        exact fm_keep mono_bl pv hD (by omega) (Same.refl _) rfl rfl
      · refine ⟨rfl, _, rfl, _, rfl, b, n, rfl, ?_⟩
        rw [decide_eq_true ⟨by omega, h2⟩]
        exact fm_keep mono_bl pv hD (by omega) (Same.refl _) rfl rfl
    · intro H2 xs s2 hD2 hp
      have := paired_bl hp
      subst this
      refine ⟨_, _, rfl, .of hD2, _, rfl, ?_⟩
      rw [all_true_fm rfl]
      have ht2 := sqtK s2.keep ht
      refine iteF ⟨_, rfl, t, _, _, _, rfl, rfl, ht2, at_of (j := 0) rfl rfl, _, rfl, t, _, _, _, rfl, rfl, ht2, at_of (j := 1) rfl rfl, _, _, rfl, rfl, ?_⟩
      show Q (V.bl (decide (a < b))) H2
      rw [decide_eq_true h1]
      exact q _ s2

def spCheckTiesK (K : PySem.W.Frag) : Sp := fun vs H Q _ => ∃ (v : V) (ties : List (Int × Int)) (n : Nat), vs = [v] ∧ rTupK K rPIK H v ties ∧ TiesOk ties n ∧ ∀ H', Same H H' → Q .non H'
theorem ok_check_tiesK (T : Tx K mg cT cS) {f : Addr} {fd : FuncData} (d : D K mg "check_ties" s_check_ties ["ties"] f fd) : FnOk P w K mg base CX0 4 f fd ["ties"] (spCheckTiesK K) := by
  obtain ⟨f1, fd1, d1⟩ := T.d_is_tie
  have G1 : FnOk P w K mg base CX0 3 f1 fd1 ["thing", "posts"] (spIsTieK K) := ok_is_tieK T d1
  obtain ⟨f2, fd2, d2⟩ := T.d_reached
  have G2 : FnOk P w K mg base CX0 2 f2 fd2 ["ties", "start", "barred"] (spReachedK K) := ok_reachedK T d2
  obtain ⟨tk, hM⟩ := T.c_MOST_TIES
  refine d.F.ok sc_check_ties (fun vs H Q E h => ?_) (fun cdv A outer s H vs Q E hr h => ?_)
  · obtain ⟨v, ties, n, rfl, _⟩ := h
    rfl
  · obtain ⟨v, ties, n, rfl, ⟨t, xs, rfl, ht, hp⟩, ok, q⟩ := h
    have hlen := paired_len hp
    have hn := ok.len
    have hn24 := ok.n24
    refine ⟨_, pss_cons (ps_if (PW.pt (pw_or (pt_not (pt_val (pe_callB call_isi (by rfl) T.b_isinstance (by decide +kernel) (pa_cons (pv 0) (pa_cons (ty_tuple T.b_tuple) pa_nil)))))
        (pw_or1 (pt_cmpR op_gt (pe_callB call_len_seq (by rfl) T.b_len PySem.boot_len (pa_cons (pv 0) pa_nil)) (pe_glob (v := .int 23) rfl hM ⟨_, rfl⟩) (nomark _))))) pss_never pss_nil)
      (pss_cons (ps_set (i := 1) sc_check_ties.nd rfl (.inl rfl) (pe_op op_add (pe_callB call_len_seq (by rfl) T.b_len PySem.boot_len (pa_cons (pv 0) pa_nil)) pe_int))
      (pss_cons (ps_for PassesOwn.never rfl (pi_enumT (by rfl) T.b_enumerate (pa_cons (pv 0) pa_nil)) (pg_tup rfl (pgs_cons (pg_name (i := 2) sc_check_ties.nd rfl (.inl rfl)) (pgs_cons (pg_name (i := 3) sc_check_ties.nd rfl (.inl rfl)) pgs_nil)))
        (pss_one (ps_if (PW.pt (pw_or (pt_not (pt_val (pe_call G1 hr rfl d1.m d1.F.kp d1.b .nil pass0 (pa_cons (pv 3) (pa_cons (pv 1) pa_nil)))))
          (pw_or1 (PW.pt (pw_and (pt_cmpR op_gt (pv 2) pe_int (nomark _)) (pw_and1 (pt_cmpR (op_leT hr.units0) (pv 3) (pe_ix ix_tup (pv 0) (pe_op op_sub (pv 2) pe_int) (fun _ _ => rfl)) (nomark _)))))))) pss_never pss_nil)))
      (pss_one (ps_if (pt_cmpR op_lt (pe_callB call_len_seq (by rfl) T.b_len PySem.boot_len (pa_cons (pe_call G2 (hr.mono (by decide)) rfl d2.m d2.F.kp d2.b .nil pass0 (pa_cons (pv 0) (pa_cons pe_int (pa_cons pe_non pa_nil)))) pa_nil)) (pv 1) (nomark _)) pss_never pss_nil)))), ?_⟩
    refine ⟨_, rfl, _, _, _, _, _, rfl, .ty _, tyT ht, kit_tt, _, rfl, iteF ⟨_, rfl, _, _, rfl, .inr (ht), _, _, rfl, rfl, _, rfl, ?_⟩⟩
    rw [decide_eq_false (by rw [hlen]; omega)]
    refine iteF ⟨_, rfl, _, _, rfl, .inr (ht), _, _, rfl, rfl, ?_⟩
    dsimp only [gName, tSeq]
    have e1 : ((xs.length : Nat) : Int) + 1 = (n : Int) := by rw [hlen]; omega
    rw [e1]
    refine ⟨_, rfl, t, xs, rfl, ht, ?_⟩
    refine for_it (walk_enumT (xs := xs)) (fun i σ H' => Same H H' ∧ ∃ a b, σ = [some (.ref t), some (.int n), a, b]) ⟨.refl _, none, none, rfl⟩ (fun i σ H' _ h => (sqtK h.1.keep ht)) ?_ ?_
    · rintro i x σ H2 H3 hi ⟨s2, a, b, rfl⟩ ⟨tp, x1, x2, rfl, np, rfl, e2, e3⟩
      have s3 := same_new (o := .tup [x1, x2]) np
      cases (Option.some.inj e2)
      obtain ⟨z, hz, t2, rfl, ht2⟩ := paired_get (paired_mono (mono_piK K) (s2.trans s3).keep hp) e3
      have hzm := List.mem_of_getElem? hz
      obtain ⟨b1, b2, b3⟩ := ok.b0 z hzm
      refine ⟨tp, _, rfl, .of upd_same, rfl, _, _, rfl, _, _, rfl, rfl, ?_⟩
      refine ⟨_, rfl, _, rfl, .ref t2, z, n, rfl, ⟨t2, rfl, ht2⟩, b1, b2, b3, fun H4 s4 => ⟨_, rfl, iteF ?_⟩⟩
      have s5 := (s2.trans s3).trans s4
      refine ⟨_, rfl, _, _, rfl, rfl, _, rfl, ?_⟩
      by_cases hi0 : 0 < i
      · rw [decide_eq_true (by omega)]
        have hi1 : i - 1 < ties.length := by omega
        have hz1 : ties[i - 1]? = some ties[i - 1] := List.getElem?_eq_getElem hi1
        obtain ⟨y, hy, t3, rfl, ht3⟩ := paired_get2 (paired_mono (mono_piK K) s5.keep hp) hz1
        refine iteT ⟨_, rfl, _, rfl, _, rfl, _, _, rfl, rfl, t, xs, _, _, rfl, rfl, (sqtK s5.keep ht), at_of (j := i - 1) (by omega) hy, ?_⟩
        refine ⟨t2, t3, [z.1, z.2], [ties[i - 1].1, ties[i - 1].2], rfl, rfl, (sqtK s4.keep ht2), ht3, _, rfl, ?_⟩
        rw [le_pairs]
        have hlt : lxLt (ties[i - 1].1, ties[i - 1].2) (z.1, z.2) := by
          have hzi : i < ties.length := (List.getElem?_eq_some_iff.mp hz).1
          have hze : ties[i] = z := (List.getElem?_eq_some_iff.mp hz).2
          have := (List.pairwise_iff_getElem.mp ok.asc) (i - 1) i hi1 hzi (by omega)
          rw [hze] at this
          exact this
        rw [decide_eq_false (fun h => h hlt)]
        exact iteF ⟨s5, _, _, rfl⟩
      · rw [decide_eq_false (by omega)]
        exact iteF (iteF ⟨s5, _, _, rfl⟩)
    · rintro σ H2 ⟨s2, a, b, rfl⟩
      refine ⟨_, rfl, .ref t, ties, 0, none, rng n, rfl, ⟨t, xs, rfl, sqtK s2.keep ht, paired_mono (mono_piK K) s2.keep hp⟩, by omega, ok.shut, rng_mem.mpr ⟨by omega, by omega⟩, by rw [rng_len]; omega, fun H3 v' ns s3 hrow hup hnd hmem => ?_⟩
      obtain ⟨t4, rfl, ht4⟩ := hrow
      refine ⟨_, _, rfl, .inr (.of ht4), _, rfl, _, _, rfl, rfl, _, rfl, ?_⟩
      have hge : n ≤ ns.length := by
        have := nodup_len (V := ns) (rng_nodup n) fun v hv => by
          obtain ⟨c1, c2⟩ := rng_mem.mp hv
          exact (hmem v).mpr (ok.all v c1 c2)
        rwa [rng_len] at this
      rw [decide_eq_false (by rw [List.length_map]; omega)]
      exact iteF (q _ (s2.trans s3))
def spInitTreeK (K : PySem.W.Frag) (cT : Addr) : Sp := fun vs H Q _ => ∃ (x dx : Addr) (v : V) (ties : List (Int × Int)) (n : Nat), vs = [.ref x, v] ∧ H x = some (.ins cT dx []) ∧ rTupK K rPIK H v ties ∧ TiesOk ties n ∧
  ∀ H', (∀ b o, b ≠ x → H b = some o → H' b = some o) → rPosts cT H' (.ref x) n → Q .non H'
theorem ok_TreeK (T : Tx K mg cT cS) {f : Addr} {fd : FuncData} (d : DC K mg "Tree" "Tree.__init__" s_Tree ["self", "ties"] ["ties", "posts"] cT f fd) : FnOk P w K mg base CX0 5 f fd ["self", "ties"] (spInitTreeK K cT) := by
  obtain ⟨f1, fd1, d1⟩ := T.d_check_ties
  have G1 : FnOk P w K mg base CX0 4 f1 fd1 ["ties"] (spCheckTiesK K) := ok_check_tiesK T d1
  have nP : NoAttr K cT "posts" := d.na _ (by simp)
  have nT : NoAttr K cT "ties" := d.na _ (by simp)
  refine d.F.ok sc_Tree (fun vs H Q E h => ?_) (fun cdv A outer s H vs Q E hr h => ?_)
  · obtain ⟨x, dx, v, ties, n, rfl, _⟩ := h
    rfl
  · obtain ⟨x, dx, v, ties, n, rfl, hx, hties, ok, q⟩ := h
    refine ⟨_, pss_cons (ps_expr (pe_call G1 hr rfl d1.m d1.F.kp d1.b .nil pass0 (pa_cons (pv 1) pa_nil)))
      (pss_cons (ps_fld (pv 0) (pv 1) rfl) (pss_one (ps_fld (pv 0) (pe_op op_add (pe_callB call_len_seq (by rfl) T.b_len PySem.boot_len (pa_cons (pv 1) pa_nil)) pe_int) rfl))), ?_⟩
    refine ⟨_, rfl, v, ties, n, rfl, hties, ok, fun H2 s2 => ?_⟩
    obtain ⟨t, xs, rfl, ht, hp⟩ := hties
    have ht := sqtK s2.keep ht
    have hx2 := s2.keep.ins hx
    refine ⟨_, rfl, _, rfl, x, cT, dx, [], rfl, hx2, d.cl, nT, by show 0 < 1000; decide, ?_⟩
    have ht3 : SqT K (upd H2 x (.ins cT dx (putF "ties" (.ref t) []))) t xs := by
      rcases ht with (h | ⟨o, h⟩) | h
      · exact .inl (.inl (by rw [upd_ne (ne_of h hx2 (fun z => nomatch z))]; exact h))
      · exact .inl (.inr ⟨o, by rw [upd_ne (ne_of h hx2 (fun z => nomatch z))]; exact h⟩)
      · exact .inr h
    refine ⟨_, rfl, _, _, rfl, .inr ht3, _, _, rfl, rfl, _, rfl, x, cT, dx, _, rfl, upd_same, d.cl, nP, by show 1 < 1000; decide, ?_⟩
    rw [upd_upd]
    refine q _ (fun b o hb e => by rw [upd_ne hb]; exact s2 b o e) ⟨x, dx, _, rfl, upd_same, ?_⟩
    have hl := ok.len
    have := paired_len hp
    show List.lookup ("posts" : Str) (putF "posts" (V.int (((xs.length : Nat) : Int) + 1)) (putF "ties" (V.ref t) [])) = _
    rw [show (((xs.length : Nat) : Int) + 1) = (n : Int) by omega]
    exact tfs_posts t (n : Int)
def spAreCountsP (cT : Addr) : Sp := fun vs H Q _ => ∃ (u v : V) (holds : List Int) (n : Nat), vs = [u, v] ∧ rPosts cT H u n ∧ n ≤ 24 ∧ rRow H v holds ∧ CountsOk holds n ∧ ∀ H', Same H H' → Q (.bl true) H'
theorem ok_are_countsP (T : Tx K mg cT cS) {f : Addr} {fd : FuncData} (d : D K mg "are_counts" s_are_counts ["tree", "thing"] f fd) : FnOk P w K mg base CX0 3 f fd ["tree", "thing"] (spAreCountsP cT) := by
  obtain ⟨f1, fd1, d1⟩ := T.d_is_below
  have G1 : FnOk P w K mg base CX0 2 f1 fd1 ["thing", "end"] spIsBelow := ok_is_below T d1
  obtain ⟨fT, fdT, kT⟩ := T.k_Tree
  have nP : NoAttr K cT "posts" := kT.na _ (by simp)
  obtain ⟨tk1, hM1⟩ := T.c_MOST_AT_POST
  obtain ⟨tk2, hM2⟩ := T.c_MOST_IN_ALL
  refine d.F.ok sc_are_counts (fun vs H Q E h => ?_) (fun cdv A outer s H vs Q E hr h => ?_)
  · obtain ⟨u, v, holds, n, rfl, _⟩ := h
    rfl
  · obtain ⟨u, v, holds, n, rfl, ⟨tr, dx, fs, rfl, hI, hfs⟩, hn24, ⟨th, rfl, hh⟩, ok, q⟩ := h
    refine ⟨_, pss_cons (ps_if (PW.pt (pw_or (pt_not (pt_val (pe_callB call_isi (by rfl) T.b_isinstance (by decide +kernel) (pa_cons (pv 1) (pa_cons (ty_tuple T.b_tuple) pa_nil)))))
        (pw_or1 (pt_cmpR op_ne (pe_callB call_len_seq (by rfl) T.b_len PySem.boot_len (pa_cons (pv 1) pa_nil)) (pe_fld (pv 0) rfl) (nomark _))))) (pss_one (ps_ret pe_bl)) pss_nil)
      (pss_cons (ps_if (pt_not (pt_val (pe_callB (cr_all rfl) (by rfl) T.b_all (by decide +kernel) (pa_cons
        (pe_lc (own := [("count", 2)]) (g := gName 2) (tt := tYes) rfl sc_are_counts.nd (pi_tup (pv 1)) (blkOk_by (N := N_are_counts) (sc := defScope s_are_counts) (by decide +kernel)) (fun _ _ _ _ _ => pg_name (i := 2) sc_are_counts.nd rfl (Or.inl rfl)) (fun _ _ _ _ _ => pts_nil)
          (fun _ _ _ _ _ => pe_call G1 hr rfl d1.m d1.F.kp d1.b .nil pass0 (pa_cons (pv 2) (pa_cons (pe_op op_add (pe_glob (v := .int 8) rfl hM1 ⟨_, rfl⟩) pe_int) pa_nil)))) pa_nil)))) (pss_one (ps_ret pe_bl)) pss_nil)
      (pss_one (ps_ret (pe_cmpR op_le (pe_callB (cr_sumT rfl) (by rfl) T.b_sum (by decide +kernel) (pa_cons (pv 1) pa_nil)) (pe_glob (v := .int 60) rfl hM2 ⟨_, rfl⟩) (nomark _))))), ?_⟩
    have hl := ok.len
    refine ⟨_, rfl, _, _, _, _, _, rfl, .ty _, .base (.tup hh), kit_tt, _, rfl, iteF ?_⟩
    refine ⟨_, rfl, _, _, rfl, .inr (.of hh), _, rfl, tr, cT, dx, _, _, rfl, hI, kT.cl, nP, hfs, rfl, _, rfl, ?_⟩
    have e1 : V.int (((holds.map V.int).length : Nat) : Int) = V.int (n : Int) := by rw [List.length_map]; congr 1; omega
    rw [e1, decide_eq_true rfl]
    refine iteF ⟨_, rfl, th, rfl, ⟨_, .of hh⟩, fun D hD => ?_⟩
    refine lc_fm (walk_tup (xs := holds.map V.int)) rBl (fun _ => some true) hD (fun H' s' => .of (s'.keep.tup hh)) ?_ ?_
    · rintro i x H2 H3 hi pv ⟨rfl, hx⟩
      obtain ⟨k, hk, rfl⟩ := at_int hx
      rw [List.length_map] at hi
      obtain ⟨g1, g2⟩ := ok.b k (List.mem_of_getElem? hk)
      refine ⟨rfl, _, rfl, _, _, rfl, rfl, k, _, rfl, ?_⟩
      rw [decide_eq_true ⟨g1, by omega⟩]
      exact fm_keep mono_bl pv hD (by omega) (Same.refl _) rfl rfl
    · intro H2 ys s2 hD2 hp2
      have := paired_bl hp2
      subst this
      refine ⟨_, _, rfl, .of hD2, _, rfl, ?_⟩
      rw [all_true_fm rfl]
      refine iteF ⟨_, rfl, th, holds, rfl, .of (s2.keep.tup hh), _, _, rfl, rfl, ?_⟩
      show Q (V.bl (decide (holds.sum ≤ 60))) H2
      rw [decide_eq_true ok.s]
      exact q _ s2
def spCkCP (cT : Addr) : Sp := fun vs H Q _ => ∃ (u v : V) (holds : List Int) (n : Nat), vs = [u, v] ∧ rPosts cT H u n ∧ n ≤ 24 ∧ rRow H v holds ∧ CountsOk holds n ∧ ∀ H', Same H H' → Q .non H'
theorem ok_ckCP (T : Tx K mg cT cS) {f : Addr} {fd : FuncData} (d : D K mg "check_counts" s_check_counts ["tree", "thing"] f fd) : FnOk P w K mg base CX0 4 f fd ["tree", "thing"] (spCkCP cT) := by
  obtain ⟨f1, fd1, d1⟩ := T.d_are_counts
  have G1 := ok_are_countsP (P := P) (w := w) (base := base) T d1
  refine d.F.ok sc_check_counts (fun vs H Q E h => ?_) (fun cdv A outer s H vs Q E hr h => ?_)
  · obtain ⟨u, v, holds, n, rfl, _⟩ := h
    rfl
  · obtain ⟨u, v, holds, n, rfl, hT, h24, hv, hc, q⟩ := h
    refine ⟨_, pss_one (ps_if (pt_not (pt_val (pe_call G1 (hr.mono (by decide)) rfl d1.m d1.F.kp d1.b .nil pass0 (pa_cons (pv 0) (pa_cons (pv 1) pa_nil))))) pss_never pss_nil), ?_⟩
    refine ⟨_, rfl, _, rfl, u, v, holds, n, rfl, hT, h24, hv, hc, fun H1 s1 => ⟨_, rfl, iteF' (b := !true) rfl ?_⟩⟩
    exact q _ s1
end
end S4

/-! counting by ranks: plain mathematics; // of nought by a great number -/
namespace QQ
/-- the product of p ^ t - p ^ i, i below r -/
def A (p : Int) (t : Nat) : Nat → Int
  | 0 => 1
  | k + 1 => A p t k * (p ^ t - p ^ k)
theorem A_shift (p : Int) (m : Nat) : ∀ k : Nat, A p (m + 1) (k + 1) = (p ^ (m + 1) - 1) * p ^ k * A p m k
  | 0 => by show 1 * (p ^ (m + 1) - p ^ 0) = _; rw [Int.pow_zero, A]; grind
  | k + 1 => by
    have h := A_shift p m k
    show A p (m + 1) (k + 1) * (p ^ (m + 1) - p ^ (k + 1)) = _ * _ * (A p m k * (p ^ m - p ^ k))
    rw [h]
    have e1 : p ^ (m + 1) = p ^ m * p := Int.pow_succ p m
    have e2 : p ^ (k + 1) = p ^ k * p := Int.pow_succ p k
    rw [e1, e2]
    grind
theorem A_zero {p : Int} {t : Nat} : ∀ {k : Nat}, t < k → A p t k = 0
  | k + 1, h => by
    show A p t k * (p ^ t - p ^ k) = 0
    by_cases e : t = k
    · subst e; rw [Int.sub_self, Int.mul_zero]
    · rw [A_zero (k := k) (by omega), Int.zero_mul]
theorem pow_mono {p : Int} (h : 2 ≤ p) {a b : Nat} (hab : a < b) : p ^ a < p ^ b := by
  have h0 : ∀ n : Nat, 0 < p ^ n := fun n => Int.pow_pos (by omega)
  induction b with
  | zero => omega
  | succ b ih =>
    rw [Int.pow_succ]
    have hb := h0 b
    have : p ^ b * 2 ≤ p ^ b * p := Int.mul_le_mul_of_nonneg_left h (by omega)
    by_cases e : a = b
    · subst e; omega
    · have := ih (by omega); omega
theorem A_pos {p : Int} (h : 2 ≤ p) {t : Nat} : ∀ {k : Nat}, k ≤ t → 0 < A p t k
  | 0, _ => by show (0 : Int) < 1; decide
  | k + 1, hk => by
    show 0 < A p t k * (p ^ t - p ^ k)
    exact Int.mul_pos (A_pos h (by omega)) (by have := pow_mono h (a := k) (b := t) (by omega); omega)
/-- how many tables of so many rows have this rank, row by row -/
def ofR (p : Int) (w : Nat) : Nat → Nat → Int
  | 0, 0 => 1
  | 0, _ + 1 => 0
  | m + 1, 0 => ofR p w m 0
  | m + 1, k + 1 => ofR p w m (k + 1) * p ^ (k + 1) + ofR p w m k * (p ^ w - p ^ k)
theorem ofR_A {p : Int} (w : Nat) : ∀ m r : Nat, ofR p w m r * A p r r = A p m r * A p w r
  | 0, 0 => by show (1 : Int) * 1 = 1 * 1; rfl
  | 0, r + 1 => by rw [A_zero (t := 0) (k := r + 1) (by omega)]; show 0 * _ = 0 * _; rw [Int.zero_mul, Int.zero_mul]
  | m + 1, 0 => by have h := ofR_A (p := p) w m 0; exact h
  | m + 1, k + 1 => by
    have h1 := ofR_A (p := p) w m (k + 1)
    have h2 := ofR_A (p := p) w m k
    have s1 := A_shift p m k
    have s2 := A_shift p k k
    show (ofR p w m (k + 1) * p ^ (k + 1) + ofR p w m k * (p ^ w - p ^ k)) * A p (k + 1) (k + 1) = A p (m + 1) (k + 1) * (A p w k * (p ^ w - p ^ k))
    have h1 : ofR p w m (k + 1) * A p (k + 1) (k + 1) = (A p m k * (p ^ m - p ^ k)) * (A p w k * (p ^ w - p ^ k)) := h1
    have e1 : p ^ (m + 1) = p ^ m * p := Int.pow_succ p m
    have e2 : p ^ (k + 1) = p ^ k * p := Int.pow_succ p k
    rw [s1]
    have h3 : ofR p w m k * A p (k + 1) (k + 1) = (p ^ (k + 1) - 1) * p ^ k * (A p m k * A p w k) := by rw [s2, ← h2]; grind
    calc (ofR p w m (k + 1) * p ^ (k + 1) + ofR p w m k * (p ^ w - p ^ k)) * A p (k + 1) (k + 1)
        = (ofR p w m (k + 1) * A p (k + 1) (k + 1)) * p ^ (k + 1) + (ofR p w m k * A p (k + 1) (k + 1)) * (p ^ w - p ^ k) := by grind
      _ = _ := by rw [h1, h3, e1, e2]; grind
/-- no more rank than wide -/
theorem ofR_wide {p : Int} (h : 2 ≤ p) {w : Nat} {m r : Nat} (hr : w < r) : ofR p w m r = 0 := by
  have e := ofR_A (p := p) w m r
  rw [A_zero hr, Int.mul_zero] at e
  exact (Int.mul_eq_zero.mp e).resolve_right (by have := A_pos h (t := r) (k := r) (by omega); omega)
theorem ofR_rows {p : Int} (h : 2 ≤ p) {w : Nat} {m r : Nat} (hr : m < r) : ofR p w m r = 0 := by
  have e := ofR_A (p := p) w m r
  rw [A_zero hr, Int.zero_mul] at e
  exact (Int.mul_eq_zero.mp e).resolve_right (by have := A_pos h (t := r) (k := r) (by omega); omega)
theorem ofR_nn {p : Int} (h : 2 ≤ p) {w m r : Nat} : 0 ≤ ofR p w m r := by
  by_cases h1 : w < r
  · rw [ofR_wide h h1]; omega
  by_cases h2 : m < r
  · rw [ofR_rows h h2]; omega
  have e := ofR_A (p := p) w m r
  have p1 := A_pos h (t := r) (k := r) (by omega)
  have p2 := A_pos h (t := m) (k := r) (by omega)
  have p3 := A_pos h (t := w) (k := r) (by omega)
  have p4 := Int.mul_pos p2 p3
  rw [← e] at p4
  rcases Int.lt_or_le (ofR p w m r) 0 with hn | hn
  · have := Int.mul_neg_of_neg_of_pos hn p1
    omega
  · exact hn
/-- all tables -/
def tot (f : Nat → Int) : Nat → Int
  | 0 => 0
  | k + 1 => tot f k + f k
theorem tot_cg {f g : Nat → Int} : ∀ {k : Nat}, (∀ i, i < k → f i = g i) → tot f k = tot g k
  | 0, _ => rfl
  | k + 1, h => by show tot f k + f k = tot g k + g k; rw [tot_cg fun i hi => h i (by omega), h k (by omega)]
theorem ofR_total {p : Int} (h : 2 ≤ p) (w : Nat) : ∀ m : Nat, ∀ k : Nat, m < k → tot (ofR p w m) k = p ^ (m * w) := by
  -- what all ranks below k + 1 make, row by row
  have step : ∀ m k : Nat, tot (ofR p w (m + 1)) (k + 1) = tot (fun i => ofR p w m i * p ^ w) (k + 1) - ofR p w m k * (p ^ w - p ^ k) := fun m k => by
    induction k with
    | zero =>
      show (0 : Int) + ofR p w m 0 = 0 + ofR p w m 0 * p ^ w - ofR p w m 0 * (p ^ w - p ^ 0)
      rw [Int.pow_zero]; grind
    | succ k ih =>
      show tot (ofR p w (m + 1)) (k + 1) + (ofR p w m (k + 1) * p ^ (k + 1) + ofR p w m k * (p ^ w - p ^ k)) = tot (fun i => ofR p w m i * p ^ w) (k + 1) + ofR p w m (k + 1) * p ^ w - ofR p w m (k + 1) * (p ^ w - p ^ (k + 1))
      rw [ih]; grind
  have out : ∀ (c : Int) (f : Nat → Int) (k : Nat), tot (fun i => f i * c) k = tot f k * c := fun c f k => by
    induction k with
    | zero => show (0 : Int) = 0 * c; rw [Int.zero_mul]
    | succ k ih => show tot (fun i => f i * c) k + f k * c = (tot f k + f k) * c; rw [ih]; grind
  intro m
  induction m with
  | zero =>
    intro k hk
    obtain ⟨k, rfl⟩ : ∃ j, k = j + 1 := ⟨k - 1, by omega⟩
    rw [Nat.zero_mul, Int.pow_zero]
    clear hk
    induction k with
    | zero => rfl
    | succ k ih => show tot (ofR p w 0) (k + 1) + 0 = 1; rw [ih]; rfl
  | succ m ih =>
    intro k hk
    obtain ⟨k, rfl⟩ : ∃ j, k = j + 1 := ⟨k - 1, by omega⟩
    rw [step, out, ih (k + 1) (by omega), ofR_rows h (show m < k by omega), Int.zero_mul, Int.sub_zero, Nat.succ_mul, Int.pow_add]
end QQ
namespace L2
open PySem PySem.Spec PyProof.Rows
/-- // by a positive divisor that is not too great, or of nought -/
def CDivZ (i j : Int) : Prop := 0 < j ∧ (j.natAbs.log2 < 9000 ∨ i = 0)
theorem noPylong_zero {y : Int} : Builtin.divisionGoesByPylong 0 y = false := by
  unfold Builtin.divisionGoesByPylong
  simp
theorem op_fdivZ {X : Cx} : OpR X (binaryOp .FloorDiv) (rI CDivZ fun i j => .int (i / j)) := opI fun i j _ _ _ _ _ hc q => by
  have h1 : (0 : Int) < j := hc.1
  refine floordiv_int (by omega) (by rw [Int.fdiv_eq_ediv_of_nonneg i (by omega)]; exact q) (.inl ?_)
  rcases hc.2 with h | h
  · exact PyProof.noPylong_of_log2 h
  · subst h; exact noPylong_zero
end L2

/-! the program's counting -/
namespace QQ
theorem pw_bits {p : Int} (h0 : 0 ≤ p) (h : p ≤ 1048576) (n : Nat) : (p ^ n).natAbs < 2 ^ (20 * n + 1) := by
  have h1 : p.natAbs ≤ 2 ^ 20 := by show _ ≤ 1048576; omega
  have h2 := Nat.pow_le_pow_left h1 n
  rw [← Nat.pow_mul] at h2
  rw [Int.natAbs_pow]
  have : 0 < 2 ^ (20 * n) := Nat.pow_pos (by omega)
  rw [Nat.pow_succ]
  omega
theorem pw_le {p : Int} (h0 : 0 ≤ p) (h : p ≤ 1048576) {n m : Nat} (hm : 20 * n + 1 ≤ m) : (p ^ n).natAbs < 2 ^ m :=
  Nat.lt_of_lt_of_le (pw_bits h0 h n) (Nat.pow_le_pow_right (by omega) hm)
theorem mul_bits {i j : Int} {a b : Nat} (hi : i.natAbs < 2 ^ a) (hj : j.natAbs < 2 ^ b) : (i * j).natAbs < 2 ^ (a + b) := by
  rw [Int.natAbs_mul, Nat.pow_add]
  rcases Nat.eq_zero_or_pos j.natAbs with e | e
  · rw [e, Nat.mul_zero, ← Nat.pow_add]; exact Nat.pow_pos (by omega)
  · exact Nat.lt_of_lt_of_le (Nat.mul_lt_mul_of_pos_right hi e) (Nat.mul_le_mul_left _ (by omega))
theorem sub_bits {i j : Int} {a : Nat} (hi : i.natAbs < 2 ^ a) (hj : j.natAbs < 2 ^ a) : (i - j).natAbs < 2 ^ (a + 1) := by
  rw [Nat.pow_succ]; omega
theorem A_bits {p : Int} (h0 : 0 ≤ p) (h : p ≤ 1048576) {c t : Nat} (ht : t ≤ c) : ∀ {k : Nat}, k ≤ c → (A p t k).natAbs < 2 ^ ((20 * c + 2) * k + 1)
  | 0, _ => by show (1 : Int).natAbs < 2 ^ ((20 * c + 2) * 0 + 1); rw [Nat.mul_zero]; decide
  | k + 1, hk => by
    have h1 := A_bits h0 h ht (k := k) (by omega)
    have h2 := sub_bits (pw_le h0 h (n := t) (m := 20 * c + 1) (by omega)) (pw_le h0 h (n := k) (m := 20 * c + 1) (by omega))
    have h3 := mul_bits h1 h2
    rw [show (20 * c + 2) * k + 1 + (20 * c + 1 + 1) = (20 * c + 2) * (k + 1) + 1 by rw [Nat.mul_succ]; omega] at h3
    exact h3
theorem log2_of {n k : Nat} (h : n < 2 ^ k) (hk : 0 < k) : n.log2 < k := by
  by_cases e : n = 0
  · subst e; rw [Nat.log2_zero]; exact hk
  · exact (Nat.log2_lt e).mpr h
theorem A_blk {p : Int} (h : 2 ≤ p) (w m r : Nat) : (A p m r * A p w r) / A p r r = ofR p w m r := by
  rw [← ofR_A, Int.mul_ediv_cancel _ (by have := A_pos h (t := r) (k := r) (by omega); omega)]
end QQ
namespace S4
open PySem L2 TT MM QQ
section
variable {P : Program} {w : World} {K : PySem.W.Frag} {mg : Str → Option Value} {base : Heap} {cT cS : Addr}
def spPow : Sp := fun vs H Q _ => ∃ (p : Int) (n : Nat), vs = [.int p, .int (n : Int)] ∧ 0 ≤ p ∧ p ≤ 1048576 ∧ n ≤ 4000 ∧ Q (.int (p ^ n)) H
theorem ok_power (T : Tx K mg cT cS) {f : Addr} {fd : FuncData} (d : D K mg "power" s_power ["p", "times"] f fd) : FnOk P w K mg base CX0 1 f fd ["p", "times"] spPow := by
  refine d.F.ok sc_power (fun vs H Q E h => ?_) (fun cdv A outer s H vs Q E hr h => ?_)
  · obtain ⟨p, n, rfl, _⟩ := h
    rfl
  · obtain ⟨p, n, rfl, h0, h20, hn, q⟩ := h
    refine ⟨_, pss_cons (ps_set (i := 2) sc_power.nd rfl (.inl rfl) pe_int)
      (pss_cons (ps_for PassesOwn.never rfl (pi_range1 rfl T.b_range (pa_cons (pv 1) pa_nil)) (pg_name (i := 3) sc_power.nd rfl (.inl rfl))
        (pss_one (ps_set (i := 2) sc_power.nd rfl (.inl rfl) (pe_op op_mulW (pv 2) (pv 0)))))
      (pss_one (ps_ret (pv 2)))), ?_⟩
    refine ⟨_, rfl, _, rfl, by omega, by omega, ?_⟩
    refine for_it (walk_range (lo := 0) (n := ((n : Nat) : Int).toNat)) (fun i σ H' => H' = H ∧ ∃ x3 t, σ = [some (.int p), some (.int (n : Int)), some (.int t), x3] ∧ t = p ^ i)
      ⟨rfl, none, _, rfl, (Int.pow_zero p).symm⟩ (fun _ _ _ _ _ => trivial) ?_ ?_
    · rintro i x σ H3 H4 hi ⟨rfl, x3, t, rfl, rfl⟩ ⟨rfl, rfl⟩
      rw [Int.toNat_natCast] at hi
      dsimp only [gName, tSeq]
      exact ⟨_, rfl, _, rfl, _, _, rfl, rfl, wide_mul (pw_bits h0 h20 i) (show p.natAbs < 2 ^ 21 by show _ < 2097152; omega) (by omega) (by omega) (by omega), rfl, _, _, rfl, (Int.pow_succ p i).symm⟩
    · rintro σ H3 ⟨rfl, x3, t, rfl, rfl⟩
      rw [Int.toNat_natCast]
      exact ⟨_, rfl, q⟩
def spBlk : Sp := fun vs H Q _ => ∃ (p : Int) (tall wide r : Nat), vs = [.int p, .int (tall : Int), .int (wide : Int), .int (r : Int)] ∧ 2 ≤ p ∧ p ≤ 1000000 ∧ tall ≤ 8 ∧ wide ≤ 8 ∧ r ≤ 60 ∧ ∀ H', Same H H' → Q (.int (ofR p wide tall r)) H'
theorem ok_blk (T : Tx K mg cT cS) {f : Addr} {fd : FuncData} (d : D K mg "blocks_in_all" s_blocks_in_all ["p", "tall", "wide", "rank"] f fd) : FnOk P w K mg base CX0 2 f fd ["p", "tall", "wide", "rank"] spBlk := by
  obtain ⟨f1, fd1, d1⟩ := T.d_power
  have G1 := ok_power (P := P) (w := w) (base := base) T d1
  refine d.F.ok sc_blocks_in_all (fun vs H Q E h => ?_) (fun cdv A outer s H vs Q E hr h => ?_)
  · obtain ⟨p, tall, wide, r, rfl, _⟩ := h
    rfl
  · obtain ⟨p, tall, wide, r, rfl, h2, h20, ht, hw, hr60, q⟩ := h
    refine ⟨_, pss_cons (ps_asg (pe_tup (pa_cons pe_int (pa_cons pe_int pa_nil))) (pg_tup rfl (pgs_cons (pg_name (i := 4) sc_blocks_in_all.nd rfl (.inl rfl)) (pgs_cons (pg_name (i := 5) sc_blocks_in_all.nd rfl (.inl rfl)) pgs_nil))))
      (pss_cons (ps_for PassesOwn.never rfl (pi_range1 rfl T.b_range (pa_cons (pv 3) pa_nil)) (pg_name (i := 6) sc_blocks_in_all.nd rfl (.inl rfl))
        (pss_cons (ps_set (i := 7) sc_blocks_in_all.nd rfl (.inl rfl) (pe_call G1 (hr.mono (by decide)) rfl d1.m d1.F.kp d1.b .nil pass0 (pa_cons (pv 0) (pa_cons (pv 6) pa_nil))))
      (pss_cons (ps_set (i := 4) sc_blocks_in_all.nd rfl (.inl rfl) (pe_op op_mulW (pe_op op_mulW (pv 4) (pe_op op_sub (pe_call G1 (hr.mono (by decide)) rfl d1.m d1.F.kp d1.b .nil pass0 (pa_cons (pv 0) (pa_cons (pv 1) pa_nil))) (pv 7))) (pe_op op_sub (pe_call G1 (hr.mono (by decide)) rfl d1.m d1.F.kp d1.b .nil pass0 (pa_cons (pv 0) (pa_cons (pv 2) pa_nil))) (pv 7))))
      (pss_one (ps_set (i := 5) sc_blocks_in_all.nd rfl (.inl rfl) (pe_op op_mulW (pv 5) (pe_op op_sub (pe_call G1 (hr.mono (by decide)) rfl d1.m d1.F.kp d1.b .nil pass0 (pa_cons (pv 0) (pa_cons (pv 3) pa_nil))) (pv 7))))))))
      (pss_one (ps_ret (pe_op op_fdivZ (pv 4) (pv 5))))), ?_⟩
    refine ⟨by show 2 ≤ sizeLine; decide, fun pr npr => ?_⟩
    have s1 := same_new (o := .tup [V.int 1, V.int 1]) npr
    have hpr := upd_same (H := H) (a := pr) (o := .tup [V.int 1, V.int 1])
    generalize upd H pr (.tup [V.int 1, V.int 1]) = H1 at *
    refine ⟨pr, [V.int 1, V.int 1], rfl, .of hpr, rfl, ?_⟩
    dsimp only [gCons, gNil, gName, tSeq]
    refine ⟨_, _, rfl, _, _, rfl, rfl, _, rfl, _, rfl, by omega, by omega, ?_⟩
    refine for_it (walk_range (lo := 0) (n := ((r : Nat) : Int).toNat)) (fun i σ H' => H' = H1 ∧ ∃ x6 x7 t u, σ = [some (.int p), some (.int (tall : Int)), some (.int (wide : Int)), some (.int (r : Int)), some (.int t), some (.int u), x6, x7] ∧ t = QQ.A p tall i * QQ.A p wide i ∧ u = QQ.A p r i)
      ⟨rfl, none, none, _, _, rfl, rfl, rfl⟩ (fun _ _ _ _ _ => trivial) ?_ ?_
    · rintro i x σ H3 H4 hi ⟨rfl, x6, x7, t, u, rfl, rfl, rfl⟩ ⟨rfl, rfl⟩
      rw [Int.toNat_natCast] at hi
      have h0 : 0 ≤ p := by omega
      have h20 : p ≤ 1048576 := by omega
      have bt := A_bits h0 h20 (c := 60) (t := tall) (by omega) (k := i) (by omega)
      have bw := A_bits h0 h20 (c := 60) (t := wide) (by omega) (k := i) (by omega)
      have br := A_bits h0 h20 (c := 60) (t := r) (by omega) (k := i) (by omega)
      have ft := sub_bits (pw_le h0 h20 (n := tall) (m := 1201) (by omega)) (pw_le h0 h20 (n := i) (m := 1201) (by omega))
      have fw := sub_bits (pw_le h0 h20 (n := wide) (m := 1201) (by omega)) (pw_le h0 h20 (n := i) (m := 1201) (by omega))
      have fr := sub_bits (pw_le h0 h20 (n := r) (m := 1201) (by omega)) (pw_le h0 h20 (n := i) (m := 1201) (by omega))
      dsimp only [gName, tSeq]
      refine ⟨_, rfl, _, rfl, p, i, by rw [Int.zero_add]; rfl, h0, h20, by omega, ?_⟩
      dsimp only [gName, tSeq]
      refine ⟨_, rfl, _, rfl, _, rfl, p, tall, rfl, h0, h20, by omega, _, rfl, _, _, rfl, rfl, _, _, rfl, rfl, wide_mul (mul_bits bt bw) ft (by omega) (by omega) (by omega), ?_⟩
      refine ⟨_, rfl, _, rfl, p, wide, rfl, h0, h20, by omega, _, rfl, _, _, rfl, rfl, _, _, rfl, rfl, wide_mul (mul_bits (mul_bits bt bw) ft) fw (by omega) (by omega) (by omega), ?_⟩
      dsimp only [gName, tSeq]
      refine ⟨_, rfl, _, rfl, _, rfl, p, r, rfl, h0, h20, by omega, _, rfl, _, _, rfl, rfl, _, _, rfl, rfl, wide_mul br fr (by omega) (by omega) (by omega), ?_⟩
      refine ⟨rfl, _, _, _, _, rfl, ?_, rfl⟩
      show QQ.A p tall i * QQ.A p wide i * (p ^ tall - p ^ i) * (p ^ wide - p ^ i) = (QQ.A p tall i * (p ^ tall - p ^ i)) * (QQ.A p wide i * (p ^ wide - p ^ i))
      grind
    · rintro σ H3 ⟨rfl, x6, x7, t, u, rfl, rfl, rfl⟩
      rw [Int.toNat_natCast]
      refine ⟨_, rfl, _, rfl, _, _, rfl, rfl, ⟨A_pos h2 (by omega), ?_⟩, ?_⟩
      · by_cases h8 : r ≤ 8
        · left
          have := A_bits (p := p) (by omega) (by omega) (c := 8) (t := r) (by omega) (k := r) (by omega)
          have := log2_of this (by omega)
          omega
        · right
          rw [A_zero (show tall < r by omega), Int.zero_mul]
      · show Q (V.int ((QQ.A p tall r * QQ.A p wide r) / QQ.A p r r)) _
        rw [A_blk h2]
        exact q _ s1
end
end S4

/-! the program's counting of two posts -/
namespace QQ
theorem ofR_bits {p : Int} (h : 2 ≤ p) (h20 : p ≤ 1048576) {w m r : Nat} (hw : w ≤ 60) (hm : m ≤ 60) (hr : r ≤ 60) : (ofR p w m r).natAbs < 2 ^ 144242 := by
  have e := ofR_A (p := p) w m r
  have h1 := A_pos h (t := r) (k := r) (by omega)
  have b1 := A_bits (p := p) (by omega) h20 hm hr
  have b2 := A_bits (p := p) (by omega) h20 hw hr
  have b3 := mul_bits b1 b2
  rw [← e, Int.natAbs_mul] at b3
  have h4 : (ofR p w m r).natAbs * 1 ≤ (ofR p w m r).natAbs * (A p r r).natAbs := Nat.mul_le_mul_left _ (by omega)
  have h5 : 2 ^ ((20 * 60 + 2) * r + 1 + ((20 * 60 + 2) * r + 1)) ≤ 2 ^ 144242 := Nat.pow_le_pow_right (by omega) (by omega)
  generalize (2 : Nat) ^ 144242 = X at *
  omega
end QQ
namespace S4
open PySem L2 TT MM QQ
theorem ties2 : TiesOk [((0 : Int), (1 : Int))] 2 := by
  refine ⟨rfl, by decide, fun z hz => ?_, by simp, fun x h0 h1 => ?_⟩
  · rw [List.mem_singleton.mp hz]; decide
  · have : x = 0 ∨ x = 1 := by omega
    rcases this with rfl | rfl
    · exact .refl
    · exact .step .refl (nb_mem.mpr (.inl (by simp))) (fun z => nomatch z)
theorem counts2 {a b : Nat} (ha : a ≤ 8) (hb : b ≤ 8) : CountsOk [(a : Int), (b : Int)] 2 :=
  ⟨rfl, fun h hh => by
    simp only [List.mem_cons, List.not_mem_nil, or_false] at hh
    omega, by simp only [List.sum_cons, List.sum_nil]; omega⟩
theorem counts_sum {l : List Int} {n : Nat} (h : CountsOk l n) : 0 ≤ l.sum := by
  have : ∀ l : List Int, (∀ x ∈ l, 0 ≤ x) → 0 ≤ l.sum := fun l => by
    induction l with
    | nil => intro _; simp
    | cons a l ih => intro h; rw [List.sum_cons]; have := ih fun x hx => h x (by simp [hx]); have := h a (by simp); omega
  exact this l fun x hx => (h.b x hx).1
theorem clk_le {p : Int} (h : NoDiv p) : 0 ≤ p ∧ p ≤ 1048576 := by have := h.1; have := h.2.1; omega
section
variable {P : Program} {w : World} {K : PySem.W.Frag} {mg : Str → Option Value} {base : Heap} {cT cS : Addr}
def spSia (cT : Addr) : Sp := fun vs H Q _ => ∃ (p : Int) (u v v2 : V) (holds wants : List Int) (n a b : Nat), vs = [.int p, u, v, v2] ∧ NoDiv p ∧ rPosts cT H u n ∧ n ≤ 24 ∧ rRow H v holds ∧ rRow H v2 wants ∧ CountsOk holds n ∧ CountsOk wants n ∧ holds.sum = (a : Int) ∧ wants.sum = (b : Int) ∧
  ∀ H', Same H H' → Q (.int (p ^ (a * b))) H'
theorem ok_sia (T : Tx K mg cT cS) {f : Addr} {fd : FuncData} (d : D K mg "sheets_in_all" s_sheets_in_all ["p", "tree", "holds", "wants"] f fd) : FnOk P w K mg base CX0 5 f fd ["p", "tree", "holds", "wants"] (spSia cT) := by
  obtain ⟨f1, fd1, d1⟩ := T.d_check_clock
  have G1 := ok_check_clock (P := P) (w := w) (base := base) T d1
  obtain ⟨f2, fd2, d2⟩ := T.d_check_counts
  have G2 := ok_ckCP (P := P) (w := w) (base := base) T d2
  obtain ⟨f3, fd3, d3⟩ := T.d_power
  have G3 := ok_power (P := P) (w := w) (base := base) T d3
  refine d.F.ok sc_sheets_in_all (fun vs H Q E h => ?_) (fun cdv A outer s H vs Q E hr h => ?_)
  · obtain ⟨p, u, v, v2, holds, wants, n, a, b, rfl, _⟩ := h
    rfl
  · obtain ⟨p, u, v, v2, holds, wants, n, a, b, rfl, clk, hu, hn, hh, hw, ch, cw, ea, eb, q⟩ := h
    refine ⟨_, pss_cons (ps_expr (pe_call G1 (hr.mono (by decide)) rfl d1.m d1.F.kp d1.b .nil pass0 (pa_cons (pv 0) pa_nil)))
      (pss_cons (ps_expr (pe_call G2 (hr.mono (by decide)) rfl d2.m d2.F.kp d2.b .nil pass0 (pa_cons (pv 1) (pa_cons (pv 2) pa_nil))))
      (pss_cons (ps_expr (pe_call G2 (hr.mono (by decide)) rfl d2.m d2.F.kp d2.b .nil pass0 (pa_cons (pv 1) (pa_cons (pv 3) pa_nil))))
      (pss_one (ps_ret (pe_call G3 (hr.mono (by decide)) rfl d3.m d3.F.kp d3.b .nil pass0 (pa_cons (pv 0) (pa_cons (pe_op op_mulW (pe_callB (cr_sumT rfl) (by rfl) T.b_sum (by decide +kernel) (pa_cons (pv 2) pa_nil)) (pe_callB (cr_sumT rfl) (by rfl) T.b_sum (by decide +kernel) (pa_cons (pv 3) pa_nil))) pa_nil))))))), ?_⟩
    refine ⟨_, rfl, p, rfl, clk, ?_⟩
    dsimp only [tDrop, tSeq]
    refine ⟨_, rfl, _, rfl, u, v, holds, n, rfl, hu, hn, hh, ch, fun H1 s1 => ?_⟩
    dsimp only [tSeq]
    refine ⟨_, rfl, _, rfl, u, v2, wants, n, rfl, mono_posts cT _ _ _ _ s1.keep hu, hn, mono_row _ _ _ _ s1.keep hw, cw, fun H2 s2 => ?_⟩
    obtain ⟨th, rfl, hth⟩ := mono_row _ _ _ _ (s1.trans s2).keep hh
    obtain ⟨tw, rfl, htw⟩ := mono_row _ _ _ _ (s1.trans s2).keep hw
    have na := counts_sum ch
    have a60 := ch.s
    have b60 := cw.s
    refine ⟨_, rfl, _, rfl, th, holds, rfl, .of hth, _, rfl, tw, wants, rfl, .of htw, _, _, rfl, rfl, wide_mul (a := 8) (b := 8) (by rw [ea]; show _ < 256; omega) (by rw [eb]; show _ < 256; omega) (by omega) (by omega) (by omega), ?_⟩
    rw [ea, eb]
    have hab : a * b ≤ 60 * 60 := Nat.mul_le_mul (by omega) (by omega)
    refine ⟨p, a * b, by show [V.int p, V.int ((a : Int) * b)] = _; rw [Int.natCast_mul], (clk_le clk).1, (clk_le clk).2, by omega, q _ (s1.trans s2)⟩
def spTia : Sp := fun vs H Q _ => ∃ (p : Int) (v v2 : V) (a b c e there back : Nat), vs = [.int p, v, v2, .int (there : Int), .int (back : Int)] ∧ NoDiv p ∧ rRow H v [(a : Int), (b : Int)] ∧ rRow H v2 [(c : Int), (e : Int)] ∧ a ≤ 8 ∧ b ≤ 8 ∧ c ≤ 8 ∧ e ≤ 8 ∧ there ≤ 60 ∧ back ≤ 60 ∧
  ∀ H', Same H H' → Q (.int (p ^ (a * c + b * e) * ofR p a e there * ofR p b c back)) H'
theorem ok_tia (T : Tx K mg cT cS) {f : Addr} {fd : FuncData} (d : D K mg "tolls_in_all" s_tolls_in_all ["p", "holds", "wants", "there", "back"] f fd) : FnOk P w K mg base CX0 7 f fd ["p", "holds", "wants", "there", "back"] spTia := by
  obtain ⟨aT, bT, hT, kT1, kT2⟩ := T.q_TWO_POSTS
  obtain ⟨f1, fd1, d1⟩ := T.d_check_clock
  have G1 := ok_check_clock (P := P) (w := w) (base := base) T d1
  obtain ⟨f2, fd2, k2⟩ := T.k_Tree
  have G2 := ok_TreeK (P := P) (w := w) (base := base) T k2
  obtain ⟨f3, fd3, d3⟩ := T.d_check_counts
  have G3 := ok_ckCP (P := P) (w := w) (base := base) T d3
  obtain ⟨f4, fd4, d4⟩ := T.d_is_below
  have G4 := ok_is_below (P := P) (w := w) (base := base) T d4
  obtain ⟨f5, fd5, d5⟩ := T.d_power
  have G5 := ok_power (P := P) (w := w) (base := base) T d5
  obtain ⟨f6, fd6, d6⟩ := T.d_blocks_in_all
  have G6 := ok_blk (P := P) (w := w) (base := base) T d6
  obtain ⟨tk_MOST_TOLL, h_MOST_TOLL⟩ := T.c_MOST_TOLL
  refine d.F.ok sc_tolls_in_all (fun vs H Q E h => ?_) (fun cdv A outer s H vs Q E hr h => ?_)
  · obtain ⟨p, v, v2, a, b, c, e, there, back, rfl, _⟩ := h
    rfl
  · obtain ⟨p, v, v2, a, b, c, e, there, back, rfl, clk, hv, hv2, ha, hb, hc, he, ht, hbk, q⟩ := h
    refine ⟨_, pss_cons (ps_expr (pe_call G1 (hr.mono (by decide)) rfl d1.m d1.F.kp d1.b .nil pass0 (pa_cons (pv 0) pa_nil)))
      (pss_cons (ps_set (i := 5) sc_tolls_in_all.nd rfl (.inl rfl) (pe_make k2.mkf G2 (hr.mono (by decide)) rfl k2.m k2.b .nil pass0 (pa_cons (pe_glob (v := .ref aT) rfl hT rfl) pa_nil)))
      (pss_cons (ps_expr (pe_call G3 (hr.mono (by decide)) rfl d3.m d3.F.kp d3.b .nil pass0 (pa_cons (pv 5) (pa_cons (pv 1) pa_nil))))
      (pss_cons (ps_expr (pe_call G3 (hr.mono (by decide)) rfl d3.m d3.F.kp d3.b .nil pass0 (pa_cons (pv 5) (pa_cons (pv 2) pa_nil))))
      (pss_cons (ps_for PassesOwn.never rfl (pi_tup (pe_tup (pa_cons (pv 3) (pa_cons (pv 4) pa_nil)))) (pg_name (i := 6) sc_tolls_in_all.nd rfl (.inl rfl))
        (pss_one (ps_if (pt_not (pt_val (pe_call G4 (hr.mono (by decide)) rfl d4.m d4.F.kp d4.b .nil pass0 (pa_cons (pv 6) (pa_cons (pe_op op_add (pe_glob (v := .int 60) rfl h_MOST_TOLL ⟨_, rfl⟩) pe_int) pa_nil))))) pss_never pss_nil)))
      (pss_cons (ps_set (i := 7) sc_tolls_in_all.nd rfl (.inl rfl) (pe_call G5 (hr.mono (by decide)) rfl d5.m d5.F.kp d5.b .nil pass0 (pa_cons (pv 0) (pa_cons (pe_op op_add (pe_op op_mulW (pe_ix ix_tup (pv 1) pe_int (fun _ _ => rfl)) (pe_ix ix_tup (pv 2) pe_int (fun _ _ => rfl))) (pe_op op_mulW (pe_ix ix_tup (pv 1) pe_int (fun _ _ => rfl)) (pe_ix ix_tup (pv 2) pe_int (fun _ _ => rfl)))) pa_nil))))
      (pss_one (ps_ret (pe_op op_mulW (pe_op op_mulW (pv 7) (pe_call G6 (hr.mono (by decide)) rfl d6.m d6.F.kp d6.b .nil pass0 (pa_cons (pv 0) (pa_cons (pe_ix ix_tup (pv 2) pe_int (fun _ _ => rfl)) (pa_cons (pe_ix ix_tup (pv 1) pe_int (fun _ _ => rfl)) (pa_cons (pv 3) pa_nil)))))) (pe_call G6 (hr.mono (by decide)) rfl d6.m d6.F.kp d6.b .nil pass0 (pa_cons (pv 0) (pa_cons (pe_ix ix_tup (pv 2) pe_int (fun _ _ => rfl)) (pa_cons (pe_ix ix_tup (pv 1) pe_int (fun _ _ => rfl)) (pa_cons (pv 4) pa_nil))))))))))))), ?_⟩
    refine ⟨_, rfl, p, rfl, clk, ?_⟩
    dsimp only [tDrop, tSeq]
    refine fun x dx nx ndx nex => ?_
    have s1 := same_make (C := cT) nx ndx nex
    have hx : upd (upd H dx (.own x)) x (.ins cT dx []) x = some (.ins cT dx []) := upd_same
    generalize upd (upd H dx (.own x)) x (.ins cT dx []) = H1 at *
    refine ⟨x, dx, .ref aT, [(0, 1)], 2, rfl, hx, ⟨aT, [.ref bT], rfl, .inr kT1, .cons ⟨bT, rfl, .inr kT2⟩ .nil⟩, ties2, fun H2 k2 hT => ⟨rfl, ?_⟩⟩
    have s2 : Same H H2 := fun b o e => k2 b o (fun z => by subst z; rw [e] at nx; cases nx) (s1 b o e)
    dsimp only [gName, tDrop, tSeq]
    have hv2' := mono_row _ _ _ _ s2.keep hv
    have hw2' := mono_row _ _ _ _ s2.keep hv2
    refine ⟨_, rfl, _, rfl, .ref x, v, _, 2, rfl, hT, by omega, hv2', counts2 ha hb, fun H3 s3 => ?_⟩
    dsimp only [tSeq]
    refine ⟨_, rfl, _, rfl, .ref x, v2, _, 2, rfl, mono_posts cT _ _ _ _ s3.keep hT, by omega, mono_row _ _ _ _ s3.keep hw2', counts2 hc he, fun H4 s4 => ?_⟩
    have s14 := s2.trans (s3.trans s4)
    have hv4 := mono_row _ _ _ _ s14.keep hv
    have hw4 := mono_row _ _ _ _ s14.keep hv2
    clear hv2' hw2' hT k2
    obtain ⟨tv, rfl, htv⟩ := hv4
    obtain ⟨tw, rfl, htw⟩ := hw4
    refine ⟨_, rfl, _, rfl, by show 2 ≤ sizeLine; decide, fun tq ntq => ?_⟩
    have s5 := same_new (o := .tup [V.int (there : Int), V.int (back : Int)]) ntq
    have htq := upd_same (H := H4) (a := tq) (o := .tup [V.int (there : Int), V.int (back : Int)])
    have htv := (s5.keep).tup htv
    have htw := (s5.keep).tup htw
    have s15 := s14.trans s5
    generalize upd H4 tq (.tup [V.int (there : Int), V.int (back : Int)]) = H5 at *
    refine ⟨tq, rfl, ⟨_, .of htq⟩, ?_⟩
    refine for_it (walk_tup (xs := [V.int (there : Int), V.int (back : Int)])) (fun i σ H' => H' = H5 ∧ ∃ x6 x7, σ = [some (.int p), some (.ref tv), some (.ref tw), some (.int (there : Int)), some (.int (back : Int)), some (.ref x), x6, x7])
      ⟨rfl, none, none, rfl⟩ (fun i σ H' _ hh => by rw [hh.1]; exact .of htq) ?_ ?_
    · rintro i z σ H6 H7 hi ⟨rfl, x6, x7, rfl⟩ ⟨rfl, hz⟩
      have hz60 : ∃ k : Nat, z = .int (k : Int) ∧ k ≤ 60 := by
        match i, hi, hz with
        | 0, _, hz => exact ⟨there, (Option.some.inj hz).symm, ht⟩
        | 1, _, hz => exact ⟨back, (Option.some.inj hz).symm, hbk⟩
      obtain ⟨k, rfl, hk⟩ := hz60
      dsimp only [gName]
      refine ⟨_, rfl, _, _, rfl, rfl, _, _, rfl, _, rfl, ?_⟩
      rw [decide_eq_true (show (0 : Int) ≤ k ∧ (k : Int) < 60 + 1 by omega)]
      exact iteF ⟨rfl, _, _, rfl⟩
    · rintro σ H6 ⟨rfl, x6, x7, rfl⟩
      dsimp only [gName, tSeq]
      have i0 : ∀ u v : Int, atI ([u, v].map V.int) 0 = some (.int u) := fun u v => rfl
      have i1 : ∀ u v : Int, atI ([u, v].map V.int) 1 = some (.int v) := fun u v => rfl
      have small : ∀ u v : Nat, u ≤ 8 → v ≤ 8 → CMulW (u : Int) (v : Int) := fun u v hu hv => wide_mul (a := 4) (b := 4) (by show _ < 16; omega) (by show _ < 16; omega) (by omega) (by omega) (by omega)
      have m1 : a * c ≤ 8 * 8 := Nat.mul_le_mul ha hc
      have m2 : b * e ≤ 8 * 8 := Nat.mul_le_mul hb he
      refine ⟨_, rfl, _, rfl, tv, _, _, _, rfl, rfl, .of htv, i0 _ _, _, rfl, tw, _, _, _, rfl, rfl, .of htw, i0 _ _, _, _, rfl, rfl, small _ _ ha hc, ?_⟩
      refine ⟨_, rfl, tv, _, _, _, rfl, rfl, .of htv, i1 _ _, _, rfl, tw, _, _, _, rfl, rfl, .of htw, i1 _ _, _, _, rfl, rfl, small _ _ hb he, _, _, rfl, rfl, ?_⟩
      refine ⟨p, a * c + b * e, by show [V.int p, V.int ((a : Int) * c + b * e)] = _; rw [Int.natCast_add, Int.natCast_mul, Int.natCast_mul], (clk_le clk).1, (clk_le clk).2, by omega, ?_⟩
      dsimp only [gName, tSeq]
      refine ⟨_, rfl, _, rfl, _, rfl, tw, _, _, _, rfl, rfl, .of htw, i1 _ _, _, rfl, tv, _, _, _, rfl, rfl, .of htv, i0 _ _, _, rfl, ?_⟩
      have bn := pw_le (clk_le clk).1 (clk_le clk).2 (n := a * c + b * e) (m := 2561) (by omega)
      have b1 := ofR_bits clk.1 (clk_le clk).2 (w := a) (m := e) (r := there) (by omega) (by omega) ht
      have b2 := ofR_bits clk.1 (clk_le clk).2 (w := b) (m := c) (r := back) (by omega) (by omega) hbk
      refine ⟨p, e, a, there, rfl, clk.1, clk.2.1, he, ha, ht, fun H7 s7 => ⟨_, _, rfl, rfl, wide_mul bn b1 (by omega) (by omega) (by omega), ?_⟩⟩
      have htv := (s7.keep).tup htv
      have htw := (s7.keep).tup htw
      refine ⟨_, rfl, _, rfl, tw, _, _, _, rfl, rfl, .of htw, i0 _ _, _, rfl, tv, _, _, _, rfl, rfl, .of htv, i1 _ _, _, rfl, ?_⟩
      refine ⟨p, c, b, back, rfl, clk.1, clk.2.1, hc, hb, hbk, fun H8 s8 => ⟨_, _, rfl, rfl, wide_mul (mul_bits bn b1) b2 (by omega) (by omega) (by omega), ?_⟩⟩
      exact q _ (s15.trans (s7.trans s8))
end
end S4

/-! the law's counting -/
namespace QQ
/-- a row's place while a turn goes -/
def part (p : Int) (w t i : Nat) : Nat → Int := fun k =>
  if k < i then ofR p w (t + 1) k else if k = i then (match k with | 0 => 0 | j + 1 => ofR p w t j * (p ^ w - p ^ j)) else 0
def rowR (p : Int) (w R t : Nat) : List Int := (List.range (R + 2)).map (ofR p w t)
def partR (p : Int) (w R t i : Nat) : List Int := (List.range (R + 2)).map (part p w t i)
theorem rowR_len {p : Int} {w R t : Nat} : (rowR p w R t).length = R + 2 := by unfold rowR; rw [List.length_map, List.length_range]
theorem partR_len {p : Int} {w R t i : Nat} : (partR p w R t i).length = R + 2 := by unfold partR; rw [List.length_map, List.length_range]
theorem rowR_at {p : Int} {w R t k : Nat} (h : k < R + 2) : (rowR p w R t)[k]? = some (ofR p w t k) := by
  unfold rowR; rw [List.getElem?_map, List.getElem?_range h]; rfl
theorem partR_at {p : Int} {w R t i k : Nat} (h : k < R + 2) : (partR p w R t i)[k]? = some (part p w t i k) := by
  unfold partR; rw [List.getElem?_map, List.getElem?_range h]; rfl
theorem rowR_zero (p : Int) (w R : Nat) : rowR p w R 0 = 1 :: List.replicate (R + 1) 0 := by
  apply List.ext_getElem?
  intro k
  by_cases h : k < R + 2
  · rw [rowR_at h]
    cases k with
    | zero => rfl
    | succ k => rw [List.getElem?_cons_succ, List.getElem?_replicate, if_pos (by omega)]; rfl
  · rw [List.getElem?_eq_none (by rw [rowR_len]; omega), List.getElem?_eq_none (by rw [List.length_cons, List.length_replicate]; omega)]
theorem partR_zero (p : Int) (w R t : Nat) : partR p w R t 0 = List.replicate (R + 2) 0 := by
  apply List.ext_getElem?
  intro k
  by_cases h : k < R + 2
  · rw [partR_at h, List.getElem?_replicate, if_pos h]
    unfold part
    rw [if_neg (by omega)]
    split
    · rename_i e; subst e; rfl
    · rfl
  · rw [List.getElem?_eq_none (by rw [partR_len]; omega), List.getElem?_eq_none (by rw [List.length_replicate]; omega)]
theorem partR_end {p : Int} (hp : 2 ≤ p) {w R t : Nat} (ht : t ≤ R) : partR p w R t (R + 1) = rowR p w R (t + 1) := by
  apply List.ext_getElem?
  intro k
  by_cases h : k < R + 2
  · rw [partR_at h, rowR_at h]
    unfold part
    by_cases h1 : k < R + 1
    · rw [if_pos h1]
    · have : k = R + 1 := by omega
      subst this
      rw [if_neg h1, if_pos rfl]
      show some (ofR p w t R * (p ^ w - p ^ R)) = some (ofR p w t (R + 1) * p ^ (R + 1) + ofR p w t R * (p ^ w - p ^ R))
      rw [ofR_rows hp (show t < R + 1 by omega), Int.zero_mul, Int.zero_add]
  · rw [List.getElem?_eq_none (by rw [partR_len]; omega), List.getElem?_eq_none (by rw [rowR_len]; omega)]
/-- one step of the inner going -/
theorem partR_step {p : Int} {w R t i : Nat} (h : i ≤ R) :
    ((partR p w R t i).set i (part p w t i i + ofR p w t i * p ^ i)).set (i + 1) (0 + ofR p w t i * (p ^ w - p ^ i)) = partR p w R t (i + 1) := by
  apply List.ext_getElem?
  intro k
  rw [List.getElem?_set, List.getElem?_set]
  by_cases h1 : k < R + 2
  · by_cases e1 : i + 1 = k
    · subst e1
      rw [if_pos rfl, if_pos (by rw [List.length_set, partR_len]; omega), partR_at h1]
      unfold part
      rw [if_neg (by omega), if_pos rfl, Int.zero_add]
    · rw [if_neg e1]
      by_cases e2 : i = k
      · subst e2
        rw [if_pos rfl, if_pos (by rw [partR_len]; omega), partR_at h1]
        unfold part
        rw [if_neg (by omega), if_pos rfl, if_pos (by omega)]
        cases i with
        | zero =>
          show some (0 + ofR p w t 0 * p ^ 0) = some (ofR p w t 0)
          rw [Int.zero_add, Int.pow_zero, Int.mul_one]
        | succ j =>
          show some (ofR p w t j * (p ^ w - p ^ j) + ofR p w t (j + 1) * p ^ (j + 1)) = some (ofR p w t (j + 1) * p ^ (j + 1) + ofR p w t j * (p ^ w - p ^ j))
          rw [Int.add_comm]
      · rw [if_neg e2, partR_at h1, partR_at h1]
        unfold part
        by_cases h2 : k < i
        · rw [if_pos h2, if_pos (by omega)]
        · rw [if_neg h2, if_neg (by omega), if_neg (by omega), if_neg (by omega)]
  · rw [List.getElem?_eq_none (by rw [partR_len]; omega), if_neg (by omega), if_neg (by omega), List.getElem?_eq_none (by rw [partR_len]; omega)]
theorem max_mul {p : Int} (hp : 2 ≤ p) {w t i : Nat} : ofR p w t i * (if p ^ w - p ^ i > 0 then p ^ w - p ^ i else 0) = ofR p w t i * (p ^ w - p ^ i) := by
  by_cases h : w < i
  · rw [ofR_wide hp h, Int.zero_mul, Int.zero_mul]
  · split
    · rfl
    · rename_i h2
      have : p ^ i ≤ p ^ w := by
        by_cases e : i = w
        · subst e; omega
        · have := pow_mono hp (a := i) (b := w) (by omega); omega
      rw [show p ^ w - p ^ i = 0 by omega]
end QQ
namespace S4
open PySem L2 TT MM QQ
section
variable {P : Program} {w : World} {K : PySem.W.Frag} {mg : Str → Option Value} {base : Heap} {cT cS : Addr}
theorem ok_lpow (T : Tx K mg cT cS) {f : Addr} {fd : FuncData} (d : D K mg "_law_power" s_law_power ["p", "many"] f fd) : FnOk P w K mg base CX0 1 f fd ["p", "many"] spPow := by
  refine d.F.ok sc_law_power (fun vs H Q E h => ?_) (fun cdv A outer s H vs Q E hr h => ?_)
  · obtain ⟨p, n, rfl, _⟩ := h
    rfl
  · obtain ⟨p, n, rfl, h0, h20, hn, q⟩ := h
    refine ⟨_, pss_cons (ps_set (i := 2) sc_law_power.nd rfl (.inl rfl) pe_int)
      (pss_cons (ps_for PassesOwn.never rfl (pi_range1 rfl T.b_range (pa_cons (pv 1) pa_nil)) (pg_name (i := 3) sc_law_power.nd rfl (.inl rfl))
        (pss_one (ps_set (i := 2) sc_law_power.nd rfl (.inl rfl) (pe_op op_mulW (pv 2) (pv 0)))))
      (pss_one (ps_ret (pv 2)))), ?_⟩
    refine ⟨_, rfl, _, rfl, by omega, by omega, ?_⟩
    refine for_it (walk_range (lo := 0) (n := ((n : Nat) : Int).toNat)) (fun i σ H' => H' = H ∧ ∃ x3 t, σ = [some (.int p), some (.int (n : Int)), some (.int t), x3] ∧ t = p ^ i)
      ⟨rfl, none, _, rfl, (Int.pow_zero p).symm⟩ (fun _ _ _ _ _ => trivial) ?_ ?_
    · rintro i x σ H3 H4 hi ⟨rfl, x3, t, rfl, rfl⟩ ⟨rfl, rfl⟩
      rw [Int.toNat_natCast] at hi
      dsimp only [gName, tSeq]
      exact ⟨_, rfl, _, rfl, _, _, rfl, rfl, wide_mul (pw_bits h0 h20 i) (show p.natAbs < 2 ^ 21 by show _ < 2097152; omega) (by omega) (by omega) (by omega), rfl, _, _, rfl, (Int.pow_succ p i).symm⟩
    · rintro σ H3 ⟨rfl, x3, t, rfl, rfl⟩
      rw [Int.toNat_natCast]
      exact ⟨_, rfl, q⟩
def spLRank : Sp := fun vs H Q _ => ∃ (p : Int) (R W r : Nat), vs = [.int p, .int (R : Int), .int (W : Int), .int (r : Int)] ∧ 2 ≤ p ∧ p ≤ 1000000 ∧ R ≤ 8 ∧ W ≤ 8 ∧ r ≤ 60 ∧ ∀ H', Same H H' → Q (.int (ofR p W R r)) H'
theorem ok_lrank (T : Tx K mg cT cS) {f : Addr} {fd : FuncData} (d : D K mg "_law_of_rank" s_law_of_rank ["p", "rows", "wide", "rank"] f fd) : FnOk P w K mg base CX0 2 f fd ["p", "rows", "wide", "rank"] spLRank := by
  obtain ⟨f1, fd1, d1⟩ := T.d_law_power
  have G1 := ok_lpow (P := P) (w := w) (base := base) T d1
  refine d.F.ok sc_law_of_rank (fun vs H Q E h => ?_) (fun cdv A outer s H vs Q E hr h => ?_)
  · obtain ⟨p, R, W, r, rfl, _⟩ := h
    rfl
  · obtain ⟨p, R, W, r, rfl, h2, h20, hR, hW, hr60, q⟩ := h
    refine ⟨_, pss_cons (ps_set (i := 4) sc_law_of_rank.nd rfl (.inl rfl) (pe_op op_cat (pe_lst (pa_cons pe_int pa_nil)) (pe_op op_rep (pe_lst (pa_cons pe_int pa_nil)) (pe_op op_add (pv 1) pe_int))))
      (pss_cons (ps_for PassesOwn.never rfl (pi_range1 rfl T.b_range (pa_cons (pv 1) pa_nil)) (pg_name (i := 5) sc_law_of_rank.nd rfl (.inl rfl))
        (pss_cons (ps_set (i := 6) sc_law_of_rank.nd rfl (.inl rfl) (pe_op op_rep (pe_lst (pa_cons pe_int pa_nil)) (pe_op op_add (pv 1) pe_int)))
      (pss_cons (ps_for PassesOwn.never rfl (pi_range1 rfl T.b_range (pa_cons (pe_op op_add (pv 1) pe_int) pa_nil)) (pg_name (i := 7) sc_law_of_rank.nd rfl (.inl rfl))
        (pss_cons (ps_par (i := 8) (j := 9) (by rfl) sc_law_of_rank.nd rfl rfl (by decide) rfl rfl (pa_cons (pe_call G1 (hr.mono (by decide)) rfl d1.m d1.F.kp d1.b .nil pass0 (pa_cons (pv 0) (pa_cons (pv 7) pa_nil))) (pa_cons (pe_call G1 (hr.mono (by decide)) rfl d1.m d1.F.kp d1.b .nil pass0 (pa_cons (pv 0) (pa_cons (pv 2) pa_nil))) pa_nil)) (by rfl))
      (pss_cons (ps_asg (pe_op op_add (pe_ix ix_list (pv 6) (pv 7) (fun _ _ => rfl)) (pe_op op_mulW (pe_ix ix_list (pv 4) (pv 7) (fun _ _ => rfl)) (pv 8))) (pg_sub (pv 6) (pv 7) set_list))
      (pss_one (ps_asg (pe_op op_add (pe_ix ix_list (pv 6) (pe_op op_add (pv 7) pe_int) (fun _ _ => rfl)) (pe_op op_mulW (pe_ix ix_list (pv 4) (pv 7) (fun _ _ => rfl)) (pe_callB (call_max2 rfl) (by rfl) T.b_max (by decide +kernel) (pa_cons pe_int (pa_cons (pe_op op_sub (pv 9) (pv 8)) pa_nil))))) (pg_sub (pv 6) (pe_op op_add (pv 7) pe_int) set_list))))))
      (pss_one (ps_set (i := 4) sc_law_of_rank.nd rfl (.inl rfl) (pv 6))))))
      (pss_one (ps_ret (pe_ifExp (pt_cmpR op_lt (pv 3) (pe_callB call_len_seq (by rfl) T.b_len PySem.boot_len (pa_cons (pv 4) pa_nil)) (nomark _)) (pe_ix ix_list (pv 4) (pv 3) (fun _ _ => rfl)) pe_int)))), ?_⟩
    refine ⟨by show 1 ≤ sizeLine; decide, fun l0 nl0 => ?_⟩
    have nl0' := nl0
    have s0 := same_new (o := .lst [V.int 1]) nl0
    have h0 := upd_same (H := H) (a := l0) (o := .lst [V.int 1])
    generalize upd H l0 (.lst [V.int 1]) = H1 at *
    refine ⟨by show 1 ≤ sizeLine; decide, fun l1 nl1 => ?_⟩
    have s1 := same_new (o := .lst [V.int 0]) nl1
    have h1 := upd_same (H := H1) (a := l1) (o := .lst [V.int 0])
    have h0 := s1 _ _ h0
    generalize upd H1 l1 (.lst [V.int 0]) = H2 at *
    refine ⟨_, rfl, _, _, rfl, rfl, l1, _, _, rfl, rfl, h1, by omega, by omega, Nat.le_trans (by show 1 * _ ≤ 100; omega) (by decide), fun l2 nl2 => ?_⟩
    rw [rep_zero, show ((R : Int) + 1).toNat = R + 1 by omega]
    have s2 := same_new (o := .lst ((List.replicate (R + 1) (0 : Int)).map V.int)) nl2
    have h2l := upd_same (H := H2) (a := l2) (o := .lst ((List.replicate (R + 1) (0 : Int)).map V.int))
    have h0 := s2 _ _ h0
    generalize upd H2 l2 (.lst ((List.replicate (R + 1) (0 : Int)).map V.int)) = H3 at *
    refine ⟨l0, l2, _, _, rfl, rfl, h0, h2l, Nat.le_trans (by rw [List.length_map, List.length_replicate]; show 1 + (R + 1) ≤ 100; omega) (by decide), fun l3 nl3 => ?_⟩
    have e3 : [V.int 1] ++ (List.replicate (R + 1) (0 : Int)).map V.int = (rowR p W R 0).map V.int := by rw [rowR_zero]; rfl
    rw [e3]
    have s3 := same_new (o := .lst ((rowR p W R 0).map V.int)) nl3
    have h3 := upd_same (H := H3) (a := l3) (o := .lst ((rowR p W R 0).map V.int))
    have s03 := s0.trans (s1.trans (s2.trans s3))
    generalize upd H3 l3 (.lst ((rowR p W R 0).map V.int)) = H4 at *
    clear nl0 nl0' s0 h0 nl1 s1 h1 nl2 s2 h2l nl3 s3 e3
    dsimp only [gName, tSeq]
    refine ⟨_, rfl, _, rfl, by omega, by omega, ?_⟩
    refine for_it (walk_range (lo := 0) (n := ((R : Nat) : Int).toNat)) (fun t σ H' => Same H H' ∧ ∃ c x5 x6 x7 x8 x9, σ = [some (.int p), some (.int (R : Int)), some (.int (W : Int)), some (.int (r : Int)), some (.ref c), x5, x6, x7, x8, x9] ∧ H' c = some (.lst ((rowR p W R t).map V.int)))
      ⟨s03, l3, none, none, none, none, none, rfl, h3⟩ (fun _ _ _ _ _ => trivial) ?_ ?_
    · clear s03 h3
      rintro t x σ H5 H6 hi ⟨s5, c, x5, x6, x7, x8, x9, rfl, hc⟩ ⟨rfl, rfl⟩
      rw [Int.toNat_natCast] at hi
      dsimp only [gName, tSeq]
      refine ⟨by show 1 ≤ sizeLine; decide, fun l1 nl1 => ?_⟩
      have s1 := same_new (o := .lst [V.int 0]) nl1
      have h1 := upd_same (H := H6) (a := l1) (o := .lst [V.int 0])
      generalize upd H6 l1 (.lst [V.int 0]) = H7 at *
      refine ⟨_, rfl, _, _, rfl, rfl, l1, _, _, rfl, rfl, h1, by omega, by omega, Nat.le_trans (by show 1 * _ ≤ 100; omega) (by decide), fun l2 nl2 => ?_⟩
      rw [rep_zero, show ((R : Int) + 2).toNat = R + 2 by omega, ← partR_zero p W R t]
      have s2 := same_new (o := .lst ((partR p W R t 0).map V.int)) nl2
      have h2l := upd_same (H := H7) (a := l2) (o := .lst ((partR p W R t 0).map V.int))
      have nl2' := s1.free nl2
      have s12 := s1.trans s2
      generalize upd H7 l2 (.lst ((partR p W R t 0).map V.int)) = H8 at *
      clear s1 h1 s2 nl2
      dsimp only [gName, tSeq]
      refine ⟨_, rfl, _, _, rfl, rfl, _, rfl, by omega, by omega, ?_⟩
      refine for_it (walk_range (lo := 0) (n := ((R : Int) + 1).toNat)) (fun i σ H' => Same H6 H' ∧ ∃ x7 x8 x9, σ = [some (.int p), some (.int (R : Int)), some (.int (W : Int)), some (.int (r : Int)), some (.ref c), some (.int (0 + (t : Int))), some (.ref l2), x7, x8, x9] ∧ H' l2 = some (.lst ((partR p W R t i).map V.int)))
        ⟨s12, x7, x8, x9, rfl, h2l⟩ (fun _ _ _ _ _ => trivial) ?_ ?_
      · clear s12 h2l x7 x8 x9
        rintro i x σ H9 H10 hi2 ⟨s9, x7, x8, x9, rfl, hl⟩ ⟨rfl, rfl⟩
        rw [show ((R : Int) + 1).toNat = R + 1 by omega] at hi2
        have hc9 := s9 _ _ hc
        have hli : (partR p W R t i)[i]? = some (QQ.part p W t i i) := partR_at (by omega)
        have hli1 : ((partR p W R t i).set i (QQ.part p W t i i + ofR p W t i * p ^ i))[i + 1]? = some 0 := by
          rw [List.getElem?_set_ne (by omega), partR_at (by omega)]
          unfold QQ.part
          rw [if_neg (by omega), if_neg (by omega)]
        have hci : (rowR p W R t)[i]? = some (ofR p W t i) := rowR_at (by omega)
        have bO := ofR_bits h2 (by omega) (w := W) (m := t) (r := i) (by omega) (by omega) (by omega)
        have bI := pw_le (p := p) (by omega) (by omega) (n := i) (m := 1201) (by omega)
        have bW := pw_le (p := p) (by omega) (by omega) (n := W) (m := 1201) (by omega)
        have bS := sub_bits bW bI
        dsimp only [gName, tSeq]
        rw [show (0 : Int) + (i : Int) = i from Int.zero_add _]
        refine ⟨_, rfl, _, rfl, p, i, rfl, by omega, by omega, by omega, _, rfl, _, rfl, p, W, rfl, by omega, by omega, by omega, _, _, rfl, ?_⟩
        dsimp only [tSeq]
        refine ⟨_, rfl, _, rfl, l2, _, _, _, rfl, rfl, .of hl, atI_nat (int_at hli), _, rfl, _, rfl, c, _, _, _, rfl, rfl, .of hc9, atI_nat (int_at hci), _, rfl, _, _, rfl, rfl, wide_mul bO bI (by omega) (by omega) (by omega), _, _, rfl, rfl, ?_⟩
        refine ⟨_, rfl, _, rfl, l2, _, _, i, rfl, rfl, hl, ixN_nat (by rw [List.length_map, partR_len]; omega), ?_⟩
        rw [← List.map_set]
        have hl1 := upd_same (H := H10) (a := l2) (o := .lst (((partR p W R t i).set i (QQ.part p W t i i + ofR p W t i * p ^ i)).map V.int))
        have s10 := same_own s9 (p := l2) (o := .lst (((partR p W R t i).set i (QQ.part p W t i i + ofR p W t i * p ^ i)).map V.int)) nl2'
        have hc10 := s10 _ _ hc
        generalize upd H10 l2 (.lst (((partR p W R t i).set i (QQ.part p W t i i + ofR p W t i * p ^ i)).map V.int)) = H11 at *
        refine ⟨_, rfl, _, rfl, _, _, rfl, rfl, l2, _, _, _, rfl, rfl, .of hl1, atI_nat (int_at hli1), _, rfl, _, rfl, c, _, _, _, rfl, rfl, .of hc10, atI_nat (int_at hci), ?_⟩
        refine ⟨_, rfl, _, rfl, _, _, rfl, rfl, _, _, rfl, _, _, rfl, rfl, ?_, ?_⟩
        · split
          · exact wide_mul bO bS (by omega) (by omega) (by omega)
          · exact wide_mul bO (b := 1) (by decide) (by omega) (by omega) (by omega)
        · clear bO bI bW bS
          show rI0 (fun i j => V.int (i + j)) (V.int 0) (V.int (ofR p W t i * (if p ^ W - p ^ i > 0 then p ^ W - p ^ i else 0))) _ _
          rw [max_mul h2]
          refine ⟨_, _, rfl, rfl, _, rfl, _, rfl, _, _, rfl, rfl, l2, _, _, i + 1, rfl, rfl, hl1, (show ixN _ ((i + 1 : Nat) : Int) = some (i + 1) from ixN_nat (by rw [List.length_map, List.length_set, partR_len]; omega)), ?_⟩
          rw [← List.map_set, partR_step (by omega)]
          exact ⟨same_own s10 nl2', _, _, _, rfl, upd_same⟩
      · rintro σ H9 ⟨s9, x7, x8, x9, rfl, hl⟩
        rw [show ((R : Int) + 1).toNat = R + 1 by omega, partR_end h2 (by omega)] at hl
        exact ⟨_, rfl, s5.trans s9, _, _, _, _, _, _, rfl, hl⟩
    · rintro σ H5 ⟨s5, c, x5, x6, x7, x8, x9, rfl, hc⟩
      rw [Int.toNat_natCast] at hc
      have eC : V.int ((((rowR p W R R).map V.int).length : Nat) : Int) = V.int (((R + 2 : Nat) : Int)) := by rw [List.length_map, rowR_len]
      refine ⟨_, rfl, _, rfl, c, _, rfl, .inl (.of hc), ?_⟩
      rw [eC]
      refine ⟨_, _, rfl, rfl, _, rfl, ?_⟩
      refine ite2 (fun hc2 => ?_) (fun hc2 => ?_)
      · have hc2 := of_decide_eq_true hc2
        exact ⟨_, rfl, _, rfl, c, _, _, _, rfl, rfl, .of hc, atI_nat (int_at (rowR_at (by omega))), q _ s5⟩
      · have hc2 : ¬ ((r : Int) < ((R + 2 : Nat) : Int)) := fun z => hc2 (decide_eq_true z)
        have := q _ s5
        rw [ofR_rows h2 (by omega)] at this
        exact this
theorem ok_lall (T : Tx K mg cT cS) {f : Addr} {fd : FuncData} (d : D K mg "_law_in_all" s_law_in_all ["p", "holds", "wants", "there", "back"] f fd) : FnOk P w K mg base CX0 3 f fd ["p", "holds", "wants", "there", "back"] spTia := by
  obtain ⟨f1, fd1, d1⟩ := T.d_law_power
  have G1 := ok_lpow (P := P) (w := w) (base := base) T d1
  obtain ⟨f2, fd2, d2⟩ := T.d_law_of_rank
  have G2 := ok_lrank (P := P) (w := w) (base := base) T d2
  refine d.F.ok sc_law_in_all (fun vs H Q E h => ?_) (fun cdv A outer s H vs Q E hr h => ?_)
  · obtain ⟨p, v, v2, a, b, c, e, there, back, rfl, _⟩ := h
    rfl
  · obtain ⟨p, v, v2, a, b, c, e, there, back, rfl, clk, hv, hv2, ha, hb, hc, he, ht, hbk, q⟩ := h
    refine ⟨_, pss_cons (ps_set (i := 5) sc_law_in_all.nd rfl (.inl rfl) (pe_call G1 (hr.mono (by decide)) rfl d1.m d1.F.kp d1.b .nil pass0 (pa_cons (pv 0) (pa_cons (pe_op op_add (pe_op op_mulW (pe_ix ix_tup (pv 1) pe_int (fun _ _ => rfl)) (pe_ix ix_tup (pv 2) pe_int (fun _ _ => rfl))) (pe_op op_mulW (pe_ix ix_tup (pv 1) pe_int (fun _ _ => rfl)) (pe_ix ix_tup (pv 2) pe_int (fun _ _ => rfl)))) pa_nil))))
      (pss_one (ps_ret (pe_op op_mulW (pe_op op_mulW (pv 5) (pe_call G2 (hr.mono (by decide)) rfl d2.m d2.F.kp d2.b .nil pass0 (pa_cons (pv 0) (pa_cons (pe_ix ix_tup (pv 2) pe_int (fun _ _ => rfl)) (pa_cons (pe_ix ix_tup (pv 1) pe_int (fun _ _ => rfl)) (pa_cons (pv 3) pa_nil)))))) (pe_call G2 (hr.mono (by decide)) rfl d2.m d2.F.kp d2.b .nil pass0 (pa_cons (pv 0) (pa_cons (pe_ix ix_tup (pv 2) pe_int (fun _ _ => rfl)) (pa_cons (pe_ix ix_tup (pv 1) pe_int (fun _ _ => rfl)) (pa_cons (pv 4) pa_nil)))))))), ?_⟩
    obtain ⟨tv, rfl, htv⟩ := hv
    obtain ⟨tw, rfl, htw⟩ := hv2
    have i0 : ∀ u v : Int, atI ([u, v].map V.int) 0 = some (.int u) := fun u v => rfl
    have i1 : ∀ u v : Int, atI ([u, v].map V.int) 1 = some (.int v) := fun u v => rfl
    have small : ∀ u v : Nat, u ≤ 8 → v ≤ 8 → CMulW (u : Int) (v : Int) := fun u v hu hv => wide_mul (a := 4) (b := 4) (by show _ < 16; omega) (by show _ < 16; omega) (by omega) (by omega) (by omega)
    have m1 : a * c ≤ 8 * 8 := Nat.mul_le_mul ha hc
    have m2 : b * e ≤ 8 * 8 := Nat.mul_le_mul hb he
    refine ⟨_, rfl, _, rfl, tv, _, _, _, rfl, rfl, .of htv, i0 _ _, _, rfl, tw, _, _, _, rfl, rfl, .of htw, i0 _ _, _, _, rfl, rfl, small _ _ ha hc, ?_⟩
    refine ⟨_, rfl, tv, _, _, _, rfl, rfl, .of htv, i1 _ _, _, rfl, tw, _, _, _, rfl, rfl, .of htw, i1 _ _, _, _, rfl, rfl, small _ _ hb he, _, _, rfl, rfl, ?_⟩
    refine ⟨p, a * c + b * e, by show [V.int p, V.int ((a : Int) * c + b * e)] = _; rw [Int.natCast_add, Int.natCast_mul, Int.natCast_mul], (clk_le clk).1, (clk_le clk).2, by omega, ?_⟩
    dsimp only [gName, tSeq]
    have bn := pw_le (clk_le clk).1 (clk_le clk).2 (n := a * c + b * e) (m := 2561) (by omega)
    have b1 := ofR_bits clk.1 (clk_le clk).2 (w := a) (m := e) (r := there) (by omega) (by omega) ht
    have b2 := ofR_bits clk.1 (clk_le clk).2 (w := b) (m := c) (r := back) (by omega) (by omega) hbk
    refine ⟨_, rfl, _, rfl, _, rfl, tw, _, _, _, rfl, rfl, .of htw, i1 _ _, _, rfl, tv, _, _, _, rfl, rfl, .of htv, i0 _ _, _, rfl, ?_⟩
    refine ⟨p, e, a, there, rfl, clk.1, clk.2.1, he, ha, ht, fun H7 s7 => ⟨_, _, rfl, rfl, wide_mul bn b1 (by omega) (by omega) (by omega), ?_⟩⟩
    have htv := (s7.keep).tup htv
    have htw := (s7.keep).tup htw
    refine ⟨_, rfl, _, rfl, tw, _, _, _, rfl, rfl, .of htw, i0 _ _, _, rfl, tv, _, _, _, rfl, rfl, .of htv, i1 _ _, _, rfl, ?_⟩
    refine ⟨p, c, b, back, rfl, clk.1, clk.2.1, hc, hb, hbk, fun H8 s8 => ⟨_, _, rfl, rfl, wide_mul (mul_bits bn b1) b2 (by omega) (by omega) (by omega), ?_⟩⟩
    exact q _ (s7.trans s8)
end
end S4

/-! great numbers of sheets of two posts -/
namespace QQ
theorem tot_map (f : Nat → Int) (n : Nat) : ((List.range n).map f).sum = tot f n := by
  induction n with
  | zero => rfl
  | succ n ih => rw [List.range_succ, List.map_append, List.sum_append, ih]; simp [tot]
theorem tot_mul (c : Int) (f : Nat → Int) : ∀ n : Nat, tot (fun i => c * f i) n = c * tot f n
  | 0 => by show (0 : Int) = c * 0; rw [Int.mul_zero]
  | n + 1 => by show tot (fun i => c * f i) n + c * f n = c * (tot f n + f n); rw [tot_mul c f n]; grind
theorem tot_mulR (c : Int) (f : Nat → Int) : ∀ n : Nat, tot (fun i => f i * c) n = tot f n * c
  | 0 => by show (0 : Int) = 0 * c; rw [Int.zero_mul]
  | n + 1 => by show tot (fun i => f i * c) n + f n * c = (tot f n + f n) * c; rw [tot_mulR c f n]; grind
theorem great_sum {p : Int} (h : 2 ≤ p) {a b c e : Nat} (hc : c ≤ 8) (he : e ≤ 8) :
    tot (fun one => tot (fun other => p ^ (a * c + b * e) * ofR p a e one * ofR p b c other) 9) 9 = p ^ ((a + b) * (c + e)) := by
  have e1 : (fun one => tot (fun other => p ^ (a * c + b * e) * ofR p a e one * ofR p b c other) 9) = fun one => (p ^ (a * c + b * e) * ofR p a e one) * p ^ (c * b) := by
    funext one
    rw [tot_mul, ofR_total h b c 9 (by omega)]
  rw [e1, tot_mulR, tot_mul, ofR_total h a e 9 (by omega), ← Int.pow_add, ← Int.pow_add]
  congr 1
  grind
end QQ
namespace S4
open PySem L2 TT MM QQ
section
variable {P : Program} {w : World} {K : PySem.W.Frag} {mg : Str → Option Value} {base : Heap} {cT cS : Addr}
def spGreatR : Sp := fun vs H Q _ => ∃ (b q : Addr), vs = [.ref b] ∧ Bag b q H ∧ ∀ H', Bt b q H H' → Bag b q H' → Q (.bl true) H'
theorem ok_greatR (T : Tx K mg cT cS) {f : Addr} {fd : FuncData} (d : D K mg "_law_great_right" s_law_great_right ["bag"] f fd) : FnOk P w K mg base CX0 8 f fd ["bag"] spGreatR := by
  obtain ⟨f1, fd1, d1⟩ := T.d_law_clock
  have G1 := ok_clockB (P := P) (w := w) (base := base) T d1
  obtain ⟨f2, fd2, d2⟩ := T.d_law_pick
  have G2 := ok_pick (P := P) (w := w) (base := base) T d2
  obtain ⟨f3, fd3, d3⟩ := T.d_law_some
  have G3 := ok_some (P := P) (w := w) (base := base) T d3
  obtain ⟨f4, fd4, d4⟩ := T.d_tolls_in_all
  have G4 := ok_tia (P := P) (w := w) (base := base) T d4
  obtain ⟨f5, fd5, d5⟩ := T.d_law_in_all
  have G5 := ok_lall (P := P) (w := w) (base := base) T d5
  obtain ⟨f6, fd6, d6⟩ := T.d_law_is
  have G6 := ok_is (P := P) (w := w) (base := base) T d6 0
  obtain ⟨f7, fd7, d7⟩ := T.d_law_power
  have G7 := ok_lpow (P := P) (w := w) (base := base) T d7
  obtain ⟨f8, fd8, k8⟩ := T.k_Tree
  have G8 := ok_TreeK (P := P) (w := w) (base := base) T k8
  obtain ⟨f9, fd9, d9⟩ := T.d_sheets_in_all
  have G9 := ok_sia (P := P) (w := w) (base := base) T d9
  refine d.F.ok sc_law_great_right (fun vs H Q E h => ?_) (fun cdv A outer s H vs Q E hr h => ?_)
  · obtain ⟨b, q0, rfl, _⟩ := h
    rfl
  · obtain ⟨b, q0, rfl, hB, q⟩ := h
    refine ⟨_, pss_cons (ps_set (i := 1) sc_law_great_right.nd rfl (.inr rfl) (pe_call G1 (hr.mono (by decide)) rfl d1.m d1.F.kp d1.b .nil pass0 (pa_cons (pv 0) pa_nil)))
      (pss_cons (ps_asg (pe_tup (pa_cons (pe_tup (pa_cons (pe_call G2 (hr.mono (by decide)) rfl d2.m d2.F.kp d2.b .nil pass0 (pa_cons (pv 0) (pa_cons pe_int pa_nil))) (pa_cons (pe_call G2 (hr.mono (by decide)) rfl d2.m d2.F.kp d2.b .nil pass0 (pa_cons (pv 0) (pa_cons pe_int pa_nil))) pa_nil))) (pa_cons (pe_tup (pa_cons (pe_call G2 (hr.mono (by decide)) rfl d2.m d2.F.kp d2.b .nil pass0 (pa_cons (pv 0) (pa_cons pe_int pa_nil))) (pa_cons (pe_call G2 (hr.mono (by decide)) rfl d2.m d2.F.kp d2.b .nil pass0 (pa_cons (pv 0) (pa_cons pe_int pa_nil))) pa_nil))) pa_nil))) (pg_tup rfl (pgs_cons (pg_name (i := 2) sc_law_great_right.nd rfl (.inr rfl)) (pgs_cons (pg_name (i := 3) sc_law_great_right.nd rfl (.inr rfl)) pgs_nil))))
      (pss_cons (ps_par (i := 4) (j := 5) (by rfl) sc_law_great_right.nd rfl rfl (by decide) rfl rfl (pa_cons (pe_call G2 (hr.mono (by decide)) rfl d2.m d2.F.kp d2.b .nil pass0 (pa_cons (pv 0) (pa_cons pe_int pa_nil))) (pa_cons (pe_call G3 (hr.mono (by decide)) rfl d3.m d3.F.kp d3.b .nil pass0 (pa_cons (pv 0) (pa_cons (pe_lst (pa_cons pe_int (pa_cons pe_int (pa_cons pe_int (pa_cons (pe_call G2 (hr.mono (by decide)) rfl d2.m d2.F.kp d2.b .nil pass0 (pa_cons (pv 0) (pa_cons pe_int pa_nil))) (pa_cons pe_int pa_nil)))))) pa_nil))) pa_nil)) (by rfl))
      (pss_cons (ps_if (pt_not (pt_val (pe_call G6 (hr.mono (by decide)) rfl d6.m d6.F.kp d6.b .nil pass0 (pa_cons (pe_call G4 (hr.mono (by decide)) rfl d4.m d4.F.kp d4.b .nil pass0 (pa_cons (pv 1) (pa_cons (pv 2) (pa_cons (pv 3) (pa_cons (pv 4) (pa_cons (pv 5) pa_nil)))))) (pa_cons (pe_call G5 (hr.mono (by decide)) rfl d5.m d5.F.kp d5.b .nil pass0 (pa_cons (pv 1) (pa_cons (pv 2) (pa_cons (pv 3) (pa_cons (pv 4) (pa_cons (pv 5) pa_nil)))))) pa_nil))))) pss_never pss_nil)
      (pss_cons (ps_set (i := 6) sc_law_great_right.nd rfl (.inl rfl) (pe_call G7 (hr.mono (by decide)) rfl d7.m d7.F.kp d7.b .nil pass0 (pa_cons (pv 1) (pa_cons (pe_op op_mulW (pe_callB (cr_sumT rfl) (by rfl) T.b_sum (by decide +kernel) (pa_cons (pv 2) pa_nil)) (pe_callB (cr_sumT rfl) (by rfl) T.b_sum (by decide +kernel) (pa_cons (pv 3) pa_nil))) pa_nil))))
      (pss_cons (ps_set (i := 7) sc_law_great_right.nd rfl (.inl rfl) pe_int)
      (pss_cons (ps_for PassesOwn.never rfl (pi_range1 rfl T.b_range (pa_cons pe_int pa_nil)) (pg_name (i := 8) sc_law_great_right.nd rfl (.inr rfl))
        (pss_one (ps_set (i := 7) sc_law_great_right.nd rfl (.inl rfl) (pe_op op_add (pv 7) (pe_callB (cr_sum rfl) (by rfl) T.b_sum (by decide +kernel) (pa_cons (pe_lc (own := [("other", 9)]) (g := (gName 9)) (tt := tYes) rfl sc_law_great_right.nd (pi_range1 rfl T.b_range (pa_cons pe_int pa_nil)) (blkOk_by (N := N_law_great_right) (sc := defScope s_law_great_right) (by decide +kernel)) (fun _ _ _ _ _ => (pg_name (i := 9) sc_law_great_right.nd rfl (Or.inl rfl))) (fun _ _ _ _ _ => pts_nil)
            (fun _ _ _ _ _ => (pe_call G4 (hr.mono (by decide)) rfl d4.m d4.F.kp d4.b .nil pass0 (pa_cons (pv 1) (pa_cons (pv 2) (pa_cons (pv 3) (pa_cons (pv 8) (pa_cons (pv 9) pa_nil)))))))) pa_nil))))))
      (pss_one (ps_ret (pe_and (pe_cmpR op_eq (pv 7) (pv 6) (nomark _)) (pe_one (pe_call G6 (hr.mono (by decide)) rfl d6.m d6.F.kp d6.b .nil pass0 (pa_cons (pe_call G9 (hr.mono (by decide)) rfl d9.m d9.F.kp d9.b .nil pass0 (pa_cons (pv 1) (pa_cons (pe_make k8.mkf G8 (hr.mono (by decide)) rfl k8.m k8.b .nil pass0 (pa_cons (pe_tup (pa_cons (pe_tup (pa_cons pe_int (pa_cons pe_int pa_nil))) pa_nil)) pa_nil)) (pa_cons (pv 2) (pa_cons (pv 3) pa_nil))))) (pa_cons (pv 6) pa_nil))))))))))))), ?_⟩
    have nn : ∀ n m : Int, 0 ≤ n → n < m → ∃ k : Nat, n = (k : Int) ∧ (k : Int) < m := fun n m h1 h2 => ⟨n.toNat, by omega, by omega⟩
    refine ⟨_, rfl, b, q0, rfl, hB, fun H1 p b1 hB1 clk => ?_⟩
    dsimp only [gName, tSeq]
    refine ⟨_, rfl, b, q0, 9, rfl, by decide, by decide, hB1, fun H2 n b2 hB2 n0 n9 => ?_⟩
    obtain ⟨x, rfl, hx⟩ := nn _ _ n0 n9
    refine ⟨_, rfl, b, q0, 9, rfl, by decide, by decide, hB2, fun H3 n b3 hB3 n0 n9 => ?_⟩
    obtain ⟨y, rfl, hy⟩ := nn _ _ n0 n9
    refine ⟨by show 2 ≤ sizeLine; decide, fun t1 nt1 => ?_⟩
    have s1 := same_new (o := .tup [V.int (x : Int), V.int (y : Int)]) nt1
    have hv := upd_same (H := H3) (a := t1) (o := .tup [V.int (x : Int), V.int (y : Int)])
    have hB4 := hB3.same s1
    have b14 := b1.trans (b2.trans (b3.trans (s1.bt b q0)))
    generalize upd H3 t1 (.tup [V.int (x : Int), V.int (y : Int)]) = H4 at *
    clear b1 b2 b3 s1 hB hB1 hB2 hB3 nt1
    refine ⟨_, rfl, b, q0, 9, rfl, by decide, by decide, hB4, fun H5 n b5 hB5 n0 n9 => ?_⟩
    obtain ⟨z, rfl, hz⟩ := nn _ _ n0 n9
    refine ⟨_, rfl, b, q0, 9, rfl, by decide, by decide, hB5, fun H6 n b6 hB6 n0 n9 => ?_⟩
    obtain ⟨u, rfl, hu⟩ := nn _ _ n0 n9
    have hv := ((hB4.keepN b5.n).trans (hB5.keepN b6.n)).tup hv
    refine ⟨by show 2 ≤ sizeLine; decide, fun t2 nt2 => ?_⟩
    have s2 := same_new (o := .tup [V.int (z : Int), V.int (u : Int)]) nt2
    have hw := upd_same (H := H6) (a := t2) (o := .tup [V.int (z : Int), V.int (u : Int)])
    have hv := s2 _ _ hv
    have hB7 := hB6.same s2
    have b17 := b14.trans (b5.trans (b6.trans (s2.bt b q0)))
    generalize upd H6 t2 (.tup [V.int (z : Int), V.int (u : Int)]) = H7 at *
    clear b14 b5 b6 s2 hB4 hB5 hB6 nt2
    refine ⟨by show 2 ≤ sizeLine; decide, fun t3 nt3 => ?_⟩
    have s3 := same_new (o := .tup [V.ref t1, V.ref t2]) nt3
    have hp := upd_same (H := H7) (a := t3) (o := .tup [V.ref t1, V.ref t2])
    have hv := s3 _ _ hv
    have hw := s3 _ _ hw
    have hB8 := hB7.same s3
    have b18 := b17.trans (s3.bt b q0)
    generalize upd H7 t3 (.tup [V.ref t1, V.ref t2]) = H8 at *
    clear b17 s3 hB7 nt3
    refine ⟨t3, _, rfl, .of hp, rfl, _, _, rfl, _, _, rfl, rfl, ?_⟩
    dsimp only [gName, tSeq]
    refine ⟨_, rfl, b, q0, 10, rfl, by decide, by decide, hB8, fun H9 n b9 hB9 n0 n9 => ?_⟩
    obtain ⟨there, rfl, hth⟩ := nn _ _ n0 n9
    refine ⟨_, rfl, _, rfl, b, q0, 9, rfl, by decide, by decide, hB9, fun H10 n b10 hB10 n0 n9 => ?_⟩
    obtain ⟨z2, rfl, hz2⟩ := nn _ _ n0 n9
    have hv := ((hB8.keepN b9.n).trans (hB9.keepN b10.n)).tup hv
    have hw := ((hB8.keepN b9.n).trans (hB9.keepN b10.n)).tup hw
    have b20 := b18.trans (b9.trans b10)
    clear b18 b9 b10 hB8 hB9
    refine ⟨by show 5 ≤ sizeLine; decide, fun l1 nl1 => ?_⟩
    have s1 := same_new (o := .lst (([0, 1, 2, (z2 : Int), 60] : List Int).map V.int)) nl1
    refine ⟨b, q0, l1, ([0, 1, 2, (z2 : Int), 60] : List Int).map V.int, rfl, upd_same, (hB10.new nl1).1, (hB10.new nl1).2, by show 0 < 5; decide, by show 5 < 1000000; decide, hB10.same s1, fun H11 j yy b11 hB11 hy => ?_⟩
    obtain ⟨back, rfl, hbk⟩ : ∃ k : Nat, yy = .int (k : Int) ∧ k ≤ 60 := by
      obtain ⟨pz, hp, rfl⟩ := at_int hy
      have hm := List.mem_of_getElem? hp
      simp only [List.mem_cons, List.not_mem_nil, or_false] at hm
      exact ⟨pz.toNat, by congr 1; omega, by omega⟩
    have hv := ((hB10.same s1).keepN b11.n).tup (s1 _ _ hv)
    have hw := ((hB10.same s1).keepN b11.n).tup (s1 _ _ hw)
    have b21 := b20.trans ((s1.bt b q0).trans b11)
    clear b20 s1 hy b11 hB10 nl1 hp hz2
    refine ⟨_, _, rfl, ?_⟩
    dsimp only [gName, tSeq]
    have rv := fun H (s : Same H11 H) => (⟨t1, rfl, s _ _ hv⟩ : rRow H (.ref t1) [(x : Int), (y : Int)])
    have rw' := fun H (s : Same H11 H) => (⟨t2, rfl, s _ _ hw⟩ : rRow H (.ref t2) [(z : Int), (u : Int)])
    refine ⟨_, rfl, _, rfl, _, rfl, _, rfl, _, rfl, p, .ref t1, .ref t2, x, y, z, u, there, back, rfl, clk, rv _ (Same.refl _), rw' _ (Same.refl _), by omega, by omega, by omega, by omega, by omega, hbk, fun H12 s12 => ?_⟩
    refine ⟨_, rfl, _, rfl, _, rfl, _, rfl, _, rfl, p, .ref t1, .ref t2, x, y, z, u, there, back, rfl, clk, rv _ s12, rw' _ s12, by omega, by omega, by omega, by omega, by omega, hbk, fun H13 s13 => ?_⟩
    refine ⟨_, _, rfl, ⟨_, rfl, rfl⟩, fun H14 s14 => ⟨_, rfl, iteF' (b := !true) rfl ?_⟩⟩
    have sA := s12.trans (s13.trans s14)
    clear s12 s13 s14 hbk hth
    dsimp only [tNext, tSeq]
    have e1 : ([(x : Int), (y : Int)] : List Int).sum = ((x + y : Nat) : Int) := by simp
    have e2 : ([(z : Int), (u : Int)] : List Int).sum = ((z + u : Nat) : Int) := by simp
    have hv2 : H14 t1 = some (.tup (([(x : Int), (y : Int)] : List Int).map V.int)) := sA _ _ hv
    have hw2 : H14 t2 = some (.tup (([(z : Int), (u : Int)] : List Int).map V.int)) := sA _ _ hw
    refine ⟨_, rfl, _, rfl, t1, _, rfl, .of hv2, _, rfl, t2, _, rfl, .of hw2, _, _, rfl, rfl, wide_mul (a := 8) (b := 8) (by rw [e1]; show _ < 256; omega) (by rw [e2]; show _ < 256; omega) (by omega) (by omega) (by omega), ?_⟩
    rw [e1, e2]
    have hab : (x + y) * (z + u) ≤ 16 * 16 := Nat.mul_le_mul (by omega) (by omega)
    refine ⟨p, (x + y) * (z + u), by show [V.int p, V.int (((x + y : Nat) : Int) * ((z + u : Nat) : Int))] = _; rw [Int.natCast_mul], (clk_le clk).1, (clk_le clk).2, by omega, ?_⟩
    dsimp only [gName, tSeq]
    refine ⟨_, rfl, by decide, by decide, ?_⟩
    refine for_it (walk_range (lo := 0) (n := ((9 : Int)).toNat)) (fun i σ H' => Same H11 H' ∧ ∃ x8 x9, σ = [some (.ref b), some (.int p), some (.ref t1), some (.ref t2), some (.int (there : Int)), some (.int (back : Int)), some (.int (p ^ ((x + y) * (z + u)))), some (.int (tot (fun one => tot (fun other => p ^ (x * z + y * u) * ofR p x u one * ofR p y z other) 9) i)), x8, x9])
      ⟨sA, none, none, rfl⟩ (fun _ _ _ _ _ => trivial) ?_ ?_
    · rintro i v σ H3 H4 hi ⟨s3, x8, x9, rfl⟩ ⟨rfl, rfl⟩
      have hi : i < 9 := hi
      dsimp only [gName]
      refine ⟨_, rfl, _, rfl, by decide, by decide, fun D hD => ?_⟩
      refine lc_fm (walk_range (lo := 0) (n := ((9 : Int)).toNat)) rInt (fun j => some (p ^ (x * z + y * u) * ofR p x u i * ofR p y z j)) hD (fun _ _ => trivial) ?_ ?_
      · rintro j v H5 H6 hj pv ⟨rfl, rfl⟩
        have hj : j < 9 := hj
        refine ⟨rfl, _, rfl, _, rfl, _, rfl, _, rfl, _, rfl, p, .ref t1, .ref t2, x, y, z, u, i, j, by show [V.int p, V.ref t1, V.ref t2, V.int (0 + (i : Int)), V.int (0 + (j : Int))] = _; rw [Int.zero_add, Int.zero_add], clk, rv _ (s3.trans pv.1), rw' _ (s3.trans pv.1), by omega, by omega, by omega, by omega, by omega, by omega, fun H7 s7 => ?_⟩
        exact fm_keep mono_int pv hD (by omega) s7 rfl rfl
      · intro H5 xs s5 h5 hp5
        rw [fm_all] at hp5
        have := paired_int hp5
        subst this
        refine ⟨D, _, rfl, .of h5, _, _, rfl, rfl, ?_⟩
        rw [show ((9 : Int)).toNat = 9 from rfl, tot_map]
        exact ⟨s3.trans s5, _, _, rfl⟩
    · rintro σ H3 ⟨s3, x8, x9, rfl⟩
      rw [show ((9 : Int)).toNat = 9 from rfl, great_sum clk.1 (by omega) (by omega)]
      refine ⟨_, rfl, _, rfl, rfl, _, rfl, ?_⟩
      rw [decide_eq_true rfl]
      refine iteT ⟨_, rfl, by show 2 ≤ sizeLine; decide, fun t4 nt4 => ⟨by show 1 ≤ sizeLine; decide, fun t5 nt5 => fun xx dx nx ndx nex => ?_⟩⟩
      have s4 := same_new (o := .tup [V.int 0, V.int 1]) nt4
      have h4 := upd_same (H := H3) (a := t4) (o := .tup [V.int 0, V.int 1])
      generalize upd H3 t4 (.tup [V.int 0, V.int 1]) = H4 at *
      have s5 := same_new (o := .tup [V.ref t4]) nt5
      have h5 := upd_same (H := H4) (a := t5) (o := .tup [V.ref t4])
      have h4 := s5 _ _ h4
      generalize upd H4 t5 (.tup [V.ref t4]) = H5 at *
      have sM := same_make (C := cT) nx ndx nex
      refine ⟨xx, dx, .ref t5, [(0, 1)], 2, rfl, upd_same, rTupK_of ⟨t5, [.ref t4], rfl, sM _ _ h5, .cons ⟨t4, rfl, sM _ _ h4⟩ .nil⟩, ties2, fun HT kT hT => ⟨rfl, ?_⟩⟩
      have sT : Same H5 HT := fun b' o e => kT b' o (fun z => by subst z; rw [nx] at e; cases e) (sM _ _ e)
      have sE := s3.trans (s4.trans (s5.trans sT))
      refine ⟨_, rfl, _, rfl, p, .ref xx, .ref t1, .ref t2, _, _, 2, x + y, z + u, rfl, clk, hT, by omega, rv _ sE, rw' _ sE, counts2 (by omega) (by omega), counts2 (by omega) (by omega), e1, e2, fun H6 s6 => ?_⟩
      refine ⟨_, rfl, _, _, rfl, ⟨_, rfl, rfl⟩, fun H7 s7 => ?_⟩
      have sF := sE.trans (s6.trans s7)
      exact q _ (b21.trans (sF.bt b q0)) (hB11.same sF)
end
end S4

/-! small ranks, small tables: plain mathematics -/
namespace S4
open PySem L2 TT MM QQ
theorem spn_none {p : Int} {v : Vc} (h : Spn p (inRows []) v) : ∀ x, Cg p (v x) 0 := by
  cases h with
  | zero h => exact h
  | add c hu hr _ => obtain ⟨l, hl, _⟩ := hr; simp at hl
theorem spn_one {p : Int} {r : List Int} {v : Vc} : Spn p (inRows [r]) v ↔ ∃ k : Int, ∀ x, Cg p (v x) (k * vec r x) := by
  refine ⟨fun h => ?_, fun ⟨k, h⟩ => .add k (.zero (v := fun _ => 0) fun _ => .refl 0) ⟨r, by simp, rfl⟩ fun x => (h x).trans (.of_eq (by omega))⟩
  induction h with
  | zero h => exact ⟨0, fun x => (h x).trans (.of_eq (by rw [Int.zero_mul]))⟩
  | add c hu hr e ih =>
    obtain ⟨k, hk⟩ := ih
    obtain ⟨l, hl, rfl⟩ := hr
    obtain rfl := List.mem_singleton.mp hl
    exact ⟨k + c, fun x => (e x).trans (((hk x).add (.refl _)).trans (.of_eq (by rw [Int.add_mul])))⟩
/-- rows of numbers that are not less than nought -/
def zr (r : List Nat) : Bool := r.all fun x => x == 0
def mulOf (p : Nat) (r s : List Nat) : Bool := (List.range p).any fun k => s == r.map fun x => k * x % p
def rkN (p : Nat) : List (List Nat) → Nat
  | [] => 0
  | [r] => if zr r then 0 else 1
  | [r, s] => if zr r then (if zr s then 0 else 1) else if mulOf p r s then 1 else 2
  | _ => 0
def toI (r : List Nat) : List Int := r.map fun (x : Nat) => (x : Int)
def rowN (p w : Nat) (r : List Nat) : Prop := r.length = w ∧ ∀ x ∈ r, x < p
theorem row_toI {p w : Nat} {r : List Nat} (h : rowN p w r) : isRow (toI r) (p : Int) (w : Int) := by
  refine ⟨by unfold toI; rw [List.length_map, h.1], fun v hv => ?_⟩
  unfold toI at hv
  obtain ⟨x, hx, rfl⟩ := List.mem_map.mp hv
  have := h.2 x hx
  omega
theorem vec_toI (r : List Nat) (x : Nat) : vec (toI r) x = ((r.getD x 0 : Nat) : Int) := by
  unfold vec toI
  rw [List.getD_eq_getElem?_getD, List.getD_eq_getElem?_getD, List.getElem?_map]
  cases r[x]? <;> rfl
theorem zr_iff {p : Nat} {r : List Nat} {w : Nat} (h : rowN p w r) : zr r = true ↔ ∀ x, Cg (p : Int) (vec (toI r) x) 0 := by
  unfold zr
  rw [List.all_eq_true]
  constructor
  · intro ha x
    rw [vec_toI, List.getD_eq_getElem?_getD]
    cases e : r[x]? with
    | none => exact .refl 0
    | some y =>
      have := ha y (List.mem_of_getElem? e)
      exact .of_eq (by show ((y : Nat) : Int) = 0; have : y = 0 := by simpa using this
                       omega)
  · intro ha x hx
    obtain ⟨i, hi⟩ := List.getElem?_of_mem hx
    have := ha i
    rw [vec_toI, List.getD_eq_getElem?_getD, hi] at this
    have hlt := h.2 x hx
    have := this.zero_of (by show (0 : Int) ≤ ((x : Nat) : Int); omega) (by show ((x : Nat) : Int) < _; omega)
    have h0 : ((x : Nat) : Int) = 0 := this
    simp; omega
theorem mul_iff {p : Nat} {r s : List Nat} {w : Nat} (hp : 0 < p) (hr : rowN p w r) (hs : rowN p w s) : mulOf p r s = true ↔ Spn (p : Int) (inRows [toI r]) (vec (toI s)) := by
  rw [spn_one]
  unfold mulOf
  rw [List.any_eq_true]
  constructor
  · rintro ⟨k, hk, e⟩
    have e : s = r.map fun x => k * x % p := by simpa using e
    refine ⟨(k : Int), fun x => ?_⟩
    rw [vec_toI, vec_toI, e, List.getD_eq_getElem?_getD, List.getD_eq_getElem?_getD, List.getElem?_map]
    cases r[x]? with
    | none => exact .of_eq (by show (0 : Int) = (k : Int) * ((0 : Nat) : Int); omega)
    | some y =>
      show Cg (p : Int) ((k * y % p : Nat) : Int) ((k : Int) * ((y : Nat) : Int))
      rw [Int.natCast_emod, Int.natCast_mul]
      exact Cg.mod _
  · rintro ⟨k, hk⟩
    refine ⟨(k % (p : Int)).toNat, ?_, ?_⟩
    · rw [List.mem_range]
      have := Int.emod_lt_of_pos k (show (0 : Int) < p by omega)
      have := Int.emod_nonneg k (show (p : Int) ≠ 0 by omega)
      omega
    · have kn := Int.emod_nonneg k (show (p : Int) ≠ 0 by omega)
      have e : s = r.map fun x => (k % (p : Int)).toNat * x % p := by
        apply List.ext_getElem?
        intro i
        rw [List.getElem?_map]
        by_cases hi : i < w
        · have e1 : s[i]? = some (s.getD i 0) := by rw [List.getD_eq_getElem?_getD, List.getElem?_eq_getElem (by rw [hs.1]; exact hi)]; rfl
          have e2 : r[i]? = some (r.getD i 0) := by rw [List.getD_eq_getElem?_getD, List.getElem?_eq_getElem (by rw [hr.1]; exact hi)]; rfl
          rw [e1, e2]
          have hk := hk i
          rw [vec_toI, vec_toI] at hk
          have l1 := hs.2 _ (List.mem_of_getElem? e1)
          show some _ = some _
          congr 1
          have c2 : Cg (p : Int) (((k % (p : Int)).toNat * r.getD i 0 % p : Nat) : Int) (k * ((r.getD i 0 : Nat) : Int)) := by
            rw [Int.natCast_emod, Int.natCast_mul, Int.toNat_of_nonneg kn]
            exact (Cg.mod _).trans ((Cg.mod _).mul (.refl _))
          have := Cg.eq (hk.trans c2.symm) (by omega) (by omega) (by omega) (by have := Nat.mod_lt ((k % (p : Int)).toNat * r.getD i 0) hp; omega)
          show s.getD i 0 = (k % (p : Int)).toNat * r.getD i 0 % p
          omega
        · rw [List.getElem?_eq_none (by rw [hs.1]; omega), List.getElem?_eq_none (by rw [hr.1]; omega)]
          rfl
      simpa using e
/-- at most two rows -/
theorem rk_N {p w : Nat} (prm : Prm (p : Int)) {rows : List (List Nat)} (hl : rows.length ≤ 2) (h : ∀ r ∈ rows, rowN p w r) : rk (p : Int) w (rows.map toI) = rkN p rows := by
  have p2 := prm.1
  match rows, hl, h with
  | [], _, _ => exact rk_nil p2
  | [r], _, h =>
    have hr := h r (by simp)
    have z := zr_iff hr
    show rk (p : Int) w [toI r] = if zr r then 0 else 1
    rcases rk_step (rows := []) prm (by simp) (row_toI hr) with ⟨hs, e⟩ | ⟨hs, e⟩
    · rw [if_pos (z.mpr (spn_none hs))]
      rw [rk_nil p2] at e; exact e
    · rw [if_neg (fun q => hs (.zero (z.mp q)))]
      rw [rk_nil p2] at e; exact e
  | [r, s], _, h =>
    have hr := h r (by simp)
    have hs := h s (by simp)
    have z := zr_iff hr
    have z2 := zr_iff hs
    have m := mul_iff (by omega) hr hs
    have e1 : rk (p : Int) w [toI r] = if zr r then 0 else 1 := by
      rcases rk_step (rows := []) prm (by simp) (row_toI hr) with ⟨h1, e⟩ | ⟨h1, e⟩
      · rw [if_pos (z.mpr (spn_none h1))]
        rw [rk_nil p2] at e; exact e
      · rw [if_neg (fun q => h1 (.zero (z.mp q)))]
        rw [rk_nil p2] at e; exact e
    show rk (p : Int) w ([toI r] ++ [toI s]) = if zr r then (if zr s then 0 else 1) else if mulOf p r s then 1 else 2
    rcases rk_step (rows := [toI r]) prm (by simpa using row_toI hr) (row_toI hs) with ⟨h1, e⟩ | ⟨h1, e⟩
    · rw [e, e1]
      by_cases hz : zr r = true
      · rw [if_pos hz, if_pos hz, if_pos]
        obtain ⟨k, hk⟩ := spn_one.mp h1
        exact z2.mpr fun x => (hk x).trans (((Cg.refl k).mul (z.mp hz x)).trans (.of_eq (by rw [Int.mul_zero])))
      · rw [if_neg hz, if_neg hz, if_pos (m.mpr h1)]
    · rw [e, e1]
      by_cases hz : zr r = true
      · rw [if_pos hz, if_pos hz, if_neg (fun q => h1 (.zero (z2.mp q)))]
      · rw [if_neg hz, if_neg hz, if_neg (fun q => h1 (m.mp q))]
theorem rkN_le (p : Nat) (rows : List (List Nat)) : rkN p rows ≤ 2 := by
  unfold rkN
  repeat' split
  all_goals omega
/-- a number's places -/
def digN (p n x : Nat) : List Nat := (List.range n).map fun j => x / p ^ j % p
def rowsN (h w : Nat) (vals : List Nat) : List (List Nat) := (List.range w).map fun i => (vals.drop (i * h)).take h
def tabN (p a b c e x : Nat) : List (List Nat) := rowsN (a + b) (c + e) (digN p ((a + b) * (c + e)) x)
def thereN (p a b c e x : Nat) : Nat := rkN p (((tabN p a b c e x).drop c).map fun r => r.take a)
def backN (p a b c e x : Nat) : Nat := rkN p (((tabN p a b c e x).take c).map fun r => r.drop a)
def codeN (p a b c e x : Nat) : Nat := 4 * thereN p a b c e x + backN p a b c e x
/-! numbers by their codes -/
def sumF : Nat → (Nat → Nat) → Nat
  | 0, _ => 0
  | n + 1, f => sumF n f + f n
def cntK (f : Nat → Nat) (k : Nat) : Nat → Nat
  | 0 => 0
  | n + 1 => cntK f k n + if f n = k then 1 else 0
theorem cntK_le (f : Nat → Nat) (k : Nat) : ∀ n, cntK f k n ≤ n
  | 0 => Nat.le_refl 0
  | n + 1 => by
    have := cntK_le f k n
    unfold cntK
    split <;> omega
theorem sumF_add (f g : Nat → Nat) : ∀ n, sumF n (fun i => f i + g i) = sumF n f + sumF n g
  | 0 => rfl
  | n + 1 => by show sumF n (fun i => f i + g i) + (f n + g n) = (sumF n f + f n) + (sumF n g + g n); rw [sumF_add f g n]; omega
theorem sumF_cg {f g : Nat → Nat} : ∀ {n}, (∀ i, i < n → f i = g i) → sumF n f = sumF n g
  | 0, _ => rfl
  | n + 1, h => by unfold sumF; rw [sumF_cg (fun i hi => h i (by omega)), h n (by omega)]
theorem sumF_zero {n : Nat} : sumF n (fun _ => 0) = 0 := by
  induction n with
  | zero => rfl
  | succ n ih => exact ih
theorem sumF_delta (X : Nat) {c : Nat} : ∀ {n : Nat}, c < n → sumF n (fun k => (if c = k then 1 else 0) * X ^ k) = X ^ c
  | n + 1, h => by
    show sumF n _ + (if c = n then 1 else 0) * X ^ n = X ^ c
    by_cases e : c = n
    · subst e
      rw [if_pos rfl, sumF_cg (g := fun _ => 0) (fun i hi => by rw [if_neg (by omega), Nat.zero_mul]), sumF_zero]
      omega
    · rw [if_neg e, sumF_delta X (show c < n by omega)]; omega
theorem gen_cnt (X : Nat) (f : Nat → Nat) (hf : ∀ x, f x < 16) : ∀ n, sumF n (fun x => X ^ f x) = sumF 16 (fun k => cntK f k n * X ^ k)
  | 0 => by
    rw [sumF_cg (n := 16) (g := fun _ => 0) (fun i _ => by show 0 * X ^ i = 0; rw [Nat.zero_mul]), sumF_zero]
    rfl
  | n + 1 => by
    show sumF n _ + X ^ f n = _
    rw [gen_cnt X f hf n, ← sumF_delta X (hf n), ← sumF_add]
    refine sumF_cg fun k _ => ?_
    show _ = (cntK f k n + if f n = k then 1 else 0) * X ^ k
    rw [Nat.add_mul]
theorem sumF_lt {X : Nat} {d : Nat → Nat} : ∀ {n : Nat}, (∀ k, k < n → d k < X) → sumF n (fun k => d k * X ^ k) < X ^ n
  | 0, _ => by show 0 < X ^ 0; rw [Nat.pow_zero]; omega
  | n + 1, h => by
    have h1 := sumF_lt (n := n) fun k hk => h k (by omega)
    have h2 := h n (by omega)
    show sumF n (fun k => d k * X ^ k) + d n * X ^ n < X ^ (n + 1)
    rw [Nat.pow_succ, Nat.mul_comm (X ^ n) X]
    have : (d n + 1) * X ^ n ≤ X * X ^ n := Nat.mul_le_mul_right _ h2
    rw [Nat.add_mul, Nat.one_mul] at this
    omega
theorem sumF_inj {X : Nat} {d d' : Nat → Nat} {n : Nat} : (∀ k, k < n → d k < X) → (∀ k, k < n → d' k < X) → sumF n (fun k => d k * X ^ k) = sumF n (fun k => d' k * X ^ k) → ∀ k, k < n → d k = d' k := by
  induction n with
  | zero => intro _ _ _ k hk; omega
  | succ n ih =>
    intro h h' e k hk
    have l1 := sumF_lt (n := n) fun k hk => h k (by omega)
    have l2 := sumF_lt (n := n) fun k hk => h' k (by omega)
    have e : sumF n (fun k => d k * X ^ k) + d n * X ^ n = sumF n (fun k => d' k * X ^ k) + d' n * X ^ n := e
    have en : d n = d' n := by
      rcases Nat.lt_trichotomy (d n) (d' n) with q | q | q
      · have : (d n + 1) * X ^ n ≤ d' n * X ^ n := Nat.mul_le_mul_right _ q
        rw [Nat.add_mul, Nat.one_mul] at this; omega
      · exact q
      · have : (d' n + 1) * X ^ n ≤ d n * X ^ n := Nat.mul_le_mul_right _ q
        rw [Nat.add_mul, Nat.one_mul] at this; omega
    by_cases ek : k = n
    · subst ek; exact en
    · rw [en] at e
      exact ih (fun k hk => h k (by omega)) (fun k hk => h' k (by omega)) (by omega) k (by omega)
/-- what is due, by the code of two tolls -/
def dueN (p a b c e k : Nat) : Nat := ((p : Int) ^ (a * c + b * e) * ofR p a e (k / 4) * ofR p b c (k % 4)).toNat
def chkN (p a b c e : Nat) : Bool :=
  if p ^ ((a + b) * (c + e)) ≤ 800 then (List.range 16).all (fun k => Nat.blt (dueN p a b c e k) 1024) && sumF (p ^ ((a + b) * (c + e))) (fun x => 1024 ^ codeN p a b c e x) == sumF 16 (fun k => dueN p a b c e k * 1024 ^ k) else true
def rowChk (p a b : Nat) : Bool := (List.range 3).all fun c => (List.range 3).all fun e => chkN p a b c e
end S4

/-! all small tables, counted by the kernel; the law's two sides of two posts -/
namespace S4
open PySem L2 TT MM QQ
theorem all_chk : ([2,3].all fun p => (List.range 3).all fun a => (List.range 3).all fun b => rowChk p a b) = true := by decide +kernel
theorem chk_at {p a b c e : Nat} (hp : p = 2 ∨ p = 3) (ha : a ≤ 2) (hb : b ≤ 2) (hc : c ≤ 2) (he : e ≤ 2) : chkN p a b c e = true := by
  have h := List.all_eq_true.mp all_chk p (by rcases hp with rfl | rfl <;> simp)
  have h := List.all_eq_true.mp h a (by rw [List.mem_range]; omega)
  have h := List.all_eq_true.mp h b (by rw [List.mem_range]; omega)
  have h := List.all_eq_true.mp h c (by rw [List.mem_range]; omega)
  exact List.all_eq_true.mp h e (by rw [List.mem_range]; omega)
theorem code_lt (p a b c e x : Nat) : codeN p a b c e x < 16 := by
  unfold codeN thereN backN
  have := rkN_le p (((tabN p a b c e x).drop c).map fun r => r.take a)
  have := rkN_le p (((tabN p a b c e x).take c).map fun r => r.drop a)
  omega
theorem cnt_due {p a b c e : Nat} (hp : p = 2 ∨ p = 3) (ha : a ≤ 2) (hb : b ≤ 2) (hc : c ≤ 2) (he : e ≤ 2) (hm : p ^ ((a + b) * (c + e)) ≤ 800) {t u : Nat} (ht : t < 4) (hu : u < 4) :
    ((cntK (codeN p a b c e) (4 * t + u) (p ^ ((a + b) * (c + e))) : Nat) : Int) = (p : Int) ^ (a * c + b * e) * ofR p a e t * ofR p b c u := by
  have h := chk_at hp ha hb hc he
  unfold chkN at h
  rw [if_pos hm, Bool.and_eq_true, List.all_eq_true] at h
  obtain ⟨h1, h2⟩ := h
  have h2 : sumF (p ^ ((a + b) * (c + e))) (fun x => 1024 ^ codeN p a b c e x) = sumF 16 (fun k => dueN p a b c e k * 1024 ^ k) := by simpa using h2
  rw [gen_cnt 1024 _ (code_lt p a b c e)] at h2
  have hd : ∀ k, k < 16 → dueN p a b c e k < 1024 := fun k hk => by
    have := h1 k (List.mem_range.mpr hk)
    simpa using this
  have := sumF_inj (fun k _ => Nat.lt_of_le_of_lt (cntK_le _ _ _) (by omega)) hd h2 (4 * t + u) (by omega)
  rw [this]
  unfold dueN
  rw [show (4 * t + u) / 4 = t by omega, show (4 * t + u) % 4 = u by omega]
  have p2 : (2 : Int) ≤ p := by omega
  refine Int.toNat_of_nonneg (Int.mul_nonneg (Int.mul_nonneg ?_ (ofR_nn p2)) (ofR_nn p2))
  exact Int.le_of_lt (Int.pow_pos (by omega))
/-! two posts -/
theorem nb01_0 : nb [((0 : Int), (1 : Int))] 0 = [1] := by decide
theorem nb01_1 : nb [((0 : Int), (1 : Int))] 1 = [0] := by decide
theorem rch0 {x : Int} : Rch [((0 : Int), (1 : Int))] (some 1) 0 x ↔ x = 0 := by
  refine ⟨fun h => ?_, fun h => h ▸ .refl⟩
  induction h with
  | refl => rfl
  | step _ hv hb ih =>
    subst ih
    rw [nb01_0] at hv
    exact absurd (congrArg some (List.mem_singleton.mp hv).symm) hb
theorem rch1 {x : Int} : Rch [((0 : Int), (1 : Int))] (some 0) 1 x ↔ x = 1 := by
  refine ⟨fun h => ?_, fun h => h ▸ .refl⟩
  induction h with
  | refl => rfl
  | step _ hv hb ih =>
    subst ih
    rw [nb01_1] at hv
    exact absurd (congrArg some (List.mem_singleton.mp hv).symm) hb
theorem near2 {S : SD} (h : S.ties = [(0, 1)]) : nearOf S 2 (0, 1) = [0] ∧ farOf S 2 (0, 1) = [1] ∧ nearOf S 2 (1, 0) = [1] ∧ farOf S 2 (1, 0) = [0] := by
  have r2 : rng 2 = [0, 1] := by decide
  refine ⟨(near_of (List.pairwise_singleton ..) (by simp) (fun x => ?_) fun x hx => ?_).symm, (far_of (List.pairwise_singleton ..) (by simp) (fun x => ?_) fun x hx => ?_).symm, (near_of (List.pairwise_singleton ..) (by simp) (fun x => ?_) fun x hx => ?_).symm, (far_of (List.pairwise_singleton ..) (by simp) (fun x => ?_) fun x hx => ?_).symm⟩
  · rw [h, List.mem_singleton]; exact rch0.symm
  · rw [List.mem_singleton.mp hx, r2]; simp
  · rw [h, List.mem_singleton]; exact rch1.symm
  · rw [List.mem_singleton.mp hx, r2]; simp
  · rw [h, List.mem_singleton]; exact rch1.symm
  · rw [List.mem_singleton.mp hx, r2]; simp
  · rw [h, List.mem_singleton]; exact rch0.symm
  · rw [List.mem_singleton.mp hx, r2]; simp
theorem range_pick {α : Type} {z : α} {L : List α} {s n : Nat} (h : s + n ≤ L.length) : ((List.range n).map fun (i : Nat) => L.getD (s + i) z) = (L.drop s).take n := by
  apply List.ext_getElem?
  intro i
  rw [List.getElem?_map]
  by_cases hi : i < n
  · rw [List.getElem?_range hi, List.getElem?_take_of_lt hi, List.getElem?_drop]
    show some (L.getD (s + i) z) = _
    rw [List.getD_eq_getElem?_getD, List.getElem?_eq_getElem (by omega)]
    rfl
  · rw [List.getElem?_eq_none (by rw [List.length_range]; omega), List.getElem?_eq_none (by rw [List.length_take]; omega)]
    rfl
theorem held0 {α : Type} {z : α} {L : List α} {a b : Nat} (h : L.length = a + b) : ((heldL [(a : Int), (b : Int)] 0).map fun i => L.getD i.toNat z) = L.take a := by
  unfold heldL
  rw [List.map_map]
  have := range_pick (z := z) (L := L) (s := 0) (n := a) (by omega)
  rw [List.drop_zero] at this
  rw [← this]
  show (List.range ((a : Int)).toNat).map _ = _
  rw [Int.toNat_natCast]
  refine List.map_congr_left fun i _ => ?_
  show L.getD ((0 : Int) + (i : Int)).toNat z = L.getD (0 + i) z
  congr 1
theorem held1 {α : Type} {z : α} {L : List α} {a b : Nat} (h : L.length = a + b) : ((heldL [(a : Int), (b : Int)] 1).map fun i => L.getD i.toNat z) = L.drop a := by
  unfold heldL
  rw [List.map_map]
  have := range_pick (z := z) (L := L) (s := a) (n := b) (by omega)
  rw [List.take_of_length_le (by rw [List.length_drop]; omega)] at this
  rw [← this]
  show (List.range ((b : Int)).toNat).map _ = _
  rw [Int.toNat_natCast]
  refine List.map_congr_left fun i _ => ?_
  show L.getD (((a : Int) + 0) + (i : Int)).toNat z = L.getD (a + i) z
  congr 1
/-- the sheet that a table makes -/
def sheetN (p a b c e : Nat) (rows : List (List Nat)) : SD := ⟨p, [(0, 1)], [(a : Int), (b : Int)], byPG [] [(c : Int), (e : Int)] 2 (rows.map toI)⟩
theorem sheetN_wants {p a b c e : Nat} {rows : List (List Nat)} (hl : rows.length = c + e) : (sheetN p a b c e rows).wants = [(rows.take c).map toI, (rows.drop c).map toI] := by
  show [(heldL [(c : Int), (e : Int)] 0).map _, (heldL [(c : Int), (e : Int)] 1).map _] = _
  rw [held0 (by rw [List.length_map]; exact hl), held1 (by rw [List.length_map]; exact hl), List.map_take, List.map_drop]
theorem toI_take (r : List Nat) (k : Nat) : (toI r).take k = toI (r.take k) := by unfold toI; rw [List.map_take]
theorem toI_drop (r : List Nat) (k : Nat) : (toI r).drop k = toI (r.drop k) := by unfold toI; rw [List.map_drop]
theorem toI_len (r : List Nat) : (toI r).length = r.length := by unfold toI; rw [List.length_map]
theorem toll_there {p a b c e : Nat} {rows : List (List Nat)} (prm : Prm (p : Int)) (he : e ≤ 2) (hl : rows.length = c + e) (hr : ∀ r ∈ rows, rowN p (a + b) r) : rkZ (sheetN p a b c e rows) 2 (0, 1) = rkN p ((rows.drop c).map fun r => r.take a) := by
  obtain ⟨n1, n2, _, _⟩ := near2 (S := sheetN p a b c e rows) rfl
  unfold rkZ
  rw [n1, n2, blockL_flat]
  rw [show ([1] : List Int).flatMap (fun post => (((sheetN p a b c e rows).wants.getD post.toNat [])).map fun r => cutL r (numsL (sheetN p a b c e rows).holds [0])) = (((sheetN p a b c e rows).wants.getD 1 [])).map (fun r => cutL r (numsL (sheetN p a b c e rows).holds [0])) by simp]
  have en : numsL (sheetN p a b c e rows).holds [0] = heldL [(a : Int), (b : Int)] 0 := by unfold numsL; simp [sheetN]
  rw [en, sheetN_wants hl]
  have ew : ([(rows.take c).map toI, (rows.drop c).map toI] : List (List (List Int))).getD 1 [] = (rows.drop c).map toI := rfl
  rw [ew, List.map_map]
  have e1 : (rows.drop c).map ((fun r => cutL r (heldL [(a : Int), (b : Int)] 0)) ∘ toI) = ((rows.drop c).map fun r => r.take a).map toI := by
    rw [List.map_map]
    refine List.map_congr_left fun r hr' => ?_
    show cutL (toI r) (heldL [(a : Int), (b : Int)] 0) = toI (r.take a)
    unfold cutL
    rw [held0 (by rw [toI_len]; exact (hr r (List.mem_of_mem_drop hr')).1), toI_take]
  rw [e1]
  have el : (heldL [(a : Int), (b : Int)] 0).length = a := by unfold heldL; simp
  rw [el]
  refine rk_N prm (by rw [List.length_map, List.length_drop]; omega) fun r hr' => ?_
  obtain ⟨q, hq, rfl⟩ := List.mem_map.mp hr'
  have := hr q (List.mem_of_mem_drop hq)
  exact ⟨by rw [List.length_take, this.1]; omega, fun x hx => this.2 x (List.mem_of_mem_take hx)⟩
theorem toll_back {p a b c e : Nat} {rows : List (List Nat)} (prm : Prm (p : Int)) (hc : c ≤ 2) (hl : rows.length = c + e) (hr : ∀ r ∈ rows, rowN p (a + b) r) : rkZ (sheetN p a b c e rows) 2 (1, 0) = rkN p ((rows.take c).map fun r => r.drop a) := by
  obtain ⟨_, _, n1, n2⟩ := near2 (S := sheetN p a b c e rows) rfl
  unfold rkZ
  rw [n1, n2, blockL_flat]
  rw [show ([0] : List Int).flatMap (fun post => (((sheetN p a b c e rows).wants.getD post.toNat [])).map fun r => cutL r (numsL (sheetN p a b c e rows).holds [1])) = (((sheetN p a b c e rows).wants.getD 0 [])).map (fun r => cutL r (numsL (sheetN p a b c e rows).holds [1])) by simp]
  have en : numsL (sheetN p a b c e rows).holds [1] = heldL [(a : Int), (b : Int)] 1 := by unfold numsL; simp [sheetN]
  rw [en, sheetN_wants hl]
  have ew : ([(rows.take c).map toI, (rows.drop c).map toI] : List (List (List Int))).getD 0 [] = (rows.take c).map toI := rfl
  rw [ew, List.map_map]
  have e1 : (rows.take c).map ((fun r => cutL r (heldL [(a : Int), (b : Int)] 1)) ∘ toI) = ((rows.take c).map fun r => r.drop a).map toI := by
    rw [List.map_map]
    refine List.map_congr_left fun r hr' => ?_
    show cutL (toI r) (heldL [(a : Int), (b : Int)] 1) = toI (r.drop a)
    unfold cutL
    rw [held1 (by rw [toI_len]; exact (hr r (List.mem_of_mem_take hr')).1), toI_drop]
  rw [e1]
  have el : (heldL [(a : Int), (b : Int)] 1).length = b := by unfold heldL; simp
  rw [el]
  refine rk_N prm (by rw [List.length_map, List.length_take]; omega) fun r hr' => ?_
  obtain ⟨q, hq, rfl⟩ := List.mem_map.mp hr'
  have := hr q (List.mem_of_mem_take hq)
  exact ⟨by rw [List.length_drop, this.1]; omega, fun x hx => this.2 x (List.mem_of_mem_drop hx)⟩
/-! the table of a number -/
theorem digN_len {p n x : Nat} : (digN p n x).length = n := by unfold digN; rw [List.length_map, List.length_range]
theorem digN_lt {p n x y : Nat} (hp : 0 < p) (h : y ∈ digN p n x) : y < p := by
  unfold digN at h
  obtain ⟨j, _, rfl⟩ := List.mem_map.mp h
  exact Nat.mod_lt _ hp
theorem tabN_len {p a b c e x : Nat} : (tabN p a b c e x).length = c + e := by unfold tabN rowsN; rw [List.length_map, List.length_range]
theorem tabN_row {p a b c e x : Nat} (hp : 0 < p) : ∀ r ∈ tabN p a b c e x, rowN p (a + b) r := fun r hr => by
  unfold tabN rowsN at hr
  obtain ⟨i, hi, rfl⟩ := List.mem_map.mp hr
  have hi := List.mem_range.mp hi
  refine ⟨?_, fun y hy => digN_lt hp (List.mem_of_mem_drop (List.mem_of_mem_take hy))⟩
  rw [List.length_take, List.length_drop, digN_len]
  have : (i + 1) * (a + b) ≤ (c + e) * (a + b) := Nat.mul_le_mul_right _ hi
  rw [Nat.add_mul, Nat.one_mul, Nat.mul_comm (c + e)] at this
  omega
theorem sheetN_ok {p a b c e : Nat} {rows : List (List Nat)} (clk : NoDiv (p : Int)) (ha : a ≤ 2) (hb : b ≤ 2) (hc : c ≤ 2) (he : e ≤ 2) (hl : rows.length = c + e) (hr : ∀ r ∈ rows, rowN p (a + b) r) : SheetOk (sheetN p a b c e rows) 2 := by
  refine ⟨ties2, clk, counts2 (by omega) (by omega), ?_⟩
  have es : (sheetN p a b c e rows).holds.sum = ((a + b : Nat) : Int) := by show ([(a : Int), (b : Int)] : List Int).sum = _; simp
  rw [es, sheetN_wants hl]
  refine ⟨rfl, fun rws hrw => ?_, ?_⟩
  · simp only [List.mem_cons, List.not_mem_nil, or_false] at hrw
    rcases hrw with rfl | rfl
    · refine ⟨by rw [List.length_map, List.length_take]; omega, fun r hr' => ?_⟩
      obtain ⟨q, hq, rfl⟩ := List.mem_map.mp hr'
      exact row_toI (hr q (List.mem_of_mem_take hq))
    · refine ⟨by rw [List.length_map, List.length_drop]; omega, fun r hr' => ?_⟩
      obtain ⟨q, hq, rfl⟩ := List.mem_map.mp hr'
      exact row_toI (hr q (List.mem_of_mem_drop hq))
  · simp only [List.map_cons, List.map_nil, List.sum_cons, List.sum_nil, List.length_map, List.length_take, List.length_drop]
    omega
end S4

/-! all small sheets of two posts, counted by the law -/
namespace S4
open PySem L2 TT MM QQ
theorem val_put {kvs : List (List L2.Key × V)} {k k' : List L2.Key} {v : V} : valV (putK kvs k v) k' = if k = k' then some v else valV kvs k' := by
  unfold valV putK
  by_cases h : (kvs.any fun p => decide (p.1 = k)) = true
  · rw [if_pos h]
    induction kvs with
    | nil => simp at h
    | cons q kvs ih =>
      rw [List.map_cons, List.find?_cons, List.find?_cons]
      by_cases e : q.1 = k
      · rw [if_pos e]
        by_cases e2 : k = k'
        · subst e2
          rw [show decide ((q.1, v).1 = k) = true from decide_eq_true e, if_pos rfl]; rfl
        · rw [if_neg e2, show decide ((q.1, v).1 = k') = false from decide_eq_false (fun z => e2 (e.symm.trans z))]
          by_cases h2 : (kvs.any fun p => decide (p.1 = k)) = true
          · have := ih h2
            rw [if_neg e2] at this
            exact this
          · have e3 : kvs.map (fun p => if p.1 = k then (p.1, v) else p) = kvs := by
              refine (List.map_congr_left fun p hp => ?_).trans (List.map_id _)
              rw [if_neg fun z => h2 (List.any_eq_true.mpr ⟨p, hp, decide_eq_true z⟩)]; rfl
            rw [e3]
      · rw [if_neg e]
        have h2 : (kvs.any fun p => decide (p.1 = k)) = true := by
          rw [List.any_cons, decide_eq_false e, Bool.false_or] at h
          exact h
        by_cases e2 : q.1 = k'
        · rw [decide_eq_true e2, if_neg (fun z => e (e2.trans z.symm))]
        · rw [decide_eq_false e2]
          exact ih h2
  · rw [if_neg h, List.find?_append]
    by_cases e : k = k'
    · subst e
      rw [if_pos rfl]
      have : kvs.find? (fun p => decide (p.1 = k)) = none := by
        rw [List.find?_eq_none]
        intro p hp z
        exact h (List.any_eq_true.mpr ⟨p, hp, z⟩)
      rw [this]
      simp
    · rw [if_neg e]
      have : [(k, v)].find? (fun p => decide (p.1 = k')) = none := by simp [e]
      rw [this, Option.or_none]
/-- a dict of counts -/
def CntD (f : Nat → Nat) (n : Nat) (kvs : List (List L2.Key × V)) : Prop := kvs.length ≤ n ∧ ∀ t u : Nat, t < 4 → u < 4 → valV kvs (wayK ((t : Int), (u : Int))) = if cntK f (4 * t + u) n = 0 then none else some (.int (cntK f (4 * t + u) n : Nat))
theorem cnt_get {f : Nat → Nat} {n : Nat} {kvs : List (List L2.Key × V)} (h : CntD f n kvs) {t u : Nat} (ht : t < 4) (hu : u < 4) : (valV kvs (wayK ((t : Int), (u : Int)))).getD (.int 0) = .int (cntK f (4 * t + u) n : Nat) := by
  rw [h.2 t u ht hu]
  split
  · rename_i e; rw [e]; rfl
  · rfl
theorem put_len {kvs : List (List L2.Key × V)} {k : List L2.Key} {v : V} : (putK kvs k v).length ≤ kvs.length + 1 := by
  unfold putK
  split
  · rw [List.length_map]; omega
  · rw [List.length_append]; exact Nat.le_refl _
theorem cnt_put {f : Nat → Nat} {n : Nat} {kvs : List (List L2.Key × V)} (h : CntD f n kvs) {t u : Nat} (ht : t < 4) (hu : u < 4) (hf : f n = 4 * t + u) :
    CntD f (n + 1) (putK kvs (wayK ((t : Int), (u : Int))) (.int ((cntK f (4 * t + u) n : Nat) + 1))) := by
  refine ⟨Nat.le_trans put_len (by have := h.1; omega), fun t' u' ht' hu' => ?_⟩
  rw [val_put]
  have es : cntK f (4 * t' + u') (n + 1) = cntK f (4 * t' + u') n + if f n = 4 * t' + u' then 1 else 0 := rfl
  by_cases e : t = t' ∧ u = u'
  · obtain ⟨rfl, rfl⟩ := e
    rw [if_pos rfl, es, if_pos hf, if_neg (by omega)]
    rfl
  · have nf : ¬ f n = 4 * t' + u' := fun z => e ⟨by omega, by omega⟩
    rw [if_neg fun z => ?_, h.2 t' u' ht' hu', es, if_neg nf, Nat.add_zero]
    have := wayK_inj z
    injection this with a b
    exact e ⟨by omega, by omega⟩
theorem sumTK {X : Cx} {K : PySem.W.Frag} (h : X.K = K) (hc : X.calm = true) : CallR X (.builtin "sum") (rSumT K) := h ▸ cr_sumT hc
theorem slLK {X : Cx} {K : PySem.W.Frag} (h : X.K = K) : SlR X (rSlL K) := h ▸ sl_list
theorem cut_nat (xs : List V) (a b : Nat) (ha : a ≤ b) (hb : b ≤ xs.length) : L2.cutV xs (some (a : Int)) (some (b : Int)) = (xs.drop a).take (b - a) := by
  unfold L2.cutV
  rw [HT.sIx_nat, HT.sIx_nat, show min a xs.length = a by omega, show min b xs.length = b by omega]
theorem digN_succ (p n x : Nat) : digN p (n + 1) x = digN p n x ++ [x / p ^ n % p] := by unfold digN; rw [List.range_succ, List.map_append]; rfl
theorem div_succ (p n x : Nat) : x / p ^ n / p = x / p ^ (n + 1) := by rw [Nat.div_div_eq_div_mul, Nat.pow_succ]
section
variable {P : Program} {w : World} {K : PySem.W.Frag} {mg : Str → Option Value} {base : Heap} {cT cS : Addr}
def spAllR : Sp := fun vs H Q _ => ∃ (b q : Addr), vs = [.ref b] ∧ Bag b q H ∧ ∀ H', Bt b q H H' → Bag b q H' → Q (.bl true) H'
theorem ok_allR (T : Tx K mg cT cS) {f : Addr} {fd : FuncData} (d : D K mg "_law_all_right" s_law_all_right ["bag"] f fd) : FnOk P w K mg base CX0 8 f fd ["bag"] spAllR := by
  obtain ⟨f1, fd1, d1⟩ := T.d_law_some
  have G1 := ok_some (P := P) (w := w) (base := base) T d1
  obtain ⟨f2, fd2, d2⟩ := T.d_law_pick
  have G2 := ok_pick (P := P) (w := w) (base := base) T d2
  obtain ⟨f3, fd3, d3⟩ := T.d_law_power
  have G3 := ok_lpow (P := P) (w := w) (base := base) T d3
  obtain ⟨f4, fd4, d4⟩ := T.d_law_parted
  have G4 := ok_parted (P := P) (w := w) (base := base) T d4
  obtain ⟨f5, fd5, d5⟩ := T.d_law_tolls
  have G5 := ok_ltolls (P := P) (w := w) (base := base) T d5
  obtain ⟨f6, fd6, d6⟩ := T.d_tolls_in_all
  have G6 := ok_tia (P := P) (w := w) (base := base) T d6
  obtain ⟨f7, fd7, d7⟩ := T.d_law_is
  have G7 := ok_is (P := P) (w := w) (base := base) T d7 0
  obtain ⟨f8, fd8, d8⟩ := T.d_law_in_all
  have G8 := ok_lall (P := P) (w := w) (base := base) T d8
  obtain ⟨f9, fd9, k9⟩ := T.k_Tree
  have G9 := ok_TreeK (P := P) (w := w) (base := base) T k9
  obtain ⟨f10, fd10, d10⟩ := T.d_sheets_in_all
  have G10 := ok_sia (P := P) (w := w) (base := base) T d10
  refine d.F.ok sc_law_all_right (fun vs H Q E h => ?_) (fun cdv A outer s H vs Q E hr h => ?_)
  · obtain ⟨b, q0, rfl, _⟩ := h
    rfl
  · obtain ⟨b, q0, rfl, hB, q⟩ := h
    refine ⟨_, pss_cons (ps_asg (pe_tup (pa_cons (pe_call G1 (hr.mono (by decide)) rfl d1.m d1.F.kp d1.b .nil pass0 (pa_cons (pv 0) (pa_cons (pe_lst (pa_cons pe_int (pa_cons pe_int (pa_cons pe_int pa_nil)))) pa_nil))) (pa_cons (pe_tup (pa_cons (pe_call G2 (hr.mono (by decide)) rfl d2.m d2.F.kp d2.b .nil pass0 (pa_cons (pv 0) (pa_cons pe_int pa_nil))) (pa_cons (pe_call G2 (hr.mono (by decide)) rfl d2.m d2.F.kp d2.b .nil pass0 (pa_cons (pv 0) (pa_cons pe_int pa_nil))) pa_nil))) pa_nil))) (pg_tup rfl (pgs_cons (pg_name (i := 1) sc_law_all_right.nd rfl (.inl rfl)) (pgs_cons (pg_name (i := 2) sc_law_all_right.nd rfl (.inr rfl)) pgs_nil))))
      (pss_cons (ps_set (i := 3) sc_law_all_right.nd rfl (.inl rfl) (pe_tup (pa_cons (pe_call G2 (hr.mono (by decide)) rfl d2.m d2.F.kp d2.b .nil pass0 (pa_cons (pv 0) (pa_cons pe_int pa_nil))) (pa_cons (pe_call G2 (hr.mono (by decide)) rfl d2.m d2.F.kp d2.b .nil pass0 (pa_cons (pv 0) (pa_cons pe_int pa_nil))) pa_nil))))
      (pss_cons (ps_set (i := 4) sc_law_all_right.nd rfl (.inl rfl) (pe_op op_mulW (pe_callB (cr_sumT rfl) (by rfl) T.b_sum (by decide +kernel) (pa_cons (pv 2) pa_nil)) (pe_callB (cr_sumT rfl) (by rfl) T.b_sum (by decide +kernel) (pa_cons (pv 3) pa_nil))))
      (pss_cons (ps_while PassesOwn.never (pt_cmpR op_gt (pe_call G3 (hr.mono (by decide)) rfl d3.m d3.F.kp d3.b .nil pass0 (pa_cons (pv 1) (pa_cons (pv 4) pa_nil))) pe_int (nomark _))
        (pss_cons (ps_set (i := 3) sc_law_all_right.nd rfl (.inl rfl) (pe_ifExp (pt_cmpR op_gt (pe_ix ix_tup (pv 3) pe_int (fun _ _ => rfl)) pe_int (nomark _)) (pe_tup (pa_cons (pe_op op_sub (pe_ix ix_tup (pv 3) pe_int (fun _ _ => rfl)) pe_int) (pa_cons (pe_ix ix_tup (pv 3) pe_int (fun _ _ => rfl)) pa_nil))) (pe_tup (pa_cons pe_int (pa_cons (pe_op op_sub (pe_ix ix_tup (pv 3) pe_int (fun _ _ => rfl)) pe_int) pa_nil)))))
      (pss_one (ps_set (i := 4) sc_law_all_right.nd rfl (.inl rfl) (pe_op op_mulW (pe_callB (cr_sumT rfl) (by rfl) T.b_sum (by decide +kernel) (pa_cons (pv 2) pa_nil)) (pe_callB (cr_sumT rfl) (by rfl) T.b_sum (by decide +kernel) (pa_cons (pv 3) pa_nil)))))))
      (pss_cons (ps_set (i := 5) sc_law_all_right.nd rfl (.inl rfl) pe_dnewT)
      (pss_cons (ps_for PassesOwn.never rfl (pi_range1 rfl T.b_range (pa_cons (pe_call G3 (hr.mono (by decide)) rfl d3.m d3.F.kp d3.b .nil pass0 (pa_cons (pv 1) (pa_cons (pv 4) pa_nil))) pa_nil)) (pg_name (i := 6) sc_law_all_right.nd rfl (.inl rfl))
        (pss_cons (ps_asg (pe_tup (pa_cons (pe_lst pa_nil) (pa_cons (pv 6) pa_nil))) (pg_tup rfl (pgs_cons (pg_name (i := 7) sc_law_all_right.nd rfl (.inr rfl)) (pgs_cons (pg_name (i := 8) sc_law_all_right.nd rfl (.inl rfl)) pgs_nil))))
      (pss_cons (ps_for PassesOwn.never rfl (pi_range1 rfl T.b_range (pa_cons (pv 4) pa_nil)) (pg_name (i := 9) sc_law_all_right.nd rfl (.inl rfl))
        (pss_cons (ps_expr (pe_bm PySem.F.plainAttrs_list PySem.F.slot_list_append PySem.F.type_list_append mt_append (pv 7) (pa_cons (pe_op op_mod (pe_callTy call_int1 (by rfl) T.b_int (by decide +kernel) (pa_cons (pv 8) pa_nil)) (pv 1)) pa_nil)))
      (pss_one (ps_set (i := 8) sc_law_all_right.nd rfl (.inl rfl) (pe_op op_fdivZ (pv 8) (pv 1))))))
      (pss_cons (ps_setLc (i := 10) (own := [("at", 16)]) (g := (gName 16)) (tt := tYes) rfl sc_law_all_right.nd rfl rfl (sw_true rfl rfl rfl (by decide +kernel)) (pi_range1 rfl T.b_range (pa_cons (pe_callB (cr_sumT rfl) (by rfl) T.b_sum (by decide +kernel) (pa_cons (pv 3) pa_nil)) pa_nil)) (blkOk_by (N := N_law_all_right) (sc := defScope s_law_all_right) (by decide +kernel)) (fun _ _ _ _ _ => (pg_name (i := 16) sc_law_all_right.nd rfl (Or.inl rfl))) (fun _ _ _ _ _ => pts_nil)
            (fun _ _ _ _ _ => (pe_callTy (tupS (K := K) rfl) (by rfl) T.b_tuple (by decide +kernel) (pa_cons (pe_slice (slLK (K := K) rfl) (pv 7) (po_some (pe_op op_mulW (pv 16) (pe_callB (sumTK (K := K) rfl rfl) (by rfl) T.b_sum (by decide +kernel) (pa_cons (pv 2) pa_nil)))) (po_some (pe_op op_mulW (pe_op op_add (pv 16) pe_int) (pe_callB (sumTK (K := K) rfl rfl) (by rfl) T.b_sum (by decide +kernel) (pa_cons (pv 2) pa_nil))))) pa_nil))))
      (pss_cons (ps_set (i := 11) sc_law_all_right.nd rfl (.inl rfl) (pe_call G5 (hr.mono (by decide)) rfl d5.m d5.F.kp d5.b .nil pass0 (pa_cons (pe_tup (pa_cons (pv 1) (pa_cons (pe_tup (pa_cons (pe_tup (pa_cons pe_int (pa_cons pe_int pa_nil))) pa_nil)) (pa_cons (pv 2) (pa_cons (pe_call G4 (hr.mono (by decide)) rfl d4.m d4.F.kp d4.b .nil pass0 (pa_cons (pv 10) (pa_cons (pv 3) pa_nil))) pa_nil))))) pa_nil)))
      (pss_cons (ps_set (i := 12) sc_law_all_right.nd rfl (.inl rfl) (pe_tup (pa_cons (pe_dget (hu1 hr) (pv 11) (pe_tup (pa_cons pe_int (pa_cons pe_int pa_nil))) (fun _ _ => rfl)) (pa_cons (pe_dget (hu1 hr) (pv 11) (pe_tup (pa_cons pe_int (pa_cons pe_int pa_nil))) (fun _ _ => rfl)) pa_nil))))
      (pss_one (ps_dput (hu_of hr) (pv 5) (pv 12) (pe_op op_add (pe_dget2 (hu1 hr) (pv 5) (pv 12) pe_int ⟨rfl, rfl, rfl, rfl⟩) pe_int) rfl))))))))
      (pss_cons (ps_for PassesOwn.never rfl (pi_range1 rfl T.b_range (pa_cons pe_int pa_nil)) (pg_name (i := 13) sc_law_all_right.nd rfl (.inl rfl))
        (pss_one (ps_for PassesOwn.never rfl (pi_range1 rfl T.b_range (pa_cons pe_int pa_nil)) (pg_name (i := 14) sc_law_all_right.nd rfl (.inl rfl))
        (pss_cons (ps_set (i := 15) sc_law_all_right.nd rfl (.inl rfl) (pe_dget2 (hu1 hr) (pv 5) (pe_tup (pa_cons (pv 13) (pa_cons (pv 14) pa_nil))) pe_int ⟨rfl, rfl, rfl, rfl⟩))
      (pss_cons (ps_if (pt_not (pt_val (pe_call G7 (hr.mono (by decide)) rfl d7.m d7.F.kp d7.b .nil pass0 (pa_cons (pe_call G6 (hr.mono (by decide)) rfl d6.m d6.F.kp d6.b .nil pass0 (pa_cons (pv 1) (pa_cons (pv 2) (pa_cons (pv 3) (pa_cons (pv 13) (pa_cons (pv 14) pa_nil)))))) (pa_cons (pv 15) pa_nil))))) pss_never pss_nil)
      (pss_one (ps_if (pt_cmpR op_ne (pe_call G8 (hr.mono (by decide)) rfl d8.m d8.F.kp d8.b .nil pass0 (pa_cons (pv 1) (pa_cons (pv 2) (pa_cons (pv 3) (pa_cons (pv 13) (pa_cons (pv 14) pa_nil)))))) (pv 15) (nomark _)) pss_never pss_nil)))))))
      (pss_one (ps_ret (pe_call G7 (hr.mono (by decide)) rfl d7.m d7.F.kp d7.b .nil pass0 (pa_cons (pe_call G10 (hr.mono (by decide)) rfl d10.m d10.F.kp d10.b .nil pass0 (pa_cons (pv 1) (pa_cons (pe_make k9.mkf G9 (hr.mono (by decide)) rfl k9.m k9.b .nil pass0 (pa_cons (pe_tup (pa_cons (pe_tup (pa_cons pe_int (pa_cons pe_int pa_nil))) pa_nil)) pa_nil)) (pa_cons (pv 2) (pa_cons (pv 3) pa_nil))))) (pa_cons (pe_call G3 (hr.mono (by decide)) rfl d3.m d3.F.kp d3.b .nil pass0 (pa_cons (pv 1) (pa_cons (pv 4) pa_nil))) pa_nil))))))))))), ?_⟩
    have nn : ∀ n m : Int, 0 ≤ n → n < m → ∃ k : Nat, n = (k : Int) ∧ (k : Int) < m := fun n m h1 h2 => ⟨n.toNat, by omega, by omega⟩
    refine ⟨_, rfl, by show 3 ≤ sizeLine; decide, fun lb nlb => ?_⟩
    have slb := same_new (o := .lst (([2, 3, 2] : List Int).map V.int)) nlb
    refine ⟨b, q0, lb, ([2, 3, 2] : List Int).map V.int, rfl, upd_same, (hB.new nlb).1, (hB.new nlb).2, by decide, by decide, hB.same slb, fun H3 j y b3 hB3 hy => ?_⟩
    obtain ⟨p, rfl, hp⟩ : ∃ p : Nat, y = V.int (p : Int) ∧ (p = 2 ∨ p = 3) := by
      obtain ⟨pz, hp, rfl⟩ := at_int hy
      have hm := List.mem_of_getElem? hp
      simp only [List.mem_cons, List.not_mem_nil, or_false] at hm
      exact ⟨pz.toNat, by congr 1; omega, by omega⟩
    have b3 := (slb.bt b q0).trans b3
    clear slb nlb hB hy
    refine ⟨_, rfl, b, q0, 3, rfl, by decide, by decide, hB3, fun H4 n b4 hB4 n0 n9 => ?_⟩
    obtain ⟨x, rfl, hx⟩ := nn _ _ n0 n9
    refine ⟨_, rfl, b, q0, 3, rfl, by decide, by decide, hB4, fun H5 n b5 hB5 n0 n9 => ?_⟩
    obtain ⟨y, rfl, hy⟩ := nn _ _ n0 n9
    refine ⟨by show 2 ≤ sizeLine; decide, fun t1 nt1 => ?_⟩
    have s1 := same_new (o := .tup [V.int (x : Int), V.int (y : Int)]) nt1
    have hv := upd_same (H := H5) (a := t1) (o := .tup [V.int (x : Int), V.int (y : Int)])
    have hB6 := hB5.same s1
    have b16 := b3.trans (b4.trans (b5.trans (s1.bt b q0)))
    generalize upd H5 t1 (.tup [V.int (x : Int), V.int (y : Int)]) = H6 at *
    clear b3 b4 b5 s1 hB3 hB4 hB5 nt1
    refine ⟨by show 2 ≤ sizeLine; decide, fun t3 nt3 => ?_⟩
    have s3 := same_new (o := .tup [V.int (p : Int), V.ref t1]) nt3
    have hp3 := upd_same (H := H6) (a := t3) (o := .tup [V.int (p : Int), V.ref t1])
    have hv := s3 _ _ hv
    have hB7 := hB6.same s3
    have b17 := b16.trans (s3.bt b q0)
    generalize upd H6 t3 (.tup [V.int (p : Int), V.ref t1]) = H7 at *
    clear b16 s3 hB6 nt3
    refine ⟨t3, _, rfl, .of hp3, rfl, _, _, rfl, _, _, rfl, rfl, ?_⟩
    clear hp3
    dsimp only [gName, tSeq]
    refine ⟨_, rfl, b, q0, 3, rfl, by decide, by decide, hB7, fun H8 n b8 hB8 n0 n9 => ?_⟩
    obtain ⟨z, rfl, hz⟩ := nn _ _ n0 n9
    refine ⟨_, rfl, b, q0, 3, rfl, by decide, by decide, hB8, fun H9 n b9 hB9 n0 n9 => ?_⟩
    obtain ⟨u, rfl, hu⟩ := nn _ _ n0 n9
    have hv := ((hB7.keepN b8.n).trans (hB8.keepN b9.n)).tup hv
    refine ⟨by show 2 ≤ sizeLine; decide, fun t2 nt2 => ?_⟩
    have s2 := same_new (o := .tup [V.int (z : Int), V.int (u : Int)]) nt2
    have hw := upd_same (H := H9) (a := t2) (o := .tup [V.int (z : Int), V.int (u : Int)])
    have hv := s2 _ _ hv
    have hB10 := hB9.same s2
    have b10 := b17.trans (b8.trans (b9.trans (s2.bt b q0)))
    generalize upd H9 t2 (.tup [V.int (z : Int), V.int (u : Int)]) = H10 at *
    clear b17 b8 b9 s2 hB7 hB8 hB9 nt2
    replace hv : H10 t1 = some (.tup (([(x : Int), (y : Int)] : List Int).map V.int)) := hv
    replace hw : H10 t2 = some (.tup (([(z : Int), (u : Int)] : List Int).map V.int)) := hw
    have clk : NoDiv (p : Int) := by
      rcases hp with rfl | rfl
      · exact noDiv_of (n := 2) (by decide +kernel)
      · exact noDiv_of (n := 3) (by decide +kernel)
    have su : ∀ i j : Nat, ([(i : Int), (j : Int)] : List Int).sum = ((i + j : Nat) : Int) := fun i j => by simp
    have em : ∀ i j k l : Nat, ([(i : Int), (j : Int)] : List Int).sum * ([(k : Int), (l : Int)] : List Int).sum = (((i + j) * (k + l) : Nat) : Int) := fun i j k l => by rw [su, su, Int.natCast_mul]
    have cm : ∀ i j k l : Nat, i ≤ 2 → j ≤ 2 → k ≤ 2 → l ≤ 2 → CMulW ([(i : Int), (j : Int)] : List Int).sum ([(k : Int), (l : Int)] : List Int).sum := fun i j k l h1 h2 h3 h4 => wide_mul (a := 4) (b := 4) (by rw [su]; show _ < 16; omega) (by rw [su]; show _ < 16; omega) (by omega) (by omega) (by omega)
    dsimp only [gName, tSeq]
    refine ⟨_, rfl, t1, _, rfl, .of hv, _, rfl, t2, _, rfl, .of hw, _, _, rfl, rfl, cm x y z u (by omega) (by omega) (by omega) (by omega), ?_⟩
    dsimp only [gName, tSeq]
    rw [em]
    refine while_by (fun σ H' => Same H10 H' ∧ ∃ (t : Addr) (c e : Nat), σ = [some (.ref b), some (.int (p : Int)), some (.ref t1), some (.ref t), some (.int (((x + y) * (c + e) : Nat) : Int)), none, none, none, none, none, none, none, none, none, none, none, none] ∧ H' t = some (.tup (([(c : Int), (e : Int)] : List Int).map V.int)) ∧ c ≤ 2 ∧ e ≤ 2)
      (fun σ _ => match σ[4]? with | some (some (V.int n)) => n.toNat | _ => 0) ⟨Same.refl _, t2, z, u, rfl, hw, by omega, by omega⟩ ?_ ?_
    · rintro σ H1 ⟨s1, t, c, e, rfl, ht, hc, he⟩
      have i0 : ∀ u v : Int, atI ([u, v].map V.int) 0 = some (.int u) := fun u v => rfl
      have i1 : ∀ u v : Int, atI ([u, v].map V.int) 1 = some (.int v) := fun u v => rfl
      have hM : (x + y) * (c + e) ≤ 4 * 4 := Nat.mul_le_mul (by omega) (by omega)
      refine ⟨_, rfl, _, rfl, (p : Int), (x + y) * (c + e), rfl, by omega, by omega, by omega, _, _, rfl, rfl, _, rfl, ?_⟩
      refine ite2 (fun hc => ?_) (fun hc => ?_)
      · have hc := of_decide_eq_true hc
        have hpos : 0 < (x + y) * (c + e) := by
          rcases Nat.eq_zero_or_pos ((x + y) * (c + e)) with h | h
          · rw [h, Int.pow_zero] at hc; omega
          · exact h
        have hxy : 0 < x + y := Nat.pos_of_mul_pos_right hpos
        have hce : 0 < c + e := Nat.pos_of_mul_pos_left hpos
        dsimp only [tSeq]
        refine ⟨_, rfl, t, _, _, _, rfl, rfl, .of ht, i0 _ _, _, _, rfl, rfl, _, rfl, ?_⟩
        refine ite2 (fun h0 => ?_) (fun h0 => ?_)
        · have h0 := of_decide_eq_true h0
          obtain ⟨c, rfl⟩ : ∃ k, c = k + 1 := ⟨c - 1, by omega⟩
          refine ⟨_, rfl, t, _, _, _, rfl, rfl, .of ht, i0 _ _, _, _, rfl, rfl, _, rfl, t, _, _, _, rfl, rfl, .of ht, i1 _ _, by show 2 ≤ sizeLine; decide, fun t4 nt4 => ?_⟩
          have s4 := same_new (o := .tup [V.int (((c + 1 : Nat) : Int) - 1), V.int (e : Int)]) nt4
          have h4 : upd H1 t4 (.tup [V.int (((c + 1 : Nat) : Int) - 1), V.int (e : Int)]) t4 = some (.tup (([((c : Nat) : Int), ((e : Nat) : Int)] : List Int).map V.int)) := by
            rw [upd_same]
            show some (HO.tup [_, _]) = some (HO.tup [_, _])
            congr 3 <;> first | rfl | omega | (congr 2; omega) | (congr 3; omega)
          have hv4 := s4 _ _ (s1 _ _ hv)
          have s14 := s1.trans s4
          generalize upd H1 t4 (.tup [V.int (((c + 1 : Nat) : Int) - 1), V.int (e : Int)]) = H4 at *
          dsimp only [gName, tSeq]
          refine ⟨_, rfl, t1, _, rfl, .of hv4, _, rfl, t4, _, rfl, .of h4, _, _, rfl, rfl, cm x y _ _ (by omega) (by omega) (by omega) (by omega), ?_⟩
          dsimp only
          rw [em]
          refine ⟨⟨s14, t4, c, e, rfl, h4, by omega, by omega⟩, ?_⟩
          show (((x + y) * (c + e) : Nat) : Int).toNat < (((x + y) * (c + 1 + e) : Nat) : Int).toNat
          rw [Int.toNat_natCast, Int.toNat_natCast]
          exact Nat.mul_lt_mul_of_pos_left (by omega) hxy
        · have h0 : c = 0 := by
            have : ¬ ((0 : Int) < (c : Int)) := fun z => h0 (decide_eq_true z)
            omega
          subst h0
          obtain ⟨e, rfl⟩ : ∃ k, e = k + 1 := ⟨e - 1, by omega⟩
          refine ⟨_, rfl, t, _, _, _, rfl, rfl, .of ht, i1 _ _, _, _, rfl, rfl, by show 2 ≤ sizeLine; decide, fun t4 nt4 => ?_⟩
          have s4 := same_new (o := .tup [V.int 0, V.int (((e + 1 : Nat) : Int) - 1)]) nt4
          have h4 : upd H1 t4 (.tup [V.int 0, V.int (((e + 1 : Nat) : Int) - 1)]) t4 = some (.tup (([(((0 : Nat)) : Int), ((e : Nat) : Int)] : List Int).map V.int)) := by
            rw [upd_same]
            show some (HO.tup [_, _]) = some (HO.tup [_, _])
            congr 3 <;> first | rfl | omega | (congr 2; omega) | (congr 3; omega)
          have hv4 := s4 _ _ (s1 _ _ hv)
          have s14 := s1.trans s4
          generalize upd H1 t4 (.tup [V.int 0, V.int (((e + 1 : Nat) : Int) - 1)]) = H4 at *
          dsimp only [gName, tSeq]
          refine ⟨_, rfl, t1, _, rfl, .of hv4, _, rfl, t4, _, rfl, .of h4, _, _, rfl, rfl, cm x y _ _ (by omega) (by omega) (by omega) (by omega), ?_⟩
          dsimp only
          rw [em]
          refine ⟨⟨s14, t4, 0, e, rfl, h4, by omega, by omega⟩, ?_⟩
          show (((x + y) * (0 + e) : Nat) : Int).toNat < (((x + y) * (0 + (e + 1)) : Nat) : Int).toNat
          rw [Int.toNat_natCast, Int.toNat_natCast]
          exact Nat.mul_lt_mul_of_pos_left (by omega) hxy
      · have hm : p ^ ((x + y) * (c + e)) ≤ 800 := by
          have : ¬ ((800 : Int) < (p : Int) ^ ((x + y) * (c + e))) := fun z => hc (decide_eq_true z)
          rw [← Int.natCast_pow] at this
          omega
        clear hc hM i0 i1
        have hv := s1 _ _ hv
        have hB11 := hB10.same s1
        have b11 := b10.trans (s1.bt b q0)
        clear s1 b10 hB10 hw hz hu
        dsimp only [gName, tSeq]
        have hpp : (0 : Int) < (p : Int) ^ ((x + y) * (c + e)) := Int.pow_pos (by omega)
        have hM : (x + y) * (c + e) ≤ 4 * 4 := Nat.mul_le_mul (by omega) (by omega)
        refine fun D nD => ?_
        have sD := same_new (o := .dT []) nD
        have hD := upd_same (H := H1) (a := D) (o := .dT [])
        generalize upd H1 D (.dT []) = H2 at *
        dsimp only [gName, tSeq]
        refine ⟨_, rfl, _, rfl, (p : Int), (x + y) * (c + e), rfl, by omega, by omega, by omega, _, rfl, by omega, by rw [← Int.natCast_pow]; omega, ?_⟩
        refine for_it (walk_range (lo := 0) (n := (((p : Int) ^ ((x + y) * (c + e)))).toNat)) (fun n σ H' => Same H1 H' ∧ ∃ x6 x7 x8 x9 x10 x11 x12 x16 kvs, σ = [some (.ref b), some (.int (p : Int)), some (.ref t1), some (.ref t), some (.int (((x + y) * (c + e) : Nat) : Int)), some (.ref D), x6, x7, x8, x9, x10, x11, x12, none, none, none, x16] ∧ H' D = some (.dT kvs) ∧ CntD (codeN p x y c e) n kvs)
          ⟨sD, none, none, none, none, none, none, none, none, [], rfl, hD, Nat.le_refl _, fun _ _ _ _ => rfl⟩ (fun _ _ _ _ _ => trivial) ?_ ?_
        · clear sD hD
          rintro n v σ H3 H4 hn ⟨s3, x6, x7, x8, x9, x10, x11, x12, x16, kvs, rfl, hD, hK⟩ ⟨rfl, rfl⟩
          rw [← Int.natCast_pow, Int.toNat_natCast] at hn
          have h0p : 0 < p := by omega
          have hd2 : ∀ i : Nat, 0 < (p : Int) ∧ (((p : Nat) : Int).natAbs.log2 < 9000 ∨ (i : Int) = 0) := fun i => ⟨by omega, .inl (Nat.lt_trans (log2_of (k := 2) (by show _ < 4; omega) (by omega)) (by omega))⟩
          dsimp only [gName, tSeq]
          rw [show (0 : Int) + (n : Int) = n from Int.zero_add _]
          refine ⟨by show 0 ≤ sizeLine; decide, fun lv nlv => ?_⟩
          have s4 := same_new (o := .lst []) nlv
          have h4 := upd_same (H := H4) (a := lv) (o := .lst [])
          generalize upd H4 lv (.lst []) = H5 at *
          refine ⟨_, rfl, by show 2 ≤ sizeLine; decide, fun tv ntv => ?_⟩
          have s5 := same_new (o := .tup [V.ref lv, V.int (n : Int)]) ntv
          have h5 := upd_same (H := H5) (a := tv) (o := .tup [V.ref lv, V.int (n : Int)])
          have hl := s5 _ _ h4
          have s45 := s4.trans s5
          generalize upd H5 tv (.tup [V.ref lv, V.int (n : Int)]) = H6 at *
          refine ⟨tv, _, rfl, .of h5, rfl, _, _, rfl, _, _, rfl, rfl, ?_⟩
          clear s4 h4 ntv s5 h5
          dsimp only [gName, tSeq]
          refine ⟨_, rfl, _, rfl, by omega, by omega, ?_⟩
          refine for_it (walk_range (lo := 0) (n := ((((x + y) * (c + e) : Nat) : Int)).toNat)) (fun i σ H' => Same H4 H' ∧ ∃ x9, σ = [some (.ref b), some (.int (p : Int)), some (.ref t1), some (.ref t), some (.int (((x + y) * (c + e) : Nat) : Int)), some (.ref D), some (.int (n : Int)), some (.ref lv), some (.int ((n / p ^ i : Nat) : Int)), x9, x10, x11, x12, none, none, none, x16] ∧ H' lv = some (.lst ((toI (digN p i n)).map V.int)))
            ⟨s45, x9, by rw [Nat.pow_zero, Nat.div_one]; rfl, hl⟩ (fun _ _ _ _ _ => trivial) ?_ ?_
          · clear s45 hl x9
            rintro i v σ H7 H8 hi ⟨s7, x9, rfl, hl⟩ ⟨rfl, rfl⟩
            rw [Int.toNat_natCast] at hi
            dsimp only [gName, tSeq]
            refine ⟨_, rfl, .inl ⟨rfl, _, .of hl⟩, _, rfl, .inl ⟨_, rfl, _, rfl, _, _, rfl, rfl, by omega, ?_⟩⟩
            have eD : (toI (digN p i n)).map V.int ++ [V.int (((n / p ^ i : Nat) : Int) % (p : Int))] = (toI (digN p (i + 1) n)).map V.int := by
              rw [digN_succ, ← Int.natCast_emod]
              unfold toI
              rw [List.map_append, List.map_append]
              rfl
            refine ⟨lv, _, _, rfl, rfl, hl, by rw [List.length_map, toI_len, digN_len]; exact Nat.lt_of_lt_of_le (show _ < 100 by omega) (by decide), ?_⟩
            dsimp only [gName, tSeq]
            rw [eD]
            refine ⟨_, rfl, _, rfl, _, _, rfl, rfl, hd2 _, ?_⟩
            dsimp only
            rw [← Int.natCast_ediv, div_succ]
            exact ⟨same_own s7 nlv, _, rfl, upd_same⟩
          · rintro σ H7 ⟨s7, x9, rfl, hl⟩
            rw [Int.toNat_natCast] at hl
            have hv7 := s7 _ _ (s3 _ _ hv)
            have ht7 := s7 _ _ (s3 _ _ ht)
            have hD7 := s7 _ _ hD
            have s17 := s3.trans s7
            clear s45 s3 s7 hD
            dsimp only [gName, tSeq]
            refine ⟨_, rfl, t, _, rfl, .of ht7, _, rfl, by rw [su]; omega, by rw [su]; omega, fun D5 hD5 => ?_⟩
            refine lc_fm (walk_range (lo := 0) (n := (([(c : Int), (e : Int)] : List Int).sum).toNat)) rRow (fun i => some (toI (((digN p ((x + y) * (c + e)) n).drop (i * (x + y))).take (x + y)))) hD5 (fun _ _ => trivial) ?_ ?_
            · rintro i v H8 H9 hi pv ⟨rfl, rfl⟩
              rw [su, Int.toNat_natCast] at hi
              have hv9 := pv.1 _ _ hv7
              have hl9 := pv.1 _ _ hl
              have cw : ∀ k : Nat, k ≤ 4 → CMulW (k : Int) ([(x : Int), (y : Int)] : List Int).sum := fun k hk => wide_mul (a := 4) (b := 4) (by show _ < 16; omega) (by rw [su]; show _ < 16; omega) (by omega) (by omega) (by omega)
              have hb : (i + 1) * (x + y) ≤ (x + y) * (c + e) := by rw [Nat.mul_comm (x + y)]; exact Nat.mul_le_mul_right _ hi
              have hb1 : i * (x + y) + (x + y) = (i + 1) * (x + y) := by rw [Nat.add_mul, Nat.one_mul]
              refine ⟨rfl, _, rfl, _, rfl, _, rfl, t1, _, rfl, .of hv9, ?_⟩
              have eC : L2.cutV ((toI (digN p ((x + y) * (c + e)) n)).map V.int) (some ((0 + (i : Int)) * ([(x : Int), (y : Int)] : List Int).sum)) (some ((0 + (i : Int) + 1) * ([(x : Int), (y : Int)] : List Int).sum)) = (toI (((digN p ((x + y) * (c + e)) n).drop (i * (x + y))).take (x + y))).map V.int := by
                rw [su, show (0 + (i : Int)) * ((x + y : Nat) : Int) = ((i * (x + y) : Nat) : Int) by rw [Int.zero_add, Int.natCast_mul], show (0 + (i : Int) + 1) * ((x + y : Nat) : Int) = (((i + 1) * (x + y) : Nat) : Int) by rw [Int.zero_add, Int.natCast_mul, Int.natCast_add]; rfl]
                rw [cut_nat _ _ _ (by omega) (by rw [List.length_map, toI_len, digN_len]; exact hb), ← hb1, Nat.add_sub_cancel_left, ← List.map_drop, ← List.map_take, toI_drop, toI_take]
              refine ⟨_, _, rfl, rfl, by rw [Int.zero_add]; exact cw i (by omega), _, rfl, ?_⟩
              refine ⟨_, rfl, _, _, rfl, rfl, _, rfl, t1, _, rfl, .of hv9, _, _, rfl, rfl, by rw [show (0 : Int) + (i : Int) + 1 = ((i + 1 : Nat) : Int) by omega]; exact cw (i + 1) (by omega), _, rfl, ?_⟩
              refine ⟨lv, _, rfl, .of hl9, fun pl npl => ⟨pl, _, rfl, .inl ⟨.of upd_same, ?_⟩⟩⟩
              rw [eC]
              intro tr ntr
              exact fm_keep mono_row pv hD5 (by omega) ((same_new npl).trans (same_new ntr)) rfl ⟨tr, rfl, upd_same⟩
            · intro H8 xs s8 h8 hp8
              rw [fm_all, su, Int.toNat_natCast] at hp8
              have eR : ((List.range (c + e)).map fun i => toI (((digN p ((x + y) * (c + e)) n).drop (i * (x + y))).take (x + y))) = (tabN p x y c e n).map toI := by
                unfold tabN rowsN
                rw [List.map_map]
                rfl
              rw [eR] at hp8
              have hl := tabN_len (p := p) (a := x) (b := y) (c := c) (e := e) (x := n)
              have hrow := tabN_row (p := p) (a := x) (b := y) (c := c) (e := e) (x := n) h0p
              have hv8 := s8 _ _ hv7
              have ht8 := s8 _ _ ht7
              have hD8 := s8 _ _ hD7
              have s18 := s17.trans s8
              have hcode : codeN p x y c e n = 4 * rkN p (((tabN p x y c e n).drop c).map fun r => r.take x) + rkN p (((tabN p x y c e n).take c).map fun r => r.drop x) := rfl
              clear s17 s8 hv7 ht7 hD7 eR
              generalize tabN p x y c e n = tab at hp8 hl hrow hcode
              dsimp only [gName, tSeq]
              refine ⟨_, rfl, by show 2 ≤ sizeLine; decide, fun a1 na1 => ⟨by show 1 ≤ sizeLine; decide, fun a2 na2 => ?_⟩⟩
              have s1 := same_new (o := .tup [V.int 0, V.int 1]) na1
              have h1 := upd_same (H := H8) (a := a1) (o := .tup [V.int 0, V.int 1])
              generalize upd H8 a1 (.tup [V.int 0, V.int 1]) = H9 at *
              have s2 := same_new (o := .tup [V.ref a1]) na2
              have h2 := upd_same (H := H9) (a := a2) (o := .tup [V.ref a1])
              have h1 := s2 _ _ h1
              have s810 := s1.trans s2
              generalize upd H9 a2 (.tup [V.ref a1]) = H10' at *
              clear s1 s2 na1 na2
              refine ⟨_, rfl, _, rfl, _, rfl, D5, .ref t, xs, tab.map toI, [(c : Int), (e : Int)], 2, rfl, s810 _ _ h8, paired_mono mono_row s810.keep hp8, ⟨t, rfl, s810 _ _ ht8⟩, counts2 (by omega) (by omega), by omega, by rw [su, List.length_map, hl], fun H11 v9 s11 hv9 => ⟨by show 4 ≤ sizeLine; decide, fun a3 na3 => ?_⟩⟩
              have s3 := same_new (o := .tup [V.int (p : Int), V.ref a2, V.ref t1, v9]) na3
              have h3 := upd_same (H := H11) (a := a3) (o := .tup [V.int (p : Int), V.ref a2, V.ref t1, v9])
              have s812 := s810.trans (s11.trans s3)
              refine ⟨.ref a3, sheetN p x y c e tab, 2, rfl, ⟨a3, .ref a2, .ref t1, v9, rfl, h3, ⟨a2, [.ref a1], rfl, (s11.trans s3) _ _ h2, .cons ⟨a1, rfl, (s11.trans s3) _ _ h1⟩ .nil⟩, ⟨t1, rfl, s812 _ _ hv8⟩, mono_wants _ _ _ _ s3.keep hv9⟩, sheetN_ok clk (by omega) (by omega) hc he hl hrow, fun H13 D2 m s13 nD2 hD2 hper _ => ?_⟩
              have z01 : ((0 : Int), (1 : Int)) ∈ m := hper.mem_iff.mpr (by show ((0 : Int), (1 : Int)) ∈ [((0 : Int), (1 : Int))] ++ flipAll [((0 : Int), (1 : Int))]; decide)
              have z10 : ((1 : Int), (0 : Int)) ∈ m := hper.mem_iff.mpr (by show ((1 : Int), (0 : Int)) ∈ [((0 : Int), (1 : Int))] ++ flipAll [((0 : Int), (1 : Int))]; decide)
              have g01 := toll_get (S := sheetN p x y c e tab) (n := 2) z01
              have g10 := toll_get (S := sheetN p x y c e tab) (n := 2) z10
              rw [toll_there clk.prm he hl hrow] at g01
              rw [toll_back clk.prm hc hl hrow] at g10
              have l01 := rkN_le p ((tab.drop c).map fun r => r.take x)
              have l10 := rkN_le p ((tab.take c).map fun r => r.drop x)
              generalize rkN p ((tab.drop c).map fun r => r.take x) = T0 at *
              generalize rkN p ((tab.take c).map fun r => r.drop x) = B0 at *
              have s813 := s812.trans s13
              have hD13 := s813 _ _ hD8
              have s113 := s18.trans s813
              clear s810 s812 s813 s11 s3 h3 h1 h2 hv9 hp8 h8 ht8 hv8 hD8 na3 s13
              dsimp only [gName, tSeq]
              refine ⟨_, rfl, by show 2 ≤ sizeLine; decide, fun k1 nk1 => ?_⟩
              have s1 := same_new (o := .tup [V.int 0, V.int 1]) nk1
              have h1 : upd H13 k1 (.tup [V.int 0, V.int 1]) k1 = some (.tup ((wayK ((0 : Int), (1 : Int))).map kV)) := upd_same
              have hD2 := s1 _ _ hD2
              have q1 := DGet.t hD2 h1
              rw [g01] at q1
              refine ⟨D2, _, rfl, q1, ?_⟩
              generalize upd H13 k1 (.tup [V.int 0, V.int 1]) = H14 at *
              refine ⟨_, rfl, by show 2 ≤ sizeLine; decide, fun k2 nk2 => ?_⟩
              have s2 := same_new (o := .tup [V.int 1, V.int 0]) nk2
              have h2 : upd H14 k2 (.tup [V.int 1, V.int 0]) k2 = some (.tup ((wayK ((1 : Int), (0 : Int))).map kV)) := upd_same
              have q2 := DGet.t (s2 _ _ hD2) h2
              rw [g10] at q2
              refine ⟨D2, _, rfl, q2, by show 2 ≤ sizeLine; decide, fun k3 nk3 => ?_⟩
              have s3 := same_new (o := .tup [V.int (T0 : Int), V.int (B0 : Int)]) nk3
              have h3 : upd (upd H14 k2 (.tup [V.int 1, V.int 0])) k3 (.tup [V.int (T0 : Int), V.int (B0 : Int)]) k3 = some (.tup ((wayK ((T0 : Int), (B0 : Int))).map kV)) := upd_same
              have s133 := s1.trans (s2.trans s3)
              generalize upd (upd H14 k2 (.tup [V.int 1, V.int 0])) k3 (.tup [V.int (T0 : Int), V.int (B0 : Int)]) = H15 at *
              have hD15 := s133 _ _ hD13
              have s115 := s113.trans s133
              clear q1 q2 s1 s2 s3 h1 h2 hD2 nk1 nk2 nk3 s133 hD13 s113
              refine ⟨_, rfl, D, rfl, .inr ⟨kvs, .of hD15⟩, _, rfl, valV kvs (wayK ((T0 : Int), (B0 : Int))), DGet.t hD15 h3, ?_⟩
              rw [cnt_get hK (by omega) (by omega)]
              refine ⟨_, _, rfl, rfl, _, rfl, _, rfl, D, _, rfl, DPut.t hD15 h3 (Nat.lt_of_le_of_lt hK.1 (Nat.lt_of_lt_of_le (show n < 1000 by omega) (by decide))), ?_⟩
              exact ⟨same_own s115 nD, _, _, _, _, _, _, _, _, _, rfl, upd_same, cnt_put hK (by omega) (by omega) hcode⟩
        · rintro σ H3 ⟨s3, x6, x7, x8, x9, x10, x11, x12, x16, kvs, rfl, hD, hK⟩
          rw [← Int.natCast_pow, Int.toNat_natCast] at hK
          clear sD
          have hv := s3 _ _ hv
          have ht := s3 _ _ ht
          have rv := fun H (s : Same H3 H) => (⟨t1, rfl, s _ _ hv⟩ : rRow H (.ref t1) [(x : Int), (y : Int)])
          have rw' := fun H (s : Same H3 H) => (⟨t, rfl, s _ _ ht⟩ : rRow H (.ref t) [(c : Int), (e : Int)])
          have hB3 := hB11.same s3
          have b3 := b11.trans (s3.bt b q0)
          clear s3 hB11 b11 nD
          dsimp only [tSeq]
          refine ⟨_, rfl, by decide, by decide, ?_⟩
          refine for_it (walk_range (lo := 0) (n := ((4 : Int)).toNat)) (fun i σ H' => Same H3 H' ∧ ∃ x13 x14 x15, σ = [some (.ref b), some (.int (p : Int)), some (.ref t1), some (.ref t), some (.int (((x + y) * (c + e) : Nat) : Int)), some (.ref D), x6, x7, x8, x9, x10, x11, x12, x13, x14, x15, x16])
            ⟨Same.refl _, none, none, none, rfl⟩ (fun _ _ _ _ _ => trivial) ?_ ?_
          · rintro i v σ H4 H5 hi ⟨s4, x13, x14, x15, rfl⟩ ⟨rfl, rfl⟩
            have hi : i < 4 := hi
            dsimp only [gName]
            rw [show (0 : Int) + (i : Int) = i from Int.zero_add _]
            refine ⟨_, rfl, by decide, by decide, ?_⟩
            refine for_it (walk_range (lo := 0) (n := ((4 : Int)).toNat)) (fun j σ H' => Same H3 H' ∧ ∃ x14 x15, σ = [some (.ref b), some (.int (p : Int)), some (.ref t1), some (.ref t), some (.int (((x + y) * (c + e) : Nat) : Int)), some (.ref D), x6, x7, x8, x9, x10, x11, x12, some (.int (i : Int)), x14, x15, x16])
              ⟨s4, x14, x15, rfl⟩ (fun _ _ _ _ _ => trivial) ?_ ?_
            · clear s4 x14 x15
              rintro j v σ H6 H7 hj ⟨s6, x14, x15, rfl⟩ ⟨rfl, rfl⟩
              have hj : j < 4 := hj
              have hdue := cnt_due hp (show x ≤ 2 by omega) (show y ≤ 2 by omega) hc he hm hi hj
              dsimp only [gName, tSeq]
              rw [show (0 : Int) + (j : Int) = j from Int.zero_add _]
              have hD6 := s6 _ _ hD
              refine ⟨_, rfl, D, rfl, .inr ⟨kvs, .of hD6⟩, _, rfl, _, rfl, by show 2 ≤ sizeLine; decide, fun k1 nk1 => ?_⟩
              have s1 := same_new (o := .tup [V.int (i : Int), V.int (j : Int)]) nk1
              have h1 : upd H7 k1 (.tup [V.int (i : Int), V.int (j : Int)]) k1 = some (.tup ((wayK ((i : Int), (j : Int))).map kV)) := upd_same
              refine ⟨valV kvs (wayK ((i : Int), (j : Int))), DGet.t (s1 _ _ hD6) h1, ?_⟩
              rw [cnt_get hK hi hj, hdue]
              generalize upd H7 k1 (.tup [V.int (i : Int), V.int (j : Int)]) = H8 at *
              have s8 := s6.trans s1
              dsimp only [gName, tSeq]
              refine ⟨_, rfl, _, rfl, _, rfl, _, rfl, _, rfl, p, .ref t1, .ref t, x, y, c, e, i, j, rfl, clk, rv _ s8, rw' _ s8, by omega, by omega, by omega, by omega, by omega, by omega, fun H9 s9 => ?_⟩
              refine ⟨_, rfl, _, _, rfl, ⟨_, rfl, rfl⟩, fun H10 s10 => ⟨_, rfl, iteF' (b := !true) rfl ?_⟩⟩
              have s810 := s8.trans (s9.trans s10)
              dsimp only [tNext]
              refine ⟨_, rfl, _, rfl, _, rfl, _, rfl, _, rfl, p, .ref t1, .ref t, x, y, c, e, i, j, rfl, clk, rv _ s810, rw' _ s810, by omega, by omega, by omega, by omega, by omega, by omega, fun H11 s11 => ?_⟩
              refine ⟨_, rfl, rfl, _, rfl, ?_⟩
              exact iteF' (by rw [decide_eq_true rfl]; rfl) ⟨s810.trans s11, _, _, rfl⟩
            · rintro σ H6 ⟨s6, x14, x15, rfl⟩
              exact ⟨s6, _, _, _, rfl⟩
          · rintro σ H4 ⟨s4, x13, x14, x15, rfl⟩
            refine ⟨_, rfl, by show 2 ≤ sizeLine; decide, fun t4 nt4 => ⟨by show 1 ≤ sizeLine; decide, fun t5 nt5 => fun xx dx nx ndx nex => ?_⟩⟩
            have s5 := same_new (o := .tup [V.int 0, V.int 1]) nt4
            have h4 := upd_same (H := H4) (a := t4) (o := .tup [V.int 0, V.int 1])
            generalize upd H4 t4 (.tup [V.int 0, V.int 1]) = H5 at *
            have s6 := same_new (o := .tup [V.ref t4]) nt5
            have h5 := upd_same (H := H5) (a := t5) (o := .tup [V.ref t4])
            have h4 := s6 _ _ h4
            generalize upd H5 t5 (.tup [V.ref t4]) = H6 at *
            have sM := same_make (C := cT) nx ndx nex
            refine ⟨xx, dx, .ref t5, [(0, 1)], 2, rfl, upd_same, rTupK_of ⟨t5, [.ref t4], rfl, sM _ _ h5, .cons ⟨t4, rfl, sM _ _ h4⟩ .nil⟩, ties2, fun HT kT hT => ⟨rfl, ?_⟩⟩
            have sT : Same H6 HT := fun b' o e => kT b' o (fun z => by subst z; rw [nx] at e; cases e) (sM _ _ e)
            have sE := s4.trans (s5.trans (s6.trans sT))
            refine ⟨_, rfl, _, rfl, p, .ref xx, .ref t1, .ref t, _, _, 2, x + y, c + e, rfl, clk, hT, by omega, rv _ sE, rw' _ sE, counts2 (by omega) (by omega), counts2 (by omega) (by omega), su _ _, su _ _, fun H7 s7 => ?_⟩
            refine ⟨_, rfl, _, rfl, (p : Int), (x + y) * (c + e), rfl, by omega, by omega, by omega, _, _, rfl, ⟨_, rfl, rfl⟩, fun H8 s8 => ?_⟩
            have sF := sE.trans (s7.trans s8)
            exact q _ (b3.trans (sF.bt b q0)) (hB3.same sF)
    · rintro σ H' Q1 Q2 i ⟨v, e1, v2, e2, p', n', e3, c1, c2, c3, i1, j1, e4, e5, k, e6, h⟩
      exact ⟨v, e1, v2, e2, p', n', e3, c1, c2, c3, i1, j1, e4, e5, k, e6, i _ _ h⟩
end
end S4

/-! the law -/
namespace S4
open PySem L2 TT MM QQ
section
variable {P : Program} {w : World} {K : PySem.W.Frag} {mg : Str → Option Value} {base : Heap} {cT cS : Addr}
def spLaw (K : PySem.W.Frag) : Sp := fun vs H Q _ => ∃ (a : Addr) (ns : List Int), vs = [.ref a] ∧ SqL K H a (ns.map V.int) ∧ ns.length ≤ 63 ∧ ∀ H', Q (.bl true) H'
theorem ok_law (T : Tx K mg cT cS) {f : Addr} {fd : FuncData} (d : D K mg "law" s_law ["script"] f fd) : FnOk P w K mg base CX0 10 f fd ["script"] (spLaw K) := by
  obtain ⟨f1, fd1, d1⟩ := T.d_law_bag
  have G1 := ok_bag (P := P) (w := w) (base := base) T d1
  obtain ⟨f2, fd2, d2⟩ := T.d_law_all_right
  have G2 := ok_allR (P := P) (w := w) (base := base) T d2
  obtain ⟨f3, fd3, d3⟩ := T.d_law_great_right
  have G3 := ok_greatR (P := P) (w := w) (base := base) T d3
  obtain ⟨f4, fd4, d4⟩ := T.d_law_pick
  have G4 := ok_pick (P := P) (w := w) (base := base) T d4
  obtain ⟨f5, fd5, d5⟩ := T.d_law_ties
  have G5 := ok_tiesB (P := P) (w := w) (base := base) T d5
  obtain ⟨f6, fd6, d6⟩ := T.d_law_some
  have G6 := ok_some (P := P) (w := w) (base := base) T d6
  obtain ⟨f7, fd7, d7⟩ := T.d_law_dealt
  have G7 := ok_dealt (P := P) (w := w) (base := base) T d7
  obtain ⟨f8, fd8, d8⟩ := T.d_law_clock
  have G8 := ok_clockB (P := P) (w := w) (base := base) T d8
  obtain ⟨f9, fd9, k9⟩ := T.k_Tree
  have G9 := ok_TreeK (P := P) (w := w) (base := base) T k9
  obtain ⟨f10, fd10, d10⟩ := T.d_sheets_in_all
  have G10 := ok_sia (P := P) (w := w) (base := base) T d10
  obtain ⟨f11, fd11, d11⟩ := T.d_law_power
  have G11 := ok_lpow (P := P) (w := w) (base := base) T d11
  obtain ⟨f12, fd12, d12⟩ := T.d_law_is
  have G12 := ok_is (P := P) (w := w) (base := base) T d12 0
  refine d.F.ok sc_law (fun vs H Q E h => ?_) (fun cdv A outer s H vs Q E hr h => ?_)
  · obtain ⟨a0, ns, rfl, _⟩ := h
    rfl
  · obtain ⟨a0, ns, rfl, hS, hl, q⟩ := h
    refine ⟨_, pss_cons (ps_set (i := 1) sc_law.nd rfl (.inl rfl) (pe_call G1 (hr.mono (by decide)) rfl d1.m d1.F.kp d1.b .nil pass0 (pa_cons (pv 0) pa_nil)))
      (pss_cons (ps_if (PW.pt (pw_or (pt_not (pt_val (pe_call G2 (hr.mono (by decide)) rfl d2.m d2.F.kp d2.b .nil pass0 (pa_cons (pv 1) pa_nil)))) (pw_or1 (pt_not (pt_val (pe_call G3 (hr.mono (by decide)) rfl d3.m d3.F.kp d3.b .nil pass0 (pa_cons (pv 1) pa_nil))))))) pss_never pss_nil)
      (pss_cons (ps_set (i := 2) sc_law.nd rfl (.inl rfl) (pe_call G5 (hr.mono (by decide)) rfl d5.m d5.F.kp d5.b .nil pass0 (pa_cons (pv 1) (pa_cons (pe_ifExp (pt_cmpR op_eq (pe_call G4 (hr.mono (by decide)) rfl d4.m d4.F.kp d4.b .nil pass0 (pa_cons (pv 1) (pa_cons pe_int pa_nil))) pe_int (nomark _)) pe_int pe_int) pa_nil))))
      (pss_cons (ps_set (i := 3) sc_law.nd rfl (.inl rfl) (pe_call G6 (hr.mono (by decide)) rfl d6.m d6.F.kp d6.b .nil pass0 (pa_cons (pv 1) (pa_cons (pe_lst (pa_cons pe_int (pa_cons pe_int (pa_cons pe_int pa_nil)))) pa_nil))))
      (pss_cons (ps_set (i := 4) sc_law.nd rfl (.inl rfl) (pe_call G7 (hr.mono (by decide)) rfl d7.m d7.F.kp d7.b .nil pass0 (pa_cons (pv 1) (pa_cons (pe_op op_add (pe_callB call_len_seq (by rfl) T.b_len PySem.boot_len (pa_cons (pv 2) pa_nil)) pe_int) (pa_cons (pe_call G4 (hr.mono (by decide)) rfl d4.m d4.F.kp d4.b .nil pass0 (pa_cons (pv 1) (pa_cons (pv 3) pa_nil))) pa_nil)))))
      (pss_cons (ps_par (i := 5) (j := 6) (by rfl) sc_law.nd rfl rfl (by decide) rfl rfl (pa_cons (pe_call G7 (hr.mono (by decide)) rfl d7.m d7.F.kp d7.b .nil pass0 (pa_cons (pv 1) (pa_cons (pe_op op_add (pe_callB call_len_seq (by rfl) T.b_len PySem.boot_len (pa_cons (pv 2) pa_nil)) pe_int) (pa_cons (pe_call G4 (hr.mono (by decide)) rfl d4.m d4.F.kp d4.b .nil pass0 (pa_cons (pv 1) (pa_cons (pv 3) pa_nil))) pa_nil)))) (pa_cons (pe_call G8 (hr.mono (by decide)) rfl d8.m d8.F.kp d8.b .nil pass0 (pa_cons (pv 1) pa_nil)) pa_nil)) (by rfl))
      (pss_one (ps_ret (pe_call G12 (hr.mono (by decide)) rfl d12.m d12.F.kp d12.b .nil pass0 (pa_cons (pe_call G10 (hr.mono (by decide)) rfl d10.m d10.F.kp d10.b .nil pass0 (pa_cons (pv 6) (pa_cons (pe_make k9.mkf G9 (hr.mono (by decide)) rfl k9.m k9.b .nil pass0 (pa_cons (pv 2) pa_nil)) (pa_cons (pv 4) (pa_cons (pv 5) pa_nil))))) (pa_cons (pe_call G11 (hr.mono (by decide)) rfl d11.m d11.F.kp d11.b .nil pass0 (pa_cons (pv 6) (pa_cons (pe_op op_mulW (pe_callB (cr_sumT rfl) (by rfl) T.b_sum (by decide +kernel) (pa_cons (pv 4) pa_nil)) (pe_callB (cr_sumT rfl) (by rfl) T.b_sum (by decide +kernel) (pa_cons (pv 5) pa_nil))) pa_nil))) pa_nil)))))))))), ?_⟩
    refine ⟨_, rfl, a0, ns, rfl, hS, hl, fun H1 b q0 s1 nb nq hB => ?_⟩
    dsimp only [gName, tSeq]
    refine ⟨_, rfl, b, q0, rfl, hB, fun H2 b2 hB2 => ⟨_, rfl, ?_⟩⟩
    refine iteF' (b := !true) rfl ⟨_, rfl, b, q0, rfl, hB2, fun H3 b3 hB3 => ⟨_, rfl, iteF' (b := !true) rfl ?_⟩⟩
    clear b2 b3 hB hB2 s1 nb nq
    dsimp only [tNext, tSeq]
    refine ⟨_, rfl, _, rfl, b, q0, 6, rfl, by decide, by decide, hB3, fun H4 n b4 hB4 n0 n6 => ⟨rfl, _, rfl, ?_⟩⟩
    clear b4 hB3
    refine ite2 (fun hc => ?_) (fun hc => ?_)
    ·
      refine ⟨b, q0, 24, rfl, hB4, by decide, by decide, fun H5 v5 ties n b5 hB5 hv5 tok hn => ?_⟩
      have tk := tok.ok
      have hn24 : n ≤ 24 := tk.n24
      have hln := tk.len
      dsimp only [gName, tSeq]
      refine ⟨_, rfl, by show 3 ≤ sizeLine; decide, fun l1 nl1 => ?_⟩
      have s1 := same_new (o := .lst (([12, 3, 60] : List Int).map V.int)) nl1
      refine ⟨b, q0, l1, ([12, 3, 60] : List Int).map V.int, rfl, upd_same, (hB5.new nl1).1, (hB5.new nl1).2, by decide, by decide, hB5.same s1, fun H6 j y b6 hB6 hy => ?_⟩
      obtain ⟨many, rfl, hm0, hm1⟩ : ∃ k : Int, y = .int k ∧ 0 < k ∧ k ≤ 60 := by
        obtain ⟨pz, hp, rfl⟩ := at_int hy
        have hm := List.mem_of_getElem? hp
        simp only [List.mem_cons, List.not_mem_nil, or_false] at hm
        exact ⟨pz, rfl, by omega, by omega⟩
      have k6 := ((Bag.keepN hB5 (s1.bt b q0).n).trans ((hB5.same s1).keepN b6.n))
      have hv6 := monoN_tup monoN_pi _ _ _ _ k6 hv5
      clear hy s1 nl1 k6 b6 hB5 hv5
      obtain ⟨tt, xs, rfl, htt, hpp⟩ := id hv6
      have lx := paired_len hpp
      have eL : V.int (((xs.length : Nat) : Int) + 1) = V.int (n : Int) := by congr 1; omega
      dsimp only [gName, tSeq]
      refine ⟨_, rfl, _, rfl, tt, _, rfl, .inr (.of htt), _, _, rfl, rfl, ?_⟩
      dsimp only
      rw [eL]
      refine ⟨_, rfl, _, rfl, b, q0, many, rfl, hm0, by omega, hB6, fun H7 k b7 hB7 k0 k1 => ?_⟩
      obtain ⟨k, rfl⟩ : ∃ i : Nat, k = (i : Int) := ⟨k.toNat, by omega⟩
      refine ⟨b, q0, n, k, rfl, hB7, by omega, hn24, by omega, fun H8 v8 holds b8 hB8 hv8 ch _ => ?_⟩
      have hv8t := monoN_tup monoN_pi _ _ _ _ ((hB6.keepN b7.n).trans (hB7.keepN b8.n)) hv6
      have htt8 := ((hB6.keepN b7.n).trans (hB7.keepN b8.n)).tup htt
      dsimp only [gName, tSeq]
      refine ⟨_, rfl, _, rfl, tt, _, rfl, .inr (.of htt8), _, _, rfl, rfl, ?_⟩
      dsimp only
      rw [eL]
      refine ⟨_, rfl, _, rfl, b, q0, many, rfl, hm0, by omega, hB8, fun H9 k b9 hB9 k0 k1 => ?_⟩
      obtain ⟨k, rfl⟩ : ∃ i : Nat, k = (i : Int) := ⟨k.toNat, by omega⟩
      refine ⟨b, q0, n, k, rfl, hB9, by omega, hn24, by omega, fun H10 v10 wants b10 hB10 hv10 cw _ => ?_⟩
      refine ⟨_, rfl, b, q0, rfl, hB10, fun H11 p b11 hB11 clk => ?_⟩
      have hv11 := monoN_tup monoN_pi _ _ _ _ ((hB8.keepN b9.n).trans ((hB9.keepN b10.n).trans (hB10.keepN b11.n))) hv8t
      have hh11 := monoN_row _ _ _ _ ((hB8.keepN b9.n).trans ((hB9.keepN b10.n).trans (hB10.keepN b11.n))) hv8
      have hw11 := monoN_row _ _ _ _ (hB10.keepN b11.n) hv10
      clear b7 b8 b9 b10 b11 hB6 hB7 hB8 hB9 hB10 hB11 hv6 hv8t hv8 hv10 htt8 htt hpp
      refine ⟨_, _, rfl, ?_⟩
      refine ⟨_, rfl, _, rfl, fun xx dx nx ndx nex => ?_⟩
      have sM := same_make (C := cT) nx ndx nex
      refine ⟨xx, dx, .ref tt, ties, n, rfl, upd_same, rTupK_of (mono_tup mono_pi _ _ _ _ sM.keep hv11), tk, fun HT kT hT => ⟨rfl, ?_⟩⟩
      have sT : Same H11 HT := fun b' o e => kT b' o (fun z => by subst z; rw [nx] at e; cases e) (sM _ _ e)
      obtain ⟨aa, ea⟩ : ∃ i : Nat, holds.sum = (i : Int) := ⟨holds.sum.toNat, by have := counts_sum ch; omega⟩
      obtain ⟨bb, eb⟩ : ∃ i : Nat, wants.sum = (i : Int) := ⟨wants.sum.toNat, by have := counts_sum cw; omega⟩
      have a60 := ch.s
      have b60 := cw.s
      refine ⟨_, rfl, _, rfl, p, .ref xx, v8, v10, holds, wants, n, aa, bb, rfl, clk, hT, hn24, mono_row _ _ _ _ sT.keep hh11, mono_row _ _ _ _ sT.keep hw11, ch, cw, ea, eb, fun H12 s12 => ?_⟩
      obtain ⟨th, rfl, hth⟩ := mono_row _ _ _ _ (sT.trans s12).keep hh11
      obtain ⟨tw, rfl, htw⟩ := mono_row _ _ _ _ (sT.trans s12).keep hw11
      have hab : aa * bb ≤ 60 * 60 := Nat.mul_le_mul (by omega) (by omega)
      refine ⟨_, rfl, _, rfl, th, holds, rfl, .of hth, _, rfl, tw, wants, rfl, .of htw, _, _, rfl, rfl, wide_mul (a := 8) (b := 8) (by rw [ea]; show _ < 256; omega) (by rw [eb]; show _ < 256; omega) (by omega) (by omega) (by omega), ?_⟩
      rw [ea, eb]
      refine ⟨p, aa * bb, by show [V.int p, V.int ((aa : Int) * bb)] = _; rw [Int.natCast_mul], (clk_le clk).1, (clk_le clk).2, by omega, _, _, rfl, ⟨_, rfl, rfl⟩, fun H13 _ => q H13⟩
    ·
      refine ⟨b, q0, 6, rfl, hB4, by decide, by decide, fun H5 v5 ties n b5 hB5 hv5 tok hn => ?_⟩
      have tk := tok.ok
      have hn24 : n ≤ 24 := tk.n24
      have hln := tk.len
      dsimp only [gName, tSeq]
      refine ⟨_, rfl, by show 3 ≤ sizeLine; decide, fun l1 nl1 => ?_⟩
      have s1 := same_new (o := .lst (([12, 3, 60] : List Int).map V.int)) nl1
      refine ⟨b, q0, l1, ([12, 3, 60] : List Int).map V.int, rfl, upd_same, (hB5.new nl1).1, (hB5.new nl1).2, by decide, by decide, hB5.same s1, fun H6 j y b6 hB6 hy => ?_⟩
      obtain ⟨many, rfl, hm0, hm1⟩ : ∃ k : Int, y = .int k ∧ 0 < k ∧ k ≤ 60 := by
        obtain ⟨pz, hp, rfl⟩ := at_int hy
        have hm := List.mem_of_getElem? hp
        simp only [List.mem_cons, List.not_mem_nil, or_false] at hm
        exact ⟨pz, rfl, by omega, by omega⟩
      have k6 := ((Bag.keepN hB5 (s1.bt b q0).n).trans ((hB5.same s1).keepN b6.n))
      have hv6 := monoN_tup monoN_pi _ _ _ _ k6 hv5
      clear hy s1 nl1 k6 b6 hB5 hv5
      obtain ⟨tt, xs, rfl, htt, hpp⟩ := id hv6
      have lx := paired_len hpp
      have eL : V.int (((xs.length : Nat) : Int) + 1) = V.int (n : Int) := by congr 1; omega
      dsimp only [gName, tSeq]
      refine ⟨_, rfl, _, rfl, tt, _, rfl, .inr (.of htt), _, _, rfl, rfl, ?_⟩
      dsimp only
      rw [eL]
      refine ⟨_, rfl, _, rfl, b, q0, many, rfl, hm0, by omega, hB6, fun H7 k b7 hB7 k0 k1 => ?_⟩
      obtain ⟨k, rfl⟩ : ∃ i : Nat, k = (i : Int) := ⟨k.toNat, by omega⟩
      refine ⟨b, q0, n, k, rfl, hB7, by omega, hn24, by omega, fun H8 v8 holds b8 hB8 hv8 ch _ => ?_⟩
      have hv8t := monoN_tup monoN_pi _ _ _ _ ((hB6.keepN b7.n).trans (hB7.keepN b8.n)) hv6
      have htt8 := ((hB6.keepN b7.n).trans (hB7.keepN b8.n)).tup htt
      dsimp only [gName, tSeq]
      refine ⟨_, rfl, _, rfl, tt, _, rfl, .inr (.of htt8), _, _, rfl, rfl, ?_⟩
      dsimp only
      rw [eL]
      refine ⟨_, rfl, _, rfl, b, q0, many, rfl, hm0, by omega, hB8, fun H9 k b9 hB9 k0 k1 => ?_⟩
      obtain ⟨k, rfl⟩ : ∃ i : Nat, k = (i : Int) := ⟨k.toNat, by omega⟩
      refine ⟨b, q0, n, k, rfl, hB9, by omega, hn24, by omega, fun H10 v10 wants b10 hB10 hv10 cw _ => ?_⟩
      refine ⟨_, rfl, b, q0, rfl, hB10, fun H11 p b11 hB11 clk => ?_⟩
      have hv11 := monoN_tup monoN_pi _ _ _ _ ((hB8.keepN b9.n).trans ((hB9.keepN b10.n).trans (hB10.keepN b11.n))) hv8t
      have hh11 := monoN_row _ _ _ _ ((hB8.keepN b9.n).trans ((hB9.keepN b10.n).trans (hB10.keepN b11.n))) hv8
      have hw11 := monoN_row _ _ _ _ (hB10.keepN b11.n) hv10
      clear b7 b8 b9 b10 b11 hB6 hB7 hB8 hB9 hB10 hB11 hv6 hv8t hv8 hv10 htt8 htt hpp
      refine ⟨_, _, rfl, ?_⟩
      refine ⟨_, rfl, _, rfl, fun xx dx nx ndx nex => ?_⟩
      have sM := same_make (C := cT) nx ndx nex
      refine ⟨xx, dx, .ref tt, ties, n, rfl, upd_same, rTupK_of (mono_tup mono_pi _ _ _ _ sM.keep hv11), tk, fun HT kT hT => ⟨rfl, ?_⟩⟩
      have sT : Same H11 HT := fun b' o e => kT b' o (fun z => by subst z; rw [nx] at e; cases e) (sM _ _ e)
      obtain ⟨aa, ea⟩ : ∃ i : Nat, holds.sum = (i : Int) := ⟨holds.sum.toNat, by have := counts_sum ch; omega⟩
      obtain ⟨bb, eb⟩ : ∃ i : Nat, wants.sum = (i : Int) := ⟨wants.sum.toNat, by have := counts_sum cw; omega⟩
      have a60 := ch.s
      have b60 := cw.s
      refine ⟨_, rfl, _, rfl, p, .ref xx, v8, v10, holds, wants, n, aa, bb, rfl, clk, hT, hn24, mono_row _ _ _ _ sT.keep hh11, mono_row _ _ _ _ sT.keep hw11, ch, cw, ea, eb, fun H12 s12 => ?_⟩
      obtain ⟨th, rfl, hth⟩ := mono_row _ _ _ _ (sT.trans s12).keep hh11
      obtain ⟨tw, rfl, htw⟩ := mono_row _ _ _ _ (sT.trans s12).keep hw11
      have hab : aa * bb ≤ 60 * 60 := Nat.mul_le_mul (by omega) (by omega)
      refine ⟨_, rfl, _, rfl, th, holds, rfl, .of hth, _, rfl, tw, wants, rfl, .of htw, _, _, rfl, rfl, wide_mul (a := 8) (b := 8) (by rw [ea]; show _ < 256; omega) (by rw [eb]; show _ < 256; omega) (by omega) (by omega) (by omega), ?_⟩
      rw [ea, eb]
      refine ⟨p, aa * bb, by show [V.int p, V.int ((aa : Int) * bb)] = _; rw [Int.natCast_mul], (clk_le clk).1, (clk_le clk).2, by omega, _, _, rfl, ⟨_, rfl, rfl⟩, fun H13 _ => q H13⟩
end
end S4

namespace S4
open PySem L2 TT EE MM
theorem dc_mk {K : PySem.W.Frag} {h : Heap} {mg : Str → Option Value} {x q : Str} {st : Stmt} {ps fl : List Str} {C f : Addr} {oc : Value} {od an : Option Addr} {osl : Array (Option Value)} {kV doc pm cdv ct : Value} (X : K.In h) (G : h.Ns mainGlobals mg)
    (hb : ∀ (kV doc pm : Value) (an : Option Addr) (cdv ct : Value) (us : List Value), us.length = ps.length → bindArgs (PySem.W.fnOf "__init__" q (defArgs st) (defBody st) (defScope st) .none kV doc pm an cdv ct) ⟨us, []⟩ = pure (ps.zip us))
    (aC : mg x = some (.ref C))
    (a : PySem.W.findIn K (.ref C) "__init__" = some (some (.ref f))) (i : PySem.W.isFn K (.ref f) = true)
    (l : K.lookup f = some ⟨oc, od, .func (PySem.W.fnOf "__init__" q (defArgs st) (defBody st) (defScope st) .none kV doc pm an cdv ct), osl⟩) (c : PySem.W.codeIn K cdv q = true) (k : PySem.W.keepIn K (.ref f) = true)
    (mk : PySem.W.makesIn K C = true) (kc : PySem.W.keepIn K (.ref C) = true)
    (pg : PySem.W.plainGet K C Str.empty = true) (hd : PySem.W.hasDictIn K C = true) (po : PySem.W.plainOver K C = true) (sa : PySem.W.findIn K (.ref C) "__setattr__" = some (some (.builtin "object.__setattr__")))
    (na : ∀ y ∈ fl, NoAttr K C y) : ∃ f fd, DC K mg x q st ps fl C f fd :=
  ⟨f, _, fun_mk l c k, (fun_mk l c k).binds hb, aC, ⟨mk, a, i, kc⟩, ⟨pg, hd, po, sa⟩, na⟩
theorem dm_mk {K : PySem.W.Frag} {m q : Str} {st : Stmt} {ps : List Str} {C f : Addr} {oc : Value} {od an : Option Addr} {osl : Array (Option Value)} {kV doc pm cdv ct : Value}
    (hb : ∀ (kV doc pm : Value) (an : Option Addr) (cdv ct : Value) (us : List Value), us.length = ps.length → bindArgs (PySem.W.fnOf m q (defArgs st) (defBody st) (defScope st) .none kV doc pm an cdv ct) ⟨us, []⟩ = pure (ps.zip us))
    (a : PySem.W.findIn K (.ref C) m = some (some (.ref f))) (i : PySem.W.isFn K (.ref f) = true)
    (l : K.lookup f = some ⟨oc, od, .func (PySem.W.fnOf m q (defArgs st) (defBody st) (defScope st) .none kV doc pm an cdv ct), osl⟩) (c : PySem.W.codeIn K cdv q = true) (k : PySem.W.keepIn K (.ref f) = true) : ∃ f fd, DM K m q st ps C f fd :=
  ⟨f, _, fun_mk l c k, (fun_mk l c k).binds hb, a, i⟩
theorem ei_mk {K : PySem.W.Frag} {q : Str} {st : Stmt} {ps fl : List Str} {C f : Addr} {oc : Value} {od an : Option Addr} {osl : Array (Option Value)} {kV doc pm cdv ct : Value}
    {nm qn : Str} {N : Addr} {bs bm : List Value} {sn : List Str} {sub : List Value} {ab : Bool} {col : Option Bool} {dd : Option Addr} {m0 m1 m2 m3 m5 : Option Value}
    (hb : ∀ (kV doc pm : Value) (an : Option Addr) (cdv ct : Value) (us : List Value), us.length = ps.length → bindArgs (PySem.W.fnOf "__init__" q (defArgs st) (defBody st) (defScope st) .none kV doc pm an cdv ct) ⟨us, []⟩ = pure (ps.zip us))
    (xL : K.lookup C = some (PySem.excClassObj nm qn C N bs bm true sn sub ab col dd m0 m1 m2 m3 m5 "ValueError.__new__")) (rv : PySem.HandSPX.refsVE bm = true)
    (sa : PySem.W.findIn K (.ref C) "__setattr__" = some (some (.builtin "object.__setattr__"))) (eC : PySem.W.subIn K (.ref C) (.type "BaseException") = some true) (tC : PySem.W.typeIn K (.ref C) = some (.type "type")) (kC : PySem.W.keepIn K (.ref C) = true)
    (a : PySem.W.findIn K (.ref C) "__init__" = some (some (.ref f))) (t1 : PySem.W.typeIn K (.ref f) = some (.type "function"))
    (l : K.lookup f = some ⟨oc, od, .func (PySem.W.fnOf "__init__" q (defArgs st) (defBody st) (defScope st) .none kV doc pm an cdv ct), osl⟩) (c : PySem.W.codeIn K cdv q = true) (k : PySem.W.keepIn K (.ref f) = true)
    (no : ∀ y ∈ fl, PySem.W.findIn K (.ref C) y = some none) : ∃ f fd, EI K q st ps fl C f fd :=
  ⟨f, _, fun_mk l c k, (fun_mk l c k).binds hb, ⟨⟨nm, qn, N, bs, bm, sn, sub, ab, col, dd, m0, m1, m2, m3, m5, xL, rv⟩, sa, eC, tC, kC⟩, a, t1, no⟩
theorem cls_of {K : PySem.W.Frag} {h : Heap} {mg : Str → Option Value} {x : Str} {C : Addr} (X : K.In h) (G : h.Ns mainGlobals mg) (a : PySem.W.nsIn K mainGlobals x = some (some (.ref C))) : mg x = some (.ref C) := PySem.W.mg_of X G a
theorem kit_ve {K : PySem.W.Frag} {C : Addr} (h : PySem.W.subIn K (.ref C) (.type "ValueError") = some true) : PySem.W.kitOne K (.ref C) (.type "ValueError") = some true := by
  unfold PySem.W.kitOne
  rw [if_neg (by simp)]
  show (if PySem.W.kitMeta "ValueError" = true then PySem.W.subIn K (.ref C) (.type "ValueError") else none) = some true
  rw [if_pos (by decide +kernel)]
  exact h
theorem kit_self (K : PySem.W.Frag) (C : Addr) : PySem.W.kitOne K (.ref C) (.ref C) = some true := if_pos (beq_self_eq_true _)
theorem use {a b : Prop} (h : a) (f : a → b) : b := f h
theorem int_mk {mg : Str → Option Value} {x : Str} {v : Value} {n : Int} (h : mg x = some v) (e : ∃ t, v = .int n t) : ∃ t, mg x = some (.int n t) := by
  obtain ⟨t, rfl⟩ := e
  exact ⟨t, h⟩
theorem two_mk {K : PySem.W.Frag} {mg : Str → Option Value} {x : Str} {a b : Addr} {d1 d2 : Option Addr} {n1 n2 t0 t1 : Nat} {s1 s2 : Array (Option Value)} {hp : Heap} (_X : K.In hp) (h : mg x = some (.ref a))
    (l1 : K.lookup a = some ⟨.type "tuple", d1, .seq #[.ref b] n1, s1⟩) (l2 : K.lookup b = some ⟨.type "tuple", d2, .seq #[.int 0 t0, .int 1 t1] n2, s2⟩) :
    ∃ a b, mg x = some (.ref a) ∧ KTp K a [.ref b] ∧ KTp K b [.int 0, .int 1] :=
  ⟨a, b, h, ⟨_, _, _, l1, rfl, rfl, by show 1 ≤ sizeLine; decide, by constructor <;> constructor⟩, ⟨_, _, _, l2, rfl, rfl, by show 2 ≤ sizeLine; decide, .cons ⟨_, rfl⟩ (.cons ⟨_, rfl⟩ .nil)⟩⟩
theorem all_mk {l : PySem.W.OpenLaw} {w : World} {K : PySem.W.Frag} {mg : Str → Option Value} {fa : Addr} {cT cS : Addr} (hfa : mg "law" = some (.ref fa)) (T : Tx K mg cT cS) :
    ∃ fd : FuncData, (∀ (s : Shared) (v : Value), BindsTo s fd ⟨[v], []⟩ [("script", v)]) ∧ ∀ base : Heap, K.In base → base.Ns mainGlobals mg → FnOk l.prog w K mg base CX0 10 fa fd ["script"] (spLaw K) := by
  obtain ⟨f, fd, d⟩ := T.d_law
  have e := hfa.symm.trans d.m
  cases e
  refine ⟨fd, ?_, fun base _ _ => ok_law T d⟩
  obtain ⟨oc, od, kV, doc, pm, an, cdv, ct, osl, rfl, lk, hcd⟩ := d.F.ex
  exact fun s v => .of_eq rfl
theorem walk {l : PySem.W.OpenLaw} {q : Program} {loose : List Str} {XP : (Str → Option Value) → Heap → Prop} {YP : World → Heap → Prop} {d : DefRec} {K : Params → PySem.W.Frag} (hn : l.most = some 63) (hdf : d.params.defaults = [])
    (hY : ∀ (w : World) (h : Heap), YP w h → (K w.params).In h)
    (F : ∀ (w : World) (mg : Str → Option Value) (fa : Addr) (h : Heap), (K w.params).In h → h.Ns mainGlobals mg → mg d.name = some (.ref fa) →
      ∃ fd : FuncData, (∀ (s : Shared) (u : Value), BindsTo s fd ⟨[u], []⟩ [("script", u)]) ∧ ∀ base : Heap, (K w.params).In base → base.Ns mainGlobals mg → FnOk l.prog w (K w.params) mg base CX0 10 fa fd ["script"] (spLaw (K w.params))) :
    PySem.W.WalkO q loose XP YP l.row.toRowW d [] (fun f vs => PySem.call f vs) :=
  L2.walk_of (n := 63) (k := 10) (x := "script") (CX := fun _ => CX0) (sp := fun w => spLaw (K w.params)) hn (by decide) hdf ⟨rfl, by decide, by decide⟩ hY F (fun _ _ a ns hl _ hS => ⟨a, ns, rfl, hS, hl, fun _ => rfl⟩) fun _ _ _ _ _ z => z
end S4

open PySem PySem.W PyProof.Rows in
set_option maxRecDepth 100000 in
set_option maxHeartbeats 0 in
theorem PySem.Challenge.cw_sametolls_k17_whole_small_sheets_counted_holds : PySem.Challenge.rw_sametolls_k17_whole_small_sheets_counted.Holds := by
  w_on; o_law; k_head; (case hw => w_witness2)
  k_fill
  refine S4.walk (l := PySem.Challenge.rw_sametolls_k17_whole_small_sheets_counted) rfl rfl (fun w h Y => PySem.W.kIn_of Y) ?F
  case F =>
    intro w mg fa h KX G hmg
    refine' S4.use (S4.cls_of (x := "TollError") KX G ?a) (fun m_TollError => ?_)
    (case a => k_is)
    refine' S4.use (S4.cls_of (x := "NoClock") KX G ?a) (fun m_NoClock => ?_)
    (case a => k_is)
    refine' S4.use (S4.cls_of (x := "NoNumber") KX G ?a) (fun m_NoNumber => ?_)
    (case a => k_is)
    refine' S4.use (S4.cls_of (x := "NoCounts") KX G ?a) (fun m_NoCounts => ?_)
    (case a => k_is)
    refine' S4.use (S4.cls_of (x := "BadTree") KX G ?a) (fun m_BadTree => ?_)
    (case a => k_is)
    have b_abs : mg "abs" = none := PySem.W.mg_none_of KX G (by k_is)
    have b_all : mg "all" = none := PySem.W.mg_none_of KX G (by k_is)
    have b_bool : mg "bool" = none := PySem.W.mg_none_of KX G (by k_is)
    have b_dict : mg "dict" = none := PySem.W.mg_none_of KX G (by k_is)
    have b_enumerate : mg "enumerate" = none := PySem.W.mg_none_of KX G (by k_is)
    have b_int : mg "int" = none := PySem.W.mg_none_of KX G (by k_is)
    have b_isinstance : mg "isinstance" = none := PySem.W.mg_none_of KX G (by k_is)
    have b_len : mg "len" = none := PySem.W.mg_none_of KX G (by k_is)
    have b_list : mg "list" = none := PySem.W.mg_none_of KX G (by k_is)
    have b_max : mg "max" = none := PySem.W.mg_none_of KX G (by k_is)
    have b_range : mg "range" = none := PySem.W.mg_none_of KX G (by k_is)
    have b_sorted : mg "sorted" = none := PySem.W.mg_none_of KX G (by k_is)
    have b_sum : mg "sum" = none := PySem.W.mg_none_of KX G (by k_is)
    have b_tuple : mg "tuple" = none := PySem.W.mg_none_of KX G (by k_is)
    have b_zip : mg "zip" = none := PySem.W.mg_none_of KX G (by k_is)
    have c_MOST_HOURS : ∃ t, mg "MOST_HOURS" = some (.int 1000000 t) := by
      refine' S4.int_mk (PySem.W.mg_of KX G ?a) ?e
      (case a => k_is)
      (case e => exact ⟨_, rfl⟩)
    have c_MOST_TIES : ∃ t, mg "MOST_TIES" = some (.int 23 t) := by
      refine' S4.int_mk (PySem.W.mg_of KX G ?a) ?e
      (case a => k_is)
      (case e => exact ⟨_, rfl⟩)
    have c_MOST_AT_POST : ∃ t, mg "MOST_AT_POST" = some (.int 8 t) := by
      refine' S4.int_mk (PySem.W.mg_of KX G ?a) ?e
      (case a => k_is)
      (case e => exact ⟨_, rfl⟩)
    have c_MOST_IN_ALL : ∃ t, mg "MOST_IN_ALL" = some (.int 60 t) := by
      refine' S4.int_mk (PySem.W.mg_of KX G ?a) ?e
      (case a => k_is)
      (case e => exact ⟨_, rfl⟩)
    have c_MOST_TOLL : ∃ t, mg "MOST_TOLL" = some (.int 60 t) := by
      refine' S4.int_mk (PySem.W.mg_of KX G ?a) ?e
      (case a => k_is)
      (case e => exact ⟨_, rfl⟩)
    refine' S4.use (S4.two_mk (x := "TWO_POSTS") KX (PySem.W.mg_of KX G ?a) ?l1 ?l2) (fun q_TWO_POSTS => ?_)
    (case a => k_is)
    (case l1 => k_is)
    (case l2 => k_is)
    refine' S4.use (S4.DE.mk (x := "is_integer") (st := S4.s_is_integer) (ps := ["thing"]) KX G (fun _ _ _ _ _ _ us hl => match us, hl with | [_], _ => rfl) ?a ?l ?c ?k) (fun d_is_integer => ?_)
    (case a => k_is)
    (case l => k_is)
    (case c => k_is)
    (case k => k_is)
    refine' S4.use (S4.DE.mk (x := "is_below") (st := S4.s_is_below) (ps := ["thing", "end"]) KX G (fun _ _ _ _ _ _ us hl => match us, hl with | [_, _], _ => rfl) ?a ?l ?c ?k) (fun d_is_below => ?_)
    (case a => k_is)
    (case l => k_is)
    (case c => k_is)
    (case k => k_is)
    refine' S4.use (S4.DE.mk (x := "is_pair") (st := S4.s_is_pair) (ps := ["thing"]) KX G (fun _ _ _ _ _ _ us hl => match us, hl with | [_], _ => rfl) ?a ?l ?c ?k) (fun d_is_pair => ?_)
    (case a => k_is)
    (case l => k_is)
    (case c => k_is)
    (case k => k_is)
    refine' S4.use (S4.DE.mk (x := "is_clock") (st := S4.s_is_clock) (ps := ["thing"]) KX G (fun _ _ _ _ _ _ us hl => match us, hl with | [_], _ => rfl) ?a ?l ?c ?k) (fun d_is_clock => ?_)
    (case a => k_is)
    (case l => k_is)
    (case c => k_is)
    (case k => k_is)
    refine' S4.use (S4.DE.mk (x := "check_clock") (st := S4.s_check_clock) (ps := ["p"]) KX G (fun _ _ _ _ _ _ us hl => match us, hl with | [_], _ => rfl) ?a ?l ?c ?k) (fun d_check_clock => ?_)
    (case a => k_is)
    (case l => k_is)
    (case c => k_is)
    (case k => k_is)
    refine' S4.use (S4.DE.mk (x := "power") (st := S4.s_power) (ps := ["p", "times"]) KX G (fun _ _ _ _ _ _ us hl => match us, hl with | [_, _], _ => rfl) ?a ?l ?c ?k) (fun d_power => ?_)
    (case a => k_is)
    (case l => k_is)
    (case c => k_is)
    (case k => k_is)
    refine' S4.use (S4.DE.mk (x := "check_ties") (st := S4.s_check_ties) (ps := ["ties"]) KX G (fun _ _ _ _ _ _ us hl => match us, hl with | [_], _ => rfl) ?a ?l ?c ?k) (fun d_check_ties => ?_)
    (case a => k_is)
    (case l => k_is)
    (case c => k_is)
    (case k => k_is)
    refine' S4.use (S4.DE.mk (x := "is_tie") (st := S4.s_is_tie) (ps := ["thing", "posts"]) KX G (fun _ _ _ _ _ _ us hl => match us, hl with | [_, _], _ => rfl) ?a ?l ?c ?k) (fun d_is_tie => ?_)
    (case a => k_is)
    (case l => k_is)
    (case c => k_is)
    (case k => k_is)
    refine' S4.use (S4.DE.mk (x := "neighbours") (st := S4.s_neighbours) (ps := ["ties", "post"]) KX G (fun _ _ _ _ _ _ us hl => match us, hl with | [_, _], _ => rfl) ?a ?l ?c ?k) (fun d_neighbours => ?_)
    (case a => k_is)
    (case l => k_is)
    (case c => k_is)
    (case k => k_is)
    refine' S4.use (S4.DE.mk (x := "reached") (st := S4.s_reached) (ps := ["ties", "start", "barred"]) KX G (fun _ _ _ _ _ _ us hl => match us, hl with | [_, _, _], _ => rfl) ?a ?l ?c ?k) (fun d_reached => ?_)
    (case a => k_is)
    (case l => k_is)
    (case c => k_is)
    (case k => k_is)
    refine' S4.use (S4.DE.mk (x := "are_counts") (st := S4.s_are_counts) (ps := ["tree", "thing"]) KX G (fun _ _ _ _ _ _ us hl => match us, hl with | [_, _], _ => rfl) ?a ?l ?c ?k) (fun d_are_counts => ?_)
    (case a => k_is)
    (case l => k_is)
    (case c => k_is)
    (case k => k_is)
    refine' S4.use (S4.DE.mk (x := "check_counts") (st := S4.s_check_counts) (ps := ["tree", "thing"]) KX G (fun _ _ _ _ _ _ us hl => match us, hl with | [_, _], _ => rfl) ?a ?l ?c ?k) (fun d_check_counts => ?_)
    (case a => k_is)
    (case l => k_is)
    (case c => k_is)
    (case k => k_is)
    refine' S4.use (S4.DE.mk (x := "tolls_in_all") (st := S4.s_tolls_in_all) (ps := ["p", "holds", "wants", "there", "back"]) KX G (fun _ _ _ _ _ _ us hl => match us, hl with | [_, _, _, _, _], _ => rfl) ?a ?l ?c ?k) (fun d_tolls_in_all => ?_)
    (case a => k_is)
    (case l => k_is)
    (case c => k_is)
    (case k => k_is)
    refine' S4.use (S4.DE.mk (x := "blocks_in_all") (st := S4.s_blocks_in_all) (ps := ["p", "tall", "wide", "rank"]) KX G (fun _ _ _ _ _ _ us hl => match us, hl with | [_, _, _, _], _ => rfl) ?a ?l ?c ?k) (fun d_blocks_in_all => ?_)
    (case a => k_is)
    (case l => k_is)
    (case c => k_is)
    (case k => k_is)
    refine' S4.use (S4.DE.mk (x := "sheets_in_all") (st := S4.s_sheets_in_all) (ps := ["p", "tree", "holds", "wants"]) KX G (fun _ _ _ _ _ _ us hl => match us, hl with | [_, _, _, _], _ => rfl) ?a ?l ?c ?k) (fun d_sheets_in_all => ?_)
    (case a => k_is)
    (case l => k_is)
    (case c => k_is)
    (case k => k_is)
    refine' S4.use (S4.DE.mk (x := "_law_bag") (st := S4.s_law_bag) (ps := ["script"]) KX G (fun _ _ _ _ _ _ us hl => match us, hl with | [_], _ => rfl) ?a ?l ?c ?k) (fun d_law_bag => ?_)
    (case a => k_is)
    (case l => k_is)
    (case c => k_is)
    (case k => k_is)
    refine' S4.use (S4.DE.mk (x := "_law_pick") (st := S4.s_law_pick) (ps := ["bag", "many"]) KX G (fun _ _ _ _ _ _ us hl => match us, hl with | [_, _], _ => rfl) ?a ?l ?c ?k) (fun d_law_pick => ?_)
    (case a => k_is)
    (case l => k_is)
    (case c => k_is)
    (case k => k_is)
    refine' S4.use (S4.DE.mk (x := "_law_some") (st := S4.s_law_some) (ps := ["bag", "things"]) KX G (fun _ _ _ _ _ _ us hl => match us, hl with | [_, _], _ => rfl) ?a ?l ?c ?k) (fun d_law_some => ?_)
    (case a => k_is)
    (case l => k_is)
    (case c => k_is)
    (case k => k_is)
    refine' S4.use (S4.DE.mk (x := "_law_is") (st := S4.s_law_is) (ps := ["thing", "due"]) KX G (fun _ _ _ _ _ _ us hl => match us, hl with | [_, _], _ => rfl) ?a ?l ?c ?k) (fun d_law_is => ?_)
    (case a => k_is)
    (case l => k_is)
    (case c => k_is)
    (case k => k_is)
    refine' S4.use (S4.DE.mk (x := "_law_turned") (st := S4.s_law_turned) (ps := ["p", "value"]) KX G (fun _ _ _ _ _ _ us hl => match us, hl with | [_, _], _ => rfl) ?a ?l ?c ?k) (fun d_law_turned => ?_)
    (case a => k_is)
    (case l => k_is)
    (case c => k_is)
    (case k => k_is)
    refine' S4.use (S4.DE.mk (x := "_law_without") (st := S4.s_law_without) (ps := ["p", "row", "head", "place"]) KX G (fun _ _ _ _ _ _ us hl => match us, hl with | [_, _, _, _], _ => rfl) ?a ?l ?c ?k) (fun d_law_without => ?_)
    (case a => k_is)
    (case l => k_is)
    (case c => k_is)
    (case k => k_is)
    refine' S4.use (S4.DE.mk (x := "_law_ladder") (st := S4.s_law_ladder) (ps := ["p", "rows"]) KX G (fun _ _ _ _ _ _ us hl => match us, hl with | [_, _], _ => rfl) ?a ?l ?c ?k) (fun d_law_ladder => ?_)
    (case a => k_is)
    (case l => k_is)
    (case c => k_is)
    (case k => k_is)
    refine' S4.use (S4.DE.mk (x := "_law_tied") (st := S4.s_law_tied) (ps := ["ties", "post"]) KX G (fun _ _ _ _ _ _ us hl => match us, hl with | [_, _], _ => rfl) ?a ?l ?c ?k) (fun d_law_tied => ?_)
    (case a => k_is)
    (case l => k_is)
    (case c => k_is)
    (case k => k_is)
    refine' S4.use (S4.DE.mk (x := "_law_side") (st := S4.s_law_side) (ps := ["ties", "post", "barred"]) KX G (fun _ _ _ _ _ _ us hl => match us, hl with | [_, _, _], _ => rfl) ?a ?l ?c ?k) (fun d_law_side => ?_)
    (case a => k_is)
    (case l => k_is)
    (case c => k_is)
    (case k => k_is)
    refine' S4.use (S4.DE.mk (x := "_law_ways") (st := S4.s_law_ways) (ps := ["ties"]) KX G (fun _ _ _ _ _ _ us hl => match us, hl with | [_], _ => rfl) ?a ?l ?c ?k) (fun d_law_ways => ?_)
    (case a => k_is)
    (case l => k_is)
    (case c => k_is)
    (case k => k_is)
    refine' S4.use (S4.DE.mk (x := "_law_numbers_of") (st := S4.s_law_numbers_of) (ps := ["holds", "posts"]) KX G (fun _ _ _ _ _ _ us hl => match us, hl with | [_, _], _ => rfl) ?a ?l ?c ?k) (fun d_law_numbers_of => ?_)
    (case a => k_is)
    (case l => k_is)
    (case c => k_is)
    (case k => k_is)
    refine' S4.use (S4.DE.mk (x := "_law_block") (st := S4.s_law_block) (ps := ["spec", "way"]) KX G (fun _ _ _ _ _ _ us hl => match us, hl with | [_, _], _ => rfl) ?a ?l ?c ?k) (fun d_law_block => ?_)
    (case a => k_is)
    (case l => k_is)
    (case c => k_is)
    (case k => k_is)
    refine' S4.use (S4.DE.mk (x := "_law_tolls") (st := S4.s_law_tolls) (ps := ["spec"]) KX G (fun _ _ _ _ _ _ us hl => match us, hl with | [_], _ => rfl) ?a ?l ?c ?k) (fun d_law_tolls => ?_)
    (case a => k_is)
    (case l => k_is)
    (case c => k_is)
    (case k => k_is)
    refine' S4.use (S4.DE.mk (x := "_law_parted") (st := S4.s_law_parted) (ps := ["things", "counts"]) KX G (fun _ _ _ _ _ _ us hl => match us, hl with | [_, _], _ => rfl) ?a ?l ?c ?k) (fun d_law_parted => ?_)
    (case a => k_is)
    (case l => k_is)
    (case c => k_is)
    (case k => k_is)
    refine' S4.use (S4.DE.mk (x := "_law_ties") (st := S4.s_law_ties) (ps := ["bag", "most"]) KX G (fun _ _ _ _ _ _ us hl => match us, hl with | [_, _], _ => rfl) ?a ?l ?c ?k) (fun d_law_ties => ?_)
    (case a => k_is)
    (case l => k_is)
    (case c => k_is)
    (case k => k_is)
    refine' S4.use (S4.DE.mk (x := "_law_clock") (st := S4.s_law_clock) (ps := ["bag"]) KX G (fun _ _ _ _ _ _ us hl => match us, hl with | [_], _ => rfl) ?a ?l ?c ?k) (fun d_law_clock => ?_)
    (case a => k_is)
    (case l => k_is)
    (case c => k_is)
    (case k => k_is)
    refine' S4.use (S4.DE.mk (x := "_law_dealt") (st := S4.s_law_dealt) (ps := ["bag", "posts", "many"]) KX G (fun _ _ _ _ _ _ us hl => match us, hl with | [_, _, _], _ => rfl) ?a ?l ?c ?k) (fun d_law_dealt => ?_)
    (case a => k_is)
    (case l => k_is)
    (case c => k_is)
    (case k => k_is)
    refine' S4.use (S4.DE.mk (x := "_law_power") (st := S4.s_law_power) (ps := ["p", "many"]) KX G (fun _ _ _ _ _ _ us hl => match us, hl with | [_, _], _ => rfl) ?a ?l ?c ?k) (fun d_law_power => ?_)
    (case a => k_is)
    (case l => k_is)
    (case c => k_is)
    (case k => k_is)
    refine' S4.use (S4.DE.mk (x := "_law_of_rank") (st := S4.s_law_of_rank) (ps := ["p", "rows", "wide", "rank"]) KX G (fun _ _ _ _ _ _ us hl => match us, hl with | [_, _, _, _], _ => rfl) ?a ?l ?c ?k) (fun d_law_of_rank => ?_)
    (case a => k_is)
    (case l => k_is)
    (case c => k_is)
    (case k => k_is)
    refine' S4.use (S4.DE.mk (x := "_law_in_all") (st := S4.s_law_in_all) (ps := ["p", "holds", "wants", "there", "back"]) KX G (fun _ _ _ _ _ _ us hl => match us, hl with | [_, _, _, _, _], _ => rfl) ?a ?l ?c ?k) (fun d_law_in_all => ?_)
    (case a => k_is)
    (case l => k_is)
    (case c => k_is)
    (case k => k_is)
    refine' S4.use (S4.DE.mk (x := "_law_all_right") (st := S4.s_law_all_right) (ps := ["bag"]) KX G (fun _ _ _ _ _ _ us hl => match us, hl with | [_], _ => rfl) ?a ?l ?c ?k) (fun d_law_all_right => ?_)
    (case a => k_is)
    (case l => k_is)
    (case c => k_is)
    (case k => k_is)
    refine' S4.use (S4.DE.mk (x := "_law_great_right") (st := S4.s_law_great_right) (ps := ["bag"]) KX G (fun _ _ _ _ _ _ us hl => match us, hl with | [_], _ => rfl) ?a ?l ?c ?k) (fun d_law_great_right => ?_)
    (case a => k_is)
    (case l => k_is)
    (case c => k_is)
    (case k => k_is)
    refine' S4.use (S4.DE.mk (x := "law") (st := S4.s_law) (ps := ["script"]) KX G (fun _ _ _ _ _ _ us hl => match us, hl with | [_], _ => rfl) ?a ?l ?c ?k) (fun d_law => ?_)
    (case a => k_is)
    (case l => k_is)
    (case c => k_is)
    (case k => k_is)
    have b_ValueError : mg "ValueError" = none := PySem.W.mg_none_of KX G (by k_is)
    refine' S4.all_mk (cS := 0) hmg (S4.Tx.mk b_abs b_all b_bool b_dict b_enumerate b_int b_isinstance b_len b_list b_max b_range b_sorted b_sum b_tuple b_zip c_MOST_HOURS c_MOST_TIES c_MOST_AT_POST c_MOST_IN_ALL c_MOST_TOLL q_TWO_POSTS d_is_integer d_is_below d_is_pair d_is_clock d_check_clock d_power d_check_ties d_is_tie d_neighbours d_reached d_are_counts d_check_counts d_tolls_in_all d_blocks_in_all d_sheets_in_all d_law_bag d_law_pick d_law_some d_law_is d_law_turned d_law_without d_law_ladder d_law_tied d_law_side d_law_ways d_law_numbers_of d_law_block d_law_tolls d_law_parted d_law_ties d_law_clock d_law_dealt d_law_power d_law_of_rank d_law_in_all d_law_all_right d_law_great_right d_law ?h0 ?h1 ?h2 ?h3 ?h4 ?h5 ?h6 ?h7 ?h8 ?h9 ?h10 ?h11 ?h12 ?h13 ?h14 ?h15 ?h16 ?h17 ?h18 ?h19 ?h20 ?h21 ?h22 ?h23 ?h24 ?h25 ?h26 ?h27 ?h28 ?h29 ?h30 ?h31 ?h32 ?h33 ?h34 ?h35 ?h36 ?h37 ?h38 ?h39 b_ValueError)
    case h0 =>
      skip
      refine' S4.dc_mk KX G (fun _ _ _ _ _ _ us hl => match us, hl with | [_, _], _ => rfl) ?aC ?a ?i ?l ?c ?k ?mk ?kc ?pg ?hd ?po ?sa ?na
      (case aC => exact PySem.W.mg_of KX G (by k_is))
      (case a => k_is)
      (case i => k_is)
      (case l => k_is)
      (case c => k_is)
      (case k => k_is)
      (case mk => k_is)
      (case kc => k_is)
      (case pg => k_is)
      (case hd => k_is)
      (case po => k_is)
      (case sa => k_is)
      case na =>
        intro y hy
        simp only [List.mem_cons, List.not_mem_nil, or_false] at hy
        rcases hy with rfl | rfl
        · show PySem.W.findIn _ _ _ = some none
          k_is
        · show PySem.W.findIn _ _ _ = some none
          k_is
    case h1 =>
      skip
      refine' ⟨⟨?pg, ?hd, ?po, ?sa⟩, ?ha, ?hn, ?htk, ?hm, S4.kit_self _ _⟩
      (case pg => k_is)
      (case hd => k_is)
      (case po => k_is)
      (case sa => k_is)
      (case ha => k_is)
      (case hn => k_is)
      (case htk => k_is)
      (case hm => k_is)
    case h2 =>
      skip
      k_is
    case h3 =>
      skip
      refine' S4.dm_mk (fun _ _ _ _ _ _ us hl => match us, hl with | [_, _], _ => rfl) ?a ?i ?l ?c ?k
      (case a => k_is)
      (case i => k_is)
      (case l => k_is)
      (case c => k_is)
      (case k => k_is)
    case h4 =>
      skip
      k_is
    case h5 =>
      rw [S4.adr_of m_TollError]
      refine' ⟨m_TollError, ?kp, ?ty, ⟨?hg, ?hk, ?hs, ?hd, ?ha, ?hn, ?ht, ?hm⟩, ?ve⟩
      (case kp => k_is)
      (case ty => k_is)
      (case hg => k_is)
      (case hk => k_is)
      (case hs => k_is)
      (case hd => k_is)
      (case ha => k_is)
      (case hn => k_is)
      (case ht => k_is)
      (case hm => k_is)
      (case ve => first | (refine' S4.kit_ve ?w; done) | (refine' S4.kit_ve ?vw; k_is) | (refine' S4.kit_ve ?_; exact (by k_is)))
    case h6 =>
      rw [S4.adr_of m_TollError]
      show PySem.W.excIn _ _ _ _ = true
      k_exc
    case h7 =>
      rw [S4.adr_of m_NoClock]
      refine' ⟨m_NoClock, ?kp, ?ty, ⟨?hg, ?hk, ?hs, ?hd, ?ha, ?hn, ?ht, ?hm⟩, ?ve⟩
      (case kp => k_is)
      (case ty => k_is)
      (case hg => k_is)
      (case hk => k_is)
      (case hs => k_is)
      (case hd => k_is)
      (case ha => k_is)
      (case hn => k_is)
      (case ht => k_is)
      (case hm => k_is)
      (case ve => first | (refine' S4.kit_ve ?w; done) | (refine' S4.kit_ve ?vw; k_is) | (refine' S4.kit_ve ?_; exact (by k_is)))
    case h8 =>
      rw [S4.adr_of m_NoClock]
      show PySem.W.excIn _ _ _ _ = true
      k_exc
    case h9 =>
      rw [S4.adr_of m_NoNumber]
      refine' ⟨m_NoNumber, ?kp, ?ty, ⟨?hg, ?hk, ?hs, ?hd, ?ha, ?hn, ?ht, ?hm⟩, ?ve⟩
      (case kp => k_is)
      (case ty => k_is)
      (case hg => k_is)
      (case hk => k_is)
      (case hs => k_is)
      (case hd => k_is)
      (case ha => k_is)
      (case hn => k_is)
      (case ht => k_is)
      (case hm => k_is)
      (case ve => first | (refine' S4.kit_ve ?w; done) | (refine' S4.kit_ve ?vw; k_is) | (refine' S4.kit_ve ?_; exact (by k_is)))
    case h10 =>
      rw [S4.adr_of m_NoNumber]
      show PySem.W.excIn _ _ _ _ = true
      k_exc
    case h11 =>
      rw [S4.adr_of m_NoCounts]
      refine' ⟨m_NoCounts, ?kp, ?ty, ⟨?hg, ?hk, ?hs, ?hd, ?ha, ?hn, ?ht, ?hm⟩, ?ve⟩
      (case kp => k_is)
      (case ty => k_is)
      (case hg => k_is)
      (case hk => k_is)
      (case hs => k_is)
      (case hd => k_is)
      (case ha => k_is)
      (case hn => k_is)
      (case ht => k_is)
      (case hm => k_is)
      (case ve => first | (refine' S4.kit_ve ?w; done) | (refine' S4.kit_ve ?vw; k_is) | (refine' S4.kit_ve ?_; exact (by k_is)))
    case h12 =>
      rw [S4.adr_of m_NoCounts]
      show PySem.W.excIn _ _ _ _ = true
      k_exc
    case h13 =>
      rw [S4.adr_of m_BadTree]
      refine' ⟨m_BadTree, ?kp, ?ty, ⟨?hg, ?hk, ?hs, ?hd, ?ha, ?hn, ?ht, ?hm⟩, ?ve⟩
      (case kp => k_is)
      (case ty => k_is)
      (case hg => k_is)
      (case hk => k_is)
      (case hs => k_is)
      (case hd => k_is)
      (case ha => k_is)
      (case hn => k_is)
      (case ht => k_is)
      (case hm => k_is)
      (case ve => first | (refine' S4.kit_ve ?w; done) | (refine' S4.kit_ve ?vw; k_is) | (refine' S4.kit_ve ?_; exact (by k_is)))
    case h14 =>
      rw [S4.adr_of m_BadTree]
      refine' S4.ei_mk (fun _ _ _ _ _ _ us hl => match us, hl with | [_, _], _ => rfl) ?xL ?rv ?sa ?eC ?tC ?kC ?a ?t1 ?l ?c ?k ?no
      (case xL => k_is)
      (case rv => first | rfl | decide +kernel)
      (case sa => k_is)
      (case eC => k_is)
      (case tC => k_is)
      (case kC => k_is)
      (case a => k_is)
      (case t1 => k_is)
      (case l => k_is)
      (case c => k_is)
      (case k => k_is)
      case no =>
        intro y hy
        simp only [List.mem_cons, List.not_mem_nil, or_false] at hy
        rcases hy with rfl
        · k_is
    case h15 =>
      rw [S4.adr_of m_TollError]
      k_is
    case h16 =>
      rw [S4.adr_of m_TollError, S4.adr_of m_NoClock]
      k_is
    case h17 =>
      rw [S4.adr_of m_TollError, S4.adr_of m_NoNumber]
      k_is
    case h18 =>
      rw [S4.adr_of m_TollError, S4.adr_of m_NoCounts]
      k_is
    case h19 =>
      rw [S4.adr_of m_TollError, S4.adr_of m_BadTree]
      k_is
    case h20 =>
      rw [S4.adr_of m_NoClock, S4.adr_of m_TollError]
      k_is
    case h21 =>
      rw [S4.adr_of m_NoClock]
      k_is
    case h22 =>
      rw [S4.adr_of m_NoClock, S4.adr_of m_NoNumber]
      k_is
    case h23 =>
      rw [S4.adr_of m_NoClock, S4.adr_of m_NoCounts]
      k_is
    case h24 =>
      rw [S4.adr_of m_NoClock, S4.adr_of m_BadTree]
      k_is
    case h25 =>
      rw [S4.adr_of m_NoNumber, S4.adr_of m_TollError]
      k_is
    case h26 =>
      rw [S4.adr_of m_NoNumber, S4.adr_of m_NoClock]
      k_is
    case h27 =>
      rw [S4.adr_of m_NoNumber]
      k_is
    case h28 =>
      rw [S4.adr_of m_NoNumber, S4.adr_of m_NoCounts]
      k_is
    case h29 =>
      rw [S4.adr_of m_NoNumber, S4.adr_of m_BadTree]
      k_is
    case h30 =>
      rw [S4.adr_of m_NoCounts, S4.adr_of m_TollError]
      k_is
    case h31 =>
      rw [S4.adr_of m_NoCounts, S4.adr_of m_NoClock]
      k_is
    case h32 =>
      rw [S4.adr_of m_NoCounts, S4.adr_of m_NoNumber]
      k_is
    case h33 =>
      rw [S4.adr_of m_NoCounts]
      k_is
    case h34 =>
      rw [S4.adr_of m_NoCounts, S4.adr_of m_BadTree]
      k_is
    case h35 =>
      rw [S4.adr_of m_BadTree, S4.adr_of m_TollError]
      k_is
    case h36 =>
      rw [S4.adr_of m_BadTree, S4.adr_of m_NoClock]
      k_is
    case h37 =>
      rw [S4.adr_of m_BadTree, S4.adr_of m_NoNumber]
      k_is
    case h38 =>
      rw [S4.adr_of m_BadTree, S4.adr_of m_NoCounts]
      k_is
    case h39 =>
      rw [S4.adr_of m_BadTree]
      k_is
