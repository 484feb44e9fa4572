import PyProof.Rows.All
import Wide.All
import OpenK.AllK
import Wide.FinOn
import HandS.ForMost
import HandS.Sort
import HandS.SortRule
import HandS.SortInts
import HandS.Conv
import HandS.Codes
import HandS.Deep
import HandS.TupLe
import HandS.TupAny
import HandS.TupMul
import HandS.Style
import HandS.Zip
import HandS.More
import HandS.Flow
import HandS.Walk
import HandS.IsInst
import KE.KTupSum
import PyProof.TupleOfSeq
import PyProof.Draws
import PyProof.EnumMake
import KE.GoesMore
import KE.GoesEnum
import HandS.ExcOwn
import HandS.ExcInit
import HandS.ExcIs
import HandS.ExcField
import HandS.OwnEq
import HandS.TryOnly
import KE.GoesZip
import HandS.WordsExc
import HandS.Small
import HandS.DictComp
import HandS.Dict
import KE.KEqDict
import PySem.Challenge.RW_sametolls_k21_whole_rules_worked_out
set_option Elab.async false
set_option autoImplicit false
set_option linter.all false
set_option maxRecDepth 100000
set_option maxHeartbeats 4000000
/-! rules that the hand layer lacks: sum, sorted, enumerate, in, [::-1], * of tuples -/
namespace TT
open PySem PySem.Spec PyProof.Rows L2
section
variable {X : Cx}
/-! ### sum(t), t a tuple of ints -/
def rSumT (K : PySem.W.Frag) : List V → Hp → VK → Prop := fun vs H Q => ∃ (a : Addr) (ns : List Int), vs = [V.ref a] ∧ SqT K H a (ns.map V.int) ∧ Q (.int ns.sum) H
theorem cr_sumT (hc : X.calm = true) : CallR X (.builtin "sum") (rSumT X.K) := by
  intro pins s σ H vs us Q I r h
  obtain ⟨a, ns, rfl, hs, q⟩ := h
  obtain ⟨its, rv, hl, _⟩ := I.tuple hs
  rw [Vals.ref1 r]
  have hi : IntsAre its ns := rv.ints
  obtain ⟨xs, e⟩ := hi.allInts.items
  have hn : numsOf (intItems xs).toList = ns := by rw [← e]; exact hi.numsOf
  rw [nums_intItems] at hn
  obtain ⟨o, ho, hc', n, hd⟩ := id hl
  have hl2 : s.heap.IsTuple a (intItems xs) := by
    rw [← e]
    exact ⟨o, ho, hc', n, hd⟩
  refine PySem.W.ktm_sumG (I.ok.hd hc) hl2 fun h' tk t' hk => ?_
  rw [preSum_eq, List.take_of_length_le (by simp), hn]
  exact ⟨.int _, H, I.kept hk, ⟨_, rfl⟩, q⟩
/-! ### x in t, t a tuple of data -/
def rInT (K : PySem.W.Frag) : R2 := fun x y H Q => ∃ d ds, Dp K H x d ∧ Dp K H y (.tuple ds) ∧ SeqAt.shaped d = true ∧ SeqAt.shaped (.tuple ds) = true ∧ Q (.bl (ds.any fun z => PyData.eqv z d)) H
theorem op_inT (hu : X.A.units + 65 < cLine) : OpR X (compareOp .In) (rInT X.K) := by
  intro pins s σ H x y v u Q I rx ry h
  obtain ⟨d, ds, hd, he, sd, se, q⟩ := h
  obtain ⟨as, r1⟩ := Dp.reads I d x v hd rx
  obtain ⟨bs, r2⟩ := Dp.reads I (.tuple ds) y u he ry
  exact SeqAt.in_tuple_reads r2 r1 (SeqAt.canLay_of_shaped se) (SeqAt.canLay_of_shaped sd) (room_in_shaped sd hu) ⟨.bl _, H, I, rfl, q⟩
end
/-! ### t[::-1] -/
section
variable {prog : Program} {w : World} {A : Around} {E : Value → Shared → Prop} {s : Shared}
theorem adjust_rev (n : Nat) : Builtin.Slice.sliceAdjust none none (-1) (n : Int) = ((n : Int) - 1, -1) := rfl
theorem places_rev (n : Nat) : Builtin.Slice.slicePlaces ((n : Int) - 1) (-1) (-1) = n := by
  unfold Builtin.Slice.slicePlaces
  rw [if_neg (by decide)]
  have e : (-(-1 : Int)) = 1 := by decide
  rw [e, Int.ediv_one]
  split <;> omega
theorem pick_rev (xs : Array Value) : ((List.range xs.size).filterMap fun (k : Nat) => xs[(((xs.size : Int) - 1) + (k : Int) * (-1)).toNat]?).toArray = xs.toList.reverse.toArray := by
  have e : (List.range xs.size).filterMap (fun (k : Nat) => xs[(((xs.size : Int) - 1) + (k : Int) * (-1)).toNat]?) = xs.toList.reverse := by
    have h : ∀ (n : Nat), n ≤ xs.size → (List.range n).filterMap (fun (k : Nat) => xs[(((xs.size : Int) - 1) + (k : Int) * (-1)).toNat]?) = xs.toList.reverse.take n := by
      intro n
      induction n with
      | zero => intro _; simp
      | succ n ih =>
        intro hn
        rw [List.range_succ, List.filterMap_append, ih (by omega), List.take_succ]
        congr 1
        have e1 : (((xs.size : Int) - 1) + (n : Int) * (-1)).toNat = xs.size - 1 - n := by omega
        rw [List.filterMap_cons, e1, List.getElem?_reverse (by rw [Array.length_toList]; omega), Array.length_toList, Array.getElem?_toList]
        cases xs[xs.size - 1 - n]? <;> rfl
    have := h xs.size (Nat.le_refl _)
    rw [this, List.take_of_length_le (by rw [List.length_reverse, Array.length_toList]; exact Nat.le_refl _)]
  rw [e]
theorem getItem_tuple_rev {t sl : Addr} {items : Array Value} {u : Tok} {Q : Value → Shared → Prop} (ht : IsTup s.heap t items) (hs : s.heap.IsSliceOf sl .none .none (.int (-1) u))
    (h : Q (.ref s.heap.objs.size) { s with heap := s.heap.push { cls := .type "tuple", data := .seq items.toList.reverse.toArray } })
    (hsz : items.size ≤ sizeLine) : wpAny (model prog w) A (getItem (.ref t) (.ref sl)) Q E s := by
  have htake : sizeOk (.seq items.toList.reverse.toArray) := by
    show items.toList.reverse.toArray.size ≤ sizeLine
    rw [List.size_toArray, List.length_reverse, Array.length_toList]
    exact hsz
  obtain ⟨os, hos, hcs, hds⟩ := id hs
  have hTs : s.TypeIs (.ref sl) "slice" := ⟨os, hos, hcs⟩
  unfold getItem
  try with_reducible refine wpAny_holding ?_
  first | refine wpAny_bind (wpAny_pure ?_) | skip
  refine wpAny_bind (wpAny_sequenceKey ht.typeIs (by decide) ?_)
  refine wpAny_bind (wpAny_callSpecial?_slot (name := Str.ofString "__getitem__") ht.typeIs PyProof.Rows.slot_tuple_getitem
    (wpAny_call_entry PyProof.Rows.slot_tuple_getitem ht.typeIs entry_tuple_getitem ?_ (args_tuple_getitem _ _)))
  show wpAny _ _ (Builtin.Tuple.tupleItemsOf (.ref t) >>= _) _ _ s
  refine wpAny_bind (tupleItemsOf_ ht ?_)
  refine wpAny_bind (wpAny_typeOf hTs ?_)
  rw [if_pos (by decide)]
  refine wpAny_bind ?_
  unfold Builtin.Slice.sliceApplied Builtin.Slice.sliceFields
  refine wpAny_bind (wpAny_bind (wpAny_field hos hds (x := .none) rfl (wpAny_bind (wpAny_field hos hds (x := .none) rfl (wpAny_bind (wpAny_field hos hds (x := .int (-1) u) rfl (wpAny_pure ?_)))))))
  refine wpAny_bind (slicePart_int ?_)
  show wpAny _ _ (if ((-1 : Int) == 0) = true then _ else _) _ _ s
  rw [if_neg (by decide)]
  refine wpAny_bind (slicePart_none (wpAny_bind (slicePart_none (wpAny_bind (wpAny_pure ?_)))))
  show wpAny _ _ (match Builtin.Slice.sliceAdjust none none (-1) (items.size : Int) with | (lo, hi) => pure (lo, (-1 : Int), Builtin.Slice.slicePlaces lo hi (-1))) _ _ s
  rw [adjust_rev]
  show wpAny _ _ (pure (((items.size : Int) - 1), (-1 : Int), Builtin.Slice.slicePlaces ((items.size : Int) - 1) (-1) (-1))) _ _ s
  rw [places_rev]
  refine wpAny_pure ?_
  have hno : ¬ ((((items.size : Int) - 1) == 0 && (-1 : Int) == 1 && (items.size == items.size)) = true) := by
    rw [show ((-1 : Int) == 1) = false from by decide, Bool.and_false, Bool.false_and]
    exact Bool.false_ne_true
  show wpAny _ _ (if (((items.size : Int) - 1) == 0 && (-1 : Int) == 1 && (items.size == items.size)) = true then _ else _) _ _ s
  rw [if_neg hno, pick_rev]
  first
    | exact wpAny_bind (m := Builtin.Tuple.tupleExact _) (wpAny_newObj_type (wpAny_pure ⟨_, rfl, wpAny_pure h⟩) htake)
    | exact wpAny_bind (m := Builtin.Tuple.tupleExact _) (wpAny_newObj_type (wpAny_bind (wpAny_pure (wpAny_pure ⟨_, rfl, wpAny_pure h⟩))) htake)
    | exact wpAny_bind (wpAny_bind (m := Builtin.Tuple.tupleExact _) (wpAny_newObj_type (wpAny_pure (wpAny_pure ⟨_, rfl, wpAny_pure h⟩)) htake))
    | exact wpAny_bind (wpAny_bind (m := Builtin.Tuple.tupleExact _) (wpAny_newObj_type (wpAny_pure ⟨_, rfl, wpAny_pure h⟩) htake))
end
section
variable {X : Cx}
def tRevT (K : PySem.W.Frag) (te : TE) : TE := fun σ H Q => te σ H fun x H1 => ∃ a xs, x = .ref a ∧ SqT K H1 a xs ∧ ∀ p, H1 p = none → Q (.ref p) (upd H1 p (.tup xs.reverse))
theorem pe_revT {e : Expr} {te : TE} {k : Nat} {p1 p2 p3 pos : Pos} (he : PE X e te) : PE X (.Subscript e (.Slice none none (some (.UnaryOp .USub (.Constant (.int 1) k p1) p2)) p3) pos) (tRevT X.K te) := by
  refine ⟨fun pins s σ H Q I h => ?_⟩
  refine Subscript_ (thn (he.run pins s σ H _ I h) fun v s1 ⟨x, H1, I1, r1, q1⟩ => ?_)
  obtain ⟨a, xs, ex, hx, q⟩ := q1
  subst ex
  cases r1
  have hst : PO X (some (.UnaryOp .USub (.Constant (.int 1) k p1) p2)) (tPart (tUn (rU fun i => .int (-i)) (tC (.int 1)))) := po_some (pe_un un_neg pe_int)
  refine wpAny_Slice (thn (po_none.run pins s1 σ H1 (fun o H2 => o = none ∧ H2 = H1) I1 ⟨rfl, rfl⟩) fun vl s2 ⟨l, H2, I2, pl, el, e2⟩ => ?_)
  subst el e2
  refine thn (po_none.run pins s2 σ H2 (fun o H3 => o = none ∧ H3 = H2) I2 ⟨rfl, rfl⟩) fun vu s3 ⟨u, H3, I3, pu, eu, e3⟩ => ?_
  subst eu e3
  refine thn (hst.run pins s3 σ H3 (fun o H4 => o = some (-1) ∧ H4 = H3) I3 ⟨1, rfl, -1, rfl, rfl, rfl⟩) fun vs s4 ⟨o, H4, I4, ps, eo, e4⟩ => ?_
  subst eo e4
  have I5 : Inv X pins σ H4 { s4 with heap := s4.heap.push { cls := .type "slice", data := .fields #[vl, vu, vs] } } := I4.kept (t' := s4.toks) fun b ob q => Heap.get?_push_of_some _ q
  obtain ⟨its, r, ht, hz⟩ := I5.tuple hx
  have hlen := r.length
  show wpAny (model X.prog X.w) X.A (subscriptTail e (.Slice none none (some (.UnaryOp .USub (.Constant (.int 1) k p1) p2)) p3) (.ref a) (.ref s4.heap.objs.size)) (EP X pins σ Q) X.xe { s4 with heap := s4.heap.push { cls := .type "slice", data := .fields #[vl, vu, vs] } }
  cases pl
  cases pu
  cases ps with
  | int i t =>
    refine tail_any (ops := [.ref a, .ref s4.heap.objs.size]) ht.typeIs (PyProof.Rows.slot_tuple_getitem.lookup) ?_ (by with_unfolding_all rfl)
    refine getItem_tuple_rev ht (Heap.IsSliceOf.new _ .none .none (.int (-1) t)) ?_ (by rw [List.size_toArray]; omega)
    refine ⟨.ref _, _, I5.laid (t' := s4.toks) (o := .tup xs.reverse) (fun b ob q => Heap.get?_push_of_some _ q) (Nat.le_refl _) ?_, rfl, q _ (I5.hok.fresh (Nat.le_refl _))⟩
    exact ⟨by rw [List.length_reverse]; exact hz, _, r.reverse, IsTup.new _ _⟩
end
/-! ### enumerate(t), t a tuple -/
def IteT (K : PySem.W.Frag) (a : Addr) : It :=
  ⟨fun i H => ∃ (xs : List V) (x : V), SqT K H a xs ∧ xs[i]? = some x, fun i H v H' => ∃ T x, v = .ref T ∧ H T = none ∧ H' = upd H T (.tup [.int (i : Nat), x]) ∧ ∀ xs, SqT K H a xs → xs[i]? = some x, fun i H => ∃ xs : List V, SqT K H a xs ∧ i = xs.length⟩
theorem turn_enumT {P : Program} {w : World} {K : PySem.W.Frag} {elts : List Expr} {kk : Nat} {tpos : Pos} (a e it : Addr) (hai : a ≠ it) :
    Turn P w K (.Tuple elts kk tpos) (IteT K a) [e, it] e (fun i h => (∃ old, IsEnum h e it ((i : Nat) : Int) old) ∧ h.IsTupleIter it a i ∧ e ≠ it ∧ e ≠ a) where
  mem := by simp
  obj := fun i h st b hb => by
    obtain ⟨⟨old, he⟩, ⟨o, ho, hc, hd⟩, _⟩ := st
    have e' : b = e ∨ b = it := by simpa using hb
    rcases e' with z | z
    · rw [z]; exact ⟨_, he, fun v q => nomatch q⟩
    · rw [z]; exact ⟨o, ho, fun v q => by rw [hd] at q; cases q⟩
  keep := fun i h h' st k => let ⟨⟨old, he⟩, hi, hne⟩ := st; ⟨⟨old, k e (by simp) _ he⟩, hi.at fun o q => k it (by simp) o q, hne⟩
  item := by
    intro X hP hw hK hc i pins s σ H E I hf st hg
    subst hP hw hK
    obtain ⟨⟨old, he⟩, hit, hne, hnea⟩ := st
    obtain ⟨xs, x, hq, hx⟩ := hg
    obtain ⟨its, rv, p, hz⟩ := I.tuple hq
    obtain ⟨u, hu, ru⟩ := rv.get hx
    have hel : e < s.heap.objs.size := Heap.lt_size he
    have hil : it < s.heap.objs.size := by obtain ⟨_, q, _⟩ := hit; exact Heap.lt_size q
    have hlt : i < its.toArray.size := by
      rw [List.size_toArray]
      exact (List.getElem?_eq_some_iff.mp hu).1
    have p' : s.heap.IsTuple a its.toArray := p
    have D := Draws.tuple (prog := X.prog) (w := X.w) (A := X.A.in1) (I.ok.hd hc) it a hai its.toArray
    refine wpAny_pyNext_enum_itemD D he ⟨hit, p'⟩ hlt hne (by simp [hne, hnea]) fun u' h' tk hP' ho st' hT hsz hk => ?_
    have hu2 : u' = u := by
      have : its.toArray[i]? = some u' := hP'
      rw [show its.toArray[i]? = its[i]? by simp] at this
      rw [hu] at this
      exact (Option.some.inj this).symm
    subst hu2
    have hit' := st'.1
    refine ⟨_, rfl, wpAny_letOwnedTupleGo_enum (s := { s with heap := h', toks := tk + 1 }) ho fun h'' he' sb => ?_⟩
    have hT2 : h''.get? s.heap.objs.size = some { cls := .type "tuple", data := .seq #[.int i tk, u'] } := (sb.2 _ (Nat.ne_of_gt hel)).trans hT
    have new : ObjOk X.prog X.w (upd H s.heap.objs.size (.tup [.int (i : Nat), x])) h'' s.heap.objs.size (.tup [.int (i : Nat), x]) :=
      ⟨by show 2 ≤ sizeLine; decide, [.int i tk, u'], .cons ⟨_, rfl⟩ (.cons ru .nil), ⟨_, hT2, rfl, _, rfl⟩⟩
    have I1 : Inv X pins σ (upd H s.heap.objs.size (.tup [.int (i : Nat), x])) { s with heap := h'', toks := tk + 1 } :=
      I.turnedNew (ch := [e, it]) (fun b ob hb q => (sb.2 b (fun z => hb (by simp [z]))).trans (hk b ob (fun z => hb (by simp [z])) (fun z => hb (by simp [z])) q)) hf (Nat.le_refl _) new
    refine ⟨.ref s.heap.objs.size, _, I1, rfl, ⟨_, x, rfl, I.hok.fresh (Nat.le_refl _), rfl, fun ys hy => by rw [I.tuple_inj hy hq]; exact hx⟩, ⟨⟨u', ?_⟩, hit'.at fun o q => (sb.2 it (Ne.symm hne)).trans q, hne, hnea⟩, fun b hb => ?_⟩
    · have e1 : ((i + 1 : Nat) : Int) = (i : Int) + 1 := by omega
      rw [e1]; exact he'
    · have hb' : b < s.heap.objs.size := by
        have e' : b = e ∨ b = it := by simpa using hb
        rcases e' with z | z
        · rw [z]; exact hel
        · rw [z]; exact hil
      rw [upd_ne (Nat.ne_of_lt hb')]
      exact (hf b hb).1
  done := by
    intro X hP hw hK hc i pins s σ H E I hf st hg
    subst hP hw hK
    obtain ⟨⟨old, he⟩, hit, hne, hnea⟩ := st
    obtain ⟨xs, hq, hx⟩ := hg
    obtain ⟨its, rv, p, hz⟩ := I.tuple hq
    obtain ⟨f0, f1, f2, f3, f4, f5⟩ := hf it (by simp)
    have hl := rv.length
    have p' : s.heap.IsTuple a its.toArray := p
    have D := Draws.tuple (prog := X.prog) (w := X.w) (A := X.A.in1) (I.ok.hd hc) it a hai its.toArray
    have hi : i = its.toArray.size := by rw [List.size_toArray]; omega
    rw [hi] at hit
    exact wpAny_pyNext_enum_endD D he ⟨hit, p'⟩ fun h' eb => ⟨rfl, I.turned (t' := s.toks) (fun b o hb q => eb b o hb q) f0 f1 f3 f4 f5⟩
  self := fun A i s Q E st h => let ⟨⟨_, he⟩, _⟩ := st; wpAny_pyIter_enum he h
def iEnumT (K : PySem.W.Frag) (ta : TA) : TI := fun σ H R => ta σ H fun vs H1 => ∃ a xs, vs = [.ref a] ∧ SqT K H1 a xs ∧ R (IteT K a) H1
theorem meets_enumerate_newT (t : Addr) (items : Array Value) :
    Meets (Builtin.«enumerate.__new__» ⟨[.type "enumerate", .ref t], []⟩) (fun _ R s => s.heap.IsTuple t items ∧
      R (.ok (.ret (.ref (s.heap.push { cls := .type "tuple_iterator", data := .fields #[.ref t, .int 0 0] }).objs.size)))
        { s with heap := (s.heap.push { cls := .type "tuple_iterator", data := .fields #[.ref t, .int 0 0] }).push { cls := .type "enumerate", data := .fields #[.none, .bool false, .ref s.heap.objs.size, rawInt 0, .none, .none] } }) :=
  .of_wp fun prog w A R s h => by
    obtain ⟨hp, g, d, tk, os⟩ := s
    obtain ⟨hL, h⟩ := h
    have hsub := sub_enumerate
    have q1 : ∀ {A' : Around} {E : Value → Shared → Prop} {Q : Value → Shared → Prop}, Q (.ref hp.objs.size) ⟨hp.push { cls := .type "tuple_iterator", data := .fields #[.ref t, .int 0 0] }, g, d, tk, os⟩ → wpAny (model prog w) A' (pyIter (.ref t)) Q E ⟨hp, g, d, tk, os⟩ :=
      fun q => wpAny_pyIter_tuple hL q
    wp_walk using q1
    refine wpAny_stack_any fun st => wpAny_pure ?_
    split
    · rename_i c _ _ _ _ _
      cases (c == Value.type "enumerate")
      · wp_walk using q1
        exact ⟨_, rfl, h⟩
      · wp_walk using q1
        exact ⟨_, rfl, h⟩
    · wp_walk using q1
      exact ⟨_, rfl, h⟩
theorem call_enumerate_tuple {prog : Program} {w : World} {A : Around} {E : Value → Shared → Prop} {s : Shared} {t : Addr} {items : Array Value} {Q : Value → Shared → Prop} (ht : s.heap.IsTuple t items)
    (h : ∀ h', IsEnum h' (s.heap.objs.size + 1) s.heap.objs.size 0 .none → h'.IsTupleIter s.heap.objs.size t 0 → h'.objs.size = s.heap.objs.size + 2 →
      (∀ b o, s.heap.get? b = some o → h'.get? b = some o) → Q (.ref (s.heap.objs.size + 1)) { s with heap := h' }) :
    wpAny (model prog w) A (call (.type "enumerate") [.ref t]) Q E s := by
  refine callType_new F.called_enumerate (by decide) (F.typeCall_enumerate_1 _) (F.newCall_enumerate_1 _) (fun obj => F.args_object_init_2 obj _) F.entry_enumerate_new
    (meets_enumerate_newT t items) ⟨ht, ?_⟩
  have hz : (s.heap.push { cls := .type "tuple_iterator", data := .fields #[.ref t, .int 0 0] }).objs.size = s.heap.objs.size + 1 := Heap.size_push ..
  show _ ∧ _
  rw [hz]
  have he : IsEnum ((s.heap.push { cls := .type "tuple_iterator", data := .fields #[.ref t, .int 0 0] }).push
      { cls := .type "enumerate", data := .fields #[.none, .bool false, .ref s.heap.objs.size, rawInt 0, .none, .none] }) (s.heap.objs.size + 1) s.heap.objs.size 0 .none := by
    have := Heap.get?_push_size (s.heap.push { cls := .type "tuple_iterator", data := .fields #[.ref t, .int 0 0] }) (o := { cls := .type "enumerate", data := .fields #[.none, .bool false, .ref s.heap.objs.size, rawInt 0, .none, .none] }) rfl
    rw [hz] at this; exact this
  have hi : s.heap.push { cls := .type "tuple_iterator", data := .fields #[.ref t, .int 0 0] } |>.IsTupleIter s.heap.objs.size t 0 := ⟨_, Heap.get?_push_size _ rfl, rfl, rfl⟩
  refine ⟨⟨_, he, rfl⟩, h _ he (hi.at fun o e => Heap.get?_push_of_some _ e) (by rw [Heap.size_push, hz]) fun b o x => Heap.get?_push_of_some _ (Heap.get?_push_of_some _ x)⟩
theorem pi_enumT {X : Cx} {e : Expr} {ta : TA} {p pos tpos : Pos} {elts : List Expr} {kk : Nat} (hg : Gl X "enumerate") (hm : X.mg "enumerate" = none) (ha : PA X [e] ta) (hs : starEach [e] X.env = [(false, eval e X.env)] := by rfl) :
    PI X (.Tuple elts kk tpos) (.Call (.Name "enumerate" p) [e] [] pos) (iEnumT X.K ta) := by
  refine ⟨fun pins s σ H R I h => ?_⟩
  refine Call_ (ld_blt I hg hm boot_enumerate (PyProof.Rows.callWith_type1 (thn (ha.run pos pins s σ H _ I h) fun us s1 ⟨vs, H1, I1, r1, q1⟩ => ?_) hs rfl))
  obtain ⟨a, xs, ex, hq, q⟩ := q1
  subst ex
  cases r1 with
  | cons r rr =>
    cases rr
    cases r
    obtain ⟨its, rv, p', hz⟩ := I1.tuple hq
    have hlt : a < s1.heap.objs.size := p'.lt
    refine call_enumerate_tuple p' fun h' he hit hsz hk => wpAny_pyIter_enum he ?_
    have I2 : Inv X pins σ H1 { s1 with heap := h' } := I1.kept (t' := s1.toks) hk
    refine ⟨s1.heap.objs.size + 1, [s1.heap.objs.size + 1, s1.heap.objs.size], _, _, H1, rfl, I2, turn_enumT a (s1.heap.objs.size + 1) s1.heap.objs.size (Nat.ne_of_lt hlt), ⟨⟨.none, he⟩, hit, Nat.succ_ne_self _, Nat.ne_of_gt (Nat.lt_succ_of_lt hlt)⟩, fun b hb => ?_, q⟩
    have e' : b = s1.heap.objs.size + 1 ∨ b = s1.heap.objs.size := by simpa using hb
    have hle : s1.heap.objs.size ≤ b := by
      rcases e' with z | z
      · rw [z]; exact Nat.le_add_right _ _
      · rw [z]; exact Nat.le_refl _
    exact I1.fpOk hle (I1.hok.fresh hle)
theorem walk_enumT {K : PySem.W.Frag} {a : Addr} {xs : List V} : Walk (IteT K a) xs.length (fun H => SqT K H a xs) (YPair (fun i => some (.int (i : Nat))) (fun i => xs[i]?)) := by
  refine ⟨fun i _ hi q => ⟨xs, xs[i], q, by simp [hi]⟩, fun _ q => ⟨xs, q, rfl⟩, fun i H v H' _ q y => ?_⟩
  obtain ⟨T, x, h1, h2, h3, h4⟩ := y
  exact ⟨T, .int (i : Nat), x, h1, h2, h3, rfl, h4 xs q⟩
/-! ### sorted(t), t a tuple of ints -/
section
variable {prog : Program} {w : World} {A : Around} {E : Value → Shared → Prop} {s : Shared}
open SrtO in
theorem sorted_ordT {t : Addr} {vs : List Value} {ltv : Value → Value → Bool} {Q : Value → Shared → Prop} (O : SrtO.Swo ltv) (ht : IsTup s.heap t vs.toArray) (hz : vs.length ≤ sizeLine)
    (hS : 2 ≤ vs.length → ∀ (h₁ : Heap) (a : Addr), h₁.get? a = some (seqObj "list" vs.toArray 0) → (∀ b o, s.heap.get? b = some o → b ≠ a ∧ h₁.get? b = some o) → SrtO.SortableO prog w A.in1.in1 { s with heap := h₁ } a vs ltv)
    (h : ∀ (h' : Heap) (out : List Value), SrtO.Srtd ltv out → SrtO.Stb ltv out vs → (∀ b o, s.heap.get? b = some o → h'.get? b = some o) →
      Q (.ref h'.objs.size) { s with heap := sortedHeap (h'.push (seqObj "list" vs.toArray 0)) h'.objs.size vs out.toArray }) :
    wpAny (model prog w) A (call (.builtin "sorted") [.ref t]) Q E s := by
  obtain ⟨o, ho, hc, n, hd⟩ := id ht
  refine Calls.call_function_entry kind_sorted plain_sorted entry_sorted (args_sorted1 _) ?_
  unfold Builtin.«sorted»
  refine wpAny_bind (m := checkCount "sorted" 1 1 _) (wpAny_pure ?_)
  refine wpAny_bind (wpAny_collect_seq (hsz := by rw [List.size_toArray]; exact hz) t (.inr rfl) ho hc hd fun h' hk => ?_)
  refine wpAny_bind (wpAny_newList ?_ hz)
  have hoL : (h'.push (seqObj "list" vs.toArray 0)).get? h'.objs.size = some (seqObj "list" vs.toArray 0) := Heap.get?_push_size _ rfl
  have keep : ∀ b o, s.heap.get? b = some o → b ≠ h'.objs.size ∧ (h'.push (seqObj "list" vs.toArray 0)).get? b = some o := fun b o q =>
    ⟨Nat.ne_of_lt (Heap.lt_size (hk b o q)), Heap.get?_push_of_some _ (hk b o q)⟩
  show wpAny _ _ _ _ _ { s with heap := h'.push (seqObj "list" vs.toArray 0) }
  refine wpAny_bind (wpAny_holding (wpAny_call_entry slot_list_sort ⟨_, hoL, rfl⟩ entry_list_sort (SrtO.list_sort_ord O hoL hz (fun h2 => hS h2 _ _ hoL keep) fun out hs hb => ⟨_, rfl, ?_⟩) (args_list_sort _)))
  exact wpAny_pure ⟨_, rfl, h h' out hs hb hk⟩
end
section
variable {X : Cx}
def rSortedTI (K : PySem.W.Frag) : List V → Hp → VK → Prop := fun vs H Q => ∃ (a : Addr) (ns : List Int), vs = [V.ref a] ∧ SqT K H a (ns.map V.int) ∧
  ∀ (ns' : List Int) (p : Addr), ns'.Perm ns → ns'.Pairwise (· ≤ ·) → H p = none → Q (.ref p) (upd H p (.lst (ns'.map V.int)))
theorem cr_sortedTI : CallR X (.builtin "sorted") (rSortedTI X.K) := by
  intro pins s σ H vs us Q I r h
  obtain ⟨a, ns, rfl, hs, q⟩ := h
  obtain ⟨its, rv, hl, hz⟩ := I.tuple hs
  rw [Vals.ref1 r]
  have hi := rv.ints
  refine sorted_ordT SrtO.swo_int hl (by rw [← rv.length]; exact hz) (fun h2 h₁ a' _ _ => SrtO.ints_sortable hi h2) fun h' out h1 h2 hk => ?_
  obtain ⟨k1, k2, k3⟩ := SrtO.ints_out hi h1 h2
  obtain ⟨ep, he'⟩ := PyProof.Rows.sortedHeap_at (h := h'.push (seqObj "list" its.toArray 0)) (a := h'.objs.size) (vs := its) (out := out.toArray) (Heap.get?_push_size _ rfl)
  have hlen : ((out.map SrtO.iv).map V.int).length ≤ sizeLine := by
    rw [List.length_map, k2.length_eq]
    rw [List.length_map] at hz
    exact hz
  have I1 : Inv X pins σ H { s with heap := h' } := I.kept (t' := s.toks) hk
  refine ⟨.ref _, upd H h'.objs.size (.lst ((out.map SrtO.iv).map V.int)), I1.laid (t' := s.toks) (fun b ob e => ?_) (Nat.le_refl _) ⟨hlen, out, ep, vals_of_ints k1, he'⟩, rfl, q _ _ k2 k3 (I1.hok.fresh (Nat.le_refl _))⟩
  have hb : b < h'.objs.size := Heap.lt_size e
  rw [sortedHeap_old (Nat.ne_of_lt hb) (by rw [Heap.size_push]; exact Nat.lt_succ_of_lt hb)]
  exact Heap.get?_push_of_some _ e
end
/-! ### t * k, any small k from 0 on -/
section
variable {X : Cx}
theorem tuple_mul1 (l : Addr) (items : Array Value) (n : Nat) (dd : Option Addr) (sl : Array (Option Value)) (u : Tok) :
    Meets (Builtin.«tuple.__mul__» ⟨[.ref l, .int 1 u], []⟩) (fun _ R s => s.heap.get? l = some { cls := .type "tuple", dict := dd, data := .seq items n, slots := sl } ∧
      R (.ok (.ret (Value.ref l))) s) :=
  .of_wp fun prog w A R s h => by
    obtain ⟨hp, g, d, tk, os⟩ := s
    obtain ⟨hl, h⟩ := h
    have f1 := AutoSeq1.idx_int
    wp_walk using wpAny_loadPart' hl
    exact ⟨_, rfl, h⟩
theorem tuple_mul0 (l : Addr) (items : Array Value) (n : Nat) (dd : Option Addr) (sl : Array (Option Value)) (u : Tok) (c1 : items.isEmpty = false) :
    Meets (Builtin.«tuple.__mul__» ⟨[.ref l, .int 0 u], []⟩) (fun _ R s => s.heap.get? l = some { cls := .type "tuple", dict := dd, data := .seq items n, slots := sl } ∧
      R (.ok (.ret (Value.ref s.heap.objs.size))) { s with heap := s.heap.push { cls := Value.type "tuple", data := Data.seq #[] } }) :=
  .of_wp fun prog w A R s h => by
    obtain ⟨hp, g, d, tk, os⟩ := s
    obtain ⟨hl, h⟩ := h
    have f1 := AutoSeq1.idx_int
    wp_walk using wpAny_loadPart' hl
    repeat (first
      | (refine wpAny_ite_false (decide_eq_false (by rw [c1]; decide)) ?_; wp_walk using wpAny_loadPart' hl)
      | (refine wpAny_ite_true (decide_eq_true (by rw [c1]; decide)) ?_; wp_walk using wpAny_loadPart' hl))
    exact ⟨_, rfl, h⟩
def rRepA (K : PySem.W.Frag) : R2 := fun x y H Q => ∃ l k xs, x = .ref l ∧ y = .int k ∧ SqT K H l xs ∧ xs ≠ [] ∧ 0 ≤ k ∧ k ≤ 1000 ∧ xs.length ≤ 1000 ∧
  (k = 1 → Q (.ref l) H) ∧ (k ≠ 1 → ∀ p, H p = none → Q (.ref p) (upd H p (.tup (List.replicate k.toNat xs).flatten)))
theorem op_repA : OpR X (binaryOp .Mult) (rRepA X.K) := by
  intro pins s σ H x y v u Q I rx ry h
  obtain ⟨l, k, xs, rfl, rfl, hT, hne, h1, h2, hz, q1, q2⟩ := h
  by_cases hk : 2 ≤ k
  · exact op_repT pins s σ H _ _ v u Q I rx ry ⟨l, k, xs, rfl, rfl, hT, hne, hk, h2, hz, q2 (by omega)⟩
  cases rx
  obtain ⟨t, rfl⟩ := ry
  obtain ⟨its, r, ⟨⟨cls, dd, data, sl⟩, ho, hc, n, hd⟩, hs⟩ := I.tuple hT
  simp only at hc hd
  subst hc hd
  have hle : its.length = xs.length := r.length.symm
  have hn : its ≠ [] := fun e => hne (by
    rw [e] at hle
    exact List.eq_nil_of_length_eq_zero hle.symm)
  have hi : its.toArray.isEmpty = false := by
    cases its with
    | nil => exact absurd rfl hn
    | cons a b => rfl
  rcases (show k = 0 ∨ k = 1 by omega) with rfl | rfl
  · refine wpAny_binaryOp_repeat_ref (T := "tuple") (U := "int") (by decide) ⟨_, ho, rfl⟩ (fun s' => typeIs_int s' 0 t) noFill_tuple_mul F.fills_int_mul F.slot_int_rmul repeat_tuple F.slot_int_index.lookup
      (call_meets F.slot_int_rmul (typeIs_int s 0 t) F.entry_int_rmul (F.args_int_rmul_2 _ _) (int_rmul_tuple 0 t l its.toArray n dd sl)
        ⟨ho, rfl, ⟨_, ho, rfl⟩, call_meets F.slot_tuple_mul ⟨_, ho, rfl⟩ F.entry_tuple_mul (F.args_tuple_mul_2 _ _) (tuple_mul0 l its.toArray n dd sl t hi) ⟨ho, ?_⟩⟩)
    refine ⟨.ref s.heap.objs.size, _, I.laid (t' := s.toks) (o := .tup (List.replicate (0 : Int).toNat xs).flatten) (fun b ob q => Heap.get?_push_of_some _ q) (Nat.le_refl _) ?_, rfl, q2 (by decide) _ (I.hok.fresh (Nat.le_refl _))⟩
    exact ⟨Nat.zero_le _, [], .nil, IsTup.new _ _⟩
  · refine wpAny_binaryOp_repeat_ref (T := "tuple") (U := "int") (by decide) ⟨_, ho, rfl⟩ (fun s' => typeIs_int s' 1 t) noFill_tuple_mul F.fills_int_mul F.slot_int_rmul repeat_tuple F.slot_int_index.lookup
      (call_meets F.slot_int_rmul (typeIs_int s 1 t) F.entry_int_rmul (F.args_int_rmul_2 _ _) (int_rmul_tuple 1 t l its.toArray n dd sl)
        ⟨ho, rfl, ⟨_, ho, rfl⟩, call_meets F.slot_tuple_mul ⟨_, ho, rfl⟩ F.entry_tuple_mul (F.args_tuple_mul_2 _ _) (tuple_mul1 l its.toArray n dd sl t) ⟨ho, ?_⟩⟩)
    exact ⟨.ref l, H, I, rfl, q1 rfl⟩
end
end TT

/-! what stands for data in the heap; short rules -/
namespace TT
open PySem L2
/-! ### what stays: every object but lists -/
def Keep (H H' : Hp) : Prop := ∀ b o, (∀ xs, o ≠ .lst xs) → H b = some o → H' b = some o
theorem Keep.refl (H : Hp) : Keep H H := fun _ _ _ h => h
theorem Keep.trans {H H1 H2 : Hp} (a : Keep H H1) (b : Keep H1 H2) : Keep H H2 := fun c o n h => b c o n (a c o n h)
theorem _root_.L2.Same.keep {H H' : Hp} (s : Same H H') : Keep H H' := fun b o _ h => s b o h
theorem Keep.tup {H H' : Hp} (k : Keep H H') {t : Addr} {xs : List V} (h : H t = some (.tup xs)) : H' t = some (.tup xs) := k t _ (fun _ q => nomatch q) h
theorem Keep.ins {H H' : Hp} (k : Keep H H') {t C dx : Addr} {xs : List (Str × V)} (h : H t = some (.ins C dx xs)) : H' t = some (.ins C dx xs) := k t _ (fun _ q => nomatch q) h
theorem same_new {H : Hp} {p : Addr} {o : HO} (h : H p = none) : Same H (upd H p o) := fun b u e => by rw [upd_ne (ne_of_none e h)]; exact e
theorem same_own {H0 H : Hp} {p : Addr} {o : HO} (s : Same H0 H) (h : H0 p = none) : Same H0 (upd H p o) := fun b u e => by rw [upd_ne (ne_of_none e h)]; exact s b u e
theorem keep_lst {H : Hp} {p : Addr} {xs : List V} {o : HO} (h : H p = some (.lst xs)) : Keep H (upd H p o) := fun b u n e => by
  have : b ≠ p := fun q => by subst q; rw [h] at e; cases e; exact n _ rfl
  rw [upd_ne this]; exact e
/-- all but the list at g -/
def But (g : Addr) (H H' : Hp) : Prop := ∀ b o, b ≠ g → H b = some o → H' b = some o
theorem But.refl (g : Addr) (H : Hp) : But g H H := fun _ _ _ h => h
theorem But.trans {g : Addr} {H H1 H2 : Hp} (a : But g H H1) (b : But g H1 H2) : But g H H2 := fun c o n h => b c o n (a c o n h)
theorem _root_.L2.Same.but {H H' : Hp} (s : Same H H') (g : Addr) : But g H H' := fun b o _ h => s b o h
theorem But.keep {g : Addr} {H H' : Hp} (k : But g H H') {ys : List V} (hg : H g = some (.lst ys)) : Keep H H' := fun b o n h => by
  by_cases e : b = g
  · subst e; rw [hg] at h; cases h; exact absurd rfl (n _)
  · exact k b o e h
theorem But.free {g : Addr} {H H' : Hp} (k : But g H H') {p : Addr} (hp : H' p = none) (h : p ≠ g) : H p = none := by
  cases q : H p with
  | none => rfl
  | some o => rw [k p o h q] at hp; cases hp
theorem but_upd {g : Addr} {H : Hp} {o : HO} : But g H (upd H g o) := fun b u n e => by rw [upd_ne n]; exact e
/-! ### data -/
abbrev Rp (α : Type) := Hp → V → α → Prop
def Mono {α : Type} (R : Rp α) : Prop := ∀ H H' v x, Keep H H' → R H v x → R H' v x
def rInt : Rp Int := fun _ v n => v = .int n
def rRow : Rp (List Int) := fun H v l => ∃ t, v = .ref t ∧ H t = some (.tup (l.map V.int))
def rPI : Rp (Int × Int) := fun H v p => ∃ t, v = .ref t ∧ H t = some (.tup [.int p.1, .int p.2])
def rTup {α : Type} (R : Rp α) : Rp (List α) := fun H v l => ∃ t xs, v = .ref t ∧ H t = some (.tup xs) ∧ Paired (R H) xs l
theorem mono_int : Mono rInt := fun _ _ _ _ _ h => h
theorem mono_row : Mono rRow := fun _ _ _ _ k ⟨t, e, h⟩ => ⟨t, e, k.tup h⟩
theorem mono_pi : Mono rPI := fun _ _ _ _ k ⟨t, e, h⟩ => ⟨t, e, k.tup h⟩
theorem paired_mono {α : Type} {R : Rp α} (m : Mono R) {H H' : Hp} (k : Keep H H') {xs : List V} {l : List α} (p : Paired (R H) xs l) : Paired (R H') xs l := Paired.mapP p fun _ _ h => m _ _ _ _ k h
theorem mono_tup {α : Type} {R : Rp α} (m : Mono R) : Mono (rTup R) := fun _ _ _ _ k ⟨t, xs, e, h, p⟩ => ⟨t, xs, e, k.tup h, paired_mono m k p⟩
theorem paired_len {α β : Type} {F : α → β → Prop} : ∀ {xs : List α} {l : List β}, Paired F xs l → xs.length = l.length := Paired.length
theorem paired_get2 {α β : Type} {F : α → β → Prop} : ∀ {xs : List α} {l : List β} {i : Nat} {y : β}, Paired F xs l → l[i]? = some y → ∃ x, xs[i]? = some x ∧ F x y
  | _, _, _, _, .nil, e => by simp at e
  | _, _, 0, _, .cons r _, e => by simp at e; subst e; exact ⟨_, rfl, r⟩
  | _, _, i + 1, x, .cons _ t, e => by
    obtain ⟨u, h1, h2⟩ := paired_get2 (i := i) (y := x) t (by simpa using e)
    exact ⟨u, by simpa using h1, h2⟩
theorem paired_int : ∀ {xs : List V} {l : List Int} {H : Hp}, Paired (rInt H) xs l → xs = l.map V.int
  | _, _, _, .nil => rfl
  | _, _, _, .cons r t => by cases r; rw [List.map_cons, paired_int t]
theorem paired_ints {H : Hp} : ∀ (l : List Int), Paired (rInt H) (l.map V.int) l
  | [] => .nil
  | _ :: r => .cons rfl (paired_ints r)
theorem paired_app {α β : Type} {F : α → β → Prop} : ∀ {xs : List α} {l : List β} {ys : List α} {m : List β}, Paired F xs l → Paired F ys m → Paired F (xs ++ ys) (l ++ m)
  | _, _, _, _, .nil, q => q
  | _, _, _, _, .cons r t, q => .cons r (paired_app t q)
theorem paired_perm {α β : Type} {F : α → β → Prop} : ∀ {ys xs : List α}, ys.Perm xs → ∀ {l : List β}, Paired F xs l → ∃ m, m.Perm l ∧ Paired F ys m := by
  intro ys xs h
  induction h with
  | nil => intro l p; cases p; exact ⟨[], .refl _, .nil⟩
  | cons x h ih => intro l p; cases p with | cons r t => obtain ⟨m, h1, h2⟩ := ih t; exact ⟨_ :: m, .cons _ h1, .cons r h2⟩
  | swap x y t => intro l p; cases p with | cons r1 p => cases p with | cons r2 p => exact ⟨_ :: _ :: _, .swap _ _ _, .cons r2 (.cons r1 p)⟩
  | trans h1 h2 ih1 ih2 => intro l p; obtain ⟨m, a, b⟩ := ih2 p; obtain ⟨m', c, d⟩ := ih1 b; exact ⟨m', c.trans a, d⟩
theorem seqt_row {K : PySem.W.Frag} {H : Hp} {t : Addr} {xs : List V} (h : H t = some (.tup xs)) : SqT K H t xs := .of h
theorem at_int {l : List Int} {i : Nat} {x : V} (h : (l.map V.int)[i]? = some x) : ∃ n, l[i]? = some n ∧ x = .int n := by
  rw [List.getElem?_map] at h
  cases e : l[i]? with
  | none => rw [e] at h; cases h
  | some n => rw [e] at h; exact ⟨n, rfl, (Option.some.inj h).symm⟩
theorem int_at {l : List Int} {i : Nat} {n : Int} (h : l[i]? = some n) : (l.map V.int)[i]? = some (.int n) := by rw [List.getElem?_map, h]; rfl
/-! ### short rules -/
section
variable {X : Cx}
theorem ty_int {p : Pos} (hm : X.mg "int" = none) (hg : Gl X "int" := by rfl) : PE X (.Name "int" p) (tC (.ty "int")) := pe_bltn hg hm (by decide +kernel) (u := .type "int") rfl
theorem ty_bool {p : Pos} (hm : X.mg "bool" = none) (hg : Gl X "bool" := by rfl) : PE X (.Name "bool" p) (tC (.ty "bool")) := pe_bltn hg hm (by decide +kernel) (u := .type "bool") rfl
theorem ty_tuple {p : Pos} (hm : X.mg "tuple" = none) (hg : Gl X "tuple" := by rfl) : PE X (.Name "tuple" p) (tC (.ty "tuple")) := pe_bltn hg hm (by decide +kernel) (u := .type "tuple") rfl
theorem ty_list {p : Pos} (hm : X.mg "list" = none) (hg : Gl X "list" := by rfl) : PE X (.Name "list" p) (tC (.ty "list")) := pe_bltn hg hm (by decide +kernel) (u := .type "list") rfl
end
section
variable {K : PySem.W.Frag}
theorem kit_ii : PySem.W.kitOne K (.type "int") (.type "int") = some true := kit_ty (by decide +kernel)
theorem kit_ib : PySem.W.kitOne K (.type "int") (.type "bool") = some false := kit_ty (by decide +kernel)
theorem kit_tt : PySem.W.kitOne K (.type "tuple") (.type "tuple") = some true := kit_ty (by decide +kernel)
end
/-! ### rules whose reading speaks of K, for the blocks of comprehensions -/
section
variable {X : Cx} {K : PySem.W.Frag}
theorem ixT (h : X.K = K) : IxR X (rIxT K) := h ▸ ix_tup
theorem ixL (h : X.K = K) : IxR X (rIxL K) := h ▸ ix_list
theorem inS (h : X.K = K) : OpR X (compareOp .In) (rIn K false) := h ▸ op_in_seq
theorem ninS (h : X.K = K) : OpR X (compareOp .NotIn) (rIn K true) := h ▸ op_notIn_seq
theorem lenS (h : X.K = K) : CallR X (.builtin "len") (fun xs H Q => ∃ p ys, xs = [.ref p] ∧ (SqL K H p ys ∨ SqT K H p ys) ∧ Q (.int ys.length) H) := h ▸ call_len_seq
theorem isiS (h : X.K = K) : CallR X (.builtin "isinstance") (rIsi K) := h ▸ call_isi
theorem piT {tg l : Expr} {tl : TE} (hh : X.K = K) (hl : PI X tg l (iTup X.K tl)) : PI X tg l (iTup K tl) := hh ▸ hl
theorem pgT {es : List Expr} {k : Nat} {t : TGs} {n : Nat} {pos : Pos} (hh : X.K = K) (hc : X.calm = true) (h : PGs X es t) (hn : (assignEach es X.env).length = n := by rfl) (hst : (assignEach es X.env).findIdx? (·.1) = none := by rfl) : PG X (.Tuple es k pos) (gTup K n t) := hh ▸ pg_tup hc h hn hst
theorem fldK {o : Expr} {ta : TE} {f : Str} {pos : Pos} (he : PE X o ta) (hh : X.K = K) (hb : attributeBase o f X.env (eval o X.env) = eval o X.env) : PE X (.Attribute o f pos) (tFld K ta f) := hh ▸ pe_fld he hb
theorem tupS (h : X.K = K) : CallR X (.type "tuple") (fun xs H Q => ∃ p ys, xs = [.ref p] ∧ ((SqL K H p ys ∧ ∀ l, H l = none → Q (.ref l) (upd H l (.tup ys))) ∨ (SqT K H p ys ∧ Q (.ref p) H))) := h ▸ call_tuple_of
end
/-! ### comprehensions -/
section
variable {J : It} {n : Nat} {G : Hp → Prop} {Y : Nat → Hp → V → Hp → Prop} {g : TG} {tt : TT} {te : TE} {vs : List Nat} {σ : St} {H1 : Hp} {D : Addr} {Qd : Hp → Prop} {α : Type}
theorem range_fm {f : Nat → Option α} {i : Nat} : (List.range (i + 1)).filterMap f = (List.range i).filterMap f ++ (f i).toList := by
  rw [List.range_succ, List.filterMap_append]
  congr 1
theorem fm_len {f : Nat → Option α} {i : Nat} : ((List.range i).filterMap f).length ≤ i := by
  have := List.length_filterMap_le f (List.range i)
  rw [List.length_range] at this
  exact this
/-- the list at D holds what f tells of the turns so far, all else stays -/
def PvFm (R : Rp α) (f : Nat → Option α) (D : Addr) (H1 : Hp) (i : Nat) (H : Hp) : Prop := Same H1 H ∧ ∃ xs, H D = some (.lst xs) ∧ Paired (R H) xs ((List.range i).filterMap f)
theorem fm_keep {R : Rp α} (m : Mono R) {f : Nat → Option α} {i : Nat} {H H4 : Hp} {y : V} {a : α} (p : PvFm R f D H1 i H) (hD : H1 D = none) (hi : i ≤ 100000) (s4 : Same H H4) (ea : f i = some a) (ra : R H4 y a) :
    ∃ acc, H4 D = some (.lst acc) ∧ acc.length < sizeLine ∧ PvFm R f D H1 (i + 1) (upd H4 D (.lst (acc ++ [y]))) := by
  obtain ⟨s, xs, h1, h2⟩ := p
  have hl : xs.length ≤ i := by rw [paired_len h2]; exact fm_len
  have hD4 : H4 D = some (.lst xs) := s4 _ _ h1
  have k5 : Keep H4 (upd H4 D (.lst (xs ++ [y]))) := keep_lst hD4
  refine ⟨xs, hD4, Nat.lt_of_le_of_lt (Nat.le_trans hl hi) (by decide), same_own (s.trans s4) hD, xs ++ [y], upd_same, ?_⟩
  rw [range_fm, ea]
  exact paired_app (paired_mono m k5 (paired_mono m s4.keep h2)) (.cons (m _ _ _ _ k5 ra) .nil)
theorem fm_skip {R : Rp α} (m : Mono R) {f : Nat → Option α} {i : Nat} {H H3 : Hp} (p : PvFm R f D H1 i H) (s3 : Same H H3) (e : f i = none) : PvFm R f D H1 (i + 1) H3 := by
  obtain ⟨s, xs, h1, h2⟩ := p
  refine ⟨s.trans s3, xs, s3 _ _ h1, ?_⟩
  rw [range_fm, e]
  simpa using paired_mono m s3.keep h2
/-- a comprehension that makes a list of what f tells, all else staying -/
theorem lc_fm (w : Walk J n G Y) (R : Rp α) (f : Nat → Option α) (hD : H1 D = none) (hG : ∀ H, Same H1 H → G H)
    (hs : ∀ i x H H', i < n → PvFm R f D H1 i H → Y i H x H' → g x (wipe σ vs) H' fun σ2 H2 => wipe σ2 vs = wipe σ vs ∧ tt σ2 H2 fun b H3 =>
      if b = true then te σ2 H3 fun y H4 => ∃ acc, H4 D = some (.lst acc) ∧ acc.length < sizeLine ∧ PvFm R f D H1 (i + 1) (upd H4 D (.lst (acc ++ [y]))) else PvFm R f D H1 (i + 1) H3)
    (hd : ∀ H xs, Same H1 H → H D = some (.lst xs) → Paired (R H) xs ((List.range n).filterMap f) → Qd H) :
    ∃ W : Nat → Nat → Hp → Prop, (∃ m, W 0 m (upd H1 D (.lst []))) ∧ ∀ i m H, W i m H →
      (J.stop i H ∧ Qd H) ∨ (J.go i H ∧ ∃ Nx : Hp → Prop, (∀ H', Nx H' → ∃ m', m' < m ∧ W (i + 1) m' H') ∧ ∀ x H', J.yld i H x H' → g x (wipe σ vs) H' fun σ2 H2 => wipe σ2 vs = wipe σ vs ∧ tt σ2 H2 fun b H3 =>
        if b = true then te σ2 H3 fun y H4 => ∃ acc, H4 D = some (.lst acc) ∧ acc.length < sizeLine ∧ Nx (upd H4 D (.lst (acc ++ [y]))) else Nx H3) :=
  lc_it w (PvFm R f D H1) ⟨same_new hD, [], upd_same, .nil⟩ (fun i H _ h => hG H h.1) hs (fun H ⟨s, xs, h1, h2⟩ => hd H xs s h1 h2)
theorem fm_all {β : Type} (h : Nat → β) : ∀ n : Nat, (List.range n).filterMap (fun i => some (h i)) = (List.range n).map h := fun n => by rw [List.filterMap_eq_map']
theorem fm_list {β : Type} (l : List α) (h : α → Option β) : (List.range l.length).filterMap (fun i => l[i]?.bind h) = l.filterMap h := by
  have e : ∀ (m : Nat), m ≤ l.length → (List.range m).filterMap (fun i => l[i]?.bind h) = (l.take m).filterMap h := by
    intro m
    induction m with
    | zero => intro _; rfl
    | succ m ih =>
      intro hm
      rw [range_fm, ih (by omega), List.take_succ, List.filterMap_append]
      congr 1
      have hl : l[m]? = some l[m] := List.getElem?_eq_getElem (by omega)
      rw [hl]
      show (h l[m]).toList = List.filterMap h [l[m]]
      rw [List.filterMap_cons]
      cases h l[m] <;> rfl
  have := e l.length (Nat.le_refl _)
  rwa [List.take_length] at this
end
/-! ### sorted(a list of pairs of ints), by what the pairs are -/
def lxLt (a b : Int × Int) : Prop := a.1 < b.1 ∨ (a.1 = b.1 ∧ a.2 < b.2)
instance (a b : Int × Int) : Decidable (lxLt a b) := by unfold lxLt; infer_instance
def lxLe (a b : Int × Int) : Prop := ¬ lxLt b a
noncomputable def kOf (H : Hp) (v : V) : Int × Int := open Classical in if h : ∃ z, rPI H v z then h.choose else (0, 0)
theorem kOf_eq {H : Hp} {v : V} {z : Int × Int} (h : rPI H v z) : kOf H v = z := by
  have hx : ∃ z, rPI H v z := ⟨z, h⟩
  have e : kOf H v = hx.choose := by unfold kOf; rw [dif_pos hx]
  rw [e]
  obtain ⟨t, e1, h1⟩ := hx.choose_spec
  obtain ⟨t', e2, h2⟩ := h
  rw [e1] at e2
  cases e2
  rw [h1] at h2
  have h3 := Option.some.inj h2
  injection h3 with h3
  injection h3 with a b
  injection b with b _
  exact Prod.ext (V.int.inj a) (V.int.inj b)
theorem kOf_map {H : Hp} : ∀ {xs : List V} {l : List (Int × Int)}, Paired (rPI H) xs l → xs.map (kOf H) = l
  | _, _, .nil => rfl
  | _, _, .cons r t => by rw [List.map_cons, kOf_eq r, kOf_map t]
theorem paired_kOf {H : Hp} : ∀ {ys : List V}, (∀ y ∈ ys, rPI H y (kOf H y)) → Paired (rPI H) ys (ys.map (kOf H))
  | [], _ => .nil
  | y :: ys, h => .cons (h y (by simp)) (paired_kOf fun z hz => h z (by simp [hz]))
theorem paired_mem {α β : Type} {F : α → β → Prop} : ∀ {xs : List α} {l : List β} {x : α}, Paired F xs l → x ∈ xs → ∃ y ∈ l, F x y
  | _, _, _, .nil, h => by simp at h
  | _, _, _, .cons r t, h => by
    rcases List.mem_cons.mp h with rfl | h
    · exact ⟨_, by simp, r⟩
    · obtain ⟨y, hy, f⟩ := paired_mem t h
      exact ⟨y, by simp [hy], f⟩
def rSortedPD (K : PySem.W.Frag) : List V → Hp → VK → Prop := fun vs H Q => ∃ (a : Addr) (xs : List V) (l : List (Int × Int)), vs = [V.ref a] ∧ SqL K H a xs ∧ Paired (rPI H) xs l ∧
  ∀ ys m p, Paired (rPI H) ys m → m.Perm l → m.Pairwise lxLe → H p = none → Q (.ref p) (upd H p (.lst ys))
theorem cr_sortedPD {X : Cx} : CallR X (.builtin "sorted") (rSortedPD X.K) := by
  intro pins s σ H vs us Q I r h
  obtain ⟨a, xs, l, rfl, hs, hp, q⟩ := h
  refine cr_sortedPO pins s σ H _ us Q I r ⟨a, xs, kOf H, rfl, hs, fun x hx => ?_, fun ys p h1 h2 np => ?_⟩
  · obtain ⟨z, _, hz⟩ := paired_mem hp hx
    rw [kOf_eq hz]
    exact hz
  · refine q ys (ys.map (kOf H)) p (paired_kOf fun y hy => ?_) ?_ ?_ np
    · obtain ⟨z, _, hz⟩ := paired_mem hp (h2.perm.mem_iff.mp hy)
      rw [kOf_eq hz]
      exact hz
    · rw [← kOf_map hp]
      exact h2.perm.map _
    · rw [List.pairwise_map]
      exact h1.imp fun {a b} h q => by
        have := SrtO.lexB_iff.mpr q
        rw [show ltP (kOf H) b a = true from this] at h
        cases h
theorem lxLt_tri (a b : Int × Int) : lxLt a b ∨ a = b ∨ lxLt b a := by
  unfold lxLt
  by_cases h1 : a.1 = b.1
  · by_cases h2 : a.2 = b.2
    · exact .inr (.inl (Prod.ext h1 h2))
    · omega
  · omega
theorem lxLe_antisymm {a b : Int × Int} (h1 : lxLe a b) (h2 : lxLe b a) : a = b := by
  rcases lxLt_tri a b with h | h | h
  · exact absurd h h2
  · exact h
  · exact absurd h h1
theorem lxLe_trans {a b c : Int × Int} (h1 : lxLe a b) (h2 : lxLe b c) : lxLe a c := by
  unfold lxLe lxLt at *
  omega
/-- two ascending lists of the same pairs are one -/
theorem lex_same : ∀ {l m : List (Int × Int)}, l.Perm m → l.Pairwise lxLe → m.Pairwise lxLe → l = m := fun {l m} h h1 h2 =>
  h.eq_of_pairwise (fun a b _ _ p q => lxLe_antisymm p q) h1 h2
theorem up_same : ∀ {l m : List Int}, l.Perm m → l.Pairwise (· ≤ ·) → m.Pairwise (· ≤ ·) → l = m := fun {l m} h h1 h2 =>
  h.eq_of_pairwise (fun a b _ _ p q => Int.le_antisymm p q) h1 h2
/-- ascending, none twice -/
theorem lex_strict {l : List (Int × Int)} (h1 : l.Pairwise lxLe) (h2 : l.Nodup) : l.Pairwise lxLt := by
  have := List.pairwise_and_iff.mpr ⟨h1, h2⟩
  exact this.imp fun {a b} ⟨p, q⟩ => by
    rcases lxLt_tri a b with h | h | h
    · exact h
    · exact absurd h q
    · exact absurd h p
/-! ### a walk, whatever its turn asks; comprehensions with two loops -/
section
variable {J : It} {n : Nat} {G : Hp → Prop} {Y : Nat → Hp → V → Hp → Prop} {H0 H1 : Hp} {D : Addr} {Qd : Hp → Prop} {α : Type}
theorem walk_W (w : Walk J n G Y) (B : (Hp → Prop) → V → Hp → Prop) (Pv : Nat → Hp → Prop) (h0 : Pv 0 H0) (hG : ∀ i H, i ≤ n → Pv i H → G H)
    (hs : ∀ i x H H', i < n → Pv i H → Y i H x H' → B (Pv (i + 1)) x H') (hd : ∀ H, Pv n H → Qd H) :
    ∃ W : Nat → Nat → Hp → Prop, (∃ m, W 0 m H0) ∧ ∀ i m H, W i m H →
      (J.stop i H ∧ Qd H) ∨ (J.go i H ∧ ∃ Nx : Hp → Prop, (∀ H', Nx H' → ∃ m', m' < m ∧ W (i + 1) m' H') ∧ ∀ x H', J.yld i H x H' → B Nx x H') := by
  refine ⟨fun i m H => m = n - i ∧ i ≤ n ∧ Pv i H, ⟨n, by simp, Nat.zero_le _, h0⟩, ?_⟩
  rintro i m H ⟨rfl, hi, p⟩
  have q := hG i H hi p
  by_cases hlt : i < n
  · exact .inr ⟨w.goes i H hlt q, Pv (i + 1), fun H' p' => ⟨n - (i + 1), by omega, rfl, hlt, p'⟩, fun x H' y => hs i x H H' hlt p (w.yields i H x H' hlt q y)⟩
  · have e : i = n := by omega
    subst e
    exact .inl ⟨w.stops H q, hd H p⟩
/-- the list at D holds what the turns of the outer loop have told -/
def PvFl (R : Rp α) (F : Nat → List α) (D : Addr) (H1 : Hp) (i : Nat) (H : Hp) : Prop := Same H1 H ∧ ∃ xs, H D = some (.lst xs) ∧ Paired (R H) xs ((List.range i).flatMap F)
/-- within a turn: the first j of l have come -/
def PvIn (R : Rp α) (pre l : List α) (D : Addr) (H1 Hb : Hp) (j : Nat) (H : Hp) : Prop := Same H1 H ∧ Keep Hb H ∧ ∃ xs, H D = some (.lst xs) ∧ Paired (R H) xs (pre ++ l.take j)
theorem fl_start {R : Rp α} {F : Nat → List α} (hD : H1 D = none) : PvFl R F D H1 0 (upd H1 D (.lst [])) := ⟨same_new hD, [], upd_same, .nil⟩
theorem fl_in {R : Rp α} (m : Mono R) {F : Nat → List α} {i : Nat} {H H4 : Hp} (p : PvFl R F D H1 i H) (s : Same H H4) : PvIn R ((List.range i).flatMap F) (F i) D H1 H4 0 H4 := by
  obtain ⟨s1, xs, h1, h2⟩ := p
  refine ⟨s1.trans s, .refl _, xs, s _ _ h1, ?_⟩
  rw [List.take_zero, List.append_nil]
  exact paired_mono m s.keep h2
theorem in_keep {R : Rp α} (m : Mono R) {pre l : List α} {j : Nat} {H H4 Hb : Hp} {y : V} {a : α} (p : PvIn R pre l D H1 Hb j H) (hD : H1 D = none) (hz : pre.length + j ≤ 100000) (s4 : Same H H4) (ea : l[j]? = some a) (ra : R H4 y a) :
    ∃ acc, H4 D = some (.lst acc) ∧ acc.length < sizeLine ∧ PvIn R pre l D H1 Hb (j + 1) (upd H4 D (.lst (acc ++ [y]))) := by
  obtain ⟨s, kb, xs, h1, h2⟩ := p
  have hl : xs.length ≤ pre.length + j := by rw [paired_len h2, List.length_append, List.length_take]; omega
  have hD4 : H4 D = some (.lst xs) := s4 _ _ h1
  have k5 : Keep H4 (upd H4 D (.lst (xs ++ [y]))) := keep_lst hD4
  refine ⟨xs, hD4, Nat.lt_of_le_of_lt (Nat.le_trans hl hz) (by decide), same_own (s.trans s4) hD, (kb.trans s4.keep).trans k5, xs ++ [y], upd_same, ?_⟩
  rw [List.take_succ, ea, ← List.append_assoc]
  exact paired_app (paired_mono m k5 (paired_mono m s4.keep h2)) (.cons (m _ _ _ _ k5 ra) .nil)
theorem in_fl {R : Rp α} {F : Nat → List α} {i n : Nat} {H Hb : Hp} (hn : n = (F i).length) (p : PvIn R ((List.range i).flatMap F) (F i) D H1 Hb n H) : PvFl R F D H1 (i + 1) H := by
  obtain ⟨s, _, xs, h1, h2⟩ := p
  refine ⟨s, xs, h1, ?_⟩
  rw [hn, List.take_length] at h2
  rw [List.range_succ, List.flatMap_append, List.flatMap_singleton]
  exact h2
theorem fl_list {β : Type} (l : List β) (h : β → List α) : (List.range l.length).flatMap (fun i => (l[i]?.map h).getD []) = l.flatMap h := by
  have e : ∀ (m : Nat), m ≤ l.length → (List.range m).flatMap (fun i => (l[i]?.map h).getD []) = (l.take m).flatMap h := by
    intro m
    induction m with
    | zero => intro _; rfl
    | succ m ih =>
      intro hm
      have hl : l[m]? = some l[m] := List.getElem?_eq_getElem (by omega)
      rw [List.range_succ, List.flatMap_append, ih (by omega), List.take_succ, List.flatMap_append, hl, List.flatMap_singleton, hl]
      simp
  have := e l.length (Nat.le_refl _)
  rwa [List.take_length] at this
end
theorem rgV_int (a b : Int) : rgV a b = ((List.range (b - a).toNat).map fun (i : Nat) => a + (i : Int)).map V.int := by
  unfold rgV
  rw [List.map_map]
  rfl
theorem cutV_upto (xs : List V) (k : Nat) : cutV xs none (some (k : Int)) = xs.take k := by
  unfold cutV
  rw [HT.sIx_none, HT.sIx_nat, List.drop_zero, Nat.sub_zero]
  by_cases h : k ≤ xs.length
  · rw [Nat.min_eq_left h]
  · rw [Nat.min_eq_right (by omega), List.take_of_length_le (Nat.le_refl _), List.take_of_length_le (by omega)]
/-- t[:k] -/
theorem slice_upto {K : PySem.W.Frag} {H : Hp} {a : Addr} {xs : List V} {k : Nat} {Q : VK} (h : H a = some (.tup xs)) (q : ∀ H' p, Same H H' → H' p = some (.tup (xs.take k)) → Q (.ref p) H') : rSlA K (.ref a) none (some (k : Int)) H Q := by
  refine ⟨a, xs, rfl, .of h, fun e => q H a (.refl _) ?_, fun _ p np => ?_⟩
  · rw [HT.sIx_nat] at e
    rw [List.take_of_length_le (by omega)]
    exact h
  · rw [cutV_upto]
    exact q _ p (same_new np) upd_same
end TT

namespace S4
open PySem L2 TT
/-! ### the text by places -/
def top (i : Nat) : Stmt := PySem.Challenge.pw_sametolls_k21_whole_rules_worked_out.main.body.getD i (.Pass ⟨0, 0, 0, 0⟩)
abbrev s_is_integer : Stmt := top 14
abbrev s_is_below : Stmt := top 15
abbrev s_is_pair : Stmt := top 16
abbrev s_is_row : Stmt := top 17
abbrev s_is_clock : Stmt := top 22
abbrev s_rank : Stmt := top 23
abbrev s_check_clock : Stmt := top 24
abbrev s_check_rows : Stmt := top 25
abbrev s_check_each : Stmt := top 26
abbrev s_rank_of : Stmt := top 27
abbrev s_widened : Stmt := top 28
abbrev s_rungs_of : Stmt := top 29
abbrev s_mixtures : Stmt := top 30
abbrev s_mixed : Stmt := top 31
abbrev s_cleared : Stmt := top 32
abbrev s_multiplied : Stmt := top 33
abbrev s_inverse : Stmt := top 34
abbrev s_first_place : Stmt := top 35
abbrev s_unit_rows : Stmt := top 36
abbrev s_check_ties : Stmt := top 40
abbrev s_is_tie : Stmt := top 41
abbrev s_tied : Stmt := top 42
abbrev s_ways : Stmt := top 43
abbrev s_beyond : Stmt := top 44
abbrev s_this_side : Stmt := top 45
abbrev s_neighbours : Stmt := top 46
abbrev s_reached : Stmt := top 47
abbrev s_is_way : Stmt := top 48
abbrev s_are_counts : Stmt := top 53
abbrev s_check_wants : Stmt := top 54
abbrev s_held : Stmt := top 55
abbrev s_own_places : Stmt := top 56
abbrev s_by_posts : Stmt := top 57
abbrev s_all_wants : Stmt := top 58
abbrev s_want_counts : Stmt := top 59
abbrev s_block : Stmt := top 60
abbrev s_near_numbers : Stmt := top 61
abbrev s_far_wants : Stmt := top 62
abbrev s_cut : Stmt := top 63
abbrev s_narrowed : Stmt := top 64
abbrev s_check_rules : Stmt := top 67
abbrev s_near_unknowns : Stmt := top 68
abbrev s_is_rule : Stmt := top 69
abbrev s_rule_sheet : Stmt := top 70
abbrev s_can_be_undone : Stmt := top 72
abbrev s_undone : Stmt := top 73
abbrev s_way_back : Stmt := top 74
abbrev s_are_sure : Stmt := top 76
abbrev s_worked_out : Stmt := top 77
abbrev s_toll : Stmt := top 79
abbrev s_tolls : Stmt := top 80
abbrev s_wanted : Stmt := top 82
abbrev s_check_given : Stmt := top 83
abbrev s_bare : Stmt := top 84
abbrev s_law_hand : Stmt := top 86
abbrev s_law_draw : Stmt := top 87
abbrev s_law_any : Stmt := top 88
abbrev s_law_ties : Stmt := top 89
abbrev s_law_near : Stmt := top 90
abbrev s_law_ways : Stmt := top 91
abbrev s_law_this_side : Stmt := top 92
abbrev s_law_places : Stmt := top 93
abbrev s_law_dot : Stmt := top 94
abbrev s_law_inverse : Stmt := top 95
abbrev s_law_ladder : Stmt := top 96
abbrev s_law_allowed : Stmt := top 97
abbrev s_law_row : Stmt := top 98
abbrev s_law_parts : Stmt := top 99
abbrev s_law_every : Stmt := top 100
abbrev s_law_made : Stmt := top 101
abbrev s_law_word : Stmt := top 102
abbrev s_law_paired : Stmt := top 103
abbrev s_law_chain : Stmt := top 104
abbrev s_law_tolls : Stmt := top 105
abbrev s_law_right : Stmt := top 106
abbrev s_law : Stmt := top 107
abbrev s_NoRows : Stmt := inClass (top 9) 0
abbrev s_BadTree : Stmt := inClass (top 10) 0
abbrev s_BadSheet : Stmt := inClass (top 11) 0
abbrev s_BadRules : Stmt := inClass (top 12) 0
abbrev s_Tree : Stmt := inClass (top 39) 0
abbrev s_Tree_eq : Stmt := inClass (top 39) 1
abbrev s_Sheet : Stmt := inClass (top 52) 0
abbrev s_Sheet_eq : Stmt := inClass (top 52) 1
abbrev s_Rules : Stmt := inClass (top 66) 0
abbrev s_Rules_eq : Stmt := inClass (top 66) 1
abbrev N_is_integer : List Str := ["thing"]
theorem sc_is_integer : FnScope N_is_integer ["thing"] (defScope s_is_integer) := ⟨rfl, rfl, rfl, by decide +kernel, rfl, by decide +kernel, by decide +kernel⟩
abbrev N_is_below : List Str := ["thing", "end"]
theorem sc_is_below : FnScope N_is_below ["thing", "end"] (defScope s_is_below) := ⟨rfl, rfl, rfl, by decide +kernel, rfl, by decide +kernel, by decide +kernel⟩
abbrev N_is_pair : List Str := ["thing"]
theorem sc_is_pair : FnScope N_is_pair ["thing"] (defScope s_is_pair) := ⟨rfl, rfl, rfl, by decide +kernel, rfl, by decide +kernel, by decide +kernel⟩
abbrev N_is_row : List Str := ["thing", "p", "wide", "value"]
theorem sc_is_row : FnScope N_is_row ["thing", "p", "wide"] (defScope s_is_row) := ⟨rfl, rfl, rfl, by decide +kernel, rfl, by decide +kernel, by decide +kernel⟩
abbrev N_is_clock : List Str := ["thing", "factor"]
theorem sc_is_clock : FnScope N_is_clock ["thing"] (defScope s_is_clock) := ⟨rfl, rfl, rfl, by decide +kernel, rfl, by decide +kernel, by decide +kernel⟩
abbrev N_rank : List Str := ["p", "wide", "rows"]
theorem sc_rank : FnScope N_rank ["p", "wide", "rows"] (defScope s_rank) := ⟨rfl, rfl, rfl, by decide +kernel, rfl, by decide +kernel, by decide +kernel⟩
abbrev N_check_clock : List Str := ["p"]
theorem sc_check_clock : FnScope N_check_clock ["p"] (defScope s_check_clock) := ⟨rfl, rfl, rfl, by decide +kernel, rfl, by decide +kernel, by decide +kernel⟩
abbrev N_check_rows : List Str := ["p", "wide", "rows"]
theorem sc_check_rows : FnScope N_check_rows ["p", "wide", "rows"] (defScope s_check_rows) := ⟨rfl, rfl, rfl, by decide +kernel, rfl, by decide +kernel, by decide +kernel⟩
abbrev N_check_each : List Str := ["p", "wide", "rows", "index", "row"]
theorem sc_check_each : FnScope N_check_each ["p", "wide", "rows"] (defScope s_check_each) := ⟨rfl, rfl, rfl, by decide +kernel, rfl, by decide +kernel, by decide +kernel⟩
abbrev N_rank_of : List Str := ["p", "wide", "rows"]
theorem sc_rank_of : FnScope N_rank_of ["p", "wide", "rows"] (defScope s_rank_of) := ⟨rfl, rfl, rfl, by decide +kernel, rfl, by decide +kernel, by decide +kernel⟩
abbrev N_widened : List Str := ["p", "wide", "rungs", "rows", "row", "rest", "place"]
theorem sc_widened : FnScope N_widened ["p", "wide", "rungs", "rows"] (defScope s_widened) := ⟨rfl, rfl, rfl, by decide +kernel, rfl, by decide +kernel, by decide +kernel⟩
abbrev N_rungs_of : List Str := ["p", "wide", "rows", "rungs", "news", "number", "row", "rest", "place", "rung", "other"]
theorem sc_rungs_of : FnScope N_rungs_of ["p", "wide", "rows"] (defScope s_rungs_of) := ⟨rfl, rfl, rfl, by decide +kernel, rfl, by decide +kernel, by decide +kernel⟩
abbrev N_mixtures : List Str := ["p", "wide", "rows", "made", "marks", "row", "rungs", "found", "rest", "inside", "mark", "value"]
theorem sc_mixtures : FnScope N_mixtures ["p", "wide", "rows", "made"] (defScope s_mixtures) := ⟨rfl, rfl, rfl, by decide +kernel, rfl, by decide +kernel, by decide +kernel⟩
abbrev N_mixed : List Str := ["p", "wide", "factors", "rows", "total", "factor", "row", "value", "more"]
theorem sc_mixed : FnScope N_mixed ["p", "wide", "factors", "rows"] (defScope s_mixed) := ⟨rfl, rfl, rfl, by decide +kernel, rfl, by decide +kernel, by decide +kernel⟩
abbrev N_cleared : List Str := ["p", "rungs", "row", "place", "factor", "value", "less"]
theorem sc_cleared : FnScope N_cleared ["p", "rungs", "row"] (defScope s_cleared) := ⟨rfl, rfl, rfl, by decide +kernel, rfl, by decide +kernel, by decide +kernel⟩
abbrev N_multiplied : List Str := ["p", "factor", "row", "value"]
theorem sc_multiplied : FnScope N_multiplied ["p", "factor", "row"] (defScope s_multiplied) := ⟨rfl, rfl, rfl, by decide +kernel, rfl, by decide +kernel, by decide +kernel⟩
abbrev N_inverse : List Str := ["p", "value", "ahead", "now", "before", "factor", "times"]
theorem sc_inverse : FnScope N_inverse ["p", "value"] (defScope s_inverse) := ⟨rfl, rfl, rfl, by decide +kernel, rfl, by decide +kernel, by decide +kernel⟩
abbrev N_first_place : List Str := ["row", "wide", "place"]
theorem sc_first_place : FnScope N_first_place ["row", "wide"] (defScope s_first_place) := ⟨rfl, rfl, rfl, by decide +kernel, rfl, by decide +kernel, by decide +kernel⟩
abbrev N_unit_rows : List Str := ["wide", "place"]
theorem sc_unit_rows : FnScope N_unit_rows ["wide"] (defScope s_unit_rows) := ⟨rfl, rfl, rfl, by decide +kernel, rfl, by decide +kernel, by decide +kernel⟩
abbrev N_check_ties : List Str := ["ties", "posts", "number", "tie"]
theorem sc_check_ties : FnScope N_check_ties ["ties"] (defScope s_check_ties) := ⟨rfl, rfl, rfl, by decide +kernel, rfl, by decide +kernel, by decide +kernel⟩
abbrev N_is_tie : List Str := ["thing", "posts", "post"]
theorem sc_is_tie : FnScope N_is_tie ["thing", "posts"] (defScope s_is_tie) := ⟨rfl, rfl, rfl, by decide +kernel, rfl, by decide +kernel, by decide +kernel⟩
abbrev N_tied : List Str := ["tree", "post"]
theorem sc_tied : FnScope N_tied ["tree", "post"] (defScope s_tied) := ⟨rfl, rfl, rfl, by decide +kernel, rfl, by decide +kernel, by decide +kernel⟩
abbrev N_ways : List Str := ["tree", "one", "other"]
theorem sc_ways : FnScope N_ways ["tree"] (defScope s_ways) := ⟨rfl, rfl, rfl, by decide +kernel, rfl, by decide +kernel, by decide +kernel⟩
abbrev N_beyond : List Str := ["tree", "way", "here", "there"]
theorem sc_beyond : FnScope N_beyond ["tree", "way"] (defScope s_beyond) := ⟨rfl, rfl, rfl, by decide +kernel, rfl, by decide +kernel, by decide +kernel⟩
abbrev N_this_side : List Str := ["tree", "way", "here", "there"]
theorem sc_this_side : FnScope N_this_side ["tree", "way"] (defScope s_this_side) := ⟨rfl, rfl, rfl, by decide +kernel, rfl, by decide +kernel, by decide +kernel⟩
abbrev N_neighbours : List Str := ["ties", "post", "tie"]
theorem sc_neighbours : FnScope N_neighbours ["ties", "post"] (defScope s_neighbours) := ⟨rfl, rfl, rfl, by decide +kernel, rfl, by decide +kernel, by decide +kernel⟩
abbrev N_reached : List Str := ["ties", "start", "barred", "found", "waiting", "here", "post"]
theorem sc_reached : FnScope N_reached ["ties", "start", "barred"] (defScope s_reached) := ⟨rfl, rfl, rfl, by decide +kernel, rfl, by decide +kernel, by decide +kernel⟩
abbrev N_is_way : List Str := ["tree", "thing", "post"]
theorem sc_is_way : FnScope N_is_way ["tree", "thing"] (defScope s_is_way) := ⟨rfl, rfl, rfl, by decide +kernel, rfl, by decide +kernel, by decide +kernel⟩
abbrev N_are_counts : List Str := ["tree", "thing", "count"]
theorem sc_are_counts : FnScope N_are_counts ["tree", "thing"] (defScope s_are_counts) := ⟨rfl, rfl, rfl, by decide +kernel, rfl, by decide +kernel, by decide +kernel⟩
abbrev N_check_wants : List Str := ["p", "tree", "numbers", "wants", "rows", "post", "want", "row"]
theorem sc_check_wants : FnScope N_check_wants ["p", "tree", "numbers", "wants"] (defScope s_check_wants) := ⟨rfl, rfl, rfl, by decide +kernel, rfl, by decide +kernel, by decide +kernel⟩
abbrev N_held : List Str := ["sheet", "post"]
theorem sc_held : FnScope N_held ["sheet", "post"] (defScope s_held) := ⟨rfl, rfl, rfl, by decide +kernel, rfl, by decide +kernel, by decide +kernel⟩
abbrev N_own_places : List Str := ["counts", "post", "start"]
theorem sc_own_places : FnScope N_own_places ["counts", "post"] (defScope s_own_places) := ⟨rfl, rfl, rfl, by decide +kernel, rfl, by decide +kernel, by decide +kernel⟩
abbrev N_by_posts : List Str := ["counts", "things", "place", "post"]
theorem sc_by_posts : FnScope N_by_posts ["counts", "things"] (defScope s_by_posts) := ⟨rfl, rfl, rfl, by decide +kernel, rfl, by decide +kernel, by decide +kernel⟩
abbrev N_all_wants : List Str := ["sheet", "rows", "row"]
theorem sc_all_wants : FnScope N_all_wants ["sheet"] (defScope s_all_wants) := ⟨rfl, rfl, rfl, by decide +kernel, rfl, by decide +kernel, by decide +kernel⟩
abbrev N_want_counts : List Str := ["sheet", "rows"]
theorem sc_want_counts : FnScope N_want_counts ["sheet"] (defScope s_want_counts) := ⟨rfl, rfl, rfl, by decide +kernel, rfl, by decide +kernel, by decide +kernel⟩
abbrev N_block : List Str := ["sheet", "way", "rows", "post", "want"]
theorem sc_block : FnScope N_block ["sheet", "way"] (defScope s_block) := ⟨rfl, rfl, rfl, by decide +kernel, rfl, by decide +kernel, by decide +kernel⟩
abbrev N_near_numbers : List Str := ["sheet", "way", "post", "number"]
theorem sc_near_numbers : FnScope N_near_numbers ["sheet", "way"] (defScope s_near_numbers) := ⟨rfl, rfl, rfl, by decide +kernel, rfl, by decide +kernel, by decide +kernel⟩
abbrev N_far_wants : List Str := ["sheet", "way", "posts", "post", "want"]
theorem sc_far_wants : FnScope N_far_wants ["sheet", "way"] (defScope s_far_wants) := ⟨rfl, rfl, rfl, by decide +kernel, rfl, by decide +kernel, by decide +kernel⟩
abbrev N_cut : List Str := ["row", "lot", "place"]
theorem sc_cut : FnScope N_cut ["row", "lot"] (defScope s_cut) := ⟨rfl, rfl, rfl, by decide +kernel, rfl, by decide +kernel, by decide +kernel⟩
abbrev N_narrowed : List Str := ["rows", "lot", "row"]
theorem sc_narrowed : FnScope N_narrowed ["rows", "lot"] (defScope s_narrowed) := ⟨rfl, rfl, rfl, by decide +kernel, rfl, by decide +kernel, by decide +kernel⟩
abbrev N_check_rules : List Str := ["p", "tree", "unknowns", "rules", "own", "post", "near", "number", "rule"]
theorem sc_check_rules : FnScope N_check_rules ["p", "tree", "unknowns", "rules"] (defScope s_check_rules) := ⟨rfl, rfl, rfl, by decide +kernel, rfl, by decide +kernel, by decide +kernel⟩
abbrev N_near_unknowns : List Str := ["tree", "unknowns", "post", "near", "place"]
theorem sc_near_unknowns : FnScope N_near_unknowns ["tree", "unknowns", "post"] (defScope s_near_unknowns) := ⟨rfl, rfl, rfl, by decide +kernel, rfl, by decide +kernel, by decide +kernel⟩
abbrev N_is_rule : List Str := ["p", "wide", "near", "thing", "place", "value"]
theorem sc_is_rule : FnScope N_is_rule ["p", "wide", "near", "thing"] (defScope s_is_rule) := ⟨rfl, rfl, rfl, by decide +kernel, rfl, by decide +kernel, by decide +kernel⟩
abbrev N_rule_sheet : List Str := ["rules", "wants", "row", "_", "own"]
theorem sc_rule_sheet : FnScope N_rule_sheet ["rules"] (defScope s_rule_sheet) := ⟨rfl, rfl, rfl, by decide +kernel, rfl, by decide +kernel, by decide +kernel⟩
abbrev N_can_be_undone : List Str := ["sheet", "rows"]
theorem sc_can_be_undone : FnScope N_can_be_undone ["sheet"] (defScope s_can_be_undone) := ⟨rfl, rfl, rfl, by decide +kernel, rfl, by decide +kernel, by decide +kernel⟩
abbrev N_undone : List Str := ["sheet", "rows"]
theorem sc_undone : FnScope N_undone ["sheet"] (defScope s_undone) := ⟨rfl, rfl, rfl, by decide +kernel, rfl, by decide +kernel, by decide +kernel⟩
abbrev N_way_back : List Str := ["sheet"]
theorem sc_way_back : FnScope N_way_back ["sheet"] (defScope s_way_back) := ⟨rfl, rfl, rfl, by decide +kernel, rfl, by decide +kernel, by decide +kernel⟩
abbrev N_are_sure : List Str := ["rules"]
theorem sc_are_sure : FnScope N_are_sure ["rules"] (defScope s_are_sure) := ⟨rfl, rfl, rfl, by decide +kernel, rfl, by decide +kernel, by decide +kernel⟩
abbrev N_worked_out : List Str := ["rules"]
theorem sc_worked_out : FnScope N_worked_out ["rules"] (defScope s_worked_out) := ⟨rfl, rfl, rfl, by decide +kernel, rfl, by decide +kernel, by decide +kernel⟩
abbrev N_toll : List Str := ["sheet", "way", "rows"]
theorem sc_toll : FnScope N_toll ["sheet", "way"] (defScope s_toll) := ⟨rfl, rfl, rfl, by decide +kernel, rfl, by decide +kernel, by decide +kernel⟩
abbrev N_tolls : List Str := ["sheet", "way"]
theorem sc_tolls : FnScope N_tolls ["sheet"] (defScope s_tolls) := ⟨rfl, rfl, rfl, by decide +kernel, rfl, by decide +kernel, by decide +kernel⟩
abbrev N_wanted : List Str := ["sheet", "given", "starts", "value", "row", "rows"]
theorem sc_wanted : FnScope N_wanted ["sheet", "given"] (defScope s_wanted) := ⟨rfl, rfl, rfl, by decide +kernel, rfl, by decide +kernel, by decide +kernel⟩
abbrev N_check_given : List Str := ["sheet", "given"]
theorem sc_check_given : FnScope N_check_given ["sheet", "given"] (defScope s_check_given) := ⟨rfl, rfl, rfl, by decide +kernel, rfl, by decide +kernel, by decide +kernel⟩
abbrev N_bare : List Str := ["rows", "row"]
theorem sc_bare : FnScope N_bare ["rows"] (defScope s_bare) := ⟨rfl, rfl, rfl, by decide +kernel, rfl, by decide +kernel, by decide +kernel⟩
abbrev N_law_hand : List Str := ["script", "cells", "cell"]
theorem sc_law_hand : FnScope N_law_hand ["script"] (defScope s_law_hand) := ⟨rfl, rfl, rfl, by decide +kernel, rfl, by decide +kernel, by decide +kernel⟩
abbrev N_law_draw : List Str := ["hand", "many", "cell", "digit", "number"]
theorem sc_law_draw : FnScope N_law_draw ["hand", "many"] (defScope s_law_draw) := ⟨rfl, rfl, rfl, by decide +kernel, rfl, by decide +kernel, by decide +kernel⟩
abbrev N_law_any : List Str := ["hand", "some"]
theorem sc_law_any : FnScope N_law_any ["hand", "some"] (defScope s_law_any) := ⟨rfl, rfl, rfl, by decide +kernel, rfl, by decide +kernel, by decide +kernel⟩
abbrev N_law_ties : List Str := ["hand", "most", "posts", "names", "left", "found", "post", "one", "other"]
theorem sc_law_ties : FnScope N_law_ties ["hand", "most"] (defScope s_law_ties) := ⟨rfl, rfl, rfl, by decide +kernel, rfl, by decide +kernel, by decide +kernel⟩
abbrev N_law_near : List Str := ["ties", "post", "one", "other"]
theorem sc_law_near : FnScope N_law_near ["ties", "post"] (defScope s_law_near) := ⟨rfl, rfl, rfl, by decide +kernel, rfl, by decide +kernel, by decide +kernel⟩
abbrev N_law_ways : List Str := ["ties", "one", "other"]
theorem sc_law_ways : FnScope N_law_ways ["ties"] (defScope s_law_ways) := ⟨rfl, rfl, rfl, by decide +kernel, rfl, by decide +kernel, by decide +kernel⟩
abbrev N_law_this_side : List Str := ["ties", "way", "found", "turn", "post", "near"]
theorem sc_law_this_side : FnScope N_law_this_side ["ties", "way"] (defScope s_law_this_side) := ⟨rfl, rfl, rfl, by decide +kernel, rfl, by decide +kernel, by decide +kernel⟩
abbrev N_law_places : List Str := ["unknowns", "post", "first"]
theorem sc_law_places : FnScope N_law_places ["unknowns", "post"] (defScope s_law_places) := ⟨rfl, rfl, rfl, by decide +kernel, rfl, by decide +kernel, by decide +kernel⟩
abbrev N_law_dot : List Str := ["p", "one", "other", "here", "there"]
theorem sc_law_dot : FnScope N_law_dot ["p", "one", "other"] (defScope s_law_dot) := ⟨rfl, rfl, rfl, by decide +kernel, rfl, by decide +kernel, by decide +kernel⟩
abbrev N_law_inverse : List Str := ["p", "value", "found", "times", "left", "turn"]
theorem sc_law_inverse : FnScope N_law_inverse ["p", "value"] (defScope s_law_inverse) := ⟨rfl, rfl, rfl, by decide +kernel, rfl, by decide +kernel, by decide +kernel⟩
abbrev N_law_ladder : List Str := ["p", "rows", "work", "top", "place", "at", "some", "inverse_v", "times", "row", "value", "own"]
theorem sc_law_ladder : FnScope N_law_ladder ["p", "rows"] (defScope s_law_ladder) := ⟨rfl, rfl, rfl, by decide +kernel, rfl, by decide +kernel, by decide +kernel⟩
abbrev N_law_allowed : List Str := ["parts", "post", "found", "near"]
theorem sc_law_allowed : FnScope N_law_allowed ["parts", "post"] (defScope s_law_allowed) := ⟨rfl, rfl, rfl, by decide +kernel, rfl, by decide +kernel, by decide +kernel⟩
abbrev N_law_row : List Str := ["hand", "parts", "post", "row", "place"]
theorem sc_law_row : FnScope N_law_row ["hand", "parts", "post"] (defScope s_law_row) := ⟨rfl, rfl, rfl, by decide +kernel, rfl, by decide +kernel, by decide +kernel⟩
abbrev N_law_parts : List Str := ["hand", "p", "posts", "most", "rules", "ties", "left", "unknowns", "post", "parts", "hidden", "spoilt", "own", "turn", "row", "right", "place"]
theorem sc_law_parts : FnScope N_law_parts ["hand", "p", "posts", "most", "rules"] (defScope s_law_parts) := ⟨rfl, rfl, rfl, by decide +kernel, rfl, by decide +kernel, by decide +kernel⟩
abbrev N_law_every : List Str := ["parts", "found", "post", "row", "right"]
theorem sc_law_every : FnScope N_law_every ["parts"] (defScope s_law_every) := ⟨rfl, rfl, rfl, by decide +kernel, rfl, by decide +kernel, by decide +kernel⟩
abbrev N_law_made : List Str := ["parts"]
theorem sc_law_made : FnScope N_law_made ["parts"] (defScope s_law_made) := ⟨rfl, rfl, rfl, by decide +kernel, rfl, by decide +kernel, by decide +kernel⟩
abbrev N_law_word : List Str := ["rules", "told", "e"]
theorem sc_law_word : FnScope N_law_word ["rules"] (defScope s_law_word) := ⟨rfl, rfl, rfl, by decide +kernel, rfl, by decide +kernel, by decide +kernel⟩
abbrev N_law_paired : List Str := ["hand", "p", "posts", "parts", "counts", "turn", "one", "other", "hidden", "rules", "post", "rows", "place", "row"]
theorem sc_law_paired : FnScope N_law_paired ["hand"] (defScope s_law_paired) := ⟨rfl, rfl, rfl, by decide +kernel, rfl, by decide +kernel, by decide +kernel⟩
abbrev N_law_chain : List Str := ["hand", "posts", "p", "post", "ties", "parts", "rules", "hidden", "row", "place"]
theorem sc_law_chain : FnScope N_law_chain ["hand"] (defScope s_law_chain) := ⟨rfl, rfl, rfl, by decide +kernel, rfl, by decide +kernel, by decide +kernel⟩
abbrev N_law_tolls : List Str := ["parts", "found", "way", "places", "block_v", "more", "post", "place", "row", "right"]
theorem sc_law_tolls : FnScope N_law_tolls ["parts"] (defScope s_law_tolls) := ⟨rfl, rfl, rfl, by decide +kernel, rfl, by decide +kernel, by decide +kernel⟩
abbrev N_law_right : List Str := ["parts", "hidden", "rules", "p", "every", "many", "rows", "sheet", "shape", "own", "wants", "is_due", "flag", "told", "holds", "times", "place", "due", "values", "post", "row", "right", "at"]
theorem sc_law_right : FnScope N_law_right ["parts", "hidden"] (defScope s_law_right) := ⟨rfl, rfl, rfl, by decide +kernel, rfl, by decide +kernel, by decide +kernel⟩
abbrev N_law : List Str := ["script", "hand", "turn", "parts", "hidden"]
theorem sc_law : FnScope N_law ["script"] (defScope s_law) := ⟨rfl, rfl, rfl, by decide +kernel, rfl, by decide +kernel, by decide +kernel⟩
abbrev N_NoRows : List Str := ["self", "index"]
theorem sc_NoRows : FnScope N_NoRows ["self", "index"] (defScope s_NoRows) := ⟨rfl, rfl, rfl, by decide +kernel, rfl, by decide +kernel, by decide +kernel⟩
abbrev N_BadTree : List Str := ["self", "part"]
theorem sc_BadTree : FnScope N_BadTree ["self", "part"] (defScope s_BadTree) := ⟨rfl, rfl, rfl, by decide +kernel, rfl, by decide +kernel, by decide +kernel⟩
abbrev N_BadSheet : List Str := ["self", "part"]
theorem sc_BadSheet : FnScope N_BadSheet ["self", "part"] (defScope s_BadSheet) := ⟨rfl, rfl, rfl, by decide +kernel, rfl, by decide +kernel, by decide +kernel⟩
abbrev N_BadRules : List Str := ["self", "part"]
theorem sc_BadRules : FnScope N_BadRules ["self", "part"] (defScope s_BadRules) := ⟨rfl, rfl, rfl, by decide +kernel, rfl, by decide +kernel, by decide +kernel⟩
abbrev N_Tree : List Str := ["self", "ties"]
theorem sc_Tree : FnScope N_Tree ["self", "ties"] (defScope s_Tree) := ⟨rfl, rfl, rfl, by decide +kernel, rfl, by decide +kernel, by decide +kernel⟩
abbrev N_Tree_eq : List Str := ["self", "other"]
theorem sc_Tree_eq : FnScope N_Tree_eq ["self", "other"] (defScope s_Tree_eq) := ⟨rfl, rfl, rfl, by decide +kernel, rfl, by decide +kernel, by decide +kernel⟩
abbrev N_Sheet : List Str := ["self", "p", "tree", "holds", "wants"]
theorem sc_Sheet : FnScope N_Sheet ["self", "p", "tree", "holds", "wants"] (defScope s_Sheet) := ⟨rfl, rfl, rfl, by decide +kernel, rfl, by decide +kernel, by decide +kernel⟩
abbrev N_Sheet_eq : List Str := ["self", "other"]
theorem sc_Sheet_eq : FnScope N_Sheet_eq ["self", "other"] (defScope s_Sheet_eq) := ⟨rfl, rfl, rfl, by decide +kernel, rfl, by decide +kernel, by decide +kernel⟩
abbrev N_Rules : List Str := ["self", "p", "tree", "unknowns", "rules"]
theorem sc_Rules : FnScope N_Rules ["self", "p", "tree", "unknowns", "rules"] (defScope s_Rules) := ⟨rfl, rfl, rfl, by decide +kernel, rfl, by decide +kernel, by decide +kernel⟩
abbrev N_Rules_eq : List Str := ["self", "other"]
theorem sc_Rules_eq : FnScope N_Rules_eq ["self", "other"] (defScope s_Rules_eq) := ⟨rfl, rfl, rfl, by decide +kernel, rfl, by decide +kernel, by decide +kernel⟩
/-! ### the facts of the top -/
structure D (K : PySem.W.Frag) (mg : Str → Option Value) (x : Str) (st : Stmt) (ps : List Str) (f : Addr) (fd : FuncData) : Prop where
  F : Fun K x x st f fd
  b : Binds K fd ps []
  m : mg x = some (.ref f)
abbrev DE (K : PySem.W.Frag) (mg : Str → Option Value) (x : Str) (st : Stmt) (ps : List Str) : Prop := ∃ f fd, D K mg x st ps f fd
theorem DE.mk {K : PySem.W.Frag} {h : Heap} {mg : Str → Option Value} {x : Str} {st : Stmt} {ps : List Str} {f : Addr} {oc : Value} {od an : Option Addr} {osl : Array (Option Value)} {kV doc pm cdv ct : Value} (X : K.In h) (G : h.Ns mainGlobals mg)
    (hb : ∀ (kV doc pm : Value) (an : Option Addr) (cdv ct : Value) (us : List Value), us.length = ps.length → bindArgs (PySem.W.fnOf x x (defArgs st) (defBody st) (defScope st) .none kV doc pm an cdv ct) ⟨us, []⟩ = pure (ps.zip us))
    (a : PySem.W.nsIn K mainGlobals x = some (some (.ref f)))
    (l : K.lookup f = some ⟨oc, od, .func (PySem.W.fnOf x x (defArgs st) (defBody st) (defScope st) .none kV doc pm an cdv ct), osl⟩) (c : PySem.W.codeIn K cdv x = true) (k : PySem.W.keepIn K (.ref f) = true) : DE K mg x st ps :=
  ⟨f, _, fun_mk l c k, (fun_mk l c k).binds hb, PySem.W.mg_of X G a⟩
/-- a class with its __init__ -/
structure DC (K : PySem.W.Frag) (mg : Str → Option Value) (x : Str) (q : Str) (st : Stmt) (ps : List Str) (fl : List Str) (C f : Addr) (fd : FuncData) : Prop where
  F : Fun K "__init__" q st f fd
  b : Binds K fd ps []
  m : mg x = some (.ref C)
  mkf : Mk K C f
  cl : Cls K C
  na : ∀ y ∈ fl, NoAttr K C y
/-- the address of a class by its name -/
def adr (mg : Str → Option Value) (x : Str) : Addr := match mg x with
  | some (.ref a) => a
  | _ => 0
theorem adr_of {mg : Str → Option Value} {x : Str} {a : Addr} (h : mg x = some (.ref a)) : adr mg x = a := by unfold adr; rw [h]
/-- a method m of the class at C -/
structure DM (K : PySem.W.Frag) (m : Str) (q : Str) (st : Stmt) (ps : List Str) (C f : Addr) (fd : FuncData) : Prop where
  F : Fun K m q st f fd
  b : Binds K fd ps []
  fi : PySem.W.findIn K (.ref C) m = some (some (.ref f))
  fn : PySem.W.isFn K (.ref f) = true
/-- an exception class -/
structure EX (K : PySem.W.Frag) (mg : Str → Option Value) (x : Str) (C : Addr) : Prop where
  m : mg x = some (.ref C)
  kp : PySem.W.keepIn K (.ref C) = true
  ty : PySem.W.typeIn K (.ref C) = some (.type "type")
  ec : ExcC K C
  ve : PySem.W.kitOne K (.ref C) (.type "ValueError") = some true
/-- .. without an own __init__ -/
def EPl (K : PySem.W.Frag) (C : Addr) : Prop := PySem.W.excIn K C [.type "ValueError", .type "Exception", .type "BaseException", .type "object"] "ValueError.__new__" = true
/-- .. with one -/
structure EI (K : PySem.W.Frag) (q : Str) (st : Stmt) (ps : List Str) (fl : List Str) (C f : Addr) (fd : FuncData) : Prop where
  F : Fun K "__init__" q st f fd
  b : Binds K fd ps []
  oc : OexC K C
  iC : PySem.W.findIn K (.ref C) "__init__" = some (some (.ref f))
  tI : PySem.W.typeIn K (.ref f) = some (.type "function")
  no : ∀ y ∈ fl, PySem.W.findIn K (.ref C) y = some none
structure Tx (K : PySem.W.Frag) (mg : Str → Option Value) (cT cS : Addr) : Prop where
  b_abs : mg "abs" = none
  b_all : mg "all" = none
  b_bool : mg "bool" = none
  b_enumerate : mg "enumerate" = none
  b_int : mg "int" = none
  b_isinstance : mg "isinstance" = none
  b_len : mg "len" = none
  b_list : mg "list" = none
  b_max : mg "max" = none
  b_min : mg "min" = none
  b_range : mg "range" = none
  b_sorted : mg "sorted" = none
  b_sum : mg "sum" = none
  b_tuple : mg "tuple" = none
  b_zip : mg "zip" = none
  c_MOST_HOURS : ∃ t, mg "MOST_HOURS" = some (.int 1000000 t)
  c_MOST_WIDE : ∃ t, mg "MOST_WIDE" = some (.int 200 t)
  c_MOST_ROWS : ∃ t, mg "MOST_ROWS" = some (.int 200 t)
  c_MOST_TIES : ∃ t, mg "MOST_TIES" = some (.int 23 t)
  c_MOST_AT_POST : ∃ t, mg "MOST_AT_POST" = some (.int 8 t)
  c_MOST_IN_ALL : ∃ t, mg "MOST_IN_ALL" = some (.int 60 t)
  d_is_integer : DE K mg "is_integer" s_is_integer ["thing"]
  d_is_below : DE K mg "is_below" s_is_below ["thing", "end"]
  d_is_pair : DE K mg "is_pair" s_is_pair ["thing"]
  d_is_row : DE K mg "is_row" s_is_row ["thing", "p", "wide"]
  d_is_clock : DE K mg "is_clock" s_is_clock ["thing"]
  d_rank : DE K mg "rank" s_rank ["p", "wide", "rows"]
  d_check_clock : DE K mg "check_clock" s_check_clock ["p"]
  d_check_rows : DE K mg "check_rows" s_check_rows ["p", "wide", "rows"]
  d_check_each : DE K mg "check_each" s_check_each ["p", "wide", "rows"]
  d_rank_of : DE K mg "rank_of" s_rank_of ["p", "wide", "rows"]
  d_widened : DE K mg "widened" s_widened ["p", "wide", "rungs", "rows"]
  d_rungs_of : DE K mg "rungs_of" s_rungs_of ["p", "wide", "rows"]
  d_mixtures : DE K mg "mixtures" s_mixtures ["p", "wide", "rows", "made"]
  d_mixed : DE K mg "mixed" s_mixed ["p", "wide", "factors", "rows"]
  d_cleared : DE K mg "cleared" s_cleared ["p", "rungs", "row"]
  d_multiplied : DE K mg "multiplied" s_multiplied ["p", "factor", "row"]
  d_inverse : DE K mg "inverse" s_inverse ["p", "value"]
  d_first_place : DE K mg "first_place" s_first_place ["row", "wide"]
  d_unit_rows : DE K mg "unit_rows" s_unit_rows ["wide"]
  d_check_ties : DE K mg "check_ties" s_check_ties ["ties"]
  d_is_tie : DE K mg "is_tie" s_is_tie ["thing", "posts"]
  d_tied : DE K mg "tied" s_tied ["tree", "post"]
  d_ways : DE K mg "ways" s_ways ["tree"]
  d_beyond : DE K mg "beyond" s_beyond ["tree", "way"]
  d_this_side : DE K mg "this_side" s_this_side ["tree", "way"]
  d_neighbours : DE K mg "neighbours" s_neighbours ["ties", "post"]
  d_reached : DE K mg "reached" s_reached ["ties", "start", "barred"]
  d_is_way : DE K mg "is_way" s_is_way ["tree", "thing"]
  d_are_counts : DE K mg "are_counts" s_are_counts ["tree", "thing"]
  d_check_wants : DE K mg "check_wants" s_check_wants ["p", "tree", "numbers", "wants"]
  d_held : DE K mg "held" s_held ["sheet", "post"]
  d_own_places : DE K mg "own_places" s_own_places ["counts", "post"]
  d_by_posts : DE K mg "by_posts" s_by_posts ["counts", "things"]
  d_all_wants : DE K mg "all_wants" s_all_wants ["sheet"]
  d_want_counts : DE K mg "want_counts" s_want_counts ["sheet"]
  d_block : DE K mg "block" s_block ["sheet", "way"]
  d_near_numbers : DE K mg "near_numbers" s_near_numbers ["sheet", "way"]
  d_far_wants : DE K mg "far_wants" s_far_wants ["sheet", "way"]
  d_cut : DE K mg "cut" s_cut ["row", "lot"]
  d_narrowed : DE K mg "narrowed" s_narrowed ["rows", "lot"]
  d_check_rules : DE K mg "check_rules" s_check_rules ["p", "tree", "unknowns", "rules"]
  d_near_unknowns : DE K mg "near_unknowns" s_near_unknowns ["tree", "unknowns", "post"]
  d_is_rule : DE K mg "is_rule" s_is_rule ["p", "wide", "near", "thing"]
  d_rule_sheet : DE K mg "rule_sheet" s_rule_sheet ["rules"]
  d_can_be_undone : DE K mg "can_be_undone" s_can_be_undone ["sheet"]
  d_undone : DE K mg "undone" s_undone ["sheet"]
  d_way_back : DE K mg "way_back" s_way_back ["sheet"]
  d_are_sure : DE K mg "are_sure" s_are_sure ["rules"]
  d_worked_out : DE K mg "worked_out" s_worked_out ["rules"]
  d_toll : DE K mg "toll" s_toll ["sheet", "way"]
  d_tolls : DE K mg "tolls" s_tolls ["sheet"]
  d_wanted : DE K mg "wanted" s_wanted ["sheet", "given"]
  d_check_given : DE K mg "check_given" s_check_given ["sheet", "given"]
  d_bare : DE K mg "bare" s_bare ["rows"]
  d_law_hand : DE K mg "_law_hand" s_law_hand ["script"]
  d_law_draw : DE K mg "_law_draw" s_law_draw ["hand", "many"]
  d_law_any : DE K mg "_law_any" s_law_any ["hand", "some"]
  d_law_ties : DE K mg "_law_ties" s_law_ties ["hand", "most"]
  d_law_near : DE K mg "_law_near" s_law_near ["ties", "post"]
  d_law_ways : DE K mg "_law_ways" s_law_ways ["ties"]
  d_law_this_side : DE K mg "_law_this_side" s_law_this_side ["ties", "way"]
  d_law_places : DE K mg "_law_places" s_law_places ["unknowns", "post"]
  d_law_dot : DE K mg "_law_dot" s_law_dot ["p", "one", "other"]
  d_law_inverse : DE K mg "_law_inverse" s_law_inverse ["p", "value"]
  d_law_ladder : DE K mg "_law_ladder" s_law_ladder ["p", "rows"]
  d_law_allowed : DE K mg "_law_allowed" s_law_allowed ["parts", "post"]
  d_law_row : DE K mg "_law_row" s_law_row ["hand", "parts", "post"]
  d_law_parts : DE K mg "_law_parts" s_law_parts ["hand", "p", "posts", "most", "rules"]
  d_law_every : DE K mg "_law_every" s_law_every ["parts"]
  d_law_made : DE K mg "_law_made" s_law_made ["parts"]
  d_law_word : DE K mg "_law_word" s_law_word ["rules"]
  d_law_paired : DE K mg "_law_paired" s_law_paired ["hand"]
  d_law_chain : DE K mg "_law_chain" s_law_chain ["hand"]
  d_law_tolls : DE K mg "_law_tolls" s_law_tolls ["parts"]
  d_law_right : DE K mg "_law_right" s_law_right ["parts", "hidden"]
  d_law : DE K mg "law" s_law ["script"]
  k_Tree : ∃ f fd, DC K mg "Tree" "Tree.__init__" s_Tree ["self", "ties"] ["ties", "posts"] cT f fd
  i_Tree : C8.InsC K cT
  t_Tree : PySem.W.typeIn K (.ref cT) = some (.type "type")
  m_Tree_eq : ∃ f fd, DM K "__eq__" "Tree.__eq__" s_Tree_eq ["self", "other"] cT f fd
  u_ne_Tree : PySem.W.findIn K (.ref cT) "__ne__" = some (some (.builtin "object.__ne__"))
  k_Sheet : ∃ f fd, DC K mg "Sheet" "Sheet.__init__" s_Sheet ["self", "p", "tree", "holds", "wants"] ["p", "tree", "holds", "wants", "numbers"] cS f fd
  i_Sheet : C8.InsC K cS
  t_Sheet : PySem.W.typeIn K (.ref cS) = some (.type "type")
  m_Sheet_eq : ∃ f fd, DM K "__eq__" "Sheet.__eq__" s_Sheet_eq ["self", "other"] cS f fd
  u_ne_Sheet : PySem.W.findIn K (.ref cS) "__ne__" = some (some (.builtin "object.__ne__"))
  k_Rules : ∃ f fd, DC K mg "Rules" "Rules.__init__" s_Rules ["self", "p", "tree", "unknowns", "rules"] ["p", "tree", "unknowns", "rules"] (adr mg "Rules") f fd
  i_Rules : C8.InsC K (adr mg "Rules")
  t_Rules : PySem.W.typeIn K (.ref (adr mg "Rules")) = some (.type "type")
  m_Rules_eq : ∃ f fd, DM K "__eq__" "Rules.__eq__" s_Rules_eq ["self", "other"] (adr mg "Rules") f fd
  u_ne_Rules : PySem.W.findIn K (.ref (adr mg "Rules")) "__ne__" = some (some (.builtin "object.__ne__"))
  e_TollError : EX K mg "TollError" (adr mg "TollError")
  p_TollError : EPl K (adr mg "TollError")
  e_NoClock : EX K mg "NoClock" (adr mg "NoClock")
  p_NoClock : EPl K (adr mg "NoClock")
  e_NoNumber : EX K mg "NoNumber" (adr mg "NoNumber")
  p_NoNumber : EPl K (adr mg "NoNumber")
  e_NoPost : EX K mg "NoPost" (adr mg "NoPost")
  p_NoPost : EPl K (adr mg "NoPost")
  e_NoWay : EX K mg "NoWay" (adr mg "NoWay")
  p_NoWay : EPl K (adr mg "NoWay")
  e_NoGiven : EX K mg "NoGiven" (adr mg "NoGiven")
  p_NoGiven : EPl K (adr mg "NoGiven")
  e_NotUndoable : EX K mg "NotUndoable" (adr mg "NotUndoable")
  p_NotUndoable : EPl K (adr mg "NotUndoable")
  e_NotSure : EX K mg "NotSure" (adr mg "NotSure")
  p_NotSure : EPl K (adr mg "NotSure")
  e_NoRows : EX K mg "NoRows" (adr mg "NoRows")
  n_NoRows : ∃ f fd, EI K "NoRows.__init__" s_NoRows ["self", "index"] ["index"] (adr mg "NoRows") f fd
  e_BadTree : EX K mg "BadTree" (adr mg "BadTree")
  n_BadTree : ∃ f fd, EI K "BadTree.__init__" s_BadTree ["self", "part"] ["part"] (adr mg "BadTree") f fd
  e_BadSheet : EX K mg "BadSheet" (adr mg "BadSheet")
  n_BadSheet : ∃ f fd, EI K "BadSheet.__init__" s_BadSheet ["self", "part"] ["part"] (adr mg "BadSheet") f fd
  e_BadRules : EX K mg "BadRules" (adr mg "BadRules")
  n_BadRules : ∃ f fd, EI K "BadRules.__init__" s_BadRules ["self", "part"] ["part"] (adr mg "BadRules") f fd
  u_TollError_TollError : PySem.W.subIn K (.ref (adr mg "TollError")) (.ref (adr mg "TollError")) = some true
  u_TollError_NoClock : PySem.W.subIn K (.ref (adr mg "TollError")) (.ref (adr mg "NoClock")) = some false
  u_TollError_NoNumber : PySem.W.subIn K (.ref (adr mg "TollError")) (.ref (adr mg "NoNumber")) = some false
  u_TollError_NoPost : PySem.W.subIn K (.ref (adr mg "TollError")) (.ref (adr mg "NoPost")) = some false
  u_TollError_NoWay : PySem.W.subIn K (.ref (adr mg "TollError")) (.ref (adr mg "NoWay")) = some false
  u_TollError_NoGiven : PySem.W.subIn K (.ref (adr mg "TollError")) (.ref (adr mg "NoGiven")) = some false
  u_TollError_NotUndoable : PySem.W.subIn K (.ref (adr mg "TollError")) (.ref (adr mg "NotUndoable")) = some false
  u_TollError_NotSure : PySem.W.subIn K (.ref (adr mg "TollError")) (.ref (adr mg "NotSure")) = some false
  u_TollError_NoRows : PySem.W.subIn K (.ref (adr mg "TollError")) (.ref (adr mg "NoRows")) = some false
  u_TollError_BadTree : PySem.W.subIn K (.ref (adr mg "TollError")) (.ref (adr mg "BadTree")) = some false
  u_TollError_BadSheet : PySem.W.subIn K (.ref (adr mg "TollError")) (.ref (adr mg "BadSheet")) = some false
  u_TollError_BadRules : PySem.W.subIn K (.ref (adr mg "TollError")) (.ref (adr mg "BadRules")) = some false
  u_NoClock_TollError : PySem.W.subIn K (.ref (adr mg "NoClock")) (.ref (adr mg "TollError")) = some true
  u_NoClock_NoClock : PySem.W.subIn K (.ref (adr mg "NoClock")) (.ref (adr mg "NoClock")) = some true
  u_NoClock_NoNumber : PySem.W.subIn K (.ref (adr mg "NoClock")) (.ref (adr mg "NoNumber")) = some false
  u_NoClock_NoPost : PySem.W.subIn K (.ref (adr mg "NoClock")) (.ref (adr mg "NoPost")) = some false
  u_NoClock_NoWay : PySem.W.subIn K (.ref (adr mg "NoClock")) (.ref (adr mg "NoWay")) = some false
  u_NoClock_NoGiven : PySem.W.subIn K (.ref (adr mg "NoClock")) (.ref (adr mg "NoGiven")) = some false
  u_NoClock_NotUndoable : PySem.W.subIn K (.ref (adr mg "NoClock")) (.ref (adr mg "NotUndoable")) = some false
  u_NoClock_NotSure : PySem.W.subIn K (.ref (adr mg "NoClock")) (.ref (adr mg "NotSure")) = some false
  u_NoClock_NoRows : PySem.W.subIn K (.ref (adr mg "NoClock")) (.ref (adr mg "NoRows")) = some false
  u_NoClock_BadTree : PySem.W.subIn K (.ref (adr mg "NoClock")) (.ref (adr mg "BadTree")) = some false
  u_NoClock_BadSheet : PySem.W.subIn K (.ref (adr mg "NoClock")) (.ref (adr mg "BadSheet")) = some false
  u_NoClock_BadRules : PySem.W.subIn K (.ref (adr mg "NoClock")) (.ref (adr mg "BadRules")) = some false
  u_NoNumber_TollError : PySem.W.subIn K (.ref (adr mg "NoNumber")) (.ref (adr mg "TollError")) = some true
  u_NoNumber_NoClock : PySem.W.subIn K (.ref (adr mg "NoNumber")) (.ref (adr mg "NoClock")) = some false
  u_NoNumber_NoNumber : PySem.W.subIn K (.ref (adr mg "NoNumber")) (.ref (adr mg "NoNumber")) = some true
  u_NoNumber_NoPost : PySem.W.subIn K (.ref (adr mg "NoNumber")) (.ref (adr mg "NoPost")) = some false
  u_NoNumber_NoWay : PySem.W.subIn K (.ref (adr mg "NoNumber")) (.ref (adr mg "NoWay")) = some false
  u_NoNumber_NoGiven : PySem.W.subIn K (.ref (adr mg "NoNumber")) (.ref (adr mg "NoGiven")) = some false
  u_NoNumber_NotUndoable : PySem.W.subIn K (.ref (adr mg "NoNumber")) (.ref (adr mg "NotUndoable")) = some false
  u_NoNumber_NotSure : PySem.W.subIn K (.ref (adr mg "NoNumber")) (.ref (adr mg "NotSure")) = some false
  u_NoNumber_NoRows : PySem.W.subIn K (.ref (adr mg "NoNumber")) (.ref (adr mg "NoRows")) = some false
  u_NoNumber_BadTree : PySem.W.subIn K (.ref (adr mg "NoNumber")) (.ref (adr mg "BadTree")) = some false
  u_NoNumber_BadSheet : PySem.W.subIn K (.ref (adr mg "NoNumber")) (.ref (adr mg "BadSheet")) = some false
  u_NoNumber_BadRules : PySem.W.subIn K (.ref (adr mg "NoNumber")) (.ref (adr mg "BadRules")) = some false
  u_NoPost_TollError : PySem.W.subIn K (.ref (adr mg "NoPost")) (.ref (adr mg "TollError")) = some true
  u_NoPost_NoClock : PySem.W.subIn K (.ref (adr mg "NoPost")) (.ref (adr mg "NoClock")) = some false
  u_NoPost_NoNumber : PySem.W.subIn K (.ref (adr mg "NoPost")) (.ref (adr mg "NoNumber")) = some false
  u_NoPost_NoPost : PySem.W.subIn K (.ref (adr mg "NoPost")) (.ref (adr mg "NoPost")) = some true
  u_NoPost_NoWay : PySem.W.subIn K (.ref (adr mg "NoPost")) (.ref (adr mg "NoWay")) = some false
  u_NoPost_NoGiven : PySem.W.subIn K (.ref (adr mg "NoPost")) (.ref (adr mg "NoGiven")) = some false
  u_NoPost_NotUndoable : PySem.W.subIn K (.ref (adr mg "NoPost")) (.ref (adr mg "NotUndoable")) = some false
  u_NoPost_NotSure : PySem.W.subIn K (.ref (adr mg "NoPost")) (.ref (adr mg "NotSure")) = some false
  u_NoPost_NoRows : PySem.W.subIn K (.ref (adr mg "NoPost")) (.ref (adr mg "NoRows")) = some false
  u_NoPost_BadTree : PySem.W.subIn K (.ref (adr mg "NoPost")) (.ref (adr mg "BadTree")) = some false
  u_NoPost_BadSheet : PySem.W.subIn K (.ref (adr mg "NoPost")) (.ref (adr mg "BadSheet")) = some false
  u_NoPost_BadRules : PySem.W.subIn K (.ref (adr mg "NoPost")) (.ref (adr mg "BadRules")) = some false
  u_NoWay_TollError : PySem.W.subIn K (.ref (adr mg "NoWay")) (.ref (adr mg "TollError")) = some true
  u_NoWay_NoClock : PySem.W.subIn K (.ref (adr mg "NoWay")) (.ref (adr mg "NoClock")) = some false
  u_NoWay_NoNumber : PySem.W.subIn K (.ref (adr mg "NoWay")) (.ref (adr mg "NoNumber")) = some false
  u_NoWay_NoPost : PySem.W.subIn K (.ref (adr mg "NoWay")) (.ref (adr mg "NoPost")) = some false
  u_NoWay_NoWay : PySem.W.subIn K (.ref (adr mg "NoWay")) (.ref (adr mg "NoWay")) = some true
  u_NoWay_NoGiven : PySem.W.subIn K (.ref (adr mg "NoWay")) (.ref (adr mg "NoGiven")) = some false
  u_NoWay_NotUndoable : PySem.W.subIn K (.ref (adr mg "NoWay")) (.ref (adr mg "NotUndoable")) = some false
  u_NoWay_NotSure : PySem.W.subIn K (.ref (adr mg "NoWay")) (.ref (adr mg "NotSure")) = some false
  u_NoWay_NoRows : PySem.W.subIn K (.ref (adr mg "NoWay")) (.ref (adr mg "NoRows")) = some false
  u_NoWay_BadTree : PySem.W.subIn K (.ref (adr mg "NoWay")) (.ref (adr mg "BadTree")) = some false
  u_NoWay_BadSheet : PySem.W.subIn K (.ref (adr mg "NoWay")) (.ref (adr mg "BadSheet")) = some false
  u_NoWay_BadRules : PySem.W.subIn K (.ref (adr mg "NoWay")) (.ref (adr mg "BadRules")) = some false
  u_NoGiven_TollError : PySem.W.subIn K (.ref (adr mg "NoGiven")) (.ref (adr mg "TollError")) = some true
  u_NoGiven_NoClock : PySem.W.subIn K (.ref (adr mg "NoGiven")) (.ref (adr mg "NoClock")) = some false
  u_NoGiven_NoNumber : PySem.W.subIn K (.ref (adr mg "NoGiven")) (.ref (adr mg "NoNumber")) = some false
  u_NoGiven_NoPost : PySem.W.subIn K (.ref (adr mg "NoGiven")) (.ref (adr mg "NoPost")) = some false
  u_NoGiven_NoWay : PySem.W.subIn K (.ref (adr mg "NoGiven")) (.ref (adr mg "NoWay")) = some false
  u_NoGiven_NoGiven : PySem.W.subIn K (.ref (adr mg "NoGiven")) (.ref (adr mg "NoGiven")) = some true
  u_NoGiven_NotUndoable : PySem.W.subIn K (.ref (adr mg "NoGiven")) (.ref (adr mg "NotUndoable")) = some false
  u_NoGiven_NotSure : PySem.W.subIn K (.ref (adr mg "NoGiven")) (.ref (adr mg "NotSure")) = some false
  u_NoGiven_NoRows : PySem.W.subIn K (.ref (adr mg "NoGiven")) (.ref (adr mg "NoRows")) = some false
  u_NoGiven_BadTree : PySem.W.subIn K (.ref (adr mg "NoGiven")) (.ref (adr mg "BadTree")) = some false
  u_NoGiven_BadSheet : PySem.W.subIn K (.ref (adr mg "NoGiven")) (.ref (adr mg "BadSheet")) = some false
  u_NoGiven_BadRules : PySem.W.subIn K (.ref (adr mg "NoGiven")) (.ref (adr mg "BadRules")) = some false
  u_NotUndoable_TollError : PySem.W.subIn K (.ref (adr mg "NotUndoable")) (.ref (adr mg "TollError")) = some true
  u_NotUndoable_NoClock : PySem.W.subIn K (.ref (adr mg "NotUndoable")) (.ref (adr mg "NoClock")) = some false
  u_NotUndoable_NoNumber : PySem.W.subIn K (.ref (adr mg "NotUndoable")) (.ref (adr mg "NoNumber")) = some false
  u_NotUndoable_NoPost : PySem.W.subIn K (.ref (adr mg "NotUndoable")) (.ref (adr mg "NoPost")) = some false
  u_NotUndoable_NoWay : PySem.W.subIn K (.ref (adr mg "NotUndoable")) (.ref (adr mg "NoWay")) = some false
  u_NotUndoable_NoGiven : PySem.W.subIn K (.ref (adr mg "NotUndoable")) (.ref (adr mg "NoGiven")) = some false
  u_NotUndoable_NotUndoable : PySem.W.subIn K (.ref (adr mg "NotUndoable")) (.ref (adr mg "NotUndoable")) = some true
  u_NotUndoable_NotSure : PySem.W.subIn K (.ref (adr mg "NotUndoable")) (.ref (adr mg "NotSure")) = some false
  u_NotUndoable_NoRows : PySem.W.subIn K (.ref (adr mg "NotUndoable")) (.ref (adr mg "NoRows")) = some false
  u_NotUndoable_BadTree : PySem.W.subIn K (.ref (adr mg "NotUndoable")) (.ref (adr mg "BadTree")) = some false
  u_NotUndoable_BadSheet : PySem.W.subIn K (.ref (adr mg "NotUndoable")) (.ref (adr mg "BadSheet")) = some false
  u_NotUndoable_BadRules : PySem.W.subIn K (.ref (adr mg "NotUndoable")) (.ref (adr mg "BadRules")) = some false
  u_NotSure_TollError : PySem.W.subIn K (.ref (adr mg "NotSure")) (.ref (adr mg "TollError")) = some true
  u_NotSure_NoClock : PySem.W.subIn K (.ref (adr mg "NotSure")) (.ref (adr mg "NoClock")) = some false
  u_NotSure_NoNumber : PySem.W.subIn K (.ref (adr mg "NotSure")) (.ref (adr mg "NoNumber")) = some false
  u_NotSure_NoPost : PySem.W.subIn K (.ref (adr mg "NotSure")) (.ref (adr mg "NoPost")) = some false
  u_NotSure_NoWay : PySem.W.subIn K (.ref (adr mg "NotSure")) (.ref (adr mg "NoWay")) = some false
  u_NotSure_NoGiven : PySem.W.subIn K (.ref (adr mg "NotSure")) (.ref (adr mg "NoGiven")) = some false
  u_NotSure_NotUndoable : PySem.W.subIn K (.ref (adr mg "NotSure")) (.ref (adr mg "NotUndoable")) = some false
  u_NotSure_NotSure : PySem.W.subIn K (.ref (adr mg "NotSure")) (.ref (adr mg "NotSure")) = some true
  u_NotSure_NoRows : PySem.W.subIn K (.ref (adr mg "NotSure")) (.ref (adr mg "NoRows")) = some false
  u_NotSure_BadTree : PySem.W.subIn K (.ref (adr mg "NotSure")) (.ref (adr mg "BadTree")) = some false
  u_NotSure_BadSheet : PySem.W.subIn K (.ref (adr mg "NotSure")) (.ref (adr mg "BadSheet")) = some false
  u_NotSure_BadRules : PySem.W.subIn K (.ref (adr mg "NotSure")) (.ref (adr mg "BadRules")) = some false
  u_NoRows_TollError : PySem.W.subIn K (.ref (adr mg "NoRows")) (.ref (adr mg "TollError")) = some true
  u_NoRows_NoClock : PySem.W.subIn K (.ref (adr mg "NoRows")) (.ref (adr mg "NoClock")) = some false
  u_NoRows_NoNumber : PySem.W.subIn K (.ref (adr mg "NoRows")) (.ref (adr mg "NoNumber")) = some false
  u_NoRows_NoPost : PySem.W.subIn K (.ref (adr mg "NoRows")) (.ref (adr mg "NoPost")) = some false
  u_NoRows_NoWay : PySem.W.subIn K (.ref (adr mg "NoRows")) (.ref (adr mg "NoWay")) = some false
  u_NoRows_NoGiven : PySem.W.subIn K (.ref (adr mg "NoRows")) (.ref (adr mg "NoGiven")) = some false
  u_NoRows_NotUndoable : PySem.W.subIn K (.ref (adr mg "NoRows")) (.ref (adr mg "NotUndoable")) = some false
  u_NoRows_NotSure : PySem.W.subIn K (.ref (adr mg "NoRows")) (.ref (adr mg "NotSure")) = some false
  u_NoRows_NoRows : PySem.W.subIn K (.ref (adr mg "NoRows")) (.ref (adr mg "NoRows")) = some true
  u_NoRows_BadTree : PySem.W.subIn K (.ref (adr mg "NoRows")) (.ref (adr mg "BadTree")) = some false
  u_NoRows_BadSheet : PySem.W.subIn K (.ref (adr mg "NoRows")) (.ref (adr mg "BadSheet")) = some false
  u_NoRows_BadRules : PySem.W.subIn K (.ref (adr mg "NoRows")) (.ref (adr mg "BadRules")) = some false
  u_BadTree_TollError : PySem.W.subIn K (.ref (adr mg "BadTree")) (.ref (adr mg "TollError")) = some true
  u_BadTree_NoClock : PySem.W.subIn K (.ref (adr mg "BadTree")) (.ref (adr mg "NoClock")) = some false
  u_BadTree_NoNumber : PySem.W.subIn K (.ref (adr mg "BadTree")) (.ref (adr mg "NoNumber")) = some false
  u_BadTree_NoPost : PySem.W.subIn K (.ref (adr mg "BadTree")) (.ref (adr mg "NoPost")) = some false
  u_BadTree_NoWay : PySem.W.subIn K (.ref (adr mg "BadTree")) (.ref (adr mg "NoWay")) = some false
  u_BadTree_NoGiven : PySem.W.subIn K (.ref (adr mg "BadTree")) (.ref (adr mg "NoGiven")) = some false
  u_BadTree_NotUndoable : PySem.W.subIn K (.ref (adr mg "BadTree")) (.ref (adr mg "NotUndoable")) = some false
  u_BadTree_NotSure : PySem.W.subIn K (.ref (adr mg "BadTree")) (.ref (adr mg "NotSure")) = some false
  u_BadTree_NoRows : PySem.W.subIn K (.ref (adr mg "BadTree")) (.ref (adr mg "NoRows")) = some false
  u_BadTree_BadTree : PySem.W.subIn K (.ref (adr mg "BadTree")) (.ref (adr mg "BadTree")) = some true
  u_BadTree_BadSheet : PySem.W.subIn K (.ref (adr mg "BadTree")) (.ref (adr mg "BadSheet")) = some false
  u_BadTree_BadRules : PySem.W.subIn K (.ref (adr mg "BadTree")) (.ref (adr mg "BadRules")) = some false
  u_BadSheet_TollError : PySem.W.subIn K (.ref (adr mg "BadSheet")) (.ref (adr mg "TollError")) = some true
  u_BadSheet_NoClock : PySem.W.subIn K (.ref (adr mg "BadSheet")) (.ref (adr mg "NoClock")) = some false
  u_BadSheet_NoNumber : PySem.W.subIn K (.ref (adr mg "BadSheet")) (.ref (adr mg "NoNumber")) = some false
  u_BadSheet_NoPost : PySem.W.subIn K (.ref (adr mg "BadSheet")) (.ref (adr mg "NoPost")) = some false
  u_BadSheet_NoWay : PySem.W.subIn K (.ref (adr mg "BadSheet")) (.ref (adr mg "NoWay")) = some false
  u_BadSheet_NoGiven : PySem.W.subIn K (.ref (adr mg "BadSheet")) (.ref (adr mg "NoGiven")) = some false
  u_BadSheet_NotUndoable : PySem.W.subIn K (.ref (adr mg "BadSheet")) (.ref (adr mg "NotUndoable")) = some false
  u_BadSheet_NotSure : PySem.W.subIn K (.ref (adr mg "BadSheet")) (.ref (adr mg "NotSure")) = some false
  u_BadSheet_NoRows : PySem.W.subIn K (.ref (adr mg "BadSheet")) (.ref (adr mg "NoRows")) = some false
  u_BadSheet_BadTree : PySem.W.subIn K (.ref (adr mg "BadSheet")) (.ref (adr mg "BadTree")) = some false
  u_BadSheet_BadSheet : PySem.W.subIn K (.ref (adr mg "BadSheet")) (.ref (adr mg "BadSheet")) = some true
  u_BadSheet_BadRules : PySem.W.subIn K (.ref (adr mg "BadSheet")) (.ref (adr mg "BadRules")) = some false
  u_BadRules_TollError : PySem.W.subIn K (.ref (adr mg "BadRules")) (.ref (adr mg "TollError")) = some true
  u_BadRules_NoClock : PySem.W.subIn K (.ref (adr mg "BadRules")) (.ref (adr mg "NoClock")) = some false
  u_BadRules_NoNumber : PySem.W.subIn K (.ref (adr mg "BadRules")) (.ref (adr mg "NoNumber")) = some false
  u_BadRules_NoPost : PySem.W.subIn K (.ref (adr mg "BadRules")) (.ref (adr mg "NoPost")) = some false
  u_BadRules_NoWay : PySem.W.subIn K (.ref (adr mg "BadRules")) (.ref (adr mg "NoWay")) = some false
  u_BadRules_NoGiven : PySem.W.subIn K (.ref (adr mg "BadRules")) (.ref (adr mg "NoGiven")) = some false
  u_BadRules_NotUndoable : PySem.W.subIn K (.ref (adr mg "BadRules")) (.ref (adr mg "NotUndoable")) = some false
  u_BadRules_NotSure : PySem.W.subIn K (.ref (adr mg "BadRules")) (.ref (adr mg "NotSure")) = some false
  u_BadRules_NoRows : PySem.W.subIn K (.ref (adr mg "BadRules")) (.ref (adr mg "NoRows")) = some false
  u_BadRules_BadTree : PySem.W.subIn K (.ref (adr mg "BadRules")) (.ref (adr mg "BadTree")) = some false
  u_BadRules_BadSheet : PySem.W.subIn K (.ref (adr mg "BadRules")) (.ref (adr mg "BadSheet")) = some false
  u_BadRules_BadRules : PySem.W.subIn K (.ref (adr mg "BadRules")) (.ref (adr mg "BadRules")) = some true
  b_ValueError : mg "ValueError" = none
end S4

namespace S4
open PySem L2 TT
section
variable {P : Program} {w : World} {K : PySem.W.Frag} {mg : Str → Option Value} {base : Heap} {cT cS : Addr}
/-! ### kinds -/
def spIsInteger : Sp := fun vs H Q _ => ∃ (n : Int), vs = [.int n] ∧ Q (.bl true) H
theorem ok_is_integer (T : Tx K mg cT cS) {f : Addr} {fd : FuncData} (d : D K mg "is_integer" s_is_integer ["thing"] f fd) : FnOk P w K mg base CX0 1 f fd ["thing"] spIsInteger := by
  refine d.F.ok sc_is_integer (fun vs H Q E h => ?_) (fun cdv A outer s H vs Q E hr h => ?_)
  · obtain ⟨n, rfl, _⟩ := h
    rfl
  · obtain ⟨n, rfl, q⟩ := h
    refine ⟨_, pss_one (ps_ret (pe_and (pe_callB call_isi (by rfl) T.b_isinstance (by decide +kernel) (pa_cons (pv 0) (pa_cons (ty_int T.b_int) pa_nil)))
      (pe_one (pe_not (pe_callB call_isi (by rfl) T.b_isinstance (by decide +kernel) (pa_cons (pv 0) (pa_cons (ty_bool T.b_bool) pa_nil))))))), ?_⟩
    exact ⟨_, rfl, _, _, _, _, _, rfl, .ty _, .base (.int _), kit_ii, _, rfl, iteT ⟨_, rfl, _, _, _, _, _, rfl, .ty _, .base (.int _), kit_ib, _, rfl, q⟩⟩
def spIsBelow : Sp := fun vs H Q _ => ∃ (n e : Int), vs = [.int n, .int e] ∧ Q (.bl (decide (0 ≤ n ∧ n < e))) H
theorem ok_is_below (T : Tx K mg cT cS) {f : Addr} {fd : FuncData} (d : D K mg "is_below" s_is_below ["thing", "end"] f fd) : FnOk P w K mg base CX0 2 f fd ["thing", "end"] spIsBelow := by
  obtain ⟨f1, fd1, d1⟩ := T.d_is_integer
  have G1 : FnOk P w K mg base CX0 1 f1 fd1 ["thing"] spIsInteger := ok_is_integer T d1
  refine d.F.ok sc_is_below (fun vs H Q E h => ?_) (fun cdv A outer s H vs Q E hr h => ?_)
  · obtain ⟨n, e, rfl, _⟩ := h
    rfl
  · obtain ⟨n, e, rfl, q⟩ := h
    refine ⟨_, pss_one (ps_ret (pe_and (pe_call G1 hr rfl d1.m d1.F.kp d1.b .nil pass0 (pa_cons (pv 0) pa_nil)) (pe_one (pe_chain op_le op_lt pe_int (pv 0) (pv 1))))), ?_⟩
    refine ⟨_, rfl, n, rfl, _, rfl, iteT ⟨_, rfl, _, _, rfl, rfl, _, rfl, ?_⟩⟩
    by_cases h0 : 0 ≤ n
    · rw [decide_eq_true h0]
      refine iteT ⟨_, rfl, _, _, rfl, rfl, ?_⟩
      simpa [h0] using q
    · rw [decide_eq_false h0]
      refine iteF ?_
      simpa [h0] using q
def spIsPair : Sp := fun vs H Q _ => ∃ t x y, vs = [.ref t] ∧ H t = some (.tup [x, y]) ∧ Q (.bl true) H
theorem ok_is_pair (T : Tx K mg cT cS) {f : Addr} {fd : FuncData} (d : D K mg "is_pair" s_is_pair ["thing"] f fd) : FnOk P w K mg base CX0 1 f fd ["thing"] spIsPair := by
  refine d.F.ok sc_is_pair (fun vs H Q E h => ?_) (fun cdv A outer s H vs Q E hr h => ?_)
  · obtain ⟨t, x, y, rfl, _⟩ := h
    rfl
  · obtain ⟨t, x, y, rfl, ht, q⟩ := h
    refine ⟨_, pss_one (ps_ret (pe_and (pe_callB call_isi (by rfl) T.b_isinstance (by decide +kernel) (pa_cons (pv 0) (pa_cons (ty_tuple T.b_tuple) pa_nil)))
      (pe_one (pe_cmpR op_eq (pe_callB call_len_seq (by rfl) T.b_len PySem.boot_len (pa_cons (pv 0) pa_nil)) pe_int (nomark _))))), ?_⟩
    exact ⟨_, rfl, _, _, _, _, _, rfl, .ty _, .base (.tup ht), kit_tt, _, rfl, iteT ⟨_, rfl, _, _, rfl, .inr (.of ht), rfl, q⟩⟩
end
end S4

namespace S4
open PySem L2 TT
section
variable {P : Program} {w : World} {K : PySem.W.Frag} {mg : Str → Option Value} {base : Heap} {cT cS : Addr}
def isRow (l : List Int) (p : Int) (wd : Int) : Prop := (l.length : Int) = wd ∧ ∀ v ∈ l, 0 ≤ v ∧ v < p
/-- a row that is right -/
def spIsRow : Sp := fun vs H Q _ => ∃ (v : V) (l : List Int) (p wd : Int), vs = [v, .int p, .int wd] ∧ rRow H v l ∧ l.length ≤ 100000 ∧ isRow l p wd ∧ ∀ H', Same H H' → Q (.bl true) H'
theorem all_true : ∀ {bs : List Bool}, (∀ b ∈ bs, b = true) → bs.all id = true := fun {bs} h => by
  rw [List.all_eq_true]
  exact fun x hx => h x hx
def rBl : Rp Bool := fun _ v b => v = .bl b
theorem mono_bl : Mono rBl := fun _ _ _ _ _ h => h
theorem paired_bl {H : Hp} : ∀ {xs : List V} {l : List Bool}, Paired (rBl H) xs l → xs = l.map V.bl
  | _, _, .nil => rfl
  | _, _, .cons r t => by cases r; rw [List.map_cons, paired_bl t]
theorem ok_is_row (T : Tx K mg cT cS) {f : Addr} {fd : FuncData} (d : D K mg "is_row" s_is_row ["thing", "p", "wide"] f fd) : FnOk P w K mg base CX0 3 f fd ["thing", "p", "wide"] spIsRow := by
  obtain ⟨f1, fd1, d1⟩ := T.d_is_below
  have G1 : FnOk P w K mg base CX0 2 f1 fd1 ["thing", "end"] spIsBelow := ok_is_below T d1
  refine d.F.ok sc_is_row (fun vs H Q E h => ?_) (fun cdv A outer s H vs Q E hr h => ?_)
  · obtain ⟨v, l, p, wd, rfl, _⟩ := h
    rfl
  · obtain ⟨v, l, p, wd, rfl, ⟨t, rfl, ht⟩, hl, ⟨hw, hv⟩, q⟩ := h
    refine ⟨_, pss_cons (ps_if (PW.pt (pw_or (pt_not (pt_val (pe_callB call_isi (by rfl) T.b_isinstance (by decide +kernel) (pa_cons (pv 0) (pa_cons (ty_tuple T.b_tuple) pa_nil)))))
        (pw_or1 (pt_cmpR op_ne (pe_callB call_len_seq (by rfl) T.b_len PySem.boot_len (pa_cons (pv 0) pa_nil)) (pv 2) (nomark _))))) (pss_one (ps_ret pe_bl)) pss_nil)
      (pss_one (ps_ret (pe_callB (cr_all rfl) (by rfl) T.b_all (by decide +kernel) (pa_cons
        (pe_lc (own := [("value", 3)]) (g := gName 3) (tt := tYes) rfl sc_is_row.nd (pi_tup (pv 0)) (blkOk_by (N := N_is_row) (sc := defScope s_is_row) (by decide +kernel)) (fun _ _ _ _ _ => pg_name (i := 3) sc_is_row.nd rfl (Or.inl rfl)) (fun _ _ _ _ _ => pts_nil)
          (fun _ _ _ _ _ => pe_call G1 hr rfl d1.m d1.F.kp d1.b .nil pass0 (pa_cons (pv 3) (pa_cons (pv 1) pa_nil)))) pa_nil)))), ?_⟩
    refine ⟨_, rfl, _, _, _, _, _, rfl, .ty _, .base (.tup ht), kit_tt, _, rfl, iteF ?_⟩
    refine ⟨_, rfl, _, _, rfl, .inr (.of ht), _, rfl, rfl, _, rfl, ?_⟩
    have e1 : V.int (((l.map V.int).length : Nat) : Int) = V.int wd := by rw [List.length_map, hw]
    rw [e1, decide_eq_true rfl]
    refine iteF ⟨_, rfl, t, rfl, ⟨_, .of ht⟩, fun D hD => ?_⟩
    refine lc_fm (walk_tup (xs := l.map V.int)) rBl (fun _ => some true) hD (fun H' s' => .of (s'.keep.tup ht)) ?_ ?_
    · rintro i x H2 H3 hi pv ⟨rfl, hx⟩
      obtain ⟨n, hn, rfl⟩ := at_int hx
      rw [List.length_map] at hi
      obtain ⟨g1, g2⟩ := hv n (List.mem_of_getElem? hn)
      refine ⟨rfl, _, rfl, _, rfl, n, p, rfl, ?_⟩
      rw [decide_eq_true ⟨g1, g2⟩]
      exact fm_keep mono_bl pv hD (by omega) (Same.refl _) rfl rfl
    · intro H2 xs s2 hD2 hp
      have := paired_bl hp
      subst this
      refine ⟨_, _, rfl, .of hD2, ?_⟩
      rw [all_true fun b hb => by
        obtain ⟨_, _, e⟩ := List.mem_filterMap.mp hb
        exact (Option.some.inj e).symm]
      exact q _ s2
end
end S4

namespace S4
open PySem L2 TT
section
variable {P : Program} {w : World} {K : PySem.W.Frag} {mg : Str → Option Value} {base : Heap} {cT cS : Addr}
def NoDiv (n : Int) : Prop := 2 ≤ n ∧ n ≤ 1000000 ∧ ∀ k : Int, 2 ≤ k → k * k ≤ n → n % k ≠ 0
def spIsClock : Sp := fun vs H Q _ => ∃ (n : Int), vs = [.int n] ∧ NoDiv n ∧ Q (.bl true) H
theorem sq_small {f : Int} (h : 2 ≤ f) (h2 : f * f ≤ 1000000) : f ≤ 1000 := by
  by_cases q : f ≤ 1000
  · exact q
  · have a : 1001 * 1001 ≤ f * f := Int.mul_le_mul (by omega) (by omega) (by decide) (by omega)
    omega
theorem ok_is_clock (T : Tx K mg cT cS) {f : Addr} {fd : FuncData} (d : D K mg "is_clock" s_is_clock ["thing"] f fd) : FnOk P w K mg base CX0 2 f fd ["thing"] spIsClock := by
  obtain ⟨f1, fd1, d1⟩ := T.d_is_integer
  have G1 : FnOk P w K mg base CX0 1 f1 fd1 ["thing"] spIsInteger := ok_is_integer T d1
  obtain ⟨tk, hM⟩ := T.c_MOST_HOURS
  refine d.F.ok sc_is_clock (fun vs H Q E h => ?_) (fun cdv A outer s H vs Q E hr h => ?_)
  · obtain ⟨n, rfl, _⟩ := h
    rfl
  · obtain ⟨n, rfl, ⟨n2, n6, nd⟩, q⟩ := h
    refine ⟨_, pss_cons (ps_if (PW.pt (pw_or (pt_not (pt_val (pe_call G1 hr rfl d1.m d1.F.kp d1.b .nil pass0 (pa_cons (pv 0) pa_nil))))
        (pw_or1 (pt_not (pt_chain op_le op_le pe_int (pv 0) (pe_glob (v := .int 1000000) rfl hM ⟨_, rfl⟩)))))) (pss_one (ps_ret pe_bl)) pss_nil)
      (pss_cons (ps_set (i := 1) sc_is_clock.nd rfl (.inl rfl) pe_int)
      (pss_cons (ps_while PassesOwn.never (pt_cmpR op_le (pe_op op_mul (pv 1) (pv 1)) (pv 0) (nomark _))
        (pss_cons (ps_if (pt_cmpR op_eq (pe_op op_mod (pv 0) (pv 1)) pe_int (nomark _)) (pss_one (ps_ret pe_bl)) pss_nil)
          (pss_one (ps_aug (i := 1) sc_is_clock.nd rfl (.inl rfl) pe_int ip_add))))
      (pss_one (ps_ret pe_bl)))), ?_⟩
    refine ⟨_, rfl, n, rfl, _, rfl, iteF ?_⟩
    refine ⟨_, rfl, _, _, rfl, rfl, _, rfl, ?_⟩
    rw [decide_eq_true n2]
    refine iteT ⟨_, _, rfl, rfl, _, rfl, ?_⟩
    rw [decide_eq_true n6]
    refine iteF ?_
    refine while_by (fun σ H' => H' = H ∧ ∃ k : Int, σ = [some (.int n), some (.int k)] ∧ 2 ≤ k ∧ k ≤ 1001) (fun σ _ => match σ with | [_, some (.int k)] => (2000 - k).toNat | _ => 0) ⟨rfl, 2, rfl, by decide, by decide⟩ ?_ ?_
    · rintro σ H' ⟨rfl, k, rfl, k2, k3⟩
      refine ⟨_, rfl, _, rfl, _, _, rfl, rfl, .inl ⟨by omega, by omega⟩, _, rfl, _, _, rfl, rfl, _, rfl, ?_⟩
      by_cases hk : k * k ≤ n
      · rw [decide_eq_true hk]
        refine iteT ?_
        refine ⟨_, rfl, _, rfl, _, _, rfl, rfl, by omega, rfl, _, rfl, ?_⟩
        have hne : ¬ V.int (n % k) = V.int 0 := fun e => nd k k2 hk (V.int.inj e)
        rw [decide_eq_false hne]
        refine iteF ⟨_, rfl, _, _, rfl, rfl, ⟨rfl, k + 1, rfl, by omega, ?_⟩, ?_⟩
        · have := sq_small k2 (Int.le_trans hk n6)
          omega
        · show (2000 - (k + 1)).toNat < (2000 - k).toNat
          omega
      · rw [decide_eq_false hk]
        exact iteF q
    · rintro σ H' Q1 Q2 i ⟨v, e1, v2, e2, a, b, e3, e4, c, v3, e5, a1, b1, e6, e7, k, e8, h⟩
      exact ⟨v, e1, v2, e2, a, b, e3, e4, c, v3, e5, a1, b1, e6, e7, k, e8, i _ _ h⟩
end
end S4

/-! posts, ties, what is reached: plain mathematics -/
namespace MM
def nbOf (post : Int) (t : Int × Int) : Option Int := if t.1 = post ∨ t.2 = post then some (if t.1 = post then t.2 else t.1) else none
def nb (ties : List (Int × Int)) (post : Int) : List Int := ties.filterMap (nbOf post)
def Up (ns : List Int) : Prop := ns.Pairwise (· ≤ ·)
/-- reached from s without the barred one -/
inductive Rch (ties : List (Int × Int)) (bar : Option Int) (s : Int) : Int → Prop
  | refl : Rch ties bar s s
  | step {u v : Int} : Rch ties bar s u → v ∈ nb ties u → bar ≠ some v → Rch ties bar s v
/-- the walk's word: found and waiting, ex the one whose neighbours are being looked at -/
structure RI (ties : List (Int × Int)) (bar : Option Int) (s : Int) (ex : Option Int) (fnd wt : List Int) : Prop where
  nd : fnd.Nodup
  st : s ∈ fnd
  ok : ∀ v ∈ fnd, Rch ties bar s v
  sub : ∀ v ∈ wt, v ∈ fnd
  cl : ∀ u ∈ fnd, u ∉ wt → ex ≠ some u → ∀ v ∈ nb ties u, bar ≠ some v → v ∈ fnd
  exf : ∀ h, ex = some h → h ∈ fnd
  wl : wt.length ≤ fnd.length
variable {ties : List (Int × Int)} {bar : Option Int} {s : Int}
theorem RI.start : RI ties bar s none [s] [s] :=
  ⟨by simp, by simp, fun v h => by rw [List.mem_singleton.mp h]; exact .refl, fun v h => h, fun u h h' => absurd h h', fun _ h => (nomatch h), Nat.le_refl _⟩
theorem RI.pop {fnd wt : List Int} {h : Int} (r : RI ties bar s none fnd wt) (hl : wt[wt.length - 1]? = some h) : RI ties bar s (some h) fnd wt.dropLast := by
  have hm : wt = wt.dropLast ++ [h] := by
    have hne : wt ≠ [] := by intro e; subst e; simp at hl
    have e1 := List.dropLast_concat_getLast hne
    have e2 : wt.getLast hne = h := by
      have := List.getLast?_eq_getElem? (l := wt)
      rw [hl, List.getLast?_eq_some_getLast hne] at this
      exact Option.some.inj this
    rw [e2] at e1
    exact e1.symm
  refine ⟨r.nd, r.st, r.ok, fun v hv => r.sub v ?_, fun u hu hn he v hv hb => r.cl u hu ?_ (fun q => nomatch q) v hv hb, fun q e => ?_, by rw [List.length_dropLast]; have := r.wl; omega⟩
  · rw [hm]; exact List.mem_append_left _ hv
  · intro hw
    rw [hm] at hw
    rcases List.mem_append.mp hw with hw | hw
    · exact hn hw
    · rw [List.mem_singleton.mp hw] at he
      exact he rfl
  · cases e
    exact r.sub h (by rw [hm]; simp)
theorem RI.add {fnd wt : List Int} {h v : Int} (r : RI ties bar s (some h) fnd wt) (hv : v ∈ nb ties h) (hb : bar ≠ some v) (hn : v ∉ fnd) : RI ties bar s (some h) (fnd ++ [v]) (wt ++ [v]) := by
  refine ⟨?_, List.mem_append_left _ r.st, fun u hu => ?_, fun u hu => ?_, fun u hu hw he x hx hbx => ?_, fun q e => List.mem_append_left _ (r.exf q e), by rw [List.length_append, List.length_append]; have := r.wl; omega⟩
  · rw [List.nodup_append]
    exact ⟨r.nd, by simp, fun a ha b hb => by rw [List.mem_singleton.mp hb]; intro e; subst e; exact hn ha⟩
  · rcases List.mem_append.mp hu with hu | hu
    · exact r.ok u hu
    · rw [List.mem_singleton.mp hu]
      exact .step (r.ok h (r.exf h rfl)) hv hb
  · rcases List.mem_append.mp hu with hu | hu
    · exact List.mem_append_left _ (r.sub u hu)
    · exact List.mem_append_right _ hu
  · rcases List.mem_append.mp hu with hu | hu
    · exact List.mem_append_left _ (r.cl u hu (fun q => hw (List.mem_append_left _ q)) he x hx hbx)
    · exact absurd (List.mem_append_right _ hu) hw
theorem RI.close {fnd wt : List Int} {h : Int} (r : RI ties bar s (some h) fnd wt) (hc : ∀ v ∈ nb ties h, bar ≠ some v → v ∈ fnd) : RI ties bar s none fnd wt :=
  ⟨r.nd, r.st, r.ok, r.sub, fun u hu hw _ v hv hb => by
    by_cases e : u = h
    · subst e; exact hc v hv hb
    · exact r.cl u hu hw (fun q => e (Option.some.inj q).symm) v hv hb, fun _ h => (nomatch h), r.wl⟩
theorem RI.done {fnd : List Int} (r : RI ties bar s none fnd []) : ∀ v, v ∈ fnd ↔ Rch ties bar s v := fun v => by
  refine ⟨r.ok v, fun h => ?_⟩
  induction h with
  | refl => exact r.st
  | step _ hv hb ih => exact r.cl _ ih (by simp) (fun q => nomatch q) _ hv hb
/-- bounded by a list that the neighbours stay in -/
theorem nodup_len : ∀ {l V : List Int}, l.Nodup → (∀ v ∈ l, v ∈ V) → l.length ≤ V.length
  | [], _, _, _ => Nat.zero_le _
  | a :: l, V, h, hs => by
    have ha : a ∈ V := hs a (by simp)
    obtain ⟨h1, h2⟩ := List.nodup_cons.mp h
    have : l.length ≤ (V.erase a).length := nodup_len h2 fun v hv => by
      have : v ≠ a := fun e => h1 (e ▸ hv)
      exact (List.mem_erase_of_ne this).mpr (hs v (by simp [hv]))
    rw [List.length_erase_of_mem ha] at this
    have := List.length_pos_of_mem ha
    rw [List.length_cons]
    omega
structure Shut (ties : List (Int × Int)) (V : List Int) : Prop where
  cl : ∀ u ∈ V, ∀ v ∈ nb ties u, v ∈ V
theorem Rch.inV {V : List Int} (hs : Shut ties V) (h0 : s ∈ V) {v : Int} (h : Rch ties bar s v) : v ∈ V := by
  induction h with
  | refl => exact h0
  | step _ hv _ ih => exact hs.cl _ ih _ hv
theorem RI.len {fnd wt : List Int} {ex : Option Int} {V : List Int} (r : RI ties bar s ex fnd wt) (hs : Shut ties V) (h0 : s ∈ V) : fnd.length ≤ V.length := nodup_len r.nd fun v hv => (r.ok v hv).inV hs h0
end MM

namespace S4
open PySem L2 TT MM
/-! ### ties as data -/
theorem hu65 {k : Nat} {A : Around} (r : Room k A) : A.units + 65 < cLine := by have := r.un; omega
def pd (z : Int × Int) : PyData := .tuple [.int z.1, .int z.2]
theorem pd_lay (z : Int × Int) : (pd z).canLay0 = true := by simp [pd, PyData.canLay0, PyData.canLayAll0]
theorem pd_depth (z : Int × Int) : (pd z).depth = 1 := by simp [pd, PyData.depth, PyData.depthAll]
theorem pds_lay : ∀ zs : List (Int × Int), PyData.canLayAll0 (zs.map pd) = true
  | [] => by simp [PyData.canLayAll0]
  | z :: zs => by simp [PyData.canLayAll0, pd_lay z, pds_lay zs]
theorem pds_depth : ∀ zs : List (Int × Int), PyData.depthAll (zs.map pd) ≤ 1
  | [] => by simp [PyData.depthAll]
  | z :: zs => by
    have h1 := pds_depth zs
    have h2 := pd_depth z
    simp only [List.map_cons, PyData.depthAll]
    omega
theorem pd_shaped (z : Int × Int) : SeqAt.shaped (pd z) = true := by
  have h := pd_depth z
  show ((pd z).canLay0 && decide ((pd z).depth ≤ 64)) = true
  rw [Bool.and_eq_true]
  exact ⟨pd_lay z, decide_eq_true (by omega)⟩
theorem pdt_shaped (zs : List (Int × Int)) : SeqAt.shaped (.tuple (zs.map pd)) = true := by
  have h1 := pds_depth zs
  have h2 : PyData.depth (.tuple (zs.map pd)) ≤ 64 := by
    simp only [PyData.depth]
    omega
  show (PyData.canLay0 (.tuple (zs.map pd)) && decide (PyData.depth (.tuple (zs.map pd)) ≤ 64)) = true
  rw [Bool.and_eq_true]
  exact ⟨by simp only [PyData.canLay0]; exact pds_lay zs, decide_eq_true h2⟩
theorem pdl_shaped (zs : List (Int × Int)) : SeqAt.shaped (.list (zs.map pd)) = true := by
  have h1 := pds_depth zs
  have h2 : PyData.depth (.list (zs.map pd)) ≤ 64 := by
    simp only [PyData.depth]
    omega
  show (PyData.canLay0 (.list (zs.map pd)) && decide (PyData.depth (.list (zs.map pd)) ≤ 64)) = true
  rw [Bool.and_eq_true]
  exact ⟨by simp only [PyData.canLay0]; exact pds_lay zs, decide_eq_true h2⟩
theorem pd_eqv (z w : Int × Int) : PyData.eqv (pd z) (pd w) = decide (z = w) := by
  obtain ⟨a, b⟩ := z
  obtain ⟨c, e⟩ := w
  have q : PyData.eqv (pd (a, b)) (pd (c, e)) = ((a == c) && ((b == e) && true)) := by simp only [pd, PyData.eqv, PyData.eqvAll]
  rw [q]
  by_cases h1 : a = c
  · by_cases h2 : b = e
    · subst h1 h2; simp
    · rw [decide_eq_false (fun x => h2 (Prod.mk.inj x).2), beq_eq_false_iff_ne.mpr h2, Bool.false_and, Bool.and_false]
  · rw [decide_eq_false (fun x => h1 (Prod.mk.inj x).1), beq_eq_false_iff_ne.mpr h1, Bool.false_and]
theorem any_pd (zs : List (Int × Int)) (w : Int × Int) : ((zs.map pd).any fun z => PyData.eqv z (pd w)) = decide (w ∈ zs) := by
  induction zs with
  | nil => simp
  | cons z zs ih =>
    rw [List.map_cons, List.any_cons, ih, pd_eqv]
    by_cases h : z = w
    · subst h; simp
    · have h' : ¬ w = z := fun e => h e.symm
      simp [h, h']
section
variable {K : PySem.W.Frag} {H : Hp}
theorem dp_pi {v : V} {z : Int × Int} (h : rPI H v z) : Dp K H v (pd z) := by
  obtain ⟨t, rfl, ht⟩ := h
  exact .tup (.of ht) (.cons (.int _) (.cons (.int _) .nil))
theorem dp_all : ∀ {xs : List V} {zs : List (Int × Int)}, Paired (rPI H) xs zs → DpAll K H xs (zs.map pd)
  | _, _, .nil => .nil
  | _, _, .cons r t => .cons (dp_pi r) (dp_all t)
theorem dp_ties {v : V} {zs : List (Int × Int)} (h : rTup rPI H v zs) : Dp K H v (.tuple (zs.map pd)) := by
  obtain ⟨t, xs, rfl, ht, p⟩ := h
  exact .tup (.of ht) (dp_all p)
end
/-! ### posts tied -/
theorem inV2 (a b post : Int) : inV (.int post) [.int a, .int b] = decide (a = post ∨ b = post) := by
  show ((a == post) || ((b == post) || false)) = _
  by_cases h1 : a = post
  · subst h1; simp
  · by_cases h2 : b = post
    · subst h2; simp
    · simp [h1, h2]
section
variable {P : Program} {w : World} {K : PySem.W.Frag} {mg : Str → Option Value} {base : Heap} {cT cS : Addr}
def spNbr : Sp := fun vs H Q _ => ∃ (v : V) (ties : List (Int × Int)) (post : Int), vs = [v, .int post] ∧ rTup rPI H v ties ∧ ties.length ≤ 1000 ∧
  ∀ H' v' ns, Same H H' → rRow H' v' ns → ns.Perm (nb ties post) → Up ns → Q v' H'
theorem ok_neighbours (T : Tx K mg cT cS) {f : Addr} {fd : FuncData} (d : D K mg "neighbours" s_neighbours ["ties", "post"] f fd) : FnOk P w K mg base CX0 1 f fd ["ties", "post"] spNbr := by
  refine d.F.ok sc_neighbours (fun vs H Q E h => ?_) (fun cdv A outer s H vs Q E hr h => ?_)
  · obtain ⟨v, ties, post, rfl, _⟩ := h
    rfl
  · obtain ⟨v, ties, post, rfl, ⟨t, xs, rfl, ht, hp⟩, hl, q⟩ := h
    refine ⟨_, pss_one (ps_ret (pe_callTy call_tuple_of (by rfl) T.b_tuple (by decide +kernel) (pa_cons (pe_callB cr_sortedI (by rfl) T.b_sorted (by decide +kernel) (pa_cons
        (pe_lc (own := [("tie", 2)]) (g := gName 2) rfl sc_neighbours.nd (pi_tup (pv 0)) (blkOk_by (N := N_neighbours) (sc := defScope s_neighbours) (by decide +kernel)) (fun _ _ _ _ _ => pg_name (i := 2) sc_neighbours.nd rfl (Or.inl rfl))
          (fun _ _ _ _ _ => pts_one (pt_cmpR (inS (K := K) rfl) (pv 1) (pv 2) (by rfl)))
          (fun _ _ _ _ _ => pe_ifExp (pt_cmpR op_eq (pe_ix (ixT (K := K) rfl) (pv 2) pe_int (fun _ _ => rfl)) (pv 1) (nomark _)) (pe_ix (ixT (K := K) rfl) (pv 2) pe_int (fun _ _ => rfl)) (pe_ix (ixT (K := K) rfl) (pv 2) pe_int (fun _ _ => rfl)))) pa_nil)) pa_nil))), ?_⟩
    refine ⟨_, rfl, t, rfl, ⟨_, .of ht⟩, fun D hD => ?_⟩
    refine lc_fm (walk_tup (xs := xs)) rInt (fun i => ties[i]?.bind (nbOf post)) hD (fun H' s' => .of (s'.keep.tup ht)) ?_ ?_
    · rintro i x H2 H3 hi pv ⟨rfl, hx⟩
      obtain ⟨z, hz, t2, rfl, ht2⟩ := paired_get (paired_mono mono_pi pv.1.keep hp) hx
      have hlen := paired_len hp
      refine ⟨rfl, _, rfl, _, rfl, t2, _, rfl, .inr (.of ht2), rfl, rfl, _, rfl, ?_⟩
      rw [if_neg Bool.false_ne_true, inV2]
      by_cases hc : z.1 = post ∨ z.2 = post
      · rw [decide_eq_true hc]
        refine iteT ?_
        refine ⟨_, rfl, t2, _, _, _, rfl, rfl, .of ht2, at_of (j := 0) rfl rfl, _, rfl, rfl, _, rfl, ?_⟩
        have hf : ties[i]?.bind (nbOf post) = some (if z.1 = post then z.2 else z.1) := by
          rw [hz]
          show nbOf post z = _
          unfold nbOf
          rw [if_pos hc]
        by_cases h1 : z.1 = post
        · have e1 : V.int z.1 = V.int post := by rw [h1]
          rw [decide_eq_true e1]
          refine iteT ⟨_, rfl, t2, _, _, _, rfl, rfl, .of ht2, at_of (j := 1) rfl rfl, ?_⟩
          exact fm_keep mono_int pv hD (by omega) (Same.refl _) hf (by rw [if_pos h1]; rfl)
        · have e1 : ¬ V.int z.1 = V.int post := fun e => h1 (V.int.inj e)
          rw [decide_eq_false e1]
          refine iteF ⟨_, rfl, t2, _, _, _, rfl, rfl, .of ht2, at_of (j := 0) rfl rfl, ?_⟩
          exact fm_keep mono_int pv hD (by omega) (Same.refl _) hf (by rw [if_neg h1]; rfl)
      · rw [decide_eq_false hc]
        refine iteF (fm_skip mono_int pv (Same.refl _) ?_)
        rw [hz]
        show nbOf post z = _
        unfold nbOf
        rw [if_neg hc]
    · intro H2 ys s2 hD2 hp2
      have e := paired_int hp2
      subst e
      rw [paired_len hp, fm_list] at hD2
      refine ⟨D, _, rfl, .of hD2, fun ns' p hperm hup np => ?_⟩
      refine ⟨p, _, rfl, .inl ⟨.of upd_same, fun l hl2 => ?_⟩⟩
      have s3 : Same H (upd H2 p (.lst (ns'.map V.int))) := s2.trans (same_new np)
      exact q _ _ ns' (s3.trans (same_new hl2)) ⟨l, rfl, upd_same⟩ hperm hup
end
end S4

namespace S4
open PySem L2 TT MM
/-! ### reached -/
def kf (l : List Int) : List (L2.Key × V) := l.map fun k => (Sum.inl k, V.bl true)
theorem kf_look : ∀ (l : List Int) (n : Int), valV (kf l) (Sum.inl n) = if n ∈ l then some (V.bl true) else none
  | [], n => by simp [kf, valV_nil]
  | a :: l, n => by
    show valV ((Sum.inl a, V.bl true) :: kf l) (Sum.inl n) = _
    by_cases e : a = n
    · subst e
      rw [valV_pos rfl, if_pos (by simp)]
    · have e' : ¬ (Sum.inl a : L2.Key) = Sum.inl n := fun q => e (Sum.inl.inj q)
      rw [valV_neg e', kf_look l n]
      by_cases h : n ∈ l
      · rw [if_pos h, if_pos (by simp [h])]
      · rw [if_neg h, if_neg (by simp [h]; exact fun q => e q.symm)]
theorem kf_put {l : List Int} {n : Int} (h : n ∉ l) : putK (kf l) (Sum.inl n) (V.bl true) = kf (l ++ [n]) := by
  rw [putK_new _ (by rw [kf_look, if_neg h])]
  simp [kf]
theorem kf_len (l : List Int) : (kf l).length = l.length := by simp [kf]
theorem kf_keys (l : List Int) : (kf l).map (·.1) = l.map Sum.inl := by simp [kf]
def optV : Option Int → V
  | none => .non
  | some b => .int b
section
variable {P : Program} {w : World} {K : PySem.W.Frag} {mg : Str → Option Value} {base : Heap} {cT cS : Addr}
def spReached : Sp := fun vs H Q _ => ∃ (v : V) (ties : List (Int × Int)) (st : Int) (bar : Option Int) (U : List Int), vs = [v, .int st, optV bar] ∧ rTup rPI H v ties ∧ ties.length ≤ 1000 ∧ Shut ties U ∧ st ∈ U ∧ U.length < 64 ∧
  ∀ H' v' ns, Same H H' → rRow H' v' ns → Up ns → ns.Nodup → (∀ x, x ∈ ns ↔ Rch ties bar st x) → Q v' H'
/-- the two that stand in the walk -/
structure RS (H0 : Hp) (df dw : Addr) (fnd wt : List Int) (H : Hp) : Prop where
  same : Same H0 H
  f0 : H0 df = none
  w0 : H0 dw = none
  fd : H df = some (.dK (kf fnd))
  wd : H dw = some (.lst (wt.map V.int))
theorem RS.ne {H0 : Hp} {df dw : Addr} {fnd wt : List Int} {H : Hp} (r : RS H0 df dw fnd wt H) : df ≠ dw := ne_of r.fd r.wd (fun q => nomatch q)
theorem RS.more {H0 : Hp} {df dw : Addr} {fnd wt : List Int} {H H' : Hp} (r : RS H0 df dw fnd wt H) (s : Same H H') : RS H0 df dw fnd wt H' := ⟨r.same.trans s, r.f0, r.w0, s _ _ r.fd, s _ _ r.wd⟩
theorem RS.setW {H0 : Hp} {df dw : Addr} {fnd wt : List Int} {H : Hp} (r : RS H0 df dw fnd wt H) (wt' : List Int) : RS H0 df dw fnd wt' (upd H dw (.lst (wt'.map V.int))) :=
  ⟨same_own r.same r.w0, r.f0, r.w0, by rw [upd_ne r.ne]; exact r.fd, upd_same⟩
theorem RS.setF {H0 : Hp} {df dw : Addr} {fnd wt : List Int} {H : Hp} (r : RS H0 df dw fnd wt H) (fnd' : List Int) : RS H0 df dw fnd' wt (upd H df (.dK (kf fnd'))) :=
  ⟨same_own r.same r.f0, r.f0, r.w0, upd_same, by rw [upd_ne r.ne.symm]; exact r.wd⟩
theorem ok_reached (T : Tx K mg cT cS) {f : Addr} {fd : FuncData} (d : D K mg "reached" s_reached ["ties", "start", "barred"] f fd) : FnOk P w K mg base CX0 2 f fd ["ties", "start", "barred"] spReached := by
  obtain ⟨f1, fd1, d1⟩ := T.d_neighbours
  have G1 : FnOk P w K mg base CX0 1 f1 fd1 ["ties", "post"] spNbr := ok_neighbours T d1
  refine d.F.ok sc_reached (fun vs H Q E h => ?_) (fun cdv A outer s H vs Q E hr h => ?_)
  · obtain ⟨v, ties, st, bar, U, rfl, _⟩ := h
    rfl
  · obtain ⟨v, ties, st, bar, U, rfl, hties, hl, hU, hst, hU64, q⟩ := h
    refine ⟨_, pss_cons (ps_set (i := 3) sc_reached.nd rfl (.inl rfl) (pe_disp (pps_cons (pv 1) pe_bl pps_nil) (by rfl) (by rfl) (fun z => by cases z) (by decide)))
      (pss_cons (ps_set (i := 4) sc_reached.nd rfl (.inl rfl) (pe_lst (pa_cons (pv 1) pa_nil)))
      (pss_cons (ps_while PassesOwn.never (pt_truth (pv 4) (by intro _; rfl))
        (pss_cons (ps_set (i := 5) sc_reached.nd rfl (.inl rfl) (pe_bm0 PySem.F.plainAttrs_list PySem.F.slot_list_pop PySem.F.type_list_pop mt_pop (pv 4)))
          (pss_one (ps_for PassesOwn.never rfl (pi_tup (pe_call G1 hr rfl d1.m d1.F.kp d1.b .nil pass0 (pa_cons (pv 0) (pa_cons (pv 5) pa_nil)))) (pg_name (i := 6) sc_reached.nd rfl (Or.inl rfl))
            (pss_one (ps_if (PW.pt (pw_and (pt_cmpR op_ne (pv 6) (pv 2) (nomark _)) (pw_and1 (pt_cmp (pc_dnotin (hu_of hr) (pv 6) (pv 3))))))
              (pss_cons (ps_dput (hu_of hr) (pv 3) (pv 6) pe_bl rfl)
                (pss_one (ps_expr (pe_bm PySem.F.plainAttrs_list PySem.F.slot_list_append PySem.F.type_list_append mt_append (pv 4) (pa_cons (pv 6) pa_nil))))) pss_nil))))))
      (pss_one (ps_ret (pe_callTy call_tuple_of (by rfl) T.b_tuple (by decide +kernel) (pa_cons (pe_callB (call_sortedDI rfl) (by rfl) T.b_sorted (by decide +kernel) (pa_cons (pv 3) pa_nil)) pa_nil)))))), ?_⟩
    obtain ⟨t, xs, rfl, ht, hp⟩ := id hties
    intro df hdf
    refine ⟨_, rfl, upd_same, [(Sum.inl st, V.bl true)], rfl, by show 1 ≤ 15; decide, ?_⟩
    rw [upd_upd]
    refine ⟨_, rfl, by show 1 ≤ sizeLine; decide, fun dw hdw => ?_⟩
    have hne : dw ≠ df := fun e => by subst e; rw [upd_same] at hdw; cases hdw
    have hdw0 : H dw = none := by rw [upd_ne hne] at hdw; exact hdw
    have R0 : RS H df dw [st] [st] (upd (upd H df (.dK (mergeK [] [(Sum.inl st, V.bl true)]))) dw (.lst [V.int st])) :=
      ⟨same_own (same_new hdf) hdw0, hdf, hdw0, by rw [upd_ne hne.symm, upd_same]; rfl, upd_same⟩
    dsimp only [gName, tSeq]
    refine while_by (fun σ H' => ∃ (fnd wt : List Int) (h p : Option V), σ = [some (.ref t), some (.int st), some (optV bar), some (.ref df), some (.ref dw), h, p] ∧ RS H df dw fnd wt H' ∧ RI ties bar st none fnd wt)
      (fun σ H' => match H' df, H' dw with | some (.dK a), some (.lst b) => 2 * (64 - a.length) + b.length | _, _ => 0) ⟨[st], [st], none, none, rfl, R0, .start⟩ ?_ ?_
    · rintro σ H1 ⟨fnd, wt, h0, p0, rfl, R, I⟩
      refine ⟨_, rfl, _, .inl ⟨_, .of R.wd, rfl⟩, ?_⟩
      have hmu : (match H1 df, H1 dw with | some (.dK a), some (.lst b) => 2 * (64 - a.length) + b.length | _, _ => 0) = 2 * (64 - fnd.length) + wt.length := by
        rw [R.fd, R.wd]
        show 2 * (64 - (kf fnd).length) + (wt.map V.int).length = _
        rw [kf_len, List.length_map]
      rw [hmu]
      cases hw : wt with
      | nil =>
        subst hw
        refine iteF ?_
        have hlen := I.len hU hst
        refine ⟨_, rfl, df, _, fnd, rfl, .of R.fd, kf_keys fnd, by omega, fun ys p hperm hup np => ?_⟩
        refine ⟨p, _, rfl, .inl ⟨.of upd_same, fun l hl2 => ?_⟩⟩
        refine q _ _ ys ((R.same.trans (same_new np)).trans (same_new hl2)) ⟨l, rfl, upd_same⟩ hup (hperm.symm.nodup I.nd) fun x => ?_
        rw [hperm.mem_iff]
        exact I.done x
      | cons w0 wr =>
        rw [← hw]
        have hpos : 0 < wt.length := by rw [hw]; simp
        have hemp : (!(wt.map V.int).isEmpty) = true := by rw [hw]; rfl
        rw [hemp]
        refine iteT ?_
        have hlast : wt[wt.length - 1]? = some wt[wt.length - 1] := List.getElem?_eq_getElem (by omega)
        obtain ⟨h, hh⟩ : ∃ h, wt[wt.length - 1]? = some h := ⟨_, hlast⟩
        refine ⟨_, rfl, .inl ⟨rfl, _, .of R.wd⟩, dw, _, V.int h, rfl, rfl, R.wd, by rw [List.length_map]; exact int_at hh, ?_⟩
        have I1 := I.pop hh
        have R1 : RS H df dw fnd wt.dropLast (upd H1 dw (.lst (wt.map V.int).dropLast)) := by
          have := R.setW wt.dropLast
          rw [List.map_dropLast] at this
          exact this
        have hdl : wt.dropLast.length = wt.length - 1 := List.length_dropLast
        refine ⟨_, rfl, _, rfl, .ref t, ties, h, rfl, ⟨t, xs, rfl, R1.same _ _ ht, paired_mono mono_pi R1.same.keep hp⟩, hl, fun H2 v2 ns s2 hrow hperm hup => ?_⟩
        obtain ⟨t2, rfl, ht2⟩ := hrow
        have R2 := R1.more s2
        refine ⟨t2, rfl, ⟨_, .of ht2⟩, ?_⟩
        refine for_tup (K := K) (a := t2) (xs := ns.map V.int) (fun i σ H' => ∃ (fnd' wt' : List Int) (p : Option V), σ = [some (.ref t), some (.int st), some (optV bar), some (.ref df), some (.ref dw), some (.int h), p] ∧ RS H df dw fnd' wt' H' ∧ H' t2 = some (.tup (ns.map V.int)) ∧
          RI ties bar st (some h) fnd' wt' ∧ (∀ j v, j < i → ns[j]? = some v → bar ≠ some v → v ∈ fnd') ∧ 2 * (64 - fnd'.length) + wt'.length ≤ 2 * (64 - fnd.length) + (wt.length - 1))
          ⟨fnd, wt.dropLast, p0, rfl, R2, ht2, I1, fun j v hj => absurd hj (Nat.not_lt_zero _), by rw [hdl]; exact Nat.le_refl _⟩ (fun i σ H' _ ⟨_, _, _, _, _, e, _⟩ => .of e) ?_ ?_
        · rintro i x σ H3 hx ⟨fnd', wt', p, rfl, R3, ht3, I3, hc, hm⟩
          obtain ⟨n, hn, rfl⟩ := at_int hx
          have hsc : scal (V.int n) (optV bar) = true := by cases bar <;> rfl
          have hdec : (!decide (V.int n = optV bar)) = decide (bar ≠ some n) := by
            cases bar with
            | none => simp [optV]
            | some b =>
              by_cases e : n = b
              · subst e; simp [optV]
              · have e' : ¬ b = n := fun q => e q.symm
                simp [optV, e, e']
          refine ⟨_, rfl, _, rfl, hsc, _, rfl, ?_⟩
          rw [hdec]
          by_cases hb : bar ≠ some n
          · rw [decide_eq_true hb]
            refine iteT ⟨_, rfl, _, rfl, df, _, rfl, .k (k := Sum.inl n) R3.fd, _, rfl, ?_⟩
            rw [kf_look]
            by_cases hin : n ∈ fnd'
            · rw [if_pos hin]
              refine iteF ⟨fnd', wt', _, rfl, R3, ht3, I3, fun j v hj hv hbv => ?_, hm⟩
              by_cases ej : j = i
              · subst ej
                rw [hn] at hv
                cases hv
                exact hin
              · exact hc j v (by omega) hv hbv
            · rw [if_neg hin]
              refine iteT ?_
              have hnb : n ∈ nb ties h := hperm.mem_iff.mp (List.mem_of_getElem? hn)
              have I4 := I3.add hnb hb hin
              have l4 := I4.len hU hst
              have l3 := I3.len hU hst
              have lw : wt'.length ≤ 2 * 64 + wt.length := by omega
              have lw2 : wt.length ≤ 100000 ∨ True := .inr trivial
              refine ⟨_, rfl, _, rfl, df, _, rfl, .k (k := Sum.inl n) R3.fd (by rw [kf_len]; exact Nat.lt_of_le_of_lt (Nat.le_trans l3 (Nat.le_of_lt hU64)) (by decide)), ?_⟩
              rw [kf_put hin]
              have R4 := R3.setF (fnd' ++ [n])
              refine ⟨_, rfl, .inl ⟨rfl, _, .of R4.wd⟩, _, rfl, dw, _, _, rfl, rfl, R4.wd, ?_, ?_⟩
              · have := I3.wl
                rw [List.length_map]
                exact Nat.lt_of_le_of_lt (Nat.le_trans this (Nat.le_trans l3 (Nat.le_of_lt hU64))) (by decide)
              have R5 := R4.setW (wt' ++ [n])
              rw [List.map_append] at R5
              refine ⟨fnd' ++ [n], wt' ++ [n], _, rfl, R5, ?_, I4, fun j v hj hv hbv => ?_, ?_⟩
              · rw [upd_ne (ne_of ht3 R3.wd (fun z => nomatch z)), upd_ne (ne_of ht3 R3.fd (fun z => nomatch z))]
                exact ht3
              · by_cases ej : j = i
                · subst ej
                  rw [hn] at hv
                  cases hv
                  simp
                · exact List.mem_append_left _ (hc j v (by omega) hv hbv)
              · rw [List.length_append, List.length_append, List.length_singleton]
                rw [List.length_append, List.length_singleton] at l4
                omega
          · rw [decide_eq_false hb]
            refine iteF (iteF ⟨fnd', wt', _, rfl, R3, ht3, I3, fun j v hj hv hbv => ?_, hm⟩)
            by_cases ej : j = i
            · subst ej
              rw [hn] at hv
              cases hv
              exact absurd hbv hb
            · exact hc j v (by omega) hv hbv
        · rintro σ H3 ⟨fnd', wt', p, rfl, R3, ht3, I3, hc, hm⟩
          refine ⟨⟨fnd', wt', _, _, rfl, R3, I3.close fun v hv hb => ?_⟩, ?_⟩
          · have hv' := hperm.mem_iff.mpr hv
            obtain ⟨j, hj⟩ := List.getElem?_of_mem hv'
            exact hc j v (by rw [List.length_map]; exact (List.getElem?_eq_some_iff.mp hj).1) hj hb
          · rw [R3.fd, R3.wd]
            show 2 * (64 - (kf fnd').length) + (wt'.map V.int).length < _
            rw [kf_len, List.length_map]
            omega
    · rintro σ H' Q1 Q2 i ⟨v, e1, k, e2, h⟩
      exact ⟨v, e1, k, e2, i _ _ h⟩
end
end S4

namespace S4
open PySem L2 TT MM
/-! ### a tree in the heap -/
def tfs (t : Addr) (n : Int) : List (Str × V) := putF "posts" (.int n) (putF "ties" (.ref t) [])
theorem tfs_ties (t : Addr) (n : Int) : (tfs t n).lookup ("ties" : Str) = some (.ref t) := by
  unfold tfs
  rw [lookup_putF, if_neg (by decide +kernel), lookup_putF, if_pos rfl]
theorem tfs_posts (t : Addr) (n : Int) : (tfs t n).lookup ("posts" : Str) = some (.int n) := by
  unfold tfs
  rw [lookup_putF, if_pos rfl]
def rTree (cT : Addr) : Rp (List (Int × Int)) := fun H v ties => ∃ a dx t xs, v = .ref a ∧ H a = some (.ins cT dx (tfs t ((ties.length : Int) + 1))) ∧ H t = some (.tup xs) ∧ Paired (rPI H) xs ties
theorem mono_tree (cT : Addr) : Mono (rTree cT) := fun _ _ _ _ k ⟨a, dx, t, xs, e, h1, h2, h3⟩ => ⟨a, dx, t, xs, e, k.ins h1, k.tup h2, paired_mono mono_pi k h3⟩
theorem mem_ties {K : PySem.W.Frag} {H : Hp} {v u : V} {z : Int × Int} {ties : List (Int × Int)} (h : rPI H v z) (h2 : rTup rPI H u ties) {Q : V → Hp → Prop} (q : Q (.bl (decide (z ∈ ties))) H) : rInT K v u H Q :=
  ⟨pd z, ties.map pd, dp_pi h, dp_ties h2, pd_shaped z, pdt_shaped ties, by rw [any_pd]; exact q⟩
section
variable {P : Program} {w : World} {K : PySem.W.Frag} {mg : Str → Option Value} {base : Heap} {cT cS : Addr}
def spIsTie : Sp := fun vs H Q _ => ∃ (v : V) (z : Int × Int) (n : Int), vs = [v, .int n] ∧ rPI H v z ∧ 0 ≤ z.1 ∧ z.1 < z.2 ∧ z.2 < n ∧ ∀ H', Same H H' → Q (.bl true) H'
theorem two_at {a b : Int} {i : Nat} {x : V} (h : [V.int a, V.int b][i]? = some x) : x = .int a ∨ x = .int b := by
  match i, h with
  | 0, h => exact .inl (Option.some.inj h).symm
  | 1, h => exact .inr (Option.some.inj h).symm
theorem all_true_fm {n : Nat} {bs : List Bool} (h : bs = (List.range n).filterMap fun _ => some true) : bs.all id = true := all_true fun b hb => by
  rw [h] at hb
  obtain ⟨_, _, e⟩ := List.mem_filterMap.mp hb
  exact (Option.some.inj e).symm
theorem ok_is_tie (T : Tx K mg cT cS) {f : Addr} {fd : FuncData} (d : D K mg "is_tie" s_is_tie ["thing", "posts"] f fd) : FnOk P w K mg base CX0 3 f fd ["thing", "posts"] spIsTie := by
  obtain ⟨f1, fd1, d1⟩ := T.d_is_below
  have G1 : FnOk P w K mg base CX0 2 f1 fd1 ["thing", "end"] spIsBelow := ok_is_below T d1
  obtain ⟨f2, fd2, d2⟩ := T.d_is_pair
  have G2 : FnOk P w K mg base CX0 1 f2 fd2 ["thing"] spIsPair := ok_is_pair T d2
  refine d.F.ok sc_is_tie (fun vs H Q E h => ?_) (fun cdv A outer s H vs Q E hr h => ?_)
  · obtain ⟨v, z, n, rfl, _⟩ := h
    rfl
  · obtain ⟨v, ⟨a, b⟩, n, rfl, ⟨t, rfl, ht⟩, h0, h1, h2, q⟩ := h
    simp only at h0 h1 h2 ht
    refine ⟨_, pss_cons (ps_if (PW.pt (pw_or (pt_not (pt_val (pe_call G2 (hr.mono (by decide)) rfl d2.m d2.F.kp d2.b .nil pass0 (pa_cons (pv 0) pa_nil))))
        (pw_or1 (pt_not (pt_val (pe_callB (cr_all rfl) (by rfl) T.b_all (by decide +kernel) (pa_cons
        (pe_lc (own := [("post", 2)]) (g := gName 2) (tt := tYes) rfl sc_is_tie.nd (pi_tup (pv 0)) (blkOk_by (N := N_is_tie) (sc := defScope s_is_tie) (by decide +kernel)) (fun _ _ _ _ _ => pg_name (i := 2) sc_is_tie.nd rfl (Or.inl rfl)) (fun _ _ _ _ _ => pts_nil)
          (fun _ _ _ _ _ => pe_call G1 hr rfl d1.m d1.F.kp d1.b .nil pass0 (pa_cons (pv 2) (pa_cons (pv 1) pa_nil)))) pa_nil))))))) (pss_one (ps_ret pe_bl)) pss_nil)
      (pss_one (ps_ret (pe_cmpR op_lt (pe_ix ix_tup (pv 0) pe_int (fun _ _ => rfl)) (pe_ix ix_tup (pv 0) pe_int (fun _ _ => rfl)) (nomark _)))), ?_⟩
    refine ⟨_, rfl, t, _, _, rfl, ht, _, rfl, iteF ⟨_, rfl, t, rfl, ⟨_, .of ht⟩, fun D hD => ?_⟩⟩
    refine lc_fm (walk_tup (xs := [V.int a, V.int b])) rBl (fun _ => some true) hD (fun H' s' => .of (s'.keep.tup ht)) ?_ ?_
    · rintro i x H2 H3 hi pv ⟨rfl, hx⟩
      have hi2 : i < 2 := hi
      rcases two_at hx with rfl | rfl
      · refine ⟨rfl, _, rfl, _, rfl, a, n, rfl, ?_⟩
        rw [decide_eq_true ⟨h0, by omega⟩]
        exact fm_keep mono_bl pv hD (by omega) (Same.refl _) rfl rfl
      · refine ⟨rfl, _, rfl, _, rfl, b, n, rfl, ?_⟩
        rw [decide_eq_true ⟨by omega, h2⟩]
        exact fm_keep mono_bl pv hD (by omega) (Same.refl _) rfl rfl
    · intro H2 xs s2 hD2 hp
      have := paired_bl hp
      subst this
      refine ⟨_, _, rfl, .of hD2, _, rfl, ?_⟩
      rw [all_true_fm rfl]
      have ht2 := s2.keep.tup ht
      refine iteF ⟨_, rfl, t, _, _, _, rfl, rfl, .of ht2, at_of (j := 0) rfl rfl, _, rfl, t, _, _, _, rfl, rfl, .of ht2, at_of (j := 1) rfl rfl, _, _, rfl, rfl, ?_⟩
      show Q (V.bl (decide (a < b))) H2
      rw [decide_eq_true h1]
      exact q _ s2
def spIsWay (cT : Addr) : Sp := fun vs H Q _ => ∃ (u v : V) (ties : List (Int × Int)) (z : Int × Int), vs = [u, v] ∧ rTree cT H u ties ∧ rPI H v z ∧ 0 ≤ z.1 ∧ 0 ≤ z.2 ∧ z.1 < (ties.length : Int) + 1 ∧ z.2 < (ties.length : Int) + 1 ∧ (z ∈ ties ∨ z.swap ∈ ties) ∧
  ∀ H', Same H H' → Q (.bl true) H'
theorem ok_is_way (T : Tx K mg cT cS) {f : Addr} {fd : FuncData} (d : D K mg "is_way" s_is_way ["tree", "thing"] f fd) : FnOk P w K mg base CX0 3 f fd ["tree", "thing"] (spIsWay cT) := by
  obtain ⟨f1, fd1, d1⟩ := T.d_is_below
  have G1 : FnOk P w K mg base CX0 2 f1 fd1 ["thing", "end"] spIsBelow := ok_is_below T d1
  obtain ⟨f2, fd2, d2⟩ := T.d_is_pair
  have G2 : FnOk P w K mg base CX0 1 f2 fd2 ["thing"] spIsPair := ok_is_pair T d2
  obtain ⟨fT, fdT, kT⟩ := T.k_Tree
  have nP : NoAttr K cT "posts" := kT.na _ (by simp)
  have nT : NoAttr K cT "ties" := kT.na _ (by simp)
  refine d.F.ok sc_is_way (fun vs H Q E h => ?_) (fun cdv A outer s H vs Q E hr h => ?_)
  · obtain ⟨u, v, ties, z, rfl, _⟩ := h
    rfl
  · obtain ⟨u, v, ties, ⟨a, b⟩, rfl, ⟨tr, dx, t, xs, rfl, hI, ht, hp⟩, ⟨tz, rfl, hz⟩, h0, h1, h2, h3, hm, q⟩ := h
    simp only at h0 h1 h2 h3 hz
    refine ⟨_, pss_cons (ps_if (PW.pt (pw_or (pt_not (pt_val (pe_call G2 (hr.mono (by decide)) rfl d2.m d2.F.kp d2.b .nil pass0 (pa_cons (pv 1) pa_nil))))
        (pw_or1 (pt_not (pt_val (pe_callB (cr_all rfl) (by rfl) T.b_all (by decide +kernel) (pa_cons
        (pe_lc (own := [("post", 2)]) (g := gName 2) (tt := tYes) rfl sc_is_way.nd (pi_tup (pv 1)) (blkOk_by (N := N_is_way) (sc := defScope s_is_way) (by decide +kernel)) (fun _ _ _ _ _ => pg_name (i := 2) sc_is_way.nd rfl (Or.inl rfl)) (fun _ _ _ _ _ => pts_nil)
          (fun _ _ _ _ _ => pe_call G1 hr rfl d1.m d1.F.kp d1.b .nil pass0 (pa_cons (pv 2) (pa_cons (fldK (K := K) (pv 0) rfl rfl) pa_nil)))) pa_nil))))))) (pss_one (ps_ret pe_bl)) pss_nil)
      (pss_one (ps_ret (pe_or (pe_cmpR (op_inT (hu65 hr)) (pv 1) (pe_fld (pv 0) rfl) (by rfl))
        (pe_one (pe_cmpR (op_inT (hu65 hr)) (pe_tup (pa_cons (pe_ix ix_tup (pv 1) pe_int (fun _ _ => rfl)) (pa_cons (pe_ix ix_tup (pv 1) pe_int (fun _ _ => rfl)) pa_nil))) (pe_fld (pv 0) rfl) (by rfl)))))), ?_⟩
    refine ⟨_, rfl, tz, _, _, rfl, hz, _, rfl, iteF ⟨_, rfl, tz, rfl, ⟨_, .of hz⟩, fun D hD => ?_⟩⟩
    refine lc_fm (walk_tup (xs := [V.int a, V.int b])) rBl (fun _ => some true) hD (fun H' s' => .of (s'.keep.tup hz)) ?_ ?_
    · rintro i x H2 H3 hi pv ⟨rfl, hx⟩
      have hi2 : i < 2 := hi
      have hI3 := pv.1.keep.ins hI
      rcases two_at hx with rfl | rfl
      · refine ⟨rfl, _, rfl, _, rfl, tr, cT, dx, _, _, rfl, hI3, kT.cl, nP, tfs_posts _ _, a, _, rfl, ?_⟩
        rw [decide_eq_true ⟨h0, h2⟩]
        exact fm_keep mono_bl pv hD (by omega) (Same.refl _) rfl rfl
      · refine ⟨rfl, _, rfl, _, rfl, tr, cT, dx, _, _, rfl, hI3, kT.cl, nP, tfs_posts _ _, b, _, rfl, ?_⟩
        rw [decide_eq_true ⟨h1, h3⟩]
        exact fm_keep mono_bl pv hD (by omega) (Same.refl _) rfl rfl
    · intro H2 ys s2 hD2 hp2
      have := paired_bl hp2
      subst this
      refine ⟨_, _, rfl, .of hD2, _, rfl, ?_⟩
      rw [all_true_fm rfl]
      have hz2 := s2.keep.tup hz
      have hI2 := s2.keep.ins hI
      have ht2 := s2.keep.tup ht
      have hp3 := paired_mono mono_pi s2.keep hp
      refine iteF ⟨_, rfl, _, rfl, tr, cT, dx, _, _, rfl, hI2, kT.cl, nT, tfs_ties _ _, mem_ties (z := (a, b)) ⟨tz, rfl, hz2⟩ ⟨t, xs, rfl, ht2, hp3⟩ ?_⟩
      refine ⟨_, rfl, ?_⟩
      by_cases hc : (a, b) ∈ ties
      · rw [decide_eq_true hc]
        exact iteT (q _ s2)
      · rw [decide_eq_false hc]
        have hc2 : (b, a) ∈ ties := hm.resolve_left hc
        refine iteF ⟨_, rfl, tz, _, _, _, rfl, rfl, .of hz2, at_of (j := 1) rfl rfl, _, rfl, tz, _, _, _, rfl, rfl, .of hz2, at_of (j := 0) rfl rfl, by show 2 ≤ sizeLine; decide, fun p np => ?_⟩
        have s3 := same_new (o := .tup [V.int b, V.int a]) np
        refine ⟨_, rfl, tr, cT, dx, _, _, rfl, s3.keep.ins hI2, kT.cl, nT, tfs_ties _ _, mem_ties (z := (b, a)) ⟨p, rfl, upd_same⟩ ⟨t, xs, rfl, s3.keep.tup ht2, paired_mono mono_pi s3.keep hp3⟩ ?_⟩
        rw [decide_eq_true hc2]
        exact q _ (s2.trans s3)
end
end S4

namespace S4
open PySem L2 TT MM
section
variable {P : Program} {w : World} {K : PySem.W.Frag} {mg : Str → Option Value} {base : Heap} {cT cS : Addr}
def spTied (cT : Addr) : Sp := fun vs H Q _ => ∃ (u : V) (ties : List (Int × Int)) (post : Int), vs = [u, .int post] ∧ rTree cT H u ties ∧ ties.length ≤ 1000 ∧ 0 ≤ post ∧ post < (ties.length : Int) + 1 ∧
  ∀ H' v' ns, Same H H' → rRow H' v' ns → ns.Perm (nb ties post) → Up ns → Q v' H'
theorem ok_tied (T : Tx K mg cT cS) {f : Addr} {fd : FuncData} (d : D K mg "tied" s_tied ["tree", "post"] f fd) : FnOk P w K mg base CX0 3 f fd ["tree", "post"] (spTied cT) := by
  obtain ⟨f1, fd1, d1⟩ := T.d_is_below
  have G1 : FnOk P w K mg base CX0 2 f1 fd1 ["thing", "end"] spIsBelow := ok_is_below T d1
  obtain ⟨f2, fd2, d2⟩ := T.d_neighbours
  have G2 : FnOk P w K mg base CX0 1 f2 fd2 ["ties", "post"] spNbr := ok_neighbours T d2
  obtain ⟨fT, fdT, kT⟩ := T.k_Tree
  have nP : NoAttr K cT "posts" := kT.na _ (by simp)
  have nT : NoAttr K cT "ties" := kT.na _ (by simp)
  refine d.F.ok sc_tied (fun vs H Q E h => ?_) (fun cdv A outer s H vs Q E hr h => ?_)
  · obtain ⟨u, ties, post, rfl, _⟩ := h
    rfl
  · obtain ⟨u, ties, post, rfl, ⟨tr, dx, t, xs, rfl, hI, ht, hp⟩, hl, h0, h1, q⟩ := h
    refine ⟨_, pss_cons (ps_if (pt_not (pt_val (pe_call G1 hr rfl d1.m d1.F.kp d1.b .nil pass0 (pa_cons (pv 1) (pa_cons (pe_fld (pv 0) rfl) pa_nil))))) pss_never pss_nil)
      (pss_one (ps_ret (pe_call G2 (hr.mono (by decide)) rfl d2.m d2.F.kp d2.b .nil pass0 (pa_cons (pe_fld (pv 0) rfl) (pa_cons (pv 1) pa_nil))))), ?_⟩
    refine ⟨_, rfl, _, rfl, tr, cT, dx, _, _, rfl, hI, kT.cl, nP, tfs_posts _ _, post, _, rfl, ?_⟩
    rw [decide_eq_true ⟨h0, h1⟩]
    refine ⟨_, rfl, iteF ⟨_, rfl, tr, cT, dx, _, _, rfl, hI, kT.cl, nT, tfs_ties _ _, _, rfl, .ref t, ties, post, rfl, ⟨t, xs, rfl, ht, hp⟩, hl, q⟩⟩
def spThis (cT : Addr) : Sp := fun vs H Q _ => ∃ (u v : V) (ties : List (Int × Int)) (z : Int × Int) (U : List Int), vs = [u, v] ∧ rTree cT H u ties ∧ rPI H v z ∧ ties.length ≤ 1000 ∧ Shut ties U ∧ z.1 ∈ U ∧ U.length < 64 ∧
  ∀ H' v' ns, Same H H' → rRow H' v' ns → Up ns → ns.Nodup → (∀ x, x ∈ ns ↔ Rch ties (some z.2) z.1 x) → Q v' H'
theorem ok_this_side (T : Tx K mg cT cS) {f : Addr} {fd : FuncData} (d : D K mg "this_side" s_this_side ["tree", "way"] f fd) : FnOk P w K mg base CX0 3 f fd ["tree", "way"] (spThis cT) := by
  obtain ⟨f2, fd2, d2⟩ := T.d_reached
  have G2 : FnOk P w K mg base CX0 2 f2 fd2 ["ties", "start", "barred"] spReached := ok_reached T d2
  obtain ⟨fT, fdT, kT⟩ := T.k_Tree
  have nT : NoAttr K cT "ties" := kT.na _ (by simp)
  refine d.F.ok sc_this_side (fun vs H Q E h => ?_) (fun cdv A outer s H vs Q E hr h => ?_)
  · obtain ⟨u, v, ties, z, U, rfl, _⟩ := h
    rfl
  · obtain ⟨u, v, ties, z, U, rfl, ⟨tr, dx, t, xs, rfl, hI, ht, hp⟩, ⟨tz, rfl, hz⟩, hl, hU, h0, h64, q⟩ := h
    refine ⟨_, pss_cons (ps_asg (pv 1) (pg_tup rfl (pgs_cons (pg_name (i := 2) sc_this_side.nd rfl (.inl rfl)) (pgs_cons (pg_name (i := 3) sc_this_side.nd rfl (.inl rfl)) pgs_nil))))
      (pss_one (ps_ret (pe_call G2 hr rfl d2.m d2.F.kp d2.b .nil pass0 (pa_cons (pe_fld (pv 0) rfl) (pa_cons (pv 2) (pa_cons (pv 3) pa_nil)))))), ?_⟩
    exact ⟨_, rfl, tz, _, rfl, .of hz, rfl, _, _, rfl, _, _, rfl, rfl, _, rfl, tr, cT, dx, _, _, rfl, hI, kT.cl, nT, tfs_ties _ _, _, rfl, _, rfl, .ref t, ties, z.1, some z.2, U, rfl, ⟨t, xs, rfl, ht, hp⟩, hl, hU, h0, h64, q⟩
def spBeyond (cT : Addr) : Sp := fun vs H Q _ => ∃ (u v : V) (ties : List (Int × Int)) (z : Int × Int) (U : List Int), vs = [u, v] ∧ rTree cT H u ties ∧ rPI H v z ∧ ties.length ≤ 1000 ∧ Shut ties U ∧ z.2 ∈ U ∧ U.length < 64 ∧
  0 ≤ z.1 ∧ 0 ≤ z.2 ∧ z.1 < (ties.length : Int) + 1 ∧ z.2 < (ties.length : Int) + 1 ∧ (z ∈ ties ∨ z.swap ∈ ties) ∧
  ∀ H' v' ns, Same H H' → rRow H' v' ns → Up ns → ns.Nodup → (∀ x, x ∈ ns ↔ Rch ties (some z.1) z.2 x) → Q v' H'
theorem ok_beyond (T : Tx K mg cT cS) {f : Addr} {fd : FuncData} (d : D K mg "beyond" s_beyond ["tree", "way"] f fd) : FnOk P w K mg base CX0 4 f fd ["tree", "way"] (spBeyond cT) := by
  obtain ⟨f1, fd1, d1⟩ := T.d_is_way
  have G1 : FnOk P w K mg base CX0 3 f1 fd1 ["tree", "thing"] (spIsWay cT) := ok_is_way T d1
  obtain ⟨f2, fd2, d2⟩ := T.d_reached
  have G2 : FnOk P w K mg base CX0 2 f2 fd2 ["ties", "start", "barred"] spReached := ok_reached T d2
  obtain ⟨fT, fdT, kT⟩ := T.k_Tree
  have nT : NoAttr K cT "ties" := kT.na _ (by simp)
  refine d.F.ok sc_beyond (fun vs H Q E h => ?_) (fun cdv A outer s H vs Q E hr h => ?_)
  · obtain ⟨u, v, ties, z, U, rfl, _⟩ := h
    rfl
  · obtain ⟨u, v, ties, z, U, rfl, hu, ⟨tz, rfl, hz⟩, hl, hU, h0, h64, a1, a2, a3, a4, a5, q⟩ := h
    refine ⟨_, pss_cons (ps_if (pt_not (pt_val (pe_call G1 hr rfl d1.m d1.F.kp d1.b .nil pass0 (pa_cons (pv 0) (pa_cons (pv 1) pa_nil))))) pss_never pss_nil)
      (pss_cons (ps_asg (pv 1) (pg_tup rfl (pgs_cons (pg_name (i := 2) sc_beyond.nd rfl (.inl rfl)) (pgs_cons (pg_name (i := 3) sc_beyond.nd rfl (.inl rfl)) pgs_nil))))
      (pss_one (ps_ret (pe_call G2 (hr.mono (by decide)) rfl d2.m d2.F.kp d2.b .nil pass0 (pa_cons (pe_fld (pv 0) rfl) (pa_cons (pv 3) (pa_cons (pv 2) pa_nil))))))), ?_⟩
    refine ⟨_, rfl, _, rfl, _, .ref tz, ties, z, rfl, hu, ⟨tz, rfl, hz⟩, a1, a2, a3, a4, a5, fun H2 s2 => ⟨_, rfl, iteF ?_⟩⟩
    obtain ⟨tr, dx, t, xs, rfl, hI, ht, hp⟩ := mono_tree cT _ _ _ _ s2.keep hu
    have hz2 := s2.keep.tup hz
    exact ⟨_, rfl, tz, _, rfl, .of hz2, rfl, _, _, rfl, _, _, rfl, rfl, _, rfl, tr, cT, dx, _, _, rfl, hI, kT.cl, nT, tfs_ties _ _, _, rfl, _, rfl, .ref t, ties, z.2, some z.1, U, rfl, ⟨t, xs, rfl, ht, hp⟩, hl, hU, h0, h64,
      fun H' v' ns s3 => q H' v' ns (s2.trans s3)⟩
/-! ### all ways -/
def flipAll (ties : List (Int × Int)) : List (Int × Int) := ties.map Prod.swap
/-- a new ascending list of all ways -/
def spWays (cT : Addr) : Sp := fun vs H Q _ => ∃ (u : V) (ties : List (Int × Int)), vs = [u] ∧ rTree cT H u ties ∧ ties.length ≤ 1000 ∧
  ∀ H' p xs m, Same H H' → H p = none → H' p = some (.lst xs) → Paired (rPI H') xs m → m.Perm (ties ++ flipAll ties) → m.Pairwise lxLe → Q (.ref p) H'
theorem fm_some {α β : Type} (l : List α) (h : α → β) : (List.range l.length).filterMap (fun i => l[i]?.bind fun x => some (h x)) = l.map h := by
  rw [fm_list, List.filterMap_eq_map']
theorem ok_ways (T : Tx K mg cT cS) {f : Addr} {fd : FuncData} (d : D K mg "ways" s_ways ["tree"] f fd) : FnOk P w K mg base CX0 1 f fd ["tree"] (spWays cT) := by
  obtain ⟨fT, fdT, kT⟩ := T.k_Tree
  have nT : NoAttr K cT "ties" := kT.na _ (by simp)
  refine d.F.ok sc_ways (fun vs H Q E h => ?_) (fun cdv A outer s H vs Q E hr h => ?_)
  · obtain ⟨u, ties, rfl, _⟩ := h
    rfl
  · obtain ⟨u, ties, rfl, ⟨tr, dx, t, xs, rfl, hI, ht, hp⟩, hl, q⟩ := h
    have hlen := paired_len hp
    refine ⟨_, pss_one (ps_ret (pe_callB cr_sortedPD (by rfl) T.b_sorted (by decide +kernel) (pa_cons (pe_op op_cat
        (pe_lc (own := [("one", 1), ("other", 2)]) (g := gTup K 2 (gCons (gName 1) (gCons (gName 2) gNil))) (tt := tYes) rfl sc_ways.nd (pi_tup (pe_fld (pv 0) rfl)) (blkOk_by (N := N_ways) (sc := defScope s_ways) (by decide +kernel))
          (fun _ _ _ _ _ => pgT rfl rfl (pgs_cons (pg_name (i := 1) sc_ways.nd rfl (Or.inl rfl)) (pgs_cons (pg_name (i := 2) sc_ways.nd rfl (Or.inl rfl)) pgs_nil))) (fun _ _ _ _ _ => pts_nil) (fun _ _ _ _ _ => pe_tup (pa_cons (pv 1) (pa_cons (pv 2) pa_nil))))
        (pe_lc (own := [("one", 1), ("other", 2)]) (g := gTup K 2 (gCons (gName 1) (gCons (gName 2) gNil))) (tt := tYes) rfl sc_ways.nd (pi_tup (pe_fld (pv 0) rfl)) (blkOk_by (N := N_ways) (sc := defScope s_ways) (by decide +kernel))
          (fun _ _ _ _ _ => pgT rfl rfl (pgs_cons (pg_name (i := 1) sc_ways.nd rfl (Or.inl rfl)) (pgs_cons (pg_name (i := 2) sc_ways.nd rfl (Or.inl rfl)) pgs_nil))) (fun _ _ _ _ _ => pts_nil) (fun _ _ _ _ _ => pe_tup (pa_cons (pv 2) (pa_cons (pv 1) pa_nil))))) pa_nil))), ?_⟩
    refine ⟨_, rfl, tr, cT, dx, _, _, rfl, hI, kT.cl, nT, tfs_ties _ _, t, rfl, ⟨_, .of ht⟩, fun D hD => ?_⟩
    refine lc_fm (walk_tup (xs := xs)) rPI (fun i => ties[i]?.bind fun x => some x) hD (fun H' s' => .of (s'.keep.tup ht)) ?_ ?_
    · rintro i x H2 H3 hi pv ⟨rfl, hx⟩
      obtain ⟨z, hz, t2, rfl, ht2⟩ := paired_get (paired_mono mono_pi pv.1.keep hp) hx
      refine ⟨t2, _, rfl, .of ht2, rfl, _, _, rfl, _, _, rfl, rfl, rfl, _, rfl, _, rfl, by show 2 ≤ sizeLine; decide, fun p np => ?_⟩
      exact fm_keep mono_pi pv hD (by omega) (same_new np) (by rw [hz]; rfl) ⟨p, rfl, upd_same⟩
    · intro H2 ys s2 hD2 hp2
      rw [hlen, fm_some, List.map_id'] at hp2
      refine ⟨_, rfl, tr, cT, dx, _, _, rfl, s2.keep.ins hI, kT.cl, nT, tfs_ties _ _, t, rfl, ⟨_, .of (s2.keep.tup ht)⟩, fun D2 hD' => ?_⟩
      refine lc_fm (walk_tup (xs := xs)) rPI (fun i => ties[i]?.bind fun x => some x.swap) hD' (fun H' s' => .of ((s2.trans s').keep.tup ht)) ?_ ?_
      · rintro i x H3 H4 hi pv ⟨rfl, hx⟩
        obtain ⟨z, hz, t2, rfl, ht2⟩ := paired_get (paired_mono mono_pi (s2.trans pv.1).keep hp) hx
        refine ⟨t2, _, rfl, .of ht2, rfl, _, _, rfl, _, _, rfl, rfl, rfl, _, rfl, _, rfl, by show 2 ≤ sizeLine; decide, fun p np => ?_⟩
        exact fm_keep mono_pi pv hD' (by omega) (same_new np) (by rw [hz]; rfl) ⟨p, rfl, upd_same⟩
      · intro H3 zs s3 hD3 hp3
        rw [hlen, fm_some] at hp3
        have hD2' := s3 _ _ hD2
        have l1 := paired_len hp2
        have l2 := paired_len hp3
        rw [List.length_map] at l2
        have l3 : ys.length + zs.length ≤ 2000 := by omega
        refine ⟨D, D2, ys, zs, rfl, rfl, hD2', hD3, Nat.le_trans l3 (by decide), fun p np => ?_⟩
        have s4 := same_new (o := .lst (ys ++ zs)) np
        refine ⟨p, _, ties ++ flipAll ties, rfl, .of upd_same, paired_app (paired_mono mono_pi (s3.trans s4).keep hp2) (paired_mono mono_pi s4.keep hp3), fun ws m r hw hperm hs nr => ?_⟩
        have s5 := same_new (o := .lst ws) nr
        have s6 := ((s2.trans s3).trans s4)
        exact q _ r ws m (s6.trans s5) (s6.free nr) upd_same (paired_mono mono_pi s5.keep hw) hperm hs
end
end S4

namespace S4
open PySem L2 TT MM
/-- ties that make a tree of n posts -/
structure TiesOk (ties : List (Int × Int)) (n : Nat) : Prop where
  len : ties.length + 1 = n
  n24 : n ≤ 24
  b0 : ∀ z ∈ ties, 0 ≤ z.1 ∧ z.1 < z.2 ∧ z.2 < (n : Int)
  asc : ties.Pairwise lxLt
  all : ∀ x : Int, 0 ≤ x → x < (n : Int) → Rch ties none 0 x
theorem nb_mem {ties : List (Int × Int)} {u v : Int} : v ∈ nb ties u ↔ (u, v) ∈ ties ∨ (v, u) ∈ ties := by
  unfold nb
  rw [List.mem_filterMap]
  constructor
  · rintro ⟨⟨a, b⟩, hz, he⟩
    unfold nbOf at he
    by_cases hc : a = u ∨ b = u
    · rw [if_pos hc] at he
      have e := Option.some.inj he
      by_cases h1 : a = u
      · rw [if_pos h1] at e
        subst h1 e
        exact .inl hz
      · rw [if_neg h1] at e
        have h2 : b = u := hc.resolve_left h1
        subst h2 e
        exact .inr hz
    · rw [if_neg hc] at he
      cases he
  · rintro (h | h)
    · refine ⟨(u, v), h, ?_⟩
      unfold nbOf
      rw [if_pos (.inl rfl), if_pos rfl]
    · refine ⟨(v, u), h, ?_⟩
      unfold nbOf
      rw [if_pos (.inr rfl)]
      by_cases e : v = u
      · rw [if_pos e, e]
      · rw [if_neg e]
def rng (n : Nat) : List Int := (List.range n).map fun (i : Nat) => (i : Int)
theorem rng_mem {n : Nat} {x : Int} : x ∈ rng n ↔ 0 ≤ x ∧ x < (n : Int) := by
  unfold rng
  rw [List.mem_map]
  constructor
  · rintro ⟨i, hi, rfl⟩
    have := List.mem_range.mp hi
    omega
  · rintro ⟨h1, h2⟩
    exact ⟨x.toNat, List.mem_range.mpr (by omega), by omega⟩
theorem rng_len (n : Nat) : (rng n).length = n := by simp [rng]
theorem rng_nodup (n : Nat) : (rng n).Nodup := by
  unfold rng
  rw [List.nodup_iff_pairwise_ne, List.pairwise_map]
  exact List.nodup_range.imp fun {a b} h e => h (by omega)
theorem TiesOk.shut {ties : List (Int × Int)} {n : Nat} (o : TiesOk ties n) : Shut ties (rng n) := ⟨fun u hu v hv => by
  rw [rng_mem]
  rcases nb_mem.mp hv with h | h
  · have := o.b0 _ h
    simp only at this
    omega
  · have := o.b0 _ h
    simp only at this
    omega⟩
theorem le_pairs (a b c e : Int) : Ob.lexAt (fun j => decide ([a, b].getD j 0 = [c, e].getD j 0)) (fun j => decide ([a, b].getD j 0 ≤ [c, e].getD j 0)) (decide ([a, b].length ≤ [c, e].length)) 0 (min [a, b].length [c, e].length) = decide (¬ lxLt (c, e) (a, b)) := by
  show (if decide (a = c) = true then (if decide (b = e) = true then decide (2 ≤ 2) else decide (b ≤ e)) else decide (a ≤ c)) = decide (¬ lxLt (c, e) (a, b))
  unfold lxLt
  by_cases h1 : a = c
  · rw [if_pos (decide_eq_true h1)]
    by_cases h2 : b = e
    · rw [if_pos (decide_eq_true h2)]
      subst h1 h2
      rw [decide_eq_true (by omega : (2 : Nat) ≤ 2), decide_eq_true (by omega)]
    · rw [if_neg (by rw [decide_eq_true_eq]; exact h2)]
      subst h1
      by_cases h3 : b ≤ e
      · rw [decide_eq_true h3, decide_eq_true (by omega)]
      · rw [decide_eq_false h3, decide_eq_false (by omega)]
  · rw [if_neg (by rw [decide_eq_true_eq]; exact h1)]
    by_cases h3 : a ≤ c
    · rw [decide_eq_true h3, decide_eq_true (by omega)]
    · rw [decide_eq_false h3, decide_eq_false (by omega)]
section
variable {P : Program} {w : World} {K : PySem.W.Frag} {mg : Str → Option Value} {base : Heap} {cT cS : Addr}
def spCheckTies : Sp := fun vs H Q _ => ∃ (v : V) (ties : List (Int × Int)) (n : Nat), vs = [v] ∧ rTup rPI H v ties ∧ TiesOk ties n ∧ ∀ H', Same H H' → Q .non H'
theorem ok_check_ties (T : Tx K mg cT cS) {f : Addr} {fd : FuncData} (d : D K mg "check_ties" s_check_ties ["ties"] f fd) : FnOk P w K mg base CX0 4 f fd ["ties"] spCheckTies := by
  obtain ⟨f1, fd1, d1⟩ := T.d_is_tie
  have G1 : FnOk P w K mg base CX0 3 f1 fd1 ["thing", "posts"] spIsTie := ok_is_tie T d1
  obtain ⟨f2, fd2, d2⟩ := T.d_reached
  have G2 : FnOk P w K mg base CX0 2 f2 fd2 ["ties", "start", "barred"] spReached := ok_reached T d2
  obtain ⟨tk, hM⟩ := T.c_MOST_TIES
  refine d.F.ok sc_check_ties (fun vs H Q E h => ?_) (fun cdv A outer s H vs Q E hr h => ?_)
  · obtain ⟨v, ties, n, rfl, _⟩ := h
    rfl
  · obtain ⟨v, ties, n, rfl, ⟨t, xs, rfl, ht, hp⟩, ok, q⟩ := h
    have hlen := paired_len hp
    have hn := ok.len
    have hn24 := ok.n24
    refine ⟨_, pss_cons (ps_if (PW.pt (pw_or (pt_not (pt_val (pe_callB call_isi (by rfl) T.b_isinstance (by decide +kernel) (pa_cons (pv 0) (pa_cons (ty_tuple T.b_tuple) pa_nil)))))
        (pw_or1 (pt_cmpR op_gt (pe_callB call_len_seq (by rfl) T.b_len PySem.boot_len (pa_cons (pv 0) pa_nil)) (pe_glob (v := .int 23) rfl hM ⟨_, rfl⟩) (nomark _))))) pss_never pss_nil)
      (pss_cons (ps_set (i := 1) sc_check_ties.nd rfl (.inl rfl) (pe_op op_add (pe_callB call_len_seq (by rfl) T.b_len PySem.boot_len (pa_cons (pv 0) pa_nil)) pe_int))
      (pss_cons (ps_for PassesOwn.never rfl (pi_enumT (by rfl) T.b_enumerate (pa_cons (pv 0) pa_nil)) (pg_tup rfl (pgs_cons (pg_name (i := 2) sc_check_ties.nd rfl (.inl rfl)) (pgs_cons (pg_name (i := 3) sc_check_ties.nd rfl (.inl rfl)) pgs_nil)))
        (pss_one (ps_if (PW.pt (pw_or (pt_not (pt_val (pe_call G1 hr rfl d1.m d1.F.kp d1.b .nil pass0 (pa_cons (pv 3) (pa_cons (pv 1) pa_nil)))))
          (pw_or1 (PW.pt (pw_and (pt_cmpR op_gt (pv 2) pe_int (nomark _)) (pw_and1 (pt_cmpR (op_leT hr.units0) (pv 3) (pe_ix ix_tup (pv 0) (pe_op op_sub (pv 2) pe_int) (fun _ _ => rfl)) (nomark _)))))))) pss_never pss_nil)))
      (pss_one (ps_if (pt_cmpR op_lt (pe_callB call_len_seq (by rfl) T.b_len PySem.boot_len (pa_cons (pe_call G2 (hr.mono (by decide)) rfl d2.m d2.F.kp d2.b .nil pass0 (pa_cons (pv 0) (pa_cons pe_int (pa_cons pe_non pa_nil)))) pa_nil)) (pv 1) (nomark _)) pss_never pss_nil)))), ?_⟩
    refine ⟨_, rfl, _, _, _, _, _, rfl, .ty _, .base (.tup ht), kit_tt, _, rfl, iteF ⟨_, rfl, _, _, rfl, .inr (.of ht), _, _, rfl, rfl, _, rfl, ?_⟩⟩
    rw [decide_eq_false (by rw [hlen]; omega)]
    refine iteF ⟨_, rfl, _, _, rfl, .inr (.of ht), _, _, rfl, rfl, ?_⟩
    dsimp only [gName, tSeq]
    have e1 : ((xs.length : Nat) : Int) + 1 = (n : Int) := by rw [hlen]; omega
    rw [e1]
    refine ⟨_, rfl, t, xs, rfl, .of ht, ?_⟩
    refine for_it (walk_enumT (xs := xs)) (fun i σ H' => Same H H' ∧ ∃ a b, σ = [some (.ref t), some (.int n), a, b]) ⟨.refl _, none, none, rfl⟩ (fun i σ H' _ h => .of (h.1.keep.tup ht)) ?_ ?_
    · rintro i x σ H2 H3 hi ⟨s2, a, b, rfl⟩ ⟨tp, x1, x2, rfl, np, rfl, e2, e3⟩
      have s3 := same_new (o := .tup [x1, x2]) np
      cases (Option.some.inj e2)
      obtain ⟨z, hz, t2, rfl, ht2⟩ := paired_get (paired_mono mono_pi (s2.trans s3).keep hp) e3
      have hzm := List.mem_of_getElem? hz
      obtain ⟨b1, b2, b3⟩ := ok.b0 z hzm
      refine ⟨tp, _, rfl, .of upd_same, rfl, _, _, rfl, _, _, rfl, rfl, ?_⟩
      refine ⟨_, rfl, _, rfl, .ref t2, z, n, rfl, ⟨t2, rfl, ht2⟩, b1, b2, b3, fun H4 s4 => ⟨_, rfl, iteF ?_⟩⟩
      have s5 := (s2.trans s3).trans s4
      refine ⟨_, rfl, _, _, rfl, rfl, _, rfl, ?_⟩
      by_cases hi0 : 0 < i
      · rw [decide_eq_true (by omega)]
        have hi1 : i - 1 < ties.length := by omega
        have hz1 : ties[i - 1]? = some ties[i - 1] := List.getElem?_eq_getElem hi1
        obtain ⟨y, hy, t3, rfl, ht3⟩ := paired_get2 (paired_mono mono_pi s5.keep hp) hz1
        refine iteT ⟨_, rfl, _, rfl, _, rfl, _, _, rfl, rfl, t, xs, _, _, rfl, rfl, .of (s5.keep.tup ht), at_of (j := i - 1) (by omega) hy, ?_⟩
        refine ⟨t2, t3, [z.1, z.2], [ties[i - 1].1, ties[i - 1].2], rfl, rfl, .of (s4.keep.tup ht2), .of ht3, _, rfl, ?_⟩
        rw [le_pairs]
        have hlt : lxLt (ties[i - 1].1, ties[i - 1].2) (z.1, z.2) := by
          have hzi : i < ties.length := (List.getElem?_eq_some_iff.mp hz).1
          have hze : ties[i] = z := (List.getElem?_eq_some_iff.mp hz).2
          have := (List.pairwise_iff_getElem.mp ok.asc) (i - 1) i hi1 hzi (by omega)
          rw [hze] at this
          exact this
        rw [decide_eq_false (fun h => h hlt)]
        exact iteF ⟨s5, _, _, rfl⟩
      · rw [decide_eq_false (by omega)]
        exact iteF (iteF ⟨s5, _, _, rfl⟩)
    · rintro σ H2 ⟨s2, a, b, rfl⟩
      refine ⟨_, rfl, .ref t, ties, 0, none, rng n, rfl, ⟨t, xs, rfl, s2.keep.tup ht, paired_mono mono_pi s2.keep hp⟩, by omega, ok.shut, rng_mem.mpr ⟨by omega, by omega⟩, by rw [rng_len]; omega, fun H3 v' ns s3 hrow hup hnd hmem => ?_⟩
      obtain ⟨t4, rfl, ht4⟩ := hrow
      refine ⟨_, _, rfl, .inr (.of ht4), _, rfl, _, _, rfl, rfl, _, rfl, ?_⟩
      have hge : n ≤ ns.length := by
        have := nodup_len (V := ns) (rng_nodup n) fun v hv => by
          obtain ⟨c1, c2⟩ := rng_mem.mp hv
          exact (hmem v).mpr (ok.all v c1 c2)
        rwa [rng_len] at this
      rw [decide_eq_false (by rw [List.length_map]; omega)]
      exact iteF (q _ (s2.trans s3))
def spInitTree (cT : Addr) : Sp := fun vs H Q _ => ∃ (x dx : Addr) (v : V) (ties : List (Int × Int)) (n : Nat), vs = [.ref x, v] ∧ H x = some (.ins cT dx []) ∧ rTup rPI H v ties ∧ TiesOk ties n ∧
  ∀ H', (∀ b o, b ≠ x → H b = some o → H' b = some o) → rTree cT H' (.ref x) ties → Q .non H'
theorem ok_Tree (T : Tx K mg cT cS) {f : Addr} {fd : FuncData} (d : DC K mg "Tree" "Tree.__init__" s_Tree ["self", "ties"] ["ties", "posts"] cT f fd) : FnOk P w K mg base CX0 5 f fd ["self", "ties"] (spInitTree cT) := by
  obtain ⟨f1, fd1, d1⟩ := T.d_check_ties
  have G1 : FnOk P w K mg base CX0 4 f1 fd1 ["ties"] spCheckTies := ok_check_ties T d1
  have nP : NoAttr K cT "posts" := d.na _ (by simp)
  have nT : NoAttr K cT "ties" := d.na _ (by simp)
  refine d.F.ok sc_Tree (fun vs H Q E h => ?_) (fun cdv A outer s H vs Q E hr h => ?_)
  · obtain ⟨x, dx, v, ties, n, rfl, _⟩ := h
    rfl
  · obtain ⟨x, dx, v, ties, n, rfl, hx, hties, ok, q⟩ := h
    refine ⟨_, pss_cons (ps_expr (pe_call G1 hr rfl d1.m d1.F.kp d1.b .nil pass0 (pa_cons (pv 1) pa_nil)))
      (pss_cons (ps_fld (pv 0) (pv 1) rfl) (pss_one (ps_fld (pv 0) (pe_op op_add (pe_callB call_len_seq (by rfl) T.b_len PySem.boot_len (pa_cons (pv 1) pa_nil)) pe_int) rfl))), ?_⟩
    refine ⟨_, rfl, v, ties, n, rfl, hties, ok, fun H2 s2 => ?_⟩
    obtain ⟨t, xs, rfl, ht, hp⟩ := mono_tup mono_pi _ _ _ _ s2.keep hties
    have hx2 := s2.keep.ins hx
    refine ⟨_, rfl, _, rfl, x, cT, dx, [], rfl, hx2, d.cl, nT, by show 0 < 1000; decide, ?_⟩
    have htx : t ≠ x := ne_of ht hx2 (fun z => nomatch z)
    have ht3 : (upd H2 x (.ins cT dx (putF "ties" (.ref t) []))) t = some (.tup xs) := by rw [upd_ne htx]; exact ht
    refine ⟨_, rfl, _, _, rfl, .inr (.of ht3), _, _, rfl, rfl, _, rfl, x, cT, dx, _, rfl, upd_same, d.cl, nP, by show 1 < 1000; decide, ?_⟩
    rw [upd_upd]
    refine q _ (fun b o hb e => by rw [upd_ne hb]; exact s2 b o e) ⟨x, dx, t, xs, rfl, ?_, by rw [upd_ne htx]; exact ht, ?_⟩
    · rw [upd_same, paired_len hp]
      rfl
    · have k : Keep H2 (upd H2 x (.ins cT dx (tfs t ((ties.length : Int) + 1)))) → True := fun _ => trivial
      refine Paired.mapP hp fun a b ⟨t2, e, h2⟩ => ⟨t2, e, ?_⟩
      rw [upd_ne (ne_of h2 hx2 (fun z => nomatch z))]
      exact h2
end
end S4

namespace S4
open PySem L2 TT MM
/-! ### sheets -/
structure SD where
  p : Int
  ties : List (Int × Int)
  holds : List Int
  wants : List (List (List Int))
abbrev rWants : Rp (List (List (List Int))) := rTup (rTup rRow)
structure CountsOk (holds : List Int) (n : Nat) : Prop where
  len : holds.length = n
  b : ∀ h ∈ holds, 0 ≤ h ∧ h < 9
  s : holds.sum ≤ 60
structure WantsOk (p : Int) (wd : Int) (n : Nat) (wants : List (List (List Int))) : Prop where
  len : wants.length = n
  b : ∀ rows ∈ wants, rows.length ≤ 8 ∧ ∀ r ∈ rows, isRow r p wd
  s : (wants.map List.length).sum ≤ 60
structure SheetOk (S : SD) (n : Nat) : Prop where
  ties : TiesOk S.ties n
  clock : NoDiv S.p
  holds : CountsOk S.holds n
  wants : WantsOk S.p S.holds.sum n S.wants
theorem sum_lens : ∀ l : List (List (List Int)), (l.map fun r => ((r.length : Nat) : Int)).sum = (((l.map List.length).sum : Nat) : Int)
  | [] => rfl
  | a :: l => by
    rw [List.map_cons, List.map_cons, List.sum_cons, List.sum_cons, sum_lens l]
    omega
theorem mono_wants : Mono rWants := mono_tup (mono_tup mono_row)
section
variable {P : Program} {w : World} {K : PySem.W.Frag} {mg : Str → Option Value} {base : Heap} {cT cS : Addr}
def spAreCounts (cT : Addr) : Sp := fun vs H Q _ => ∃ (u v : V) (ties : List (Int × Int)) (holds : List Int) (n : Nat), vs = [u, v] ∧ rTree cT H u ties ∧ ties.length + 1 = n ∧ n ≤ 24 ∧ rRow H v holds ∧ CountsOk holds n ∧ ∀ H', Same H H' → Q (.bl true) H'
theorem ok_are_counts (T : Tx K mg cT cS) {f : Addr} {fd : FuncData} (d : D K mg "are_counts" s_are_counts ["tree", "thing"] f fd) : FnOk P w K mg base CX0 3 f fd ["tree", "thing"] (spAreCounts cT) := by
  obtain ⟨f1, fd1, d1⟩ := T.d_is_below
  have G1 : FnOk P w K mg base CX0 2 f1 fd1 ["thing", "end"] spIsBelow := ok_is_below T d1
  obtain ⟨fT, fdT, kT⟩ := T.k_Tree
  have nP : NoAttr K cT "posts" := kT.na _ (by simp)
  obtain ⟨tk1, hM1⟩ := T.c_MOST_AT_POST
  obtain ⟨tk2, hM2⟩ := T.c_MOST_IN_ALL
  refine d.F.ok sc_are_counts (fun vs H Q E h => ?_) (fun cdv A outer s H vs Q E hr h => ?_)
  · obtain ⟨u, v, ties, holds, n, rfl, _⟩ := h
    rfl
  · obtain ⟨u, v, ties, holds, n, rfl, ⟨tr, dx, t, xs, rfl, hI, ht, hp⟩, hn, hn24, ⟨th, rfl, hh⟩, ok, q⟩ := h
    refine ⟨_, pss_cons (ps_if (PW.pt (pw_or (pt_not (pt_val (pe_callB call_isi (by rfl) T.b_isinstance (by decide +kernel) (pa_cons (pv 1) (pa_cons (ty_tuple T.b_tuple) pa_nil)))))
        (pw_or1 (pt_cmpR op_ne (pe_callB call_len_seq (by rfl) T.b_len PySem.boot_len (pa_cons (pv 1) pa_nil)) (pe_fld (pv 0) rfl) (nomark _))))) (pss_one (ps_ret pe_bl)) pss_nil)
      (pss_cons (ps_if (pt_not (pt_val (pe_callB (cr_all rfl) (by rfl) T.b_all (by decide +kernel) (pa_cons
        (pe_lc (own := [("count", 2)]) (g := gName 2) (tt := tYes) rfl sc_are_counts.nd (pi_tup (pv 1)) (blkOk_by (N := N_are_counts) (sc := defScope s_are_counts) (by decide +kernel)) (fun _ _ _ _ _ => pg_name (i := 2) sc_are_counts.nd rfl (Or.inl rfl)) (fun _ _ _ _ _ => pts_nil)
          (fun _ _ _ _ _ => pe_call G1 hr rfl d1.m d1.F.kp d1.b .nil pass0 (pa_cons (pv 2) (pa_cons (pe_op op_add (pe_glob (v := .int 8) rfl hM1 ⟨_, rfl⟩) pe_int) pa_nil)))) pa_nil)))) (pss_one (ps_ret pe_bl)) pss_nil)
      (pss_one (ps_ret (pe_cmpR op_le (pe_callB (cr_sumT rfl) (by rfl) T.b_sum (by decide +kernel) (pa_cons (pv 1) pa_nil)) (pe_glob (v := .int 60) rfl hM2 ⟨_, rfl⟩) (nomark _))))), ?_⟩
    have hl := ok.len
    refine ⟨_, rfl, _, _, _, _, _, rfl, .ty _, .base (.tup hh), kit_tt, _, rfl, iteF ?_⟩
    refine ⟨_, rfl, _, _, rfl, .inr (.of hh), _, rfl, tr, cT, dx, _, _, rfl, hI, kT.cl, nP, tfs_posts _ _, rfl, _, rfl, ?_⟩
    have e1 : V.int (((holds.map V.int).length : Nat) : Int) = V.int ((ties.length : Int) + 1) := by rw [List.length_map]; congr 1; omega
    rw [e1, decide_eq_true rfl]
    refine iteF ⟨_, rfl, th, rfl, ⟨_, .of hh⟩, fun D hD => ?_⟩
    refine lc_fm (walk_tup (xs := holds.map V.int)) rBl (fun _ => some true) hD (fun H' s' => .of (s'.keep.tup hh)) ?_ ?_
    · rintro i x H2 H3 hi pv ⟨rfl, hx⟩
      obtain ⟨k, hk, rfl⟩ := at_int hx
      rw [List.length_map] at hi
      obtain ⟨g1, g2⟩ := ok.b k (List.mem_of_getElem? hk)
      refine ⟨rfl, _, rfl, _, _, rfl, rfl, k, _, rfl, ?_⟩
      rw [decide_eq_true ⟨g1, by omega⟩]
      exact fm_keep mono_bl pv hD (by omega) (Same.refl _) rfl rfl
    · intro H2 ys s2 hD2 hp2
      have := paired_bl hp2
      subst this
      refine ⟨_, _, rfl, .of hD2, _, rfl, ?_⟩
      rw [all_true_fm rfl]
      refine iteF ⟨_, rfl, th, holds, rfl, .of (s2.keep.tup hh), _, _, rfl, rfl, ?_⟩
      show Q (V.bl (decide (holds.sum ≤ 60))) H2
      rw [decide_eq_true ok.s]
      exact q _ s2
def spCheckWants (cT : Addr) : Sp := fun vs H Q _ => ∃ (u v : V) (p wd : Int) (ties : List (Int × Int)) (wants : List (List (List Int))) (n : Nat), vs = [.int p, u, .int wd, v] ∧ rTree cT H u ties ∧ ties.length + 1 = n ∧ n ≤ 24 ∧ rWants H v wants ∧
  WantsOk p wd n wants ∧ wd ≤ 60 ∧ ∀ H', Same H H' → Q .non H'
theorem row_small {l : List Int} {p wd : Int} (h : isRow l p wd) (hw : wd ≤ 60) : l.length ≤ 100000 := by
  have := h.1
  omega
theorem ok_check_wants (T : Tx K mg cT cS) {f : Addr} {fd : FuncData} (d : D K mg "check_wants" s_check_wants ["p", "tree", "numbers", "wants"] f fd) : FnOk P w K mg base CX0 4 f fd ["p", "tree", "numbers", "wants"] (spCheckWants cT) := by
  obtain ⟨f1, fd1, d1⟩ := T.d_is_row
  have G1 : FnOk P w K mg base CX0 3 f1 fd1 ["thing", "p", "wide"] spIsRow := ok_is_row T d1
  obtain ⟨fT, fdT, kT⟩ := T.k_Tree
  have nP : NoAttr K cT "posts" := kT.na _ (by simp)
  obtain ⟨tk1, hM1⟩ := T.c_MOST_AT_POST
  obtain ⟨tk2, hM2⟩ := T.c_MOST_IN_ALL
  refine d.F.ok sc_check_wants (fun vs H Q E h => ?_) (fun cdv A outer s H vs Q E hr h => ?_)
  · obtain ⟨u, v, p, wd, ties, wants, n, rfl, _⟩ := h
    rfl
  · obtain ⟨u, v, p, wd, ties, wants, n, rfl, ⟨tr, dx, t, xs, rfl, hI, ht, hp⟩, hn, hn24, ⟨tw, ws, rfl, hw, hwp⟩, ok, hwd, q⟩ := h
    have hlw := paired_len hwp
    have hl := ok.len
    refine ⟨_, pss_cons (ps_if (PW.pt (pw_or (pt_not (pt_val (pe_callB call_isi (by rfl) T.b_isinstance (by decide +kernel) (pa_cons (pv 3) (pa_cons (ty_tuple T.b_tuple) pa_nil)))))
        (pw_or1 (pt_cmpR op_ne (pe_callB call_len_seq (by rfl) T.b_len PySem.boot_len (pa_cons (pv 3) pa_nil)) (pe_fld (pv 1) rfl) (nomark _))))) pss_never pss_nil)
      (pss_cons (ps_if (pt_not (pt_val (pe_callB (cr_all rfl) (by rfl) T.b_all (by decide +kernel) (pa_cons
        (pe_lc (own := [("rows", 4)]) (g := gName 4) (tt := tYes) rfl sc_check_wants.nd (pi_tup (pv 3)) (blkOk_by (N := N_check_wants) (sc := defScope s_check_wants) (by decide +kernel)) (fun _ _ _ _ _ => pg_name (i := 4) sc_check_wants.nd rfl (Or.inl rfl)) (fun _ _ _ _ _ => pts_nil)
          (fun _ _ _ _ _ => pe_and (pe_callB (isiS (K := K) rfl) (by rfl) T.b_isinstance (by decide +kernel) (pa_cons (pv 4) (pa_cons (ty_tuple T.b_tuple) pa_nil)))
            (pe_one (pe_cmpR op_le (pe_callB (lenS (K := K) rfl) (by rfl) T.b_len PySem.boot_len (pa_cons (pv 4) pa_nil)) (pe_glob (v := .int 8) rfl hM1 ⟨_, rfl⟩) (nomark _))))) pa_nil)))) pss_never pss_nil)
      (pss_cons (ps_for PassesOwn.never rfl (pi_enumT (by rfl) T.b_enumerate (pa_cons (pv 3) pa_nil)) (pg_tup rfl (pgs_cons (pg_name (i := 5) sc_check_wants.nd rfl (.inl rfl)) (pgs_cons (pg_name (i := 4) sc_check_wants.nd rfl (.inl rfl)) pgs_nil)))
        (pss_one (ps_for PassesOwn.never rfl (pi_enumT (by rfl) T.b_enumerate (pa_cons (pv 4) pa_nil)) (pg_tup rfl (pgs_cons (pg_name (i := 6) sc_check_wants.nd rfl (.inl rfl)) (pgs_cons (pg_name (i := 7) sc_check_wants.nd rfl (.inl rfl)) pgs_nil)))
          (pss_one (ps_if (pt_not (pt_val (pe_call G1 hr rfl d1.m d1.F.kp d1.b .nil pass0 (pa_cons (pv 7) (pa_cons (pv 0) (pa_cons (pv 2) pa_nil)))))) pss_never pss_nil)))))
      (pss_one (ps_if (pt_cmpR op_gt (pe_callB (cr_sum rfl) (by rfl) T.b_sum (by decide +kernel) (pa_cons
        (pe_lc (own := [("rows", 4)]) (g := gName 4) (tt := tYes) rfl sc_check_wants.nd (pi_tup (pv 3)) (blkOk_by (N := N_check_wants) (sc := defScope s_check_wants) (by decide +kernel)) (fun _ _ _ _ _ => pg_name (i := 4) sc_check_wants.nd rfl (Or.inl rfl)) (fun _ _ _ _ _ => pts_nil)
          (fun _ _ _ _ _ => pe_callB (lenS (K := K) rfl) (by rfl) T.b_len PySem.boot_len (pa_cons (pv 4) pa_nil))) pa_nil)) (pe_glob (v := .int 60) rfl hM2 ⟨_, rfl⟩) (nomark _)) pss_never pss_nil)))), ?_⟩
    refine ⟨_, rfl, _, _, _, _, _, rfl, .ty _, .base (.tup hw), kit_tt, _, rfl, iteF ?_⟩
    refine ⟨_, rfl, _, _, rfl, .inr (.of hw), _, rfl, tr, cT, dx, _, _, rfl, hI, kT.cl, nP, tfs_posts _ _, rfl, _, rfl, ?_⟩
    have e1 : V.int ((ws.length : Nat) : Int) = V.int ((ties.length : Int) + 1) := by congr 1; omega
    rw [e1, decide_eq_true rfl]
    refine iteF ⟨_, rfl, tw, rfl, ⟨_, .of hw⟩, fun D hD => ?_⟩
    refine lc_fm (walk_tup (xs := ws)) rBl (fun _ => some true) hD (fun H' s' => .of (s'.keep.tup hw)) ?_ ?_
    · rintro i x H2 H3 hi pv ⟨rfl, hx⟩
      obtain ⟨rows, hrows, t2, rs, rfl, ht2, hrp⟩ := paired_get (paired_mono (mono_tup mono_row) pv.1.keep hwp) hx
      obtain ⟨b1, b2⟩ := ok.b rows (List.mem_of_getElem? hrows)
      have hrl := paired_len hrp
      refine ⟨rfl, _, rfl, _, _, _, _, _, rfl, .ty _, .base (.tup ht2), kit_tt, _, rfl, iteT ⟨_, rfl, _, _, rfl, .inr (.of ht2), _, _, rfl, rfl, ?_⟩⟩
      dsimp only
      rw [decide_eq_true (by omega)]
      exact fm_keep mono_bl pv hD (by omega) (Same.refl _) rfl rfl
    · intro H2 ys s2 hD2 hp2
      have := paired_bl hp2
      subst this
      refine ⟨_, _, rfl, .of hD2, _, rfl, ?_⟩
      rw [all_true_fm rfl]
      refine iteF ⟨_, rfl, tw, ws, rfl, .of (s2.keep.tup hw), ?_⟩
      refine for_it (walk_enumT (xs := ws)) (fun i σ H' => Same H H' ∧ ∃ a b c e, σ = [some (.int p), some (.ref tr), some (.int wd), some (.ref tw), a, b, c, e]) ⟨s2, none, none, none, none, rfl⟩ (fun i σ H' _ h => .of (h.1.keep.tup hw)) ?_ ?_
      · rintro i x σ H3 H4 hi ⟨s3, a, b, c, e, rfl⟩ ⟨tp, x1, x2, rfl, np, rfl, e2, e3⟩
        have s4 := same_new (o := .tup [x1, x2]) np
        cases (Option.some.inj e2)
        obtain ⟨rows, hrows, t2, rs, rfl, ht2, hrp⟩ := paired_get (paired_mono (mono_tup mono_row) (s3.trans s4).keep hwp) e3
        obtain ⟨b1, b2⟩ := ok.b rows (List.mem_of_getElem? hrows)
        refine ⟨tp, _, rfl, .of upd_same, rfl, _, _, rfl, _, _, rfl, rfl, ?_⟩
        refine ⟨_, rfl, t2, rs, rfl, .of ht2, ?_⟩
        refine for_it (walk_enumT (xs := rs)) (fun j σ H' => Same (upd H3 tp (.tup [V.int (i : Nat), V.ref t2])) H' ∧ ∃ c e, σ = [some (.int p), some (.ref tr), some (.int wd), some (.ref tw), some (.ref t2), some (.int (i : Nat)), c, e]) ⟨.refl _, _, _, rfl⟩ (fun i σ H' _ h => .of (h.1.keep.tup ht2)) ?_ ?_
        · rintro j y σ H5 H6 hj ⟨s5, c, e, rfl⟩ ⟨tq, y1, y2, rfl, nq, rfl, e4, e5⟩
          have s6 := same_new (o := .tup [y1, y2]) nq
          cases (Option.some.inj e4)
          obtain ⟨r, hr2, hrow⟩ := paired_get (paired_mono mono_row (s5.trans s6).keep hrp) e5
          have hrr := b2 r (List.mem_of_getElem? hr2)
          refine ⟨tq, _, rfl, .of upd_same, rfl, _, _, rfl, _, _, rfl, rfl, ?_⟩
          refine ⟨_, rfl, _, rfl, _, rfl, y2, r, p, wd, rfl, hrow, row_small hrr hwd, hrr, fun H7 s7 => ⟨_, rfl, iteF ⟨(s5.trans s6).trans s7, _, _, rfl⟩⟩⟩
        · rintro σ H5 ⟨s5, c, e, rfl⟩
          exact ⟨(s3.trans s4).trans s5, _, _, _, _, rfl⟩
      · rintro σ H3 ⟨s3, a, b, c, e, rfl⟩
        refine ⟨_, rfl, tw, rfl, ⟨_, .of (s3.keep.tup hw)⟩, fun D3 hD3 => ?_⟩
        refine lc_fm (walk_tup (xs := ws)) rInt (fun i => wants[i]?.bind fun r => some ((r.length : Nat) : Int)) hD3 (fun H' s' => .of ((s3.trans s').keep.tup hw)) ?_ ?_
        · rintro i x H4 H5 hi pv ⟨rfl, hx⟩
          obtain ⟨rows, hrows, t2, rs, rfl, ht2, hrp⟩ := paired_get (paired_mono (mono_tup mono_row) (s3.trans pv.1).keep hwp) hx
          refine ⟨rfl, _, rfl, _, _, rfl, .inr (.of ht2), ?_⟩
          exact fm_keep mono_int pv hD3 (by omega) (Same.refl _) (by rw [hrows]; rfl) (by rw [paired_len hrp]; rfl)
        · intro H4 zs s4 hD4 hp4
          rw [hlw, fm_some] at hp4
          have := paired_int hp4
          subst this
          refine ⟨_, _, rfl, .of hD4, _, _, rfl, rfl, _, rfl, ?_⟩
          rw [sum_lens, decide_eq_false (by have := ok.s; omega)]
          exact iteF (q _ (s3.trans s4))
end
end S4

namespace S4
open PySem L2 TT MM
def sfs (p : Int) (tr th tw : Addr) (m : Int) : List (Str × V) := putF "numbers" (.int m) (putF "wants" (.ref tw) (putF "holds" (.ref th) (putF "tree" (.ref tr) (putF "p" (.int p) []))))
section
variable {p m : Int} {tr th tw : Addr}
theorem sfs_p : (sfs p tr th tw m).lookup ("p" : Str) = some (.int p) := by
  unfold sfs
  rw [lookup_putF, if_neg (by decide +kernel), lookup_putF, if_neg (by decide +kernel), lookup_putF, if_neg (by decide +kernel), lookup_putF, if_neg (by decide +kernel), lookup_putF, if_pos rfl]
theorem sfs_tree : (sfs p tr th tw m).lookup ("tree" : Str) = some (.ref tr) := by
  unfold sfs
  rw [lookup_putF, if_neg (by decide +kernel), lookup_putF, if_neg (by decide +kernel), lookup_putF, if_neg (by decide +kernel), lookup_putF, if_pos rfl]
theorem sfs_holds : (sfs p tr th tw m).lookup ("holds" : Str) = some (.ref th) := by
  unfold sfs
  rw [lookup_putF, if_neg (by decide +kernel), lookup_putF, if_neg (by decide +kernel), lookup_putF, if_pos rfl]
theorem sfs_wants : (sfs p tr th tw m).lookup ("wants" : Str) = some (.ref tw) := by
  unfold sfs
  rw [lookup_putF, if_neg (by decide +kernel), lookup_putF, if_pos rfl]
theorem sfs_numbers : (sfs p tr th tw m).lookup ("numbers" : Str) = some (.int m) := by
  unfold sfs
  rw [lookup_putF, if_pos rfl]
end
/-- a sheet in the heap -/
def rSheet (cT cS : Addr) : Rp SD := fun H v S => ∃ a dx tr th tw, v = .ref a ∧ H a = some (.ins cS dx (sfs S.p tr th tw S.holds.sum)) ∧ rTree cT H (.ref tr) S.ties ∧ rRow H (.ref th) S.holds ∧ rWants H (.ref tw) S.wants
theorem mono_sheet (cT cS : Addr) : Mono (rSheet cT cS) := fun _ _ _ _ k ⟨a, dx, tr, th, tw, e, h1, h2, h3, h4⟩ => ⟨a, dx, tr, th, tw, e, k.ins h1, mono_tree cT _ _ _ _ k h2, mono_row _ _ _ _ k h3, mono_wants _ _ _ _ k h4⟩
/-- carried over a change of one instance -/
theorem keep_at {H H' : Hp} {x : Addr} {C dx : Addr} {fs : List (Str × V)} (hx : H x = some (.ins C dx fs)) (k : ∀ b o, b ≠ x → H b = some o → H' b = some o) {t : Addr} {xs : List V} (h : H t = some (.tup xs)) : H' t = some (.tup xs) := k t _ (ne_of h hx (fun z => nomatch z)) h
section
variable {H H' : Hp} {x : Addr} (kt : ∀ t xs, H t = some (.tup xs) → H' t = some (.tup xs))
include kt
theorem row_kt {v : V} {l : List Int} (h : rRow H v l) : rRow H' v l := let ⟨t, e, h1⟩ := h; ⟨t, e, kt _ _ h1⟩
theorem pi_kt {v : V} {l : Int × Int} (h : rPI H v l) : rPI H' v l := let ⟨t, e, h1⟩ := h; ⟨t, e, kt _ _ h1⟩
theorem rows_kt {v : V} {l : List (List Int)} (h : rTup rRow H v l) : rTup rRow H' v l := let ⟨t, xs, e, h1, h2⟩ := h; ⟨t, xs, e, kt _ _ h1, Paired.mapP h2 fun _ _ q => row_kt kt q⟩
theorem wants_kt {v : V} {l : List (List (List Int))} (h : rWants H v l) : rWants H' v l := let ⟨t, xs, e, h1, h2⟩ := h; ⟨t, xs, e, kt _ _ h1, Paired.mapP h2 fun _ _ q => rows_kt kt q⟩
theorem tree_kt {cT : Addr} {v : V} {l : List (Int × Int)} (h : rTree cT H v l) (ki : ∀ a dx fs, v = .ref a → H a = some (.ins cT dx fs) → H' a = some (.ins cT dx fs)) : rTree cT H' v l :=
  let ⟨a, dx, t, xs, e, h1, h2, h3⟩ := h
  ⟨a, dx, t, xs, e, ki _ _ _ e h1, kt _ _ h2, Paired.mapP h3 fun _ _ q => pi_kt kt q⟩
end
section
variable {P : Program} {w : World} {K : PySem.W.Frag} {mg : Str → Option Value} {base : Heap} {cT cS : Addr}
def spInitSheet (cT cS : Addr) : Sp := fun vs H Q _ => ∃ (x dx : Addr) (u v1 v2 : V) (S : SD) (n : Nat), vs = [.ref x, .int S.p, u, v1, v2] ∧ H x = some (.ins cS dx []) ∧ rTree cT H u S.ties ∧ u ≠ .ref x ∧ rRow H v1 S.holds ∧ rWants H v2 S.wants ∧ SheetOk S n ∧
  ∀ H', (∀ b o, b ≠ x → H b = some o → H' b = some o) → rSheet cT cS H' (.ref x) S → Q .non H'
theorem ok_Sheet (T : Tx K mg cT cS) {f : Addr} {fd : FuncData} (d : DC K mg "Sheet" "Sheet.__init__" s_Sheet ["self", "p", "tree", "holds", "wants"] ["p", "tree", "holds", "wants", "numbers"] cS f fd) :
    FnOk P w K mg base CX0 5 f fd ["self", "p", "tree", "holds", "wants"] (spInitSheet cT cS) := by
  obtain ⟨f1, fd1, d1⟩ := T.d_is_clock
  have G1 : FnOk P w K mg base CX0 2 f1 fd1 ["thing"] spIsClock := ok_is_clock T d1
  obtain ⟨f2, fd2, d2⟩ := T.d_are_counts
  have G2 : FnOk P w K mg base CX0 3 f2 fd2 ["tree", "thing"] (spAreCounts cT) := ok_are_counts T d2
  obtain ⟨f3, fd3, d3⟩ := T.d_check_wants
  have G3 : FnOk P w K mg base CX0 4 f3 fd3 ["p", "tree", "numbers", "wants"] (spCheckWants cT) := ok_check_wants T d3
  obtain ⟨fT, fdT, kT⟩ := T.k_Tree
  have n1 : NoAttr K cS "p" := d.na _ (by simp)
  have n2 : NoAttr K cS "tree" := d.na _ (by simp)
  have n3 : NoAttr K cS "holds" := d.na _ (by simp)
  have n4 : NoAttr K cS "wants" := d.na _ (by simp)
  have n5 : NoAttr K cS "numbers" := d.na _ (by simp)
  refine d.F.ok sc_Sheet (fun vs H Q E h => ?_) (fun cdv A outer s H vs Q E hr h => ?_)
  · obtain ⟨x, dx, u, v1, v2, S, n, rfl, _⟩ := h
    rfl
  · obtain ⟨x, dx, u, v1, v2, S, n, rfl, hx, hu, hne, h1, h2, ok, q⟩ := h
    refine ⟨_, pss_cons (ps_if (pt_not (pt_val (pe_call G1 (hr.mono (by decide)) rfl d1.m d1.F.kp d1.b .nil pass0 (pa_cons (pv 1) pa_nil)))) pss_never pss_nil)
      (pss_cons (ps_if (pt_not (pt_val (pe_callB (C8.call_isC T.i_Tree) (by rfl) T.b_isinstance (by decide +kernel) (pa_cons (pv 2) (pa_cons (pe_glob (v := .ref cT) rfl kT.m rfl) pa_nil))))) pss_never pss_nil)
      (pss_cons (ps_if (pt_not (pt_val (pe_call G2 (hr.mono (by decide)) rfl d2.m d2.F.kp d2.b .nil pass0 (pa_cons (pv 2) (pa_cons (pv 3) pa_nil))))) pss_never pss_nil)
      (pss_cons (ps_expr (pe_call G3 hr rfl d3.m d3.F.kp d3.b .nil pass0 (pa_cons (pv 1) (pa_cons (pv 2) (pa_cons (pe_callB (cr_sumT rfl) (by rfl) T.b_sum (by decide +kernel) (pa_cons (pv 3) pa_nil)) (pa_cons (pv 4) pa_nil))))))
      (pss_cons (ps_fld (pv 0) (pv 1) rfl) (pss_cons (ps_fld (pv 0) (pv 2) rfl) (pss_cons (ps_fld (pv 0) (pv 3) rfl) (pss_cons (ps_fld (pv 0) (pv 4) rfl)
      (pss_one (ps_fld (pv 0) (pe_callB (cr_sumT rfl) (by rfl) T.b_sum (by decide +kernel) (pa_cons (pv 3) pa_nil)) rfl))))))))), ?_⟩
    refine ⟨_, rfl, S.p, rfl, ok.clock, _, rfl, iteF ?_⟩
    obtain ⟨tr, dxt, tt, xst, rfl, hI, htt, hpt⟩ := id hu
    refine ⟨_, rfl, tr, dxt, _, rfl, hI, _, rfl, iteF ?_⟩
    have hn := ok.ties.len
    refine ⟨_, rfl, _, rfl, _, _, S.ties, S.holds, n, rfl, hu, hn, ok.ties.n24, h1, ok.holds, fun H2 s2 => ⟨_, rfl, iteF ?_⟩⟩
    obtain ⟨th, rfl, hth⟩ := mono_row _ _ _ _ s2.keep h1
    refine ⟨_, rfl, _, rfl, _, rfl, th, S.holds, rfl, .of hth, _, rfl, _, _, S.p, _, S.ties, S.wants, n, rfl, mono_tree cT _ _ _ _ s2.keep hu, hn, ok.ties.n24, mono_wants _ _ _ _ s2.keep h2, ok.wants, ok.holds.s, fun H3 s3 => ?_⟩
    have s23 := s2.trans s3
    obtain ⟨tw, ws, rfl, htw, hwp⟩ := mono_wants _ _ _ _ s23.keep h2
    have hx3 := s23.keep.ins hx
    refine ⟨_, rfl, _, rfl, x, cS, dx, [], rfl, hx3, d.cl, n1, by show 0 < 1000; decide, ?_⟩
    refine ⟨_, rfl, _, rfl, x, cS, dx, _, rfl, upd_same, d.cl, n2, by show 1 < 1000; decide, ?_⟩
    rw [upd_upd]
    refine ⟨_, rfl, _, rfl, x, cS, dx, _, rfl, upd_same, d.cl, n3, by show 2 < 1000; decide, ?_⟩
    rw [upd_upd]
    refine ⟨_, rfl, _, rfl, x, cS, dx, _, rfl, upd_same, d.cl, n4, by show 3 < 1000; decide, ?_⟩
    rw [upd_upd]
    have hth3 := s3.keep.tup hth
    have hthx : th ≠ x := ne_of hth3 hx3 (fun z => nomatch z)
    refine ⟨_, rfl, th, S.holds, rfl, .of (by rw [upd_ne hthx]; exact hth3), _, rfl, x, cS, dx, _, rfl, upd_same, d.cl, n5, by show 4 < 1000; decide, ?_⟩
    rw [upd_upd]
    have kt : ∀ t xs, H3 t = some (.tup xs) → (upd H3 x (.ins cS dx (sfs S.p tr th tw S.holds.sum))) t = some (.tup xs) := fun t xs e => by
      rw [upd_ne (ne_of e hx3 (fun z => nomatch z))]
      exact e
    refine q _ (fun b o hb e => by rw [upd_ne hb]; exact s23 b o e) ⟨x, dx, tr, th, tw, rfl, upd_same, ?_, row_kt kt ⟨th, rfl, hth3⟩, wants_kt kt ⟨tw, ws, rfl, htw, hwp⟩⟩
    refine tree_kt kt (mono_tree cT _ _ _ _ s23.keep hu) fun a dx' fs e e2 => ?_
    have hax : a ≠ x := fun z => hne (by rw [e, z])
    exact (upd_ne hax).trans e2
end
end S4

namespace S4
open PySem L2 TT MM
/-! ### numbers held, wants beyond -/
def heldL (holds : List Int) (post : Int) : List Int := (List.range (holds.getD post.toNat 0).toNat).map fun (i : Nat) => (holds.take post.toNat).sum + (i : Int)
def numsL (holds : List Int) (posts : List Int) : List Int := posts.flatMap (heldL holds)
def farL (wants : List (List (List Int))) (posts : List Int) : List (Int × Int) := posts.flatMap fun post => (List.range (wants.getD post.toNat []).length).map fun (k : Nat) => (post, (k : Int))
def cutL (r l : List Int) : List Int := l.map fun i => r.getD i.toNat 0
def blockL (S : SD) (near far : List Int) : List (List Int) := (farL S.wants far).map fun z => cutL ((S.wants.getD z.1.toNat []).getD z.2.toNat []) (numsL S.holds near)
section
variable {P : Program} {w : World} {K : PySem.W.Frag} {mg : Str → Option Value} {base : Heap} {cT cS : Addr}
theorem take_sum_le {holds : List Int} {n : Nat} (ok : CountsOk holds n) (k : Nat) : 0 ≤ (holds.take k).sum ∧ (holds.take k).sum + (holds.getD k 0) ≤ 60 ∧ 0 ≤ holds.getD k 0 := by
  have hs : ∀ l : List Int, (∀ x ∈ l, 0 ≤ x) → 0 ≤ l.sum := by
    intro l
    induction l with
    | nil => intro _; simp
    | cons a l ih => intro h; rw [List.sum_cons]; have := ih fun x hx => h x (by simp [hx]); have := h a (by simp); omega
  have h1 : 0 ≤ (holds.take k).sum := hs _ fun x hx => (ok.b x (List.mem_of_mem_take hx)).1
  have h2 : 0 ≤ (holds.drop (k + 1)).sum := hs _ fun x hx => (ok.b x (List.mem_of_mem_drop hx)).1
  have e : holds.sum = (holds.take k).sum + (holds.drop k).sum := by rw [← List.sum_append, List.take_append_drop]
  by_cases hk : k < holds.length
  · have e2 : holds.drop k = holds[k] :: holds.drop (k + 1) := List.drop_eq_getElem_cons hk
    have e3 : holds.getD k 0 = holds[k] := by rw [List.getD_eq_getElem?_getD, List.getElem?_eq_getElem hk]; rfl
    rw [e2, List.sum_cons] at e
    have := ok.s
    have := (ok.b _ (List.getElem_mem hk)).1
    rw [e3]
    omega
  · have e3 : holds.getD k 0 = 0 := by rw [List.getD_eq_getElem?_getD, List.getElem?_eq_none (by omega)]; rfl
    have := ok.s
    rw [List.take_of_length_le (by omega)]
    rw [List.take_of_length_le (by omega)] at h1
    omega
theorem getD_at {α : Type} {l : List α} {k : Nat} {d x : α} (h : l[k]? = some x) : l.getD k d = x := by rw [List.getD_eq_getElem?_getD, h]; rfl
def spOwn : Sp := fun vs H Q _ => ∃ (v : V) (l : List Int) (post : Int) (n : Nat), vs = [v, .int post] ∧ rRow H v l ∧ n ≤ 24 ∧ CountsOk l n ∧ 0 ≤ post ∧ post < (n : Int) ∧
  ∀ H' v', Same H H' → rRow H' v' (heldL l post) → Q v' H'
theorem ok_own (T : Tx K mg cT cS) {f : Addr} {fd : FuncData} (d : D K mg "own_places" s_own_places ["counts", "post"] f fd) : FnOk P w K mg base CX0 1 f fd ["counts", "post"] spOwn := by
  refine d.F.ok sc_own_places (fun vs H Q E h => ?_) (fun cdv A outer s H vs Q E hr h => ?_)
  · obtain ⟨v, l, post, n, rfl, _⟩ := h
    rfl
  · obtain ⟨v, l, post, n, rfl, ⟨th, rfl, hth⟩, hn, oh, h0, h1, q⟩ := h
    obtain ⟨k, rfl⟩ : ∃ k : Nat, post = (k : Int) := ⟨post.toNat, by omega⟩
    have hk : k < l.length := by have := oh.len; omega
    refine ⟨_, pss_cons (ps_set (i := 2) sc_own_places.nd rfl (.inl rfl) (pe_callB (cr_sumT rfl) (by rfl) T.b_sum (by decide +kernel) (pa_cons (pe_slice sl_tupA (pv 0) po_none (po_some (pv 1))) pa_nil)))
      (pss_one (ps_ret (pe_tupRg rfl (by rfl) T.b_tuple (prg_2 (by rfl) T.b_range (pv 2) (pe_op op_add (pv 2) (pe_ix ix_tup (pv 0) (pv 1) (fun _ _ => rfl))))))), ?_⟩
    refine ⟨_, rfl, _, rfl, (k : Int), rfl, slice_upto hth fun H2 p s2 hp => ⟨p, l.take k, rfl, .of (by rw [List.map_take]; exact hp), ?_⟩⟩
    have hx : l[k]? = some l[k] := List.getElem?_eq_getElem hk
    have e3 : l.getD k 0 = l[k] := getD_at hx
    obtain ⟨b1, b2, b3⟩ := take_sum_le oh k
    rw [e3] at b2 b3
    refine ⟨_, rfl, _, rfl, _, rfl, _, rfl, th, _, _, _, rfl, rfl, .of (s2.keep.tup hth), atI_nat (int_at hx), _, _, rfl, rfl, _, _, rfl, rfl, .of_le b1 (by omega) (by omega) (by omega), fun r nr => ?_⟩
    refine q _ _ (s2.trans (same_new nr)) ⟨r, rfl, ?_⟩
    rw [upd_same, rgV_int]
    unfold heldL
    rw [Int.toNat_natCast, e3]
    have e4 : ((l.take k).sum + l[k] - (l.take k).sum).toNat = l[k].toNat := by omega
    rw [e4]
def spHeld (cT cS : Addr) : Sp := fun vs H Q _ => ∃ (u : V) (S : SD) (post : Int) (n : Nat), vs = [u, .int post] ∧ rSheet cT cS H u S ∧ TiesOk S.ties n ∧ CountsOk S.holds n ∧ 0 ≤ post ∧ post < (n : Int) ∧
  ∀ H' v', Same H H' → rRow H' v' (heldL S.holds post) → Q v' H'
theorem ok_held (T : Tx K mg cT cS) {f : Addr} {fd : FuncData} (d : D K mg "held" s_held ["sheet", "post"] f fd) : FnOk P w K mg base CX0 3 f fd ["sheet", "post"] (spHeld cT cS) := by
  obtain ⟨f1, fd1, d1⟩ := T.d_is_below
  have G1 : FnOk P w K mg base CX0 2 f1 fd1 ["thing", "end"] spIsBelow := ok_is_below T d1
  obtain ⟨f2, fd2, d2⟩ := T.d_own_places
  have G2 : FnOk P w K mg base CX0 1 f2 fd2 ["counts", "post"] spOwn := ok_own T d2
  obtain ⟨fT, fdT, kT⟩ := T.k_Tree
  obtain ⟨fS, fdS, kS⟩ := T.k_Sheet
  have nP : NoAttr K cT "posts" := kT.na _ (by simp)
  have n2 : NoAttr K cS "tree" := kS.na _ (by simp)
  have n3 : NoAttr K cS "holds" := kS.na _ (by simp)
  refine d.F.ok sc_held (fun vs H Q E h => ?_) (fun cdv A outer s H vs Q E hr h => ?_)
  · obtain ⟨u, S, post, n, rfl, _⟩ := h
    rfl
  · obtain ⟨u, S, post, n, rfl, ⟨a, dx, tr, th, tw, rfl, hI, ⟨tr', dxt, tt, xst, et, hIt, htt, hpt⟩, ⟨th', eh, hth⟩, hw⟩, ok, oh, h0, h1, q⟩ := h
    cases et
    cases eh
    have hn := ok.len
    have hn24 := ok.n24
    refine ⟨_, pss_cons (ps_if (pt_not (pt_val (pe_call G1 hr rfl d1.m d1.F.kp d1.b .nil pass0 (pa_cons (pv 1) (pa_cons (pe_fld (pe_fld (pv 0) rfl) rfl) pa_nil))))) pss_never pss_nil)
      (pss_one (ps_ret (pe_call G2 (hr.mono (by decide)) rfl d2.m d2.F.kp d2.b .nil pass0 (pa_cons (pe_fld (pv 0) rfl) (pa_cons (pv 1) pa_nil))))), ?_⟩
    refine ⟨_, rfl, _, rfl, a, cS, dx, _, _, rfl, hI, kS.cl, n2, sfs_tree, tr, cT, dxt, _, _, rfl, hIt, kT.cl, nP, tfs_posts _ _, post, _, rfl, ?_⟩
    rw [decide_eq_true ⟨by omega, by omega⟩]
    exact ⟨_, rfl, iteF ⟨_, rfl, a, cS, dx, _, _, rfl, hI, kS.cl, n3, sfs_holds, _, rfl, _, S.holds, post, n, rfl, ⟨th, rfl, hth⟩, by omega, oh, h0, h1, fun H' v' s' hv => q H' v' s' hv⟩⟩
def spCut : Sp := fun vs H Q _ => ∃ (u v : V) (r l : List Int), vs = [u, v] ∧ rRow H u r ∧ rRow H v l ∧ l.length ≤ 1000 ∧ (∀ i ∈ l, 0 ≤ i ∧ i < (r.length : Int)) ∧ ∀ H' v', Same H H' → rRow H' v' (cutL r l) → Q v' H'
theorem ok_cut (T : Tx K mg cT cS) {f : Addr} {fd : FuncData} (d : D K mg "cut" s_cut ["row", "lot"] f fd) : FnOk P w K mg base CX0 1 f fd ["row", "lot"] spCut := by
  refine d.F.ok sc_cut (fun vs H Q E h => ?_) (fun cdv A outer s H vs Q E hr h => ?_)
  · obtain ⟨u, v, r, l, rfl, _⟩ := h
    rfl
  · obtain ⟨u, v, r, l, rfl, ⟨t1, rfl, h1⟩, ⟨t2, rfl, h2⟩, hl, hb, q⟩ := h
    refine ⟨_, pss_one (ps_ret (pe_callTy call_tuple_of (by rfl) T.b_tuple (by decide +kernel) (pa_cons
        (pe_lc (own := [("place", 2)]) (g := gName 2) (tt := tYes) rfl sc_cut.nd (pi_tup (pv 1)) (blkOk_by (N := N_cut) (sc := defScope s_cut) (by decide +kernel)) (fun _ _ _ _ _ => pg_name (i := 2) sc_cut.nd rfl (Or.inl rfl)) (fun _ _ _ _ _ => pts_nil)
          (fun _ _ _ _ _ => pe_ix (ixT (K := K) rfl) (pv 0) (pv 2) (fun _ _ => rfl))) pa_nil))), ?_⟩
    refine ⟨_, rfl, t2, rfl, ⟨_, .of h2⟩, fun D hD => ?_⟩
    refine lc_fm (walk_tup (xs := l.map V.int)) rInt (fun i => l[i]?.bind fun j => some (r.getD j.toNat 0)) hD (fun H' s' => .of (s'.keep.tup h2)) ?_ ?_
    · rintro i x H2 H3 hi pv ⟨rfl, hx⟩
      obtain ⟨j, hj, rfl⟩ := at_int hx
      rw [List.length_map] at hi
      obtain ⟨g1, g2⟩ := hb j (List.mem_of_getElem? hj)
      obtain ⟨m, rfl⟩ : ∃ m : Nat, j = (m : Int) := ⟨j.toNat, by omega⟩
      have hm : r[m]? = some (r[m]'(by omega)) := List.getElem?_eq_getElem (by omega)
      refine ⟨rfl, _, rfl, _, rfl, t1, _, _, _, rfl, rfl, .of (pv.1.keep.tup h1), atI_nat (int_at hm), ?_⟩
      refine fm_keep mono_int pv hD (by omega) (Same.refl _) (by rw [hj]; rfl) ?_
      rw [Int.toNat_natCast, getD_at hm]
      rfl
    · intro H2 ys s2 hD2 hp2
      rw [List.length_map, fm_some] at hp2
      have := paired_int hp2
      subst this
      refine ⟨D, _, rfl, .inl ⟨.of hD2, fun p np => ?_⟩⟩
      exact q _ _ (s2.trans (same_new np)) ⟨p, rfl, upd_same⟩
end
end S4

namespace S4
open PySem L2 TT MM
theorem numsL_small {holds : List Int} {n : Nat} (ok : CountsOk holds n) {posts : List Int} (hl : posts.length ≤ 64) : (numsL holds posts).length ≤ 60 * 64 := by
  have h : ∀ l : List Int, (numsL holds l).length ≤ 60 * l.length := by
    intro l
    induction l with
    | nil => simp [numsL]
    | cons a l ih =>
      show (heldL holds a ++ numsL holds l).length ≤ _
      rw [List.length_append, List.length_cons]
      have : (heldL holds a).length ≤ 60 := by
        unfold heldL
        rw [List.length_map, List.length_range]
        have := take_sum_le ok a.toNat
        omega
      omega
  have := h posts
  omega
theorem flat_len {F : Nat → List Int} {i : Nat} {b : Nat} (h : ∀ j, j < i → (F j).length ≤ b) : ((List.range i).flatMap F).length ≤ b * i := by
  induction i with
  | zero => simp
  | succ i ih =>
    rw [List.range_succ, List.flatMap_append, List.length_append, List.flatMap_singleton]
    have := ih fun j hj => h j (by omega)
    have := h i (by omega)
    rw [Nat.mul_succ]
    omega
theorem flat_len' {α : Type} {F : Nat → List α} {i : Nat} {b : Nat} (h : ∀ j, j < i → (F j).length ≤ b) : ((List.range i).flatMap F).length ≤ b * i := by
  induction i with
  | zero => simp
  | succ i ih =>
    rw [List.range_succ, List.flatMap_append, List.length_append, List.flatMap_singleton]
    have := ih fun j hj => h j (by omega)
    have := h i (by omega)
    rw [Nat.mul_succ]
    omega
section
variable {P : Program} {w : World} {K : PySem.W.Frag} {mg : Str → Option Value} {base : Heap} {cT cS : Addr}
structure WayOk (S : SD) (n : Nat) (z : Int × Int) : Prop where
  a0 : 0 ≤ z.1
  b0 : 0 ≤ z.2
  a1 : z.1 < (n : Int)
  b1 : z.2 < (n : Int)
  m : z ∈ S.ties ∨ z.swap ∈ S.ties
def spNear (cT cS : Addr) : Sp := fun vs H Q _ => ∃ (u v : V) (S : SD) (z : Int × Int) (n : Nat), vs = [u, v] ∧ rSheet cT cS H u S ∧ rPI H v z ∧ TiesOk S.ties n ∧ CountsOk S.holds n ∧ WayOk S n z ∧
  ∀ H' v' ns, Same H H' → rRow H' v' (numsL S.holds ns) → Up ns → ns.Nodup → (∀ x, x ∈ ns ↔ Rch S.ties (some z.2) z.1 x) → (∀ x ∈ ns, x ∈ rng n) → Q v' H'
theorem ok_near (T : Tx K mg cT cS) {f : Addr} {fd : FuncData} (d : D K mg "near_numbers" s_near_numbers ["sheet", "way"] f fd) : FnOk P w K mg base CX0 4 f fd ["sheet", "way"] (spNear cT cS) := by
  obtain ⟨f1, fd1, d1⟩ := T.d_this_side
  have G1 : FnOk P w K mg base CX0 3 f1 fd1 ["tree", "way"] (spThis cT) := ok_this_side T d1
  obtain ⟨f2, fd2, d2⟩ := T.d_held
  have G2 : FnOk P w K mg base CX0 3 f2 fd2 ["sheet", "post"] (spHeld cT cS) := ok_held T d2
  obtain ⟨fS, fdS, kS⟩ := T.k_Sheet
  have n2 : NoAttr K cS "tree" := kS.na _ (by simp)
  refine d.F.ok sc_near_numbers (fun vs H Q E h => ?_) (fun cdv A outer s H vs Q E hr h => ?_)
  · obtain ⟨u, v, S, z, n, rfl, _⟩ := h
    rfl
  · obtain ⟨u, v, S, z, n, rfl, hS, hz, ok, oh, hw, q⟩ := h
    obtain ⟨a, dx, tr, th, tw, rfl, hI, hT, hth, hwt⟩ := id hS
    have hn := ok.len
    have hn24 := ok.n24
    refine ⟨_, pss_one (ps_ret (pe_callTy call_tuple_of (by rfl) T.b_tuple (by decide +kernel) (pa_cons
        (pe_lc2 (own := [("post", 2), ("number", 3)]) (vs1 := [3]) (wi1 := iTup K (tCall (spHeld cT cS) [] E0 (tCons (tVar 0) (tCons (tVar 2) tNil)))) (g := gName 2) (g1 := gName 3) (tt := tYes) (tt1 := tYes) rfl sc_near_numbers.nd
          (pi_tup (pe_call G1 hr rfl d1.m d1.F.kp d1.b .nil pass0 (pa_cons (pe_fld (pv 0) rfl) (pa_cons (pv 1) pa_nil)))) (blkOk_by (N := N_near_numbers) (sc := defScope s_near_numbers) (by decide +kernel)) (by decide)
          (fun _ _ _ _ _ => pg_name (i := 2) sc_near_numbers.nd rfl (Or.inl rfl)) (fun _ _ _ _ _ => pts_nil)
          (fun _ _ _ _ _ => piT rfl (pi_tup (pe_call G2 hr rfl d2.m d2.F.kp d2.b .nil pass0 (pa_cons (pv 0) (pa_cons (pv 2) pa_nil)))))
          (fun _ _ _ _ _ => pg_name (i := 3) sc_near_numbers.nd rfl (Or.inl rfl)) (fun _ _ _ _ _ => pts_nil)
          (fun _ _ _ _ _ => pv 3)) pa_nil))), ?_⟩
    refine ⟨_, rfl, a, cS, dx, _, _, rfl, hI, kS.cl, n2, sfs_tree, _, rfl, .ref tr, v, S.ties, z, rng n, rfl, hT, hz, by omega, ok.shut, rng_mem.mpr ⟨hw.a0, hw.a1⟩, by rw [rng_len]; omega, fun H2 v2 ns s2 hrow hup hnd hmem => ?_⟩
    obtain ⟨t2, rfl, ht2⟩ := hrow
    have hin : ∀ x ∈ ns, x ∈ rng n := fun x hx => ((hmem x).mp hx).inV ok.shut (rng_mem.mpr ⟨hw.a0, hw.a1⟩)
    have hnl : ns.length ≤ 24 := by
      have := nodup_len hnd hin
      rw [rng_len] at this
      omega
    refine ⟨t2, rfl, ⟨_, .of ht2⟩, fun D hD => ?_⟩
    refine walk_W (walk_tup (xs := ns.map V.int)) _ (PvFl rInt (fun i => (ns[i]?.map (heldL S.holds)).getD []) D H2) (fl_start hD) (fun i H' _ h => .of (h.1.keep.tup ht2)) ?_ ?_
    · rintro i x H3 H4 hi pv ⟨rfl, hx⟩
      obtain ⟨k, hk, rfl⟩ := at_int hx
      rw [List.length_map] at hi
      obtain ⟨g1, g2⟩ := rng_mem.mp (hin k (List.mem_of_getElem? hk))
      refine ⟨rfl, ?_⟩
      refine ⟨_, rfl, _, rfl, .ref a, S, k, n, rfl, mono_sheet cT cS _ _ _ _ (s2.trans pv.1).keep hS, ok, oh, g1, g2, fun H5 v5 s5 hrow5 => ?_⟩
      obtain ⟨t5, rfl, ht5⟩ := hrow5
      refine ⟨t5, rfl, ⟨_, .of ht5⟩, ?_⟩
      have hF : (ns[i]?.map (heldL S.holds)).getD [] = heldL S.holds k := by rw [hk]; rfl
      have hb : ∀ j : Nat, ((ns[j]?.map (heldL S.holds)).getD []).length ≤ 60 := by
        intro j
        cases ns[j]? with
        | none => simp
        | some y =>
          show (heldL S.holds y).length ≤ 60
          unfold heldL
          rw [List.length_map, List.length_range]
          have := take_sum_le oh y.toNat
          omega
      have hpre := flat_len (i := i) (b := 60) fun j _ => hb j
      have hbi := hb i
      refine walk_W (walk_tup (xs := (heldL S.holds k).map V.int)) _ (PvIn rInt _ ((ns[i]?.map (heldL S.holds)).getD []) D H2 H5) (fl_in mono_int pv s5) (fun j H' _ h => .of (h.2.1.tup ht5)) ?_ ?_
      · rintro j y H6 H7 hj pv6 ⟨rfl, hy⟩
        obtain ⟨m, hm, rfl⟩ := at_int hy
        refine ⟨rfl, _, rfl, ?_⟩
        rw [List.length_map] at hj
        rw [hF] at hbi
        exact in_keep mono_int pv6 hD (by omega) (Same.refl _) (by rw [hF]; exact hm) rfl
      · intro H6 pv6
        exact in_fl (by rw [hF, List.length_map]) pv6
    · intro H3 pv
      obtain ⟨s3, ys, hD3, hp3⟩ := pv
      rw [List.length_map, fl_list] at hp3
      have := paired_int hp3
      subst this
      refine ⟨D, _, rfl, .inl ⟨.of hD3, fun p np => ?_⟩⟩
      exact q _ _ ns ((s2.trans s3).trans (same_new np)) ⟨p, rfl, upd_same⟩ hup hnd hmem hin
def rPP : Rp (Int × Int) := rPI
def spFar (cT cS : Addr) : Sp := fun vs H Q _ => ∃ (u v : V) (S : SD) (z : Int × Int) (n : Nat), vs = [u, v] ∧ rSheet cT cS H u S ∧ rPI H v z ∧ TiesOk S.ties n ∧ WantsOk S.p S.holds.sum n S.wants ∧ WayOk S n z ∧
  ∀ H' v' ns, Same H H' → rTup rPI H' v' (farL S.wants ns) → Up ns → ns.Nodup → (∀ x, x ∈ ns ↔ Rch S.ties (some z.1) z.2 x) → (∀ x ∈ ns, x ∈ rng n) → Q v' H'
theorem ok_far (T : Tx K mg cT cS) {f : Addr} {fd : FuncData} (d : D K mg "far_wants" s_far_wants ["sheet", "way"] f fd) : FnOk P w K mg base CX0 5 f fd ["sheet", "way"] (spFar cT cS) := by
  obtain ⟨f1, fd1, d1⟩ := T.d_beyond
  have G1 : FnOk P w K mg base CX0 4 f1 fd1 ["tree", "way"] (spBeyond cT) := ok_beyond T d1
  obtain ⟨fS, fdS, kS⟩ := T.k_Sheet
  have n2 : NoAttr K cS "tree" := kS.na _ (by simp)
  have n4 : NoAttr K cS "wants" := kS.na _ (by simp)
  refine d.F.ok sc_far_wants (fun vs H Q E h => ?_) (fun cdv A outer s H vs Q E hr h => ?_)
  · obtain ⟨u, v, S, z, n, rfl, _⟩ := h
    rfl
  · obtain ⟨u, v, S, z, n, rfl, hS, hz, ok, ow, hw, q⟩ := h
    obtain ⟨a, dx, tr, th, tw, rfl, hI, hT, hth, ⟨tw', ws, ew, htw, hwp⟩⟩ := id hS
    cases ew
    have hn := ok.len
    have hn24 := ok.n24
    refine ⟨_, pss_cons (ps_set (i := 2) sc_far_wants.nd rfl (.inl rfl) (pe_call G1 hr rfl d1.m d1.F.kp d1.b .nil pass0 (pa_cons (pe_fld (pv 0) rfl) (pa_cons (pv 1) pa_nil))))
      (pss_one (ps_ret (pe_callTy call_tuple_of (by rfl) T.b_tuple (by decide +kernel) (pa_cons
        (pe_lc2 (own := [("post", 3), ("want", 4)]) (vs1 := [4]) (g := gName 3) (g1 := gName 4) (tt := tYes) (tt1 := tYes) rfl sc_far_wants.nd
          (pi_tup (pv 2)) (blkOk_by (N := N_far_wants) (sc := defScope s_far_wants) (by decide +kernel)) (by decide)
          (fun _ _ _ _ _ => pg_name (i := 3) sc_far_wants.nd rfl (Or.inl rfl)) (fun _ _ _ _ _ => pts_nil)
          (fun _ _ _ _ _ => pi_range1 rfl T.b_range (pa_cons (pe_callB (lenS (K := K) rfl) (by rfl) T.b_len PySem.boot_len (pa_cons (pe_ix (ixT (K := K) rfl) (fldK (K := K) (pv 0) rfl rfl) (pv 3) (fun _ _ => rfl)) pa_nil)) pa_nil))
          (fun _ _ _ _ _ => pg_name (i := 4) sc_far_wants.nd rfl (Or.inl rfl)) (fun _ _ _ _ _ => pts_nil)
          (fun _ _ _ _ _ => pe_tup (pa_cons (pv 3) (pa_cons (pv 4) pa_nil)))) pa_nil)))), ?_⟩
    refine ⟨_, rfl, a, cS, dx, _, _, rfl, hI, kS.cl, n2, sfs_tree, _, rfl, .ref tr, v, S.ties, z, rng n, rfl, hT, hz, by omega, ok.shut, rng_mem.mpr ⟨hw.b0, hw.b1⟩, by rw [rng_len]; omega, hw.a0, hw.b0, by have := hw.a1; omega, by have := hw.b1; omega, hw.m, fun H2 v2 ns s2 hrow hup hnd hmem => ?_⟩
    obtain ⟨t2, rfl, ht2⟩ := hrow
    have hin : ∀ x ∈ ns, x ∈ rng n := fun x hx => ((hmem x).mp hx).inV ok.shut (rng_mem.mpr ⟨hw.b0, hw.b1⟩)
    have hnl : ns.length ≤ 24 := by
      have := nodup_len hnd hin
      rw [rng_len] at this
      omega
    dsimp only [gName, tSeq]
    refine ⟨_, rfl, t2, rfl, ⟨_, .of ht2⟩, fun D hD => ?_⟩
    refine walk_W (walk_tup (xs := ns.map V.int)) _ (PvFl rPI (fun i => (ns[i]?.map fun (post : Int) => (List.range (S.wants.getD post.toNat []).length).map fun (k : Nat) => (post, (k : Int))).getD []) D H2) (fl_start hD) (fun i H' _ h => .of (h.1.keep.tup ht2)) ?_ ?_
    · rintro i x H3 H4 hi pv ⟨rfl, hx⟩
      obtain ⟨k, hk, rfl⟩ := at_int hx
      rw [List.length_map] at hi
      obtain ⟨g1, g2⟩ := rng_mem.mp (hin k (List.mem_of_getElem? hk))
      obtain ⟨j0, rfl⟩ : ∃ j0 : Nat, k = (j0 : Int) := ⟨k.toNat, by omega⟩
      have hwl := ow.len
      have hj0 : S.wants[j0]? = some (S.wants[j0]'(by omega)) := List.getElem?_eq_getElem (by omega)
      obtain ⟨y, hy, ty, rs, rfl, hty, hrs⟩ := paired_get2 (paired_mono (mono_tup mono_row) (s2.trans pv.1).keep hwp) hj0
      have hrl := paired_len hrs
      have hg0 : S.wants.getD j0 [] = S.wants[j0]'(by omega) := getD_at hj0
      have h8 : (S.wants[j0]'(by omega)).length ≤ 8 := (ow.b _ (List.getElem_mem _)).1
      refine ⟨rfl, ?_⟩
      refine ⟨_, rfl, a, cS, dx, _, _, rfl, (s2.trans pv.1).keep.ins hI, kS.cl, n4, sfs_wants, _, rfl, tw, ws, _, _, rfl, rfl, .of ((s2.trans pv.1).keep.tup htw), atI_nat hy, _, _, rfl, .inr (.of hty), _, rfl, by omega, by omega, ?_⟩
      have hF : (ns[i]?.map fun (post : Int) => (List.range (S.wants.getD post.toNat []).length).map fun (k : Nat) => (post, (k : Int))).getD [] = (List.range rs.length).map fun (k : Nat) => ((j0 : Int), (k : Int)) := by
        rw [hk]
        show (List.range (S.wants.getD (j0 : Int).toNat []).length).map _ = _
        rw [Int.toNat_natCast, hg0, hrl]
      have hb : ∀ j : Nat, ((ns[j]?.map fun (post : Int) => (List.range (S.wants.getD post.toNat []).length).map fun (k : Nat) => (post, (k : Int))).getD []).length ≤ 8 := by
        intro j
        cases ns[j]? with
        | none => simp
        | some y =>
          show ((List.range (S.wants.getD y.toNat []).length).map _).length ≤ 8
          rw [List.length_map, List.length_range, List.getD_eq_getElem?_getD]
          cases e : S.wants[y.toNat]? with
          | none => simp
          | some r => exact (ow.b r (List.mem_of_getElem? e)).1
      have hpre := flat_len' (i := i) (b := 8) fun j _ => hb j
      refine walk_W (walk_range (lo := 0) (n := (((rs.length : Nat) : Int)).toNat)) _ (PvIn rPI _ ((ns[i]?.map fun (post : Int) => (List.range (S.wants.getD post.toNat []).length).map fun (k : Nat) => (post, (k : Int))).getD []) D H2 H4) (fl_in mono_pi pv (.refl _)) (fun j H' _ h => trivial) ?_ ?_
      · rintro j y H6 H7 hj pv6 ⟨rfl, rfl⟩
        rw [Int.toNat_natCast] at hj
        refine ⟨rfl, _, rfl, _, rfl, by show 2 ≤ sizeLine; decide, fun p np => ?_⟩
        refine in_keep mono_pi pv6 hD (by omega) (same_new np) (a := ((j0 : Int), (j : Int))) ?_ ⟨p, rfl, ?_⟩
        · rw [hF, List.getElem?_map, List.getElem?_range hj]
          rfl
        · rw [upd_same]
          show some (HO.tup [V.int (j0 : Int), V.int (0 + (j : Int))]) = _
          rw [Int.zero_add]
      · intro H6 pv6
        exact in_fl (by rw [hF, List.length_map, List.length_range, Int.toNat_natCast]) pv6
    · intro H3 pv
      obtain ⟨s3, ys, hD3, hp3⟩ := pv
      rw [List.length_map, fl_list] at hp3
      refine ⟨D, _, rfl, .inl ⟨.of hD3, fun p np => ?_⟩⟩
      have s4 := same_new (o := .tup ys) np
      exact q _ _ ns ((s2.trans s3).trans s4) ⟨p, ys, rfl, upd_same, paired_mono mono_pi s4.keep hp3⟩ hup hnd hmem hin
end
end S4

namespace S4
open PySem L2 TT MM
theorem heldL_in {holds : List Int} {n : Nat} (ok : CountsOk holds n) {post i : Int} (h : i ∈ heldL holds post) : 0 ≤ i ∧ i < holds.sum := by
  unfold heldL at h
  obtain ⟨j, hj, rfl⟩ := List.mem_map.mp h
  have hj' := List.mem_range.mp hj
  have hs : ∀ l : List Int, (∀ x ∈ l, 0 ≤ x) → 0 ≤ l.sum := by
    intro l
    induction l with
    | nil => intro _; simp
    | cons a l ih => intro h; rw [List.sum_cons]; have := ih fun x hx => h x (by simp [hx]); have := h a (by simp); omega
  have h1 : 0 ≤ (holds.take post.toNat).sum := hs _ fun x hx => (ok.b x (List.mem_of_mem_take hx)).1
  have h2 : 0 ≤ (holds.drop (post.toNat + 1)).sum := hs _ fun x hx => (ok.b x (List.mem_of_mem_drop hx)).1
  have e : holds.sum = (holds.take post.toNat).sum + (holds.drop post.toNat).sum := by rw [← List.sum_append, List.take_append_drop]
  by_cases hk : post.toNat < holds.length
  · have e2 : holds.drop post.toNat = holds[post.toNat] :: holds.drop (post.toNat + 1) := List.drop_eq_getElem_cons hk
    have e3 : holds.getD post.toNat 0 = holds[post.toNat] := getD_at (List.getElem?_eq_getElem hk)
    rw [e2, List.sum_cons] at e
    rw [e3] at hj'
    omega
  · have e3 : holds.getD post.toNat 0 = 0 := by rw [List.getD_eq_getElem?_getD, List.getElem?_eq_none (by omega)]; rfl
    rw [e3] at hj'
    simp at hj'
theorem numsL_in {holds : List Int} {n : Nat} (ok : CountsOk holds n) {posts : List Int} {i : Int} (h : i ∈ numsL holds posts) : 0 ≤ i ∧ i < holds.sum := by
  obtain ⟨p, _, hp⟩ := List.mem_flatMap.mp h
  exact heldL_in ok hp
theorem farL_in {wants : List (List (List Int))} {posts : List Int} {z : Int × Int} (h : z ∈ farL wants posts) : z.1 ∈ posts ∧ 0 ≤ z.2 ∧ z.2 < ((wants.getD z.1.toNat []).length : Int) := by
  obtain ⟨p, hp, h2⟩ := List.mem_flatMap.mp h
  obtain ⟨k, hk, rfl⟩ := List.mem_map.mp h2
  have := List.mem_range.mp hk
  exact ⟨hp, by simp only; omega, by simp only; omega⟩
/-- how many numbers: nodup posts hold all at most -/
theorem numsL_len {holds : List Int} {n : Nat} (ok : CountsOk holds n) {posts : List Int} (hl : posts.length ≤ 24) (hb : ∀ p ∈ posts, 0 ≤ p ∧ p < (n : Int)) : (numsL holds posts).length ≤ 216 := by
  have h : ∀ l : List Int, (∀ p ∈ l, 0 ≤ p ∧ p < (n : Int)) → (numsL holds l).length ≤ 9 * l.length := by
    intro l
    induction l with
    | nil => intro _; simp [numsL]
    | cons a l ih =>
      intro hb
      show (heldL holds a ++ numsL holds l).length ≤ _
      rw [List.length_append, List.length_cons]
      have := ih fun p hp => hb p (by simp [hp])
      have : (heldL holds a).length ≤ 9 := by
        unfold heldL
        rw [List.length_map, List.length_range]
        have hl := ok.len
        have := hb a (by simp)
        have hx : holds[a.toNat]? = some (holds[a.toNat]'(by omega)) := List.getElem?_eq_getElem (by omega)
        rw [getD_at hx]
        have := ok.b _ (List.getElem_mem (h := by omega) (l := holds) (n := a.toNat))
        omega
      omega
  have := h posts hb
  omega
section
variable {P : Program} {w : World} {K : PySem.W.Frag} {mg : Str → Option Value} {base : Heap} {cT cS : Addr}
def spBlock (cT cS : Addr) : Sp := fun vs H Q _ => ∃ (u v : V) (S : SD) (z : Int × Int) (n : Nat), vs = [u, v] ∧ rSheet cT cS H u S ∧ rPI H v z ∧ SheetOk S n ∧ WayOk S n z ∧
  ∀ H' v' near far, Same H H' → rTup rRow H' v' (blockL S near far) → Up near → near.Nodup → (∀ x, x ∈ near ↔ Rch S.ties (some z.2) z.1 x) → Up far → far.Nodup → (∀ x, x ∈ far ↔ Rch S.ties (some z.1) z.2 x) → Q v' H'
def spNarrow : Sp := fun vs H Q _ => ∃ (a : Addr) (v : V) (xs : List V) (rws : List (List Int)) (l : List Int), vs = [.ref a, v] ∧ H a = some (.lst xs) ∧ Paired (rRow H) xs rws ∧ rws.length ≤ 1000 ∧ rRow H v l ∧ l.length ≤ 1000 ∧ (∀ r ∈ rws, ∀ i ∈ l, 0 ≤ i ∧ i < (r.length : Int)) ∧ ∀ H' v', Same H H' → rTup rRow H' v' (rws.map fun r => cutL r l) → Q v' H'
theorem ok_narrowed (T : Tx K mg cT cS) {f : Addr} {fd : FuncData} (d : D K mg "narrowed" s_narrowed ["rows", "lot"] f fd) : FnOk P w K mg base CX0 2 f fd ["rows", "lot"] spNarrow := by
  obtain ⟨f4, fd4, d4⟩ := T.d_cut
  have G4 : FnOk P w K mg base CX0 1 f4 fd4 ["row", "lot"] spCut := ok_cut T d4
  refine d.F.ok sc_narrowed (fun vs H Q E h => ?_) (fun cdv A outer s H vs Q E hr h => ?_)
  · obtain ⟨a, v, xs, rws, l, rfl, _⟩ := h
    rfl
  · obtain ⟨a, v, xs, rws, l, rfl, ha, hp, hl, hv, hll, hin, q⟩ := h
    have hlen := paired_len hp
    refine ⟨_, pss_one (ps_ret (pe_callTy call_tuple_of (by rfl) T.b_tuple (by decide +kernel) (pa_cons
        (pe_lc (own := [("row", 2)]) (g := gName 2) (tt := tYes) rfl sc_narrowed.nd (pi_list (pv 0)) (blkOk_by (N := N_narrowed) (sc := defScope s_narrowed) (by decide +kernel))
          (fun _ _ _ _ _ => pg_name (i := 2) sc_narrowed.nd rfl (Or.inl rfl)) (fun _ _ _ _ _ => pts_nil)
          (fun _ _ _ _ _ => pe_call G4 hr rfl d4.m d4.F.kp d4.b .nil pass0 (pa_cons (pv 2) (pa_cons (pv 1) pa_nil)))) pa_nil))), ?_⟩
    refine ⟨_, rfl, a, rfl, ⟨_, .of ha⟩, fun D hD => ?_⟩
    refine lc_fm (walk_list (xs := xs)) rRow (fun i => rws[i]?.bind fun r => some (cutL r l)) hD (fun H' s' => .of (s' _ _ ha)) ?_ ?_
    · rintro i x H5 H6 hi pv ⟨rfl, hx⟩
      obtain ⟨row, hrow, hrr⟩ := paired_get (paired_mono mono_row pv.1.keep hp) hx
      refine ⟨rfl, ?_⟩
      refine ⟨_, rfl, _, rfl, x, v, row, l, rfl, hrr, mono_row _ _ _ _ pv.1.keep hv, hll, hin row (List.mem_of_getElem? hrow), fun H7 v7 s7 hrow7 => ?_⟩
      exact fm_keep mono_row pv hD (by omega) s7 (by rw [hrow]; rfl) hrow7
    · intro H5 ys s5 hD5 hp5
      rw [hlen, fm_some] at hp5
      refine ⟨D, _, rfl, .inl ⟨.of hD5, fun p np => ?_⟩⟩
      have s6 := same_new (o := .tup ys) np
      exact q _ _ (s5.trans s6) ⟨p, ys, rfl, upd_same, paired_mono mono_row s6.keep hp5⟩
theorem ok_block (T : Tx K mg cT cS) {f : Addr} {fd : FuncData} (d : D K mg "block" s_block ["sheet", "way"] f fd) : FnOk P w K mg base CX0 6 f fd ["sheet", "way"] (spBlock cT cS) := by
  obtain ⟨f1, fd1, d1⟩ := T.d_is_way
  have G1 : FnOk P w K mg base CX0 3 f1 fd1 ["tree", "thing"] (spIsWay cT) := ok_is_way T d1
  obtain ⟨f2, fd2, d2⟩ := T.d_near_numbers
  have G2 : FnOk P w K mg base CX0 4 f2 fd2 ["sheet", "way"] (spNear cT cS) := ok_near T d2
  obtain ⟨f3, fd3, d3⟩ := T.d_far_wants
  have G3 : FnOk P w K mg base CX0 5 f3 fd3 ["sheet", "way"] (spFar cT cS) := ok_far T d3
  obtain ⟨f4, fd4, d4⟩ := T.d_narrowed
  have G4 : FnOk P w K mg base CX0 2 f4 fd4 ["rows", "lot"] spNarrow := ok_narrowed T d4
  obtain ⟨fS, fdS, kS⟩ := T.k_Sheet
  have n2 : NoAttr K cS "tree" := kS.na _ (by simp)
  have n4 : NoAttr K cS "wants" := kS.na _ (by simp)
  refine d.F.ok sc_block (fun vs H Q E h => ?_) (fun cdv A outer s H vs Q E hr h => ?_)
  · obtain ⟨u, v, S, z, n, rfl, _⟩ := h
    rfl
  · obtain ⟨u, v, S, z, n, rfl, hS, hz, ok, hw, q⟩ := h
    obtain ⟨a, dx, tr, th, tw, rfl, hI, hT, hth, hwt⟩ := id hS
    have hn := ok.ties.len
    have hn24 := ok.ties.n24
    refine ⟨_, pss_cons (ps_if (pt_not (pt_val (pe_call G1 (hr.mono (by decide)) rfl d1.m d1.F.kp d1.b .nil pass0 (pa_cons (pe_fld (pv 0) rfl) (pa_cons (pv 1) pa_nil))))) pss_never pss_nil)
      (pss_cons (ps_setLc (i := 2) (own := [("post", 3), ("want", 4)]) (g := gTup K 2 (gCons (gName 3) (gCons (gName 4) gNil))) (tt := tYes) rfl sc_block.nd rfl rfl (sw_true rfl rfl rfl (by decide +kernel)) (pi_tup (pe_call G3 hr rfl d3.m d3.F.kp d3.b .nil pass0 (pa_cons (pv 0) (pa_cons (pv 1) pa_nil)))) (blkOk_by (N := N_block) (sc := defScope s_block) (by decide +kernel))
          (fun _ _ _ _ _ => pgT rfl rfl (pgs_cons (pg_name (i := 3) sc_block.nd rfl (Or.inl rfl)) (pgs_cons (pg_name (i := 4) sc_block.nd rfl (Or.inl rfl)) pgs_nil))) (fun _ _ _ _ _ => pts_nil)
          (fun _ _ _ _ _ => pe_ix (ixT (K := K) rfl) (pe_ix (ixT (K := K) rfl) (fldK (K := K) (pv 0) rfl rfl) (pv 3) (fun _ _ => rfl)) (pv 4) (fun _ _ => rfl)))
      (pss_one (ps_ret (pe_call G4 (hr.mono (by decide)) rfl d4.m d4.F.kp d4.b .nil pass0 (pa_cons (pv 2) (pa_cons (pe_call G2 (hr.mono (by decide)) rfl d2.m d2.F.kp d2.b .nil pass0 (pa_cons (pv 0) (pa_cons (pv 1) pa_nil))) pa_nil)))))), ?_⟩
    refine ⟨_, rfl, a, cS, dx, _, _, rfl, hI, kS.cl, n2, sfs_tree, _, rfl, .ref tr, v, S.ties, z, rfl, hT, hz, hw.a0, hw.b0, by have := hw.a1; omega, by have := hw.b1; omega, hw.m, fun H2 s2 => ⟨_, rfl, iteF ?_⟩⟩
    refine ⟨_, rfl, _, rfl, .ref a, v, S, z, n, rfl, mono_sheet cT cS _ _ _ _ s2.keep hS, mono_pi _ _ _ _ s2.keep hz, ok.ties, ok.wants, hw, fun H4 v4 far s4 hfar fup fnd fmem fin_ => ?_⟩
    have s14 := s2.trans s4
    obtain ⟨tf, fs, rfl, htf, hfp⟩ := hfar
    have hflen := paired_len hfp
    have hfl : far.length ≤ 24 := by
      have := nodup_len fnd fin_
      rw [rng_len] at this
      omega
    have hfll : (farL S.wants far).length ≤ 8 * 24 := by
      have h := flat_len' (F := fun i => (far[i]?.map fun (post : Int) => (List.range (S.wants.getD post.toNat []).length).map fun (k : Nat) => (post, (k : Int))).getD []) (i := far.length) (b := 8) fun j _ => by
        cases far[j]? with
        | none => simp
        | some y =>
          show ((List.range (S.wants.getD y.toNat []).length).map _).length ≤ 8
          rw [List.length_map, List.length_range, List.getD_eq_getElem?_getD]
          cases e : S.wants[y.toNat]? with
          | none => simp
          | some r => exact (ok.wants.b r (List.mem_of_getElem? e)).1
      rw [fl_list] at h
      show (far.flatMap _).length ≤ _
      omega
    refine ⟨tf, rfl, ⟨_, .of htf⟩, fun D hD => ?_⟩
    refine lc_fm (walk_tup (xs := fs)) rRow (fun i => (farL S.wants far)[i]?.bind fun z => some ((S.wants.getD z.1.toNat []).getD z.2.toNat [])) hD (fun H' s' => .of (s'.keep.tup htf)) ?_ ?_
    · rintro i x H5 H6 hi pv ⟨rfl, hx⟩
      have s5 := s14.trans pv.1
      obtain ⟨y, hy, ty, rfl, hty⟩ := paired_get (paired_mono mono_pi pv.1.keep hfp) hx
      obtain ⟨y1, y2, y3⟩ := farL_in (List.mem_of_getElem? hy)
      obtain ⟨g1, g2⟩ := rng_mem.mp (fin_ _ y1)
      obtain ⟨b1, b2⟩ := y
      simp only at y2 y3 g1 g2
      obtain ⟨j0, rfl⟩ : ∃ j0 : Nat, b1 = (j0 : Int) := ⟨b1.toNat, by omega⟩
      obtain ⟨k0, rfl⟩ : ∃ k0 : Nat, b2 = (k0 : Int) := ⟨b2.toNat, by omega⟩
      rw [Int.toNat_natCast] at y3
      have hwl := ok.wants.len
      have hj0 : S.wants[j0]? = some (S.wants[j0]'(by omega)) := List.getElem?_eq_getElem (by omega)
      rw [getD_at hj0] at y3
      obtain ⟨tw', ws, ew, htw, hwp⟩ := mono_wants _ _ _ _ s5.keep hwt
      cases ew
      obtain ⟨u1, hu1, tu, us, rfl, htu, hup⟩ := paired_get2 hwp hj0
      have hk0 : (S.wants[j0]'(by omega))[k0]? = some ((S.wants[j0]'(by omega))[k0]'(by omega)) := List.getElem?_eq_getElem (by omega)
      obtain ⟨u2, hu2, hrow2⟩ := paired_get2 hup hk0
      have hir := (ok.wants.b _ (List.getElem_mem (h := by omega) (l := S.wants) (n := j0))).2 _ (List.getElem_mem (h := by omega) (l := S.wants[j0]'(by omega)) (n := k0))
      refine ⟨ty, _, rfl, .of hty, rfl, _, _, rfl, _, _, rfl, rfl, rfl, ?_⟩
      refine ⟨_, rfl, a, cS, dx, _, _, rfl, s5.keep.ins hI, kS.cl, n4, sfs_wants, _, rfl, tw, ws, _, _, rfl, rfl, .of htw, atI_nat hu1, _, rfl, tu, us, _, _, rfl, rfl, .of htu, atI_nat hu2, ?_⟩
      refine fm_keep mono_row pv hD (by omega) (.refl _) (by rw [hy]; rfl) ?_
      simp only [Int.toNat_natCast]
      rw [getD_at hj0, getD_at hk0]
      exact hrow2
    · intro H5 ys s5 hD5 hp5
      rw [hflen, fm_some] at hp5
      have s15 := s14.trans s5
      refine ⟨_, rfl, _, rfl, _, rfl, .ref a, v, S, z, n, rfl, mono_sheet cT cS _ _ _ _ s15.keep hS, mono_pi _ _ _ _ s15.keep hz, ok.ties, ok.holds, hw, fun H6 v6 near s6 hnear nup nnd nmem nin => ?_⟩
      have hnl : near.length ≤ 24 := by
        have := nodup_len nnd nin
        rw [rng_len] at this
        omega
      have hnum := numsL_len ok.holds hnl (fun p hp => rng_mem.mp (nin p hp))
      refine ⟨D, v6, ys, _, _, rfl, s6 _ _ hD5, paired_mono mono_row s6.keep hp5, by rw [List.length_map]; omega, hnear, by omega, ?_, fun H7 v7 s7 h7 => ?_⟩
      · intro r hr i hi
        obtain ⟨y, hy, rfl⟩ := List.mem_map.mp hr
        obtain ⟨y1, y2, y3⟩ := farL_in hy
        obtain ⟨g1, g2⟩ := rng_mem.mp (fin_ _ y1)
        obtain ⟨b1, b2⟩ := y
        simp only at y2 y3 g1 g2
        obtain ⟨j0, rfl⟩ : ∃ j0 : Nat, b1 = (j0 : Int) := ⟨b1.toNat, by omega⟩
        obtain ⟨k0, rfl⟩ : ∃ k0 : Nat, b2 = (k0 : Int) := ⟨b2.toNat, by omega⟩
        rw [Int.toNat_natCast] at y3
        have hwl := ok.wants.len
        have hj0 : S.wants[j0]? = some (S.wants[j0]'(by omega)) := List.getElem?_eq_getElem (by omega)
        rw [getD_at hj0] at y3
        have hk0 : (S.wants[j0]'(by omega))[k0]? = some ((S.wants[j0]'(by omega))[k0]'(by omega)) := List.getElem?_eq_getElem (by omega)
        have hir := (ok.wants.b _ (List.getElem_mem (h := by omega) (l := S.wants) (n := j0))).2 _ (List.getElem_mem (h := by omega) (l := S.wants[j0]'(by omega)) (n := k0))
        have := numsL_in ok.holds hi
        simp only [Int.toNat_natCast]
        rw [getD_at hj0, getD_at hk0]
        have := hir.1
        omega
      · rw [List.map_map] at h7
        exact q H7 v7 near far ((s15.trans s6).trans s7) h7 nup nnd nmem fup fnd fmem
end
end S4

namespace S4
open PySem L2 TT MM
/-! ### the hand that draws -/
def hl (c : Addr) (i1 i2 i3 i4 : Int) : List V := [.ref c, .int i1, .int i2, .int i3, .int i4]
structure HandW (g c : Addr) (cells : List Int) (i1 i2 i3 i4 : Int) (H : Hp) : Prop where
  h : H g = some (.lst (hl c i1 i2 i3 i4))
  hc : H c = some (.lst (cells.map V.int))
  len : cells.length ≤ 63
  pos : ∀ x ∈ cells, 0 ≤ x
  b1 : 0 ≤ i1 ∧ i1 ≤ (cells.length : Int)
  b2 : 0 ≤ i2
  b3 : 0 ≤ i3 ∧ i3 < 4294967296
  b4 : 0 ≤ i4
def Hand (g c : Addr) (H : Hp) : Prop := ∃ cells i1 i2 i3 i4, HandW g c cells i1 i2 i3 i4 H
theorem HandW.ne {g c : Addr} {cells : List Int} {i1 i2 i3 i4 : Int} {H : Hp} (h : HandW g c cells i1 i2 i3 i4 H) : c ≠ g := ne_of h.hc h.h (fun e => by
  injection e with e
  cases cells with
  | nil => cases e
  | cons a l => rw [List.map_cons] at e; cases e)
theorem Hand.lst {g c : Addr} {H : Hp} (h : Hand g c H) : ∃ ys, H g = some (.lst ys) := let ⟨_, _, _, _, _, w⟩ := h; ⟨_, w.h⟩
theorem Hand.cells {g c : Addr} {H : Hp} (h : Hand g c H) : ∃ ys, H c = some (.lst ys) := let ⟨_, _, _, _, _, w⟩ := h; ⟨_, w.hc⟩
theorem Hand.setD {g c D : Addr} {H : Hp} {o : HO} (h : Hand g c H) (h1 : D ≠ g) (h2 : D ≠ c) : Hand g c (upd H D o) := let ⟨cells, i1, i2, i3, i4, w⟩ := h; ⟨cells, i1, i2, i3, i4, by rw [upd_ne h1.symm]; exact w.h, by rw [upd_ne h2.symm]; exact w.hc, w.len, w.pos, w.b1, w.b2, w.b3, w.b4⟩
theorem Hand.same {g c : Addr} {H H' : Hp} (h : Hand g c H) (s : Same H H') : Hand g c H' := by
  obtain ⟨cells, i1, i2, i3, i4, w⟩ := h
  exact ⟨cells, i1, i2, i3, i4, s _ _ w.h, s _ _ w.hc, w.len, w.pos, w.b1, w.b2, w.b3, w.b4⟩
/-- a list apart from the hand stays apart -/
theorem _root_.TT.But.lst {g : Addr} {H H' : Hp} (k : But g H H') {b : Addr} (hb : b ≠ g) {xs : List V} (h : H b = some (.lst xs)) : H' b = some (.lst xs) := k b _ hb h
theorem Hand.keep {g c : Addr} {H H' : Hp} (h : Hand g c H) (k : But g H H') : Keep H H' := let ⟨_, e⟩ := h.lst; k.keep e
section
variable {P : Program} {w : World} {K : PySem.W.Frag} {mg : Str → Option Value} {base : Heap} {cT cS : Addr}
def spHand (K : PySem.W.Frag) : Sp := fun vs H Q _ => ∃ (a : Addr) (ns : List Int), vs = [.ref a] ∧ SqL K H a (ns.map V.int) ∧ ns.length ≤ 63 ∧ ∀ H' g c, Same H H' → H g = none → Hand g c H' → Q (.ref g) H'
theorem ok_hand (T : Tx K mg cT cS) {f : Addr} {fd : FuncData} (d : D K mg "_law_hand" s_law_hand ["script"] f fd) : FnOk P w K mg base CX0 1 f fd ["script"] (spHand K) := by
  refine d.F.ok sc_law_hand (fun vs H Q E h => ?_) (fun cdv A outer s H vs Q E hr h => ?_)
  · obtain ⟨a, ns, rfl, _⟩ := h
    rfl
  · obtain ⟨a, ns, rfl, hS, hl63, q⟩ := h
    refine ⟨_, pss_cons (ps_setLc (i := 1) (own := [("cell", 2)]) (g := gName 2) (tt := tYes) rfl sc_law_hand.nd rfl rfl (sw_true rfl rfl rfl (by decide +kernel)) (pi_list (pe_slice sl_list (pv 0) po_none (po_some pe_int))) (blkOk_by (N := N_law_hand) (sc := defScope s_law_hand) (by decide +kernel))
          (fun _ _ _ _ _ => pg_name (i := 2) sc_law_hand.nd rfl (Or.inl rfl)) (fun _ _ _ _ _ => pts_nil)
          (fun _ _ _ _ _ => pe_callB call_abs (by rfl) T.b_abs (by decide +kernel) (pa_cons (pe_callTy call_int1 (by rfl) T.b_int (by decide +kernel) (pa_cons (pv 2) pa_nil)) pa_nil)))
      (pss_one (ps_ret (pe_lst (pa_cons (pv 1) (pa_cons pe_int (pa_cons pe_int (pa_cons (pe_op op_add pe_int (pe_callB call_len_seq (by rfl) T.b_len PySem.boot_len (pa_cons (pv 1) pa_nil))) (pa_cons pe_int pa_nil)))))))), ?_⟩
    refine ⟨_, rfl, 63, rfl, a, _, rfl, hS, fun p np => ?_⟩
    have e63 : cutV (ns.map V.int) none (some 63) = ns.map V.int := by
      have := cutV_upto (ns.map V.int) 63
      rw [List.take_of_length_le (by rw [List.length_map]; exact hl63)] at this
      exact this
    rw [e63]
    have s1 := same_new (o := .lst (ns.map V.int)) np
    refine ⟨p, rfl, ⟨_, .of upd_same⟩, fun D hD => ?_⟩
    refine lc_fm (walk_list (xs := ns.map V.int)) rInt (fun i => ns[i]?.bind fun x => some (if x < 0 then -x else x)) hD (fun H' s' => .of (s' _ _ upd_same)) ?_ ?_
    · rintro i x H2 H3 hi pv ⟨rfl, hx⟩
      obtain ⟨k, hk, rfl⟩ := at_int hx
      rw [List.length_map] at hi
      refine ⟨rfl, _, rfl, .inl ⟨k, rfl, k, rfl, ?_⟩⟩
      exact fm_keep mono_int pv hD (by omega) (Same.refl _) (by rw [hk]; rfl) rfl
    · intro H2 ys s2 hD2 hp2
      rw [List.length_map, fm_some] at hp2
      have := paired_int hp2
      subst this
      refine ⟨_, rfl, _, rfl, _, _, rfl, .inl (.of hD2), _, _, rfl, rfl, by show 5 ≤ sizeLine; decide, fun g ng => ?_⟩
      have s3 := same_new (o := .lst (hl D 0 0 (1 + ((((ns.map fun x => if x < 0 then -x else x).map V.int).length : Nat) : Int)) 0)) ng
      refine q _ g D ((s1.trans s2).trans s3) ((s1.trans s2).free ng) ⟨ns.map fun x => if x < 0 then -x else x, 0, 0, _, 0, upd_same, s3 _ _ hD2, by rw [List.length_map]; exact hl63, fun x hx => ?_, ⟨by omega, by omega⟩, by omega, ?_, by omega⟩
      · obtain ⟨y, _, rfl⟩ := List.mem_map.mp hx
        split <;> omega
      · rw [List.length_map, List.length_map]
        omega
def spDraw : Sp := fun vs H Q _ => ∃ (g c : Addr) (m : Int), vs = [.ref g, .int m] ∧ 0 < m ∧ m < 1073741824 ∧ Hand g c H ∧ ∀ H' n, But g H H' → Hand g c H' → 0 ≤ n → n < m → Q (.int n) H'
theorem mod_b {a m : Int} (h : 0 < m) : 0 ≤ a % m ∧ a % m < m := ⟨Int.emod_nonneg _ (by omega), Int.emod_lt_of_pos _ h⟩
theorem ok_draw (T : Tx K mg cT cS) {f : Addr} {fd : FuncData} (d : D K mg "_law_draw" s_law_draw ["hand", "many"] f fd) : FnOk P w K mg base CX0 1 f fd ["hand", "many"] spDraw := by
  refine d.F.ok sc_law_draw (fun vs H Q E h => ?_) (fun cdv A outer s H vs Q E hr h => ?_)
  · obtain ⟨g, c, m, rfl, _⟩ := h
    rfl
  · obtain ⟨g, c, m, rfl, m0, m1, ⟨cells, i1, i2, i3, i4, W⟩, q⟩ := h
    refine ⟨_, C8.pss_cut (ps_if (PW.pt (pw_and (pt_cmpR op_eq (pe_ix ix_list (pv 0) pe_int (fun _ _ => rfl)) pe_int (nomark _)) (pw_and1 (pt_cmpR op_lt (pe_ix ix_list (pv 0) pe_int (fun _ _ => rfl)) (pe_callB call_len_seq (by rfl) T.b_len PySem.boot_len (pa_cons (pe_ix ix_list (pv 0) pe_int (fun _ _ => rfl)) pa_nil)) (nomark _)))))
        (pss_cons (ps_set (i := 2) sc_law_draw.nd rfl (.inl rfl) (pe_ix ix_list (pe_ix ix_list (pv 0) pe_int (fun _ _ => rfl)) (pe_ix ix_list (pv 0) pe_int (fun _ _ => rfl)) (fun _ _ => rfl)))
          (pss_cons (ps_asg (pe_op op_add (pe_ix ix_list (pv 0) pe_int (fun _ _ => rfl)) pe_int) (pg_sub (pv 0) pe_int set_list))
          (pss_cons (ps_asg (pe_op op_mod (pe_callTy call_int1 (by rfl) T.b_int (by decide +kernel) (pa_cons (pe_op op_add (pe_op op_add (pe_op op_mul (pe_ix ix_list (pv 0) pe_int (fun _ _ => rfl)) pe_int) (pv 2)) pe_int) pa_nil)) pe_int) (pg_sub (pv 0) pe_int set_list))
          (pss_one (ps_if (pt_cmpR op_ge (pv 2) (pe_op op_pow pe_int pe_int) (nomark _)) (pss_one (ps_asg (pv 2) (pg_sub (pv 0) pe_int set_list))) pss_nil))))) pss_nil)
      (pss_cons (ps_if (pt_cmpR op_gt (pe_ix ix_list (pv 0) pe_int (fun _ _ => rfl)) pe_int (nomark _))
        (pss_cons (ps_set (i := 3) sc_law_draw.nd rfl (.inl rfl) (pe_op op_mod (pe_callTy call_int1 (by rfl) T.b_int (by decide +kernel) (pa_cons (pe_ix ix_list (pv 0) pe_int (fun _ _ => rfl)) pa_nil)) (pv 1)))
          (pss_cons (ps_asg (pe_op op_fdivN (pe_ix ix_list (pv 0) pe_int (fun _ _ => rfl)) (pv 1)) (pg_sub (pv 0) pe_int set_list)) (pss_one (ps_ret (pv 3))))) pss_nil)
      (pss_cons (ps_asg (pe_op op_add (pe_ix ix_list (pv 0) pe_int (fun _ _ => rfl)) pe_int) (pg_sub (pv 0) pe_int set_list))
      (pss_cons (ps_set (i := 4) sc_law_draw.nd rfl (.inl rfl) (pe_op op_mod (pe_callTy call_int1 (by rfl) T.b_int (by decide +kernel) (pa_cons (pe_op op_mul (pe_callTy call_int1 (by rfl) T.b_int (by decide +kernel) (pa_cons (pe_op op_add (pe_ix ix_list (pv 0) pe_int (fun _ _ => rfl)) (pe_op op_mul pe_int (pe_ix ix_list (pv 0) pe_int (fun _ _ => rfl)))) pa_nil)) pe_int) pa_nil)) pe_int))
      (pss_cons (ps_set (i := 4) sc_law_draw.nd rfl (.inl rfl) (pe_op op_mod (pe_callTy call_int1 (by rfl) T.b_int (by decide +kernel) (pa_cons (pe_op op_mul (pv 4) (pe_op op_add (pe_op op_fdiv (pv 4) pe_int) pe_int)) pa_nil)) pe_int))
      (pss_cons (ps_set (i := 4) sc_law_draw.nd rfl (.inl rfl) (pe_op op_mod (pe_callTy call_int1 (by rfl) T.b_int (by decide +kernel) (pa_cons (pe_op op_mul (pv 4) (pe_op op_add (pe_op op_fdiv (pv 4) pe_int) pe_int)) pa_nil)) pe_int))
      (pss_one (ps_ret (pe_op op_mod (pe_callTy call_int1 (by rfl) T.b_int (by decide +kernel) (pa_cons (pe_op op_fdiv (pv 4) pe_int) pa_nil)) (pv 1))))))))), ?_⟩
    refine ⟨fun σ H' => ∃ (x : Option V) (j1 j2 j3 j4 : Int), σ = [some (.ref g), some (.int m), x, none, none] ∧ But g H H' ∧ HandW g c cells j1 j2 j3 j4 H', ?_, ?_⟩
    · refine ⟨_, rfl, g, _, _, _, rfl, rfl, .of W.h, at_of (j := 2) rfl rfl, rfl, _, rfl, ?_⟩
      by_cases h2 : i2 = 0
      · rw [decide_eq_true (by rw [h2])]
        refine iteT ⟨_, rfl, g, _, _, _, rfl, rfl, .of W.h, at_of (j := 1) rfl rfl, _, rfl, g, _, _, _, rfl, rfl, .of W.h, at_of (j := 0) rfl rfl, _, _, rfl, .inl (.of W.hc), _, _, rfl, rfl, _, rfl, ?_⟩
        by_cases h1 : i1 < (((cells.map V.int).length : Nat) : Int)
        · rw [decide_eq_true h1]
          rw [List.length_map] at h1
          have hb1 := W.b1.1
          obtain ⟨k, rfl⟩ : ∃ k : Nat, i1 = (k : Int) := ⟨i1.toNat, by omega⟩
          have hk : cells[k]? = some (cells[k]'(by omega)) := List.getElem?_eq_getElem (by omega)
          have hpos := W.pos _ (List.getElem_mem (h := by omega) (l := cells) (n := k))
          refine iteT ⟨_, rfl, g, _, _, _, rfl, rfl, .of W.h, at_of (j := 0) rfl rfl, _, rfl, g, _, _, _, rfl, rfl, .of W.h, at_of (j := 1) rfl rfl, c, _, _, _, rfl, rfl, .of W.hc, atI_nat (int_at hk), ?_⟩
          dsimp only [gName, tSeq]
          refine ⟨_, rfl, g, _, _, _, rfl, rfl, .of W.h, at_of (j := 1) rfl rfl, _, _, rfl, rfl, _, rfl, g, _, _, _, rfl, rfl, W.h, rfl, ?_⟩
          refine ⟨_, rfl, g, _, _, _, rfl, rfl, .of upd_same, at_of (j := 3) rfl rfl, _, _, rfl, rfl, .inl ⟨by have := W.b3.1; omega, by have := W.b3.2; omega⟩, _, rfl, _, _, rfl, rfl, _, _, rfl, rfl, .inl ⟨_, rfl, _, _, rfl, rfl, (by dsimp only; decide), _, rfl, g, _, _, _, rfl, rfl, upd_same, rfl, ?_⟩⟩
          rw [upd_upd]
          have hm := mod_b (a := i3 * 69621 + cells[k]'(by omega) + 11) (m := 2147483629) (by decide)
          have W2 : HandW g c cells ((k : Int) + 1) i2 ((i3 * 69621 + cells[k]'(by omega) + 11) % 2147483629) i4 (upd H g (.lst (hl c ((k : Int) + 1) i2 ((i3 * 69621 + cells[k]'(by omega) + 11) % 2147483629) i4))) :=
            ⟨upd_same, by rw [upd_ne W.ne]; exact W.hc, W.len, W.pos, ⟨by omega, by omega⟩, W.b2, ⟨by omega, by omega⟩, W.b4⟩
          refine ⟨_, rfl, _, _, rfl, rfl, ⟨by decide, by decide, by decide⟩, _, _, rfl, rfl, _, rfl, ?_⟩
          refine ite2 (fun hc => ?_) (fun hc => ?_)
          · refine ⟨_, rfl, _, rfl, g, _, _, _, rfl, rfl, upd_same, rfl, ?_⟩
            rw [upd_upd]
            exact ⟨_, _, _, _, _, rfl, but_upd, upd_same, by rw [upd_ne W.ne]; exact W.hc, W.len, W.pos, W2.b1, hpos, W2.b3, W2.b4⟩
          · exact ⟨_, _, _, _, _, rfl, but_upd, W2⟩
        · rw [decide_eq_false h1]
          exact iteF ⟨_, _, _, _, _, rfl, .refl _ _, W⟩
      · rw [decide_eq_false (fun e => h2 (V.int.inj e))]
        exact iteF ⟨_, _, _, _, _, rfl, .refl _ _, W⟩
    · rintro σ H2 ⟨x, j1, j2, j3, j4, rfl, bt, W2⟩
      refine ⟨_, rfl, g, _, _, _, rfl, rfl, .of W2.h, at_of (j := 2) rfl rfl, _, _, rfl, rfl, _, rfl, ?_⟩
      refine ite2 (fun hc => ?_) (fun hc => ?_)
      · refine ⟨_, rfl, g, _, _, _, rfl, rfl, .of W2.h, at_of (j := 2) rfl rfl, .inl ⟨_, rfl, _, rfl, _, _, rfl, rfl, m0, ?_⟩⟩
        dsimp only [gName, tSeq]
        refine ⟨_, rfl, g, _, _, _, rfl, rfl, .of W2.h, at_of (j := 2) rfl rfl, _, rfl, _, _, rfl, rfl, ⟨by omega, by omega⟩, _, rfl, g, _, _, _, rfl, rfl, W2.h, rfl, _, rfl, ?_⟩
        have hm := mod_b (a := j2) m0
        refine q _ _ (bt.trans but_upd) ⟨cells, _, _, _, _, upd_same, by rw [upd_ne W2.ne]; exact W2.hc, W2.len, W2.pos, W2.b1, ?_, W2.b3, W2.b4⟩ hm.1 hm.2
        rw [Int.fdiv_eq_ediv_of_nonneg _ (by omega)]
        exact Int.ediv_nonneg W2.b2 (by omega)
      · refine ⟨_, rfl, g, _, _, _, rfl, rfl, .of W2.h, at_of (j := 4) rfl rfl, _, _, rfl, rfl, _, rfl, g, _, _, _, rfl, rfl, W2.h, rfl, ?_⟩
        have W3 : HandW g c cells j1 j2 j3 (j4 + 1) (upd H2 g (.lst (hl c j1 j2 j3 (j4 + 1)))) := ⟨upd_same, by rw [upd_ne W2.ne]; exact W2.hc, W2.len, W2.pos, W2.b1, W2.b2, W2.b3, by have := W2.b4; omega⟩
        refine ⟨_, rfl, g, _, _, _, rfl, rfl, .of upd_same, at_of (j := 3) rfl rfl, _, rfl, g, _, _, _, rfl, rfl, .of upd_same, at_of (j := 4) rfl rfl, _, _, rfl, rfl, .inl ⟨by decide, by decide⟩, _, _, rfl, rfl, .inl ⟨_, rfl, _, _, rfl, rfl, .inr ⟨by decide, by decide⟩, .inl ⟨_, rfl, _, _, rfl, rfl, (by dsimp only; decide), ?_⟩⟩⟩
        dsimp only [gName, tSeq]
        generalize hn1 : (j3 + 7919 * (j4 + 1)) * 48271 % 2147483647 = n1
        have a1 := mod_b (a := (j3 + 7919 * (j4 + 1)) * 48271) (m := 2147483647) (by decide)
        rw [hn1] at a1
        refine ⟨_, rfl, _, rfl, _, _, rfl, rfl, ⟨by decide, by decide⟩, _, _, rfl, rfl, _, _, rfl, rfl, .inl ⟨by omega, by omega⟩, .inl ⟨_, rfl, _, _, rfl, rfl, (by dsimp only; decide), ?_⟩⟩
        dsimp only [gName, tSeq]
        generalize hn2 : n1 * (n1 / 1009 + 69621) % 2147483647 = n2
        have a2 := mod_b (a := n1 * (n1 / 1009 + 69621)) (m := 2147483647) (by decide)
        rw [hn2] at a2
        refine ⟨_, rfl, _, rfl, _, _, rfl, rfl, ⟨by decide, by decide⟩, _, _, rfl, rfl, _, _, rfl, rfl, .inl ⟨by omega, by omega⟩, .inl ⟨_, rfl, _, _, rfl, rfl, (by dsimp only; decide), ?_⟩⟩
        dsimp only [gName, tSeq]
        generalize hn3 : n2 * (n2 / 2003 + 40692) % 2147483399 = n3
        refine ⟨_, rfl, _, _, rfl, rfl, ⟨by decide, by decide⟩, .inl ⟨_, rfl, _, rfl, _, _, rfl, rfl, m0, ?_⟩⟩
        have hm := mod_b (a := n3 / 16) m0
        exact q _ _ (bt.trans but_upd) ⟨cells, _, _, _, _, W3⟩ hm.1 hm.2
end
end S4

namespace S4
open PySem L2 TT MM
theorem walk_zipT {K : PySem.W.Frag} {a b : Addr} {xs ys : List V} {n : Nat} (hn : n = min xs.length ys.length) : Walk (RZ.ItzT K a b) n (fun H => SqT K H a xs ∧ SqT K H b ys) (YPair (fun i => xs[i]?) (fun i => ys[i]?)) := by
  subst hn
  refine ⟨fun i _ hi q => ?_, fun _ q => ⟨xs, ys, q.1, q.2, by omega⟩, fun i H v H' _ q y => ?_⟩
  · have h1 : i < xs.length := by omega
    have h2 : i < ys.length := by omega
    exact ⟨xs, ys, xs[i], ys[i], q.1, q.2, by simp [h1], by simp [h2]⟩
  · obtain ⟨T, x, z, h1, h2, h3, h4, h5⟩ := y
    exact ⟨T, x, z, h1, h2, h3, h4 xs q.1, h5 ys q.2⟩
/-- two values of the same data, of the same kinds, n deep -/
def Alike (H : Hp) : Nat → V → V → Prop
  | 0, x, y => ∃ k, x = .int k ∧ y = .int k
  | n + 1, x, y => (∃ k, x = .int k ∧ y = .int k) ∨ ∃ a b xs ys, x = .ref a ∧ y = .ref b ∧ ((H a = some (.tup xs) ∧ H b = some (.tup ys)) ∨ (H a = some (.lst xs) ∧ H b = some (.lst ys))) ∧ xs.length ≤ 1000 ∧ Paired (Alike H n) xs ys
theorem alike_same {H H' : Hp} (s : Same H H') : ∀ (n : Nat) {x y : V}, Alike H n x y → Alike H' n x y
  | 0, _, _, h => h
  | n + 1, _, _, h => by
    rcases h with h | ⟨a, b, xs, ys, e1, e2, h, hl, hp⟩
    · exact .inl h
    · refine .inr ⟨a, b, xs, ys, e1, e2, ?_, hl, Paired.mapP hp fun _ _ q => alike_same s n q⟩
      rcases h with ⟨h1, h2⟩ | ⟨h1, h2⟩
      · exact .inl ⟨s _ _ h1, s _ _ h2⟩
      · exact .inr ⟨s _ _ h1, s _ _ h2⟩
section
variable {K : PySem.W.Frag}
theorem kit_lt : PySem.W.kitOne K (.type "list") (.type "tuple") = some false := kit_ty (by decide +kernel)
theorem kit_ll : PySem.W.kitOne K (.type "list") (.type "list") = some true := kit_ty (by decide +kernel)
theorem kit_it : PySem.W.kitOne K (.type "int") (.type "tuple") = some false := kit_ty (by decide +kernel)
theorem kit_il : PySem.W.kitOne K (.type "int") (.type "list") = some false := kit_ty (by decide +kernel)
theorem kitA_t : PySem.W.kitAny K (.type "tuple") [.type "tuple", .type "list"] = some true := by unfold PySem.W.kitAny; rw [kit_tt]
theorem kitA_l : PySem.W.kitAny K (.type "list") [.type "tuple", .type "list"] = some true := by
  unfold PySem.W.kitAny
  rw [kit_lt]
  show PySem.W.kitAny K (.type "list") [.type "list"] = some true
  unfold PySem.W.kitAny
  rw [kit_ll]
theorem kitA_i : PySem.W.kitAny K (.type "int") [.type "tuple", .type "list"] = some false := by
  unfold PySem.W.kitAny
  rw [kit_it]
  show PySem.W.kitAny K (.type "int") [.type "list"] = some false
  unfold PySem.W.kitAny
  rw [kit_il]
  rfl
end
section
variable {P : Program} {w : World} {K : PySem.W.Frag} {mg : Str → Option Value} {base : Heap} {cT cS : Addr}
def spAny : Sp := fun vs H Q _ => ∃ (g c b : Addr) (xs : List V), vs = [.ref g, .ref b] ∧ H b = some (.lst xs) ∧ b ≠ g ∧ 0 < xs.length ∧ xs.length < 1000000 ∧ Hand g c H ∧ ∀ H' (i : Nat) x, But g H H' → Hand g c H' → xs[i]? = some x → Q x H'
theorem ok_any (T : Tx K mg cT cS) {f : Addr} {fd : FuncData} (d : D K mg "_law_any" s_law_any ["hand", "some"] f fd) : FnOk P w K mg base CX0 2 f fd ["hand", "some"] spAny := by
  obtain ⟨f1, fd1, d1⟩ := T.d_law_draw
  have G1 : FnOk P w K mg base CX0 1 f1 fd1 ["hand", "many"] spDraw := ok_draw T d1
  refine d.F.ok sc_law_any (fun vs H Q E h => ?_) (fun cdv A outer s H vs Q E hr h => ?_)
  · obtain ⟨g, c, b, xs, rfl, _⟩ := h
    rfl
  · obtain ⟨g, c, b, xs, rfl, hb, hne, h0, h1, hh, q⟩ := h
    refine ⟨_, pss_one (ps_ret (pe_ix ix_list (pv 1) (pe_call G1 hr rfl d1.m d1.F.kp d1.b .nil pass0 (pa_cons (pv 0) (pa_cons (pe_callB call_len_seq (by rfl) T.b_len PySem.boot_len (pa_cons (pv 1) pa_nil)) pa_nil))) (fun _ _ => rfl))), ?_⟩
    refine ⟨_, rfl, _, rfl, _, rfl, _, _, rfl, .inl (.of hb), g, c, _, rfl, by omega, by omega, hh, fun H2 n bt hh2 n0 n1 => ?_⟩
    obtain ⟨k, rfl⟩ : ∃ k : Nat, n = (k : Int) := ⟨n.toNat, by omega⟩
    have hk : xs[k]? = some (xs[k]'(by omega)) := List.getElem?_eq_getElem (by omega)
    exact ⟨b, xs, _, _, rfl, rfl, .of (bt.lst hne hb), atI_nat hk, q _ k _ bt hh2 hk⟩
end
end S4

/-! rows modulo a number: what they span, the ladder of a room is only one -/
namespace MM
/-- alike modulo p -/
def Cg (p a b : Int) : Prop := p ∣ a - b
theorem Cg.refl {p : Int} (a : Int) : Cg p a a := by unfold Cg; rw [Int.sub_self]; exact Int.dvd_zero p
theorem Cg.of_eq {p a b : Int} (h : a = b) : Cg p a b := h ▸ .refl a
theorem Cg.symm {p a b : Int} (h : Cg p a b) : Cg p b a := by
  obtain ⟨k, hk⟩ := h
  exact ⟨-k, by rw [Int.mul_neg, ← hk]; omega⟩
theorem Cg.trans {p a b c : Int} (h : Cg p a b) (g : Cg p b c) : Cg p a c := by
  obtain ⟨k, hk⟩ := h
  obtain ⟨l, hl⟩ := g
  exact ⟨k + l, by rw [Int.mul_add, ← hk, ← hl]; omega⟩
theorem Cg.add {p a b c d : Int} (h : Cg p a b) (g : Cg p c d) : Cg p (a + c) (b + d) := by
  obtain ⟨k, hk⟩ := h
  obtain ⟨l, hl⟩ := g
  exact ⟨k + l, by rw [Int.mul_add, ← hk, ← hl]; omega⟩
theorem Cg.mul {p a b c d : Int} (h : Cg p a b) (g : Cg p c d) : Cg p (a * c) (b * d) := by
  obtain ⟨k, hk⟩ := h
  obtain ⟨l, hl⟩ := g
  refine ⟨k * c + b * l, ?_⟩
  have e1 : a = b + p * k := by omega
  have e2 : c = d + p * l := by omega
  subst e1 e2
  simp only [Int.mul_add, Int.add_mul]
  have h1 : p * k * d = p * (k * d) := Int.mul_assoc _ _ _
  have h2 : p * k * (p * l) = p * (k * (p * l)) := Int.mul_assoc _ _ _
  have h3 : b * (p * l) = p * (b * l) := by rw [← Int.mul_assoc, Int.mul_comm b p, Int.mul_assoc]
  omega
theorem Cg.neg {p a b : Int} (h : Cg p a b) : Cg p (-a) (-b) := by
  obtain ⟨k, hk⟩ := h
  exact ⟨-k, by rw [Int.mul_neg, ← hk]; omega⟩
theorem Cg.sub {p a b c d : Int} (h : Cg p a b) (g : Cg p c d) : Cg p (a - c) (b - d) := by
  have := h.add g.neg
  rwa [← Int.sub_eq_add_neg, ← Int.sub_eq_add_neg] at this
theorem Cg.mod {p : Int} (a : Int) : Cg p (a % p) a := by
  refine ⟨-(a / p), ?_⟩
  have := Int.mul_ediv_add_emod a p
  rw [Int.mul_neg]
  omega
theorem Cg.eq {p a b : Int} (h : Cg p a b) (a0 : 0 ≤ a) (a1 : a < p) (b0 : 0 ≤ b) (b1 : b < p) : a = b := by
  obtain ⟨k, hk⟩ := h
  have p0 : 0 < p := by omega
  rcases Int.lt_trichotomy k 0 with h | h | h
  · have : p * k ≤ p * (-1) := Int.mul_le_mul_of_nonneg_left (by omega) (by omega)
    omega
  · subst h
    omega
  · have : p * 1 ≤ p * k := Int.mul_le_mul_of_nonneg_left (by omega) (by omega)
    omega
theorem Cg.zero_of {p a : Int} (h : Cg p a 0) (a0 : 0 ≤ a) (a1 : a < p) : a = 0 := h.eq a0 a1 (by omega) (by omega)
/-! ### what rows span -/
abbrev Vc := Nat → Int
inductive Spn (p : Int) (R : Vc → Prop) : Vc → Prop
  | zero {v : Vc} : (∀ x, Cg p (v x) 0) → Spn p R v
  | add {u r v : Vc} (c : Int) : Spn p R u → R r → (∀ x, Cg p (v x) (u x + c * r x)) → Spn p R v
section
variable {p : Int} {R R' : Vc → Prop}
theorem Spn.cg {u v : Vc} (h : Spn p R u) (e : ∀ x, Cg p (v x) (u x)) : Spn p R v := by
  cases h with
  | zero h => exact .zero fun x => (e x).trans (h x)
  | add c hu hr h => exact .add c hu hr fun x => (e x).trans (h x)
theorem Spn.row {r : Vc} (h : R r) : Spn p R r := .add 1 (.zero (v := fun _ => 0) fun _ => .refl 0) h fun x => .of_eq (by omega)
theorem Spn.plus {u w v : Vc} (c : Int) (hu : Spn p R u) (hw : Spn p R w) (e : ∀ x, Cg p (v x) (u x + c * w x)) : Spn p R v := by
  induction hw generalizing v with
  | @zero w h =>
    refine hu.cg fun x => (e x).trans ?_
    have := (Cg.refl (p := p) (u x)).add ((Cg.refl c).mul (h x))
    rwa [Int.mul_zero, Int.add_zero] at this
  | @add w' r w d hw' hr h ih =>
    have h1 : Spn p R (fun x => u x + c * w' x) := ih fun x => .refl _
    refine .add (c * d) h1 hr fun x => (e x).trans ?_
    have := (Cg.refl (p := p) (u x)).add ((Cg.refl c).mul (h x))
    refine this.trans (.of_eq ?_)
    rw [Int.mul_add, ← Int.mul_assoc]
    omega
theorem Spn.sub (hs : ∀ r, R r → Spn p R' r) {v : Vc} (h : Spn p R v) : Spn p R' v := by
  induction h with
  | zero h => exact .zero h
  | add c _ hr h ih => exact .plus c ih (hs _ hr) h
theorem Spn.mono (hs : ∀ r, R r → R' r) {v : Vc} (h : Spn p R v) : Spn p R' v := h.sub fun r hr => .row (hs r hr)
/-- two lots of rows, each in the room of the other -/
def Same2 (p : Int) (R R' : Vc → Prop) : Prop := ∀ v, Spn p R v ↔ Spn p R' v
theorem same2_of (h1 : ∀ r, R r → Spn p R' r) (h2 : ∀ r, R' r → Spn p R r) : Same2 p R R' := fun v => ⟨fun h => h.sub h1, fun h => h.sub h2⟩
/-- what is 0 in the places of all rows is so in all of the room -/
theorem Spn.nought {v : Vc} {x : Nat} (h : Spn p R v) (hr : ∀ r, R r → Cg p (r x) 0) : Cg p (v x) 0 := by
  induction h with
  | zero h => exact h x
  | @add u r v c hu hr' h ih =>
    have := ih.add ((Cg.refl c).mul (hr r hr'))
    rw [Int.mul_zero, Int.add_zero] at this
    exact (h x).trans this
end
/-! ### sums over a list of places -/
def sumP (P : List Nat) (f : Nat → Int) : Int := (P.map f).sum
theorem sumP_cons (i : Nat) (P : List Nat) (f : Nat → Int) : sumP (i :: P) f = f i + sumP P f := by unfold sumP; rw [List.map_cons, List.sum_cons]
theorem sumP_add (P : List Nat) (f g : Nat → Int) : sumP P (fun i => f i + g i) = sumP P f + sumP P g := by
  induction P with
  | nil => rfl
  | cons i P ih => rw [sumP_cons, sumP_cons, sumP_cons, ih]; omega
theorem sumP_mul (P : List Nat) (c : Int) (f : Nat → Int) : sumP P (fun i => c * f i) = c * sumP P f := by
  induction P with
  | nil => show (0 : Int) = c * 0; rw [Int.mul_zero]
  | cons i P ih => rw [sumP_cons, sumP_cons, ih, Int.mul_add]
theorem sumP_cg {p : Int} {P : List Nat} {f g : Nat → Int} (h : ∀ i ∈ P, Cg p (f i) (g i)) : Cg p (sumP P f) (sumP P g) := by
  induction P with
  | nil => exact .refl _
  | cons i P ih =>
    rw [sumP_cons, sumP_cons]
    exact (h i (by simp)).add (ih fun j hj => h j (by simp [hj]))
theorem sumP_zero {p : Int} {P : List Nat} {f : Nat → Int} (h : ∀ i ∈ P, Cg p (f i) 0) : Cg p (sumP P f) 0 := by
  have := sumP_cg (g := fun _ => 0) h
  have e : sumP P (fun _ => 0) = 0 := by
    clear this h
    induction P with
    | nil => rfl
    | cons i P ih => rw [sumP_cons, ih]; rfl
  rwa [e] at this
/-- only one of the places counts -/
theorem sumP_one {p : Int} {P : List Nat} {f : Nat → Int} {k : Nat} (nd : P.Nodup) (hk : k ∈ P) (h : ∀ i ∈ P, i ≠ k → Cg p (f i) 0) : Cg p (sumP P f) (f k) := by
  induction P with
  | nil => cases hk
  | cons i P ih =>
    obtain ⟨n1, n2⟩ := List.nodup_cons.mp nd
    rw [sumP_cons]
    by_cases e : i = k
    · subst e
      have := (Cg.refl (p := p) (f i)).add (sumP_zero (p := p) (P := P) (f := f) fun j hj => h j (by simp [hj]) fun q => n1 (q ▸ hj))
      rwa [Int.add_zero] at this
    · have hk' : k ∈ P := by
        rcases List.mem_cons.mp hk with q | q
        · exact absurd q.symm e
        · exact q
      have := (h i (by simp) e).add (ih n2 hk' fun j hj => h j (by simp [hj]))
      rwa [Int.zero_add] at this
/-! ### ladders -/
/-- rows by their first places -/
structure Lad (p : Int) (P : List Nat) (r : Nat → Vc) : Prop where
  nd : P.Nodup
  one : ∀ i ∈ P, Cg p (r i i) 1
  off : ∀ i ∈ P, ∀ j ∈ P, j ≠ i → Cg p (r i j) 0
  low : ∀ i ∈ P, ∀ x, x < i → Cg p (r i x) 0
def rungs (P : List Nat) (r : Nat → Vc) : Vc → Prop := fun v => ∃ i ∈ P, v = r i
section
variable {p : Int} {P P' : List Nat} {r r' : Nat → Vc}
theorem Lad.self (L : Lad p P r) {k : Nat} (hk : k ∈ P) (x : Nat) : Cg p (sumP P fun i => r k i * r i x) (r k x) := by
  refine (sumP_one L.nd hk fun i hi e => ?_).trans ?_
  · have := (L.off k hk i hi e).mul (Cg.refl (r i x))
    rwa [Int.zero_mul] at this
  · have := (L.one k hk).mul (Cg.refl (r k x))
    rwa [Int.one_mul] at this
/-- a row of the room is told by its values in the first places -/
theorem Lad.coord (L : Lad p P r) {v : Vc} (h : Spn p (rungs P r) v) (x : Nat) : Cg p (v x) (sumP P fun i => v i * r i x) := by
  induction h with
  | @zero v h =>
    refine (h x).trans (sumP_zero fun i hi => ?_).symm
    have := (h i).mul (Cg.refl (r i x))
    rwa [Int.zero_mul] at this
  | @add u w v c hu hw h ih =>
    obtain ⟨k, hk, rfl⟩ := hw
    have h1 : Cg p (sumP P fun i => v i * r i x) (sumP P fun i => u i * r i x + c * (r k i * r i x)) := sumP_cg fun i hi => by
      have := (h i).mul (Cg.refl (p := p) (r i x))
      refine this.trans (.of_eq ?_)
      rw [Int.add_mul, Int.mul_assoc]
    rw [sumP_add, sumP_mul] at h1
    exact (h x).trans (((ih.add ((Cg.refl c).mul (L.self hk x).symm))).trans h1.symm)
theorem Lad.zero (L : Lad p P r) {v : Vc} (h : Spn p (rungs P r) v) (hz : ∀ i ∈ P, Cg p (v i) 0) (x : Nat) : Cg p (v x) 0 := (L.coord h x).trans (sumP_zero fun i hi => by
  have := (hz i hi).mul (Cg.refl (p := p) (r i x))
  rwa [Int.zero_mul] at this)
/-- the first place of a row of the room is one of the first places -/
theorem Lad.lead (L : Lad p P r) {v : Vc} (h : Spn p (rungs P r) v) {x : Nat} (hx : ¬ Cg p (v x) 0) (hl : ∀ y, y < x → Cg p (v y) 0) : x ∈ P := by
  by_cases hm : x ∈ P
  · exact hm
  · exfalso
    refine hx ((L.coord h x).trans (sumP_zero fun i hi => ?_))
    rcases Nat.lt_trichotomy i x with q | q | q
    · have := (hl i q).mul (Cg.refl (p := p) (r i x))
      rwa [Int.zero_mul] at this
    · exact absurd (q ▸ hi) hm
    · have := (Cg.refl (p := p) (v i)).mul (L.low i hi x q)
      rwa [Int.mul_zero] at this
theorem one_ne {p a : Int} (p2 : 2 ≤ p) (h : Cg p a 1) : ¬ Cg p a 0 := fun h0 => by
  have := (h.symm.trans h0).eq (by omega) (by omega) (by omega) (by omega)
  omega
/-- the ladder of a room is only one: the places -/
theorem Lad.places (L : Lad p P r) (L' : Lad p P' r') (p2 : 2 ≤ p) (hs : Same2 p (rungs P r) (rungs P' r')) {i : Nat} (hi : i ∈ P) : i ∈ P' :=
  L'.lead ((hs _).mp (.row ⟨i, hi, rfl⟩)) (one_ne p2 (L.one i hi)) (L.low i hi)
theorem Same2.symm {R R' : Vc → Prop} (h : Same2 p R R') : Same2 p R' R := fun v => (h v).symm
theorem Same2.trans {R R' R2 : Vc → Prop} (h : Same2 p R R') (g : Same2 p R' R2) : Same2 p R R2 := fun v => (h v).trans (g v)
/-- and the rows -/
theorem Lad.rows (L : Lad p P r) (L' : Lad p P' r') (p2 : 2 ≤ p) (hs : Same2 p (rungs P r) (rungs P' r')) {i : Nat} (hi : i ∈ P) (x : Nat) : Cg p (r i x) (r' i x) := by
  have hi' := L.places L' p2 hs hi
  have hc := L'.coord ((hs _).mp (.row ⟨i, hi, rfl⟩)) x
  refine hc.trans ((sumP_one L'.nd hi' fun j hj e => ?_).trans ?_)
  · have hj' := L'.places L p2 hs.symm hj
    have := (L.off i hi j hj' e).mul (Cg.refl (p := p) (r' j x))
    rwa [Int.zero_mul] at this
  · have := (L.one i hi).mul (Cg.refl (p := p) (r' i x))
    rwa [Int.one_mul] at this
/-- one row more: the rest of it, cleared of the ladder, made to begin with 1 -/
theorem Lad.more (L : Lad p P r) {g : Vc} {k : Nat} (hk : k ∉ P) (g1 : Cg p (g k) 1) (g0 : ∀ i ∈ P, Cg p (g i) 0) (gl : ∀ x, x < k → Cg p (g x) 0)
    {q : Nat → Vc} (hq : ∀ x, Cg p (q k x) (g x)) (ho : ∀ i ∈ P, ∀ x, Cg p (q i x) (r i x - r i k * g x)) : Lad p (P ++ [k]) q := by
  have hne : ∀ i ∈ P, i ≠ k := fun i hi e => hk (e ▸ hi)
  have low0 : ∀ i ∈ P, ∀ x, x < i → Cg p (r i k * g x) 0 := fun i hi x hx => by
    by_cases h : x < k
    · have := (Cg.refl (p := p) (r i k)).mul (gl x h)
      rwa [Int.mul_zero] at this
    · have := (L.low i hi k (by omega)).mul (Cg.refl (p := p) (g x))
      rwa [Int.zero_mul] at this
  refine ⟨?_, fun i hi => ?_, fun i hi j hj e => ?_, fun i hi x hx => ?_⟩
  · rw [List.nodup_append]
    exact ⟨L.nd, by simp, fun a ha b hb => by rw [List.mem_singleton.mp hb]; exact hne a ha⟩
  · rcases List.mem_append.mp hi with hi | hi
    · have := (L.one i hi).sub ((Cg.refl (p := p) (r i k)).mul (g0 i hi))
      rw [Int.mul_zero, Int.sub_zero] at this
      exact (ho i hi i).trans this
    · rw [List.mem_singleton.mp hi]
      exact (hq k).trans g1
  · rcases List.mem_append.mp hi with hi | hi
    · rcases List.mem_append.mp hj with hj | hj
      · have := (L.off i hi j hj e).sub ((Cg.refl (p := p) (r i k)).mul (g0 j hj))
        rw [Int.mul_zero, Int.sub_zero] at this
        exact (ho i hi j).trans this
      · rw [List.mem_singleton.mp hj]
        have := (Cg.refl (p := p) (r i k)).sub ((Cg.refl (p := p) (r i k)).mul g1)
        rw [Int.mul_one, Int.sub_self] at this
        exact (ho i hi k).trans this
    · rw [List.mem_singleton.mp hi] at e ⊢
      rcases List.mem_append.mp hj with hj | hj
      · exact (hq j).trans (g0 j hj)
      · exact absurd (List.mem_singleton.mp hj) e
  · rcases List.mem_append.mp hi with hi | hi
    · have := (L.low i hi x hx).sub (low0 i hi x hx)
      rw [Int.sub_zero] at this
      exact (ho i hi x).trans this
    · rw [List.mem_singleton.mp hi] at hx ⊢
      exact (hq x).trans (gl x hx)
theorem Lad.nil (p : Int) (r : Nat → Vc) : Lad p [] r := ⟨.nil, fun _ h => (nomatch h), fun _ h => (nomatch h), fun _ h => (nomatch h)⟩
end
end MM

namespace MM
section
variable {p : Int} {P : List Nat} {r : Nat → Vc}
/-- the room of one row more -/
theorem Lad.moreSpan (L : Lad p P r) {g : Vc} {k : Nat} {q : Nat → Vc} (hq : ∀ x, Cg p (q k x) (g x)) (ho : ∀ i ∈ P, ∀ x, Cg p (q i x) (r i x - r i k * g x)) :
    Same2 p (rungs (P ++ [k]) q) (fun v => rungs P r v ∨ v = g) := by
  refine same2_of (fun v hv => ?_) (fun v hv => ?_)
  · obtain ⟨i, hi, rfl⟩ := hv
    rcases List.mem_append.mp hi with hi | hi
    · refine .plus (-(r i k)) (.row (.inl ⟨i, hi, rfl⟩)) (.row (.inr rfl)) fun x => (ho i hi x).trans (.of_eq ?_)
      rw [Int.neg_mul]
      omega
    · rw [List.mem_singleton.mp hi]
      exact (Spn.row (.inr rfl)).cg hq
  · have hg : Spn p (rungs (P ++ [k]) q) g := (Spn.row ⟨k, by simp, rfl⟩).cg fun x => (hq x).symm
    rcases hv with ⟨i, hi, rfl⟩ | rfl
    · refine .plus (r i k) (.row ⟨i, by simp [hi], rfl⟩) hg fun x => ?_
      have := (ho i hi x).add (Cg.refl (p := p) (r i k * g x))
      refine (this.trans (.of_eq ?_)).symm
      omega
    · exact hg
/-- the same room, with one row more each -/
theorem same2_more {R R' : Vc → Prop} (h : Same2 p R R') {g row rest : Vc} {c d : Int} (hw : Spn p R' (fun x => row x - rest x)) (hg : ∀ x, Cg p (g x) (c * rest x)) (hr : ∀ x, Cg p (rest x) (d * g x)) :
    Same2 p (fun v => R v ∨ v = g) (fun v => R' v ∨ v = row) := by
  have up : ∀ {R : Vc → Prop} {u v : Vc}, Spn p R v → Spn p (fun v => R v ∨ v = u) v := fun h => h.mono fun _ q => .inl q
  refine same2_of (fun v hv => ?_) (fun v hv => ?_)
  · rcases hv with hv | rfl
    · exact up ((h v).mp (.row hv))
    · have h1 : Spn p (fun v => R' v ∨ v = row) rest := .plus (-1) (.row (.inr rfl)) (up hw) fun x => .of_eq (by omega)
      refine .plus c (.zero (v := fun _ => 0) fun _ => .refl 0) h1 fun x => (hg x).trans (.of_eq (by omega))
  · rcases hv with hv | rfl
    · exact up ((h v).mpr (.row hv))
    · have h1 : Spn p (fun v => R v ∨ v = g) rest := .plus d (.zero (v := fun _ => 0) fun _ => .refl 0) (.row (.inr rfl)) fun x => (hr x).trans (.of_eq (by omega))
      exact .plus 1 h1 (up ((h _).mpr hw)) fun x => .of_eq (by omega)
theorem same2_in {R R' : Vc → Prop} (h : Same2 p R R') {row : Vc} (hw : Spn p R' row) : Same2 p R (fun v => R' v ∨ v = row) := by
  refine same2_of (fun v hv => ?_) (fun v hv => ?_)
  · exact ((h v).mp (.row hv)).mono fun _ q => .inl q
  · rcases hv with hv | rfl
    · exact (h v).mpr (.row hv)
    · exact (h _).mpr hw
end
/-! ### the inverse, by the steps of the program -/
/-- what holds of ahead, now, before, factor -/
structure Eu (p v a n b f : Int) : Prop where
  ha : Cg p (b * v) a
  hn : Cg p (f * v) n
  g : Int.gcd a n = 1
  n0 : 0 < n
  na : n ≤ a
  sz : ∃ s t u : Int, (s = 1 ∨ s = -1) ∧ 0 ≤ t ∧ 0 ≤ u ∧ b = -s * t ∧ f = s * u ∧ t * n + u * a = p
theorem Eu.step {p v a n b f : Int} (E : Eu p v a n b f) (h1 : n ≠ 1) : Eu p v n (a - a / n * n) f (b - a / n * f) ∧ a - a / n * n < n := by
  have hn := E.n0
  have hm : a - a / n * n = a % n := by
    have := Int.mul_ediv_add_emod a n
    rw [Int.mul_comm] at this
    omega
  have h0 := Int.emod_nonneg a (by omega : n ≠ 0)
  have hlt := Int.emod_lt_of_pos a hn
  have q0 : 0 ≤ a / n := Int.ediv_nonneg (by have := E.na; omega) (by omega)
  have hg : Int.gcd n (a % n) = 1 := by
    rw [← hm, Int.gcd_sub_mul_right_right, Int.gcd_comm]
    exact E.g
  have hne : a % n ≠ 0 := fun e => by
    rw [e, Int.gcd_zero_right] at hg
    omega
  obtain ⟨s, t, u, hs, ht, hu, hb, hf, he⟩ := E.sz
  refine ⟨⟨E.hn, ?_, by rw [hm]; exact hg, by omega, by omega, ⟨-s, u, t + a / n * u, by omega, hu, ?_, ?_, ?_, ?_⟩⟩, by omega⟩
  · have := E.ha.sub ((Cg.refl (p := p) (a / n)).mul E.hn)
    refine (Cg.of_eq ?_).trans this
    rw [Int.sub_mul, Int.mul_assoc]
  · have := Int.mul_nonneg q0 hu
    omega
  · rw [hf, Int.neg_neg]
  · rw [hb, hf, Int.mul_add, Int.neg_mul, Int.neg_mul]
    have : a / n * (s * u) = s * (a / n * u) := by rw [← Int.mul_assoc, Int.mul_comm (a / n) s, Int.mul_assoc]
    omega
  · rw [← he, Int.mul_sub, Int.add_mul]
    have e1 : u * (a / n * n) = a / n * u * n := by rw [← Int.mul_assoc, Int.mul_comm u (a / n)]
    omega
theorem Eu.start {p v : Int} (v0 : 0 < v) (v1 : v < p) (g : Int.gcd p v = 1) : Eu p v p v 0 1 :=
  ⟨by rw [Int.zero_mul]; exact ⟨-1, by rw [Int.mul_neg, Int.mul_one]; omega⟩, by rw [Int.one_mul]; exact .refl v, g, v0, by omega, 1, 0, 1, .inl rfl, by omega, by omega, by omega, by omega, by omega⟩
theorem Eu.exists {p v : Int} : ∀ (m : Nat) {a n b f : Int}, Eu p v a n b f → n ≤ (m : Int) → ∃ u, Cg p (u * v) 1
  | 0, _, _, _, _, E, h => by have := E.n0; omega
  | m + 1, a, n, b, f, E, h => by
    by_cases h1 : n = 1
    · subst h1
      exact ⟨f, E.hn⟩
    · obtain ⟨E2, hlt⟩ := E.step h1
      exact Eu.exists m E2 (by omega)
/-- bounded throughout -/
theorem Eu.small {p v a n b f : Int} (E : Eu p v a n b f) : -p ≤ b ∧ b ≤ p ∧ -p ≤ f ∧ f ≤ p ∧ a ≤ p ∨ f = 0 := by
  obtain ⟨s, t, u, hs, ht, hu, hb, hf, he⟩ := E.sz
  have hn := E.n0
  have ha := E.na
  have e1 : t ≤ t * n := by
    have := Int.mul_le_mul_of_nonneg_left (show (1 : Int) ≤ n by omega) ht
    rwa [Int.mul_one] at this
  have e2 : u ≤ u * a := by
    have := Int.mul_le_mul_of_nonneg_left (show (1 : Int) ≤ a by omega) hu
    rwa [Int.mul_one] at this
  have f1 : 0 ≤ t * n := Int.mul_nonneg ht (by omega)
  have f2 : 0 ≤ u * a := Int.mul_nonneg hu (by omega)
  by_cases hu0 : u = 0
  · right
    rw [hf, hu0, Int.mul_zero]
  · left
    have e3 : a ≤ u * a := by
      have := Int.mul_le_mul_of_nonneg_right (show (1 : Int) ≤ u by omega) (show 0 ≤ a by omega)
      rwa [Int.one_mul] at this
    rcases hs with rfl | rfl
    · rw [Int.one_mul] at hf
      rw [Int.neg_mul, Int.one_mul] at hb
      exact ⟨by omega, by omega, by omega, by omega, by omega⟩
    · rw [Int.neg_neg, Int.one_mul] at hb
      rw [Int.neg_mul, Int.one_mul] at hf
      exact ⟨by omega, by omega, by omega, by omega, by omega⟩
end MM

namespace MM
/-! ### primes -/
/-- no divisor but 1 and itself, by divisors up to the root -/
def Prm (p : Int) : Prop := 2 ≤ p ∧ ∀ k : Int, 2 ≤ k → k * k ≤ p → p % k ≠ 0
theorem Prm.gcd {p v : Int} (h : Prm p) (v0 : 0 < v) (v1 : v < p) : Int.gcd p v = 1 := by
  obtain ⟨p2, hd⟩ := h
  have g1 : ((Int.gcd p v : Nat) : Int) ∣ p := Int.gcd_dvd_left ..
  have g2 : ((Int.gcd p v : Nat) : Int) ∣ v := Int.gcd_dvd_right ..
  have gle : ((Int.gcd p v : Nat) : Int) ≤ v := Int.le_of_dvd v0 g2
  have g0 : Int.gcd p v ≠ 0 := fun e => by
    rw [e] at g2
    have := Int.zero_dvd.mp g2
    omega
  by_cases h1 : Int.gcd p v = 1
  · exact h1
  · exfalso
    generalize hd' : ((Int.gcd p v : Nat) : Int) = d at *
    have d2 : 2 ≤ d := by omega
    obtain ⟨e, he⟩ := g1
    have e2 : 2 ≤ e := by
      rcases Int.lt_trichotomy e 1 with q | q | q
      · have : d * e ≤ d * 0 := Int.mul_le_mul_of_nonneg_left (by omega) (by omega)
        omega
      · subst q
        omega
      · omega
    rcases Int.le_total d e with q | q
    · refine hd d d2 ?_ ?_
      · rw [he]
        exact Int.mul_le_mul_of_nonneg_left q (by omega)
      · rw [he]
        exact Int.mul_emod_right d e
    · refine hd e e2 ?_ ?_
      · rw [he]
        exact Int.mul_le_mul_of_nonneg_right q (by omega)
      · rw [he]
        exact Int.mul_emod_left d e
theorem Prm.inv {p v : Int} (h : Prm p) (v0 : 0 < v) (v1 : v < p) : ∃ u, Cg p (u * v) 1 :=
  Eu.exists v.toNat (Eu.start v0 v1 (h.gcd v0 v1)) (by omega)
/-- an inverse is only one -/
theorem inv_one {p u w v : Int} (h1 : Cg p (u * v) 1) (h2 : Cg p (w * v) 1) : Cg p u w := by
  have a1 := (h2.mul (Cg.refl (p := p) u))
  rw [Int.one_mul] at a1
  have a2 := (h1.mul (Cg.refl (p := p) w))
  rw [Int.one_mul] at a2
  refine a1.symm.trans ((Cg.of_eq ?_).trans a2)
  rw [Int.mul_assoc, Int.mul_comm v u, Int.mul_comm w]
/-! ### Fermat -/
def prodL : List Int → Int
  | [] => 1
  | a :: l => a * prodL l
theorem prodL_perm {l m : List Int} (h : l.Perm m) : prodL l = prodL m := by
  induction h with
  | nil => rfl
  | cons a _ ih => show a * _ = a * _; rw [ih]
  | swap a b l => show b * (a * _) = a * (b * _); rw [← Int.mul_assoc, ← Int.mul_assoc, Int.mul_comm a b]
  | trans _ _ h1 h2 => rw [h1, h2]
def ones (p : Int) : List Int := (List.range (p - 1).toNat).map fun (i : Nat) => (i : Int) + 1
theorem ones_mem {p x : Int} : x ∈ ones p ↔ 0 < x ∧ x < p := by
  unfold ones
  rw [List.mem_map]
  constructor
  · rintro ⟨i, hi, rfl⟩
    have := List.mem_range.mp hi
    omega
  · rintro ⟨a, b⟩
    exact ⟨(x - 1).toNat, List.mem_range.mpr (by omega), by omega⟩
theorem ones_nodup (p : Int) : (ones p).Nodup := by
  unfold ones
  rw [List.nodup_iff_pairwise_ne, List.pairwise_map]
  exact List.nodup_range.imp fun {a b} h e => h (by omega)
theorem ones_len (p : Int) : (ones p).length = (p - 1).toNat := by simp [ones]
theorem prodL_map {p a : Int} : ∀ l : List Int, Cg p (prodL (l.map fun x => a * x % p)) (a ^ l.length * prodL l)
  | [] => .of_eq (by show (1 : Int) = a ^ 0 * 1; rw [Int.pow_zero]; rfl)
  | x :: l => by
    have h := (Cg.mod (p := p) (a * x)).mul (prodL_map (p := p) (a := a) l)
    refine h.trans (.of_eq ?_)
    show a * x * (a ^ l.length * prodL l) = a ^ (l.length + 1) * (x * prodL l)
    rw [Int.pow_succ, Int.mul_assoc, Int.mul_assoc, ← Int.mul_assoc x, Int.mul_comm x, Int.mul_assoc, ← Int.mul_assoc a, Int.mul_comm a, Int.mul_assoc]
theorem Prm.prod_inv {p : Int} (h : Prm p) : ∀ l : List Int, (∀ x ∈ l, 0 < x ∧ x < p) → ∃ w, Cg p (w * prodL l) 1
  | [], _ => ⟨1, .refl _⟩
  | x :: l, hl => by
    obtain ⟨w, hw⟩ := h.prod_inv l fun y hy => hl y (by simp [hy])
    obtain ⟨x0, x1⟩ := hl x (by simp)
    obtain ⟨u, hu⟩ := h.inv x0 x1
    refine ⟨u * w, ?_⟩
    have := hu.mul hw
    refine (Cg.of_eq ?_).trans this
    show u * w * (x * prodL l) = u * x * (w * prodL l)
    rw [Int.mul_assoc, Int.mul_assoc, ← Int.mul_assoc w, Int.mul_comm w, Int.mul_assoc]
theorem Prm.fermat {p a : Int} (h : Prm p) (a0 : 0 < a) (a1 : a < p) : Cg p (a ^ (p - 1).toNat) 1 := by
  have p2 := h.1
  obtain ⟨u, hu⟩ := h.inv a0 a1
  have cancel : ∀ x : Int, Cg p (u * (a * x)) x := fun x => by
    have := hu.mul (Cg.refl (p := p) x)
    rw [Int.one_mul, Int.mul_assoc] at this
    exact this
  have inR : ∀ x, 0 < x → x < p → 0 < a * x % p ∧ a * x % p < p := fun x x0 x1 => by
    have n0 := Int.emod_nonneg (a * x) (by omega : p ≠ 0)
    have n1 := Int.emod_lt_of_pos (a * x) (by omega : 0 < p)
    refine ⟨?_, n1⟩
    rcases Int.lt_or_eq_of_le n0 with q | q
    · exact q
    · exfalso
      have c0 : Cg p (a * x) 0 := (Cg.mod (a * x)).symm.trans (.of_eq q.symm)
      have := (Cg.refl (p := p) u).mul c0
      rw [Int.mul_zero] at this
      have := ((cancel x).symm.trans this).zero_of (by omega) x1
      omega
  have perm : ((ones p).map fun x => a * x % p).Perm (ones p) := by
    refine (List.perm_ext_iff_of_nodup ?_ (ones_nodup p)).mpr fun y => ?_
    · rw [List.nodup_iff_pairwise_ne, List.pairwise_map]
      refine List.Pairwise.imp_of_mem (fun {x y} hx hy hne e => ?_) (ones_nodup p)
      obtain ⟨x0, x1⟩ := ones_mem.mp hx
      obtain ⟨y0, y1⟩ := ones_mem.mp hy
      have c : Cg p (a * x) (a * y) := (Cg.mod (a * x)).symm.trans ((Cg.of_eq e).trans (Cg.mod (a * y)))
      have := (Cg.refl (p := p) u).mul c
      exact hne (((cancel x).symm.trans (this.trans (cancel y))).eq (by omega) x1 (by omega) y1)
    · rw [ones_mem, List.mem_map]
      constructor
      · rintro ⟨x, hx, rfl⟩
        obtain ⟨x0, x1⟩ := ones_mem.mp hx
        exact inR x x0 x1
      · rintro ⟨y0, y1⟩
        have m0 := Int.emod_nonneg (u * y) (by omega : p ≠ 0)
        have m1 := Int.emod_lt_of_pos (u * y) (by omega : 0 < p)
        have c1 : Cg p (a * (u * y % p)) y := by
          have := (Cg.refl (p := p) a).mul (Cg.mod (p := p) (u * y))
          refine this.trans ?_
          refine (Cg.of_eq ?_).trans (cancel y)
          rw [← Int.mul_assoc, Int.mul_comm a u, Int.mul_assoc]
        have e1 : a * (u * y % p) % p = y := ((Cg.mod _).trans c1).eq (Int.emod_nonneg _ (by omega)) (Int.emod_lt_of_pos _ (by omega)) (by omega) y1
        refine ⟨u * y % p, ones_mem.mpr ⟨?_, m1⟩, e1⟩
        rcases Int.lt_or_eq_of_le m0 with q | q
        · exact q
        · exfalso
          rw [← q, Int.mul_zero, Int.zero_emod] at e1
          omega
  have h1 := prodL_map (p := p) (a := a) (ones p)
  rw [prodL_perm perm, ones_len] at h1
  obtain ⟨w, hw⟩ := h.prod_inv (ones p) fun x hx => ones_mem.mp hx
  have h2 := (Cg.refl (p := p) w).mul h1
  have h3 : Cg p (w * (a ^ (p - 1).toNat * prodL (ones p))) (a ^ (p - 1).toNat) := by
    have := (Cg.refl (p := p) (a ^ (p - 1).toNat)).mul hw
    rw [Int.mul_one] at this
    refine (Cg.of_eq ?_).trans this
    rw [← Int.mul_assoc, Int.mul_comm w, Int.mul_assoc]
  exact h3.symm.trans (h2.symm.trans hw)
/-- the power that the check takes is the inverse -/
theorem Prm.turn {p a : Int} (h : Prm p) (a0 : 0 < a) (a1 : a < p) : Cg p (a ^ (p - 2).toNat * a) 1 := by
  have p2 := h.1
  have e : (p - 1).toNat = (p - 2).toNat + 1 := by omega
  have := h.fermat a0 a1
  rw [e, Int.pow_succ] at this
  exact this
end MM

namespace S4
open PySem L2 TT MM
theorem twice {Y G : Prop} (h : Y → G) (y : Y) : G := h y
theorem hu64 {k : Nat} {A : Around} (r : Room k A) : A.units + 64 < cLine := by have := r.un; omega
theorem paired_take {α β : Type} {F : α → β → Prop} : ∀ {xs : List α} {l : List β} (k : Nat), Paired F xs l → Paired F (xs.take k) (l.take k)
  | _, _, 0, _ => .nil
  | _, _, k + 1, .nil => .nil
  | _, _, k + 1, .cons r t => .cons r (paired_take k t)
end S4

namespace S4
open PySem L2 TT MM
section
variable {P : Program} {w : World} {K : PySem.W.Frag} {mg : Str → Option Value} {base : Heap} {cT cS : Addr}
def spInverse : Sp := fun vs H Q _ => ∃ (p v : Int), vs = [.int p, .int v] ∧ p ≤ 1000000 ∧ 0 < v ∧ v < p ∧ Int.gcd p v = 1 ∧ ∀ u, 0 ≤ u → u < p → Cg p (u * v) 1 → ∀ H', Same H H' → Q (.int u) H'
theorem ok_inverse (T : Tx K mg cT cS) {f : Addr} {fd : FuncData} (d : D K mg "inverse" s_inverse ["p", "value"] f fd) : FnOk P w K mg base CX0 1 f fd ["p", "value"] spInverse := by
  refine d.F.ok sc_inverse (fun vs H Q E h => ?_) (fun cdv A outer s H vs Q E hr h => ?_)
  · obtain ⟨p, v, rfl, _⟩ := h
    rfl
  · obtain ⟨p, v, rfl, pm, v0, v1, hg, q⟩ := h
    refine ⟨_, pss_cons (ps_par (i := 2) (j := 3) (by rfl) sc_inverse.nd rfl rfl (by decide) rfl rfl (pa_cons (pv 0) (pa_cons (pv 1) pa_nil)) (by rfl))
      (pss_cons (ps_asg (pe_tup (pa_cons pe_int (pa_cons pe_int pa_nil))) (pg_tup rfl (pgs_cons (pg_name (i := 4) sc_inverse.nd rfl (.inl rfl)) (pgs_cons (pg_name (i := 5) sc_inverse.nd rfl (.inl rfl)) pgs_nil))))
      (pss_cons (ps_while PassesOwn.never (pt_cmpR op_ne (pv 3) pe_int (nomark _))
        (pss_cons (ps_set (i := 6) sc_inverse.nd rfl (.inl rfl) (pe_op op_fdivN (pv 2) (pv 3)))
        (pss_cons (ps_par (i := 2) (j := 3) (by rfl) sc_inverse.nd rfl rfl (by decide) rfl rfl (pa_cons (pv 3) (pa_cons (pe_op op_sub (pv 2) (pe_op op_mul (pv 6) (pv 3))) pa_nil)) (by rfl))
        (pss_one (ps_par (i := 4) (j := 5) (by rfl) sc_inverse.nd rfl rfl (by decide) rfl rfl (pa_cons (pv 5) (pa_cons (pe_op op_sub (pv 4) (pe_op op_mul (pv 6) (pv 5))) pa_nil)) (by rfl))))))
      (pss_one (ps_ret (pe_op op_mod (pv 5) (pv 0)))))), ?_⟩
    refine ⟨_, rfl, _, rfl, _, _, rfl, ?_⟩
    refine ⟨by show 2 ≤ sizeLine; decide, fun t nt => ⟨t, _, rfl, .of upd_same, rfl, _, _, rfl, _, _, rfl, rfl, ?_⟩⟩
    dsimp only [gName, tSeq]
    refine while_by (fun σ H' => ∃ a n b f x, σ = [some (.int p), some (.int v), some (.int a), some (.int n), some (.int b), some (.int f), x] ∧ Eu p v a n b f ∧ a ≤ p ∧ Same H H')
      (fun σ _ => match σ[3]? with | some (some (V.int n)) => n.toNat | _ => 0) ⟨p, v, 0, 1, none, rfl, Eu.start v0 v1 hg, Int.le_refl _, same_new nt⟩ ?_ ?_
    · rintro σ H1 ⟨a, n, b, f, x, rfl, EE, ap, ss⟩
      refine ⟨_, rfl, rfl, _, rfl, ?_⟩
      by_cases h1 : n = 1
      · subst h1
        rw [decide_eq_true rfl]
        have m := mod_b (a := f) (m := p) (by omega)
        refine iteF ⟨_, rfl, _, rfl, _, _, rfl, rfl, by omega, q _ m.1 m.2 (((Cg.mod f).mul (Cg.refl v)).trans EE.hn) _ ss⟩
      · rw [decide_eq_false (fun e => h1 (V.int.inj e))]
        obtain ⟨E2, hlt⟩ := EE.step h1
        have hn := EE.n0
        have hna := EE.na
        have t0 : 0 ≤ a / n := Int.ediv_nonneg (by omega) (by omega)
        have t1 : a / n ≤ a := Int.ediv_le_self _ (by omega)
        refine iteT ⟨_, rfl, _, rfl, _, _, rfl, rfl, ⟨by omega, by omega⟩, ?_⟩
        dsimp only [gName, tSeq]
        rw [Int.fdiv_eq_ediv_of_nonneg _ (by omega)]
        refine ⟨_, rfl, _, rfl, _, rfl, _, rfl, _, _, rfl, rfl, .inl ⟨by omega, by omega⟩, _, _, rfl, rfl, _, _, rfl, ?_⟩
        dsimp only [gName, tSeq]
        refine ⟨_, rfl, _, rfl, _, rfl, _, rfl, _, _, rfl, rfl, .inl ⟨by omega, by omega⟩, _, _, rfl, rfl, _, _, rfl, ?_⟩
        refine ⟨⟨_, _, _, _, _, rfl, E2, by omega, ss⟩, ?_⟩
        show (a - a / n * n).toNat < n.toNat
        omega
    · rintro σ H' Q1 Q2 i ⟨x, e1, h1, k, e2, h⟩
      exact ⟨x, e1, h1, k, e2, i _ _ h⟩
def spFirst : Sp := fun vs H Q _ => ∃ (v : V) (l : List Int) (wd : Nat), vs = [v, .int (wd : Int)] ∧ rRow H v l ∧ wd ≤ l.length ∧ wd ≤ 100000 ∧
  ((∀ x, x < wd → l.getD x 0 = 0) → Q .non H) ∧ (∀ k, k < wd → l.getD k 0 ≠ 0 → (∀ x, x < k → l.getD x 0 = 0) → Q (.int (k : Nat)) H)
theorem ok_first (T : Tx K mg cT cS) {f : Addr} {fd : FuncData} (d : D K mg "first_place" s_first_place ["row", "wide"] f fd) : FnOk P w K mg base CX0 1 f fd ["row", "wide"] spFirst := by
  refine d.F.ok sc_first_place (fun vs H Q E h => ?_) (fun cdv A outer s H vs Q E hr h => ?_)
  · obtain ⟨v, l, wd, rfl, _⟩ := h
    rfl
  · obtain ⟨v, l, wd, rfl, ⟨t, rfl, ht⟩, hw, hw2, q1, q2⟩ := h
    refine ⟨_, pss_cons (ps_for PassesOwn.never rfl (pi_range1 rfl T.b_range (pa_cons (pv 1) pa_nil)) (pg_name (i := 2) sc_first_place.nd rfl (Or.inl rfl))
        (pss_one (ps_if (pt_truth (pe_ix ix_tup (pv 0) (pv 2) (fun _ _ => rfl)) (by intro _; rfl)) (pss_one (ps_ret (pv 2))) pss_nil)))
      (pss_one (ps_ret pe_non)), ?_⟩
    refine ⟨_, rfl, _, rfl, by omega, by omega, ?_⟩
    refine for_it (walk_range (lo := 0) (n := ((wd : Nat) : Int).toNat)) (fun i σ H' => ∃ x, σ = [some (.ref t), some (.int (wd : Int)), x] ∧ H' = H ∧ ∀ x, x < i → l.getD x 0 = 0) ⟨none, rfl, rfl, fun x hx => absurd hx (Nat.not_lt_zero _)⟩ (fun i σ H' _ h => trivial) ?_ ?_
    · rintro i x σ H1 H2 hi ⟨y, rfl, rfl, hz⟩ ⟨rfl, rfl⟩
      rw [Int.toNat_natCast] at hi
      have hx : l[i]? = some l[i] := List.getElem?_eq_getElem (by omega)
      have eg : l.getD i 0 = l[i] := getD_at hx
      refine ⟨_, rfl, _, rfl, t, _, _, V.int l[i], rfl, rfl, .of ht, by rw [Int.zero_add]; exact atI_nat (int_at hx), ?_⟩
      refine ⟨_, rfl, ?_⟩
      by_cases h0 : l[i] = 0
      · rw [h0]
        refine iteF ⟨_, rfl, rfl, fun x hx => ?_⟩
        by_cases e : x = i
        · subst e; rw [eg]; exact h0
        · exact hz x (by omega)
      · have hb : (l[i] != 0) = true := by rw [bne_iff_ne]; exact h0
        rw [hb]
        refine iteT ⟨_, rfl, ?_⟩
        have := q2 i hi (by rw [eg]; exact h0) hz
        show Q (V.int (0 + (i : Int))) _
        rw [Int.zero_add]
        exact this
    · rintro σ H1 ⟨y, rfl, rfl, hz⟩
      rw [Int.toNat_natCast] at hz
      exact q1 hz
end
end S4

namespace S4
open PySem L2 TT MM
/-- a row less so many times another -/
def lessL (p : Int) (l r : List Int) (m : Int) : List Int := (List.range l.length).map fun (i : Nat) => (l.getD i 0 - m * r.getD i 0) % p
def mulL (p f : Int) (l : List Int) : List Int := l.map fun x => f * x % p
abbrev RG := List (Nat × List Int)
def clr1 (p : Int) (l : List Int) (z : Nat × List Int) : List Int := if l.getD z.1 0 = 0 then l else lessL p l z.2 (l.getD z.1 0)
def clr (p : Int) (rs : RG) (l : List Int) : List Int := rs.foldl (clr1 p) l
theorem lessL_len (p : Int) (l r : List Int) (m : Int) : (lessL p l r m).length = l.length := by unfold lessL; rw [List.length_map, List.length_range]
theorem clr1_len (p : Int) (l : List Int) (z : Nat × List Int) : (clr1 p l z).length = l.length := by
  unfold clr1
  split
  · rfl
  · exact lessL_len _ _ _ _
theorem clr_len (p : Int) (rs : RG) : ∀ l : List Int, (clr p rs l).length = l.length := by
  induction rs with
  | nil => intro l; rfl
  | cons z rs ih => intro l; show (clr p rs (clr1 p l z)).length = _; rw [ih, clr1_len]
def InB (p : Int) (l : List Int) : Prop := ∀ x ∈ l, 0 ≤ x ∧ x < p
theorem lessL_in {p : Int} (p0 : 0 < p) (l r : List Int) (m : Int) : InB p (lessL p l r m) := fun x hx => by
  obtain ⟨i, _, rfl⟩ := List.mem_map.mp hx
  exact mod_b p0
theorem clr1_in {p : Int} (p0 : 0 < p) {l : List Int} (h : InB p l) (z : Nat × List Int) : InB p (clr1 p l z) := by
  unfold clr1
  split
  · exact h
  · exact lessL_in p0 _ _ _
theorem clr_in {p : Int} (p0 : 0 < p) (rs : RG) : ∀ {l : List Int}, InB p l → InB p (clr p rs l) := by
  induction rs with
  | nil => intro l h; exact h
  | cons z rs ih => intro l h; exact ih (clr1_in p0 h z)
theorem getD_in {p : Int} (p0 : 0 < p) {l : List Int} (h : InB p l) (i : Nat) : 0 ≤ l.getD i 0 ∧ l.getD i 0 < p := by
  rw [List.getD_eq_getElem?_getD]
  cases e : l[i]? with
  | none => exact ⟨Int.le_refl _, p0⟩
  | some x => exact h x (List.mem_of_getElem? e)
/-- a dict of rows by places, in the heap -/
def kvR (H : Hp) : (L2.Key × V) → (Nat × List Int) → Prop := fun kv z => kv.1 = Sum.inl ((z.1 : Nat) : Int) ∧ rRow H kv.2 z.2
def rDict (H : Hp) (u : HO) (rs : RG) : Prop := ∃ kvs, u = .dK kvs ∧ Paired (kvR H) kvs rs
theorem kvR_mono {H H' : Hp} (k : ∀ t xs, H t = some (.tup xs) → H' t = some (.tup xs)) {kvs : List (L2.Key × V)} {rs : RG} (h : Paired (kvR H) kvs rs) : Paired (kvR H') kvs rs :=
  Paired.mapP h fun _ _ ⟨e, t, e2, h2⟩ => ⟨e, t, e2, k _ _ h2⟩
theorem val_at : ∀ {kvs : List (L2.Key × V)} {rs : RG} {H : Hp} {i : Nat} {k : L2.Key} {v : V}, Paired (kvR H) kvs rs → (rs.map (·.1)).Nodup → kvs[i]? = some (k, v) → valV kvs k = some v
  | _, _, _, i, k, v, .nil, _, h => by simp at h
  | _, _, _, 0, k, v, .cons r t, nd, h => by
    have h := Option.some.inj h
    subst h
    exact valV_pos rfl
  | (k0, v0) :: kvs, z :: rs, H, i + 1, k, v, .cons r t, nd, h => by
    obtain ⟨n1, n2⟩ := List.nodup_cons.mp nd
    have h' : kvs[i]? = some (k, v) := h
    have ih := val_at t n2 h'
    obtain ⟨y, hy, hr⟩ := paired_get t h'
    have hne : ¬ k0 = k := fun e => by
      have e1 := r.1
      have e2 := hr.1
      simp only at e1 e2
      rw [e, e2] at e1
      have e3 := Sum.inl.inj e1
      have e4 : y.1 = z.1 := by omega
      exact n1 (List.mem_map.mpr ⟨y, List.mem_of_getElem? hy, e4⟩)
    rw [valV_neg hne]
    exact ih
section
variable {P : Program} {w : World} {K : PySem.W.Frag} {mg : Str → Option Value} {base : Heap} {cT cS : Addr}
def spMult : Sp := fun vs H Q _ => ∃ (v : V) (l : List Int) (p f : Int), vs = [.int p, .int f, v] ∧ rRow H v l ∧ 0 < p ∧ (-(2 ^ 63) < f ∧ f < 2 ^ 63) ∧ l.length ≤ 1000 ∧ ∀ H' v', Same H H' → rRow H' v' (mulL p f l) → Q v' H'
theorem ok_mult (T : Tx K mg cT cS) {f : Addr} {fd : FuncData} (d : D K mg "multiplied" s_multiplied ["p", "factor", "row"] f fd) : FnOk P w K mg base CX0 1 f fd ["p", "factor", "row"] spMult := by
  refine d.F.ok sc_multiplied (fun vs H Q E h => ?_) (fun cdv A outer s H vs Q E hr h => ?_)
  · obtain ⟨v, l, p, f, rfl, _⟩ := h
    rfl
  · obtain ⟨v, l, p, f, rfl, ⟨t, rfl, ht⟩, p0, fb, hl, q⟩ := h
    refine ⟨_, pss_one (ps_ret (pe_callTy call_tuple_of (by rfl) T.b_tuple (by decide +kernel) (pa_cons
        (pe_lc (own := [("value", 3)]) (g := gName 3) (tt := tYes) rfl sc_multiplied.nd (pi_tup (pv 2)) (blkOk_by (N := N_multiplied) (sc := defScope s_multiplied) (by decide +kernel)) (fun _ _ _ _ _ => pg_name (i := 3) sc_multiplied.nd rfl (Or.inl rfl)) (fun _ _ _ _ _ => pts_nil)
          (fun _ _ _ _ _ => pe_op op_mod (pe_op op_mul (pv 1) (pv 3)) (pv 0))) pa_nil))), ?_⟩
    refine ⟨_, rfl, t, rfl, ⟨_, .of ht⟩, fun D hD => ?_⟩
    refine lc_fm (walk_tup (xs := l.map V.int)) rInt (fun i => l[i]?.bind fun x => some (f * x % p)) hD (fun H' s' => .of (s'.keep.tup ht)) ?_ ?_
    · rintro i x H2 H3 hi pv ⟨rfl, hx⟩
      obtain ⟨j, hj, rfl⟩ := at_int hx
      rw [List.length_map] at hi
      refine ⟨rfl, _, rfl, _, rfl, _, _, rfl, rfl, .inl ⟨by omega, by omega⟩, _, rfl, _, _, rfl, rfl, p0, ?_⟩
      exact fm_keep mono_int pv hD (by omega) (Same.refl _) (by rw [hj]; rfl) rfl
    · intro H2 ys s2 hD2 hp2
      rw [List.length_map, fm_some] at hp2
      have := paired_int hp2
      subst this
      exact ⟨D, _, rfl, .inl ⟨.of hD2, fun p np => q _ _ (s2.trans (same_new np)) ⟨p, rfl, upd_same⟩⟩⟩
def spCleared : Sp := fun vs H Q _ => ∃ (d : Addr) (u : HO) (v : V) (l : List Int) (rs : RG) (p : Int), vs = [.int p, .ref d, v] ∧ H d = some u ∧ rDict H u rs ∧ (rs.map (·.1)).Nodup ∧ rRow H v l ∧ 0 < p ∧ p ≤ 1000000 ∧ InB p l ∧ l.length ≤ 1000 ∧ rs.length ≤ 1000 ∧ (∀ z ∈ rs, z.1 < l.length ∧ z.2.length = l.length) ∧
  ∀ H' v', Same H H' → rRow H' v' (clr p rs l) → Q v' H'
theorem ok_cleared (T : Tx K mg cT cS) {f : Addr} {fd : FuncData} (d : D K mg "cleared" s_cleared ["p", "rungs", "row"] f fd) : FnOk P w K mg base CX0 1 f fd ["p", "rungs", "row"] spCleared := by
  refine d.F.ok sc_cleared (fun vs H Q E h => ?_) (fun cdv A outer s H vs Q E hr h => ?_)
  · obtain ⟨d, u, v, l, rs, p, rfl, _⟩ := h
    rfl
  · obtain ⟨dd, u, v, l, rs, p, rfl, hd, ⟨kvs, rfl, hk⟩, nd, hrow, p0, pm, hin, hl, hrs, hz, q⟩ := h
    refine ⟨_, pss_cons (ps_lock (ps_for PassesOwn.never rfl (pi_keys (pv 1)) (pg_name (i := 3) sc_cleared.nd rfl (Or.inl rfl))
        (pss_cons (ps_set (i := 4) sc_cleared.nd rfl (.inr rfl) (pe_ix ix_tup (pv 2) (pv 3) (fun _ _ => rfl)))
          (pss_one (ps_if (pt_truth (pv 4) (by intro _; rfl))
            (pss_one (ps_set (i := 2) sc_cleared.nd rfl (.inl rfl) (pe_callTy call_tuple_of (by rfl) T.b_tuple (by decide +kernel) (pa_cons
              (pe_lc (own := [("value", 5), ("less", 6)]) (g := gTup K 2 (gCons (gName 5) (gCons (gName 6) gNil))) (tt := tYes) rfl sc_cleared.nd (RZ.pi_zipA (by rfl) T.b_zip (pa_cons (pv 2) (pa_cons (pe_dget (hu_of hr) (pv 1) (pv 3) (fun _ _ => rfl)) pa_nil))) (blkOk_by (N := N_cleared) (sc := defScope s_cleared) (by decide +kernel))
                (fun _ _ _ _ _ => pgT rfl rfl (pgs_cons (pg_name (i := 5) sc_cleared.nd rfl (Or.inl rfl)) (pgs_cons (pg_name (i := 6) sc_cleared.nd rfl (Or.inl rfl)) pgs_nil))) (fun _ _ _ _ _ => pts_nil)
                (fun _ _ _ _ _ => pe_op op_mod (pe_op op_sub (pv 5) (pe_op op_mul (pv 4) (pv 6))) (pv 0))) pa_nil)))) pss_nil)))))
      (pss_one (ps_ret (pv 2))), ?_⟩
    refine ⟨dd, .dK kvs, hd, trivial, fun od => ?_⟩
    have k0 : ∀ t xs, H t = some (.tup xs) → (upd H dd (.frz od (.dK kvs))) t = some (.tup xs) := fun t xs h => by rw [upd_ne (ne_of h hd (fun z => nomatch z))]; exact h
    have hk0 := kvR_mono k0 hk
    have hlen := paired_len hk
    refine ⟨_, rfl, dd, od, rfl, .inl ⟨kvs, upd_same, ?_⟩⟩
    refine for_it (walk_keys (kvs := kvs)) (fun i σ H' => Same (upd H dd (.frz od (.dK kvs))) H' ∧ ∃ v' x y, σ = [some (.int p), some (.ref dd), some v', x, y, none, none] ∧ rRow H' v' (clr p (rs.take i) l))
      ⟨.refl _, v, none, none, rfl, let ⟨t, e, h⟩ := hrow; ⟨t, e, k0 _ _ h⟩⟩ (fun i σ H' _ h => h.1 _ _ upd_same) ?_ ?_
    · rintro i x σ H2 H3 hi ⟨s2, v', x3, y3, rfl, ⟨t', rfl, ht'⟩⟩ ⟨rfl, k, vv, hkv, rfl⟩
      obtain ⟨z, hz1, e1, hr1⟩ := paired_get (kvR_mono (fun t xs h => s2 _ _ h) hk0) hkv
      simp only at e1 hr1
      subst e1
      obtain ⟨zl, zr⟩ := hz z (List.mem_of_getElem? hz1)
      generalize hcur : clr p (rs.take i) l = cur at ht'
      have hcl : cur.length = l.length := by rw [← hcur, clr_len]
      have hci : InB p cur := by rw [← hcur]; exact clr_in p0 _ hin
      have hstep : clr p (rs.take (i + 1)) l = clr1 p cur z := by
        rw [← hcur, List.take_succ, hz1]
        unfold clr
        rw [List.foldl_append]
        rfl
      have hx : cur[z.1]? = some (cur[z.1]'(by omega)) := List.getElem?_eq_getElem (by omega)
      have hg : cur.getD z.1 0 = cur[z.1]'(by omega) := getD_at hx
      have hb := getD_in p0 hci z.1
      rw [hg] at hb
      refine ⟨_, rfl, _, rfl, t', _, _, _, rfl, rfl, .of ht', atI_nat (int_at hx), ?_⟩
      dsimp only [gName, tSeq]
      refine ⟨_, rfl, _, rfl, ?_⟩
      by_cases h0 : cur[z.1]'(by omega) = 0
      · rw [h0]
        refine iteF ⟨s2, _, _, _, rfl, t', rfl, ?_⟩
        rw [hstep]
        unfold clr1
        rw [if_pos (by rw [hg]; exact h0)]
        exact ht'
      · have hbn : (cur[z.1]'(by omega) != 0) = true := by rw [bne_iff_ne]; exact h0
        rw [hbn]
        obtain ⟨t2, rfl, ht2⟩ := hr1
        have hfr : H3 dd = some (.frz od (.dK kvs)) := s2 _ _ upd_same
        have hval := val_at hk nd hkv
        refine iteT ⟨_, rfl, _, rfl, _, rfl, dd, _, rfl, .inl ⟨kvs, _, .inr ⟨od, hfr⟩, rfl, hval.symm⟩, t', t2, _, _, rfl, .inr ⟨.of ht', .of ht2, fun D hD => ?_⟩⟩
        refine lc_fm (walk_zipT (n := cur.length) (by rw [List.length_map, List.length_map, zr, hcl]; omega)) rInt (fun i => some ((cur.getD i 0 - cur.getD z.1 0 * z.2.getD i 0) % p)) hD (fun H' s' => ⟨.of (s'.keep.tup ht'), .of (s'.keep.tup ht2)⟩) ?_ ?_
        · rintro j x H4 H5 hj pv ⟨tz, u1, u2, rfl, nz, rfl, e1, e2⟩
          obtain ⟨c1, hc1, rfl⟩ := at_int e1
          obtain ⟨c2, hc2, rfl⟩ := at_int e2
          refine ⟨tz, _, rfl, .of upd_same, rfl, _, _, rfl, _, _, rfl, rfl, rfl, ?_⟩
          refine ⟨_, rfl, _, rfl, _, rfl, _, _, rfl, rfl, .inl ⟨by omega, by omega⟩, _, _, rfl, rfl, _, rfl, _, _, rfl, rfl, p0, ?_⟩
          exact fm_keep mono_int pv hD (by omega) (same_new nz) rfl (by rw [getD_at hc1, getD_at hc2, hg]; rfl)
        · intro H4 ys s4 hD4 hp4
          rw [fm_all] at hp4
          have := paired_int hp4
          subst this
          refine ⟨D, _, rfl, .inl ⟨.of hD4, fun nt nnt => ?_⟩⟩
          refine ⟨s2.trans (s4.trans (same_new nnt)), _, _, _, rfl, nt, rfl, ?_⟩
          rw [hstep]
          unfold clr1
          rw [if_neg (by rw [hg]; exact h0)]
          exact upd_same
    · rintro σ H2 ⟨s2, v', x3, y3, rfl, ⟨t', rfl, ht'⟩⟩
      have hfr : H2 dd = some (.frz od (.dK kvs)) := s2 _ _ upd_same
      rw [hlen, List.take_length] at ht'
      refine ⟨hfr, _, rfl, q _ _ (fun b o e => ?_) ⟨t', rfl, by rw [upd_ne (ne_of ht' hfr (fun z => nomatch z))]; exact ht'⟩⟩
      by_cases hb : b = dd
      · subst hb
        rw [hd] at e
        cases e
        exact upd_same
      · rw [upd_ne hb]
        exact s2 _ _ (by rw [upd_ne hb]; exact e)
end
end S4

namespace S4
open PySem L2 TT MM
/-! ### rows as they are reasoned of -/
def vec (l : List Int) : Vc := fun x => l.getD x 0
def rowOf (rs : RG) (i : Nat) : List Int := ((rs.find? fun z => z.1 == i).map (·.2)).getD []
def rv (rs : RG) : Nat → Vc := fun i => vec (rowOf rs i)
theorem rowOf_mem : ∀ {rs : RG} {z : Nat × List Int}, (rs.map (·.1)).Nodup → z ∈ rs → rowOf rs z.1 = z.2
  | [], _, _, h => by cases h
  | y :: rs, z, nd, h => by
    obtain ⟨n1, n2⟩ := List.nodup_cons.mp nd
    unfold rowOf
    rw [List.find?_cons]
    by_cases e : y.1 = z.1
    · have hb : (y.1 == z.1) = true := beq_iff_eq.mpr e
      rw [hb]
      rcases List.mem_cons.mp h with q | q
      · rw [q]; rfl
      · exact absurd (List.mem_map.mpr ⟨z, q, e.symm⟩) n1
    · have hb : (y.1 == z.1) = false := beq_eq_false_iff_ne.mpr e
      rw [hb]
      rcases List.mem_cons.mp h with q | q
      · exact absurd (by rw [q]) e
      · exact rowOf_mem n2 q
theorem vec_over {l : List Int} {x : Nat} (h : l.length ≤ x) : vec l x = 0 := by
  unfold vec
  rw [List.getD_eq_getElem?_getD, List.getElem?_eq_none h]
  rfl
theorem vec_map {f : Nat → Int} {n x : Nat} (h : x < n) : vec ((List.range n).map f) x = f x := by
  unfold vec
  have : ((List.range n).map f)[x]? = some (f x) := by rw [List.getElem?_map, List.getElem?_range h]; rfl
  exact getD_at this
theorem lessL_vec {p : Int} {l r : List Int} (h : r.length = l.length) (m : Int) (x : Nat) : Cg p (vec (lessL p l r m) x) (vec l x - m * vec r x) := by
  by_cases hx : x < l.length
  · unfold lessL
    rw [vec_map hx]
    exact Cg.mod _
  · rw [vec_over (by rw [lessL_len]; omega), vec_over (by omega), vec_over (by omega), Int.mul_zero, Int.sub_zero]
    exact .refl _
theorem mulL_vec {p f : Int} {l : List Int} (x : Nat) : Cg p (vec (mulL p f l) x) (f * vec l x) := by
  by_cases hx : x < l.length
  · have h1 : l[x]? = some l[x] := List.getElem?_eq_getElem hx
    have h2 : (mulL p f l)[x]? = some (f * l[x] % p) := by unfold mulL; rw [List.getElem?_map, h1]; rfl
    unfold vec
    rw [getD_at h2, getD_at h1]
    exact Cg.mod _
  · rw [vec_over (by unfold mulL; rw [List.length_map]; omega), vec_over (by omega), Int.mul_zero]
    exact .refl _
theorem clr1_vec {p : Int} {l : List Int} {z : Nat × List Int} (h : z.2.length = l.length) (x : Nat) : Cg p (vec (clr1 p l z) x) (vec l x - vec l z.1 * vec z.2 x) := by
  unfold clr1
  split
  · rename_i h0
    have e : vec l z.1 = 0 := h0
    rw [e, Int.zero_mul, Int.sub_zero]
    exact .refl _
  · exact lessL_vec h _ x
section
variable {p : Int} {P : List Nat} {r : Nat → Vc}
/-- what clearing by some of the ladder's rows does -/
theorem clr_lad (L : Lad p P r) : ∀ (rs : RG) (l : List Int), (rs.map (·.1)).Nodup → (∀ z ∈ rs, z.1 ∈ P ∧ z.2.length = l.length ∧ ∀ x, r z.1 x = vec z.2 x) →
    Spn p (rungs P r) (fun x => vec l x - vec (clr p rs l) x) ∧ (∀ i ∈ P, i ∉ rs.map (·.1) → Cg p (vec (clr p rs l) i) (vec l i)) ∧ (∀ i ∈ rs.map (·.1), Cg p (vec (clr p rs l) i) 0)
  | [], l, _, _ => ⟨.zero fun x => .of_eq (by show vec l x - vec l x = 0; omega), fun i _ _ => .refl _, fun i h => by simp at h⟩
  | z :: rs, l, nd, hz => by
    obtain ⟨n1, n2⟩ := List.nodup_cons.mp nd
    obtain ⟨zP, zl, zr⟩ := hz z (by simp)
    have hs : ∀ x, Cg p (vec (clr1 p l z) x) (vec l x - vec l z.1 * r z.1 x) := fun x => by rw [zr]; exact clr1_vec zl x
    obtain ⟨a, b, c⟩ := clr_lad L rs (clr1 p l z) n2 fun y hy => by
      obtain ⟨y1, y2, y3⟩ := hz y (by simp [hy])
      exact ⟨y1, by rw [clr1_len]; exact y2, y3⟩
    have e : clr p (z :: rs) l = clr p rs (clr1 p l z) := rfl
    rw [e]
    have own : Cg p (vec (clr1 p l z) z.1) 0 := by
      have := (Cg.refl (p := p) (vec l z.1)).sub ((Cg.refl (p := p) (vec l z.1)).mul (L.one z.1 zP))
      rw [Int.mul_one, Int.sub_self] at this
      exact (hs z.1).trans this
    have oth : ∀ i ∈ P, i ≠ z.1 → Cg p (vec (clr1 p l z) i) (vec l i) := fun i hi hne => by
      have := (Cg.refl (p := p) (vec l i)).sub ((Cg.refl (p := p) (vec l z.1)).mul (L.off z.1 zP i hi hne))
      rw [Int.mul_zero, Int.sub_zero] at this
      exact (hs i).trans this
    refine ⟨.plus (vec l z.1) a (.row ⟨z.1, zP, rfl⟩) fun x => ?_, fun i hi hn => ?_, fun i hi => ?_⟩
    · have := (Cg.refl (p := p) (vec l x - vec (clr p rs (clr1 p l z)) x)).sub ((hs x).sub (Cg.refl (p := p) (vec l x - vec l z.1 * r z.1 x)))
      have h2 := hs x
      have h3 : Cg p (vec l x - vec (clr p rs (clr1 p l z)) x) (vec (clr1 p l z) x + vec l z.1 * r z.1 x - vec (clr p rs (clr1 p l z)) x) := by
        have h4 := (h2.symm.add (Cg.refl (p := p) (vec l z.1 * r z.1 x))).sub (Cg.refl (p := p) (vec (clr p rs (clr1 p l z)) x))
        refine (Cg.of_eq ?_).trans h4
        omega
      refine h3.trans (.of_eq ?_)
      omega
    · have hne : i ≠ z.1 := fun q => hn (by rw [q]; simp)
      have hn' : i ∉ rs.map (·.1) := fun q => hn (by simp only [List.map_cons, List.mem_cons]; exact .inr q)
      exact (b i hi hn').trans (oth i hi hne)
    · rcases List.mem_cons.mp (by simpa only [List.map_cons] using hi) with q | q
      · rw [q]
        exact (b z.1 zP n1).trans own
      · exact c i q
end
/-- the state of the going: right rows, a ladder, the room of the rows so far -/
structure St1 (p : Int) (wd : Nat) (rs : RG) (rows : List (List Int)) : Prop where
  lad : Lad p (rs.map (·.1)) (rv rs)
  ok : ∀ z ∈ rs, z.1 < wd ∧ z.2.length = wd ∧ InB p z.2
  room : Same2 p (rungs (rs.map (·.1)) (rv rs)) (fun v => ∃ l ∈ rows, v = vec l)
theorem St1.nil (p : Int) (wd : Nat) : St1 p wd [] [] := ⟨Lad.nil p _, fun z h => (nomatch h), same2_of (fun v h => by obtain ⟨i, hi, _⟩ := h; cases hi) (fun v h => by obtain ⟨i, hi, _⟩ := h; cases hi)⟩
theorem St1.len {p : Int} {wd : Nat} {rs : RG} {rows : List (List Int)} (S : St1 p wd rs rows) : rs.length ≤ wd := by
  have h : ∀ (P : List Nat) (n : Nat), P.Nodup → (∀ i ∈ P, i < n) → P.length ≤ n := fun P n nd hb => by
    have := nodup_len (l := P.map fun (i : Nat) => (i : Int)) (V := (List.range n).map fun (i : Nat) => (i : Int)) (by
      rw [List.nodup_iff_pairwise_ne, List.pairwise_map]
      exact (List.nodup_iff_pairwise_ne.mp nd).imp fun {a b} h e => h (by omega)) (fun v hv => by
      obtain ⟨i, hi, rfl⟩ := List.mem_map.mp hv
      exact List.mem_map.mpr ⟨i, List.mem_range.mpr (hb i hi), rfl⟩)
    rw [List.length_map, List.length_map, List.length_range] at this
    exact this
  have := h (rs.map (·.1)) wd S.lad.nd fun i hi => by
    obtain ⟨z, hz, rfl⟩ := List.mem_map.mp hi
    exact (S.ok z hz).1
  rw [List.length_map] at this
  exact this
section
variable {p : Int} {wd : Nat} {rs : RG} {rows : List (List Int)} {row : List Int}
theorem St1.clear (S : St1 p wd rs rows) (hl : row.length = wd) : Spn p (rungs (rs.map (·.1)) (rv rs)) (fun x => vec row x - vec (clr p rs row) x) ∧ ∀ i ∈ rs.map (·.1), Cg p (vec (clr p rs row) i) 0 := by
  obtain ⟨a, _, c⟩ := clr_lad S.lad rs row S.lad.nd fun z hz => ⟨List.mem_map.mpr ⟨z, hz, rfl⟩, by rw [(S.ok z hz).2.1, hl], fun x => by unfold rv; rw [rowOf_mem S.lad.nd hz]⟩
  exact ⟨a, c⟩
/-- a row that is in the room -/
theorem St1.skip (S : St1 p wd rs rows) (hl : row.length = wd) (hz : ∀ x, x < wd → (clr p rs row).getD x 0 = 0) : St1 p wd rs (rows ++ [row]) := by
  obtain ⟨a, _⟩ := S.clear hl
  refine ⟨S.lad, S.ok, ?_⟩
  have hin : Spn p (fun v => ∃ l ∈ rows, v = vec l) (vec row) := by
    refine (S.room _).mp (a.cg fun x => ?_)
    have e : vec (clr p rs row) x = 0 := by
      by_cases hx : x < wd
      · exact hz x hx
      · exact vec_over (by rw [clr_len]; omega)
    rw [e, Int.sub_zero]
    exact .refl _
  refine (same2_in S.room hin).trans (same2_of (fun v h => ?_) (fun v h => ?_))
  · rcases h with ⟨l, h1, rfl⟩ | rfl
    · exact .row ⟨l, by simp [h1], rfl⟩
    · exact .row ⟨row, by simp, rfl⟩
  · obtain ⟨l, h1, rfl⟩ := h
    rcases List.mem_append.mp h1 with h1 | h1
    · exact .row (.inl ⟨l, h1, rfl⟩)
    · rw [List.mem_singleton.mp h1]
      exact .row (.inr rfl)
/-- a row that is not -/
def putIn (p : Int) (rs : RG) (k : Nat) (g : List Int) : RG := rs.map (fun z => (z.1, clr p [(k, g)] z.2)) ++ [(k, g)]
theorem putIn_keys (p : Int) (rs : RG) (k : Nat) (g : List Int) : (putIn p rs k g).map (·.1) = rs.map (·.1) ++ [k] := by
  unfold putIn
  rw [List.map_append, List.map_map]
  rfl
theorem St1.put (S : St1 p wd rs rows) (p2 : 2 ≤ p) (hl : row.length = wd) (hin : InB p row) {k : Nat} {u : Int} (hk : k < wd) (h0 : (clr p rs row).getD k 0 ≠ 0) (hz : ∀ x, x < k → (clr p rs row).getD x 0 = 0)
    (hu : Cg p (u * (clr p rs row).getD k 0) 1) : St1 p wd (putIn p rs k (mulL p u (clr p rs row))) (rows ++ [row]) := by
  obtain ⟨a, c⟩ := S.clear hl
  generalize hr : clr p rs row = rest at *
  have hrl : rest.length = wd := by rw [← hr, clr_len]; exact hl
  have hri : InB p rest := by rw [← hr]; exact clr_in (by omega) rs hin
  have hgl : (mulL p u rest).length = wd := by unfold mulL; rw [List.length_map]; exact hrl
  have hgi : InB p (mulL p u rest) := fun x hx => by
    obtain ⟨y, _, rfl⟩ := List.mem_map.mp hx
    exact mod_b (by omega)
  have kP : k ∉ rs.map (·.1) := fun q => by
    have := c k q
    have b := getD_in (by omega) hri k
    exact h0 (this.zero_of b.1 b.2)
  have g1 : Cg p (vec (mulL p u rest) k) 1 := (mulL_vec k).trans hu
  have g0 : ∀ i ∈ rs.map (·.1), Cg p (vec (mulL p u rest) i) 0 := fun i hi => by
    have := (Cg.refl (p := p) u).mul (c i hi)
    rw [Int.mul_zero] at this
    exact (mulL_vec i).trans this
  have gl : ∀ x, x < k → Cg p (vec (mulL p u rest) x) 0 := fun x hx => by
    have := (Cg.refl (p := p) u).mul (Cg.of_eq (p := p) (hz x hx))
    rw [Int.mul_zero] at this
    exact (mulL_vec x).trans this
  have nd : ((putIn p rs k (mulL p u rest)).map (·.1)).Nodup := by
    rw [putIn_keys, List.nodup_append]
    exact ⟨S.lad.nd, by simp, fun a ha b hb e => kP (by rw [← List.mem_singleton.mp hb, ← e]; exact ha)⟩
  have hq : ∀ x, Cg p (rv (putIn p rs k (mulL p u rest)) k x) (vec (mulL p u rest) x) := fun x => by
    unfold rv
    rw [rowOf_mem (z := (k, mulL p u rest)) nd (by unfold putIn; simp)]
    exact .refl _
  have ho : ∀ i ∈ rs.map (·.1), ∀ x, Cg p (rv (putIn p rs k (mulL p u rest)) i x) (rv rs i x - rv rs i k * vec (mulL p u rest) x) := fun i hi x => by
    obtain ⟨z, hz1, rfl⟩ := List.mem_map.mp hi
    unfold rv
    rw [rowOf_mem (z := (z.1, clr p [(k, mulL p u rest)] z.2)) nd (by unfold putIn; exact List.mem_append_left _ (List.mem_map.mpr ⟨z, hz1, rfl⟩)), rowOf_mem S.lad.nd hz1]
    exact clr1_vec (z := (k, mulL p u rest)) (by rw [(S.ok z hz1).2.1]; exact hgl) x
  refine ⟨?_, fun z hz2 => ?_, ?_⟩
  · rw [putIn_keys]
    exact S.lad.more kP g1 g0 gl hq ho
  · rcases List.mem_append.mp hz2 with h | h
    · obtain ⟨y, hy, rfl⟩ := List.mem_map.mp h
      obtain ⟨b1, b2, b3⟩ := S.ok y hy
      exact ⟨b1, by show (clr p _ y.2).length = wd; rw [clr_len]; exact b2, clr_in (by omega) _ b3⟩
    · rw [List.mem_singleton.mp h]
      exact ⟨hk, hgl, hgi⟩
  · rw [putIn_keys]
    refine (S.lad.moreSpan hq ho).trans ?_
    have m := same2_more (g := vec (mulL p u rest)) (row := vec row) (rest := vec rest) (c := u) (d := rest.getD k 0) S.room ((S.room _).mp a) (fun x => mulL_vec x) fun x => ?_
    · refine m.trans (same2_of (fun v h => ?_) (fun v h => ?_))
      · rcases h with ⟨l, h1, rfl⟩ | rfl
        · exact .row ⟨l, by simp [h1], rfl⟩
        · exact .row ⟨row, by simp, rfl⟩
      · obtain ⟨l, h1, rfl⟩ := h
        rcases List.mem_append.mp h1 with h1 | h1
        · exact .row (.inl ⟨l, h1, rfl⟩)
        · rw [List.mem_singleton.mp h1]
          exact .row (.inr rfl)
    · have h1 := (Cg.refl (p := p) (rest.getD k 0)).mul (mulL_vec (p := p) (f := u) (l := rest) x)
      have h2 := hu.mul (Cg.refl (p := p) (vec rest x))
      rw [Int.one_mul] at h2
      refine (h1.trans ((Cg.of_eq ?_).trans h2)).symm
      rw [← Int.mul_assoc, Int.mul_comm (rest.getD k 0) u]
end
/-- the ladders of two lots of rows that span the same are the same -/
theorem St1.only {p : Int} {wd : Nat} {rs rs' : RG} {rows rows' : List (List Int)} (S : St1 p wd rs rows) (S' : St1 p wd rs' rows') (p2 : 2 ≤ p) (h : Same2 p (fun v => ∃ l ∈ rows, v = vec l) (fun v => ∃ l ∈ rows', v = vec l)) :
    (∀ i, i ∈ rs.map (·.1) ↔ i ∈ rs'.map (·.1)) ∧ ∀ z ∈ rs, z ∈ rs' := by
  have hs := (S.room.trans h).trans S'.room.symm
  have pl : ∀ i, i ∈ rs.map (·.1) ↔ i ∈ rs'.map (·.1) := fun i => ⟨S.lad.places S'.lad p2 hs, S'.lad.places S.lad p2 hs.symm⟩
  refine ⟨pl, fun z hz => ?_⟩
  have hi : z.1 ∈ rs.map (·.1) := List.mem_map.mpr ⟨z, hz, rfl⟩
  obtain ⟨y, hy, e⟩ := List.mem_map.mp ((pl z.1).mp hi)
  obtain ⟨a1, a2, a3⟩ := S.ok z hz
  obtain ⟨b1, b2, b3⟩ := S'.ok y hy
  have e2 : z.2 = y.2 := by
    apply List.ext_getElem (by rw [a2, b2])
    intro x h1 h2
    have := S.lad.rows S'.lad p2 hs hi x
    unfold rv at this
    have e0 : rowOf rs' z.1 = y.2 := by rw [← e]; exact rowOf_mem S'.lad.nd hy
    rw [rowOf_mem S.lad.nd hz, e0] at this
    have c1 := getD_in (by omega) a3 x
    have c2 := getD_in (by omega) b3 x
    have := this.eq c1.1 c1.2 c2.1 c2.2
    unfold vec at this
    rw [getD_at (List.getElem?_eq_getElem h1), getD_at (List.getElem?_eq_getElem h2)] at this
    exact this
  have : z = y := Prod.ext e.symm e2
  rw [this]
  exact hy
end S4

namespace S4
open PySem L2 TT MM
/-! ### longer rows: what stands behind the places goes along -/
def tr (wd : Nat) (rs : RG) : RG := rs.map fun z => (z.1, z.2.take wd)
theorem tr_keys (wd : Nat) (rs : RG) : (tr wd rs).map (·.1) = rs.map (·.1) := by unfold tr; rw [List.map_map]; rfl
theorem getD_take {l : List Int} {wd i : Nat} (h : i < wd) : (l.take wd).getD i 0 = l.getD i 0 := by
  rw [List.getD_eq_getElem?_getD, List.getElem?_take, if_pos h, List.getD_eq_getElem?_getD]
theorem less_take {p : Int} {l r : List Int} {m : Int} {wd : Nat} : (lessL p l r m).take wd = lessL p (l.take wd) (r.take wd) m := by
  unfold lessL
  rw [← List.map_take, List.take_range, List.length_take]
  refine List.map_congr_left fun i hi => ?_
  have hi := List.mem_range.mp hi
  rw [getD_take (by omega), getD_take (by omega)]
theorem clr1_take {p : Int} {l : List Int} {z : Nat × List Int} {wd : Nat} (h : z.1 < wd) : (clr1 p l z).take wd = clr1 p (l.take wd) (z.1, z.2.take wd) := by
  unfold clr1
  rw [getD_take h]
  split
  · rfl
  · exact less_take
theorem clr_take {p : Int} {wd : Nat} : ∀ (rs : RG) (l : List Int), (∀ z ∈ rs, z.1 < wd) → (clr p rs l).take wd = clr p (tr wd rs) (l.take wd)
  | [], _, _ => rfl
  | z :: rs, l, h => by
    show (clr p rs (clr1 p l z)).take wd = clr p (tr wd rs) (clr1 p (l.take wd) (z.1, z.2.take wd))
    rw [clr_take rs _ fun y hy => h y (by simp [hy]), clr1_take (h z (by simp))]
theorem mul_take {p u : Int} {l : List Int} {wd : Nat} : (mulL p u l).take wd = mulL p u (l.take wd) := by unfold mulL; rw [List.map_take]
theorem putIn_tr {p : Int} {wd k : Nat} {rs : RG} {g : List Int} (hk : k < wd) : tr wd (putIn p rs k g) = putIn p (tr wd rs) k (g.take wd) := by
  unfold tr putIn
  rw [List.map_append, List.map_map, List.map_map]
  congr 1
  refine List.map_congr_left fun z _ => ?_
  show (z.1, (clr1 p z.2 (k, g)).take wd) = (z.1, clr1 p (z.2.take wd) (k, g.take wd))
  rw [clr1_take hk]
theorem clr_span {p : Int} {R : Vc → Prop} : ∀ (rs : RG) (l : List Int), (∀ z ∈ rs, Spn p R (vec z.2) ∧ z.2.length = l.length) → Spn p R (fun x => vec l x - vec (clr p rs l) x)
  | [], l, _ => .zero fun x => .of_eq (by show vec l x - vec l x = 0; omega)
  | z :: rs, l, h => by
    obtain ⟨h1, h2⟩ := h z (by simp)
    have s : ∀ x, Cg p (vec (clr1 p l z) x) (vec l x - vec l z.1 * vec z.2 x) := fun x => clr1_vec h2 x
    have a := clr_span rs (clr1 p l z) fun y hy => by
      obtain ⟨b, c⟩ := h y (by simp [hy])
      exact ⟨b, by rw [clr1_len]; exact c⟩
    have e : clr p (z :: rs) l = clr p rs (clr1 p l z) := rfl
    rw [e]
    refine .plus (vec l z.1) a h1 fun x => ?_
    have h4 := ((s x).symm.add (Cg.refl (p := p) (vec l z.1 * vec z.2 x))).sub (Cg.refl (p := p) (vec (clr p rs (clr1 p l z)) x))
    refine ((Cg.of_eq ?_).trans h4).trans (.of_eq ?_) <;> omega
def inRows (rows : List (List Int)) : Vc → Prop := fun v => ∃ l ∈ rows, v = vec l
theorem in_more {p : Int} {rows : List (List Int)} {row : List Int} {v : Vc} (h : Spn p (inRows rows) v) : Spn p (inRows (rows ++ [row])) v := h.mono fun r ⟨l, hl, e⟩ => ⟨l, List.mem_append_left _ hl, e⟩
structure St1W (p : Int) (wd W : Nat) (rs : RG) (rows : List (List Int)) : Prop where
  st : St1 p wd (tr wd rs) (rows.map (List.take wd))
  ok : ∀ z ∈ rs, z.1 < wd ∧ z.2.length = W ∧ InB p z.2
  room : ∀ z ∈ rs, Spn p (inRows rows) (vec z.2)
section
variable {p : Int} {wd W : Nat} {rs : RG} {rows : List (List Int)} {row : List Int}
theorem St1W.nil (p : Int) (wd W : Nat) : St1W p wd W [] [] := ⟨St1.nil p wd, fun z h => (nomatch h), fun z h => (nomatch h)⟩
theorem St1W.nd (S : St1W p wd W rs rows) : (rs.map (·.1)).Nodup := by rw [← tr_keys wd]; exact S.st.lad.nd
theorem St1W.len (S : St1W p wd W rs rows) : rs.length ≤ wd := by
  have := S.st.len
  unfold tr at this
  rwa [List.length_map] at this
theorem St1W.clrT (S : St1W p wd W rs rows) (l : List Int) : (clr p rs l).take wd = clr p (tr wd rs) (l.take wd) := clr_take rs l fun z hz => (S.ok z hz).1
theorem St1W.rest (S : St1W p wd W rs rows) (hl : row.length = W) : Spn p (inRows rows) (fun x => vec row x - vec (clr p rs row) x) := clr_span rs row fun z hz => ⟨S.room z hz, by rw [(S.ok z hz).2.1, hl]⟩
theorem St1W.restD (S : St1W p wd W rs rows) {x : Nat} (hx : x < wd) : (clr p (tr wd rs) (row.take wd)).getD x 0 = (clr p rs row).getD x 0 := by rw [← S.clrT, getD_take hx]
theorem St1W.skip (S : St1W p wd W rs rows) (hw : wd ≤ W) (hl : row.length = W) (hz : ∀ x, x < wd → (clr p rs row).getD x 0 = 0) : St1W p wd W rs (rows ++ [row]) ∧ Spn p (inRows (rows.map (List.take wd))) (vec (row.take wd)) := by
  have htl : (row.take wd).length = wd := by rw [List.length_take]; omega
  have h0 : ∀ x, x < wd → (clr p (tr wd rs) (row.take wd)).getD x 0 = 0 := fun x hx => by rw [S.restD hx]; exact hz x hx
  refine ⟨⟨?_, S.ok, fun z h => in_more (S.room z h)⟩, ?_⟩
  · rw [List.map_append]
    exact S.st.skip htl h0
  · obtain ⟨a, _⟩ := S.st.clear htl
    refine ((S.st.room _).mp a).cg fun x => ?_
    have e : vec (clr p (tr wd rs) (row.take wd)) x = 0 := by
      by_cases hx : x < wd
      · exact h0 x hx
      · exact vec_over (by rw [clr_len]; omega)
    rw [e, Int.sub_zero]
    exact .refl _
theorem St1W.put (S : St1W p wd W rs rows) (hw : wd ≤ W) (p2 : 2 ≤ p) (hl : row.length = W) (hin : InB p row) {k : Nat} {u : Int} (hk : k < wd) (h0 : (clr p rs row).getD k 0 ≠ 0) (hz : ∀ x, x < k → (clr p rs row).getD x 0 = 0)
    (hu : Cg p (u * (clr p rs row).getD k 0) 1) : St1W p wd W (putIn p rs k (mulL p u (clr p rs row))) (rows ++ [row]) ∧ ¬ Spn p (inRows (rows.map (List.take wd))) (vec (row.take wd)) := by
  have p0 : 0 < p := by omega
  have htl : (row.take wd).length = wd := by rw [List.length_take]; omega
  have hti : InB p (row.take wd) := fun x hx => hin x (List.mem_of_mem_take hx)
  have hcl : (clr p rs row).length = W := by rw [clr_len]; exact hl
  have gl : (mulL p u (clr p rs row)).length = W := by unfold mulL; rw [List.length_map]; exact hcl
  have gi : InB p (mulL p u (clr p rs row)) := fun x hx => by
    obtain ⟨y, _, rfl⟩ := List.mem_map.mp hx
    exact mod_b p0
  have hr : Spn p (inRows (rows ++ [row])) (vec (clr p rs row)) := .plus (-1) (.row ⟨row, by simp, rfl⟩) (in_more (S.rest hl)) fun x => .of_eq (by omega)
  have hg : Spn p (inRows (rows ++ [row])) (vec (mulL p u (clr p rs row))) := .plus u (.zero (v := fun _ => 0) fun _ => .refl 0) hr fun x => (mulL_vec x).trans (.of_eq (by omega))
  refine ⟨⟨?_, fun z h => ?_, fun z h => ?_⟩, fun hs => ?_⟩
  · rw [putIn_tr hk, mul_take, S.clrT, List.map_append]
    exact S.st.put p2 htl hti hk (by rw [S.restD hk]; exact h0) (fun x hx => by rw [S.restD (by omega)]; exact hz x hx) (by rw [S.restD hk]; exact hu)
  · rcases List.mem_append.mp h with h | h
    · obtain ⟨y, hy, rfl⟩ := List.mem_map.mp h
      obtain ⟨b1, b2, b3⟩ := S.ok y hy
      exact ⟨b1, by show (clr p _ y.2).length = W; rw [clr_len]; exact b2, clr_in p0 _ b3⟩
    · rw [List.mem_singleton.mp h]
      exact ⟨hk, gl, gi⟩
  · rcases List.mem_append.mp h with h | h
    · obtain ⟨y, hy, rfl⟩ := List.mem_map.mp h
      refine .plus (-(vec y.2 k)) (in_more (S.room y hy)) hg fun x => ?_
      refine (clr1_vec (z := (k, mulL p u (clr p rs row))) (by rw [(S.ok y hy).2.1]; exact gl) x).trans (.of_eq ?_)
      rw [Int.neg_mul]
      show _ - vec y.2 k * vec (mulL p u (clr p rs row)) x = _
      omega
    · rw [List.mem_singleton.mp h]
      exact hg
  · obtain ⟨a, b⟩ := S.st.clear htl
    have hd : Spn p (rungs ((tr wd rs).map (·.1)) (rv (tr wd rs))) (vec (clr p (tr wd rs) (row.take wd))) := .plus (-1) ((S.st.room _).mpr hs) a fun x => .of_eq (by omega)
    have := S.st.lad.zero hd b k
    have e : vec (clr p (tr wd rs) (row.take wd)) k = (clr p rs row).getD k 0 := S.restD hk
    rw [e] at this
    have c := getD_in p0 (clr_in p0 rs hin) k
    exact h0 (this.zero_of c.1 c.2)
end
/-- the numbers of the rows that those ahead do not span -/
noncomputable def nwL (p : Int) (wd : Nat) (rows : List (List Int)) : Nat → List Nat
  | 0 => []
  | i + 1 => nwL p wd rows i ++ (open Classical in if Spn p (inRows ((rows.take i).map (List.take wd))) (vec ((rows.getD i []).take wd)) then [] else [i])
theorem nwL_len (p : Int) (wd : Nat) (rows : List (List Int)) : ∀ i, (nwL p wd rows i).length ≤ i
  | 0 => Nat.le_refl _
  | i + 1 => by
    have := nwL_len p wd rows i
    unfold nwL
    rw [List.length_append]
    split
    · show _ + 0 ≤ _; omega
    · show _ + 1 ≤ _; omega
theorem nwL_in {p : Int} {wd : Nat} {rows : List (List Int)} {i : Nat} (h : Spn p (inRows ((rows.take i).map (List.take wd))) (vec ((rows.getD i []).take wd))) : nwL p wd rows (i + 1) = nwL p wd rows i := by
  rw [nwL, if_pos h, List.append_nil]
theorem nwL_out {p : Int} {wd : Nat} {rows : List (List Int)} {i : Nat} (h : ¬ Spn p (inRows ((rows.take i).map (List.take wd))) (vec ((rows.getD i []).take wd))) : nwL p wd rows (i + 1) = nwL p wd rows i ++ [i] := by
  rw [nwL, if_neg h]
end S4

namespace S4
open PySem L2 TT MM
/-! ### either a list or a tuple -/
theorem pi_or {X : Cx} {tg e : Expr} {w1 w2 : TI} (h1 : PI X tg e w1) (h2 : PI X tg e w2) : PI X tg e (fun σ H R => w1 σ H R ∨ w2 σ H R) := ⟨fun pins s σ H R I h => h.elim (h1.run pins s σ H R I) (h2.run pins s σ H R I)⟩
/-- the items of a list or a tuple -/
def SqS (K : PySem.W.Frag) (H : Hp) (a : Addr) (xs : List V) : Prop := H a = some (.lst xs) ∨ H a = some (.tup xs)
theorem SqS.same {K : PySem.W.Frag} {H H' : Hp} {a : Addr} {xs : List V} (h : SqS K H a xs) (s : Same H H') : SqS K H' a xs := h.elim (fun h => .inl (s _ _ h)) (fun h => .inr (s _ _ h))
theorem val_none : ∀ {kvs : List (L2.Key × V)} {rs : RG} {H : Hp} {k : Nat}, Paired (kvR H) kvs rs → k ∉ rs.map (·.1) → valV kvs (Sum.inl ((k : Nat) : Int)) = none
  | _, _, _, _, .nil, _ => rfl
  | (k0, v0) :: kvs, z :: rs, H, k, .cons r t, hn => by
    have hne : ¬ k0 = Sum.inl ((k : Nat) : Int) := fun e => by
      have e1 := r.1
      simp only at e1
      rw [e] at e1
      have e2 := Sum.inl.inj e1
      have e3 : k = z.1 := by omega
      exact hn (by rw [e3]; simp)
    rw [valV_neg hne]
    exact val_none t fun q => hn (by simp only [List.map_cons, List.mem_cons]; exact .inr q)
theorem put_map {kvs : List (L2.Key × V)} {rs : RG} {H : Hp} {k : Nat} {v : V} {g : List Int} (h : Paired (kvR H) kvs rs) (hv : rRow H v g) (hk : k ∈ rs.map (·.1)) :
    Paired (kvR H) (putK kvs (Sum.inl ((k : Nat) : Int)) v) (rs.map fun z => if z.1 = k then (z.1, g) else z) := by
  have hm : ∀ {kvs : List (L2.Key × V)} {rs : RG}, Paired (kvR H) kvs rs → Paired (kvR H) (kvs.map fun kv => if kv.1 = Sum.inl ((k : Nat) : Int) then (kv.1, v) else kv) (rs.map fun z => if z.1 = k then (z.1, g) else z) := by
    intro kvs rs h
    induction h with
    | nil => exact .nil
    | @cons kv z kvs rs r t ih =>
      rw [List.map_cons, List.map_cons]
      refine .cons ?_ ih
      have e1 := r.1
      by_cases e : z.1 = k
      · rw [if_pos e, if_pos (by rw [e1, e])]
        exact ⟨e1, hv⟩
      · rw [if_neg e, if_neg (fun q => e (by rw [e1] at q; have := Sum.inl.inj q; omega))]
        exact r
  unfold putK
  rw [if_pos ?_]
  · exact hm h
  · obtain ⟨z, hz, e⟩ := List.mem_map.mp hk
    obtain ⟨i, hi⟩ := List.getElem?_of_mem hz
    obtain ⟨kv, hkv, r⟩ := paired_get2 h hi
    rw [List.any_eq_true]
    refine ⟨kv, List.mem_of_getElem? hkv, decide_eq_true ?_⟩
    rw [r.1, e]
/-- those of the first have been cleared -/
def part (p : Int) (k : Nat) (g : List Int) (D : List Nat) (rs : RG) : RG := rs.map fun z => if z.1 ∈ D then (z.1, clr p [(k, g)] z.2) else z
theorem part_keys (p : Int) (k : Nat) (g : List Int) (D : List Nat) (rs : RG) : (part p k g D rs).map (·.1) = rs.map (·.1) := by
  unfold part
  rw [List.map_map]
  refine List.map_congr_left fun z _ => ?_
  show (if z.1 ∈ D then (z.1, clr p [(k, g)] z.2) else z).1 = z.1
  split <;> rfl
theorem part_nil (p : Int) (k : Nat) (g : List Int) (rs : RG) : part p k g [] rs = rs := by
  unfold part
  have : (fun z : Nat × List Int => if z.1 ∈ ([] : List Nat) then (z.1, clr p [(k, g)] z.2) else z) = id := by
    funext z
    rw [if_neg (by simp)]
    rfl
  rw [this, List.map_id]
theorem part_all (p : Int) (k : Nat) (g : List Int) (rs : RG) : part p k g (rs.map (·.1)) rs ++ [(k, g)] = putIn p rs k g := by
  unfold part putIn
  congr 1
  refine List.map_congr_left fun z hz => ?_
  rw [if_pos (List.mem_map.mpr ⟨z, hz, rfl⟩)]
theorem part_step {p : Int} {k : Nat} {g : List Int} {D : List Nat} {rs : RG} (nd : (rs.map (·.1)).Nodup) {z : Nat × List Int} (hz : z ∈ rs) :
    (part p k g D rs).map (fun y => if y.1 = z.1 then (y.1, clr p [(k, g)] z.2) else y) = part p k g (D ++ [z.1]) rs := by
  unfold part
  rw [List.map_map]
  refine List.map_congr_left fun y hy => ?_
  have same : y.1 = z.1 → y.2 = z.2 := fun e => by
    have h1 := rowOf_mem nd hy
    have h2 := rowOf_mem nd hz
    rw [e] at h1
    rw [← h1, ← h2]
  have pe : (if y.1 ∈ D then (y.1, clr p [(k, g)] y.2) else y).1 = y.1 := by split <;> rfl
  show (if (if y.1 ∈ D then (y.1, clr p [(k, g)] y.2) else y).1 = z.1 then ((if y.1 ∈ D then (y.1, clr p [(k, g)] y.2) else y).1, clr p [(k, g)] z.2) else (if y.1 ∈ D then (y.1, clr p [(k, g)] y.2) else y)) = _
  rw [pe]
  by_cases e : y.1 = z.1
  · rw [if_pos e, if_pos (by rw [e]; simp), same e]
  · rw [if_neg e]
    by_cases hD : y.1 ∈ D
    · rw [if_pos hD, if_pos (List.mem_append_left _ hD)]
    · rw [if_neg hD, if_neg (fun q => (List.mem_append.mp q).elim hD fun q => e (List.mem_singleton.mp q))]
structure RGS (H0 : Hp) (dr nw : Addr) (rs : RG) (ns : List Nat) (H : Hp) : Prop where
  same : Same H0 H
  d0 : H0 dr = none
  n0 : H0 nw = none
  ne : dr ≠ nw
  dict : ∃ kvs, H dr = some (.dK kvs) ∧ Paired (kvR H) kvs rs
  news : H nw = some (.lst (ns.map fun k => V.int (k : Nat)))
theorem RGS.more {H0 : Hp} {dr nw : Addr} {rs : RG} {ns : List Nat} {H H' : Hp} (R : RGS H0 dr nw rs ns H) (s : Same H H') : RGS H0 dr nw rs ns H' :=
  ⟨R.same.trans s, R.d0, R.n0, R.ne, let ⟨kvs, a, b⟩ := R.dict; ⟨kvs, s _ _ a, kvR_mono (fun _ _ h => s _ _ h) b⟩, s _ _ R.news⟩
theorem RGS.setD {H0 : Hp} {dr nw : Addr} {rs rs' : RG} {ns : List Nat} {H : Hp} (R : RGS H0 dr nw rs ns H) {kvs : List (L2.Key × V)} (h : Paired (kvR H) kvs rs') : RGS H0 dr nw rs' ns (upd H dr (.dK kvs)) := by
  obtain ⟨kv0, a, b⟩ := R.dict
  exact ⟨same_own R.same R.d0, R.d0, R.n0, R.ne, ⟨kvs, upd_same, kvR_mono (fun t xs h => by rw [upd_ne (ne_of h a (fun z => nomatch z))]; exact h) h⟩, by rw [upd_ne R.ne.symm]; exact R.news⟩
section
variable {P : Program} {w : World} {K : PySem.W.Frag} {mg : Str → Option Value} {base : Heap} {cT cS : Addr}
def spRungs : Sp := fun vs H Q _ => ∃ (a : Addr) (p : Int) (wd W : Nat) (xs : List V) (rws : List (List Int)), vs = [.int p, .int (wd : Int), .ref a] ∧ SqS K H a xs ∧ Paired (rRow H) xs rws ∧ rws.length ≤ 1000 ∧ Prm p ∧ p ≤ 1000000 ∧ wd ≤ W ∧ W ≤ 1000 ∧ (∀ r ∈ rws, isRow r p W) ∧
  ∀ H' t dr nw rs, Same H H' → H' t = some (.tup [.ref dr, .ref nw]) → H dr = none → H nw = none → (∃ kvs, H' dr = some (.dK kvs) ∧ Paired (kvR H') kvs rs) → H' nw = some (.lst ((nwL p wd rws rws.length).map fun k => V.int (k : Nat))) → St1W p wd W rs rws → rs.length ≤ rws.length → Q (.ref t) H'
theorem ok_rungs (T : Tx K mg cT cS) {f : Addr} {fd : FuncData} (d : D K mg "rungs_of" s_rungs_of ["p", "wide", "rows"] f fd) : FnOk P w K mg base CX0 2 f fd ["p", "wide", "rows"] (spRungs (K := K)) := by
  obtain ⟨f1, fd1, d1⟩ := T.d_cleared
  have G1 : FnOk P w K mg base CX0 1 f1 fd1 ["p", "rungs", "row"] spCleared := ok_cleared T d1
  obtain ⟨f2, fd2, d2⟩ := T.d_first_place
  have G2 : FnOk P w K mg base CX0 1 f2 fd2 ["row", "wide"] spFirst := ok_first T d2
  obtain ⟨f3, fd3, d3⟩ := T.d_multiplied
  have G3 : FnOk P w K mg base CX0 1 f3 fd3 ["p", "factor", "row"] spMult := ok_mult T d3
  obtain ⟨f4, fd4, d4⟩ := T.d_inverse
  have G4 : FnOk P w K mg base CX0 1 f4 fd4 ["p", "value"] spInverse := ok_inverse T d4
  refine d.F.ok sc_rungs_of (fun vs H Q E h => ?_) (fun cdv A outer s H vs Q E hr h => ?_)
  · obtain ⟨a, p, wd, W, xs, rws, rfl, _⟩ := h
    rfl
  · obtain ⟨a, p, wd, W, xs, rws, rfl, hS, hp, hl, prm, pm, hwW, hwd, hrw, q⟩ := h
    have p2 := prm.1
    have hlen := paired_len hp
    refine ⟨_, pss_cons (ps_set (i := 3) sc_rungs_of.nd rfl (.inl rfl) pe_dnewK)
      (pss_cons (ps_set (i := 4) sc_rungs_of.nd rfl (.inl rfl) (pe_lst pa_nil))
      (pss_cons (ps_for PassesOwn.never rfl (pi_or (pi_enum (by rfl) T.b_enumerate (pa_cons (pv 2) pa_nil)) (pi_enumT (by rfl) T.b_enumerate (pa_cons (pv 2) pa_nil))) (pg_tup rfl (pgs_cons (pg_name (i := 5) sc_rungs_of.nd rfl (.inl rfl)) (pgs_cons (pg_name (i := 6) sc_rungs_of.nd rfl (.inl rfl)) pgs_nil)))
        (pss_cons (ps_set (i := 7) sc_rungs_of.nd rfl (.inl rfl) (pe_call G1 hr rfl d1.m d1.F.kp d1.b .nil pass0 (pa_cons (pv 0) (pa_cons (pv 3) (pa_cons (pv 6) pa_nil)))))
        (pss_cons (ps_set (i := 8) sc_rungs_of.nd rfl (.inl rfl) (pe_call G2 hr rfl d2.m d2.F.kp d2.b .nil pass0 (pa_cons (pv 7) (pa_cons (pv 1) pa_nil))))
        (pss_cons (ps_if (pt_cmp (pc_isN (pv 8))) (pss_one ps_continue) pss_nil)
        (pss_cons (ps_set (i := 9) sc_rungs_of.nd rfl (.inl rfl) (pe_call G3 hr rfl d3.m d3.F.kp d3.b .nil pass0 (pa_cons (pv 0) (pa_cons (pe_call G4 hr rfl d4.m d4.F.kp d4.b .nil pass0 (pa_cons (pv 0) (pa_cons (pe_ix ix_tup (pv 7) (pv 8) (fun _ _ => rfl)) pa_nil))) (pa_cons (pv 7) pa_nil)))))
        (pss_cons (ps_for PassesOwn.never rfl (pi_list (pe_callTy (call_listD rfl) (by rfl) T.b_list (by decide +kernel) (pa_cons (pv 3) pa_nil))) (pg_name (i := 10) sc_rungs_of.nd rfl (Or.inl rfl))
          (pss_one (ps_dput (hu_of hr) (pv 3) (pv 10) (pe_call G1 hr rfl d1.m d1.F.kp d1.b .nil pass0 (pa_cons (pv 0) (pa_cons (pe_disp (pps_cons (pv 8) (pv 9) pps_nil) (by rfl) (by rfl) (fun z => by cases z) (by decide)) (pa_cons (pe_dget (hu_of hr) (pv 3) (pv 10) (fun _ _ => rfl)) pa_nil)))) rfl)))
        (pss_cons (ps_dput (hu_of hr) (pv 3) (pv 8) (pv 9) rfl)
        (pss_one (ps_expr (pe_bm PySem.F.plainAttrs_list PySem.F.slot_list_append PySem.F.type_list_append mt_append (pv 4) (pa_cons (pv 5) pa_nil)))))))))))
      (pss_one (ps_ret (pe_tup (pa_cons (pv 3) (pa_cons (pv 4) pa_nil))))))), ?_⟩
    intro dr hdr
    dsimp only [gName, tSeq]
    refine ⟨by show 0 ≤ sizeLine; decide, fun nw hnw => ?_⟩
    have hne : dr ≠ nw := fun e => by subst e; rw [upd_same] at hnw; cases hnw
    have s1 := same_new (o := .dK []) hdr
    have s2 := same_new (o := .lst []) hnw
    have R0 : RGS H dr nw [] [] (upd (upd H dr (.dK [])) nw (.lst [])) := ⟨s1.trans s2, hdr, s1.free hnw, hne, ⟨[], s2 _ _ upd_same, .nil⟩, upd_same⟩
    dsimp only [gName, tSeq]
    have P0 : ∃ rs x5 x6 x7 x8 x9 x10, [some (V.int p), some (V.int (wd : Int)), some (V.ref a), some (V.ref dr), some (V.ref nw), none, none, none, none, none, none] = [some (V.int p), some (V.int (wd : Int)), some (V.ref a), some (V.ref dr), some (V.ref nw), x5, x6, x7, x8, x9, x10] ∧ RGS H dr nw rs (nwL p wd rws 0) (upd (upd H dr (.dK [])) nw (.lst [])) ∧ St1W p wd W rs (rws.take 0) ∧ rs.length ≤ 0 :=
      ⟨[], none, none, none, none, none, none, rfl, R0, by rw [List.take_zero]; exact St1W.nil p wd W, Nat.le_refl _⟩
    apply twice
    · intro hs
      apply twice
      · intro hd
        rcases hS with h | h
        · exact .inl ⟨_, rfl, a, xs, rfl, .of ((s1.trans s2) _ _ h), for_it (walk_enum (xs := xs)) (fun i σ H' => ∃ rs x5 x6 x7 x8 x9 x10, σ = [some (.int p), some (.int (wd : Int)), some (.ref a), some (.ref dr), some (.ref nw), x5, x6, x7, x8, x9, x10] ∧ RGS H dr nw rs (nwL p wd rws i) H' ∧ St1W p wd W rs (rws.take i) ∧ rs.length ≤ i) P0 (fun i σ H' _ q => .of (let ⟨_, _, _, _, _, _, _, _, R, _, _⟩ := q; R.same _ _ h)) hs hd⟩
        · exact .inr ⟨_, rfl, a, xs, rfl, .of ((s1.trans s2) _ _ h), for_it (walk_enumT (xs := xs)) (fun i σ H' => ∃ rs x5 x6 x7 x8 x9 x10, σ = [some (.int p), some (.int (wd : Int)), some (.ref a), some (.ref dr), some (.ref nw), x5, x6, x7, x8, x9, x10] ∧ RGS H dr nw rs (nwL p wd rws i) H' ∧ St1W p wd W rs (rws.take i) ∧ rs.length ≤ i) P0 (fun i σ H' _ q => .of (let ⟨_, _, _, _, _, _, _, _, R, _, _⟩ := q; R.same _ _ h)) hs hd⟩
      · rintro σ H2 ⟨rs, x5, x6, x7, x8, x9, x10, rfl, R, S, cnt⟩
        rw [hlen] at R
        rw [hlen, List.take_length] at S
        refine ⟨_, rfl, _, rfl, by show 2 ≤ sizeLine; decide, fun t nt => ?_⟩
        have s3 := same_new (o := .tup [V.ref dr, V.ref nw]) nt
        obtain ⟨kvs, hk1, hk2⟩ := R.dict
        exact q _ t dr nw rs (R.same.trans s3) upd_same hdr R.n0 ⟨kvs, s3 _ _ hk1, kvR_mono (fun _ _ h => s3 _ _ h) hk2⟩ (s3 _ _ R.news) S (by omega)
    · rintro i x σ H2 H3 hi ⟨rs, x5, x6, x7, x8, x9, x10, rfl, R2, S, cnt⟩ ⟨tz, u1, u2, rfl, nz, rfl, e1, e2⟩
      cases (Option.some.inj e1)
      have s3 := same_new (o := .tup [V.int (i : Nat), u2]) nz
      have R := R2.more s3
      obtain ⟨row, hrow, hrr⟩ := paired_get (paired_mono mono_row (R.same).keep hp) e2
      have hir := hrw row (List.mem_of_getElem? hrow)
      have hrl : row.length = W := by have := hir.1; omega
      have erow : rws.getD i [] = row := by rw [List.getD_eq_getElem?_getD, hrow]; rfl
      have hnl := nwL_len p wd rws i
      have etake : rws.take (i + 1) = rws.take i ++ [row] := by rw [List.take_succ, hrow]; rfl
      have hrsl := S.len
      refine ⟨tz, _, rfl, .of upd_same, rfl, _, _, rfl, _, _, rfl, rfl, ?_⟩
      obtain ⟨kvs, hk1, hk2⟩ := R.dict
      refine ⟨_, rfl, _, rfl, _, rfl, dr, .dK kvs, u2, row, rs, p, rfl, hk1, ⟨kvs, rfl, hk2⟩, S.nd, hrr, by omega, pm, hir.2, by omega, by omega, fun z hz => by have := S.ok z hz; exact ⟨by omega, by omega⟩, fun H4 v4 s4 hv4 => ?_⟩
      dsimp only [gName, tSeq]
      have cl := clr_len p rs row
      refine ⟨_, rfl, _, rfl, v4, clr p rs row, wd, rfl, hv4, by omega, by omega, fun hz => ?_, fun k hk h0 hz => ?_⟩
      · dsimp only [gName, tSeq]
        refine ⟨_, rfl, _, rfl, ?_⟩
        have R4 := R.more s4
        rw [decide_eq_true rfl]
        obtain ⟨Sk, Sp⟩ := S.skip hwW hrl hz
        refine iteT ⟨rs, _, _, _, _, _, _, rfl, ?_, ?_, by omega⟩
        · rw [nwL_in (by rw [erow]; exact Sp)]
          exact R4
        · rw [etake]
          exact Sk
      · dsimp only [gName, tSeq]
        refine ⟨_, rfl, _, rfl, ?_⟩
        rw [decide_eq_false (fun e => nomatch e)]
        refine iteF ?_
        have p0 : 0 < p := by omega
        have hri := clr_in p0 rs hir.2
        have hb := getD_in p0 hri k
        have hkk : (clr p rs row)[k]? = some ((clr p rs row)[k]'(by omega)) := List.getElem?_eq_getElem (by omega)
        have hkg := getD_at (d := (0 : Int)) hkk
        obtain ⟨t4, rfl, ht4⟩ := hv4
        refine ⟨_, rfl, _, rfl, _, rfl, _, rfl, t4, _, _, _, rfl, rfl, .of ht4, atI_nat (int_at hkk), ?_⟩
        rw [← hkg]
        refine ⟨p, _, rfl, pm, by omega, by omega, prm.gcd (by omega) (by omega), fun u u0 u1 hu H5 s5 => ?_⟩
        refine ⟨_, rfl, .ref t4, clr p rs row, p, u, rfl, ⟨t4, rfl, s5.keep.tup ht4⟩, p0, ⟨by omega, by omega⟩, by omega, fun H6 v6 s6 hv6 => ?_⟩
        have s46 := (s4.trans s5).trans s6
        have R6 := R.more s46
        obtain ⟨St, Sn⟩ := S.put (u := u) hwW p2 hrl hir.2 hk h0 hz hu
        generalize hg : mulL p u (clr p rs row) = g at hv6 St
        have hgl : g.length = W := by rw [← hg]; unfold mulL; rw [List.length_map]; omega
        have hgi : InB p g := by
          rw [← hg]
          intro x hx
          obtain ⟨y, _, rfl⟩ := List.mem_map.mp hx
          exact mod_b p0
        have kP : k ∉ rs.map (·.1) := by
          have := St.nd
          rw [putIn_keys, List.nodup_append] at this
          exact fun q => this.2.2 k q k (by simp) rfl
        dsimp only [gName, tSeq]
        have hk6 := s46 _ _ hk1
        have hk26 := kvR_mono (H' := H6) (fun _ _ h => s46 _ _ h) hk2
        have hkl := paired_len hk26
        refine ⟨_, rfl, dr, kvs, rfl, .inl hk6, fun lk nlk => ⟨lk, rfl, ⟨_, .of upd_same⟩, ?_⟩⟩
        have s7 := same_new (o := .lst (kvs.map fun kv => kV kv.1)) nlk
        have ldr : lk ≠ dr := fun e => by subst e; rw [hk6] at nlk; cases nlk
        refine for_it (walk_list (xs := kvs.map fun kv => kV kv.1)) (fun j σ H' => ∃ x10, σ = [some (.int p), some (.int (wd : Int)), some (.ref a), some (.ref dr), some (.ref nw), some (.int (i : Nat)), some u2, some (.ref t4), some (.int (k : Nat)), some v6, x10] ∧
          RGS H dr nw (part p k g ((rs.take j).map (·.1)) rs) (nwL p wd rws i) H' ∧ rRow H' v6 g ∧ H' lk = some (.lst (kvs.map fun kv => kV kv.1)))
          ⟨x10, rfl, by rw [List.take_zero, List.map_nil, part_nil]; exact R6.more s7, mono_row _ _ _ _ s7.keep hv6, upd_same⟩ (fun j σ H' _ ⟨_, _, _, _, h⟩ => .of h) ?_ ?_
        · rintro j x σ H8 H9 hj ⟨y10, rfl, RJ, hv8, hl8⟩ ⟨rfl, hx⟩
          rw [List.getElem?_map] at hx
          rw [List.length_map] at hj
          have hkj : kvs[j]? = some (kvs[j]'hj) := List.getElem?_eq_getElem hj
          rw [hkj] at hx
          have hx := (Option.some.inj hx).symm
          obtain ⟨z, hz1, ze, _⟩ := paired_get hk26 hkj
          have hx2 : x = V.int ((z.1 : Nat) : Int) := by rw [hx]; show kV kvs[j].1 = _; rw [ze]; rfl
          subst hx2
          have zm := List.mem_of_getElem? hz1
          obtain ⟨z1, z2, z3⟩ := S.ok z zm
          have hnd : z.1 ∉ (rs.take j).map (·.1) := by
            have nd := S.nd
            have e : rs = rs.take j ++ rs.drop j := (List.take_append_drop j rs).symm
            have hlt : j < rs.length := (List.getElem?_eq_some_iff.mp hz1).1
            have hz2 : rs[j] = z := (List.getElem?_eq_some_iff.mp hz1).2
            rw [e, List.map_append, List.nodup_append] at nd
            intro q
            refine nd.2.2 z.1 q z.1 ?_ rfl
            rw [List.drop_eq_getElem_cons hlt, hz2]
            simp
          obtain ⟨kJ, hJ1, hJ2⟩ := RJ.dict
          have hpj : (part p k g ((rs.take j).map (·.1)) rs)[j]? = some z := by
            unfold part
            rw [List.getElem?_map, hz1]
            show some (if z.1 ∈ _ then _ else z) = some z
            rw [if_neg hnd]
          obtain ⟨kv, hkv, ke, hvv⟩ := paired_get2 hJ2 hpj
          obtain ⟨kk, vv⟩ := kv
          simp only at ke hvv
          subst ke
          have hval := val_at hJ2 (by rw [part_keys]; exact S.nd) hkv
          have hJl := paired_len hJ2
          have hpl : (part p k g ((rs.take j).map (·.1)) rs).length = rs.length := by unfold part; rw [List.length_map]
          refine ⟨_, rfl, fun qd nqd => ⟨_, rfl, _, rfl, upd_same, [(Sum.inl ((k : Nat) : Int), v6)], rfl, by show 1 ≤ 15; decide, ?_⟩⟩
          rw [upd_upd]
          have s10 := same_new (o := .dK (mergeK [] [(Sum.inl ((k : Nat) : Int), v6)])) nqd
          refine ⟨_, rfl, _, rfl, dr, vv, rfl, .inl ⟨kJ, _, .inl (s10 _ _ hJ1), rfl, hval.symm⟩, ?_⟩
          refine ⟨qd, _, vv, z.2, [(k, g)], p, rfl, upd_same, ⟨[(Sum.inl ((k : Nat) : Int), v6)], rfl, .cons ⟨rfl, mono_row _ _ _ _ s10.keep hv8⟩ .nil⟩, by simp, mono_row _ _ _ _ s10.keep hvv, p0, pm, z3, by omega, by show 1 ≤ 1000; decide, fun y hy => by rw [List.mem_singleton.mp hy]; exact ⟨by rw [z2]; show k < W; omega, by rw [z2]; exact hgl⟩, fun H11 v11 s11 hv11 => ?_⟩
          have sa := s10.trans s11
          refine ⟨_, rfl, _, rfl, dr, _, rfl, DPut.k (k := Sum.inl ((z.1 : Nat) : Int)) (sa _ _ hJ1) (Nat.lt_of_le_of_lt (by omega : kJ.length ≤ 1000) (by decide)), ?_⟩
          have hJ3 := kvR_mono (H' := H11) (fun _ _ h => sa _ _ h) hJ2
          have hput := put_map hJ3 hv11 (k := z.1) (by rw [part_keys]; exact List.mem_map.mpr ⟨z, zm, rfl⟩)
          rw [part_step S.nd zm] at hput
          have et2 : (rs.take (j + 1)).map (·.1) = (rs.take j).map (·.1) ++ [z.1] := by rw [List.take_succ, hz1, List.map_append]; rfl
          refine ⟨_, rfl, ?_, ?_, ?_⟩
          · rw [et2]
            exact (RJ.more sa).setD hput
          · obtain ⟨t6, rfl, ht6⟩ := hv8
            exact ⟨t6, rfl, by rw [upd_ne (ne_of (sa _ _ ht6) (sa _ _ hJ1) (fun z => nomatch z))]; exact sa _ _ ht6⟩
          · rw [upd_ne ldr]
            exact sa _ _ hl8
        · rintro σ H8 ⟨y10, rfl, RJ, hv8, hl8⟩
          rw [List.length_map, hkl, List.take_length] at RJ
          obtain ⟨kJ, hJ1, hJ2⟩ := RJ.dict
          have hJl := paired_len hJ2
          have hpl : (part p k g (rs.map (·.1)) rs).length = rs.length := by unfold part; rw [List.length_map]
          refine ⟨_, rfl, _, rfl, _, rfl, dr, _, rfl, DPut.k (k := Sum.inl ((k : Nat) : Int)) hJ1 (Nat.lt_of_le_of_lt (by omega : kJ.length ≤ 1000) (by decide)), ?_⟩
          rw [putK_new _ (val_none hJ2 (by rw [part_keys]; exact kP))]
          have hfin : Paired (kvR H8) (kJ ++ [(Sum.inl ((k : Nat) : Int), v6)]) (putIn p rs k g) := by
            rw [← part_all]
            exact paired_app hJ2 (.cons ⟨rfl, hv8⟩ .nil)
          have RF := RJ.setD hfin
          have hn1 := RF.news
          refine ⟨_, rfl, .inl ⟨rfl, _, .of hn1⟩, _, rfl, nw, _, _, rfl, rfl, hn1, Nat.lt_of_le_of_lt (by rw [List.length_map]; omega : _ ≤ 1000) (by decide), ?_⟩
          obtain ⟨kF, hF1, hF2⟩ := RF.dict
          refine ⟨putIn p rs k g, _, _, _, _, _, _, rfl, ⟨same_own RF.same RF.n0, RF.d0, RF.n0, RF.ne, ⟨kF, by rw [upd_ne RF.ne]; exact hF1, ?_⟩, by rw [upd_same, nwL_out (by rw [erow]; exact Sn), List.map_append]; rfl⟩, by rw [etake]; exact St, by unfold putIn; rw [List.length_append, List.length_map, List.length_singleton]; omega⟩
          exact kvR_mono (fun t xs h => by rw [upd_ne (ne_of h hn1 (fun z => nomatch z))]; exact h) hF2
end
end S4

namespace S4
open PySem L2 TT MM
def keysI (rs : RG) : List Int := rs.map fun z => ((z.1 : Nat) : Int)
/-- the ladder of a room, as a list of rows -/
def IsLad (p : Int) (wd : Nat) (rows lad : List (List Int)) : Prop := ∃ (rs : RG) (ys : List Int), St1 p wd rs rows ∧ ys.Perm (keysI rs) ∧ Up ys ∧ lad = ys.map fun y => rowOf rs y.toNat
theorem keysI_nodup {rs : RG} (h : (rs.map (·.1)).Nodup) : (keysI rs).Nodup := by
  unfold keysI
  rw [List.nodup_iff_pairwise_ne] at *
  rw [List.pairwise_map] at *
  exact h.imp fun {a b} h e => h (by omega)
theorem keysI_mem {rs : RG} {y : Int} : y ∈ keysI rs ↔ ∃ i ∈ rs.map (·.1), y = ((i : Nat) : Int) := by
  unfold keysI
  rw [List.mem_map]
  constructor
  · rintro ⟨z, hz, rfl⟩
    exact ⟨z.1, List.mem_map.mpr ⟨z, hz, rfl⟩, rfl⟩
  · rintro ⟨i, hi, rfl⟩
    obtain ⟨z, hz, rfl⟩ := List.mem_map.mp hi
    exact ⟨z, hz, rfl⟩
theorem IsLad.only {p : Int} {wd : Nat} {rows rows' lad lad' : List (List Int)} (A : IsLad p wd rows lad) (B : IsLad p wd rows' lad') (p2 : 2 ≤ p) (h : Same2 p (fun v => ∃ l ∈ rows, v = vec l) (fun v => ∃ l ∈ rows', v = vec l)) : lad = lad' := by
  obtain ⟨rs, ys, S, hp, hu, rfl⟩ := A
  obtain ⟨rs', ys', S', hp', hu', rfl⟩ := B
  obtain ⟨k1, k2⟩ := S.only S' p2 h
  have e : ys = ys' := by
    refine up_same (hp.trans (List.Perm.trans ?_ hp'.symm)) hu hu'
    refine (List.perm_ext_iff_of_nodup (keysI_nodup S.lad.nd) (keysI_nodup S'.lad.nd)).mpr fun y => ?_
    rw [keysI_mem, keysI_mem]
    constructor
    · rintro ⟨i, hi, rfl⟩; exact ⟨i, (k1 i).mp hi, rfl⟩
    · rintro ⟨i, hi, rfl⟩; exact ⟨i, (k1 i).mpr hi, rfl⟩
  subst e
  refine List.map_congr_left fun y hy => ?_
  obtain ⟨i, hi, rfl⟩ := keysI_mem.mp (hp.mem_iff.mp hy)
  obtain ⟨z, hz, rfl⟩ := List.mem_map.mp hi
  rw [Int.toNat_natCast, rowOf_mem S.lad.nd hz, rowOf_mem S'.lad.nd (k2 z hz)]
theorem IsLad.rows {p : Int} {wd : Nat} {rows lad : List (List Int)} (A : IsLad p wd rows lad) : lad.length ≤ wd ∧ ∀ l ∈ lad, isRow l p wd := by
  obtain ⟨rs, ys, S, hp, hu, rfl⟩ := A
  refine ⟨?_, fun l hl => ?_⟩
  · rw [List.length_map, hp.length_eq]
    unfold keysI
    rw [List.length_map]
    exact S.len
  · obtain ⟨y, hy, rfl⟩ := List.mem_map.mp hl
    obtain ⟨i, hi, rfl⟩ := keysI_mem.mp (hp.mem_iff.mp hy)
    obtain ⟨z, hz, rfl⟩ := List.mem_map.mp hi
    rw [Int.toNat_natCast, rowOf_mem S.lad.nd hz]
    obtain ⟨_, b, c⟩ := S.ok z hz
    exact ⟨by omega, c⟩
/-- the ladder spans what the rows span -/
theorem IsLad.room {p : Int} {wd : Nat} {rows lad : List (List Int)} (A : IsLad p wd rows lad) : Same2 p (fun v => ∃ l ∈ lad, v = vec l) (fun v => ∃ l ∈ rows, v = vec l) := by
  obtain ⟨rs, ys, S, hp, hu, rfl⟩ := A
  refine Same2.trans (same2_of (fun v h => ?_) (fun v h => ?_)) S.room
  · obtain ⟨l, hl, rfl⟩ := h
    obtain ⟨y, hy, rfl⟩ := List.mem_map.mp hl
    obtain ⟨i, hi, rfl⟩ := keysI_mem.mp (hp.mem_iff.mp hy)
    rw [Int.toNat_natCast]
    exact .row ⟨i, hi, rfl⟩
  · obtain ⟨i, hi, rfl⟩ := h
    exact .row ⟨rowOf rs i, List.mem_map.mpr ⟨((i : Nat) : Int), hp.mem_iff.mpr (keysI_mem.mpr ⟨i, hi, rfl⟩), by rw [Int.toNat_natCast]⟩, rfl⟩
end S4

namespace S4
open PySem L2 TT MM
/-! ### clearing by rungs that are not cleared of one another -/
/-- a rung is 0 in the first places of those ahead, 1 in its own -/
structure Tri (p : Int) (wd : Nat) (rs : RG) : Prop where
  ok : ∀ z ∈ rs, z.1 < wd ∧ z.2.length = wd ∧ InB p z.2
  one : ∀ z ∈ rs, Cg p (vec z.2 z.1) 1
  tri : rs.Pairwise fun a b => Cg p (vec b.2 a.1) 0
section
variable {p : Int} {wd : Nat}
theorem Tri.tail {z : Nat × List Int} {rs : RG} (T : Tri p wd (z :: rs)) : Tri p wd rs := ⟨fun y h => T.ok y (by simp [h]), fun y h => T.one y (by simp [h]), (List.pairwise_cons.mp T.tri).2⟩
theorem clr_at : ∀ (rs : RG) (l : List Int) (x : Nat), (∀ z ∈ rs, z.2.length = l.length ∧ Cg p (vec z.2 x) 0) → Cg p (vec (clr p rs l) x) (vec l x)
  | [], l, x, _ => .refl _
  | z :: rs, l, x, h => by
    obtain ⟨h1, h2⟩ := h z (by simp)
    have ih := clr_at rs (clr1 p l z) x fun y hy => by
      obtain ⟨a, b⟩ := h y (by simp [hy])
      exact ⟨by rw [clr1_len]; exact a, b⟩
    have s := clr1_vec (p := p) h1 x
    have m := (Cg.refl (p := p) (vec l x)).sub ((Cg.refl (p := p) (vec l z.1)).mul h2)
    rw [Int.mul_zero, Int.sub_zero] at m
    exact ih.trans (s.trans m)
theorem Tri.clear {R : Vc → Prop} : ∀ (rs : RG) (l : List Int), Tri p wd rs → l.length = wd → (∀ z ∈ rs, Spn p R (vec z.2)) → Spn p R (fun x => vec l x - vec (clr p rs l) x) ∧ ∀ z ∈ rs, Cg p (vec (clr p rs l) z.1) 0
  | [], l, _, _, _ => ⟨.zero fun x => .of_eq (by show vec l x - vec l x = 0; omega), fun z h => (nomatch h)⟩
  | z :: rs, l, T, hl, hR => by
    have hz := T.ok z (by simp)
    have s : ∀ x, Cg p (vec (clr1 p l z) x) (vec l x - vec l z.1 * vec z.2 x) := fun x => clr1_vec (by rw [hz.2.1, hl]) x
    obtain ⟨a, c⟩ := Tri.clear rs (clr1 p l z) T.tail (by rw [clr1_len]; exact hl) fun y hy => hR y (by simp [hy])
    have e : clr p (z :: rs) l = clr p rs (clr1 p l z) := rfl
    rw [e]
    refine ⟨.plus (vec l z.1) a (hR z (by simp)) fun x => ?_, fun y hy => ?_⟩
    · have h4 := ((s x).symm.add (Cg.refl (p := p) (vec l z.1 * vec z.2 x))).sub (Cg.refl (p := p) (vec (clr p rs (clr1 p l z)) x))
      refine ((Cg.of_eq ?_).trans h4).trans (.of_eq ?_) <;> omega
    · rcases List.mem_cons.mp hy with rfl | hy
      · have own : Cg p (vec (clr1 p l y) y.1) 0 := by
          have := (Cg.refl (p := p) (vec l y.1)).sub ((Cg.refl (p := p) (vec l y.1)).mul (T.one y (by simp)))
          rw [Int.mul_one, Int.sub_self] at this
          exact (s y.1).trans this
        refine (clr_at rs (clr1 p l y) y.1 fun z hz2 => ⟨?_, (List.pairwise_cons.mp T.tri).1 z hz2⟩).trans own
        rw [clr1_len, hl]
        exact (T.ok z (by simp [hz2])).2.1
      · exact c y hy
/-- the state of the short going: as many rungs, in the same places, as the ladder's going has -/
structure St2 (p : Int) (wd : Nat) (rs : RG) (rows : List (List Int)) : Prop where
  T : Tri p wd rs
  room : ∀ z ∈ rs, Spn p (fun v => ∃ l ∈ rows, v = vec l) (vec z.2)
  twin : ∃ rs', St1 p wd rs' rows ∧ rs'.map (·.1) = rs.map (·.1)
theorem St2.nil (p : Int) (wd : Nat) : St2 p wd [] [] := ⟨⟨fun z h => (nomatch h), fun z h => (nomatch h), .nil⟩, fun z h => (nomatch h), [], St1.nil p wd, rfl⟩
theorem eq_of_cg {a b : List Int} (p0 : 0 < p) (hl : a.length = b.length) (ha : InB p a) (hb : InB p b) (h : ∀ x, Cg p (vec a x) (vec b x)) : a = b := by
  apply List.ext_getElem hl
  intro x h1 h2
  have c1 := getD_in p0 ha x
  have c2 := getD_in p0 hb x
  have := (h x).eq c1.1 c1.2 c2.1 c2.2
  unfold vec at this
  rwa [getD_at (List.getElem?_eq_getElem h1), getD_at (List.getElem?_eq_getElem h2)] at this
variable {rs : RG} {rows : List (List Int)} {row : List Int}
theorem St2.same (S : St2 p wd rs rows) (p2 : 2 ≤ p) (hl : row.length = wd) (hin : InB p row) {rs' : RG} (S' : St1 p wd rs' rows) (hk : rs'.map (·.1) = rs.map (·.1)) : clr p rs row = clr p rs' row := by
  have p0 : 0 < p := by omega
  obtain ⟨a, b⟩ := S.T.clear rs row hl S.room
  obtain ⟨a', b'⟩ := S'.clear hl
  have d : Spn p (rungs (rs'.map (·.1)) (rv rs')) (fun x => vec (clr p rs row) x - vec (clr p rs' row) x) := by
    refine .plus (-1) a' ((S'.room _).mpr a) fun x => .of_eq ?_
    omega
  refine eq_of_cg p0 (by rw [clr_len, clr_len]) (clr_in p0 _ hin) (clr_in p0 _ hin) fun x => ?_
  have z := S'.lad.zero d (fun i hi => by
    have h2 := b' i hi
    rw [hk] at hi
    obtain ⟨y, hy, rfl⟩ := List.mem_map.mp hi
    have := (b y hy).sub h2
    rwa [Int.sub_zero] at this) x
  have := z.add (Cg.refl (p := p) (vec (clr p rs' row) x))
  refine ((Cg.of_eq ?_).trans this).trans (.of_eq ?_) <;> omega
theorem span_more {v : Vc} (h : Spn p (fun v => ∃ l ∈ rows, v = vec l) v) : Spn p (fun v => ∃ l ∈ rows ++ [row], v = vec l) v := h.mono fun r ⟨l, hl, e⟩ => ⟨l, List.mem_append_left _ hl, e⟩
theorem St2.skip (S : St2 p wd rs rows) (p2 : 2 ≤ p) (hl : row.length = wd) (hin : InB p row) (hz : ∀ x, x < wd → (clr p rs row).getD x 0 = 0) : St2 p wd rs (rows ++ [row]) := by
  obtain ⟨rs', S', hk⟩ := S.twin
  have e := S.same p2 hl hin S' hk
  exact ⟨S.T, fun z h => span_more (S.room z h), rs', S'.skip hl (by rw [← e]; exact hz), hk⟩
theorem St2.put (S : St2 p wd rs rows) (p2 : 2 ≤ p) (hl : row.length = wd) (hin : InB p row) {k : Nat} {u : Int} (hk : k < wd) (h0 : (clr p rs row).getD k 0 ≠ 0) (hz : ∀ x, x < k → (clr p rs row).getD x 0 = 0)
    (hu : Cg p (u * (clr p rs row).getD k 0) 1) : k ∉ rs.map (·.1) ∧ St2 p wd (rs ++ [(k, mulL p u (clr p rs row))]) (rows ++ [row]) := by
  have p0 : 0 < p := by omega
  obtain ⟨rs', S', hkk⟩ := S.twin
  have e := S.same p2 hl hin S' hkk
  have St := S'.put (u := u) p2 hl hin hk (by rw [← e]; exact h0) (by rw [← e]; exact hz) (by rw [← e]; exact hu)
  obtain ⟨a, b⟩ := S.T.clear rs row hl S.room
  have kP : k ∉ rs.map (·.1) := fun q => by
    obtain ⟨z, hz1, rfl⟩ := List.mem_map.mp q
    have := b z hz1
    have c := getD_in p0 (clr_in p0 rs hin) z.1
    exact h0 (this.zero_of c.1 c.2)
  refine ⟨kP, ⟨⟨fun z h => ?_, fun z h => ?_, ?_⟩, fun z h => ?_, _, St, ?_⟩⟩
  · rcases List.mem_append.mp h with h | h
    · exact S.T.ok z h
    · rw [List.mem_singleton.mp h]
      refine ⟨hk, ?_, fun x hx => ?_⟩
      · show (mulL p u (clr p rs row)).length = wd
        unfold mulL
        rw [List.length_map, clr_len]
        exact hl
      · obtain ⟨y, _, rfl⟩ := List.mem_map.mp hx
        exact mod_b p0
  · rcases List.mem_append.mp h with h | h
    · exact S.T.one z h
    · rw [List.mem_singleton.mp h]
      exact (mulL_vec k).trans hu
  · rw [List.pairwise_append]
    refine ⟨S.T.tri, List.pairwise_singleton _ _, fun y hy z hz2 => ?_⟩
    rw [List.mem_singleton.mp hz2]
    have := (Cg.refl (p := p) u).mul (b y hy)
    rw [Int.mul_zero] at this
    exact (mulL_vec y.1).trans this
  · rcases List.mem_append.mp h with h | h
    · exact span_more (S.room z h)
    · rw [List.mem_singleton.mp h]
      have hr : Spn p (fun v => ∃ l ∈ rows ++ [row], v = vec l) (vec (clr p rs row)) := .plus (-1) (.row ⟨row, by simp, rfl⟩) (span_more a) fun x => .of_eq (by omega)
      exact .plus u (.zero (v := fun _ => 0) fun _ => .refl 0) hr fun x => (mulL_vec x).trans (.of_eq (by omega))
  · rw [putIn_keys, hkk, List.map_append]
    rfl
end
/-- how many there are is the rank -/
theorem IsLad.len {p : Int} {wd : Nat} {rows lad : List (List Int)} {rs' : RG} (A : IsLad p wd rows lad) (S' : St1 p wd rs' rows) (p2 : 2 ≤ p) : lad.length = rs'.length := by
  obtain ⟨rs, ys, S, hp, hu, rfl⟩ := A
  obtain ⟨k1, _⟩ := S.only S' p2 fun v => Iff.rfl
  have h1 := ((List.perm_ext_iff_of_nodup S.lad.nd S'.lad.nd).mpr k1).length_eq
  rw [List.length_map, List.length_map] at h1
  rw [List.length_map, hp.length_eq]
  unfold keysI
  rw [List.length_map]
  exact h1
theorem St2.len {p : Int} {wd : Nat} {rs : RG} {rows lad : List (List Int)} (S : St2 p wd rs rows) (p2 : 2 ≤ p) (A : IsLad p wd rows lad) : lad.length = rs.length := by
  obtain ⟨rs', S', hk⟩ := S.twin
  have := congrArg List.length hk
  rw [List.length_map, List.length_map] at this
  rw [A.len S' p2, this]
end S4

namespace S4
open PySem L2 TT MM
section
variable {K : PySem.W.Frag}
theorem kit_tl : PySem.W.kitOne K (.type "tuple") (.type "list") = some false := kit_ty (by decide +kernel)
theorem kitB_l : PySem.W.kitAny K (.type "list") [.type "list", .type "tuple"] = some true := by unfold PySem.W.kitAny; rw [kit_ll]
theorem kitB_t : PySem.W.kitAny K (.type "tuple") [.type "list", .type "tuple"] = some true := by
  unfold PySem.W.kitAny
  rw [kit_tl]
  show PySem.W.kitAny K (.type "tuple") [.type "tuple"] = some true
  unfold PySem.W.kitAny
  rw [kit_tt]
end
theorem NoDiv.prm {p : Int} (h : NoDiv p) : Prm p := ⟨h.1, h.2.2⟩
section
variable {P : Program} {w : World} {K : PySem.W.Frag} {mg : Str → Option Value} {base : Heap} {cT cS : Addr}
def spEach (K : PySem.W.Frag) : Sp := fun vs H Q _ => ∃ (a : Addr) (p : Int) (wd : Nat) (xs : List V) (rws : List (List Int)), vs = [.int p, .int (wd : Int), .ref a] ∧ SqS K H a xs ∧ Paired (rRow H) xs rws ∧ wd ≤ 1000 ∧ (∀ r ∈ rws, isRow r p wd) ∧ ∀ H', Same H H' → Q .non H'
theorem ok_each (T : Tx K mg cT cS) {f : Addr} {fd : FuncData} (d : D K mg "check_each" s_check_each ["p", "wide", "rows"] f fd) : FnOk P w K mg base CX0 4 f fd ["p", "wide", "rows"] (spEach K) := by
  obtain ⟨f1, fd1, d1⟩ := T.d_is_row
  have G1 : FnOk P w K mg base CX0 3 f1 fd1 ["thing", "p", "wide"] spIsRow := ok_is_row T d1
  refine d.F.ok sc_check_each (fun vs H Q E h => ?_) (fun cdv A outer s H vs Q E hr h => ?_)
  · obtain ⟨a, p, wd, xs, rws, rfl, _⟩ := h
    rfl
  · obtain ⟨a, p, wd, xs, rws, rfl, hS, hp, hwd, hrw, q⟩ := h
    refine ⟨_, pss_one (ps_for PassesOwn.never rfl (pi_or (pi_enum (by rfl) T.b_enumerate (pa_cons (pv 2) pa_nil)) (pi_enumT (by rfl) T.b_enumerate (pa_cons (pv 2) pa_nil))) (pg_tup rfl (pgs_cons (pg_name (i := 3) sc_check_each.nd rfl (.inl rfl)) (pgs_cons (pg_name (i := 4) sc_check_each.nd rfl (.inl rfl)) pgs_nil)))
        (pss_one (ps_if (pt_not (pt_val (pe_call G1 hr rfl d1.m d1.F.kp d1.b .nil pass0 (pa_cons (pv 4) (pa_cons (pv 0) (pa_cons (pv 1) pa_nil)))))) pss_never pss_nil))), ?_⟩
    apply twice
    · intro hs
      apply twice
      · intro hd
        rcases hS with h | h
        · exact .inl ⟨_, rfl, a, xs, rfl, .of h, for_it (walk_enum (xs := xs)) (fun i σ H' => Same H H' ∧ ∃ x3 x4, σ = [some (.int p), some (.int (wd : Int)), some (.ref a), x3, x4]) ⟨.refl _, none, none, rfl⟩ (fun i σ H' _ q => .of (q.1 _ _ h)) hs hd⟩
        · exact .inr ⟨_, rfl, a, xs, rfl, .of h, for_it (walk_enumT (xs := xs)) (fun i σ H' => Same H H' ∧ ∃ x3 x4, σ = [some (.int p), some (.int (wd : Int)), some (.ref a), x3, x4]) ⟨.refl _, none, none, rfl⟩ (fun i σ H' _ q => .of (q.1 _ _ h)) hs hd⟩
      · rintro σ H2 ⟨s2, x3, x4, rfl⟩
        exact q _ s2
    · rintro i x σ H2 H3 hi ⟨s2, x3, x4, rfl⟩ ⟨tz, u1, u2, rfl, nz, rfl, e1, e2⟩
      cases (Option.some.inj e1)
      have s3 := same_new (o := .tup [V.int (i : Nat), u2]) nz
      obtain ⟨row, hrow, hrr⟩ := paired_get (paired_mono mono_row (s2.trans s3).keep hp) e2
      have hir := hrw row (List.mem_of_getElem? hrow)
      refine ⟨tz, _, rfl, .of upd_same, rfl, _, _, rfl, _, _, rfl, rfl, ?_⟩
      refine ⟨_, rfl, _, rfl, _, rfl, u2, row, p, wd, rfl, hrr, by have := hir.1; omega, hir, fun H4 s4 => ⟨_, rfl, iteF ⟨(s2.trans s3).trans s4, _, _, rfl⟩⟩⟩
def spClk : Sp := fun vs H Q _ => ∃ (n : Int), vs = [.int n] ∧ NoDiv n ∧ Q .non H
theorem ok_check_clock (T : Tx K mg cT cS) {f : Addr} {fd : FuncData} (d : D K mg "check_clock" s_check_clock ["p"] f fd) : FnOk P w K mg base CX0 3 f fd ["p"] spClk := by
  obtain ⟨f1, fd1, d1⟩ := T.d_is_clock
  have G1 : FnOk P w K mg base CX0 2 f1 fd1 ["thing"] spIsClock := ok_is_clock T d1
  refine d.F.ok sc_check_clock (fun vs H Q E h => ?_) (fun cdv A outer s H vs Q E hr h => ?_)
  · obtain ⟨n, rfl, _⟩ := h
    rfl
  · obtain ⟨n, rfl, nd, q⟩ := h
    exact ⟨_, pss_one (ps_if (pt_not (pt_val (pe_call G1 hr rfl d1.m d1.F.kp d1.b .nil pass0 (pa_cons (pv 0) pa_nil)))) pss_never pss_nil), ⟨_, rfl, n, rfl, nd, _, rfl, iteF q⟩⟩
def spRowsC (K : PySem.W.Frag) : Sp := fun vs H Q _ => ∃ (a : Addr) (p : Int) (wd : Nat) (xs : List V) (rws : List (List Int)), vs = [.int p, .int (wd : Int), .ref a] ∧ SqS K H a xs ∧ Paired (rRow H) xs rws ∧ rws.length ≤ 200 ∧ NoDiv p ∧ wd ≤ 200 ∧ (∀ r ∈ rws, isRow r p wd) ∧ ∀ H', Same H H' → Q .non H'
theorem ok_check_rows (T : Tx K mg cT cS) {f : Addr} {fd : FuncData} (d : D K mg "check_rows" s_check_rows ["p", "wide", "rows"] f fd) : FnOk P w K mg base CX0 5 f fd ["p", "wide", "rows"] (spRowsC K) := by
  obtain ⟨f1, fd1, d1⟩ := T.d_check_clock
  have G1 : FnOk P w K mg base CX0 3 f1 fd1 ["p"] spClk := ok_check_clock T d1
  obtain ⟨f2, fd2, d2⟩ := T.d_is_below
  have G2 : FnOk P w K mg base CX0 2 f2 fd2 ["thing", "end"] spIsBelow := ok_is_below T d2
  obtain ⟨f3, fd3, d3⟩ := T.d_check_each
  have G3 : FnOk P w K mg base CX0 4 f3 fd3 ["p", "wide", "rows"] (spEach K) := ok_each T d3
  obtain ⟨k1, hM1⟩ := T.c_MOST_WIDE
  obtain ⟨k2, hM2⟩ := T.c_MOST_ROWS
  refine d.F.ok sc_check_rows (fun vs H Q E h => ?_) (fun cdv A outer s H vs Q E hr h => ?_)
  · obtain ⟨a, p, wd, xs, rws, rfl, _⟩ := h
    rfl
  · obtain ⟨a, p, wd, xs, rws, rfl, hS, hp, hl, nd, hwd, hrw, q⟩ := h
    have hlen := paired_len hp
    refine ⟨_, pss_cons (ps_expr (pe_call G1 (hr.mono (by decide)) rfl d1.m d1.F.kp d1.b .nil pass0 (pa_cons (pv 0) pa_nil)))
      (pss_cons (ps_if (pt_not (pt_val (pe_call G2 (hr.mono (by decide)) rfl d2.m d2.F.kp d2.b .nil pass0 (pa_cons (pv 1) (pa_cons (pe_op op_add (pe_glob (v := .int 200) rfl hM1 ⟨_, rfl⟩) pe_int) pa_nil))))) pss_never pss_nil)
      (pss_cons (ps_if (PW.pt (pw_or (pt_not (pt_val (pe_callB call_isiT (by rfl) T.b_isinstance (by decide +kernel) (pa_cons (pv 2) (pa_cons (pe_tup (pa_cons (ty_list T.b_list) (pa_cons (ty_tuple T.b_tuple) pa_nil))) pa_nil)))))
        (pw_or1 (pt_cmpR op_gt (pe_callB call_len_seq (by rfl) T.b_len PySem.boot_len (pa_cons (pv 2) pa_nil)) (pe_glob (v := .int 200) rfl hM2 ⟨_, rfl⟩) (nomark _))))) pss_never pss_nil)
      (pss_one (ps_expr (pe_call G3 hr rfl d3.m d3.F.kp d3.b .nil pass0 (pa_cons (pv 0) (pa_cons (pv 1) (pa_cons (pv 2) pa_nil)))))))), ?_⟩
    refine ⟨_, rfl, p, rfl, nd, ?_⟩
    refine ⟨_, rfl, _, _, rfl, rfl, _, _, rfl, ?_⟩
    rw [decide_eq_true ⟨by omega, by omega⟩]
    refine ⟨_, rfl, iteF ?_⟩
    refine ⟨_, rfl, by show 2 ≤ sizeLine; decide, fun tt ntt => ?_⟩
    have s1 := same_new (o := .tup [V.ty "list", V.ty "tuple"]) ntt
    have hS1 := hS.same s1
    have rest : ∀ (G : Prop), (¬ ((200 : Int) < ((xs.length : Nat) : Int)) → G) → G := fun G h => h (by omega)
    rcases hS1 with h | h
    · refine ⟨_, tt, _, _, _, _, rfl, upd_same, .cons (.ty _) (.cons (.ty _) .nil), .base (.lst h), kitB_l, _, rfl, iteF ⟨_, rfl, _, _, rfl, .inl (.of h), _, _, rfl, rfl, _, rfl, ?_⟩⟩
      rw [decide_eq_false (by omega)]
      exact iteF ⟨_, rfl, _, rfl, _, rfl, a, p, wd, xs, rws, rfl, .inl h, paired_mono mono_row s1.keep hp, by omega, hrw, fun H' s' => q _ (s1.trans s')⟩
    · refine ⟨_, tt, _, _, _, _, rfl, upd_same, .cons (.ty _) (.cons (.ty _) .nil), .base (.tup h), kitB_t, _, rfl, iteF ⟨_, rfl, _, _, rfl, .inr (.of h), _, _, rfl, rfl, _, rfl, ?_⟩⟩
      rw [decide_eq_false (by omega)]
      exact iteF ⟨_, rfl, _, rfl, _, rfl, a, p, wd, xs, rws, rfl, .inr h, paired_mono mono_row s1.keep hp, by omega, hrw, fun H' s' => q _ (s1.trans s')⟩
end
end S4

/-! zip of two, each a list or a tuple -/
namespace TT
open PySem PySem.Spec PyProof.Rows L2
def SqK : Bool → PySem.W.Frag → Hp → Addr → List V → Prop
  | true, K, H, a, xs => SqL K H a xs
  | false, K, H, a, xs => SqT K H a xs
def ItO : Bool → Heap → Addr → Addr → Nat → Prop
  | true, h, it, a, i => h.IsListIter it a i
  | false, h, it, a, i => h.IsTupleIter it a i
def SeO : Bool → Heap → Addr → Array Value → Prop
  | true, h, a, xs => h.IsList a xs
  | false, h, a, xs => h.IsTuple a xs
theorem ItO.obj {b : Bool} {h : Heap} {it a : Addr} {i : Nat} (x : ItO b h it a i) : ∃ o, h.get? it = some o ∧ ∀ v, o.data ≠ .cell v := by
  cases b <;> (obtain ⟨o, e, _, d⟩ := x; exact ⟨o, e, fun v q => by rw [d] at q; cases q⟩)
theorem ItO.at {b : Bool} {h h' : Heap} {it a : Addr} {i : Nat} (x : ItO b h it a i) (k : ∀ o, h.get? it = some o → h'.get? it = some o) : ItO b h' it a i := by
  cases b
  · exact Heap.IsTupleIter.at (show h.IsTupleIter it a i from x) k
  · exact Heap.IsListIter.at (show h.IsListIter it a i from x) k
theorem drawsK {prog : Program} {w : World} {A : Around} (hh : A.handled = none) (b : Bool) (it a : Addr) (hne : a ≠ it) (items : Array Value) :
    Draws prog w A it [it, a] items.size (fun i v => items[i]? = some v) (fun i h => ItO b h it a i ∧ SeO b h a items) := by
  cases b
  · exact Draws.tuple hh it a hne items
  · exact Draws.list hh it a hne items
section
variable {X : Cx} {pins : List (Addr × Obj)} {σ : L2.St} {H : Hp} {s : Shared} {a : Addr} {xs ys : List V} {b : Bool}
theorem seqK (I : L2.Inv X pins σ H s) (h : SqK b X.K H a xs) : ∃ its : List Value, L2.Vals xs its ∧ SeO b s.heap a its.toArray ∧ a < s.heap.objs.size := by
  cases b
  · obtain ⟨its, r, p, _⟩ := I.tuple h
    exact ⟨its, r, p, p.lt⟩
  · obtain ⟨its, r, p, _⟩ := I.list h
    exact ⟨its, r, p.isList, p.lt⟩
theorem injK (I : L2.Inv X pins σ H s) (h : SqK b X.K H a xs) (h' : SqK b X.K H a ys) : xs = ys := by
  cases b
  · exact I.tuple_inj h h'
  · exact I.list_inj h h'
end
def ItzM (b1 b2 : Bool) (K : PySem.W.Frag) (a b : Addr) : It :=
  ⟨fun i H => ∃ (xs ys : List V) (x y : V), SqK b1 K H a xs ∧ SqK b2 K H b ys ∧ xs[i]? = some x ∧ ys[i]? = some y,
    fun i H v H' => ∃ T x y, v = .ref T ∧ H T = none ∧ H' = upd H T (.tup [x, y]) ∧ (∀ xs, SqK b1 K H a xs → xs[i]? = some x) ∧ ∀ ys, SqK b2 K H b ys → ys[i]? = some y,
    fun i H => ∃ xs ys : List V, SqK b1 K H a xs ∧ SqK b2 K H b ys ∧ i = min xs.length ys.length⟩
theorem turn_zipM {P : Program} {w : World} {K : PySem.W.Frag} {elts : List Expr} {kk : Nat} {tpos : Pos} {b1 b2 : Bool} {a b z TI TO i1 i2 : Addr} (D : ZipSep2 z TI TO i1 i2 [i1, a] [i2, b]) (ha : a ≠ i1) (hb : b ≠ i2) :
    Turn P w K (.Tuple elts kk tpos) (ItzM b1 b2 K a b) [z, TI, TO, i1, i2] z (fun i h => IsZip h z TI TO .none ∧ IsTupOf2 h TI (.ref i1) (.ref i2) ∧ (∃ x y, IsTupOf2 h TO x y) ∧ ItO b1 h i1 a i ∧ ItO b2 h i2 b i) where
  mem := by simp
  obj := fun i h st c hc => by
    obtain ⟨hz, hTI, ⟨x, y, hTO⟩, h1, h2⟩ := st
    have e' : c = z ∨ c = TI ∨ c = TO ∨ c = i1 ∨ c = i2 := by simpa using hc
    rcases e' with q | q | q | q | q
    · rw [q]; exact ⟨_, hz, fun v q => nomatch q⟩
    · rw [q]; exact ⟨_, hTI, fun v q => nomatch q⟩
    · rw [q]; exact ⟨_, hTO, fun v q => nomatch q⟩
    · rw [q]; exact h1.obj
    · rw [q]; exact h2.obj
  keep := fun i h h' st k => by
    obtain ⟨hz, hTI, ⟨x, y, hTO⟩, h1, h2⟩ := st
    exact ⟨k z (by simp) _ hz, k TI (by simp) _ hTI, ⟨x, y, k TO (by simp) _ hTO⟩, h1.at fun o q => k i1 (by simp) o q, h2.at fun o q => k i2 (by simp) o q⟩
  item := by
    intro X hP hw hK hc i pins s σ H E I hf st hg
    subst hP hw hK
    obtain ⟨hz, hTI, ⟨x0, y0, hTO⟩, h1, h2⟩ := st
    obtain ⟨xs, ys, x, y, hqx, hqy, hx, hy⟩ := hg
    obtain ⟨its, rv, p, _⟩ := seqK I hqx
    obtain ⟨its2, rv2, p2, _⟩ := seqK I hqy
    obtain ⟨u, hu, ru⟩ := rv.get hx
    obtain ⟨u2, hu2, ru2⟩ := rv2.get hy
    have hzl : z < s.heap.objs.size := Heap.lt_size hz
    have lt1 : i < its.toArray.size := by rw [List.size_toArray]; exact (List.getElem?_eq_some_iff.mp hu).1
    have lt2 : i < its2.toArray.size := by rw [List.size_toArray]; exact (List.getElem?_eq_some_iff.mp hu2).1
    refine wpAny_pyNext_zipD2_item D (drawsK (A := X.A.in1) (I.ok.hd hc) b1 i1 a ha its.toArray) (drawsK (A := X.A.in1) (I.ok.hd hc) b2 i2 b hb its2.toArray) hz hTI hTO ⟨h1, p⟩ ⟨h2, p2⟩ lt1 lt2 fun v1 v2 h' tk g1 g2 z' TO' d1 d2 hT hsz hk => ?_
    have e1 : v1 = u := by
      have q : its.toArray[i]? = some v1 := g1
      rw [show its.toArray[i]? = its[i]? by simp, hu] at q
      exact (Option.some.inj q).symm
    have e2 : v2 = u2 := by
      have q : its2.toArray[i]? = some v2 := g2
      rw [show its2.toArray[i]? = its2[i]? by simp, hu2] at q
      exact (Option.some.inj q).symm
    subst e1 e2
    refine ⟨_, rfl, wpAny_letOwnedTupleGo_zip (s := { s with heap := h', toks := tk }) z' fun h'' z'' sb => ?_⟩
    have hT2 : h''.get? s.heap.objs.size = some { cls := .type "tuple", data := .seq #[v1, v2] } := (sb.2 _ (Nat.ne_of_gt hzl)).trans hT
    have new : ObjOk X.prog X.w (upd H s.heap.objs.size (.tup [x, y])) h'' s.heap.objs.size (.tup [x, y]) :=
      ⟨by show 2 ≤ sizeLine; decide, [v1, v2], .cons ru (.cons ru2 .nil), ⟨_, hT2, rfl, _, rfl⟩⟩
    have I1 : L2.Inv X pins σ (upd H s.heap.objs.size (.tup [x, y])) { s with heap := h'', toks := tk } :=
      I.turnedNew (t' := tk) (ch := [z, TI, TO, i1, i2]) (fun c o hb q => (sb.2 c (fun q' => hb (by simp [q']))).trans (hk c o (fun q' => hb (by simp [q'])) (fun q' => hb (by simp [q'])) (fun q' => hb (by simp [q'])) (fun q' => hb (by simp [q'])) q)) hf (Nat.le_refl _) new
    refine ⟨.ref s.heap.objs.size, _, I1, rfl, ⟨_, x, y, rfl, I.hok.fresh (Nat.le_refl _), rfl, fun l hl => by rw [injK I hl hqx]; exact hx, fun l hl => by rw [injK I hl hqy]; exact hy⟩, ⟨z'', ?_, ⟨v1, v2, ?_⟩, ?_, ?_⟩, fun c hcm => ?_⟩
    · exact (sb.2 _ D.TIz).trans (hk _ _ D.TIz D.TITO D.TIi1 D.TIi2 hTI)
    · exact (sb.2 _ D.TOz).trans TO'
    · exact d1.1.at fun o q => (sb.2 _ D.zi1.symm).trans q
    · exact d2.1.at fun o q => (sb.2 _ D.zi2.symm).trans q
    · have hlt : c < s.heap.objs.size := by
        have e' : c = z ∨ c = TI ∨ c = TO ∨ c = i1 ∨ c = i2 := by simpa using hcm
        rcases e' with q | q | q | q | q
        · rw [q]; exact hzl
        · rw [q]; exact Heap.lt_size hTI
        · rw [q]; exact Heap.lt_size hTO
        · rw [q]; obtain ⟨_, e1, _⟩ := h1.obj; exact Heap.lt_size e1
        · rw [q]; obtain ⟨_, e2, _⟩ := h2.obj; exact Heap.lt_size e2
      rw [upd_ne (Nat.ne_of_lt hlt)]
      exact (hf c hcm).1
  done := by
    intro X hP hw hK hc i pins s σ H E I hf st hg
    subst hP hw hK
    obtain ⟨hz, hTI, ⟨x0, y0, hTO⟩, h1, h2⟩ := st
    obtain ⟨xs, ys, hqx, hqy, hend⟩ := hg
    obtain ⟨its, rv, p, _⟩ := seqK I hqx
    obtain ⟨its2, rv2, p2, _⟩ := seqK I hqy
    have l1 := rv.length
    have l2 := rv2.length
    exact wpAny_pyNext_zipD2_end D (drawsK (A := X.A.in1) (I.ok.hd hc) b1 i1 a ha its.toArray) (drawsK (A := X.A.in1) (I.ok.hd hc) b2 i2 b hb its2.toArray) hz hTI hTO ⟨h1, p⟩ ⟨h2, p2⟩ (by rw [List.size_toArray]; omega) (by rw [List.size_toArray]; omega) (by rw [List.size_toArray, List.size_toArray]; omega)
      fun h' tk hk => ⟨rfl, I.turnedL (t' := tk) (ch := [z, TI, TO, i1, i2]) (fun c o hb q => hk c o (fun q' => hb (by simp [q'])) (fun q' => hb (by simp [q'])) (fun q' => hb (by simp [q'])) (fun q' => hb (by simp [q'])) q) hf⟩
  self := fun A i s Q E st h => wpAny_pyIter_zip st.1 h
def itObj (b : Bool) (a : Addr) : Obj := match b with
  | true => { cls := .type "list_iterator", data := .fields #[.ref a, .int 0 0] }
  | false => { cls := .type "tuple_iterator", data := .fields #[.ref a, .int 0 0] }
theorem beginsK (b : Bool) (a : Addr) (items : Array Value) : Begins (.ref a) (itObj b a) fun h => SeO b h a items := by
  cases b
  · exact begins_tuple a items
  · exact begins_list a items
theorem itK {b : Bool} {h : Heap} {it a : Addr} (e : h.get? it = some (itObj b a)) : ItO b h it a 0 := by
  cases b
  · exact ⟨_, e, rfl, rfl⟩
  · exact ⟨_, e, rfl, rfl⟩
def iZipM (K : PySem.W.Frag) (ta : TA) : TI := fun σ H R => ta σ H fun vs H1 => ∃ a b xs ys b1 b2, vs = [.ref a, .ref b] ∧ SqK b1 K H1 a xs ∧ SqK b2 K H1 b ys ∧ R (ItzM b1 b2 K a b) H1
theorem pi_zipM {X : Cx} {e e2 : Expr} {ta : TA} {p pos tpos : Pos} {elts : List Expr} {kk : Nat} (hg : Gl X "zip") (hm : X.mg "zip" = none) (ha : PA X [e, e2] ta)
    (hs : starEach [e, e2] X.env = (false, eval e X.env) :: starEach [e2] X.env := by rfl) (hpl : (backTo pos (starEach [e2] X.env)).any (·.1) = false := by rfl) :
    PI X (.Tuple elts kk tpos) (.Call (.Name "zip" p) [e, e2] [] pos) (iZipM X.K ta) := by
  refine ⟨fun pins s σ H R I h => ?_⟩
  refine Call_ (ld_blt I hg hm PyProof.Rows.boot_zip (PyProof.Rows.callWith_type1 (thn (ha.run pos pins s σ H _ I h) fun us s1 ⟨vs, H1, I1, r1, q1⟩ => ?_) hs hpl))
  obtain ⟨a, b, xs, ys, b1, b2, ex, hqx, hqy, q⟩ := q1
  subst ex
  cases r1 with
  | cons r rr =>
    cases rr with
    | cons r' rr =>
      cases rr
      cases r
      cases r'
      have fresh5 : ∀ c, c ∈ [s1.heap.objs.size + 4, s1.heap.objs.size + 2, s1.heap.objs.size + 3, s1.heap.objs.size, s1.heap.objs.size + 1] → FpOk X pins H1 c := fun c hcm => by
        have e' : c = s1.heap.objs.size + 4 ∨ c = s1.heap.objs.size + 2 ∨ c = s1.heap.objs.size + 3 ∨ c = s1.heap.objs.size ∨ c = s1.heap.objs.size + 1 := by simpa using hcm
        have hle : s1.heap.objs.size ≤ c := by
          rcases e' with z | z | z | z | z
          · rw [z]; exact Nat.le_add_right _ _
          · rw [z]; exact Nat.le_add_right _ _
          · rw [z]; exact Nat.le_add_right _ _
          · rw [z]; exact Nat.le_refl _
          · rw [z]; exact Nat.le_add_right _ _
        exact I1.fpOk hle (I1.hok.fresh hle)
      obtain ⟨its, rv, p1, l1⟩ := seqK I1 hqx
      obtain ⟨its2, rv2, p2, l2⟩ := seqK I1 hqy
      refine zip_begins2 (beginsK b1 a its.toArray) (beginsK b2 b its2.toArray) p1 p2 fun h' hz hTI hTO h1 h2 hsz hk => wpAny_pyIter_zip hz ?_
      have I2 : L2.Inv X pins σ H1 { s1 with heap := h' } := I1.kept (t' := s1.toks) hk
      exact ⟨s1.heap.objs.size + 4, [s1.heap.objs.size + 4, s1.heap.objs.size + 2, s1.heap.objs.size + 3, s1.heap.objs.size, s1.heap.objs.size + 1], _, _, H1, rfl, I2,
        turn_zipM (zip_sep2 (fun c hc => by rw [List.mem_singleton.mp hc]; exact l1) (fun c hc => by rw [List.mem_singleton.mp hc]; exact l2)) (Nat.ne_of_lt l1) (Nat.ne_of_lt (Nat.lt_succ_of_lt l2)), ⟨hz, hTI, ⟨_, _, hTO⟩, itK h1, itK h2⟩, fresh5, q⟩
theorem walk_zipM {K : PySem.W.Frag} {a b : Addr} {b1 b2 : Bool} {xs ys : List V} {n : Nat} (hn : n = min xs.length ys.length) : Walk (ItzM b1 b2 K a b) n (fun H => SqK b1 K H a xs ∧ SqK b2 K H b ys) (YPair (fun i => xs[i]?) (fun i => ys[i]?)) := by
  subst hn
  refine ⟨fun i _ hi q => ?_, fun _ q => ⟨xs, ys, q.1, q.2, rfl⟩, fun i H v H' _ q y => ?_⟩
  · have h1 : i < xs.length := by omega
    have h2 : i < ys.length := by omega
    exact ⟨xs, ys, xs[i], ys[i], q.1, q.2, by simp [h1], by simp [h2]⟩
  · obtain ⟨T, x, z, h1, h2, h3, h4, h5⟩ := y
    exact ⟨T, x, z, h1, h2, h3, h4 xs q.1, h5 ys q.2⟩
end TT

/-! any(t), t a tuple of ints -/
namespace TT
open PySem PySem.Spec PyProof.Rows L2
def rAnyTI (K : PySem.W.Frag) : List V → Hp → VK → Prop := fun vs H Q => ∃ (a : Addr) (ns : List Int), vs = [V.ref a] ∧ SqT K H a (ns.map V.int) ∧ Q (.bl (ns.any fun n => n != 0)) H
theorem truth_ints {prog : Program} {w : World} {A : Around} {ns : List Int} {its : List Value} (h : Vals (ns.map V.int) its) : TruthOf prog w A (fun i v => its.toArray[i]? = some v) fun i => ns.getD i 0 != 0 := by
  intro i v s Q E hi q
  have hi : its[i]? = some v := by simpa using hi
  have hl := h.length
  rw [List.length_map] at hl
  have hlt := (List.getElem?_eq_some_iff.mp hi).1
  have hn : ns[i]? = some (ns[i]'(by omega)) := List.getElem?_eq_getElem _
  obtain ⟨u, hu, ru⟩ := h.get (show (ns.map V.int)[i]? = some (V.int (ns[i]'(by omega))) by rw [List.getElem?_map, hn]; rfl)
  rw [hi] at hu
  cases (Option.some.inj hu)
  obtain ⟨t, e⟩ := ru
  rw [e]
  refine PyProof.Rows.truthy_int ?_
  have : ns.getD i 0 = ns[i]'(by omega) := by rw [List.getD_eq_getElem?_getD, hn]; rfl
  simp only [this] at q
  exact q
theorem any_rangeI (ns : List Int) : ((List.range ns.length).any fun i => ns.getD i 0 != 0) = ns.any fun n => n != 0 := by
  rw [Bool.eq_iff_iff, List.any_eq_true, List.any_eq_true]
  constructor
  · rintro ⟨i, hi, h⟩
    have hi := List.mem_range.mp hi
    have e : ns.getD i 0 = ns[i]'hi := by rw [List.getD_eq_getElem?_getD, List.getElem?_eq_getElem hi]; rfl
    exact ⟨_, List.getElem_mem hi, by rw [← e]; exact h⟩
  · rintro ⟨x, hx, h⟩
    obtain ⟨i, hi, rfl⟩ := List.getElem_of_mem hx
    refine ⟨i, List.mem_range.mpr hi, ?_⟩
    have e : ns.getD i 0 = ns[i]'hi := by rw [List.getD_eq_getElem?_getD, List.getElem?_eq_getElem hi]; rfl
    rw [e]
    exact h
theorem cr_anyTI {X : Cx} (hc : X.calm = true) : CallR X (.builtin "any") (rAnyTI X.K) := by
  intro pins s σ H vs us Q I r h
  obtain ⟨a, ns, rfl, hs, q⟩ := h
  obtain ⟨its, rv, hl, _⟩ := I.tuple hs
  rw [Vals.ref1 r]
  obtain ⟨o, ho, hcl, n, hd⟩ := id hl
  have hlt := Heap.lt_size ho
  have hlen := rv.length
  rw [List.length_map] at hlen
  refine call_any_walk (iter_tuple hl ⟨s.heap.objs.size, [s.heap.objs.size, a], [s.heap.objs.size], its.toArray.size, _, _, _, rfl, Walks.tuple (prog := X.prog) (w := X.w) (A := X.A.in1) (I.ok.hd hc) s.heap.objs.size a (Nat.ne_of_lt hlt) its.toArray,
    ⟨⟨{ cls := .type "tuple_iterator", data := .fields #[.ref a, .int 0 0] }, by simp [Heap.get?, Heap.push], rfl, rfl⟩, ⟨o, Heap.get?_push_of_some _ ho, hcl, n, hd⟩⟩, truth_ints rv, fun h' tk hk => ?_⟩)
  rw [List.size_toArray, ← hlen, any_rangeI]
  refine ⟨.bl _, H, I.kept fun b o eo => hk b o (fun hm => absurd (Heap.lt_size eo) (by rw [List.mem_singleton.mp hm]; exact Nat.lt_irrefl _)) (Heap.get?_push_of_some _ eo), rfl, q⟩
theorem anyTIK {X : Cx} {K : PySem.W.Frag} (h : X.K = K) (hc : X.calm = true) : CallR X (.builtin "any") (rAnyTI K) := h ▸ cr_anyTI hc
end TT
namespace S4
open PySem L2 TT
theorem catK {X : Cx} {K : PySem.W.Frag} (h : X.K = K) : OpR X (binaryOp .Add) (rCatA K) := h ▸ op_catA
theorem repK {X : Cx} {K : PySem.W.Frag} (h : X.K = K) : OpR X (binaryOp .Mult) (rRepA K) := h ▸ op_repA
theorem slK {X : Cx} {K : PySem.W.Frag} (h : X.K = K) : SlR X (rSlA K) := h ▸ sl_tupA
end S4

/-! any(a), a a list of ints -/
namespace TT
open PySem PySem.Spec PyProof.Rows L2
def rAnyLI (K : PySem.W.Frag) : List V → Hp → VK → Prop := fun vs H Q => ∃ (a : Addr) (ns : List Int), vs = [V.ref a] ∧ SqL K H a (ns.map V.int) ∧ Q (.bl (ns.any fun n => n != 0)) H
theorem cr_anyLI {X : Cx} (hc : X.calm = true) : CallR X (.builtin "any") (rAnyLI X.K) := by
  intro pins s σ H vs us Q I r h
  obtain ⟨a, ns, rfl, hs, q⟩ := h
  obtain ⟨its, rv, hl, _⟩ := I.list hs
  rw [Vals.ref1 r]
  have hlen := rv.length
  rw [List.length_map] at hlen
  refine call_any_walk (iter_any hl.isList fun s₂ e2 st hne => ?_)
  subst e2
  refine ⟨_, _, _, _, _, _, _, rfl, Walks.list (A := X.A.in1) (I.ok.hd hc) _ a hne its.toArray, st, truth_ints rv, fun h' tk hk => ?_⟩
  refine ⟨.bl _, H, I.kept fun b o eo => hk b o (fun hmem => ?_) (Heap.get?_push_of_some _ eo), ?_, q⟩
  · rcases List.mem_cons.mp hmem with e1 | hmem
    · exact absurd (e1 ▸ Heap.lt_size eo) (Nat.lt_irrefl _)
    · cases hmem
  · show Value.bool _ = Value.bool _
    rw [← any_rangeI, List.size_toArray, hlen]
theorem anyLIK {X : Cx} {K : PySem.W.Frag} (h : X.K = K) (hc : X.calm = true) : CallR X (.builtin "any") (rAnyLI K) := h ▸ cr_anyLI hc
theorem anyLK {X : Cx} {K : PySem.W.Frag} (h : X.K = K) (hc : X.calm = true) : CallR X (.builtin "any") (rAny K) := h ▸ cr_any hc
theorem piLK {X : Cx} {K : PySem.W.Frag} {tg l : Expr} {tl : TE} (hh : X.K = K) (hl : PI X tg l (iList X.K tl)) : PI X tg l (iList K tl) := hh ▸ hl
end TT

/-! rules of exceptions and own == that the library lacks -/
namespace EE
open PySem PySem.Spec PyProof.Rows L2
section
variable {X : Cx} {C : Addr} {bmB : List Value} {B newId initId : String}
/-- X() -/
theorem pmk_own0 {x : Str} {p pos : Pos} (F : ExcBaseFacts B newId initId bmB) (q : PySem.W.excIn X.K C bmB newId = true) (gC : X.mg x = some (.ref C)) (kC : PySem.W.keepIn X.K (.ref C) = true) (r : Raises X (.ref C)) (hg : Gl X x)
    (hdb : (x == ("__debug__" : Str)) = false := by decide) : PMk X (.Call (.Name x p) [] [] pos) (fun _ H Q => Q (.ref C) none H) := by
  intro pins s σ H Q I h
  refine wpAny_Call_Name_kw (ld_glob I hg gC ?_ hdb)
  obtain ⟨bm, N, nm, qn, bs, hdct, sn, sub, ab, col, dd, k0, k1, k2, k3, k5, mN, hC, hN, hni, T⟩ := exc_obj I.kIn q
  refine PySem.W.callWith_K0 I.kIn kC ?_
  refine wpAny_call_exc_subT F T hC hN hni (fun h' e hm => ?_) (Nat.zero_le _)
  exact mk_of I hm r h (I.hok.gone hm.new)
end
/-! ### isinstance of a caught error, whatever its own dict -/
end EE
namespace PySem.W
open PySem PySem.Spec PySem.Calls PyProof.Rows
section
variable {prog : Program} {w : World} {A : Around} {E : Value → Shared → Prop} {s : Shared} {K : Frag} {x D : Addr} {ox : Obj} {od : Option Obj}
theorem findObj_dataG {C : Addr} {name : Str} {a g : Value} (hc : (clsIn K C).isSome = true) (ha : findIn K (.ref C) name = some (some a)) (hg : specialIn K a "__get__" = some (some g)) (ht : takesIn K a = some true) : findObj K C od name = some (.bind g a) := by
  obtain ⟨cd, hc⟩ := Option.isSome_iff_exists.mp hc
  unfold findObj
  rw [hc, Option.bind_some, ha, Option.bind_some]
  simp [hg, ht]
theorem kin_classG {Q : Option Value → Shared → Prop} (hga : findIn K (.ref D) "__getattribute__" = some (some (.builtin "BaseException.__getattribute__"))) (hgt : findIn K (.ref D) "__getattr__" = some none) (hsub : subIn K (.ref D) (.type "BaseException") = some true)
    (hdct : hasDictIn K D = true) (ha : findIn K (.ref D) "__class__" = some (some (.builtin "object.__class__")))
    (hn : specialIn K (.builtin "object.__class__") "__get__" = some (some (.builtin "getset_descriptor.__get__"))) (htk : takesIn K (.builtin "object.__class__") = some true) (hm : mroIn K D (.type "object") = some true)
    (X : K.In s.heap) (I : InstAt s.heap x ox D od) (h : Q (some (.ref D)) { s with toks := s.toks + 1 }) : wpAny (model prog w) A (getAttr? (.ref x) "__class__") Q E s := by
  have hf : findObj K D od "__class__" = some (.bind (.builtin "getset_descriptor.__get__") (.builtin "object.__class__")) := findObj_dataG (by obtain ⟨cd, hc, _⟩ := any_some hdct; rw [hc]; rfl) ha hn htk
  obtain ⟨hp, g, d, t, os⟩ := s
  have L0 := I.type (M := model prog w)
  have L1 := looks_findIn (M := model prog w) X hga
  have L2 := looks_findIn (M := model prog w) X hgt
  have L3 := looks_find (M := model prog w) X I hf
  have sub : Looks (model prog w) hp (isInstance (.ref x) (.type "BaseException")) true := L0.andThen (looks_subIn X hsub)
  have hx0 : (false && onTheHeap (Value.builtin "BaseException.__getattribute__")) = false := rfl
  have hx2 : (Value.builtin "BaseException.__getattribute__" == Value.builtin "object.__getattribute__") = false := by decide +kernel
  have hx1 : (onTheHeap (Value.ref D) && Value.builtin "BaseException.__getattribute__" == Value.builtin "object.__getattribute__") = false := by rw [hx2]; rfl
  unfold getAttr? getAttrBy? getAttrBy
  refine wpAny_bind (wpAny_mkText (wpAny_bind (wpAny_attempt (wpAny_holding (wpAny_bind (L0.at (wpAny_bind (L1.at ?_))))))))
  show wpAny _ _ (if (onTheHeap (Value.ref D) && Value.builtin "BaseException.__getattribute__" == Value.builtin "object.__getattribute__") = true then _ else _) _ _ _
  rw [hx1, if_neg Bool.false_ne_true]
  unfold getAttrByItsOwn hookBefore
  refine wpAny_bind ?_
  rw [if_pos (show onTheHeap (Value.ref D) = true from rfl)]
  refine L2.at ?_
  refine wpAny_bind (wpAny_attempt (wpAny_holding ?_))
  unfold callGetattribute
  rw [hx0, if_neg Bool.false_ne_true]
  unfold boundAndCalled
  rw [PySem.F.excAttr_ValueError.ga.bind (.ref x)]
  refine wpAny_bind (wpAny_pure ?_)
  show wpAny _ _ (call (.builtin "BaseException.__getattribute__") [.ref x, .str "__class__" t]) _ _ _
  refine wpAny_call (codeAny_call_builtin PySem.F.excAttr_ValueError.ga.plain PySem.F.entry_bexc_ga ?_)
  refine @check_slot (model prog w) _ _ ⟨hp, g, d, t + 1, os⟩ "BaseException.__getattribute__" "BaseException" "__getattribute__" (.ref x) [.str "__class__" t] [] _ (by decide +kernel) (by decide +kernel) sub (PySem.F.args_bexc_ga (.ref x) (.str "__class__" t)) ?_
  unfold Builtin.«object.__getattribute__»
  refine wpAny_bind (wpAny_of_eq (a := ((Value.ref x : Value), [Value.str "__class__" t])) (by first | rfl | (simp only [slotArgs]; rfl)) ?_)
  refine wpAny_bind (wpAny_pure (wpAny_bind (L0.at (wpAny_bind (L3.at ?_)))))
  show wpAny _ _ (holding [Value.builtin "object.__class__"] (call (.builtin "getset_descriptor.__get__") [.builtin "object.__class__", .ref x, .ref D]) >>= ret) _ _ _
  refine wpAny_bind (wpAny_holding (wpAny_call (class_get (s := ⟨hp, g, d, t + 1, os⟩) (ox := ox) (od := od) X I hm ?_)))
  refine wpAny_pure ?_
  show wpAny _ _ (handedOut (.ref D)) _ _ _
  rw [handedOut_of (v := .ref D) rfl]
  first
    | exact wpAny_pure (wpAny_pure h)
    | exact wpAny_pure h
    | exact wpAny_pure (wpAny_bind (wpAny_pure (wpAny_pure h)))
theorem kitx_excG (hga : findIn K (.ref D) "__getattribute__" = some (some (.builtin "BaseException.__getattribute__"))) (hgt : findIn K (.ref D) "__getattr__" = some none) (hsub : subIn K (.ref D) (.type "BaseException") = some true) (hdct : hasDictIn K D = true) (ha : findIn K (.ref D) "__class__" = some (some (.builtin "object.__class__")))
    (hn : specialIn K (.builtin "object.__class__") "__get__" = some (some (.builtin "getset_descriptor.__get__"))) (htk : takesIn K (.builtin "object.__class__") = some true) (hm : mroIn K D (.type "object") = some true) :
    KitX K (.ref x) (.ref D) (fun h => InstAt h x ox D od) where
  ty := fun _ _ _ I => I.type
  it := fun _ _ X _ => by
    obtain ⟨cdD, hcD, _⟩ := any_some hdct
    unfold clsIn at hcD
    split at hcD
    · rename_i c' d' cd' sl' ho
      intro A' Q' E' s' k q
      unfold isType loadHead
      exact wpAny_bind (wpAny_loadPart (k _ _ (X _ _ ho)) (wpAny_pure q))
    · cases hcD
  ne := fun h tp dd its n sl X htp => by
    obtain ⟨cdD, hcD, _⟩ := any_some hdct
    refine Bool.eq_false_iff.mpr fun q => ?_
    have e : D = tp := Value.ref.inj (beq_iff_eq.mp q)
    subst e
    unfold clsIn at hcD
    split at hcD
    · rename_i c' d' cd' sl' ho
      have z := (X _ _ ho).symm.trans htp
      cases z
    · cases hcD
  ca := fun X I k => kin_classG hga hgt hsub hdct ha hn htk hm X I k
end
end PySem.W
namespace EE
open PySem PySem.Spec PyProof.Rows L2
/-- isinstance(e, c), e the exception that the suite holds, at a; cls its class, d its dict -/
def rIsG (K : PySem.W.Frag) (cls : Value) (d : Option Addr) (a : Addr) : List V → Hp → VK → Prop := fun xs H Q => ∃ (D : Addr) (c : V) (cv : Value) (b : Bool), xs = [.ref a, c] ∧ cls = .ref D ∧ ExcC K D ∧ (d = none ∨ ∃ dd fs, d = some dd ∧ H dd = some (.xd fs)) ∧
  (∀ u, RelV c u → u = cv) ∧ PySem.W.kitOne K (.ref D) cv = some b ∧ Q (.bl b) H
theorem call_isG {X : Cx} {a : Addr} {cls : Value} {d : Option Addr} {oe : Obj} {pn : List (Addr × Obj)} (hz : Zc cls d oe) (hf : ∃ vs, oe.data = .fields vs) : CallR (X.suite a ((a, oe) :: pn)) (.builtin "isinstance") (rIsG X.K cls d a) := by
  intro pins s σ H xs us Q I r h
  obtain ⟨D, c, cv, b, rfl, rfl, C, hd, hcv, e, q⟩ := h
  cases r with
  | cons rx rr =>
    cases rr with
    | cons rt rr =>
      cases rr
      cases rx
      have ec := hcv _ rt
      subst ec
      obtain ⟨hget, _⟩ := I.pin (a, oe) (List.mem_append.mpr (.inl List.mem_cons_self))
      obtain ⟨vs, hv⟩ := hf
      have hno : PySem.W.notCls oe = true := by unfold PySem.W.notCls; rw [hv] <;> rfl
      have J : ∃ od, PySem.W.InstAt s.heap a oe D od := by
        rcases hd with rfl | ⟨dd, fs, rfl, hdd⟩
        · refine ⟨none, hget, hz.1, hno, ?_⟩
          rw [hz.2]
          trivial
        · have hx : ObjOk X.prog X.w H s.heap dd (.xd fs) := I.hok dd _ hdd
          obtain ⟨mA, hns, hr⟩ := hx
          obtain ⟨od, ho, hl⟩ := lookIn_ns hns
          refine ⟨some od, hget, hz.1, hno, ?_⟩
          rw [hz.2]
          exact ho
      obtain ⟨od, J⟩ := J
      exact PySem.W.kia_one (PySem.W.kitx_excG C.hg C.hk C.hs C.hd C.ha C.hn C.ht C.hm) I.kIn J e (fun z => nomatch z) fun tk => ⟨.bl b, H, I.kept (t' := tk) fun _ _ z => z, rfl, q⟩
theorem ref_cls {C : Addr} : ∀ u, RelV (.ref C) u → u = .ref C := fun _ h => h
theorem ty_cls {n : String} : ∀ u, RelV (.ty n) u → u = .type n := fun _ h => h
/-- own classes of exceptions against one another -/
theorem kit_sub {K : PySem.W.Frag} {A C : Addr} {b : Bool} (hC : PySem.W.hasDictIn K C = true) (ht : PySem.W.typeIn K (.ref C) = some (.type "type")) (hs : PySem.W.subIn K (.ref C) (.ref C) = some true) (h : PySem.W.subIn K (.ref A) (.ref C) = some b) : PySem.W.kitOne K (.ref A) (.ref C) = some b := by
  obtain ⟨cd, hc, _⟩ := PySem.W.any_some hC
  unfold PySem.W.kitOne
  by_cases e : A = C
  · subst e
    rw [hs] at h
    rw [if_pos (beq_self_eq_true _)]
    exact h
  · rw [if_neg (by rw [beq_iff_eq]; exact fun z => e (Value.ref.inj z))]
    have e2 : ((PySem.W.clsIn K C).isSome && PySem.W.typeIn K (.ref C) == some (.type "type")) = true := by rw [hc, ht] <;> rfl
    show (if ((PySem.W.clsIn K C).isSome && PySem.W.typeIn K (.ref C) == some (.type "type")) = true then PySem.W.subIn K (.ref A) (.ref C) else none) = some b
    rw [if_pos e2]
    exact h
/-! ### a new object whose __init__ may raise, in a try -/
def tMakeS (C : Addr) (sp : Sp) (E : L2.St → XK) (t : TA) : TE := fun σ H Q => t σ H fun vs H1 => ∀ x dx, H1 x = none → H1 dx = none → dx ≠ x →
  sp (.ref x :: vs) (upd (upd H1 dx (.own x)) x (.ins C dx [])) (fun v H2 => v = .non ∧ Q (.ref x) H2) (E σ)
section
variable {X : Cx} {CX : CXT} {k : Nat} {f C : Addr} {fd : FuncData} {ps : List Str} {sp : Sp} {E : L2.St → XK} {x m : Str} {p pos apos : Pos} {e o fe : Expr} {es : List Expr} {ta tf : TE} {t : TA}
theorem run_makeS {pins : List (Addr × Obj)} {σ : L2.St} {H : Hp} {s : Shared} {Q : VK} {us : List Value} {vs : List V} (M : Mk X.K C f) (F : FnOk X.prog X.w X.K X.mg X.base CX k f fd ps sp) (hr : Room (k + 1) X.A) (hb : Binds X.K fd ps [])
    (hx : PassesAt CX X σ (E σ)) (I : Inv X pins σ H s) (r : Vals vs us)
    (h : ∀ x dx, H x = none → H dx = none → dx ≠ x → sp (.ref x :: vs) (upd (upd H dx (.own x)) x (.ins C dx [])) (fun v H2 => v = .non ∧ Q (.ref x) H2) (E σ)) :
    wpAny (model X.prog X.w) X.A (call (.ref C) us) (EP X pins σ Q) X.xe s := by
  have hq := h (s.heap.objs.size + 1) s.heap.objs.size (I.hok.fresh (Nat.le_succ _)) (I.hok.fresh (Nat.le_refl _)) (Nat.ne_of_lt (Nat.lt_succ_self _))
  have I2 := Inv.made (C := C) I
  have r2 : Vals (V.ref (s.heap.objs.size + 1) :: vs) (Value.ref (s.heap.objs.size + 1) :: us) := .cons rfl r
  have hl : (Value.ref (s.heap.objs.size + 1) :: us).length = ps.length := by
    have e := r2.length
    rw [F.len _ _ _ _ hq] at e
    exact e.symm
  have hbb := hb _ (Value.ref (s.heap.objs.size + 1) :: us) I2.kIn (by rw [List.append_nil]; exact hl)
  rw [List.append_nil] at hbb
  refine wpAny_call (make_map (f := f) I.kIn M.makes M.init (beq_iff_eq.mp M.fn) (codeAny_mono (F.run _ X.stack _ _ ⟨Value.ref (s.heap.objs.size + 1) :: us, []⟩ (Value.ref (s.heap.objs.size + 1) :: us) _ _ (E σ) (hr.make C us [])
    (I2.env0.make C us []) hbb r2 hq) fun r s' hq' => ?_))
  cases r with
  | error e => exact hx pins _ _ e s' I2 hq'
  | ok fl =>
    cases fl with
    | ret u =>
      obtain ⟨v, H', I3, rv, ev, q3⟩ := I2.after hq'
      subst ev
      exact ⟨rv, ⟨V.ref (s.heap.objs.size + 1), H', I3, rfl, q3⟩⟩
    | next => exact False.elim hq'
    | brk => exact False.elim hq'
    | cont => exact False.elim hq'
theorem pe_makeS (M : Mk X.K C f) (F : FnOk X.prog X.w X.K X.mg X.base CX k f fd ps sp) (hr : Room (k + 1) X.A) (hg : Gl X x) (hm : X.mg x = some (.ref C)) (hb : Binds X.K fd ps []) (hx : ∀ σ, PassesAt CX X σ (E σ))
    (ha : PA X (e :: es) t) (hdb : (x == ("__debug__" : Str)) = false := by decide) (he : starEach (e :: es) X.env = (false, eval e X.env) :: starEach es X.env := by rfl) (hpl : (backTo pos (starEach es X.env)).any (·.1) = false := by rfl) :
    PE X (.Call (.Name x p) (e :: es) [] pos) (tMakeS C sp E t) := by
  refine ⟨fun pins s σ H Q I h => ?_⟩
  refine wpAny_Call_Name_kw (ld_glob I hg hm ?_ hdb)
  refine PySem.W.callWith_K (h₀ := X.base) I.ok.mod.kin M.kp (thn (ha.run pos pins s σ H _ I h) fun us s1 ⟨vs, H1, I1, r, q⟩ => ⟨I1.kIn, ?_⟩) he hpl
  exact run_makeS M F hr hb (hx σ) I1 r q
/-- a call of what an expression tells: one of some defs, each with its promise -/
structure HeldS (X : Cx) (CX : CXT) (k : Nat) (f : Addr) (sp : Sp) : Prop where
  ex : ∃ (fd : FuncData) (ps : List Str), FnOk X.prog X.w X.K X.mg X.base CX k f fd ps sp ∧ PySem.W.keepIn X.K (.ref f) = true ∧ Binds X.K fd ps []
def tCallF (S : Addr → Option Sp) (E : L2.St → XK) (tf : TE) (t : TA) : TE := fun σ H Q => tf σ H fun y H0 => ∃ f sp, y = .ref f ∧ S f = some sp ∧ t σ H0 fun vs H1 => sp vs H1 Q (E σ)
end
/-! ### one == other, an own __eq__ -/
/-- the one an instance of the class at C, the other anything that has a class -/
def rEqO (K : PySem.W.Frag) (C : Addr) (sp : Sp) (E : XK) : R2 := fun x y H Q => ∃ a dx fs, x = .ref a ∧ H a = some (.ins C dx fs) ∧ (∃ t, TyX K H y t ∧ PySem.W.notFirst K C t = true) ∧ sp [x, y] H (fun v H' => (∃ b, v = .bl b) ∧ Q v H') E
theorem op_eqO {X : Cx} {CX : CXT} {k : Nat} {C f : Addr} {fd : FuncData} {ps : List Str} {sp : Sp} {E : XK} (F : FnOk X.prog X.w X.K X.mg X.base CX k f fd ps sp) (hr : Room k X.A)
    (hs : PySem.W.findIn X.K (.ref C) "__eq__" = some (some (.ref f))) (hf : PySem.W.isFn X.K (.ref f) = true) (hb : Binds X.K fd ps []) (hx : Passes CX X E) : OpR X (compareOp .Eq) (rEqO X.K C sp E) := by
  intro pins s σ H x y v u Q I rx ry hq
  obtain ⟨a, dx, fs, rfl, ha, ⟨t, ty, nf⟩, q⟩ := hq
  cases rx
  show wpAny (model X.prog X.w) X.A (richCompare .Eq (.ref a) u) (EP X pins σ Q) X.xe s
  obtain ⟨mA, J, _⟩ := ins_get I.hok ha
  obtain ⟨od, J, _⟩ := J.look
  obtain ⟨m, hF⟩ := I.fr
  obtain ⟨Pk, Z, p, hne⟩ := kit_of I ry ty
  refine PySem.W.cmp_K (op := .Eq) (tb := t) hr.units0 hF I.ok.mod.kin J (Z.ty _ _ I.kIn p) nf hs hf ?_
  refine run_fn (dvs := []) (ds := []) (us := [.ref a, u]) (vs := [.ref a, y]) (Q := fun v H' => (∃ b, v = .bl b) ∧ Q v H') F hr hb .nil hx I (.cons rfl (.cons ry .nil)) q |> fun h => wpAny_mono h (fun v' s' hv => ?_) fun _ _ z => z
  obtain ⟨z, H', I', rz, ⟨b, rfl⟩, q'⟩ := hv
  cases rz
  exact ⟨.bl b, H', I', rfl, q'⟩
/-! ### list.count of flat things -/
section
variable {X : Cx}
def rCntF (K : PySem.W.Frag) : V → List V → Hp → VK → Prop := fun x xs H Q => ∃ (p : Addr) (ys : List V) (y : V), x = .ref p ∧ xs = [y] ∧ SqL K H p ys ∧ flatV y = true ∧ ys.all flatV = true ∧ Q (.int ((ys.countP fun z => eqV z y : Nat) : Int)) H
theorem countU {y : V} : ∀ {ys : List V} {its : List Value}, Vals ys its → ys.all flatV = true → its.countP (eqU y) = ys.countP fun z => eqV z y
  | _, _, .nil, _ => rfl
  | z :: ys, _, .cons r t, h => by
    rw [List.all_cons, Bool.and_eq_true] at h
    rw [List.countP_cons, List.countP_cons, countU t h.2, eqU_of r h.1]
theorem mt_countF : MtR X "list.count" (rCntF X.K) := by
  intro pins s σ H x xs v us Q I rx rxs h
  obtain ⟨p, ys, y, rfl, rfl, hs, fy, fys, q⟩ := h
  cases rx
  obtain ⟨u, rfl, ru⟩ := rxs.one
  obtain ⟨its, rv, ⟨⟨cls, dd, data, sl⟩, n, ho, hc, hdn, hd⟩, hlen⟩ := I.list hs
  simp only at hc hd
  subst hc hd
  refine call_meets PySem.F.slot_list_count ⟨_, ho, rfl⟩ PySem.F.entry_list_count (PySem.F.args_list_count_2 _ _)
    (SeqAt.list_countAt p its.toArray n dd sl u (eqU y)) ⟨ho, fun u' hu' => mem_eqAt ru fy rv fys u' (by simpa using hu'), ?_⟩
  refine ⟨.int ((ys.countP fun z => eqV z y : Nat) : Int), H, I.tok _, ⟨s.toks, ?_⟩, q⟩
  show Value.int ((its.toArray.toList.countP (eqU y) : Nat) : Int) s.toks = _
  rw [show its.toArray.toList = its from rfl, countU rv fys]
end
end EE

/-! calls of what an expression tells; == of the same objects -/
namespace EE
open PySem PySem.Spec PyProof.Rows L2
section
variable {X : Cx} {CX : CXT} {k : Nat} {S : Addr → Option Sp} {E : L2.St → XK} {pos : Pos} {e fe : Expr} {es : List Expr} {tf : TE} {t : TA}
theorem pe_callF (hf : PE X fe tf) (A : ∀ f sp, S f = some sp → HeldS X CX k f sp) (hr : Room k X.A) (hx : ∀ σ, PassesAt CX X σ (E σ)) (ha : PA X (e :: es) t)
    (ht : eval (.Call fe (e :: es) [] pos) X.env = (do callWith pos (← eval fe X.env) [] (backTo pos (starEach (e :: es) X.env)) (backToKw pos (keywordEach [] X.env))) := by rfl)
    (he : starEach (e :: es) X.env = (false, eval e X.env) :: starEach es X.env := by rfl) (hpl : (backTo pos (starEach es X.env)).any (·.1) = false := by rfl) : PE X (.Call fe (e :: es) [] pos) (tCallF S E tf t) := by
  refine ⟨fun pins s σ H Q I h => ?_⟩
  refine Call_ (thn (hf.run pins s σ H _ I h) fun u s1 ⟨y, H1, I1, ry, f, sp, ey, hS, q⟩ => ?_) ht
  subst ey
  obtain rfl : u = Value.ref f := ry
  obtain ⟨fd, ps, F, hk, hb⟩ := (A f sp hS).ex
  refine PySem.W.callWith_K (h₀ := X.base) I.ok.mod.kin hk (thn (ha.run pos pins s1 σ H1 _ I1 q) fun us s2 ⟨vs, H2, I2, r, q2⟩ => ⟨I2.kIn, ?_⟩) he hpl
  exact run_fnS F hr hb (hx σ) I2 r q2
end
def DSame : Eqv := fun x y _ => ∃ a, x = .ref a ∧ y = .ref a
theorem mon_same : Mon DSame := fun _ _ _ _ _ d => d
theorem eqG_same {X : Cx} : EqG X 0 DSame := by
  intro A pins s σ H x y u v sb I rx ry d
  obtain ⟨a, rfl, rfl⟩ := d
  cases rx
  cases ry
  exact SeqAt.EqAt.same (A := A) (s := s) (.ref a) X.prog X.w X.xe _ ⟨rfl, H, I, Ext.rfl'⟩
theorem op_eqSame {X : Cx} (hr : Room 1 X.A) : OpR X (compareOp .Eq) (rEqG (DTup X.K DSame)) := op_eqG (rcG_tup mon_same eqG_same) hr
theorem XfC.of {K : PySem.W.Frag} {C : Addr} (e : ExcC K C) : XfC K C := ⟨e.hg, e.hk, e.hs, e.hd⟩
end EE

namespace S4
open PySem L2 TT MM EE
/-! ### rows that are 1 in one place alone -/
theorem vec_zero (n x : Nat) : vec (List.replicate n 0) x = 0 := by
  unfold vec
  rw [List.getD_eq_getElem?_getD]
  cases e : (List.replicate n (0 : Int))[x]? with
  | none => rfl
  | some y => exact (List.mem_replicate.mp (List.mem_of_getElem? e)).2
theorem rep_row (H : Hp) (k : Nat) : (List.replicate k [V.int 0]).flatten = (List.replicate k (0 : Int)).map V.int := by
  induction k with
  | zero => rfl
  | succ k ih => rw [List.replicate_succ, List.replicate_succ, List.flatten_cons, ih, List.map_cons]; rfl
/-- (0,) * k -/
theorem zeros {K : PySem.W.Frag} {H : Hp} {t : Addr} {k : Nat} {Q : V → Hp → Prop} (ht : H t = some (.tup [V.int 0])) (hk : k ≤ 1000) (q : ∀ H' v, Same H H' → rRow H' v (List.replicate k 0) → Q v H') : rRepA K (.ref t) (.int (k : Int)) H Q := by
  refine ⟨t, k, [V.int 0], rfl, rfl, .of ht, by simp, by omega, by omega, by show 1 ≤ 1000; decide, fun e => ?_, fun e p np => ?_⟩
  · have : k = 1 := by omega
    subst this
    exact q H _ (.refl _) ⟨t, rfl, ht⟩
  · refine q _ _ (same_new np) ⟨p, rfl, ?_⟩
    rw [upd_same, Int.toNat_natCast, rep_row H k]
theorem cat_rows {K : PySem.W.Frag} {H : Hp} {u v : V} {l m : List Int} {Q : V → Hp → Prop} (hu : rRow H u l) (hv : rRow H v m) (hz : l.length + m.length ≤ 100000) (q : ∀ H' w, Same H H' → rRow H' w (l ++ m) → Q w H') : rCatA K u v H Q := by
  obtain ⟨a, rfl, ha⟩ := hu
  obtain ⟨b, rfl, hb⟩ := hv
  refine ⟨a, b, _, _, rfl, rfl, .of ha, .of hb, by rw [List.length_map, List.length_map]; exact Nat.le_trans hz (by decide), fun e => ?_, fun _ e => ?_, fun _ _ p np => ?_⟩
  · refine q H _ (.refl _) ⟨b, rfl, ?_⟩
    rw [List.map_eq_nil_iff.mp e]
    exact hb
  · refine q H _ (.refl _) ⟨a, rfl, ?_⟩
    rw [List.map_eq_nil_iff.mp e, List.append_nil]
    exact ha
  · exact q _ _ (same_new np) ⟨p, rfl, by rw [upd_same, List.map_append]⟩
/-- the row that is 1 in a place alone -/
def uRow (n i : Nat) : List Int := List.replicate i 0 ++ [1] ++ List.replicate (n - i - 1) 0
theorem uRow_len {n i : Nat} (h : i < n) : (uRow n i).length = n := by
  unfold uRow
  rw [List.length_append, List.length_append, List.length_replicate, List.length_replicate, List.length_singleton]
  omega
theorem rep_getD (k x : Nat) : (List.replicate k (0 : Int)).getD x 0 = 0 := vec_zero k x
theorem uRow_at {n i : Nat} (x : Nat) : (uRow n i).getD x 0 = if x = i then 1 else 0 := by
  unfold uRow
  rw [List.append_assoc, List.getD_eq_getElem?_getD]
  by_cases h : x < i
  · rw [List.getElem?_append_left (by rw [List.length_replicate]; exact h), ← List.getD_eq_getElem?_getD, rep_getD, if_neg (by omega)]
  · rw [List.getElem?_append_right (by rw [List.length_replicate]; omega), List.length_replicate]
    by_cases e : x = i
    · subst e
      rw [Nat.sub_self, if_pos rfl]
      rfl
    · obtain ⟨y, hy⟩ : ∃ y, x - i = y + 1 := ⟨x - i - 1, by omega⟩
      rw [hy, if_neg e]
      show ((List.replicate (n - i - 1) (0 : Int))[y]?).getD 0 = 0
      rw [← List.getD_eq_getElem?_getD, rep_getD]
def uRows (n : Nat) : List (List Int) := (List.range n).map (uRow n)
section
variable {P : Program} {w : World} {K : PySem.W.Frag} {mg : Str → Option Value} {base : Heap} {cT cS : Addr}
def spUnits : Sp := fun vs H Q _ => ∃ (n : Nat), vs = [.int (n : Int)] ∧ n ≤ 1000 ∧ ∀ H' a xs, Same H H' → H a = none → H' a = some (.lst xs) → Paired (rRow H') xs (uRows n) → Q (.ref a) H'
theorem ok_units (T : Tx K mg cT cS) {f : Addr} {fd : FuncData} (d : D K mg "unit_rows" s_unit_rows ["wide"] f fd) : FnOk P w K mg base CX0 1 f fd ["wide"] spUnits := by
  refine d.F.ok sc_unit_rows (fun vs H Q E h => ?_) (fun cdv A outer s H vs Q E hr h => ?_)
  · obtain ⟨n, rfl, _⟩ := h
    rfl
  · obtain ⟨n, rfl, hn, q⟩ := h
    refine ⟨_, pss_one (ps_ret (pe_lc (own := [("place", 1)]) (g := gName 1) (tt := tYes) rfl sc_unit_rows.nd (pi_range1 rfl T.b_range (pa_cons (pv 0) pa_nil)) (blkOk_by (N := N_unit_rows) (sc := defScope s_unit_rows) (by decide +kernel))
          (fun _ _ _ _ _ => pg_name (i := 1) sc_unit_rows.nd rfl (Or.inl rfl)) (fun _ _ _ _ _ => pts_nil)
          (fun _ _ _ _ _ => pe_op (catK (K := K) rfl) (pe_op (catK (K := K) rfl) (pe_op (repK (K := K) rfl) (pe_tup (pa_cons pe_int pa_nil)) (pv 1)) (pe_tup (pa_cons pe_int pa_nil))) (pe_op (repK (K := K) rfl) (pe_tup (pa_cons pe_int pa_nil)) (pe_op op_sub (pe_op op_sub (pv 0) (pv 1)) pe_int))))), ?_⟩
    refine ⟨_, rfl, _, rfl, by omega, by omega, fun D hD => ?_⟩
    refine lc_fm (walk_range (lo := 0) (n := ((n : Nat) : Int).toNat)) rRow (fun i => some (uRow n i)) hD (fun _ _ => trivial) ?_ ?_
    · rintro i x H2 H3 hi pv ⟨rfl, rfl⟩
      rw [Int.toNat_natCast] at hi
      refine ⟨rfl, by show 1 ≤ sizeLine; decide, fun t nt => ⟨_, rfl, ?_⟩⟩
      show rRepA K (.ref t) (.int (0 + (i : Int))) _ _
      rw [Int.zero_add]
      refine zeros upd_same (by omega) fun H4 v4 s4 h4 => ?_
      have s04 := (same_new (o := .tup [V.int 0]) nt).trans s4
      refine ⟨by show 1 ≤ sizeLine; decide, fun t1 nt1 => ?_⟩
      have s5 := same_new (o := .tup [V.int 1]) nt1
      refine cat_rows (m := [1]) (mono_row _ _ _ _ s5.keep h4) ⟨t1, rfl, upd_same⟩ (by rw [List.length_replicate]; show i + 1 ≤ 100000; omega) fun H6 v6 s6 h6 => ?_
      have s06 := (s04.trans s5).trans s6
      refine ⟨by show 1 ≤ sizeLine; decide, fun t2 nt2 => ⟨_, rfl, _, rfl, _, _, rfl, rfl, _, _, rfl, rfl, ?_⟩⟩
      have s7 := same_new (o := .tup [V.int 0]) nt2
      have e : (n : Int) - (0 + (i : Int)) - 1 = ((n - i - 1 : Nat) : Int) := by omega
      show rRepA K (.ref t2) (.int ((n : Int) - (0 + (i : Int)) - 1)) _ _
      rw [e]
      refine zeros upd_same (by omega) fun H8 v8 s8 h8 => ?_
      have s78 := s7.trans s8
      refine cat_rows (mono_row _ _ _ _ s78.keep h6) h8 (by rw [List.length_append, List.length_replicate, List.length_replicate, List.length_singleton]; omega) fun H9 v9 s9 h9 => ?_
      exact fm_keep mono_row pv hD (by omega) ((s06.trans s78).trans s9) rfl h9
    · intro H2 ys s2 hD2 hp2
      rw [fm_all, Int.toNat_natCast] at hp2
      exact q _ D ys s2 hD hD2 hp2
end
end S4

namespace S4
open PySem L2 TT MM
section
variable {P : Program} {w : World} {K : PySem.W.Frag} {mg : Str → Option Value} {base : Heap} {cT cS : Addr}
/-! ### the rank -/
def spRankOf (K : PySem.W.Frag) : Sp := fun vs H Q _ => ∃ (a : Addr) (p : Int) (wd : Nat) (xs : List V) (rws : List (List Int)), vs = [.int p, .int (wd : Int), .ref a] ∧ SqS K H a xs ∧ Paired (rRow H) xs rws ∧ rws.length ≤ 1000 ∧ Prm p ∧ p ≤ 1000000 ∧ wd ≤ 1000 ∧ (∀ r ∈ rws, isRow r p wd) ∧
  ∀ H' (n : Nat), Same H H' → n ≤ wd → (∀ lad, IsLad p wd rws lad → lad.length = n) → Q (.int (n : Int)) H'
def spWiden (K : PySem.W.Frag) : Sp := fun vs H Q _ => ∃ (H0 : Hp) (a dr : Addr) (p : Int) (wd : Nat) (xs : List V) (rws : List (List Int)), vs = [.int p, .int (wd : Int), .ref dr, .ref a] ∧ Same H0 H ∧ H0 dr = none ∧ H dr = some (.dK []) ∧ SqS K H0 a xs ∧ Paired (rRow H0) xs rws ∧ rws.length ≤ 1000 ∧ Prm p ∧ p ≤ 1000000 ∧ wd ≤ 1000 ∧ (∀ r ∈ rws, isRow r p wd) ∧
  ∀ H' kvs rs, Same H0 H' → H' dr = some (.dK kvs) → Paired (kvR H') kvs rs → St2 p wd rs rws → Q (.ref dr) H'
theorem ok_widened (T : Tx K mg cT cS) {f : Addr} {fd : FuncData} (d : D K mg "widened" s_widened ["p", "wide", "rungs", "rows"] f fd) : FnOk P w K mg base CX0 2 f fd ["p", "wide", "rungs", "rows"] (spWiden K) := by
  obtain ⟨f1, fd1, d1⟩ := T.d_cleared
  have G1 : FnOk P w K mg base CX0 1 f1 fd1 ["p", "rungs", "row"] spCleared := ok_cleared T d1
  obtain ⟨f2, fd2, d2⟩ := T.d_first_place
  have G2 : FnOk P w K mg base CX0 1 f2 fd2 ["row", "wide"] spFirst := ok_first T d2
  obtain ⟨f3, fd3, d3⟩ := T.d_multiplied
  have G3 : FnOk P w K mg base CX0 1 f3 fd3 ["p", "factor", "row"] spMult := ok_mult T d3
  obtain ⟨f4, fd4, d4⟩ := T.d_inverse
  have G4 : FnOk P w K mg base CX0 1 f4 fd4 ["p", "value"] spInverse := ok_inverse T d4
  refine d.F.ok sc_widened (fun vs H Q E h => ?_) (fun cdv A outer s H vs Q E hr h => ?_)
  · obtain ⟨H0, a, dr, p, wd, xs, rws, rfl, _⟩ := h
    rfl
  · obtain ⟨H0, a, dr, p, wd, xs, rws, rfl, s1, hdr, hdd, hS, hp, hl, prm, pm, hwd, hrw, q⟩ := h
    have p2 := prm.1
    have p0 : 0 < p := by omega
    have hlen := paired_len hp
    refine ⟨_, pss_cons (ps_for PassesOwn.never rfl (pi_or (pi_list (pv 3)) (pi_tup (pv 3))) (pg_name (i := 4) sc_widened.nd rfl (Or.inl rfl))
        (pss_cons (ps_set (i := 5) sc_widened.nd rfl (.inl rfl) (pe_call G1 hr rfl d1.m d1.F.kp d1.b .nil pass0 (pa_cons (pv 0) (pa_cons (pv 2) (pa_cons (pv 4) pa_nil)))))
        (pss_cons (ps_set (i := 6) sc_widened.nd rfl (.inl rfl) (pe_call G2 hr rfl d2.m d2.F.kp d2.b .nil pass0 (pa_cons (pv 5) (pa_cons (pv 1) pa_nil))))
        (pss_one (ps_if (pt_cmp (pc_notN (pv 6)))
          (pss_one (ps_dput (hu_of hr) (pv 2) (pv 6) (pe_call G3 hr rfl d3.m d3.F.kp d3.b .nil pass0 (pa_cons (pv 0) (pa_cons (pe_call G4 hr rfl d4.m d4.F.kp d4.b .nil pass0 (pa_cons (pv 0) (pa_cons (pe_ix ix_tup (pv 5) (pv 6) (fun _ _ => rfl)) pa_nil))) (pa_cons (pv 5) pa_nil)))) rfl)) pss_nil)))))
      (pss_one (ps_ret (pv 2))), ?_⟩
    dsimp only [gName, tSeq]
    have P0 : ∃ rs kvs x4 x5 x6, [some (V.int p), some (V.int (wd : Int)), some (V.ref dr), some (V.ref a), none, none, none] = [some (V.int p), some (V.int (wd : Int)), some (V.ref dr), some (V.ref a), x4, x5, x6] ∧ Same H0 H ∧ H dr = some (.dK kvs) ∧ Paired (kvR H) kvs rs ∧ St2 p wd rs (rws.take 0) :=
      ⟨[], [], none, none, none, rfl, s1, hdd, .nil, by rw [List.take_zero]; exact St2.nil p wd⟩
    apply twice
    · intro hs
      apply twice
      · intro hd
        rcases hS with h | h
        · exact .inl ⟨_, rfl, a, rfl, ⟨_, .of (s1 _ _ h)⟩, for_it (walk_list (xs := xs)) (fun i σ H' => ∃ rs kvs x4 x5 x6, σ = [some (V.int p), some (V.int (wd : Int)), some (V.ref dr), some (V.ref a), x4, x5, x6] ∧ Same H0 H' ∧ H' dr = some (.dK kvs) ∧ Paired (kvR H') kvs rs ∧ St2 p wd rs (rws.take i)) P0 (fun i σ H' _ q => .of (let ⟨_, _, _, _, _, _, z, _⟩ := q; z _ _ h)) hs hd⟩
        · exact .inr ⟨_, rfl, a, rfl, ⟨_, .of (s1 _ _ h)⟩, for_it (walk_tup (xs := xs)) (fun i σ H' => ∃ rs kvs x4 x5 x6, σ = [some (V.int p), some (V.int (wd : Int)), some (V.ref dr), some (V.ref a), x4, x5, x6] ∧ Same H0 H' ∧ H' dr = some (.dK kvs) ∧ Paired (kvR H') kvs rs ∧ St2 p wd rs (rws.take i)) P0 (fun i σ H' _ q => .of (let ⟨_, _, _, _, _, _, z, _⟩ := q; z _ _ h)) hs hd⟩
      · rintro σ H2 ⟨rs, kvs, x4, x5, x6, rfl, s2, hk1, hk2, S⟩
        rw [hlen, List.take_length] at S
        exact ⟨_, rfl, q H2 kvs rs s2 hk1 hk2 S⟩
    · rintro i x σ H2 H3 hi ⟨rs, kvs, x4, x5, x6, rfl, s2, hk1, hk2, S⟩ ⟨rfl, hx⟩
      obtain ⟨row, hrow, hrr⟩ := paired_get (paired_mono mono_row s2.keep hp) hx
      have hir := hrw row (List.mem_of_getElem? hrow)
      have hrl : row.length = wd := by have := hir.1; omega
      have etake : rws.take (i + 1) = rws.take i ++ [row] := by rw [List.take_succ, hrow]; rfl
      obtain ⟨rs', S', hkk⟩ := S.twin
      have e1 := congrArg List.length hkk
      rw [List.length_map, List.length_map] at e1
      have e2 := S'.len
      have nd : (rs.map (·.1)).Nodup := by rw [← hkk]; exact S'.lad.nd
      refine ⟨_, rfl, _, rfl, _, rfl, dr, .dK kvs, x, row, rs, p, rfl, hk1, ⟨kvs, rfl, hk2⟩, nd, hrr, p0, pm, hir.2, by omega, by omega, fun z hz => by have := S.T.ok z hz; exact ⟨by omega, by omega⟩, fun H4 v4 s4 hv4 => ?_⟩
      dsimp only [gName, tSeq]
      have cl := clr_len p rs row
      refine ⟨_, rfl, _, rfl, v4, clr p rs row, wd, rfl, hv4, by omega, by omega, fun hz => ?_, fun k hk h0 hz => ?_⟩
      · dsimp only [gName, tSeq]
        refine ⟨_, rfl, _, rfl, ?_⟩
        rw [decide_eq_true rfl]
        refine iteF ⟨rs, kvs, _, _, _, rfl, s2.trans s4, s4 _ _ hk1, kvR_mono (fun _ _ h => s4 _ _ h) hk2, ?_⟩
        rw [etake]
        exact S.skip p2 hrl hir.2 hz
      · dsimp only [gName, tSeq]
        refine ⟨_, rfl, _, rfl, ?_⟩
        rw [decide_eq_false (fun e => nomatch e)]
        refine iteT ?_
        have hri := clr_in p0 rs hir.2
        have hb := getD_in p0 hri k
        have hkq : (clr p rs row)[k]? = some ((clr p rs row)[k]'(by omega)) := List.getElem?_eq_getElem (by omega)
        have hkg := getD_at (d := (0 : Int)) hkq
        obtain ⟨t4, rfl, ht4⟩ := hv4
        refine ⟨_, rfl, _, rfl, _, rfl, _, rfl, t4, _, _, _, rfl, rfl, .of ht4, atI_nat (int_at hkq), ?_⟩
        rw [← hkg]
        refine ⟨p, _, rfl, pm, by omega, by omega, prm.gcd (by omega) (by omega), fun u u0 u1 hu H5 s5 => ?_⟩
        refine ⟨_, rfl, .ref t4, clr p rs row, p, u, rfl, ⟨t4, rfl, s5.keep.tup ht4⟩, p0, ⟨by omega, by omega⟩, by omega, fun H6 v6 s6 hv6 => ?_⟩
        have s46 := (s4.trans s5).trans s6
        obtain ⟨kP, St⟩ := S.put (u := u) p2 hrl hir.2 hk h0 hz hu
        have hk6 := s46 _ _ hk1
        have hk26 := kvR_mono (H' := H6) (fun _ _ h => s46 _ _ h) hk2
        have hkl := paired_len hk26
        refine ⟨_, rfl, _, rfl, dr, _, rfl, DPut.k (k := Sum.inl ((k : Nat) : Int)) hk6 (Nat.lt_of_le_of_lt (by omega : kvs.length ≤ 1000) (by decide)), ?_⟩
        rw [putK_new _ (val_none hk26 kP)]
        refine ⟨rs ++ [(k, mulL p u (clr p rs row))], kvs ++ [(Sum.inl ((k : Nat) : Int), v6)], _, _, _, rfl, same_own (s2.trans s46) hdr, upd_same, kvR_mono (fun t xs h => by rw [upd_ne (ne_of h hk6 (fun z => nomatch z))]; exact h) (paired_app hk26 (.cons ⟨rfl, hv6⟩ .nil)), ?_⟩
        rw [etake]
        exact St
theorem ok_rank_of (T : Tx K mg cT cS) {f : Addr} {fd : FuncData} (d : D K mg "rank_of" s_rank_of ["p", "wide", "rows"] f fd) : FnOk P w K mg base CX0 3 f fd ["p", "wide", "rows"] (spRankOf K) := by
  obtain ⟨f1, fd1, d1⟩ := T.d_widened
  have G1 : FnOk P w K mg base CX0 2 f1 fd1 ["p", "wide", "rungs", "rows"] (spWiden K) := ok_widened T d1
  refine d.F.ok sc_rank_of (fun vs H Q E h => ?_) (fun cdv A outer s H vs Q E hr h => ?_)
  · obtain ⟨a, p, wd, xs, rws, rfl, _⟩ := h
    rfl
  · obtain ⟨a, p, wd, xs, rws, rfl, hS, hp, hl, prm, pm, hwd, hrw, q⟩ := h
    refine ⟨_, pss_one (ps_ret (pe_callB call_lenD (by rfl) T.b_len PySem.boot_len (pa_cons (pe_call G1 hr rfl d1.m d1.F.kp d1.b .nil pass0 (pa_cons (pv 0) (pa_cons (pv 1) (pa_cons pe_dnewK (pa_cons (pv 2) pa_nil))))) pa_nil))), ?_⟩
    refine ⟨_, rfl, _, rfl, fun dr hdr => ⟨_, rfl, H, a, dr, p, wd, xs, rws, rfl, same_new hdr, hdr, upd_same, hS, hp, hl, prm, pm, hwd, hrw, fun H2 kvs rs s2 hk1 hk2 S => ?_⟩⟩
    obtain ⟨rs', S', hk⟩ := S.twin
    have e1 := congrArg List.length hk
    rw [List.length_map, List.length_map] at e1
    have e2 := S'.len
    refine ⟨dr, kvs, rfl, hk1, ?_⟩
    rw [paired_len hk2]
    exact q H2 rs.length s2 (by omega) fun lad A => S.len prm.1 A
def spRank (K : PySem.W.Frag) : Sp := fun vs H Q _ => ∃ (a : Addr) (p : Int) (wd : Nat) (xs : List V) (rws : List (List Int)), vs = [.int p, .int (wd : Int), .ref a] ∧ SqS K H a xs ∧ Paired (rRow H) xs rws ∧ rws.length ≤ 200 ∧ NoDiv p ∧ wd ≤ 200 ∧ (∀ r ∈ rws, isRow r p wd) ∧
  ∀ H' (n : Nat), Same H H' → n ≤ wd → (∀ lad, IsLad p wd rws lad → lad.length = n) → Q (.int (n : Int)) H'
theorem ok_rank (T : Tx K mg cT cS) {f : Addr} {fd : FuncData} (d : D K mg "rank" s_rank ["p", "wide", "rows"] f fd) : FnOk P w K mg base CX0 6 f fd ["p", "wide", "rows"] (spRank K) := by
  obtain ⟨f1, fd1, d1⟩ := T.d_check_rows
  have G1 : FnOk P w K mg base CX0 5 f1 fd1 ["p", "wide", "rows"] (spRowsC K) := ok_check_rows T d1
  obtain ⟨f2, fd2, d2⟩ := T.d_rank_of
  have G2 : FnOk P w K mg base CX0 3 f2 fd2 ["p", "wide", "rows"] (spRankOf K) := ok_rank_of T d2
  refine d.F.ok sc_rank (fun vs H Q E h => ?_) (fun cdv A outer s H vs Q E hr h => ?_)
  · obtain ⟨a, p, wd, xs, rws, rfl, _⟩ := h
    rfl
  · obtain ⟨a, p, wd, xs, rws, rfl, hS, hp, hl, nd, hwd, hrw, q⟩ := h
    refine ⟨_, pss_cons (ps_expr (pe_call G1 hr rfl d1.m d1.F.kp d1.b .nil pass0 (pa_cons (pv 0) (pa_cons (pv 1) (pa_cons (pv 2) pa_nil)))))
      (pss_one (ps_ret (pe_call G2 (hr.mono (by decide)) rfl d2.m d2.F.kp d2.b .nil pass0 (pa_cons (pv 0) (pa_cons (pv 1) (pa_cons (pv 2) pa_nil)))))), ?_⟩
    refine ⟨_, rfl, _, rfl, _, rfl, a, p, wd, xs, rws, rfl, hS, hp, hl, nd, hwd, hrw, fun H2 s2 => ?_⟩
    exact ⟨_, rfl, _, rfl, _, rfl, a, p, wd, xs, rws, rfl, hS.same s2, paired_mono mono_row s2.keep hp, by omega, nd.prm, nd.2.1, by omega, hrw, fun H' n s' => q H' n (s2.trans s')⟩
end

end S4

namespace S4
open PySem L2 TT MM
theorem up_nodup_same {l m : List Int} (h1 : Up l) (h2 : Up m) (n1 : l.Nodup) (n2 : m.Nodup) (h : ∀ x, x ∈ l ↔ x ∈ m) : l = m := up_same ((List.perm_ext_iff_of_nodup n1 n2).mpr h) h1 h2
theorem sum_sub {f : Int → Nat} : ∀ (posts U : List Int), posts.Nodup → (∀ x ∈ posts, x ∈ U) → (posts.map f).sum ≤ (U.map f).sum
  | [], U, _, _ => Nat.zero_le _
  | x :: posts, U, nd, h => by
    have hx := h x (by simp)
    have pm := (List.perm_cons_erase hx).map f
    have nd' := List.nodup_cons.mp nd
    have := sum_sub (f := f) posts (U.erase x) nd'.2 fun y hy => (List.mem_erase_of_ne (fun e => nd'.1 (by rw [← e]; exact hy))).mpr (h y (by simp [hy]))
    rw [pm.sum_nat, List.map_cons, List.map_cons, List.sum_cons, List.sum_cons]
    omega
theorem toNat_sum : ∀ (l : List Int), (∀ x ∈ l, 0 ≤ x) → (((l.map Int.toNat).sum : Nat) : Int) = l.sum
  | [], _ => rfl
  | x :: l, h => by
    have h0 := h x (by simp)
    rw [List.map_cons, List.sum_cons, List.sum_cons, ← toNat_sum l fun y hy => h y (by simp [hy])]
    omega
theorem numsL_le {holds : List Int} {n : Nat} (oh : CountsOk holds n) {posts : List Int} (nd : posts.Nodup) (hin : ∀ x ∈ posts, x ∈ rng n) : (numsL holds posts).length ≤ 60 := by
  have e1 : (numsL holds posts).length = (posts.map fun q => (holds.getD q.toNat 0).toNat).sum := by
    unfold numsL
    rw [List.length_flatMap]
    congr 1
    refine List.map_congr_left fun q _ => ?_
    unfold heldL
    rw [List.length_map, List.length_range]
  have e2 := sum_sub (f := fun q => (holds.getD q.toNat 0).toNat) posts (rng n) nd hin
  have e3 : (rng n).map (fun q => (holds.getD q.toNat 0).toNat) = holds.map Int.toNat := by
    apply List.ext_getElem
    · rw [List.length_map, List.length_map, rng_len, oh.len]
    · intro i h1 h2
      rw [List.length_map] at h2
      rw [List.getElem_map, List.getElem_map]
      have : (rng n)[i]'(by rw [rng_len]; have := oh.len; omega) = (i : Int) := by
        unfold rng
        rw [List.getElem_map, List.getElem_range]
      rw [this, Int.toNat_natCast, getD_at (List.getElem?_eq_getElem h2)]
  rw [e3] at e2
  have e4 := toNat_sum holds fun x hx => (oh.b x hx).1
  have e5 := oh.s
  omega
/-- the two sides of a way, as lists -/
structure Sides (S : SD) (n : Nat) (z : Int × Int) (near far : List Int) : Prop where
  nu : Up near
  nn : near.Nodup
  nm : ∀ x, x ∈ near ↔ Rch S.ties (some z.2) z.1 x
  fu : Up far
  fn : far.Nodup
  fm : ∀ x, x ∈ far ↔ Rch S.ties (some z.1) z.2 x
  ni : ∀ x ∈ near, x ∈ rng n
  fi : ∀ x ∈ far, x ∈ rng n
theorem farL_len {S : SD} {n : Nat} (ok : WantsOk S.p S.holds.sum n S.wants) (n24 : n ≤ 24) {far : List Int} (nd : far.Nodup) (hin : ∀ x ∈ far, x ∈ rng n) : (farL S.wants far).length ≤ 192 := by
  have h : ∀ l : List Int, (∀ x ∈ l, x ∈ rng n) → (farL S.wants l).length ≤ 8 * l.length := by
    intro l
    induction l with
    | nil => intro _; simp [farL]
    | cons c l ih =>
      intro hl
      have hc := rng_mem.mp (hl c (by simp))
      have hlw := ok.len
      have h8 : (S.wants.getD c.toNat []).length ≤ 8 := by
        rw [getD_at (List.getElem?_eq_getElem (by omega))]
        exact (ok.b _ (List.getElem_mem _)).1
      have := ih fun x hx => hl x (by simp [hx])
      show (((List.range (S.wants.getD c.toNat []).length).map fun (k : Nat) => (c, (k : Int))) ++ farL S.wants l).length ≤ _
      rw [List.length_append, List.length_map, List.length_range, List.length_cons]
      omega
  have := h far hin
  have := nodup_len nd hin
  rw [rng_len] at this
  omega
theorem block_rows {S : SD} {n : Nat} (ok : SheetOk S n) {near far : List Int} (hn : ∀ x ∈ near, x ∈ rng n) (hf : ∀ x ∈ far, x ∈ rng n) : ∀ r ∈ blockL S near far, isRow r S.p ((numsL S.holds near).length : Nat) := fun r hr => by
  obtain ⟨z, hz, rfl⟩ := List.mem_map.mp hr
  obtain ⟨h1, h2, h3⟩ := farL_in hz
  have hz1 := rng_mem.mp (hf _ h1)
  have hlw := ok.wants.len
  have e1 := getD_at (d := []) (List.getElem?_eq_getElem (l := S.wants) (i := z.1.toNat) (by omega))
  rw [e1] at h3
  have hw := (ok.wants.b _ (List.getElem_mem (l := S.wants) (n := z.1.toNat) (by omega))).2 _ (List.getElem_mem (l := S.wants[z.1.toNat]'(by omega)) (n := z.2.toNat) (by omega))
  have e2 := getD_at (d := []) (List.getElem?_eq_getElem (l := S.wants[z.1.toNat]'(by omega)) (i := z.2.toNat) (by omega))
  rw [e1, e2]
  refine ⟨by unfold cutL; rw [List.length_map], fun x hx => ?_⟩
  obtain ⟨i, hi, rfl⟩ := List.mem_map.mp hx
  exact getD_in (by have := ok.clock.prm.1; omega) hw.2 _
section
variable {P : Program} {w : World} {K : PySem.W.Frag} {mg : Str → Option Value} {base : Heap} {cT cS : Addr}
def spToll (cT cS : Addr) : Sp := fun vs H Q _ => ∃ (u v : V) (S : SD) (z : Int × Int) (n : Nat), vs = [u, v] ∧ rSheet cT cS H u S ∧ rPI H v z ∧ SheetOk S n ∧ WayOk S n z ∧
  ∀ H' k near far, Same H H' → Sides S n z near far → (∀ lad, IsLad S.p (numsL S.holds near).length (blockL S near far) lad → lad.length = k) → k ≤ 60 → Q (.int (k : Nat)) H'
theorem ok_toll (T : Tx K mg cT cS) {f : Addr} {fd : FuncData} (d : D K mg "toll" s_toll ["sheet", "way"] f fd) : FnOk P w K mg base CX0 7 f fd ["sheet", "way"] (spToll cT cS) := by
  obtain ⟨f1, fd1, d1⟩ := T.d_block
  have G1 : FnOk P w K mg base CX0 6 f1 fd1 ["sheet", "way"] (spBlock cT cS) := ok_block T d1
  obtain ⟨f2, fd2, d2⟩ := T.d_near_numbers
  have G2 : FnOk P w K mg base CX0 4 f2 fd2 ["sheet", "way"] (spNear cT cS) := ok_near T d2
  obtain ⟨f3, fd3, d3⟩ := T.d_rank
  have G3 : FnOk P w K mg base CX0 6 f3 fd3 ["p", "wide", "rows"] (spRank K) := ok_rank T d3
  obtain ⟨fS, fdS, kS⟩ := T.k_Sheet
  have n1 : NoAttr K cS "p" := kS.na _ (by simp)
  refine d.F.ok sc_toll (fun vs H Q E h => ?_) (fun cdv A outer s H vs Q E hr h => ?_)
  · obtain ⟨u, v, S, z, n, rfl, _⟩ := h
    rfl
  · obtain ⟨u, v, S, z, n, rfl, hS, hz, ok, hw, q⟩ := h
    have hn := ok.ties.len
    have hn24 := ok.ties.n24
    refine ⟨_, pss_cons (ps_set (i := 2) sc_toll.nd rfl (.inl rfl) (pe_call G1 hr rfl d1.m d1.F.kp d1.b .nil pass0 (pa_cons (pv 0) (pa_cons (pv 1) pa_nil))))
      (pss_one (ps_ret (pe_call G3 hr rfl d3.m d3.F.kp d3.b .nil pass0 (pa_cons (pe_fld (pv 0) rfl) (pa_cons (pe_callB call_len_seq (by rfl) T.b_len PySem.boot_len (pa_cons (pe_call G2 (hr.mono (by decide)) rfl d2.m d2.F.kp d2.b .nil pass0 (pa_cons (pv 0) (pa_cons (pv 1) pa_nil))) pa_nil)) (pa_cons (pv 2) pa_nil)))))), ?_⟩
    refine ⟨_, rfl, _, rfl, u, v, S, z, n, rfl, hS, hz, ok, hw, fun H2 vb near far s2 hb nu nn nm fu fn fm => ?_⟩
    dsimp only [gName, tSeq]
    obtain ⟨tb, xb, rfl, htb, hpb⟩ := hb
    obtain ⟨a, dx, tr, th, tw, rfl, hI, _⟩ := id hS
    have far_in : ∀ x ∈ far, x ∈ rng n := fun x hx => ((fm x).mp hx).inV ok.ties.shut (rng_mem.mpr ⟨hw.b0, hw.b1⟩)
    have near_in : ∀ x ∈ near, x ∈ rng n := fun x hx => ((nm x).mp hx).inV ok.ties.shut (rng_mem.mpr ⟨hw.a0, hw.a1⟩)
    refine ⟨_, rfl, a, cS, dx, _, _, rfl, s2.keep.ins hI, kS.cl, n1, sfs_p, _, rfl, _, rfl, .ref a, v, S, z, n, rfl, mono_sheet cT cS _ _ _ _ s2.keep hS, mono_pi _ _ _ _ s2.keep hz, ok.ties, ok.holds, hw, fun H3 v3 near' s3 hnear nup nnd nmem nin => ?_⟩
    have := up_nodup_same nup nu nnd nn fun x => by rw [nmem, nm]
    subst this
    obtain ⟨tn, rfl, htn⟩ := hnear
    have hrows := block_rows ok near_in far_in
    have h60 := numsL_le ok.holds nn near_in
    have hbl : (blockL S near' far).length ≤ 192 := by unfold blockL; rw [List.length_map]; exact farL_len ok.wants hn24 fn far_in
    refine ⟨tn, _, rfl, .inr (.of htn), _, rfl, tb, S.p, (numsL S.holds near').length, xb, blockL S near' far, by rw [List.length_map]; rfl, .inr (s3 _ _ htb), paired_mono mono_row s3.keep hpb, by omega, ok.clock, by omega, hrows, fun H4 k s4 hk hlad => ?_⟩
    exact q _ k near' far ((s2.trans s3).trans s4) ⟨nu, nn, nm, fu, fn, fm, near_in, far_in⟩ hlad (by omega)
end
end S4

namespace S4
open PySem L2 TT MM EE
theorem isRow_len {l : List Int} {p : Int} {wd : Nat} (h : isRow l p wd) : l.length = wd := by have := h.1; omega
def dotC (r : List Int) (B : List (List Int)) (x : Nat) : Int := sumP (List.range B.length) fun j => r.getD j 0 * (B.getD j []).getD x 0
/-! ### mixtures -/
/-- how many times each row goes into one -/
def IsMix (p : Int) (wd : Nat) (rws : List (List Int)) (row l : List Int) : Prop := l.length = rws.length ∧ InB p l ∧ ∀ x, x < wd → Cg p (row.getD x 0) (dotC l rws x)
/-- the rows with their marks -/
def withMarks (rws : List (List Int)) : List (List Int) := (List.range rws.length).map fun i => rws.getD i [] ++ uRow rws.length i
theorem SqS.or {K : PySem.W.Frag} {H : Hp} {a : Addr} {xs : List V} (h : SqS K H a xs) : SqL K H a xs ∨ SqT K H a xs := h.elim (fun h => .inl (.of h)) fun h => .inr (.of h)
theorem SqS.kd {K : PySem.W.Frag} {H : Hp} {a : Addr} {xs : List V} (h : SqS K H a xs) : ∃ b, SqK b K H a xs ∧ ∀ H', Same H H' → SqK b K H' a xs := h.elim (fun h => ⟨true, .of h, fun H' s => .of (s _ _ h)⟩) fun h => ⟨false, .of h, fun H' s => .of (s _ _ h)⟩
theorem slice_fromP {K : PySem.W.Frag} {H : Hp} {a : Addr} {xs : List V} {k : Nat} {Q : VK} (h : H a = some (.tup xs)) (hk : k ≤ xs.length) (q : ∀ H' p, Same H H' → H' p = some (.tup (xs.drop k)) → Q (.ref p) H') : rSlA K (.ref a) (some (k : Int)) none H Q := by
  have ec : cutV xs (some (k : Int)) none = xs.drop k := by
    unfold cutV
    rw [HT.sIx_none, HT.sIx_nat, Nat.min_eq_left hk, List.take_of_length_le (by rw [List.length_drop]; omega)]
  refine ⟨a, xs, rfl, .of h, fun e => q H a (.refl _) ?_, fun _ p np => ?_⟩
  · rw [HT.sIx_nat, Nat.min_eq_left hk] at e
    have e1 := e.1
    rw [e1, List.drop_zero]
    exact h
  · rw [ec]
    exact q _ p (same_new np) upd_same
/-! ### marks -/
theorem marks_at {rws : List (List Int)} {i : Nat} (h : i < rws.length) : (withMarks rws)[i]? = some (rws.getD i [] ++ uRow rws.length i) := by
  unfold withMarks
  rw [List.getElem?_map, List.getElem?_range h]
  rfl
theorem marks_len (rws : List (List Int)) : (withMarks rws).length = rws.length := by unfold withMarks; rw [List.length_map, List.length_range]
section
variable {p : Int} {wd : Nat} {rws : List (List Int)}
theorem getD_mem {i : Nat} (h : i < rws.length) : rws.getD i [] ∈ rws ∧ rws[i]? = some (rws.getD i []) := by
  have e : rws[i]? = some rws[i] := List.getElem?_eq_getElem h
  have e2 : rws.getD i [] = rws[i] := by rw [List.getD_eq_getElem?_getD, e]; rfl
  rw [e2]
  exact ⟨List.getElem_mem h, e⟩
theorem marks_row (p2 : 2 ≤ p) (hr : ∀ r ∈ rws, isRow r p wd) : ∀ r ∈ withMarks rws, isRow r p ((wd + rws.length : Nat) : Int) := fun r hr2 => by
  unfold withMarks at hr2
  obtain ⟨i, hi, rfl⟩ := List.mem_map.mp hr2
  have hi := List.mem_range.mp hi
  have h1 := hr _ (getD_mem hi).1
  refine ⟨by rw [List.length_append, isRow_len h1, uRow_len hi], fun v hv => ?_⟩
  rcases List.mem_append.mp hv with h | h
  · exact h1.2 v h
  · unfold uRow at h
    simp only [List.mem_append, List.mem_replicate, List.mem_singleton] at h
    rcases h with (⟨_, rfl⟩ | rfl) | ⟨_, rfl⟩ <;> omega
theorem app_at {a b : List Int} {x : Nat} : (a ++ b).getD x 0 = if x < a.length then a.getD x 0 else b.getD (x - a.length) 0 := by
  rw [List.getD_eq_getElem?_getD]
  split
  · rename_i h; rw [List.getElem?_append_left h, ← List.getD_eq_getElem?_getD]
  · rename_i h; rw [List.getElem?_append_right (by omega), ← List.getD_eq_getElem?_getD]
theorem marks_take (hr : ∀ r ∈ rws, isRow r p wd) : (withMarks rws).map (List.take wd) = rws := by
  apply List.ext_getElem?
  intro i
  rw [List.getElem?_map]
  by_cases h : i < rws.length
  · rw [marks_at h, (getD_mem h).2]
    show some _ = some _
    rw [List.take_left' (isRow_len (hr _ (getD_mem h).1))]
  · rw [List.getElem?_eq_none (by rw [marks_len]; omega), List.getElem?_eq_none (by omega)]
    rfl
/-- the marks tell how a row is made -/
theorem marks_rel (hr : ∀ r ∈ rws, isRow r p wd) {v : Vc} (h : Spn p (inRows (withMarks rws)) v) : ∀ x, x < wd → Cg p (v x) (sumP (List.range rws.length) fun j => v (wd + j) * (rws.getD j []).getD x 0) := by
  induction h with
  | @zero v h =>
    intro x _
    refine (h x).trans (sumP_zero fun j _ => ?_).symm
    have := (h (wd + j)).mul (Cg.refl (p := p) ((rws.getD j []).getD x 0))
    rwa [Int.zero_mul] at this
  | @add u r v c hu hm h ih =>
    intro x hx
    obtain ⟨l, hl, rfl⟩ := hm
    unfold withMarks at hl
    obtain ⟨i, hi, rfl⟩ := List.mem_map.mp hl
    have hi := List.mem_range.mp hi
    have hil := isRow_len (hr _ (getD_mem hi).1)
    have e1 : vec (rws.getD i [] ++ uRow rws.length i) x = (rws.getD i []).getD x 0 := by unfold vec; rw [app_at, if_pos (by omega)]
    have e2 : ∀ j, vec (rws.getD i [] ++ uRow rws.length i) (wd + j) = if j = i then 1 else 0 := fun j => by
      unfold vec
      rw [app_at, if_neg (by omega), uRow_at, hil]
      by_cases q : j = i
      · rw [if_pos q, if_pos (by omega)]
      · rw [if_neg q, if_neg (by omega)]
    have h1 : Cg p (sumP (List.range rws.length) fun j => v (wd + j) * (rws.getD j []).getD x 0) (sumP (List.range rws.length) fun j => u (wd + j) * (rws.getD j []).getD x 0 + c * ((if j = i then 1 else 0) * (rws.getD j []).getD x 0)) := sumP_cg fun j _ => by
      have := (h (wd + j)).mul (Cg.refl (p := p) ((rws.getD j []).getD x 0))
      rw [e2] at this
      refine this.trans (.of_eq ?_)
      rw [Int.add_mul, Int.mul_assoc]
    rw [sumP_add, sumP_mul] at h1
    have h2 : Cg p (sumP (List.range rws.length) fun j => (if j = i then 1 else 0) * (rws.getD j []).getD x 0) ((rws.getD i []).getD x 0) := by
      refine (sumP_one (k := i) List.nodup_range (List.mem_range.mpr hi) fun j _ e => ?_).trans ?_
      · rw [if_neg e, Int.zero_mul]; exact .refl 0
      · rw [if_pos rfl, Int.one_mul]; exact .refl _
    have h3 := (h x)
    rw [e1] at h3
    exact h3.trans (((ih x hx).add ((Cg.refl c).mul h2.symm)).trans h1.symm)
theorem zrow_take {row : List Int} (hw : row.length = wd) (m : Nat) : (row ++ List.replicate m 0).take wd = row := List.take_left' hw
theorem mix_of (p2 : 2 ≤ p) (hr : ∀ r ∈ rws, isRow r p wd) {row : List Int} (hrow : isRow row p wd) {rs : RG} (S : St1W p wd (wd + rws.length) rs (withMarks rws)) (hz : ∀ x, x < wd → (clr p rs (row ++ List.replicate rws.length 0)).getD x 0 = 0) :
    Spn p (inRows rws) (vec row) ∧ IsMix p wd rws row (((clr p rs (row ++ List.replicate rws.length 0)).drop wd).map fun v => -v % p) := by
  have hl := isRow_len hrow
  have hrl : (row ++ List.replicate rws.length 0).length = wd + rws.length := by rw [List.length_append, List.length_replicate, hl]
  obtain ⟨_, sp⟩ := S.skip (by omega) hrl hz
  rw [marks_take hr, zrow_take hl] at sp
  refine ⟨sp, ?_, fun y hy => ?_, fun x hx => ?_⟩
  · rw [List.length_map, List.length_drop, clr_len, hrl]; omega
  · obtain ⟨z, _, rfl⟩ := List.mem_map.mp hy
    exact mod_b (by omega)
  · have h1 := marks_rel hr (S.rest hrl) x hx
    have e1 : vec (row ++ List.replicate rws.length 0) x = row.getD x 0 := by unfold vec; rw [app_at, if_pos (by omega)]
    have e2 : vec (clr p rs (row ++ List.replicate rws.length 0)) x = 0 := hz x hx
    rw [e1, e2, Int.sub_zero] at h1
    refine h1.trans (sumP_cg fun j hj => ?_)
    have hj := List.mem_range.mp hj
    refine Cg.mul ?_ (.refl _)
    have e3 : vec (row ++ List.replicate rws.length 0) (wd + j) = 0 := by unfold vec; rw [app_at, if_neg (by omega), rep_getD]
    have e4 : (((clr p rs (row ++ List.replicate rws.length 0)).drop wd).map fun v => -v % p).getD j 0 = (-(clr p rs (row ++ List.replicate rws.length 0)).getD (wd + j) 0) % p := by
      rw [List.getD_eq_getElem?_getD, List.getElem?_map, List.getElem?_drop]
      have hlt : wd + j < (clr p rs (row ++ List.replicate rws.length 0)).length := by rw [clr_len, hrl]; omega
      rw [List.getElem?_eq_getElem hlt, List.getD_eq_getElem?_getD, List.getElem?_eq_getElem hlt]
      rfl
    rw [e3, e4]
    refine (Cg.of_eq ?_).trans (Cg.mod _).symm
    show 0 - (clr p rs (row ++ List.replicate rws.length 0)).getD (wd + j) 0 = _
    omega
theorem mix_no (prm : Prm p) (hr : ∀ r ∈ rws, isRow r p wd) {row : List Int} (hrow : isRow row p wd) {rs : RG} (S : St1W p wd (wd + rws.length) rs (withMarks rws)) {k : Nat} (hk : k < wd) (h0 : (clr p rs (row ++ List.replicate rws.length 0)).getD k 0 ≠ 0)
    (hz : ∀ x, x < k → (clr p rs (row ++ List.replicate rws.length 0)).getD x 0 = 0) : ¬ Spn p (inRows rws) (vec row) := by
  have p2 := prm.1
  have hl := isRow_len hrow
  have hrl : (row ++ List.replicate rws.length 0).length = wd + rws.length := by rw [List.length_append, List.length_replicate, hl]
  have hin : InB p (row ++ List.replicate rws.length 0) := fun v hv => by
    rcases List.mem_append.mp hv with h | h
    · exact hrow.2 v h
    · rw [(List.mem_replicate.mp h).2]; omega
  have hb := getD_in (by omega) (clr_in (by omega) rs hin) k
  obtain ⟨u, hu⟩ := prm.inv (v := (clr p rs (row ++ List.replicate rws.length 0)).getD k 0) (by omega) (by omega)
  obtain ⟨_, sn⟩ := S.put (by omega) p2 hrl hin hk h0 hz hu
  rwa [marks_take hr, zrow_take hl] at sn
end
def rMix (p : Int) (wd : Nat) (rws : List (List Int)) : Rp (List Int) := fun H v row => ∃ l, rRow H v l ∧ IsMix p wd rws row l
theorem mono_mix (p : Int) (wd : Nat) (rws : List (List Int)) : Mono (rMix p wd rws) := fun _ _ _ _ k ⟨l, h1, h2⟩ => ⟨l, mono_row _ _ _ _ k h1, h2⟩
section
variable {P : Program} {w : World} {K : PySem.W.Frag} {mg : Str → Option Value} {base : Heap} {cT cS : Addr}
def spMixs (K : PySem.W.Frag) : Sp := fun vs H Q _ => ∃ (a b : Addr) (p : Int) (wd : Nat) (xs : List V) (rws : List (List Int)) (us : List V) (R : List (List Int)), vs = [.int p, .int (wd : Int), .ref a, .ref b] ∧ SqS K H a xs ∧ Paired (rRow H) xs rws ∧ rws.length ≤ 400 ∧ Prm p ∧ p ≤ 1000000 ∧ wd ≤ 400 ∧ (∀ r ∈ rws, isRow r p wd) ∧
  H b = some (.lst us) ∧ Paired (rRow H) us R ∧ R.length ≤ 400 ∧ (∀ row ∈ R, isRow row p wd ∧ Spn p (inRows rws) (vec row)) ∧ ∀ H' c vs', Same H H' → H c = none → H' c = some (.lst vs') → Paired (rMix p wd rws H') vs' R → Q (.ref c) H'
theorem ok_mixs (T : Tx K mg cT cS) {f : Addr} {fd : FuncData} (d : D K mg "mixtures" s_mixtures ["p", "wide", "rows", "made"] f fd) : FnOk P w K mg base CX0 3 f fd ["p", "wide", "rows", "made"] (spMixs K) := by
  obtain ⟨f1, fd1, d1⟩ := T.d_unit_rows
  have G1 : FnOk P w K mg base CX0 1 f1 fd1 ["wide"] spUnits := ok_units T d1
  obtain ⟨f2, fd2, d2⟩ := T.d_rungs_of
  have G2 : FnOk P w K mg base CX0 2 f2 fd2 ["p", "wide", "rows"] (spRungs (K := K)) := ok_rungs T d2
  obtain ⟨f3, fd3, d3⟩ := T.d_cleared
  have G3 : FnOk P w K mg base CX0 1 f3 fd3 ["p", "rungs", "row"] spCleared := ok_cleared T d3
  obtain ⟨f4, fd4, d4⟩ := T.d_first_place
  have G4 : FnOk P w K mg base CX0 1 f4 fd4 ["row", "wide"] spFirst := ok_first T d4
  refine d.F.ok sc_mixtures (fun vs H Q E h => ?_) (fun cdv A outer s H vs Q E hr h => ?_)
  · obtain ⟨a, b, p, wd, xs, rws, us, R, rfl, _⟩ := h
    rfl
  · obtain ⟨a, b, p, wd, xs, rws, us, R, rfl, hS, hp, hl, prm, pm, hwd, hrw, hb, hus, hRl, hR, q⟩ := h
    have p2 := prm.1
    have p0 : 0 < p := by omega
    have hlen := paired_len hp
    refine ⟨_, pss_cons (ps_set (i := 4) sc_mixtures.nd rfl (.inl rfl) (pe_call G1 (hr.mono (by decide)) rfl d1.m d1.F.kp d1.b .nil pass0 (pa_cons (pe_callB call_len_seq (by rfl) T.b_len PySem.boot_len (pa_cons (pv 2) pa_nil)) pa_nil)))
      (pss_cons (ps_set (i := 6) sc_mixtures.nd rfl (.inl rfl) (pe_ix ix_tup (pe_call G2 hr rfl d2.m d2.F.kp d2.b .nil pass0 (pa_cons (pv 0) (pa_cons (pv 1) (pa_cons
          (pe_lc (own := [("row", 5), ("mark", 10)]) (g := gTup K 2 (gCons (gName 5) (gCons (gName 10) gNil))) (tt := tYes) rfl sc_mixtures.nd (pi_zipM (by rfl) T.b_zip (pa_cons (pv 2) (pa_cons (pv 4) pa_nil))) (blkOk_by (N := N_mixtures) (sc := defScope s_mixtures) (by decide +kernel))
            (fun _ _ _ _ _ => pgT rfl rfl (pgs_cons (pg_name (i := 5) sc_mixtures.nd rfl (Or.inl rfl)) (pgs_cons (pg_name (i := 10) sc_mixtures.nd rfl (Or.inl rfl)) pgs_nil))) (fun _ _ _ _ _ => pts_nil)
            (fun _ _ _ _ _ => pe_op (catK (K := K) rfl) (pv 5) (pv 10))) pa_nil)))) pe_int (fun _ _ => rfl)))
      (pss_cons (ps_set (i := 7) sc_mixtures.nd rfl (.inl rfl) (pe_lst pa_nil))
      (pss_cons (ps_for PassesOwn.never rfl (pi_list (pv 3)) (pg_name (i := 5) sc_mixtures.nd rfl (Or.inl rfl))
        (pss_cons (ps_set (i := 8) sc_mixtures.nd rfl (.inl rfl) (pe_call G3 (hr.mono (by decide)) rfl d3.m d3.F.kp d3.b .nil pass0 (pa_cons (pv 0) (pa_cons (pv 6) (pa_cons (pe_op op_catA (pv 5) (pe_op op_repA (pe_tup (pa_cons pe_int pa_nil)) (pe_callB call_len_seq (by rfl) T.b_len PySem.boot_len (pa_cons (pv 2) pa_nil)))) pa_nil)))))
        (pss_cons (ps_set (i := 9) sc_mixtures.nd rfl (.inl rfl) (pe_cmp (pc_isN (pe_call G4 (hr.mono (by decide)) rfl d4.m d4.F.kp d4.b .nil pass0 (pa_cons (pv 8) (pa_cons (pv 1) pa_nil))))))
        (pss_one (ps_expr (pe_bm PySem.F.plainAttrs_list PySem.F.slot_list_append PySem.F.type_list_append mt_append (pv 7) (pa_cons
          (pe_ifExp (pt_val (pv 9)) (pe_callTy call_tuple_of (by rfl) T.b_tuple (by decide +kernel) (pa_cons
            (pe_lc (own := [("value", 11)]) (g := gName 11) (tt := tYes) rfl sc_mixtures.nd (pi_tup (pe_slice sl_tupA (pv 8) (po_some (pv 1)) po_none)) (blkOk_by (N := N_mixtures) (sc := defScope s_mixtures) (by decide +kernel)) (fun _ _ _ _ _ => pg_name (i := 11) sc_mixtures.nd rfl (Or.inl rfl)) (fun _ _ _ _ _ => pts_nil)
              (fun _ _ _ _ _ => pe_op op_mod (pe_un un_neg (pv 11)) (pv 0))) pa_nil)) pe_non) pa_nil)))))))
      (pss_one (ps_ret (pv 7)))))), ?_⟩
    have hWl : (withMarks rws).length = rws.length := marks_len rws
    have mrow := marks_row p2 hrw
    obtain ⟨kb, hkb, hkbS⟩ := hS.kd
    refine ⟨_, rfl, a, _, rfl, hS.or, xs.length, rfl, by omega, fun H2 ma ms s2 nma hma hpm => ?_⟩
    rw [hlen] at hpm
    dsimp only [gName, tSeq]
    have hml := paired_len hpm
    have hul : (uRows rws.length).length = rws.length := by unfold uRows; rw [List.length_map, List.length_range]
    refine ⟨_, rfl, _, rfl, _, rfl, _, rfl, a, ma, xs, ms, kb, true, rfl, hkbS _ s2, .of hma, fun D hD => ?_⟩
    refine lc_fm (walk_zipM (n := rws.length) (by omega)) rRow (fun i => some (rws.getD i [] ++ uRow rws.length i)) hD (fun H' s' => ⟨hkbS _ (s2.trans s'), .of (s' _ _ hma)⟩) ?_ ?_
    · rintro i x H3 H4 hi pv ⟨tz, u1, u2, rfl, nz, rfl, e1, e2⟩
      have s4 := same_new (o := .tup [u1, u2]) nz
      have s14 := pv.1.trans s4
      obtain ⟨r1, hr1, hv1⟩ := paired_get (paired_mono mono_row (s2.trans s14).keep hp) e1
      obtain ⟨r2, hr2, hv2⟩ := paired_get (paired_mono mono_row s14.keep hpm) e2
      have er1 : rws.getD i [] = r1 := by rw [List.getD_eq_getElem?_getD, hr1]; rfl
      have er2 : r2 = uRow rws.length i := by
        unfold uRows at hr2
        rw [List.getElem?_map, List.getElem?_range hi] at hr2
        exact (Option.some.inj hr2).symm
      subst er2
      have l1 := isRow_len (hrw r1 (List.mem_of_getElem? hr1))
      refine ⟨tz, _, rfl, .of upd_same, rfl, _, _, rfl, _, _, rfl, rfl, rfl, _, rfl, _, rfl, ?_⟩
      refine cat_rows hv1 hv2 (by rw [uRow_len hi]; omega) fun H9 v9 s9 h9 => ?_
      exact fm_keep mono_row pv hD (by omega) (s4.trans s9) (by rw [er1]) h9
    intro H3 ys s3 hD3 hp3
    rw [fm_all] at hp3
    have hp3' : Paired (rRow H3) ys (withMarks rws) := hp3
    refine ⟨D, p, wd, wd + rws.length, ys, withMarks rws, rfl, .inl hD3, hp3', by omega, prm, pm, by omega, by omega, mrow, fun H5 t dr nw rs s5 ht hdr hnw ⟨kvs, hk1, hk2⟩ _ S cnt => ?_⟩
    refine ⟨t, _, _, _, rfl, rfl, .of ht, at_of (j := 0) rfl rfl, ?_⟩
    dsimp only [gName, tSeq]
    refine ⟨by show 0 ≤ sizeLine; decide, fun fo nfo => ?_⟩
    have s6 := same_new (o := .lst []) nfo
    have s05 := (s2.trans s3).trans s5
    have s06 := s05.trans s6
    have nfo0 := s05.free nfo
    have hne : fo ≠ dr := fun e => by subst e; rw [hk1] at nfo; cases nfo
    have hSl := S.len
    have lus := paired_len hus
    have hdr6 := s6 _ _ hk1
    have hkv6 : Paired (kvR (upd H5 fo (.lst []))) kvs rs := kvR_mono (fun _ _ h => s6 _ _ h) hk2
    dsimp only [gName, tSeq]
    refine ⟨_, rfl, b, rfl, ⟨_, .of (s06 _ _ hb)⟩, ?_⟩
    refine for_it (walk_list (xs := us)) (fun i σ H' => Same H5 H' ∧ (∃ x5 x8 x9, σ = [some (.int p), some (.int (wd : Int)), some (.ref a), some (.ref b), some (.ref ma), x5, some (.ref dr), some (.ref fo), x8, x9, none, none]) ∧ ∃ zs, H' fo = some (.lst zs) ∧ Paired (rMix p wd rws H') zs (R.take i))
      ⟨s6, ⟨none, none, none, rfl⟩, [], upd_same, by rw [List.take_zero]; exact .nil⟩ (fun i σ H' _ h => .of (h.1 _ _ (s05 _ _ hb))) ?_ ?_
    · rintro i x σ H7 H8 hi ⟨s7, ⟨x5, x8, x9, rfl⟩, zs, hfo7, hz7⟩ ⟨rfl, hx⟩
      have t7 := s05.trans s7
      obtain ⟨row, hrowi, hu7⟩ := paired_get (paired_mono mono_row t7.keep hus) hx
      obtain ⟨hrow, hspn⟩ := hR row (List.mem_of_getElem? hrowi)
      have hdr7 := s7 _ _ hk1
      have hkv7 : Paired (kvR H8) kvs rs := kvR_mono (fun _ _ h => s7 _ _ h) hk2
      have hzl := paired_len hz7
      rw [List.length_take] at hzl
      have hrwl : (row ++ List.replicate rws.length 0).length = wd + rws.length := by rw [List.length_append, List.length_replicate, isRow_len hrow]
      have hrin : InB p (row ++ List.replicate rws.length 0) := fun v hv => by
        rcases List.mem_append.mp hv with h | h
        · exact hrow.2 v h
        · rw [(List.mem_replicate.mp h).2]; omega
      refine ⟨_, rfl, _, rfl, _, rfl, by show 1 ≤ sizeLine; decide, fun tq ntq => ?_⟩
      have s8 := same_new (o := .tup [V.int 0]) ntq
      refine ⟨_, rfl, a, _, rfl, (hS.same (t7.trans s8)).or, ?_⟩
      rw [hlen]
      refine zeros upd_same (by omega) fun H9 v9 s9 h9 => ?_
      refine cat_rows (mono_row _ _ _ _ (s8.trans s9).keep hu7) h9 (by rw [isRow_len hrow, List.length_replicate]; omega) fun H10 v10 s10 h10 => ?_
      have s710 := (s8.trans s9).trans s10
      refine ⟨dr, .dK kvs, v10, _, rs, p, rfl, s710 _ _ hdr7, ⟨kvs, rfl, kvR_mono (fun _ _ h => s710 _ _ h) hkv7⟩, S.nd, h10, p0, pm, hrin, by omega, by omega, fun z hz => by have := S.ok z hz; exact ⟨by omega, by omega⟩, fun H11 v11 s11 h11 => ?_⟩
      have s711 := s710.trans s11
      have hfo11 := s711 _ _ hfo7
      have cl := clr_len p rs (row ++ List.replicate rws.length 0)
      dsimp only [gName, tSeq]
      refine ⟨_, rfl, _, rfl, v11, _, wd, rfl, h11, by omega, by omega, fun hz => ?_, fun k hk hk0 hz => ?_⟩
      · dsimp only [gName, tSeq]
        rw [decide_eq_true rfl]
        obtain ⟨sp, mix⟩ := mix_of p2 hrw hrow S hz
        obtain ⟨t11, rfl, ht11⟩ := h11
        refine ⟨_, rfl, .inl ⟨rfl, _, .of hfo11⟩, _, rfl, _, rfl, iteT ⟨_, rfl, _, rfl, (wd : Int), rfl, ?_⟩⟩
        dsimp only [tNoPart]
        refine slice_fromP ht11 (by rw [List.length_map]; omega) fun H12 t12 s12 h12 => ⟨t12, rfl, ⟨_, .of h12⟩, fun D2 hD2 => ?_⟩
        rw [← List.map_drop] at h12
        refine lc_fm (walk_tup (xs := ((clr p rs (row ++ List.replicate rws.length 0)).drop wd).map V.int)) rInt (fun i => ((clr p rs (row ++ List.replicate rws.length 0)).drop wd)[i]?.bind fun x => some (-x % p)) hD2 (fun H' s' => .of (s'.keep.tup h12)) ?_ ?_
        · rintro i x H13 H14 hi pv ⟨rfl, hx⟩
          obtain ⟨j, hj, rfl⟩ := at_int hx
          rw [List.length_map, List.length_drop] at hi
          refine ⟨rfl, _, rfl, j, rfl, _, rfl, _, _, rfl, rfl, p0, ?_⟩
          exact fm_keep mono_int pv hD2 (by omega) (Same.refl _) (by rw [hj]; rfl) rfl
        · intro H13 ws s13 hD13 hp13
          rw [List.length_map, fm_some] at hp13
          have := paired_int hp13
          subst this
          refine ⟨D2, _, rfl, .inl ⟨.of hD13, fun nt nnt => ?_⟩⟩
          have s1' := same_new (o := .tup ((((clr p rs (row ++ List.replicate rws.length 0)).drop wd).map fun x => -x % p).map V.int)) nnt
          have s14 := (s12.trans s13).trans s1'
          have hnt := upd_same (H := H13) (a := nt) (o := .tup ((((clr p rs (row ++ List.replicate rws.length 0)).drop wd).map fun x => -x % p).map V.int))
          have hfo14 := s14 _ _ hfo11
          generalize upd H13 nt (.tup ((((clr p rs (row ++ List.replicate rws.length 0)).drop wd).map fun x => -x % p).map V.int)) = H14 at *
          have s714 := s711.trans s14
          refine ⟨fo, zs, _, rfl, rfl, hfo14, Nat.lt_of_le_of_lt (by omega : zs.length ≤ 400) (by decide), ?_⟩
          have kA : Keep H14 (upd H14 fo (.lst (zs ++ [V.ref nt]))) := keep_lst hfo14
          refine ⟨same_own (s7.trans s714) nfo, ⟨_, _, _, rfl⟩, zs ++ [V.ref nt], upd_same, ?_⟩
          rw [List.take_succ, hrowi]
          exact paired_app (paired_mono (mono_mix p wd rws) (s714.keep.trans kA) hz7) (.cons ⟨_, ⟨nt, rfl, kA.tup hnt⟩, mix⟩ .nil)
      · exact absurd hspn (mix_no prm hrw hrow S hk hk0 hz)
    · rintro σ H7 ⟨s7, ⟨x5, x8, x9, rfl⟩, zs, hfo7, hz7⟩
      rw [lus, List.take_length] at hz7
      exact ⟨_, rfl, q _ fo zs (s05.trans s7) nfo0 hfo7 hz7⟩
end
end S4

namespace S4
open PySem L2 TT MM
/-! ### trees built leaf by leaf -/
def Rooted (ties : List (Int × Int)) (s : Int) : Prop := ∃ par : Int → Int, ∀ u v, v ∈ nb ties u → (v = par u ∧ u ≠ s) ∨ (u = par v ∧ v ≠ s)
def tieOf (l q : Int) : Int × Int := if l < q then (l, q) else (q, l)
inductive Tr : List Int → List (Int × Int) → Prop
  | one (a : Int) : Tr [a] []
  | leaf {vs : List Int} {es : List (Int × Int)} {l q : Int} : Tr vs es → q ∈ vs → l ∉ vs → Tr (vs ++ [l]) (es ++ [tieOf l q])
theorem tieOf_mem {l q u v : Int} : ((u, v) = tieOf l q ∨ (v, u) = tieOf l q) ↔ (u = l ∧ v = q) ∨ (u = q ∧ v = l) := by
  unfold tieOf
  split
  · constructor
    · rintro (h | h)
      · cases h; exact .inl ⟨rfl, rfl⟩
      · cases h; exact .inr ⟨rfl, rfl⟩
    · rintro (⟨rfl, rfl⟩ | ⟨rfl, rfl⟩)
      · exact .inl rfl
      · exact .inr rfl
  · constructor
    · rintro (h | h)
      · cases h; exact .inr ⟨rfl, rfl⟩
      · cases h; exact .inl ⟨rfl, rfl⟩
    · rintro (⟨rfl, rfl⟩ | ⟨rfl, rfl⟩)
      · exact .inr rfl
      · exact .inl rfl
theorem nb_app {es : List (Int × Int)} {l q u v : Int} : v ∈ nb (es ++ [tieOf l q]) u ↔ v ∈ nb es u ∨ (u = l ∧ v = q) ∨ (u = q ∧ v = l) := by
  rw [nb_mem, nb_mem, List.mem_append, List.mem_append, List.mem_singleton, List.mem_singleton, ← tieOf_mem]
  constructor
  · rintro ((h | h) | (h | h))
    · exact .inl (.inl h)
    · exact .inr (.inl h)
    · exact .inl (.inr h)
    · exact .inr (.inr h)
  · rintro ((h | h) | (h | h))
    · exact .inl (.inl h)
    · exact .inr (.inl h)
    · exact .inl (.inr h)
    · exact .inr (.inr h)
theorem Tr.len {vs : List Int} {es : List (Int × Int)} (t : Tr vs es) : es.length + 1 = vs.length := by
  induction t with
  | one => rfl
  | leaf t _ _ ih => rw [List.length_append, List.length_append, List.length_singleton, List.length_singleton]; omega
theorem Tr.ends {vs : List Int} {es : List (Int × Int)} (t : Tr vs es) : ∀ z ∈ es, z.1 < z.2 ∧ z.1 ∈ vs ∧ z.2 ∈ vs := by
  induction t with
  | one => intro z h; cases h
  | @leaf vs es l q t hq hl ih =>
    intro z hz
    rcases List.mem_append.mp hz with hz | hz
    · obtain ⟨a, b, c⟩ := ih z hz
      exact ⟨a, List.mem_append_left _ b, List.mem_append_left _ c⟩
    · rw [List.mem_singleton.mp hz]
      have hne : l ≠ q := fun e => hl (e ▸ hq)
      unfold tieOf
      split
      · exact ⟨by assumption, by simp, by simp [hq]⟩
      · exact ⟨by simp only; omega, by simp [hq], by simp⟩
theorem Tr.nbIn {vs : List Int} {es : List (Int × Int)} (t : Tr vs es) {u v : Int} (h : v ∈ nb es u) : u ∈ vs ∧ v ∈ vs := by
  rcases nb_mem.mp h with h | h
  · exact (t.ends _ h).2
  · exact (t.ends _ h).2.symm
theorem Tr.nodup {vs : List Int} {es : List (Int × Int)} (t : Tr vs es) : es.Nodup := by
  induction t with
  | one => exact List.nodup_nil
  | @leaf vs es l q t hq hl ih =>
    rw [List.nodup_append]
    refine ⟨ih, by simp, fun a ha b hb e => ?_⟩
    subst e
    obtain ⟨_, h1, h2⟩ := t.ends _ ha
    have hb := List.mem_singleton.mp hb
    unfold tieOf at hb
    split at hb
    · rw [hb] at h1
      exact hl h1
    · rw [hb] at h2
      exact hl h2
theorem Tr.rooted {vs : List Int} {es : List (Int × Int)} (t : Tr vs es) : ∀ s ∈ vs, Rooted es s := by
  induction t with
  | one => intro s _; exact ⟨fun x => x, fun u v h => by simp [nb] at h⟩
  | @leaf vs es l q t hq hl ih =>
    intro s hs
    by_cases hsl : s = l
    · obtain ⟨par, hp⟩ := ih q hq
      refine ⟨fun x => if x = q then l else par x, fun u v h => ?_⟩
      have hlq : l ≠ q := fun e => hl (e ▸ hq)
      rcases nb_app.mp h with h | ⟨rfl, rfl⟩ | ⟨rfl, rfl⟩
      · obtain ⟨hu, hv⟩ := t.nbIn h
        rcases hp u v h with ⟨e, n⟩ | ⟨e, n⟩
        · exact .inl ⟨e.trans (if_neg n).symm, fun q => hl (by rw [← hsl, ← q]; exact hu)⟩
        · exact .inr ⟨e.trans (if_neg n).symm, fun q => hl (by rw [← hsl, ← q]; exact hv)⟩
      · exact .inr ⟨(if_pos rfl).symm, fun e => hlq (by rw [e, hsl])⟩
      · exact .inl ⟨(if_pos rfl).symm, fun e => hlq (by rw [e, hsl])⟩
    · have hsv : s ∈ vs := by
        rcases List.mem_append.mp hs with h | h
        · exact h
        · exact absurd (List.mem_singleton.mp h) hsl
      obtain ⟨par, hp⟩ := ih s hsv
      refine ⟨fun x => if x = l then q else par x, fun u v h => ?_⟩
      rcases nb_app.mp h with h | ⟨rfl, rfl⟩ | ⟨rfl, rfl⟩
      · obtain ⟨hu, hv⟩ := t.nbIn h
        have hul : u ≠ l := fun e => hl (e ▸ hu)
        have hvl : v ≠ l := fun e => hl (e ▸ hv)
        rcases hp u v h with ⟨e, n⟩ | ⟨e, n⟩
        · exact .inl ⟨e.trans (if_neg hul).symm, n⟩
        · exact .inr ⟨e.trans (if_neg hvl).symm, n⟩
      · exact .inl ⟨(if_pos rfl).symm, fun e => hsl e.symm⟩
      · exact .inr ⟨(if_pos rfl).symm, fun e => hsl e.symm⟩
theorem Rch.trans {ties : List (Int × Int)} {bar : Option Int} {a b c : Int} (h : Rch ties bar a b) (h2 : Rch ties bar b c) : Rch ties bar a c := by
  induction h2 with
  | refl => exact h
  | step _ hv hb ih => exact .step ih hv hb
theorem nb_symm {ties : List (Int × Int)} {u v : Int} (h : v ∈ nb ties u) : u ∈ nb ties v := by
  rcases nb_mem.mp h with h | h
  · exact nb_mem.mpr (.inr h)
  · exact nb_mem.mpr (.inl h)
theorem Rch.symm {ties : List (Int × Int)} {a b : Int} (h : Rch ties none a b) : Rch ties none b a := by
  induction h with
  | refl => exact .refl
  | step _ hv _ ih => exact Rch.trans (.step .refl (nb_symm hv) (fun e => nomatch e)) ih
theorem Rch.sub {t1 t2 : List (Int × Int)} {bar : Option Int} (hs : ∀ u v, v ∈ nb t1 u → v ∈ nb t2 u) {a b : Int} (h : Rch t1 bar a b) : Rch t2 bar a b := by
  induction h with
  | refl => exact .refl
  | step _ hv hb ih => exact .step ih (hs _ _ hv) hb
theorem Tr.conn {vs : List Int} {es : List (Int × Int)} (t : Tr vs es) : ∀ x ∈ vs, ∀ y ∈ vs, Rch es none x y := by
  induction t with
  | one a =>
    intro x hx y hy
    rw [List.mem_singleton.mp hx, List.mem_singleton.mp hy]
    exact .refl
  | @leaf vs es l q t hq hl ih =>
    have up : ∀ x ∈ vs, ∀ y ∈ vs, Rch (es ++ [tieOf l q]) none x y := fun x hx y hy => Rch.sub (fun u v h => nb_app.mpr (.inl h)) (ih x hx y hy)
    have ql : Rch (es ++ [tieOf l q]) none q l := .step .refl (nb_app.mpr (.inr (.inr ⟨rfl, rfl⟩))) (fun e => nomatch e)
    have toQ : ∀ x ∈ vs ++ [l], Rch (es ++ [tieOf l q]) none x q := fun x hx => by
      rcases List.mem_append.mp hx with h | h
      · exact up x h q hq
      · rw [List.mem_singleton.mp h]
        exact Rch.symm ql
    intro x hx y hy
    exact Rch.trans (toQ x hx) (Rch.symm (toQ y hy))
/-! ### the ties as they stand: sorted -/
theorem nb_perm {t1 t2 : List (Int × Int)} (h : t1.Perm t2) (u v : Int) : v ∈ nb t1 u ↔ v ∈ nb t2 u := by
  rw [nb_mem, nb_mem, h.mem_iff, h.mem_iff]
structure TreeOk (ties : List (Int × Int)) (n : Nat) : Prop where
  ok : TiesOk ties n
  rt : ∀ s, 0 ≤ s → s < (n : Int) → Rooted ties s
theorem treeOk_of {vs : List Int} {es ties : List (Int × Int)} {n : Nat} (t : Tr vs es) (hv : vs.Perm (rng n)) (hn : n ≤ 24) (hp : ties.Perm es) (hs : ties.Pairwise lxLe) : TreeOk ties n := by
  have hl : vs.length = n := by rw [hv.length_eq, rng_len]
  have hlen := t.len
  have h0 : ∀ x : Int, 0 ≤ x → x < (n : Int) → x ∈ vs := fun x a b => hv.mem_iff.mpr (rng_mem.mpr ⟨a, b⟩)
  refine ⟨⟨by rw [hp.length_eq]; omega, hn, fun z hz => ?_, lex_strict hs (hp.nodup_iff.mpr t.nodup), fun x a b => ?_⟩, fun s a b => ?_⟩
  · obtain ⟨a, b, c⟩ := t.ends z (hp.mem_iff.mp hz)
    have := rng_mem.mp (hv.mem_iff.mp b)
    have := rng_mem.mp (hv.mem_iff.mp c)
    omega
  · exact Rch.sub (fun u v h => (nb_perm hp u v).mpr h) (t.conn 0 (h0 0 (by omega) (by omega)) x (h0 x a b))
  · obtain ⟨par, hp2⟩ := t.rooted s (h0 s a b)
    exact ⟨par, fun u v h => hp2 u v ((nb_perm hp u v).mp h)⟩
theorem nb_nodup {ties : List (Int × Int)} {n : Nat} (o : TiesOk ties n) (post : Int) : (nb ties post).Nodup := by
  unfold nb
  rw [List.nodup_iff_pairwise_ne, List.pairwise_filterMap]
  refine List.Pairwise.imp_of_mem (fun {z y} hz hy hlt => ?_) o.asc
  intro a ha b hb hab
  subst hab
  have h1 := o.b0 z hz
  have h2 := o.b0 y hy
  unfold nbOf at ha hb
  split at ha
  · split at hb
    · have ha := Option.some.inj ha
      have hb := Option.some.inj hb
      unfold lxLt at hlt
      split at ha <;> split at hb <;> omega
    · cases hb
  · cases ha
/-! ### the two sides of a tie -/
inductive Desc (par : Int → Int) (a b : Int) : Int → Prop
  | top : Desc par a b b
  | sub {v : Int} : Desc par a b (par v) → v ≠ a → Desc par a b v
theorem sides_apart {ties : List (Int × Int)} {a b x : Int} (r : Rooted ties a) (hab : b ∈ nb ties a) (h1 : Rch ties (some b) a x) (h2 : Rch ties (some a) b x) : False := by
  obtain ⟨par, hp⟩ := r
  have hpb : a = par b ∧ b ≠ a := by
    rcases hp a b hab with ⟨_, h⟩ | h
    · exact absurd rfl h
    · exact h
  have inv : ∀ u, Desc par a b u → u = b ∨ (Desc par a b (par u) ∧ u ≠ a) := fun u h => by
    cases h with
    | top => exact .inl rfl
    | sub h n => exact .inr ⟨h, n⟩
  have hB : ∀ x, Rch ties (some a) b x → Desc par a b x ∧ x ≠ a := fun x h => by
    induction h with
    | refl => exact ⟨.top, hpb.2⟩
    | @step u v _ hv hb ih =>
      have hva : v ≠ a := fun e => hb (by rw [e])
      refine ⟨?_, hva⟩
      rcases hp u v hv with ⟨e, n⟩ | ⟨e, n⟩
      · rcases inv u ih.1 with q | ⟨q, _⟩
        · rw [q, ← hpb.1] at e
          exact absurd e hva
        · rw [e]
          exact q
      · exact .sub (by rw [← e]; exact ih.1) n
  have hA : ∀ x, Rch ties (some b) a x → ¬ Desc par a b x := fun x h => by
    induction h with
    | refl =>
      intro h
      rcases inv a h with q | ⟨_, q⟩
      · exact hpb.2 q.symm
      · exact q rfl
    | @step u v _ hv hb ih =>
      have hvb : v ≠ b := fun e => hb (by rw [e])
      intro hd
      rcases hp u v hv with ⟨e, n⟩ | ⟨e, n⟩
      · exact ih (.sub (by rw [← e]; exact hd) n)
      · rcases inv v hd with q | ⟨q, _⟩
        · exact hvb q
        · rw [← e] at q
          exact ih q
  exact hA x h1 (hB x h2).1
theorem sides_all {ties : List (Int × Int)} {a b x : Int} (h : Rch ties none a x) : Rch ties (some b) a x ∨ Rch ties (some a) b x := by
  induction h with
  | refl => exact .inl .refl
  | @step u v _ hv _ ih =>
    rcases ih with h | h
    · by_cases e : v = b
      · subst e; exact .inr .refl
      · exact .inl (.step h hv (fun q => e (Option.some.inj q).symm))
    · by_cases e : v = a
      · subst e; exact .inl .refl
      · exact .inr (.step h hv (fun q => e (Option.some.inj q).symm))
/-- the two sides together are all posts, none twice -/
theorem sides_perm {ties : List (Int × Int)} {n : Nat} (o : TreeOk ties n) {a b : Int} (hab : b ∈ nb ties a) {l m : List Int} (hl : l.Nodup) (hm : m.Nodup) (h1 : ∀ x, x ∈ l ↔ Rch ties (some b) a x) (h2 : ∀ x, x ∈ m ↔ Rch ties (some a) b x) : (l ++ m).Perm (rng n) := by
  have hb : b ∈ rng n := by
    have := o.ok.shut
    rcases nb_mem.mp hab with h | h
    · have := o.ok.b0 _ h
      exact rng_mem.mpr ⟨by simp only at this; omega, by simp only at this; omega⟩
    · have := o.ok.b0 _ h
      exact rng_mem.mpr ⟨by simp only at this; omega, by simp only at this; omega⟩
  have ha : a ∈ rng n := o.ok.shut.cl b hb a (nb_symm hab)
  obtain ⟨a1, a2⟩ := rng_mem.mp ha
  have nd : (l ++ m).Nodup := by
    rw [List.nodup_append]
    refine ⟨hl, hm, fun x hx y hy e => ?_⟩
    subst e
    exact sides_apart (o.rt a a1 a2) hab ((h1 x).mp hx) ((h2 x).mp hy)
  refine (List.perm_ext_iff_of_nodup nd (rng_nodup n)).mpr fun x => ?_
  rw [List.mem_append, h1, h2]
  constructor
  · rintro (h | h)
    · exact h.inV o.ok.shut ha
    · exact h.inV o.ok.shut hb
  · intro h
    obtain ⟨x1, x2⟩ := rng_mem.mp h
    exact sides_all (Rch.trans (Rch.symm (o.ok.all a a1 a2)) (o.ok.all x x1 x2))
/-! ### the walk of the law -/
theorem riPerm {ties : List (Int × Int)} {bar : Option Int} {s : Int} {ex : Option Int} {f f' wt : List Int} (r : RI ties bar s ex f wt) (h : f'.Perm f) : RI ties bar s ex f' wt :=
  ⟨h.nodup_iff.mpr r.nd, h.mem_iff.mpr r.st, fun v hv => r.ok v (h.mem_iff.mp hv), fun v hv => h.mem_iff.mpr (r.sub v hv), fun u hu hw he v hv hb => h.mem_iff.mpr (r.cl u (h.mem_iff.mp hu) hw he v hv hb), fun q e => h.mem_iff.mpr (r.exf q e), by rw [h.length_eq]; exact r.wl⟩
theorem riAll {ties : List (Int × Int)} {bar : Option Int} {s h : Int} : ∀ {L f wt : List Int}, RI ties bar s (some h) f wt → L.Nodup → (∀ v ∈ L, v ∈ nb ties h ∧ bar ≠ some v ∧ v ∉ f) → RI ties bar s (some h) (f ++ L) (wt ++ L)
  | [], f, wt, r, _, _ => by rw [List.append_nil, List.append_nil]; exact r
  | v :: L, f, wt, r, hn, hL => by
    obtain ⟨h1, h2⟩ := List.nodup_cons.mp hn
    obtain ⟨a, b, c⟩ := hL v (by simp)
    have := riAll (L := L) (r.add a b c) h2 fun u hu => by
      obtain ⟨x, y, z⟩ := hL u (by simp [hu])
      refine ⟨x, y, fun q => ?_⟩
      rcases List.mem_append.mp q with q | q
      · exact z q
      · exact h1 (by rw [← List.mem_singleton.mp q]; exact hu)
    rw [List.append_assoc, List.append_assoc] at this
    exact this
/-- what stands: F taken, W waiting -/
structure LW (ties : List (Int × Int)) (bar s : Int) (par : Int → Int) (F W : List Int) : Prop where
  ri : RI ties (some bar) s none (F ++ W) W
  pf : ∀ u ∈ F, u = s ∨ par u ∈ F
  pw : ∀ u ∈ W, u = s ∨ par u ∈ F
theorem LW.step {ties : List (Int × Int)} {bar s : Int} {par : Int → Int} (hp : ∀ u v, v ∈ nb ties u → (v = par u ∧ u ≠ s) ∨ (u = par v ∧ v ≠ s)) {F W : List Int} {h : Int} {ns : List Int} (r : LW ties bar s par F (W ++ [h])) (hn : ns.Nodup) (hm : ∀ v, v ∈ ns ↔ v ∈ nb ties h) :
    LW ties bar s par (F ++ [h]) (W ++ ns.filter fun v => decide (v ∉ F ++ [h] ∧ v ≠ bar)) := by
  have nd := r.ri.nd
  have hlast : (W ++ [h])[(W ++ [h]).length - 1]? = some h := by rw [List.length_append, List.length_singleton, Nat.add_sub_cancel, List.getElem?_append_right (Nat.le_refl _), Nat.sub_self]; rfl
  have r1 := r.ri.pop hlast
  have edl : (W ++ [h]).dropLast = W := by simp
  rw [edl] at r1
  have pm : ((F ++ [h]) ++ W).Perm (F ++ (W ++ [h])) := by
    rw [List.append_assoc]
    exact List.Perm.append_left F List.perm_append_comm
  have r2 := riPerm r1 pm
  have hF : h ∉ F := fun q => by
    rw [List.nodup_append] at nd
    exact nd.2.2 h q h (by simp) rfl
  have hW : ∀ v, v ∈ nb ties h → v ∉ F ++ [h] → v ∉ W ∧ h = par v := fun v hv hnf => by
    rcases hp h v hv with ⟨e, n⟩ | ⟨e, n⟩
    · exfalso
      rcases r.pw h (by simp) with q | q
      · exact n q
      · rw [← e] at q
        exact hnf (List.mem_append_left _ q)
    · refine ⟨fun q => ?_, e⟩
      rcases r.pw v (List.mem_append_left _ q) with z | z
      · exact n z
      · rw [← e] at z
        exact hF z
  have r3 := riAll (L := ns.filter fun v => decide (v ∉ F ++ [h] ∧ v ≠ bar)) r2 (hn.filter _) fun v hv => by
    obtain ⟨h1, h2⟩ := List.mem_filter.mp hv
    obtain ⟨h3, h4⟩ := of_decide_eq_true h2
    have h5 := (hm v).mp h1
    refine ⟨h5, fun q => h4 (Option.some.inj q).symm, fun q => ?_⟩
    rcases List.mem_append.mp q with q | q
    · exact h3 q
    · exact (hW v h5 h3).1 q
  have r4 := r3.close fun v hv hb => by
    by_cases hf : v ∈ F ++ [h]
    · exact List.mem_append_left _ (List.mem_append_left _ hf)
    · exact List.mem_append_right _ (List.mem_filter.mpr ⟨(hm v).mpr hv, decide_eq_true ⟨hf, fun e => hb (by rw [e])⟩⟩)
  rw [List.append_assoc] at r4
  refine ⟨r4, fun u hu => ?_, fun u hu => ?_⟩
  · rcases List.mem_append.mp hu with hu | hu
    · exact (r.pf u hu).imp id fun q => List.mem_append_left _ q
    · rw [List.mem_singleton.mp hu]
      exact (r.pw h (by simp)).imp id fun q => List.mem_append_left _ q
  · rcases List.mem_append.mp hu with hu | hu
    · exact (r.pw u (List.mem_append_left _ hu)).imp id fun q => List.mem_append_left _ q
    · obtain ⟨h1, h2⟩ := List.mem_filter.mp hu
      obtain ⟨h3, h4⟩ := of_decide_eq_true h2
      right
      rw [← (hW u ((hm u).mp h1) h3).2]
      simp
theorem LW.start {ties : List (Int × Int)} {bar s : Int} {par : Int → Int} : LW ties bar s par [] [s] := ⟨.start, fun _ h => (nomatch h), fun u h => .inl (List.mem_singleton.mp h)⟩
end S4

namespace S4
open PySem L2 TT MM
/-! ### rules as data -/
abbrev Rule := List Int × Int
def rRule : Rp Rule := fun H v r => ∃ t x, v = .ref t ∧ H t = some (.tup [x, .int r.2]) ∧ rRow H x r.1
theorem mono_rule : Mono rRule := fun _ _ _ _ k ⟨t, x, e, h, r⟩ => ⟨t, x, e, k.tup h, mono_row _ _ _ _ k r⟩
abbrev rOwn : Rp (List Rule) := rTup rRule
abbrev rRls : Rp (List (List Rule)) := rTup rOwn
theorem mono_own : Mono rOwn := mono_tup mono_rule
theorem mono_rls : Mono rRls := mono_tup mono_own
/-- the places of the unknowns near a post -/
def nearU (ties : List (Int × Int)) (unk : List Int) (post : Int) (x : Int) : Prop := x ∈ heldL unk post ∨ ∃ q ∈ nb ties post, x ∈ heldL unk q
structure RuleOk (p : Int) (ties : List (Int × Int)) (unk : List Int) (post : Int) (r : Rule) : Prop where
  row : isRow r.1 p unk.sum
  b0 : 0 ≤ r.2
  b1 : r.2 < p
  near : ∀ i v, r.1[i]? = some v → v = 0 ∨ nearU ties unk post (i : Nat)
structure RD where
  p : Int
  ties : List (Int × Int)
  unk : List Int
  rules : List (List Rule)
structure RulesOk (S : RD) (n : Nat) : Prop where
  tree : TreeOk S.ties n
  clock : NoDiv S.p
  unk : CountsOk S.unk n
  len : S.rules.length = n
  l8 : ∀ own ∈ S.rules, own.length ≤ 8
  l60 : (S.rules.map List.length).sum ≤ 60
  ok : ∀ post own, S.rules[post]? = some own → ∀ r ∈ own, RuleOk S.p S.ties S.unk (post : Nat) r
theorem cat_of {K : PySem.W.Frag} {H : Hp} {a b : Addr} {xs ys : List V} {Q : VK} (ha : H a = some (.tup xs)) (hb : H b = some (.tup ys)) (hl : xs.length + ys.length ≤ 10000) (q : ∀ H' p, Same H H' → H' p = some (.tup (xs ++ ys)) → Q (.ref p) H') : rCatA K (.ref a) (.ref b) H Q :=
  ⟨a, b, xs, ys, rfl, rfl, .of ha, .of hb, Nat.le_trans hl (by decide), fun e => q H b (.refl _) (by subst e; exact hb), fun _ e => q H a (.refl _) (by subst e; rw [List.append_nil]; exact ha), fun _ _ p np => q _ p (same_new np) upd_same⟩
theorem slice_from {K : PySem.W.Frag} {H : Hp} {a : Addr} {xs : List V} {k : Nat} {Q : VK} (h : H a = some (.tup xs)) (q : ∀ H' p, Same H H' → H' p = some (.tup (xs.drop k)) → Q (.ref p) H') : rSlA K (.ref a) (some (k : Int)) none H Q := by
  have ec : cutV xs (some (k : Int)) none = xs.drop k := by
    unfold cutV
    rw [HT.sIx_none, HT.sIx_nat]
    by_cases hk : k ≤ xs.length
    · rw [Nat.min_eq_left hk, List.take_of_length_le (by rw [List.length_drop]; omega)]
    · rw [Nat.min_eq_right (by omega), Nat.sub_self, List.take_zero, List.drop_of_length_le (by omega)]
  refine ⟨a, xs, rfl, .of h, fun e => q H a (.refl _) ?_, fun _ p np => ?_⟩
  · rw [HT.sIx_nat] at e
    have e1 := e.1
    by_cases h0 : k = 0
    · rw [h0, List.drop_zero]; exact h
    · have : xs = [] := List.eq_nil_of_length_eq_zero (by omega)
      subst this
      rw [List.drop_nil]
      exact h
  · rw [ec]
    exact q _ p (same_new np) upd_same
theorem inV_ints (x : Int) : ∀ l : List Int, inV (.int x) (l.map V.int) = decide (x ∈ l)
  | [] => by simp [inV]
  | a :: l => by
    have ih := inV_ints x l
    show ((a == x) || inV (.int x) (l.map V.int)) = _
    rw [ih]
    by_cases h : a = x
    · subst h; simp
    · have h' : ¬ x = a := fun e => h e.symm
      simp [h, h']
theorem flat_ints : ∀ l : List Int, (l.map V.int).all flatV = true
  | [] => rfl
  | a :: l => by
    show (true && (l.map V.int).all flatV) = true
    rw [flat_ints l]
    rfl
theorem heldL_len {unk : List Int} {n : Nat} (oh : CountsOk unk n) (y : Int) : (heldL unk y).length ≤ 60 := by
  unfold heldL
  rw [List.length_map, List.length_range]
  have := take_sum_le oh y.toNat
  omega
section
variable {P : Program} {w : World} {K : PySem.W.Frag} {mg : Str → Option Value} {base : Heap} {cT cS : Addr}
def spNearU (cT : Addr) : Sp := fun vs H Q _ => ∃ (u v : V) (ties : List (Int × Int)) (unk : List Int) (post : Int) (n : Nat), vs = [u, v, .int post] ∧ rTree cT H u ties ∧ TiesOk ties n ∧ rRow H v unk ∧ CountsOk unk n ∧ 0 ≤ post ∧ post < (n : Int) ∧
  ∀ H' (a : Addr) (l : List Int), Same H H' → H' a = some (.lst (l.map V.int)) → l.length ≤ 1500 → (∀ x : Int, x ∈ l ↔ nearU ties unk post x) → Q (.ref a) H'
theorem ok_nearU (T : Tx K mg cT cS) {f : Addr} {fd : FuncData} (d : D K mg "near_unknowns" s_near_unknowns ["tree", "unknowns", "post"] f fd) : FnOk P w K mg base CX0 4 f fd ["tree", "unknowns", "post"] (spNearU cT) := by
  obtain ⟨f1, fd1, d1⟩ := T.d_tied
  have G1 := ok_tied (P := P) (w := w) (base := base) T d1
  obtain ⟨f2, fd2, d2⟩ := T.d_own_places
  have G2 := ok_own (P := P) (w := w) (base := base) T d2
  refine d.F.ok sc_near_unknowns (fun vs H Q E h => ?_) (fun cdv A outer s H vs Q E hr h => ?_)
  · obtain ⟨u, v, ties, unk, post, n, rfl, _⟩ := h
    rfl
  · obtain ⟨u, v, ties, unk, post, n, rfl, hT, ok, hv, oh, h0, h1, q⟩ := h
    refine ⟨_, pss_one (ps_ret (pe_lc2 (own := [("near", 3), ("place", 4)]) (vs1 := [4]) (wi1 := _) (g := (gName 3)) (g1 := (gName 4)) (tt := tYes) (tt1 := tYes) rfl sc_near_unknowns.nd
          (pi_tup (pe_op op_catA (pe_tup (pa_cons (pv 2) pa_nil)) (pe_call G1 (hr.mono (by decide)) rfl d1.m d1.F.kp d1.b .nil pass0 (pa_cons (pv 0) (pa_cons (pv 2) pa_nil))))) (blkOk_by (N := N_near_unknowns) (sc := defScope s_near_unknowns) (by decide +kernel)) (by decide)
          (fun _ _ _ _ _ => (pg_name (i := 3) sc_near_unknowns.nd rfl (Or.inl rfl))) (fun _ _ _ _ _ => pts_nil)
          (fun _ _ _ _ _ => (piT rfl (pi_tup (pe_call G2 (hr.mono (by decide)) rfl d2.m d2.F.kp d2.b .nil pass0 (pa_cons (pv 1) (pa_cons (pv 3) pa_nil))))))
          (fun _ _ _ _ _ => (pg_name (i := 4) sc_near_unknowns.nd rfl (Or.inl rfl))) (fun _ _ _ _ _ => pts_nil)
          (fun _ _ _ _ _ => (pv 4)))), ?_⟩
    have hn := ok.len
    have hn24 := ok.n24
    obtain ⟨tv, rfl, htv⟩ := id hv
    refine ⟨_, rfl, by show 1 ≤ sizeLine; decide, fun p1 np1 => ?_⟩
    have s1 := same_new (o := .tup [V.int post]) np1
    refine ⟨_, rfl, _, rfl, u, ties, post, rfl, mono_tree cT _ _ _ _ s1.keep hT, by omega, h0, by omega, fun H2 v2 ns s2 hrow hperm hup => ?_⟩
    obtain ⟨t2, rfl, ht2⟩ := hrow
    have nbl : (nb ties post).length ≤ ties.length := List.length_filterMap_le _ _
    have nsl := hperm.length_eq
    refine cat_of (s2 _ _ upd_same) ht2 (by rw [List.length_map]; show 1 + ns.length ≤ 10000; omega) fun H3 t3 s3 ht3 => ?_
    have s13 := (s1.trans s2).trans s3
    have ht3' : H3 t3 = some (.tup ((post :: ns).map V.int)) := ht3
    have hb : ∀ j : Nat, (((post :: ns)[j]?.map (heldL unk)).getD []).length ≤ 60 := by
      intro j
      cases (post :: ns)[j]? with
      | none => simp
      | some y => exact heldL_len oh y
    have hin : ∀ x ∈ post :: ns, 0 ≤ x ∧ x < (n : Int) := fun x hx => by
      rcases List.mem_cons.mp hx with rfl | hx
      · exact ⟨h0, h1⟩
      · have hx := hperm.mem_iff.mp hx
        rcases nb_mem.mp hx with h | h
        · have := ok.b0 _ h; simp only at this; omega
        · have := ok.b0 _ h; simp only at this; omega
    refine ⟨t3, rfl, ⟨_, .of ht3'⟩, fun D hD => ?_⟩
    refine walk_W (walk_tup (xs := (post :: ns).map V.int)) _ (PvFl rInt (fun i => ((post :: ns)[i]?.map (heldL unk)).getD []) D H3) (fl_start hD) (fun i H' _ h => .of (h.1.keep.tup ht3')) ?_ ?_
    · rintro i x H4 H5 hi pv ⟨rfl, hx⟩
      obtain ⟨k, hk, rfl⟩ := at_int hx
      rw [List.length_map, List.length_cons] at hi
      obtain ⟨g1, g2⟩ := hin k (List.mem_of_getElem? hk)
      refine ⟨rfl, ?_⟩
      refine ⟨_, rfl, _, rfl, .ref tv, unk, k, n, rfl, ⟨tv, rfl, (s13.trans pv.1) _ _ htv⟩, hn24, oh, g1, g2, fun H6 v6 s6 hrow6 => ?_⟩
      obtain ⟨t6, rfl, ht6⟩ := hrow6
      refine ⟨t6, rfl, ⟨_, .of ht6⟩, ?_⟩
      have hF : ((post :: ns)[i]?.map (heldL unk)).getD [] = heldL unk k := by rw [hk]; rfl
      have hpre := flat_len (i := i) (b := 60) fun j _ => hb j
      have hbi := hb i
      refine walk_W (walk_tup (xs := (heldL unk k).map V.int)) _ (PvIn rInt _ (((post :: ns)[i]?.map (heldL unk)).getD []) D H3 H6) (fl_in mono_int pv s6) (fun j H' _ h => .of (h.2.1.tup ht6)) ?_ ?_
      · rintro j y H7 H8 hj pv6 ⟨rfl, hy⟩
        obtain ⟨m, hm, rfl⟩ := at_int hy
        refine ⟨rfl, _, rfl, ?_⟩
        rw [List.length_map] at hj
        rw [hF] at hbi
        exact in_keep mono_int pv6 hD (by omega) (Same.refl _) (by rw [hF]; exact hm) rfl
      · intro H7 pv6
        exact in_fl (by rw [hF, List.length_map]) pv6
    · intro H4 pv
      obtain ⟨s4, ys, hD4, hp4⟩ := pv
      rw [List.length_map, fl_list] at hp4
      have := paired_int hp4
      subst this
      have hlen := flat_len (i := (post :: ns).length) (b := 60) fun j _ => hb j
      rw [fl_list, List.length_cons] at hlen
      refine q _ D _ (s13.trans s4) hD4 (by omega) fun x => ?_
      rw [List.mem_flatMap]
      unfold nearU
      constructor
      · rintro ⟨y, hy, hx⟩
        rcases List.mem_cons.mp hy with rfl | hy
        · exact .inl hx
        · exact .inr ⟨y, hperm.mem_iff.mp hy, hx⟩
      · rintro (h | ⟨y, hy, hx⟩)
        · exact ⟨post, by simp, h⟩
        · exact ⟨y, List.mem_cons_of_mem _ (hperm.mem_iff.mpr hy), hx⟩
def spIsRule : Sp := fun vs H Q _ => ∃ (v : V) (a : Addr) (p : Int) (wd : Int) (l : List Int) (r : Rule), vs = [.int p, .int wd, .ref a, v] ∧ rRule H v r ∧ H a = some (.lst (l.map V.int)) ∧ isRow r.1 p wd ∧ wd ≤ 60 ∧ 0 ≤ r.2 ∧ r.2 < p ∧ (∀ i v, r.1[i]? = some v → v = 0 ∨ ((i : Nat) : Int) ∈ l) ∧ ∀ H', Same H H' → Q (.bl true) H'
theorem ok_is_rule (T : Tx K mg cT cS) {f : Addr} {fd : FuncData} (d : D K mg "is_rule" s_is_rule ["p", "wide", "near", "thing"] f fd) : FnOk P w K mg base CX0 4 f fd ["p", "wide", "near", "thing"] spIsRule := by
  obtain ⟨f1, fd1, d1⟩ := T.d_is_pair
  have G1 := ok_is_pair (P := P) (w := w) (base := base) T d1
  obtain ⟨f2, fd2, d2⟩ := T.d_is_row
  have G2 := ok_is_row (P := P) (w := w) (base := base) T d2
  obtain ⟨f3, fd3, d3⟩ := T.d_is_below
  have G3 := ok_is_below (P := P) (w := w) (base := base) T d3
  refine d.F.ok sc_is_rule (fun vs H Q E h => ?_) (fun cdv A outer s H vs Q E hr h => ?_)
  · obtain ⟨v, a, p, wd, l, r, rfl, _⟩ := h
    rfl
  · obtain ⟨v, a, p, wd, l, r, rfl, hv, ha, hrow, hwd, b0, b1, hnear, q⟩ := h
    refine ⟨_, pss_cons (ps_if (PW.pt (pw_or (pt_not (pt_val (pe_call G1 (hr.mono (by decide)) rfl d1.m d1.F.kp d1.b .nil pass0 (pa_cons (pv 3) pa_nil)))) (pw_or (pt_not (pt_val (pe_call G2 (hr.mono (by decide)) rfl d2.m d2.F.kp d2.b .nil pass0 (pa_cons (pe_ix ix_tup (pv 3) pe_int (fun _ _ => rfl)) (pa_cons (pv 0) (pa_cons (pv 1) pa_nil)))))) (pw_or1 (pt_not (pt_val (pe_call G3 (hr.mono (by decide)) rfl d3.m d3.F.kp d3.b .nil pass0 (pa_cons (pe_ix ix_tup (pv 3) pe_int (fun _ _ => rfl)) (pa_cons (pv 0) pa_nil))))))))) (pss_one (ps_ret pe_bl)) pss_nil)
      (pss_one (ps_ret (pe_callB (cr_all rfl) (by rfl) T.b_all (by decide +kernel) (pa_cons (pe_lc (own := [("place", 4), ("value", 5)]) (g := (gTup K 2 (gCons (gName 4) (gCons (gName 5) gNil)))) (tt := tYes) rfl sc_is_rule.nd (pi_enumT (by rfl) T.b_enumerate (pa_cons (pe_ix ix_tup (pv 3) pe_int (fun _ _ => rfl)) pa_nil)) (blkOk_by (N := N_is_rule) (sc := defScope s_is_rule) (by decide +kernel)) (fun _ _ _ _ _ => (pgT rfl rfl (pgs_cons (pg_name (i := 4) sc_is_rule.nd rfl (Or.inl rfl)) (pgs_cons (pg_name (i := 5) sc_is_rule.nd rfl (Or.inl rfl)) pgs_nil)))) (fun _ _ _ _ _ => pts_nil)
            (fun _ _ _ _ _ => (pe_or (pe_cmpR op_eq (pv 5) pe_int (nomark _)) (pe_one (pe_cmpR (inS (K := K) rfl) (pv 4) (pv 2) (by rfl)))))) pa_nil)))), ?_⟩
    obtain ⟨t, x, rfl, ht, tx, rfl, htx⟩ := id hv
    have hrl := hrow.1
    refine ⟨_, rfl, t, _, _, rfl, ht, _, rfl, iteF ⟨_, rfl, t, _, _, _, rfl, rfl, .of ht, at_of (j := 0) rfl rfl, _, rfl, _, rfl, .ref tx, r.1, p, wd, rfl, ⟨tx, rfl, htx⟩, by omega, hrow, fun H2 s2 => ⟨_, rfl, iteF ?_⟩⟩⟩
    refine ⟨_, rfl, t, _, _, _, rfl, rfl, .of (s2 _ _ ht), at_of (j := 1) rfl rfl, _, rfl, r.2, p, rfl, ?_⟩
    rw [decide_eq_true ⟨b0, b1⟩]
    refine ⟨_, rfl, iteF ?_⟩
    refine ⟨_, rfl, t, _, _, _, rfl, rfl, .of (s2 _ _ ht), at_of (j := 0) rfl rfl, tx, r.1.map V.int, rfl, .of (s2 _ _ htx), fun D hD => ?_⟩
    refine lc_fm (walk_enumT (xs := r.1.map V.int)) rBl (fun i => r.1[i]?.bind fun _ => some true) hD (fun H' s' => .of (s'.keep.tup (s2 _ _ htx))) ?_ ?_
    · rintro i x H3 H4 hi pv ⟨tp, x1, x2, rfl, np, rfl, e2, e3⟩
      have s4 := same_new (o := .tup [x1, x2]) np
      cases (Option.some.inj e2)
      obtain ⟨v, hvv, rfl⟩ := at_int e3
      rw [List.length_map] at hi
      refine ⟨tp, _, rfl, .of upd_same, rfl, _, _, rfl, _, _, rfl, rfl, rfl, ?_⟩
      refine ⟨_, rfl, rfl, _, rfl, ?_⟩
      have fin : ∀ H5, Same (upd H3 tp (.tup [V.int (i : Nat), V.int v])) H5 → _ := fun H5 s5 => fm_keep mono_bl pv hD (by omega) (s4.trans s5) (by rw [hvv]; rfl) (show rBl H5 (.bl true) true from rfl)
      by_cases h0 : v = 0
      · subst h0
        rw [decide_eq_true rfl]
        exact iteT (fin _ (.refl _))
      · rw [decide_eq_false (fun z => h0 (V.int.inj z))]
        refine iteF ⟨_, rfl, _, rfl, a, _, rfl, .inl (.of (s4 _ _ (pv.1 _ _ (s2 _ _ ha)))), rfl, flat_ints _, ?_⟩
        rw [inV_ints, decide_eq_true ((hnear i v hvv).resolve_left h0)]
        exact fin _ (.refl _)
    · intro H3 ys s3 hD3 hp3
      rw [List.length_map] at hp3
      have := paired_bl hp3
      subst this
      refine ⟨_, _, rfl, .of hD3, ?_⟩
      rw [show (r.1.length) = r.1.length from rfl]
      have e : ((List.range r.1.length).filterMap fun i => r.1[i]?.bind fun _ => some true).all id = true := all_true fun b hb => by
        obtain ⟨i, _, e⟩ := List.mem_filterMap.mp hb
        cases h : r.1[i]? with
        | none => rw [h] at e; cases e
        | some z => rw [h] at e; cases e; rfl
      rw [e]
      exact q _ (s2.trans s3)
def spCheckR (cT : Addr) : Sp := fun vs H Q _ => ∃ (u v1 v2 : V) (S : RD) (n : Nat), vs = [.int S.p, u, v1, v2] ∧ rTree cT H u S.ties ∧ rRow H v1 S.unk ∧ rRls H v2 S.rules ∧ RulesOk S n ∧ ∀ H', Same H H' → Q .non H'
theorem ok_check_rules (T : Tx K mg cT cS) {f : Addr} {fd : FuncData} (d : D K mg "check_rules" s_check_rules ["p", "tree", "unknowns", "rules"] f fd) : FnOk P w K mg base CX0 5 f fd ["p", "tree", "unknowns", "rules"] (spCheckR cT) := by
  obtain ⟨f1, fd1, d1⟩ := T.d_near_unknowns
  have G1 := ok_nearU (P := P) (w := w) (base := base) T d1
  obtain ⟨f2, fd2, d2⟩ := T.d_is_rule
  have G2 := ok_is_rule (P := P) (w := w) (base := base) T d2
  obtain ⟨tk_MOST_AT_POST, h_MOST_AT_POST⟩ := T.c_MOST_AT_POST
  obtain ⟨tk_MOST_IN_ALL, h_MOST_IN_ALL⟩ := T.c_MOST_IN_ALL
  refine d.F.ok sc_check_rules (fun vs H Q E h => ?_) (fun cdv A outer s H vs Q E hr h => ?_)
  · obtain ⟨u, v1, v2, S, n, rfl, _⟩ := h
    rfl
  · obtain ⟨u, v1, v2, S, n, rfl, hT, hv, hR, ok, q⟩ := h
    refine ⟨_, pss_cons (ps_if (PW.pt (pw_or (pt_not (pt_val (pe_callB call_isi (by rfl) T.b_isinstance (by decide +kernel) (pa_cons (pv 3) (pa_cons (ty_tuple T.b_tuple) pa_nil))))) (pw_or1 (pt_cmpR op_ne (pe_callB call_len_seq (by rfl) T.b_len PySem.boot_len (pa_cons (pv 3) pa_nil)) (pe_fld (pv 1) rfl) (nomark _))))) pss_never pss_nil)
      (pss_cons (ps_if (pt_not (pt_val (pe_callB (cr_all rfl) (by rfl) T.b_all (by decide +kernel) (pa_cons (pe_lc (own := [("own", 4)]) (g := (gName 4)) (tt := tYes) rfl sc_check_rules.nd (pi_tup (pv 3)) (blkOk_by (N := N_check_rules) (sc := defScope s_check_rules) (by decide +kernel)) (fun _ _ _ _ _ => (pg_name (i := 4) sc_check_rules.nd rfl (Or.inl rfl))) (fun _ _ _ _ _ => pts_nil)
            (fun _ _ _ _ _ => (pe_and (pe_callB (isiS (K := K) rfl) (by rfl) T.b_isinstance (by decide +kernel) (pa_cons (pv 4) (pa_cons (ty_tuple T.b_tuple) pa_nil))) (pe_one (pe_cmpR op_le (pe_callB (lenS (K := K) rfl) (by rfl) T.b_len PySem.boot_len (pa_cons (pv 4) pa_nil)) (pe_glob (v := .int 8) rfl h_MOST_AT_POST ⟨_, rfl⟩) (nomark _)))))) pa_nil)))) pss_never pss_nil)
      (pss_cons (ps_for PassesOwn.never rfl (pi_enumT (by rfl) T.b_enumerate (pa_cons (pv 3) pa_nil)) (pg_tup rfl (pgs_cons (pg_name (i := 5) sc_check_rules.nd rfl (.inl rfl)) (pgs_cons (pg_name (i := 4) sc_check_rules.nd rfl (.inl rfl)) pgs_nil)))
        (pss_cons (ps_set (i := 6) sc_check_rules.nd rfl (.inl rfl) (pe_call G1 (hr.mono (by decide)) rfl d1.m d1.F.kp d1.b .nil pass0 (pa_cons (pv 1) (pa_cons (pv 2) (pa_cons (pv 5) pa_nil)))))
      (pss_one (ps_for PassesOwn.never rfl (pi_enumT (by rfl) T.b_enumerate (pa_cons (pv 4) pa_nil)) (pg_tup rfl (pgs_cons (pg_name (i := 7) sc_check_rules.nd rfl (.inl rfl)) (pgs_cons (pg_name (i := 8) sc_check_rules.nd rfl (.inl rfl)) pgs_nil)))
        (pss_one (ps_if (pt_not (pt_val (pe_call G2 (hr.mono (by decide)) rfl d2.m d2.F.kp d2.b .nil pass0 (pa_cons (pv 0) (pa_cons (pe_callB (cr_sumT rfl) (by rfl) T.b_sum (by decide +kernel) (pa_cons (pv 2) pa_nil)) (pa_cons (pv 6) (pa_cons (pv 8) pa_nil))))))) pss_never pss_nil))))))
      (pss_one (ps_if (pt_cmpR op_gt (pe_callB (cr_sum rfl) (by rfl) T.b_sum (by decide +kernel) (pa_cons (pe_lc (own := [("own", 4)]) (g := (gName 4)) (tt := tYes) rfl sc_check_rules.nd (pi_tup (pv 3)) (blkOk_by (N := N_check_rules) (sc := defScope s_check_rules) (by decide +kernel)) (fun _ _ _ _ _ => (pg_name (i := 4) sc_check_rules.nd rfl (Or.inl rfl))) (fun _ _ _ _ _ => pts_nil)
            (fun _ _ _ _ _ => (pe_callB (lenS (K := K) rfl) (by rfl) T.b_len PySem.boot_len (pa_cons (pv 4) pa_nil)))) pa_nil)) (pe_glob (v := .int 60) rfl h_MOST_IN_ALL ⟨_, rfl⟩) (nomark _)) pss_never pss_nil)))), ?_⟩
    obtain ⟨tr, dx, t, xs, rfl, hI, ht, hp⟩ := id hT
    obtain ⟨tw, ws, rfl, hw, hwp⟩ := id hR
    obtain ⟨tu, rfl, htu⟩ := id hv
    have hn := ok.tree.ok.len
    have hn24 := ok.tree.ok.n24
    have hlw := paired_len hwp
    have hl := ok.len
    have nP : NoAttr K cT "posts" := (let ⟨_, _, kT⟩ := T.k_Tree; kT.na _ (by simp))
    have clT : Cls K cT := (let ⟨_, _, kT⟩ := T.k_Tree; kT.cl)
    have pm := ok.clock.2.1
    refine ⟨_, rfl, _, _, _, _, _, rfl, .ty _, .base (.tup hw), kit_tt, _, rfl, iteF ?_⟩
    refine ⟨_, rfl, _, _, rfl, .inr (.of hw), _, rfl, tr, cT, dx, _, _, rfl, hI, clT, nP, tfs_posts _ _, rfl, _, rfl, ?_⟩
    have e1 : V.int ((ws.length : Nat) : Int) = V.int ((S.ties.length : Int) + 1) := by congr 1; omega
    rw [e1, decide_eq_true rfl]
    refine iteF ⟨_, rfl, tw, rfl, ⟨_, .of hw⟩, fun D hD => ?_⟩
    refine lc_fm (walk_tup (xs := ws)) rBl (fun _ => some true) hD (fun H' s' => .of (s'.keep.tup hw)) ?_ ?_
    · rintro i x H2 H3 hi pv ⟨rfl, hx⟩
      obtain ⟨own, hown, t2, rs, rfl, ht2, hrp⟩ := paired_get (paired_mono mono_own pv.1.keep hwp) hx
      have b1 := ok.l8 own (List.mem_of_getElem? hown)
      have hrl := paired_len hrp
      refine ⟨rfl, _, rfl, _, _, _, _, _, rfl, .ty _, .base (.tup ht2), kit_tt, _, rfl, iteT ⟨_, rfl, _, _, rfl, .inr (.of ht2), _, _, rfl, rfl, ?_⟩⟩
      dsimp only
      rw [decide_eq_true (by omega)]
      exact fm_keep mono_bl pv hD (by omega) (Same.refl _) rfl rfl
    · intro H2 ys s2 hD2 hp2
      have := paired_bl hp2
      subst this
      refine ⟨_, _, rfl, .of hD2, _, rfl, ?_⟩
      rw [all_true_fm rfl]
      refine iteF ⟨_, rfl, tw, ws, rfl, .of (s2.keep.tup hw), ?_⟩
      refine for_it (walk_enumT (xs := ws)) (fun i σ H' => Same H H' ∧ ∃ a b c e f, σ = [some (.int S.p), some (.ref tr), some (.ref tu), some (.ref tw), a, b, c, e, f]) ⟨s2, none, none, none, none, none, rfl⟩ (fun i σ H' _ h => .of (h.1.keep.tup hw)) ?_ ?_
      · rintro i x σ H3 H4 hi ⟨s3, a, b, c, e, f, rfl⟩ ⟨tp, x1, x2, rfl, np, rfl, e2, e3⟩
        have s4 := same_new (o := .tup [x1, x2]) np
        cases (Option.some.inj e2)
        have s34 := s3.trans s4
        obtain ⟨own, hown, t2, rs, rfl, ht2, hrp⟩ := paired_get (paired_mono mono_own s34.keep hwp) e3
        have b2 := ok.ok i own hown
        refine ⟨tp, _, rfl, .of upd_same, rfl, _, _, rfl, _, _, rfl, rfl, ?_⟩
        refine ⟨_, rfl, _, rfl, _, rfl, .ref tr, .ref tu, S.ties, S.unk, (i : Nat), n, rfl, mono_tree cT _ _ _ _ s34.keep hT, ok.tree.ok, ⟨tu, rfl, s34 _ _ htu⟩, ok.unk, by omega, by omega, fun H5 na l s5 hna hll hl5 => ?_⟩
        have s35 := s34.trans s5
        refine ⟨_, rfl, t2, rs, rfl, .of (s5 _ _ ht2), ?_⟩
        refine for_it (walk_enumT (xs := rs)) (fun j σ H' => Same H5 H' ∧ ∃ c e, σ = [some (.int S.p), some (.ref tr), some (.ref tu), some (.ref tw), some (.ref t2), some (.int (i : Nat)), some (.ref na), c, e]) ⟨.refl _, _, _, rfl⟩ (fun i σ H' _ h => .of (h.1.keep.tup (s5 _ _ ht2))) ?_ ?_
        · rintro j y σ H6 H7 hj ⟨s6, c, e, rfl⟩ ⟨tq, y1, y2, rfl, nq, rfl, e4, e5⟩
          have s7 := same_new (o := .tup [y1, y2]) nq
          cases (Option.some.inj e4)
          have s57 := s6.trans s7
          obtain ⟨r, hr2, hrule⟩ := paired_get (paired_mono mono_rule (s5.trans s57).keep hrp) e5
          have hrr := b2 r (List.mem_of_getElem? hr2)
          have hs60 := ok.unk.s
          refine ⟨tq, _, rfl, .of upd_same, rfl, _, _, rfl, _, _, rfl, rfl, ?_⟩
          refine ⟨_, rfl, _, rfl, tu, S.unk, rfl, .of (s57 _ _ (s35 _ _ htu)), _, rfl, _, rfl, y2, na, S.p, S.unk.sum, l, r, rfl, hrule, s57 _ _ hna, hrr.row, hs60, hrr.b0, hrr.b1, fun i v h => (hrr.near i v h).imp_right fun h => (hl5 _).mpr h, fun H8 s8 => ⟨_, rfl, iteF ⟨s57.trans s8, _, _, rfl⟩⟩⟩
        · rintro σ H6 ⟨s6, c, e, rfl⟩
          exact ⟨s35.trans s6, _, _, _, _, _, rfl⟩
      · rintro σ H3 ⟨s3, a, b, c, e, f, rfl⟩
        refine ⟨_, rfl, tw, rfl, ⟨_, .of (s3.keep.tup hw)⟩, fun D3 hD3 => ?_⟩
        refine lc_fm (walk_tup (xs := ws)) rInt (fun i => S.rules[i]?.bind fun r => some ((r.length : Nat) : Int)) hD3 (fun H' s' => .of ((s3.trans s').keep.tup hw)) ?_ ?_
        · rintro i x H4 H5 hi pv ⟨rfl, hx⟩
          obtain ⟨own, hown, t2, rs, rfl, ht2, hrp⟩ := paired_get (paired_mono mono_own (s3.trans pv.1).keep hwp) hx
          refine ⟨rfl, _, rfl, _, _, rfl, .inr (.of ht2), ?_⟩
          exact fm_keep mono_int pv hD3 (by omega) (Same.refl _) (by rw [hown]; rfl) (by rw [paired_len hrp]; rfl)
        · intro H4 zs s4 hD4 hp4
          rw [hlw, fm_some] at hp4
          have := paired_int hp4
          subst this
          refine ⟨_, _, rfl, .of hD4, _, _, rfl, rfl, _, rfl, ?_⟩
          have hs : (S.rules.map fun r => ((r.length : Nat) : Int)).sum = (((S.rules.map List.length).sum : Nat) : Int) := by
            induction S.rules with
            | nil => rfl
            | cons a l ih => rw [List.map_cons, List.map_cons, List.sum_cons, List.sum_cons, ih]; omega
          rw [hs, decide_eq_false (by have := ok.l60; omega)]
          exact iteF (q _ (s3.trans s4))
end
end S4

namespace S4
open PySem L2 TT MM
def rfs (p : Int) (tr tu tl : Addr) : List (Str × V) := putF "rules" (.ref tl) (putF "unknowns" (.ref tu) (putF "tree" (.ref tr) (putF "p" (.int p) [])))
section
variable {p : Int} {tr tu tl : Addr}
theorem rfs_p : (rfs p tr tu tl).lookup ("p" : Str) = some (.int p) := by
  unfold rfs
  rw [lookup_putF, if_neg (by decide +kernel), lookup_putF, if_neg (by decide +kernel), lookup_putF, if_neg (by decide +kernel), lookup_putF, if_pos rfl]
theorem rfs_tree : (rfs p tr tu tl).lookup ("tree" : Str) = some (.ref tr) := by
  unfold rfs
  rw [lookup_putF, if_neg (by decide +kernel), lookup_putF, if_neg (by decide +kernel), lookup_putF, if_pos rfl]
theorem rfs_unk : (rfs p tr tu tl).lookup ("unknowns" : Str) = some (.ref tu) := by
  unfold rfs
  rw [lookup_putF, if_neg (by decide +kernel), lookup_putF, if_pos rfl]
theorem rfs_rules : (rfs p tr tu tl).lookup ("rules" : Str) = some (.ref tl) := by
  unfold rfs
  rw [lookup_putF, if_pos rfl]
end
abbrev cR (mg : Str → Option Value) : Addr := adr mg "Rules"
/-- rules in the heap -/
def rRO (cT : Addr) (mg : Str → Option Value) : Rp RD := fun H v S => ∃ a dx tr tu tl, v = .ref a ∧ H a = some (.ins (cR mg) dx (rfs S.p tr tu tl)) ∧ rTree cT H (.ref tr) S.ties ∧ rRow H (.ref tu) S.unk ∧ rRls H (.ref tl) S.rules
theorem mono_ro (cT : Addr) (mg : Str → Option Value) : Mono (rRO cT mg) := fun _ _ _ _ k ⟨a, dx, tr, tu, tl, e, h1, h2, h3, h4⟩ => ⟨a, dx, tr, tu, tl, e, k.ins h1, mono_tree cT _ _ _ _ k h2, mono_row _ _ _ _ k h3, mono_rls _ _ _ _ k h4⟩
section
variable {H H' : Hp} {x : Addr} (kt : ∀ t xs, H t = some (.tup xs) → H' t = some (.tup xs))
include kt
theorem rule_kt {v : V} {l : Rule} (h : rRule H v l) : rRule H' v l := let ⟨t, x, e, h1, h2⟩ := h; ⟨t, x, e, kt _ _ h1, row_kt kt h2⟩
theorem own_kt {v : V} {l : List Rule} (h : rOwn H v l) : rOwn H' v l := let ⟨t, xs, e, h1, h2⟩ := h; ⟨t, xs, e, kt _ _ h1, Paired.mapP h2 fun _ _ q => rule_kt kt q⟩
theorem rls_kt {v : V} {l : List (List Rule)} (h : rRls H v l) : rRls H' v l := let ⟨t, xs, e, h1, h2⟩ := h; ⟨t, xs, e, kt _ _ h1, Paired.mapP h2 fun _ _ q => own_kt kt q⟩
end
theorem sum_lensR : ∀ l : List (List Rule), (l.map fun r => ((r.length : Nat) : Int)).sum = (((l.map List.length).sum : Nat) : Int)
  | [] => rfl
  | a :: l => by
    rw [List.map_cons, List.map_cons, List.sum_cons, List.sum_cons, sum_lensR l]
    omega
theorem paired_drop {α β : Type} {F : α → β → Prop} : ∀ {xs : List α} {l : List β} (k : Nat), Paired F xs l → Paired F (xs.drop k) (l.drop k)
  | _, _, 0, h => h
  | _, _, k + 1, .nil => .nil
  | _, _, k + 1, .cons _ t => paired_drop k t
theorem set_cut {α : Type} {l : List α} {i : Nat} {x : α} (h : i < l.length) : l.take i ++ [x] ++ l.drop (i + 1) = l.set i x := by
  rw [List.set_eq_take_append_cons_drop, if_pos h, List.append_assoc]
  rfl
theorem same_make {H : Hp} {x dx C : Addr} (nx : H x = none) (ndx : H dx = none) (ne : dx ≠ x) : Same H (upd (upd H dx (.own x)) x (.ins C dx [])) := fun b o e => by
  rw [upd_ne (ne_of_none e nx), upd_ne (ne_of_none e ndx)]
  exact e
section
variable {P : Program} {w : World} {K : PySem.W.Frag} {mg : Str → Option Value} {base : Heap} {cT cS : Addr}
def spInitRules (cT : Addr) (mg : Str → Option Value) : Sp := fun vs H Q _ => ∃ (x dx : Addr) (u v1 v2 : V) (S : RD) (n : Nat), vs = [.ref x, .int S.p, u, v1, v2] ∧ H x = some (.ins (cR mg) dx []) ∧ rTree cT H u S.ties ∧ u ≠ .ref x ∧ rRow H v1 S.unk ∧ rRls H v2 S.rules ∧ RulesOk S n ∧
  ∀ H', (∀ b o, b ≠ x → H b = some o → H' b = some o) → rRO cT mg H' (.ref x) S → Q .non H'
theorem ok_Rules (T : Tx K mg cT cS) {f : Addr} {fd : FuncData} (d : DC K mg "Rules" "Rules.__init__" s_Rules ["self", "p", "tree", "unknowns", "rules"] ["p", "tree", "unknowns", "rules"] (adr mg "Rules") f fd) : FnOk P w K mg base CX0 6 f fd ["self", "p", "tree", "unknowns", "rules"] (spInitRules cT mg) := by
  obtain ⟨f1, fd1, d1⟩ := T.d_is_clock
  have G1 := ok_is_clock (P := P) (w := w) (base := base) T d1
  obtain ⟨f2, fd2, d2⟩ := T.d_are_counts
  have G2 := ok_are_counts (P := P) (w := w) (base := base) T d2
  obtain ⟨f3, fd3, d3⟩ := T.d_check_rules
  have G3 := ok_check_rules (P := P) (w := w) (base := base) T d3
  obtain ⟨fTree, fdTree, kTree⟩ := T.k_Tree
  refine d.F.ok sc_Rules (fun vs H Q E h => ?_) (fun cdv A outer s H vs Q E hr h => ?_)
  · obtain ⟨x, dx, u, v1, v2, S, n, rfl, _⟩ := h
    rfl
  · obtain ⟨x, dx, u, v1, v2, S, n, rfl, hx, hu, hne, h1, h2, ok, q⟩ := h
    refine ⟨_, pss_cons (ps_if (pt_not (pt_val (pe_call G1 (hr.mono (by decide)) rfl d1.m d1.F.kp d1.b .nil pass0 (pa_cons (pv 1) pa_nil)))) pss_never pss_nil)
      (pss_cons (ps_if (pt_not (pt_val (pe_callB (C8.call_isC T.i_Tree) (by rfl) T.b_isinstance (by decide +kernel) (pa_cons (pv 2) (pa_cons (pe_glob (v := .ref cT) rfl kTree.m rfl) pa_nil))))) pss_never pss_nil)
      (pss_cons (ps_if (pt_not (pt_val (pe_call G2 (hr.mono (by decide)) rfl d2.m d2.F.kp d2.b .nil pass0 (pa_cons (pv 2) (pa_cons (pv 3) pa_nil))))) pss_never pss_nil)
      (pss_cons (ps_expr (pe_call G3 (hr.mono (by decide)) rfl d3.m d3.F.kp d3.b .nil pass0 (pa_cons (pv 1) (pa_cons (pv 2) (pa_cons (pv 3) (pa_cons (pv 4) pa_nil))))))
      (pss_cons (ps_fld (pv 0) (pv 1) rfl)
      (pss_cons (ps_fld (pv 0) (pv 2) rfl)
      (pss_cons (ps_fld (pv 0) (pv 3) rfl)
      (pss_one (ps_fld (pv 0) (pv 4) rfl)))))))), ?_⟩
    have n1 : NoAttr K (cR mg) "p" := d.na _ (by simp)
    have n2 : NoAttr K (cR mg) "tree" := d.na _ (by simp)
    have n3 : NoAttr K (cR mg) "unknowns" := d.na _ (by simp)
    have n4 : NoAttr K (cR mg) "rules" := d.na _ (by simp)
    refine ⟨_, rfl, S.p, rfl, ok.clock, _, rfl, iteF ?_⟩
    obtain ⟨tr, dxt, tt, xst, rfl, hI, htt, hpt⟩ := id hu
    refine ⟨_, rfl, tr, dxt, _, rfl, hI, _, rfl, iteF ?_⟩
    have hn := ok.tree.ok.len
    refine ⟨_, rfl, _, rfl, _, _, S.ties, S.unk, n, rfl, hu, hn, ok.tree.ok.n24, h1, ok.unk, fun H2 s2 => ⟨_, rfl, iteF ?_⟩⟩
    refine ⟨_, rfl, _, rfl, _, rfl, _, rfl, .ref tr, v1, v2, S, n, rfl, mono_tree cT _ _ _ _ s2.keep hu, mono_row _ _ _ _ s2.keep h1, mono_rls _ _ _ _ s2.keep h2, ok, fun H3 s3 => ?_⟩
    have s23 := s2.trans s3
    obtain ⟨th, rfl, hth3⟩ := mono_row _ _ _ _ s23.keep h1
    obtain ⟨tw, ws, rfl, htw, hwp⟩ := mono_rls _ _ _ _ s23.keep h2
    have hx3 := s23.keep.ins hx
    refine ⟨_, rfl, _, rfl, x, cR mg, dx, [], rfl, hx3, d.cl, n1, by show 0 < 1000; decide, ?_⟩
    refine ⟨_, rfl, _, rfl, x, cR mg, dx, _, rfl, upd_same, d.cl, n2, by show 1 < 1000; decide, ?_⟩
    rw [upd_upd]
    refine ⟨_, rfl, _, rfl, x, cR mg, dx, _, rfl, upd_same, d.cl, n3, by show 2 < 1000; decide, ?_⟩
    rw [upd_upd]
    refine ⟨_, rfl, _, rfl, x, cR mg, dx, _, rfl, upd_same, d.cl, n4, by show 3 < 1000; decide, ?_⟩
    rw [upd_upd]
    have kt : ∀ t xs, H3 t = some (.tup xs) → (upd H3 x (.ins (cR mg) dx (rfs S.p tr th tw))) t = some (.tup xs) := fun t xs e => by
      rw [upd_ne (ne_of e hx3 (fun z => nomatch z))]
      exact e
    refine q _ (fun b o hb e => by rw [upd_ne hb]; exact s23 b o e) ⟨x, dx, tr, th, tw, rfl, upd_same, ?_, row_kt kt ⟨th, rfl, hth3⟩, rls_kt kt ⟨tw, ws, rfl, htw, hwp⟩⟩
    refine tree_kt kt (mono_tree cT _ _ _ _ s23.keep hu) fun a dx' fs e e2 => ?_
    have hax : a ≠ x := fun z => hne (by rw [e, z])
    exact (upd_ne hax).trans e2
end
end S4

namespace S4
open PySem L2 TT MM
/-! ### what comes of rules, the others left out -/
def leftU (wd : Nat) (kept : List Int) : List Int := (rng wd).filter fun x => !decide (x ∈ kept)
def ordU (wd : Nat) (kept : List Int) : List Int := leftU wd kept ++ kept ++ [(wd : Int)]
def rowsU (S : RD) (posts : List Int) (order : List Int) : List (List Int) := posts.flatMap fun q => (S.rules.getD q.toNat []).map fun r => cutL (r.1 ++ [r.2]) order
def pureU (L : Nat) (lad : List (List Int)) : List (List Int) := (lad.filter fun row => !((row.take L).any fun n => n != 0)).map fun row => row.drop L
theorem fm_filterI (f : Nat → Bool) (n : Nat) : (List.range n).filterMap (fun i => if f i = true then some ((i : Nat) : Int) else none) = (rng n).filter fun x => f x.toNat := by
  unfold rng
  rw [List.filter_map]
  induction (List.range n) with
  | nil => rfl
  | cons a l ih =>
    rw [List.filterMap_cons, List.filter_cons]
    by_cases h : f a = true
    · have h2 : ((fun x : Int => f x.toNat) ∘ fun (i : Nat) => (i : Int)) a = true := h
      rw [if_pos h, if_pos h2, List.map_cons, ih]
    · have h2 : ¬ ((fun x : Int => f x.toNat) ∘ fun (i : Nat) => (i : Int)) a = true := h
      rw [if_neg h, if_neg h2, ih]
theorem left_perm {wd : Nat} {kept : List Int} (nd : kept.Nodup) (hin : ∀ x ∈ kept, 0 ≤ x ∧ x < (wd : Int)) : (leftU wd kept ++ kept).Perm (rng wd) := by
  have n1 : (leftU wd kept).Nodup := List.Pairwise.filter _ (rng_nodup wd)
  refine (List.perm_ext_iff_of_nodup (List.nodup_append.mpr ⟨n1, nd, fun a ha b hb e => ?_⟩) (rng_nodup wd)).mpr fun x => ?_
  · subst e
    unfold leftU at ha
    have := (List.mem_filter.mp ha).2
    simp [hb] at this
  · rw [List.mem_append]
    unfold leftU
    rw [List.mem_filter]
    constructor
    · rintro (h | h)
      · exact h.1
      · exact rng_mem.mpr (hin x h)
    · intro h
      by_cases hk : x ∈ kept
      · exact .inr hk
      · exact .inl ⟨h, by simp [hk]⟩
theorem ord_len {wd : Nat} {kept : List Int} (nd : kept.Nodup) (hin : ∀ x ∈ kept, 0 ≤ x ∧ x < (wd : Int)) : (ordU wd kept).length = wd + 1 := by
  have := (left_perm nd hin).length_eq
  unfold ordU
  rw [List.length_append, this, rng_len]
  rfl
theorem ord_in {wd : Nat} {kept : List Int} (hin : ∀ x ∈ kept, 0 ≤ x ∧ x < (wd : Int)) : ∀ x ∈ ordU wd kept, 0 ≤ x ∧ x < (wd : Int) + 1 := fun x hx => by
  unfold ordU at hx
  rcases List.mem_append.mp hx with hx | hx
  · rcases List.mem_append.mp hx with hx | hx
    · have := rng_mem.mp (List.mem_filter.mp hx).1
      omega
    · have := hin x hx
      omega
  · rw [List.mem_singleton.mp hx]
    omega
section
variable {P : Program} {w : World} {K : PySem.W.Frag} {mg : Str → Option Value} {base : Heap} {cT cS : Addr}
theorem flat_lenR {α : Type} {F : Nat → List α} {i : Nat} {b : Nat} (h : ∀ j, j < i → (F j).length ≤ b) : ((List.range i).flatMap F).length ≤ b * i := by
  induction i with
  | zero => simp
  | succ i ih =>
    rw [List.range_succ, List.flatMap_append, List.length_append, List.flatMap_singleton]
    have := ih fun j hj => h j (by omega)
    have := h i (by omega)
    rw [Nat.mul_succ]
    omega
def spCutL : Sp := fun vs H Q _ => ∃ (u : V) (a : Addr) (r l : List Int), vs = [u, .ref a] ∧ rRow H u r ∧ H a = some (.lst (l.map V.int)) ∧ l.length ≤ 1000 ∧ (∀ i ∈ l, 0 ≤ i ∧ i < (r.length : Int)) ∧ ∀ H' v', Same H H' → rRow H' v' (cutL r l) → Q v' H'
theorem ok_cutL (T : Tx K mg cT cS) {f : Addr} {fd : FuncData} (d : D K mg "cut" s_cut ["row", "lot"] f fd) : FnOk P w K mg base CX0 1 f fd ["row", "lot"] spCutL := by
  refine d.F.ok sc_cut (fun vs H Q E h => ?_) (fun cdv A outer s H vs Q E hr h => ?_)
  · obtain ⟨u, a, r, l, rfl, _⟩ := h
    rfl
  · obtain ⟨u, t2, r, l, rfl, ⟨t1, rfl, h1⟩, h2, hl, hb, q⟩ := h
    refine ⟨_, pss_one (ps_ret (pe_callTy call_tuple_of (by rfl) T.b_tuple (by decide +kernel) (pa_cons
        (pe_lc (own := [("place", 2)]) (g := gName 2) (tt := tYes) rfl sc_cut.nd (pi_list (pv 1)) (blkOk_by (N := N_cut) (sc := defScope s_cut) (by decide +kernel)) (fun _ _ _ _ _ => pg_name (i := 2) sc_cut.nd rfl (Or.inl rfl)) (fun _ _ _ _ _ => pts_nil)
          (fun _ _ _ _ _ => pe_ix (ixT (K := K) rfl) (pv 0) (pv 2) (fun _ _ => rfl))) pa_nil))), ?_⟩
    refine ⟨_, rfl, t2, rfl, ⟨_, .of h2⟩, fun D hD => ?_⟩
    refine lc_fm (walk_list (xs := l.map V.int)) rInt (fun i => l[i]?.bind fun j => some (r.getD j.toNat 0)) hD (fun H' s' => .of (s' _ _ h2)) ?_ ?_
    · rintro i x H2 H3 hi pv ⟨rfl, hx⟩
      obtain ⟨j, hj, rfl⟩ := at_int hx
      rw [List.length_map] at hi
      obtain ⟨g1, g2⟩ := hb j (List.mem_of_getElem? hj)
      obtain ⟨m, rfl⟩ : ∃ m : Nat, j = (m : Int) := ⟨j.toNat, by omega⟩
      have hm : r[m]? = some (r[m]'(by omega)) := List.getElem?_eq_getElem (by omega)
      refine ⟨rfl, _, rfl, _, rfl, t1, _, _, _, rfl, rfl, .of (pv.1.keep.tup h1), atI_nat (int_at hm), ?_⟩
      refine fm_keep mono_int pv hD (by omega) (Same.refl _) (by rw [hj]; rfl) ?_
      rw [Int.toNat_natCast, getD_at hm]
      rfl
    · intro H2 ys s2 hD2 hp2
      rw [List.length_map, fm_some] at hp2
      have := paired_int hp2
      subst this
      refine ⟨D, _, rfl, .inl ⟨.of hD2, fun p np => ?_⟩⟩
      exact q _ _ (s2.trans (same_new np)) ⟨p, rfl, upd_same⟩
end
end S4

namespace S4
open PySem L2 TT MM
/-! ### tidings, as data -/
open Classical in
noncomputable def sideOf (ties : List (Int × Int)) (n : Nat) (z : Int × Int) : List Int := (rng n).filter fun x => decide (Rch ties (some z.2) z.1 x)
theorem rng_up (n : Nat) : (rng n).Pairwise (· < ·) := by
  unfold rng
  rw [List.pairwise_map]
  exact List.pairwise_lt_range.imp fun h => by omega
theorem side_mem {ties : List (Int × Int)} {n : Nat} {z : Int × Int} {x : Int} : x ∈ sideOf ties n z ↔ x ∈ rng n ∧ Rch ties (some z.2) z.1 x := by
  classical
  unfold sideOf
  rw [List.mem_filter]
  exact ⟨fun h => ⟨h.1, of_decide_eq_true h.2⟩, fun h => ⟨h.1, decide_eq_true h.2⟩⟩
theorem up_same {l m : List Int} (h1 : l.Pairwise (· < ·)) (h2 : m.Pairwise (· < ·)) (h : ∀ x, x ∈ l ↔ x ∈ m) : l = m := by
  induction l generalizing m with
  | nil =>
    cases m with
    | nil => rfl
    | cons b m => exact absurd ((h b).mpr (by simp)) (by simp)
  | cons a l ih =>
    cases m with
    | nil => exact absurd ((h a).mp (by simp)) (by simp)
    | cons b m =>
      obtain ⟨a1, a2⟩ := List.pairwise_cons.mp h1
      obtain ⟨b1, b2⟩ := List.pairwise_cons.mp h2
      have e : a = b := by
        rcases List.mem_cons.mp ((h a).mp (by simp)) with e | e
        · exact e
        · rcases List.mem_cons.mp ((h b).mpr (by simp)) with f | f
          · exact f.symm
          · have := a1 b f
            have := b1 a e
            omega
      subst e
      rw [ih a2 b2 fun x => ?_]
      constructor
      · intro hx
        rcases List.mem_cons.mp ((h x).mp (by simp [hx])) with e | e
        · subst e
          exact absurd (a1 _ hx) (Int.lt_irrefl _)
        · exact e
      · intro hx
        rcases List.mem_cons.mp ((h x).mpr (by simp [hx])) with e | e
        · subst e
          exact absurd (b1 _ hx) (Int.lt_irrefl _)
        · exact e
theorem up_lt {l : List Int} (h : Up l) (nd : l.Nodup) : l.Pairwise (· < ·) := (List.Pairwise.and h nd).imp fun ⟨a, b⟩ => by omega
open Classical in
noncomputable def ladL (p : Int) (wd : Nat) (rows : List (List Int)) : List (List Int) := if h : ∃ lad, IsLad p wd rows lad then h.choose else []
theorem ladL_eq {p : Int} {wd : Nat} {rows lad : List (List Int)} (p2 : 2 ≤ p) (h : IsLad p wd rows lad) : lad = ladL p wd rows := by
  classical
  have hx : ∃ lad, IsLad p wd rows lad := ⟨lad, h⟩
  unfold ladL
  rw [dif_pos hx]
  exact IsLad.only h hx.choose_spec p2 fun v => Iff.rfl
def keptU (unk : List Int) (z : Int × Int) : List Int := heldL unk z.1 ++ heldL unk z.2
/-- what comes of the rules this side alone -/
noncomputable def tidU (S : RD) (n : Nat) (z : Int × Int) : List (List Int) := pureU (leftU S.unk.sum.toNat (keptU S.unk z)).length (ladL S.p (S.unk.sum.toNat + 1) (rowsU S (sideOf S.ties n z) (ordU S.unk.sum.toNat (keptU S.unk z))))
structure WayR (S : RD) (n : Nat) (z : Int × Int) : Prop where
  a0 : 0 ≤ z.1
  b0 : 0 ≤ z.2
  a1 : z.1 < (n : Int)
  b1 : z.2 < (n : Int)
  m : z ∈ S.ties ∨ z.swap ∈ S.ties
theorem held_in {unk : List Int} {n : Nat} (ok : CountsOk unk n) {post i : Int} (h : i ∈ heldL unk post) : (unk.take post.toNat).sum ≤ i ∧ i < (unk.take post.toNat).sum + unk.getD post.toNat 0 := by
  unfold heldL at h
  obtain ⟨j, hj, rfl⟩ := List.mem_map.mp h
  have hj' := List.mem_range.mp hj
  have := take_sum_le ok post.toNat
  omega
theorem sum_nn {l : List Int} (h : ∀ x ∈ l, 0 ≤ x) : 0 ≤ l.sum := by
  induction l with
  | nil => simp
  | cons a l ih => rw [List.sum_cons]; have := ih fun x hx => h x (by simp [hx]); have := h a (by simp); omega
theorem take_sum_step : ∀ {holds : List Int}, (∀ x ∈ holds, 0 ≤ x) → ∀ {a b : Nat}, a < b → (holds.take a).sum + holds.getD a 0 ≤ (holds.take b).sum
  | [], _, a, b, _ => by simp
  | x :: l, h, 0, b + 1, _ => by
    have := sum_nn (l := l.take b) fun y hy => h y (by simp [List.mem_of_mem_take hy])
    rw [List.take_zero, List.take_succ_cons, List.sum_cons]
    show 0 + x ≤ _
    omega
  | x :: l, h, a + 1, b + 1, hab => by
    have := take_sum_step (holds := l) (fun y hy => h y (by simp [hy])) (a := a) (b := b) (by omega)
    rw [List.take_succ_cons, List.take_succ_cons, List.sum_cons, List.sum_cons]
    show x + (l.take a).sum + l.getD a 0 ≤ _
    omega
theorem held_lt {unk : List Int} {n : Nat} (ok : CountsOk unk n) {post i : Int} (h : i ∈ heldL unk post) : 0 ≤ i ∧ i < unk.sum := by
  have hi := held_in ok h
  have h1 := take_sum_le ok post.toNat
  have nn : ∀ x ∈ unk, 0 ≤ x := fun x hx => (ok.b x hx).1
  by_cases hp : post.toNat < unk.length
  · have := take_sum_step nn (a := post.toNat) (b := unk.length) hp
    rw [List.take_length] at this
    omega
  · rw [List.getD_eq_getElem?_getD, List.getElem?_eq_none (by omega)] at hi
    have hi := hi
    simp at hi
    omega
theorem held_nodup (unk : List Int) (post : Int) : (heldL unk post).Nodup := by
  unfold heldL
  refine List.Pairwise.map _ (fun a b h e => h ?_) List.nodup_range
  omega
theorem kept_nodup {unk : List Int} {n : Nat} (ok : CountsOk unk n) {z : Int × Int} (a0 : 0 ≤ z.1) (b0 : 0 ≤ z.2) (hne : z.1 ≠ z.2) : (keptU unk z).Nodup := by
  have nn : ∀ x ∈ unk, 0 ≤ x := fun x hx => (ok.b x hx).1
  refine List.nodup_append.mpr ⟨held_nodup _ _, held_nodup _ _, fun a ha b hb e => ?_⟩
  subst e
  have h1 := held_in ok ha
  have h2 := held_in ok hb
  rcases Int.lt_or_gt_of_ne hne with h | h
  · have := take_sum_step nn (a := z.1.toNat) (b := z.2.toNat) (by omega)
    omega
  · have := take_sum_step nn (a := z.2.toNat) (b := z.1.toNat) (by omega)
    omega
end S4

namespace S4
open PySem L2 TT MM
theorem pow_even (m : Int) (q : Nat) : m ^ (2 * q) = (m * m) ^ q := by
  induction q with
  | zero => rw [Nat.mul_zero, Int.pow_zero, Int.pow_zero]
  | succ q ih =>
    have e : 2 * (q + 1) = 2 * q + 1 + 1 := by omega
    rw [e, Int.pow_succ, Int.pow_succ, Int.pow_succ, ih, Int.mul_assoc]
theorem cgPow {p a b : Int} (h : Cg p a b) : ∀ n : Nat, Cg p (a ^ n) (b ^ n)
  | 0 => by rw [Int.pow_zero, Int.pow_zero]; exact .refl 1
  | n + 1 => by rw [Int.pow_succ, Int.pow_succ]; exact (cgPow h n).mul h
section
variable {P : Program} {w : World} {K : PySem.W.Frag} {mg : Str → Option Value} {base : Heap} {cT cS : Addr}
def spLPl : Sp := fun vs H Q _ => ∃ (v : V) (unk : List Int) (post : Int) (n : Nat), vs = [v, .int post] ∧ rRow H v unk ∧ CountsOk unk n ∧ n ≤ 24 ∧ 0 ≤ post ∧ post < (n : Int) ∧ ∀ H' r, Same H H' → H r = none → H' r = some (.lst ((heldL unk post).map V.int)) → Q (.ref r) H'
theorem ok_lpl (T : Tx K mg cT cS) {f : Addr} {fd : FuncData} (d : D K mg "_law_places" s_law_places ["unknowns", "post"] f fd) : FnOk P w K mg base CX0 1 f fd ["unknowns", "post"] spLPl := by
  refine d.F.ok sc_law_places (fun vs H Q E h => ?_) (fun cdv A outer s H vs Q E hr h => ?_)
  · obtain ⟨v, unk, post, n, rfl, _⟩ := h
    rfl
  · obtain ⟨v, unk, post, n, rfl, ⟨tu, rfl, hu⟩, ok, n24, h0, h1, q⟩ := h
    refine ⟨_, pss_cons (ps_set (i := 2) sc_law_places.nd rfl (.inl rfl) (pe_callB (cr_sumT rfl) (by rfl) T.b_sum (by decide +kernel) (pa_cons (pe_slice sl_tupA (pv 0) po_none (po_some (pv 1))) pa_nil)))
      (pss_one (ps_ret (pe_listRg rfl (by rfl) T.b_list (prg_2 (by rfl) T.b_range (pv 2) (pe_op op_add (pv 2) (pe_ix ix_tup (pv 0) (pv 1) (fun _ _ => rfl))))))), ?_⟩
    obtain ⟨k, rfl⟩ : ∃ k : Nat, post = (k : Int) := ⟨post.toNat, by omega⟩
    have hk : k < unk.length := by have := ok.len; omega
    have hx : unk[k]? = some unk[k] := List.getElem?_eq_getElem hk
    have e3 : unk.getD k 0 = unk[k] := getD_at hx
    obtain ⟨b1, b2, b3⟩ := take_sum_le ok k
    rw [e3] at b2 b3
    refine ⟨_, rfl, _, rfl, (k : Int), rfl, slice_upto hu fun H2 p2 s2 h2 => ⟨p2, unk.take k, rfl, .of (by rw [List.map_take]; exact h2), ?_⟩⟩
    dsimp only [gName, tSeq]
    refine ⟨_, rfl, _, rfl, _, rfl, _, rfl, tu, _, _, _, rfl, rfl, .of (s2 _ _ hu), atI_nat (int_at hx), _, _, rfl, rfl, _, _, rfl, rfl, ⟨by omega, by omega, by omega, by omega, by omega⟩, fun r nr => ?_⟩
    refine q _ r (s2.trans (same_new nr)) (s2.free nr) ?_
    rw [upd_same, rgV_int]
    unfold heldL
    rw [Int.toNat_natCast, e3]
    have e : ((unk.take k).sum + unk[k] - (unk.take k).sum).toNat = unk[k].toNat := by omega
    rw [e]
def spLNear : Sp := fun vs H Q _ => ∃ (v : V) (ties : List (Int × Int)) (post : Int), vs = [v, .int post] ∧ rTup rPI H v ties ∧ ties.length ≤ 1000 ∧ (∀ z ∈ ties, z.1 ≠ z.2) ∧
  ∀ H' p ns, Same H H' → H p = none → H' p = some (.lst (ns.map V.int)) → ns.Perm (nb ties post) → Up ns → Q (.ref p) H'
theorem ok_lnear (T : Tx K mg cT cS) {f : Addr} {fd : FuncData} (d : D K mg "_law_near" s_law_near ["ties", "post"] f fd) : FnOk P w K mg base CX0 1 f fd ["ties", "post"] spLNear := by
  refine d.F.ok sc_law_near (fun vs H Q E h => ?_) (fun cdv A outer s H vs Q E hr h => ?_)
  · obtain ⟨v, ties, post, rfl, _⟩ := h
    rfl
  · obtain ⟨v, ties, post, rfl, ⟨t, xs, rfl, ht, hp⟩, hl, hd, q⟩ := h
    refine ⟨_, pss_one (ps_ret (pe_callB cr_sortedI (by rfl) T.b_sorted (by decide +kernel) (pa_cons (pe_lc (own := [("one", 2), ("other", 3)]) (g := (gTup K 2 (gCons (gName 2) (gCons (gName 3) gNil)))) (tt := _) rfl sc_law_near.nd (pi_tup (pv 0)) (blkOk_by (N := N_law_near) (sc := defScope s_law_near) (by decide +kernel)) (fun _ _ _ _ _ => (pgT rfl rfl (pgs_cons (pg_name (i := 2) sc_law_near.nd rfl (Or.inl rfl)) (pgs_cons (pg_name (i := 3) sc_law_near.nd rfl (Or.inl rfl)) pgs_nil)))) (fun _ _ _ _ _ => (pts_one (pt_cmpR (inS (K := K) rfl) (pv 1) (pe_tup (pa_cons (pv 2) (pa_cons (pv 3) pa_nil))) (by rfl))))
            (fun _ _ _ _ _ => (pe_op op_sub (pe_op op_add (pv 2) (pv 3)) (pv 1)))) pa_nil))), ?_⟩
    have hlen := paired_len hp
    refine ⟨_, rfl, t, rfl, ⟨_, .of ht⟩, fun D hD => ?_⟩
    refine lc_fm (walk_tup (xs := xs)) rInt (fun i => ties[i]?.bind (nbOf post)) hD (fun H' s' => .of (s'.keep.tup ht)) ?_ ?_
    · rintro i x H2 H3 hi pv ⟨rfl, hx⟩
      obtain ⟨z, hz, t2, rfl, ht2⟩ := paired_get (paired_mono mono_pi pv.1.keep hp) hx
      refine ⟨t2, _, rfl, .of ht2, rfl, _, _, rfl, _, _, rfl, rfl, rfl, _, rfl, _, rfl, _, rfl, by show 2 ≤ sizeLine; decide, fun p np => ?_⟩
      have s4 := same_new (o := .tup [V.int z.1, V.int z.2]) np
      refine ⟨p, _, rfl, .inr (.of upd_same), rfl, rfl, _, rfl, ?_⟩
      rw [show [V.int z.1, V.int z.2] = ([z.1, z.2] : List Int).map V.int from rfl, inV_ints]
      by_cases h2 : post ∈ ([z.1, z.2] : List Int)
      · rw [decide_eq_true h2]
        have h2' : z.1 = post ∨ z.2 = post := by
          simp only [List.mem_cons, List.not_mem_nil, or_false] at h2
          rcases h2 with h | h
          · exact .inl h.symm
          · exact .inr h.symm
        refine iteT ⟨_, rfl, _, rfl, _, _, rfl, rfl, _, rfl, _, _, rfl, rfl, fm_keep mono_int pv hD (by omega) s4 (by rw [hz]; exact if_pos h2') ?_⟩
        show V.int (z.1 + z.2 - post) = V.int (if z.1 = post then z.2 else z.1)
        split <;> (congr 1; omega)
      · rw [decide_eq_false h2]
        have h2' : ¬ (z.1 = post ∨ z.2 = post) := fun h => h2 (by
          simp only [List.mem_cons, List.not_mem_nil, or_false]
          exact h.imp Eq.symm Eq.symm)
        exact iteF (fm_skip mono_int pv s4 (by rw [hz]; exact if_neg h2'))
    · intro H2 ys s2 hD2 hp2
      have e := paired_int hp2
      subst e
      rw [hlen, fm_list] at hD2
      refine ⟨D, nb ties post, rfl, .of hD2, fun ns r hperm hup nr => ?_⟩
      exact q _ r ns (s2.trans (same_new nr)) (s2.free nr) upd_same hperm hup
def dotU (p : Int) (l m : List Int) : Int := ((List.range l.length).map fun i => l.getD i 0 * m.getD i 0).sum % p
def spLDotV : Sp := fun vs H Q _ => ∃ (v : V) (b : Addr) (p : Int) (l m : List Int), vs = [.int p, v, .ref b] ∧ rRow H v l ∧ H b = some (.lst (m.map V.int)) ∧ 2 ≤ p ∧ p ≤ 1000000 ∧ l.length = m.length ∧ l.length ≤ 100 ∧ (∀ x ∈ l, 0 ≤ x ∧ x < p) ∧ (∀ x ∈ m, 0 ≤ x ∧ x < p) ∧ ∀ H', Same H H' → Q (.int (dotU p l m)) H'
theorem ok_ldotV (T : Tx K mg cT cS) {f : Addr} {fd : FuncData} (d : D K mg "_law_dot" s_law_dot ["p", "one", "other"] f fd) : FnOk P w K mg base CX0 1 f fd ["p", "one", "other"] spLDotV := by
  refine d.F.ok sc_law_dot (fun vs H Q E h => ?_) (fun cdv A outer s H vs Q E hr h => ?_)
  · obtain ⟨v, b, p, l, m, rfl, _⟩ := h
    rfl
  · obtain ⟨v, b, p, l, m, rfl, ⟨t, rfl, ht⟩, hb, p2, pm, hlm, hl, hlb, hmb, q⟩ := h
    refine ⟨_, pss_one (ps_ret (pe_op op_mod (pe_callTy call_int1 (by rfl) T.b_int (by decide +kernel) (pa_cons (pe_callB (cr_sum rfl) (by rfl) T.b_sum (by decide +kernel) (pa_cons (pe_lc (own := [("here", 3), ("there", 4)]) (g := (gTup K 2 (gCons (gName 3) (gCons (gName 4) gNil)))) (tt := tYes) rfl sc_law_dot.nd (pi_zipM (by rfl) T.b_zip (pa_cons (pv 1) (pa_cons (pv 2) pa_nil))) (blkOk_by (N := N_law_dot) (sc := defScope s_law_dot) (by decide +kernel)) (fun _ _ _ _ _ => (pgT rfl rfl (pgs_cons (pg_name (i := 3) sc_law_dot.nd rfl (Or.inl rfl)) (pgs_cons (pg_name (i := 4) sc_law_dot.nd rfl (Or.inl rfl)) pgs_nil)))) (fun _ _ _ _ _ => pts_nil)
            (fun _ _ _ _ _ => (pe_op op_mul (pv 3) (pv 4)))) pa_nil)) pa_nil)) (pv 0))), ?_⟩
    refine ⟨_, rfl, _, rfl, t, b, _, _, false, true, rfl, .of ht, .of hb, fun D hD => ?_⟩
    refine lc_fm (walk_zipM (b1 := false) (b2 := true) (n := l.length) (by rw [List.length_map, List.length_map]; omega)) rInt (fun i => some (l.getD i 0 * m.getD i 0)) hD (fun H' s' => ⟨.of (s' _ _ ht), .of (s' _ _ hb)⟩) ?_ ?_
    · rintro i x H2 H3 hi pv ⟨tz, u1, u2, rfl, nz, rfl, e1, e2⟩
      obtain ⟨a, ha, rfl⟩ := at_int e1
      obtain ⟨b, hb2, rfl⟩ := at_int e2
      have h1 := hlb a (List.mem_of_getElem? ha)
      have h2 := hmb b (List.mem_of_getElem? hb2)
      refine ⟨tz, _, rfl, .of upd_same, rfl, _, _, rfl, _, _, rfl, rfl, rfl, ?_⟩
      refine ⟨_, rfl, _, rfl, _, _, rfl, rfl, .inl ⟨by omega, by omega⟩, ?_⟩
      refine fm_keep mono_int pv hD (by omega) (same_new nz) rfl ?_
      show V.int (a * b) = V.int (l.getD i 0 * m.getD i 0)
      rw [getD_at ha, getD_at hb2]
    · intro H2 ys s2 hD2 hp2
      rw [fm_all] at hp2
      have := paired_int hp2
      subst this
      exact ⟨D, _, rfl, .of hD2, .inl ⟨_, rfl, _, rfl, _, _, rfl, rfl, by show 0 < p; omega, q _ s2⟩⟩
def spLDot : Sp := fun vs H Q _ => ∃ (v : V) (b : Addr) (p : Int) (l m : List Int), vs = [.int p, v, .ref b] ∧ rRow H v l ∧ H b = some (.lst (m.map V.int)) ∧ 2 ≤ p ∧ p ≤ 1000000 ∧ l.length = m.length ∧ l.length ≤ 100 ∧ (∀ x ∈ l, 0 ≤ x ∧ x < p) ∧ (∀ x ∈ m, 0 ≤ x ∧ x < p) ∧ ∀ H' k, Same H H' → 0 ≤ k → k < p → Q (.int k) H'
theorem ok_ldot (T : Tx K mg cT cS) {f : Addr} {fd : FuncData} (d : D K mg "_law_dot" s_law_dot ["p", "one", "other"] f fd) : FnOk P w K mg base CX0 1 f fd ["p", "one", "other"] spLDot :=
  (ok_ldotV T d).imp fun vs H Q E ⟨v, b, p, l, m, e, h1, h2, h3, h4, h5, h6, h7, h8, q⟩ => ⟨v, b, p, l, m, e, h1, h2, h3, h4, h5, h6, h7, h8, fun H' s => q H' _ s (mod_b (by omega)).1 (mod_b (by omega)).2⟩
def spLInv : Sp := fun vs H Q _ => ∃ (p v : Int), vs = [.int p, .int v] ∧ Prm p ∧ p ≤ 1000000 ∧ 0 < v ∧ v < p ∧ ∀ H' u, Same H H' → 0 ≤ u → u < p → Cg p (u * v) 1 → Q (.int u) H'
theorem ok_linv (T : Tx K mg cT cS) {f : Addr} {fd : FuncData} (d : D K mg "_law_inverse" s_law_inverse ["p", "value"] f fd) : FnOk P w K mg base CX0 1 f fd ["p", "value"] spLInv := by
  refine d.F.ok sc_law_inverse (fun vs H Q E h => ?_) (fun cdv A outer s H vs Q E hr h => ?_)
  · obtain ⟨p, v, rfl, _⟩ := h
    rfl
  · obtain ⟨p, v, rfl, prm, pm, v0, v1, q⟩ := h
    refine ⟨_, pss_cons (ps_par3 (i := 2) (j := 3) (l := 4) (by rfl) sc_law_inverse.nd rfl rfl rfl (by decide) (by decide) (by decide) rfl rfl rfl (pa_cons pe_int (pa_cons (pv 1) (pa_cons (pe_op op_sub (pv 0) pe_int) pa_nil))) (by rfl))
      (pss_cons (ps_for PassesOwn.never rfl (pi_range1 rfl T.b_range (pa_cons pe_int pa_nil)) (pg_name (i := 5) sc_law_inverse.nd rfl (.inl rfl))
        (pss_cons (ps_if (pt_cmpR op_eq (pe_op op_mod (pe_callTy call_int1 (by rfl) T.b_int (by decide +kernel) (pa_cons (pv 4) pa_nil)) pe_int) pe_int (nomark _)) (pss_one (ps_set (i := 2) sc_law_inverse.nd rfl (.inl rfl) (pe_op op_mod (pe_callTy call_int1 (by rfl) T.b_int (by decide +kernel) (pa_cons (pe_op op_mul (pv 2) (pv 3)) pa_nil)) (pv 0)))) pss_nil)
      (pss_one (ps_par (i := 3) (j := 4) (by rfl) sc_law_inverse.nd rfl rfl (by decide) rfl rfl (pa_cons (pe_op op_mod (pe_callTy call_int1 (by rfl) T.b_int (by decide +kernel) (pa_cons (pe_op op_mul (pv 3) (pv 3)) pa_nil)) (pv 0)) (pa_cons (pe_op op_fdiv (pv 4) pe_int) pa_nil)) (by rfl)))))
      (pss_one (ps_ret (pv 2)))), ?_⟩
    have p2 := prm.1
    refine ⟨_, rfl, _, rfl, _, _, rfl, rfl, _, _, _, rfl, ?_⟩
    dsimp only [gName, tSeq]
    refine ⟨_, rfl, by decide, by decide, ?_⟩
    refine for_it (walk_range (lo := 0) (n := ((20 : Int)).toNat)) (fun i σ H' => ∃ a m l x5, σ = [some (.int p), some (.int v), some (.int a), some (.int m), some (.int l), x5] ∧ Same H H' ∧ 0 ≤ l ∧ l * 2 ^ i ≤ p ∧ 0 ≤ a ∧ a < p ∧ 0 ≤ m ∧ m < p ∧ Cg p (a * m ^ l.toNat) (v ^ (p - 2).toNat))
      ⟨1, v, p - 2, none, rfl, .refl _, by omega, by omega, by omega, by omega, by omega, by omega, by rw [Int.one_mul]; exact .refl _⟩ (fun _ _ _ _ _ => trivial) ?_ ?_
    · rintro i x σ H1 H2 hi ⟨a, m, l, x5, rfl, s1, l0, l1, a0, a1, m0, m1, hc⟩ ⟨rfl, rfl⟩
      have lp : l ≤ p := by
        have h1 : (1 : Int) ≤ 2 ^ i := by
          have : (0 : Int) < 2 ^ i := Int.pow_pos (by omega)
          omega
        have := Int.mul_le_mul_of_nonneg_left h1 l0
        omega
      have l2 : l / 2 * 2 ^ (i + 1) ≤ p := by
        have h1 : (0 : Int) ≤ 2 ^ i := Int.le_of_lt (Int.pow_pos (by omega))
        have h2 : l / 2 * 2 ≤ l := by omega
        have := Int.mul_le_mul_of_nonneg_right h2 h1
        rw [Int.pow_succ, Int.mul_comm (2 ^ i) 2, ← Int.mul_assoc]
        omega
      have next : ∀ (a' : Int) (_ : Cg p (a' * (m * m) ^ (l / 2).toNat) (v ^ (p - 2).toNat)), Cg p (a' * (m * m % p) ^ (l / 2).toNat) (v ^ (p - 2).toNat) := fun a' h => ((Cg.refl a').mul (cgPow (Cg.mod (m * m)) _)).trans h
      have mm := mod_b (a := m * m) (m := p) (by omega)
      dsimp only [gName, tSeq]
      refine ⟨_, rfl, .inl ⟨_, rfl, _, _, rfl, rfl, (by dsimp only; decide), rfl, _, rfl, ?_⟩⟩
      by_cases ho : l % 2 = 1
      · rw [decide_eq_true (congrArg V.int ho)]
        have am := mod_b (a := a * m) (m := p) (by omega)
        refine iteT ⟨_, rfl, _, rfl, _, _, rfl, rfl, .inl ⟨by omega, by omega⟩, .inl ⟨_, rfl, _, rfl, _, _, rfl, rfl, by show 0 < p; omega, ?_⟩⟩
        dsimp only [gName]
        refine ⟨_, rfl, _, rfl, _, _, rfl, rfl, .inl ⟨by omega, by omega⟩, .inl ⟨_, rfl, _, rfl, _, _, rfl, rfl, by show 0 < p; omega, _, rfl, _, _, rfl, rfl, ⟨by decide, by decide⟩, _, _, rfl, ?_⟩⟩
        refine ⟨_, _, _, _, rfl, s1, by omega, l2, am.1, am.2, mm.1, mm.2, next _ ?_⟩
        refine ((Cg.mod (a * m)).mul (Cg.refl _)).trans ((Cg.of_eq ?_).trans hc)
        have e : l.toNat = 2 * (l / 2).toNat + 1 := by omega
        rw [e, Int.pow_succ, pow_even, Int.mul_assoc, Int.mul_comm m]
      · rw [decide_eq_false (fun e => ho (V.int.inj e))]
        refine iteF ?_
        dsimp only [tNext]
        refine ⟨_, rfl, _, rfl, _, _, rfl, rfl, .inl ⟨by omega, by omega⟩, .inl ⟨_, rfl, _, rfl, _, _, rfl, rfl, by show 0 < p; omega, _, rfl, _, _, rfl, rfl, ⟨by decide, by decide⟩, _, _, rfl, ?_⟩⟩
        refine ⟨_, _, _, _, rfl, s1, by omega, l2, a0, a1, mm.1, mm.2, next _ ?_⟩
        refine (Cg.of_eq ?_).trans hc
        have e : l.toNat = 2 * (l / 2).toNat := by omega
        rw [e, pow_even]
    · rintro σ H1 ⟨a, m, l, x5, rfl, s1, l0, l1, a0, a1, m0, m1, hc⟩
      have e0 : l.toNat = 0 := by
        have : ((20 : Int)).toNat = 20 := rfl
        rw [this] at l1
        have h2 : (2 : Int) ^ 20 = 1048576 := by decide
        rw [h2] at l1
        omega
      rw [e0, Int.pow_zero, Int.mul_one] at hc
      refine ⟨_, rfl, q H1 a s1 a0 a1 ?_⟩
      exact (hc.mul (Cg.refl v)).trans (prm.turn v0 v1)
end
end S4

namespace S4
open PySem L2 TT MM
/-! ### a side, round by round -/
theorem fm_filter {α : Type} (p : α → Bool) : ∀ l : List α, l.filterMap (fun v => if p v = true then some v else none) = l.filter p
  | [] => rfl
  | a :: l => by
    rw [List.filterMap_cons, List.filter_cons, fm_filter p l]
    by_cases h : p a = true
    · rw [if_pos h, if_pos h]
    · rw [if_neg h, if_neg h]
def Clo (ties : List (Int × Int)) (bar : Int) (F : List Int) : Prop := ∀ x ∈ F, ∀ y ∈ nb ties x, y ≠ bar → y ∈ F
structure SB (ties : List (Int × Int)) (z : Int × Int) (F : List Int) : Prop where
  nd : F.Nodup
  st : z.1 ∈ F
  rc : ∀ x ∈ F, Rch ties (some z.2) z.1 x
theorem SB.more {ties : List (Int × Int)} {n : Nat} {z : Int × Int} {F ns : List Int} (S : SB ties z F) (ok : TiesOk ties n) {x : Int} (hx : x ∈ F) (hp : ns.Perm (nb ties x)) : SB ties z (F ++ ns.filter fun v => decide (v ≠ z.2 ∧ v ∉ F)) := by
  have hnn : ns.Nodup := hp.nodup_iff.mpr (nb_nodup ok x)
  refine ⟨List.nodup_append.mpr ⟨S.nd, List.Pairwise.filter _ hnn, fun a ha b hb e => ?_⟩, List.mem_append_left _ S.st, fun y hy => ?_⟩
  · subst e
    exact (of_decide_eq_true (List.mem_filter.mp hb).2).2 ha
  · rcases List.mem_append.mp hy with hy | hy
    · exact S.rc y hy
    · obtain ⟨h1, h2⟩ := List.mem_filter.mp hy
      have h2 := (of_decide_eq_true h2).1
      exact (S.rc x hx).step (hp.mem_iff.mp h1) fun e => h2 (Option.some.inj e).symm
theorem full_of {n : Nat} {F : List Int} (nd : F.Nodup) (hin : ∀ x ∈ F, x ∈ rng n) (hl : n ≤ F.length) : ∀ x ∈ rng n, x ∈ F := fun x hx => by
  by_cases h : x ∈ F
  · exact h
  · have := nodup_len (l := x :: F) (V := rng n) (List.nodup_cons.mpr ⟨h, nd⟩) fun v hv => by
      rcases List.mem_cons.mp hv with rfl | hv
      · exact hx
      · exact hin v hv
    rw [List.length_cons, rng_len] at this
    omega
theorem SB.all {ties : List (Int × Int)} {z : Int × Int} {F : List Int} (S : SB ties z F) (c : Clo ties z.2 F) : ∀ x, x ∈ F ↔ Rch ties (some z.2) z.1 x := fun x => by
  refine ⟨S.rc x, fun h => ?_⟩
  induction h with
  | refl => exact S.st
  | step _ h1 h2 ih => exact c _ ih _ h1 fun e => h2 (by rw [e])
section
variable {P : Program} {w : World} {K : PySem.W.Frag} {mg : Str → Option Value} {base : Heap} {cT cS : Addr}
def spLWays : Sp := fun vs H Q _ => ∃ (v : V) (ties : List (Int × Int)), vs = [v] ∧ rTup rPI H v ties ∧ ties.length ≤ 1000 ∧
  ∀ H' p xs m, Same H H' → H p = none → H' p = some (.lst xs) → Paired (rPI H') xs m → m.Perm (ties ++ flipAll ties) → m.Pairwise lxLe → Q (.ref p) H'
theorem ok_lways (T : Tx K mg cT cS) {f : Addr} {fd : FuncData} (d : D K mg "_law_ways" s_law_ways ["ties"] f fd) : FnOk P w K mg base CX0 1 f fd ["ties"] spLWays := by
  refine d.F.ok sc_law_ways (fun vs H Q E h => ?_) (fun cdv A outer s H vs Q E hr h => ?_)
  · obtain ⟨v, ties, rfl, _⟩ := h
    rfl
  · obtain ⟨v, ties, rfl, ⟨t, xs, rfl, ht, hp⟩, hl, q⟩ := h
    refine ⟨_, pss_one (ps_ret (pe_callB cr_sortedPD (by rfl) T.b_sorted (by decide +kernel) (pa_cons (pe_op op_cat (pe_callTy call_list_of (by rfl) T.b_list (by decide +kernel) (pa_cons (pv 0) pa_nil)) (pe_lc (own := [("one", 1), ("other", 2)]) (g := (gTup K 2 (gCons (gName 1) (gCons (gName 2) gNil)))) (tt := tYes) rfl sc_law_ways.nd (pi_tup (pv 0)) (blkOk_by (N := N_law_ways) (sc := defScope s_law_ways) (by decide +kernel)) (fun _ _ _ _ _ => (pgT rfl rfl (pgs_cons (pg_name (i := 1) sc_law_ways.nd rfl (Or.inl rfl)) (pgs_cons (pg_name (i := 2) sc_law_ways.nd rfl (Or.inl rfl)) pgs_nil)))) (fun _ _ _ _ _ => pts_nil)
            (fun _ _ _ _ _ => (pe_tup (pa_cons (pv 2) (pa_cons (pv 1) pa_nil)))))) pa_nil))), ?_⟩
    have hlen := paired_len hp
    refine ⟨_, rfl, t, _, rfl, .inr (.of ht), fun D hD => ?_⟩
    have s2 := same_new (o := .lst xs) hD
    refine ⟨_, rfl, t, rfl, ⟨_, .of (s2.keep.tup ht)⟩, fun D2 hD' => ?_⟩
    refine lc_fm (walk_tup (xs := xs)) rPI (fun i => ties[i]?.bind fun x => some x.swap) hD' (fun H' s' => .of ((s2.trans s').keep.tup ht)) ?_ ?_
    · rintro i x H3 H4 hi pv ⟨rfl, hx⟩
      obtain ⟨z, hz, t2, rfl, ht2⟩ := paired_get (paired_mono mono_pi (s2.trans pv.1).keep hp) hx
      refine ⟨t2, _, rfl, .of ht2, rfl, _, _, rfl, _, _, rfl, rfl, rfl, _, rfl, _, rfl, by show 2 ≤ sizeLine; decide, fun p np => ?_⟩
      exact fm_keep mono_pi pv hD' (by omega) (same_new np) (by rw [hz]; rfl) ⟨p, rfl, upd_same⟩
    · intro H3 zs s3 hD3 hp3
      rw [hlen, fm_some] at hp3
      have l2 := paired_len hp3
      rw [List.length_map] at l2
      have l3 : xs.length + zs.length ≤ 2000 := by omega
      refine ⟨D, D2, xs, zs, rfl, rfl, s3 _ _ upd_same, hD3, Nat.le_trans l3 (by decide), fun p np => ?_⟩
      have s4 := same_new (o := .lst (xs ++ zs)) np
      have s6 := ((s2.trans s3).trans s4)
      refine ⟨p, _, ties ++ flipAll ties, rfl, .of upd_same, paired_app (paired_mono mono_pi s6.keep hp) (paired_mono mono_pi s4.keep hp3), fun ws m r hw hperm hs nr => ?_⟩
      have s5 := same_new (o := .lst ws) nr
      exact q _ r ws m (s6.trans s5) (s6.free nr) upd_same (paired_mono mono_pi s5.keep hw) hperm hs
def spLThis : Sp := fun vs H Q _ => ∃ (v u : V) (ties : List (Int × Int)) (z : Int × Int) (n : Nat), vs = [v, u] ∧ rTup rPI H v ties ∧ rPI H u z ∧ TiesOk ties n ∧ 0 ≤ z.1 ∧ z.1 < (n : Int) ∧
  ∀ H' p ns, Same H H' → H p = none → H' p = some (.lst (ns.map V.int)) → Up ns → ns.Nodup → (∀ x, x ∈ ns ↔ Rch ties (some z.2) z.1 x) → Q (.ref p) H'
theorem ok_lthis (T : Tx K mg cT cS) {f : Addr} {fd : FuncData} (d : D K mg "_law_this_side" s_law_this_side ["ties", "way"] f fd) : FnOk P w K mg base CX0 2 f fd ["ties", "way"] spLThis := by
  obtain ⟨f1, fd1, d1⟩ := T.d_law_near
  have G1 := ok_lnear (P := P) (w := w) (base := base) T d1
  refine d.F.ok sc_law_this_side (fun vs H Q E h => ?_) (fun cdv A outer s H vs Q E hr h => ?_)
  · obtain ⟨v, u, ties, z, n, rfl, _⟩ := h
    rfl
  · obtain ⟨v, u, ties, z, n, rfl, ⟨t, xs, rfl, ht, hp⟩, ⟨tz, rfl, hz⟩, ok, a0, a1, q⟩ := h
    refine ⟨_, pss_cons (ps_set (i := 2) sc_law_this_side.nd rfl (.inr rfl) (pe_lst (pa_cons (pe_ix ix_tup (pv 1) pe_int (fun _ _ => rfl)) pa_nil)))
      (pss_cons (ps_for PassesOwn.never rfl (pi_range1 rfl T.b_range (pa_cons (pe_callB call_len_seq (by rfl) T.b_len PySem.boot_len (pa_cons (pv 0) pa_nil)) pa_nil)) (pg_name (i := 3) sc_law_this_side.nd rfl (.inl rfl))
        (pss_one (ps_for PassesOwn.never rfl (pi_list (pe_callTy call_list_of (by rfl) T.b_list (by decide +kernel) (pa_cons (pv 2) pa_nil))) (pg_name (i := 4) sc_law_this_side.nd rfl (.inl rfl))
        (pss_one (ps_expr (pe_bm PySem.F.plainAttrs_list PySem.F.slot_list_extend PySem.F.type_list_extend mt_extend (pv 2) (pa_cons (pe_lc (own := [("near", 5)]) (g := (gName 5)) (tt := _) rfl sc_law_this_side.nd (pi_list (pe_call G1 (hr.mono (by decide)) rfl d1.m d1.F.kp d1.b .nil pass0 (pa_cons (pv 0) (pa_cons (pv 4) pa_nil)))) (blkOk_by (N := N_law_this_side) (sc := defScope s_law_this_side) (by decide +kernel)) (fun _ _ _ _ _ => (pg_name (i := 5) sc_law_this_side.nd rfl (Or.inl rfl))) (fun _ _ _ _ _ => (pts_one (PW.pt (pw_and (pt_cmpR op_ne (pv 5) (pe_ix (ixT (K := K) rfl) (pv 1) pe_int (fun _ _ => rfl)) (nomark _)) (pw_and1 (pt_cmpR (ninS (K := K) rfl) (pv 5) (pv 2) (by rfl)))))))
            (fun _ _ _ _ _ => (pv 5))) pa_nil)))))))
      (pss_one (ps_ret (pe_callB cr_sortedI (by rfl) T.b_sorted (by decide +kernel) (pa_cons (pv 2) pa_nil))))), ?_⟩
    have hn := ok.len
    have n24 := ok.n24
    have hlen := paired_len hp
    refine ⟨_, rfl, tz, _, _, _, rfl, rfl, .of hz, at_of (j := 0) rfl rfl, by show 1 ≤ sizeLine; decide, fun fa nfa => ?_⟩
    have s1 := same_new (o := .lst [V.int z.1]) nfa
    dsimp only [gName, tSeq]
    refine ⟨_, rfl, _, _, rfl, .inr (.of (s1 _ _ ht)), _, rfl, by omega, by omega, ?_⟩
    have nfa0 := nfa
    have S0 : SB ties z [z.1] := ⟨by simp, by simp, fun x hx => by rw [List.mem_singleton.mp hx]; exact .refl⟩
    have hin : ∀ F : List Int, SB ties z F → ∀ x ∈ F, x ∈ rng n := fun F S x hx => (S.rc x hx).inV ok.shut (rng_mem.mpr ⟨a0, a1⟩)
    have hdd : ∀ y ∈ ties, y.1 ≠ y.2 := fun y hy => by have := ok.b0 y hy; omega
    refine for_it (walk_range (lo := 0) (n := ((xs.length : Nat) : Int).toNat)) (fun i σ H' => ∃ x3 x4 x5 F, σ = [some (.ref t), some (.ref tz), some (.ref fa), x3, x4, x5] ∧ Same H H' ∧ H' fa = some (.lst ((F : List Int).map V.int)) ∧ SB ties z F ∧ (Clo ties z.2 F ∨ i + 1 ≤ F.length))
      ⟨none, none, none, [z.1], rfl, s1, upd_same, S0, .inr (Nat.le_refl _)⟩ (fun _ _ _ _ _ => trivial) ?_ ?_
    · rintro i x σ H2 H3 hi ⟨x3, x4, x5, F0, rfl, s2, hF, SF, hc⟩ ⟨rfl, rfl⟩
      have lF0 : F0.length ≤ 24 := by
        have := nodup_len SF.nd (hin F0 SF)
        rw [rng_len] at this
        omega
      dsimp only [gName]
      refine ⟨_, rfl, fa, _, rfl, .inl (.of hF), fun lc nlc => ⟨lc, rfl, ⟨_, .of upd_same⟩, ?_⟩⟩
      have s3 := same_new (o := .lst (F0.map V.int)) nlc
      have lcfa : fa ≠ lc := fun e => by rw [← e, hF] at nlc; cases nlc
      have nlc0 : H lc = none := s2.free nlc
      refine for_it (walk_list (xs := F0.map V.int)) (fun j σ H' => ∃ x4 x5 E, σ = [some (.ref t), some (.ref tz), some (.ref fa), some (.int (0 + (i : Int))), x4, x5] ∧ Same H H' ∧ H' lc = some (.lst (F0.map V.int)) ∧ H' fa = some (.lst ((F0 ++ E : List Int).map V.int)) ∧ SB ties z (F0 ++ E) ∧
        (∀ k x, k < j → F0[k]? = some x → ∀ y ∈ nb ties x, y ≠ z.2 → y ∈ F0 ++ E) ∧ (Clo ties z.2 F0 → E = []))
        ⟨x4, x5, [], rfl, s2.trans s3, upd_same, by rw [List.append_nil]; exact s3 _ _ hF, by rw [List.append_nil]; exact SF, fun k x h => absurd h (Nat.not_lt_zero k), fun _ => rfl⟩ (fun i σ H' _ h => .of (let ⟨_, _, _, _, _, h, _⟩ := h; h)) ?_ ?_
      · rintro j x σ H4 H5 hj ⟨x4, x5, E, rfl, s4, hlc, hfa, SE, hk, hcl⟩ ⟨rfl, hx⟩
        obtain ⟨post, hpost, rfl⟩ := at_int hx
        have hpm := List.mem_of_getElem? hpost
        have lFE : (F0 ++ E).length ≤ 24 := by
          have := nodup_len SE.nd (hin _ SE)
          rw [rng_len] at this
          omega
        dsimp only [gName]
        refine ⟨_, rfl, .inl ⟨rfl, _, .of hfa⟩, _, rfl, _, rfl, .ref t, ties, post, rfl, ⟨t, xs, rfl, s4 _ _ ht, paired_mono mono_pi s4.keep hp⟩, by omega, hdd, fun H6 r ns s6 nr hr hperm hup => ⟨r, rfl, ⟨_, .of hr⟩, fun D hD => ?_⟩⟩
        have s46 := s4.trans s6
        have nsl : ns.length ≤ 24 := by
          have := nodup_len (hperm.nodup_iff.mpr (nb_nodup ok post)) (V := rng n) fun v hv => ok.shut.cl post (hin F0 SF post hpm) v (hperm.mem_iff.mp hv)
          rw [rng_len] at this
          omega
        have hfa6 := s6 _ _ hfa
        refine lc_fm (walk_list (xs := ns.map V.int)) rInt (fun i => ns[i]?.bind fun v => if decide (v ≠ z.2 ∧ v ∉ F0 ++ E) = true then some v else none) hD (fun H' s' => .of (s' _ _ hr)) ?_ ?_
        · rintro k x H7 H8 hk2 pv ⟨rfl, hx⟩
          obtain ⟨v, hv, rfl⟩ := at_int hx
          rw [List.length_map] at hk2
          refine ⟨rfl, _, rfl, _, rfl, tz, _, _, _, rfl, rfl, .of (pv.1 _ _ (s46 _ _ hz)), at_of (j := 1) rfl rfl, rfl, _, rfl, ?_⟩
          by_cases c1 : v = z.2
          · rw [decide_eq_true (congrArg V.int c1)]
            exact iteF (iteF (fm_skip mono_int pv (Same.refl _) (by rw [hv]; exact if_neg (by rw [decide_eq_true_eq]; exact fun q => q.1 c1))))
          · rw [decide_eq_false (fun e => c1 (V.int.inj e))]
            refine iteT ⟨_, rfl, _, rfl, fa, _, rfl, .inl (.of (pv.1 _ _ hfa6)), rfl, flat_ints _, _, rfl, ?_⟩
            rw [if_pos rfl, inV_ints]
            by_cases c2 : v ∈ F0 ++ E
            · rw [decide_eq_true c2]
              exact iteF (fm_skip mono_int pv (Same.refl _) (by rw [hv]; exact if_neg (by rw [decide_eq_true_eq]; exact fun q => q.2 c2)))
            · rw [decide_eq_false c2]
              exact iteT ⟨_, rfl, fm_keep mono_int pv hD (by omega) (Same.refl _) (by rw [hv]; exact if_pos (decide_eq_true ⟨c1, c2⟩)) rfl⟩
        · intro H7 ys s7 hD7 hp7
          have e := paired_int hp7
          subst e
          rw [List.length_map, fm_list, fm_filter] at hD7
          have fl := List.length_filter_le (fun v => decide (v ≠ z.2 ∧ v ∉ F0 ++ E)) ns
          have hfa7 := s7 _ _ hfa6
          refine ⟨fa, D, _, _, rfl, rfl, hfa7, hD7, by rw [List.length_map, List.length_map]; exact Nat.le_trans (by omega : _ ≤ 48) (by decide), ?_⟩
          have SM := SE.more ok (List.mem_append_left E hpm) hperm
          rw [List.append_assoc] at SM
          refine ⟨_, _, E ++ ns.filter fun v => decide (v ≠ z.2 ∧ v ∉ F0 ++ E), rfl, same_own (s46.trans s7) nfa0, by rw [upd_ne lcfa.symm]; exact s7 _ _ (s6 _ _ hlc), by rw [upd_same, ← List.map_append, List.append_assoc], SM, fun k x hk2 hxk y hy hne => ?_, fun hcl0 => ?_⟩
          · rw [← List.append_assoc]
            by_cases hkj : k < j
            · exact List.mem_append_left _ (hk k x hkj hxk y hy hne)
            · have : k = j := by omega
              subst this
              rw [hpost] at hxk
              cases hxk
              by_cases hyF : y ∈ F0 ++ E
              · exact List.mem_append_left _ hyF
              · exact List.mem_append_right _ (List.mem_filter.mpr ⟨hperm.mem_iff.mpr hy, decide_eq_true ⟨hne, hyF⟩⟩)
          · have e0 := hcl hcl0
            subst e0
            rw [List.nil_append, List.filter_eq_nil_iff]
            intro v hv hd
            obtain ⟨d1, d2⟩ := of_decide_eq_true hd
            exact d2 (by rw [List.append_nil]; exact hcl0 post hpm v (hperm.mem_iff.mp hv) d1)
      · rintro σ H4 ⟨x4, x5, E, rfl, s4, hlc, hfa, SE, hk, hcl⟩
        refine ⟨_, x4, x5, F0 ++ E, rfl, s4, hfa, SE, ?_⟩
        have full : ∀ x ∈ F0, ∀ y ∈ nb ties x, y ≠ z.2 → y ∈ F0 ++ E := fun x hx y hy hne => by
          obtain ⟨k, hk2⟩ := List.getElem?_of_mem hx
          refine hk k x ?_ hk2 y hy hne
          rw [List.length_map]
          exact (List.getElem?_eq_some_iff.mp hk2).1
        rcases hc with hc | hc
        · have := hcl hc
          subst this
          exact .inl (by rw [List.append_nil]; exact hc)
        · cases E with
          | nil =>
            rw [List.append_nil] at full ⊢
            exact .inl full
          | cons e E =>
            refine .inr ?_
            rw [List.length_append, List.length_cons]
            omega
    · rintro σ H2 ⟨x3, x4, x5, F, rfl, s2, hF, SF, hc⟩
      rw [Int.toNat_natCast] at hc
      have hcl : Clo ties z.2 F := by
        rcases hc with hc | hc
        · exact hc
        · have full := full_of SF.nd (hin F SF) (by omega)
          exact fun x hx y hy _ => full y (ok.shut.cl x (hin F SF x hx) y hy)
      refine ⟨_, rfl, fa, F, rfl, .of hF, fun ns r hperm hup nr => ?_⟩
      exact q _ r ns (s2.trans (same_new nr)) (s2.free nr) upd_same hup (hperm.nodup_iff.mpr SF.nd) fun x => by rw [hperm.mem_iff]; exact SF.all hcl x
end
end S4

namespace S4
open PySem L2 TT MM
/-! ### rows put right place by place -/
structure LG (p : Int) (wd : Nat) (rows : List (List Int)) (pl : List Nat) (c : Nat) (W : List (List Int)) : Prop where
  row : ∀ r ∈ W, isRow r p wd
  len : W.length = rows.length
  sp : Same2 p (inRows W) (inRows rows)
  asc : pl.Pairwise (· < ·)
  lt : ∀ x ∈ pl, x < c
  one : ∀ (a x : Nat), pl[a]? = some x → (W.getD a []).getD x 0 = 1
  off : ∀ (a x i : Nat), pl[a]? = some x → i ≠ a → (W.getD i []).getD x 0 = 0
  low : ∀ (a x y : Nat), pl[a]? = some x → y < x → (W.getD a []).getD y 0 = 0
  rest : ∀ (i y : Nat), pl.length ≤ i → y < c → (W.getD i []).getD y 0 = 0
section
variable {p : Int} {wd : Nat} {rows W W' : List (List Int)} {pl : List Nat} {c : Nat}
theorem getD_set (W : List (List Int)) {i : Nat} (hi : i < W.length) (r : List Int) (k : Nat) : (W.set i r).getD k [] = if k = i then r else W.getD k [] := by
  rw [List.getD_eq_getElem?_getD, List.getElem?_set]
  by_cases h : k = i
  · subst h
    rw [if_pos rfl, if_pos rfl, if_pos hi]
    rfl
  · rw [if_neg (fun e => h e.symm), if_neg h, List.getD_eq_getElem?_getD]
theorem same_set {i : Nat} (hi : i < W.length) {r : List Int} (h1 : Spn p (inRows W) (vec r)) (h2 : Spn p (inRows (W.set i r)) (vec (W.getD i []))) : Same2 p (inRows (W.set i r)) (inRows W) := by
  refine same2_of (fun v ⟨l, hl, e⟩ => ?_) fun v ⟨l, hl, e⟩ => ?_
  · subst e
    rcases List.mem_or_eq_of_mem_set hl with h | h
    · exact .row ⟨l, h, rfl⟩
    · subst h; exact h1
  · subst e
    obtain ⟨k, hk, rfl⟩ := List.getElem_of_mem hl
    by_cases e : k = i
    · subst e
      have e2 : W.getD k [] = W[k] := getD_at (List.getElem?_eq_getElem hk)
      rw [← e2]; exact h2
    · refine .row ⟨W[k], ?_, rfl⟩
      have : (W.set i r)[k]? = some W[k] := by rw [List.getElem?_set, if_neg (fun q => e q.symm), List.getElem?_eq_getElem hk]
      exact List.mem_of_getElem? this
theorem same_trans {R1 R2 R3 : Vc → Prop} (a : Same2 p R1 R2) (b : Same2 p R2 R3) : Same2 p R1 R3 := fun v => (a v).trans (b v)
theorem same_swap {i j : Nat} (hi : i < W.length) (hj : j < W.length) : Same2 p (inRows ((W.set i (W.getD j [])).set j (W.getD i []))) (inRows W) := by
  have ei : W.getD i [] = W[i] := getD_at (List.getElem?_eq_getElem hi)
  have ej : W.getD j [] = W[j] := getD_at (List.getElem?_eq_getElem hj)
  refine same2_of (fun v ⟨l, hl, e⟩ => ?_) fun v ⟨l, hl, e⟩ => ?_
  · subst e
    refine .row ⟨l, ?_, rfl⟩
    rcases List.mem_or_eq_of_mem_set hl with h | h
    · rcases List.mem_or_eq_of_mem_set h with h | h
      · exact h
      · rw [h, ej]; exact List.getElem_mem hj
    · rw [h, ei]; exact List.getElem_mem hi
  · subst e
    refine .row ⟨l, ?_, rfl⟩
    obtain ⟨k, hk, rfl⟩ := List.getElem_of_mem hl
    have hl1 : j < (W.set i (W.getD j [])).length := by rw [List.length_set]; exact hj
    by_cases e1 : k = i
    · subst e1
      have : ((W.set k (W.getD j [])).set j (W.getD k []))[j]? = some W[k] := by rw [List.getElem?_set, if_pos rfl, if_pos hl1, ei]
      exact List.mem_of_getElem? this
    · by_cases e2 : k = j
      · subst e2
        have : ((W.set i (W.getD k [])).set k (W.getD i []))[i]? = some W[k] := by
          rw [List.getElem?_set, if_neg e1, List.getElem?_set, if_pos rfl, if_pos hi, ej]
        exact List.mem_of_getElem? this
      · have : ((W.set i (W.getD j [])).set j (W.getD i []))[k]? = some W[k] := by
          rw [List.getElem?_set, if_neg (fun q => e2 q.symm), List.getElem?_set, if_neg (fun q => e1 q.symm), List.getElem?_eq_getElem hk]
        exact List.mem_of_getElem? this
theorem LG.le (L : LG p wd rows pl c W) : pl.length ≤ W.length := by
  by_cases h : pl.length ≤ W.length
  · exact h
  · have hx : pl[W.length]? = some (pl[W.length]'(by omega)) := List.getElem?_eq_getElem (by omega)
    have := L.one _ _ hx
    rw [List.getD_eq_getElem?_getD (l := W), List.getElem?_eq_none (Nat.le_refl _)] at this
    simp at this
theorem LG.start (hr : ∀ r ∈ rows, isRow r p wd) : LG p wd rows [] 0 rows :=
  ⟨hr, rfl, fun v => Iff.rfl, .nil, fun x h => (nomatch h), fun a x h => by simp at h, fun a x i h => by simp at h, fun a x y h => by simp at h, fun i y _ h => absurd h (Nat.not_lt_zero y)⟩
/-- no row is left that has something at the place -/
theorem LG.none (L : LG p wd rows pl c W) (h : ∀ i, pl.length ≤ i → (W.getD i []).getD c 0 = 0) : LG p wd rows pl (c + 1) W :=
  ⟨L.row, L.len, L.sp, L.asc, fun x hx => Nat.lt_succ_of_lt (L.lt x hx), L.one, L.off, L.low, fun i y hi hy => by
    by_cases e : y = c
    · subst e; exact h i hi
    · exact L.rest i y hi (by omega)⟩
/-- a row is put at the top, all others cleared of the place -/
theorem LG.some (L : LG p wd rows pl c W) (hr : ∀ r ∈ W', isRow r p wd) (hl : W'.length = W.length) (hs : Same2 p (inRows W') (inRows W)) (un : ∀ i x, x < c → (W'.getD i []).getD x 0 = (W.getD i []).getD x 0)
    (h1 : (W'.getD pl.length []).getD c 0 = 1) (h0 : ∀ i, i ≠ pl.length → (W'.getD i []).getD c 0 = 0) : LG p wd rows (pl ++ [c]) (c + 1) W' := by
  have at_ : ∀ a x, (pl ++ [c])[a]? = Option.some x → (pl[a]? = Option.some x ∧ x < c) ∨ (a = pl.length ∧ x = c) := fun a x h => by
    by_cases ha : a < pl.length
    · rw [List.getElem?_append_left ha] at h
      exact .inl ⟨h, L.lt x (List.mem_of_getElem? h)⟩
    · rw [List.getElem?_append_right (by omega)] at h
      obtain ⟨hh, e⟩ := List.getElem?_eq_some_iff.mp h
      have : a - pl.length = 0 := by rw [List.length_singleton] at hh; omega
      simp only [this, List.getElem_singleton] at e
      exact .inr ⟨by omega, e.symm⟩
  refine ⟨hr, by rw [hl, L.len], same_trans hs L.sp, ?_, fun x hx => ?_, fun a x h => ?_, fun a x i h hi => ?_, fun a x y h hy => ?_, fun i y hi hy => ?_⟩
  · rw [List.pairwise_append]
    exact ⟨L.asc, List.pairwise_singleton _ _, fun a ha b hb => by rw [List.mem_singleton.mp hb]; exact L.lt a ha⟩
  · rcases List.mem_append.mp hx with h | h
    · have := L.lt x h; omega
    · rw [List.mem_singleton.mp h]; omega
  · rcases at_ a x h with ⟨h, hx⟩ | ⟨rfl, rfl⟩
    · rw [un a x hx]; exact L.one a x h
    · exact h1
  · rcases at_ a x h with ⟨h, hx⟩ | ⟨rfl, rfl⟩
    · rw [un i x hx]; exact L.off a x i h hi
    · exact h0 i hi
  · rcases at_ a x h with ⟨h, hx⟩ | ⟨rfl, rfl⟩
    · rw [un a y (by omega)]; exact L.low a x y h hy
    · rw [un _ y hy]; exact L.rest _ y (Nat.le_refl _) hy
  · rw [List.length_append, List.length_singleton] at hi
    by_cases e : y = c
    · subst e; exact h0 i (by omega)
    · rw [un i y (by omega)]; exact L.rest i y (by omega) (by omega)
theorem rowOf_zip : ∀ {pl : List Nat} {W : List (List Int)} {a x : Nat}, pl.Nodup → pl[a]? = Option.some x → a < W.length → rowOf (pl.zip W) x = W.getD a []
  | [], _, _, _, _, h, _ => by simp at h
  | y :: pl, [], a, x, _, _, h => by simp at h
  | y :: pl, w :: W, 0, x, nd, h, _ => by
    cases (Option.some.inj h)
    unfold rowOf
    simp
  | y :: pl, w :: W, a + 1, x, nd, h, hl => by
    obtain ⟨n1, n2⟩ := List.nodup_cons.mp nd
    have hm : x ∈ pl := List.mem_of_getElem? (by simpa using h)
    have hne : y ≠ x := fun e => n1 (e ▸ hm)
    have ih := rowOf_zip (W := W) (a := a) (x := x) n2 (by simpa using h) (by simpa using hl)
    unfold rowOf at ih ⊢
    rw [List.zip_cons_cons, List.find?_cons]
    simp only [beq_false_of_ne hne]
    rw [ih]
    simp
theorem LG.done (p2 : 2 ≤ p) (L : LG p wd rows pl wd W) : IsLad p wd rows (W.take pl.length) := by
  have hle := L.le
  have nd : pl.Nodup := L.asc.imp fun h => Nat.ne_of_lt h
  have hfst : (pl.zip W).map (·.1) = pl := by rw [List.map_fst_zip hle]
  have hro : ∀ a x, pl[a]? = Option.some x → rowOf (pl.zip W) x = W.getD a [] := fun a x h => rowOf_zip nd h (by have := (List.getElem?_eq_some_iff.mp h).1; omega)
  refine ⟨pl.zip W, pl.map fun (x : Nat) => (x : Int), ⟨⟨?_, ?_, ?_, ?_⟩, ?_, ?_⟩, ?_, ?_, ?_⟩
  · rw [hfst]; exact nd
  · rw [hfst]
    intro i hi
    obtain ⟨a, ha⟩ := List.getElem?_of_mem hi
    unfold rv vec
    rw [hro a i ha, L.one a i ha]
    exact .refl _
  · rw [hfst]
    intro i hi j hj hne
    obtain ⟨a, ha⟩ := List.getElem?_of_mem hi
    obtain ⟨b, hb⟩ := List.getElem?_of_mem hj
    unfold rv vec
    rw [hro a i ha, L.off b j a hb (fun e => by subst e; rw [ha] at hb; exact hne (Option.some.inj hb).symm)]
    exact .refl _
  · rw [hfst]
    intro i hi x hx
    obtain ⟨a, ha⟩ := List.getElem?_of_mem hi
    unfold rv vec
    rw [hro a i ha, L.low a i x ha hx]
    exact .refl _
  · intro z hz
    have h1 := List.of_mem_zip hz
    have hr := L.row z.2 h1.2
    exact ⟨L.lt z.1 h1.1, by have := hr.1; omega, hr.2⟩
  · refine same_trans ?_ L.sp
    refine same2_of (fun v hv => ?_) fun v ⟨l, hl, e⟩ => ?_
    · obtain ⟨i, hi, rfl⟩ := hv
      rw [hfst] at hi
      obtain ⟨a, ha⟩ := List.getElem?_of_mem hi
      have hlt : a < W.length := by have := (List.getElem?_eq_some_iff.mp ha).1; omega
      refine .row ⟨W[a], List.getElem_mem hlt, ?_⟩
      unfold rv
      rw [hro a i ha, getD_at (List.getElem?_eq_getElem hlt)]
    · subst e
      obtain ⟨k, hk, rfl⟩ := List.getElem_of_mem hl
      have ek : W.getD k [] = W[k] := getD_at (List.getElem?_eq_getElem hk)
      by_cases hkp : k < pl.length
      · have hx : pl[k]? = Option.some pl[k] := List.getElem?_eq_getElem hkp
        refine .row ⟨pl[k], by rw [hfst]; exact List.getElem_mem hkp, ?_⟩
        unfold rv
        rw [hro k _ hx, ek]
      · refine .zero fun x => ?_
        have hw := (L.row _ (List.getElem_mem hk)).1
        unfold vec
        by_cases hx : x < wd
        · rw [← ek, L.rest k x (by omega) hx]
          exact .refl _
        · rw [List.getD_eq_getElem?_getD, List.getElem?_eq_none (by omega)]
          exact .refl _
  · unfold keysI
    rw [← hfst, List.map_map]
    rw [hfst]
    exact .refl _
  · unfold Up
    rw [List.pairwise_map]
    exact L.asc.imp fun h => by omega
  · rw [List.map_map]
    apply List.ext_getElem?
    intro k
    rw [List.getElem?_map, List.getElem?_take]
    by_cases hk : k < pl.length
    · have hx : pl[k]? = Option.some pl[k] := List.getElem?_eq_getElem hk
      have hlt : k < W.length := by omega
      rw [if_pos hk, hx, List.getElem?_eq_getElem hlt]
      show Option.some W[k] = Option.some (rowOf (pl.zip W) ((pl[k] : Nat) : Int).toNat)
      rw [Int.toNat_natCast, hro k _ hx, getD_at (List.getElem?_eq_getElem hlt)]
    · rw [if_neg hk, List.getElem?_eq_none (by omega)]
      rfl
end
end S4

namespace S4
open PySem L2 TT MM
/-! ### the law's ladder -/
theorem ixN_nat {n j : Nat} (h : j < n) : ixN n (j : Int) = some j := by
  unfold ixN
  rw [if_pos (by omega), if_pos (by omega), Int.toNat_natCast]
def rLI : Rp (List Int) := fun H v l => ∃ a, v = .ref a ∧ H a = some (.lst (l.map V.int))
theorem li_same {H H' : Hp} (s : Same H H') : ∀ {xs : List V} {W : List (List Int)}, Paired (rLI H) xs W → Paired (rLI H') xs W := fun p => Paired.mapP p fun _ _ ⟨a, e, h⟩ => ⟨a, e, s _ _ h⟩
theorem li_upd {H : Hp} {wk : Addr} {xs ys : List V} {W : List (List Int)} (hw : H wk = some (.lst xs)) (p : Paired (rLI H) xs W) : Paired (rLI (upd H wk (.lst ys))) xs W := by
  have hne : ∀ v ∈ xs, ∀ a, v = .ref a → ∀ l : List Int, H a = some (.lst (l.map V.int)) → a ≠ wk := fun v hv a e l h q => by
    subst q
    rw [hw] at h
    have h := HO.lst.inj (Option.some.inj h)
    rw [h] at hv
    obtain ⟨n, _, e2⟩ := List.mem_map.mp hv
    rw [e] at e2
    cases e2
  have go : ∀ {zs : List V} {W : List (List Int)}, (∀ v ∈ zs, v ∈ xs) → Paired (rLI H) zs W → Paired (rLI (upd H wk (.lst ys))) zs W := by
    intro zs W hz p
    induction p with
    | nil => exact .nil
    | cons r t ih =>
      obtain ⟨a, e, h⟩ := r
      refine .cons ⟨a, e, ?_⟩ (ih fun v hv => hz v (by simp [hv]))
      rw [upd_ne (hne _ (hz _ (by simp)) a e _ h)]
      exact h
  exact go (fun _ h => h) p
theorem paired_set {α β : Type} {F : α → β → Prop} : ∀ {xs : List α} {l : List β} (i : Nat) {x : α} {y : β}, Paired F xs l → F x y → Paired F (xs.set i x) (l.set i y)
  | _, _, _, _, _, .nil, _ => .nil
  | _, _, 0, _, _, .cons _ t, r => .cons r t
  | _, _, i + 1, _, _, .cons q t, r => .cons q (paired_set i t r)
theorem listS {X : Cx} {K : PySem.W.Frag} (h : X.K = K) : CallR X (.type "list") (fun xs H Q => ∃ p ys, xs = [.ref p] ∧ (SqL K H p ys ∨ SqT K H p ys) ∧ ∀ l, H l = none → Q (.ref l) (upd H l (.lst ys))) := h ▸ call_list_of
theorem fm_first (f : Nat → Bool) (lo n : Nat) : ((List.range n).filterMap fun i => if f (lo + i) = true then some ((lo + i : Nat) : Int) else none) = [] ∧ (∀ i, lo ≤ i → i < lo + n → f i = false) ∨
    ∃ (k : Nat) (S : List Int), ((List.range n).filterMap fun i => if f (lo + i) = true then some ((lo + i : Nat) : Int) else none) = (k : Int) :: S ∧ lo ≤ k ∧ k < lo + n ∧ f k = true := by
  cases e : ((List.range n).filterMap fun i => if f (lo + i) = true then some ((lo + i : Nat) : Int) else none) with
  | nil =>
    refine .inl ⟨rfl, fun i h1 h2 => ?_⟩
    have h := List.filterMap_eq_nil_iff.mp e (i - lo) (List.mem_range.mpr (by omega))
    rw [show lo + (i - lo) = i by omega] at h
    cases hf : f i with
    | false => rfl
    | true => rw [hf, if_pos rfl] at h; cases h
  | cons x S =>
    have hx : x ∈ (List.range n).filterMap fun i => if f (lo + i) = true then some ((lo + i : Nat) : Int) else none := by rw [e]; simp
    obtain ⟨i, hi, h⟩ := List.mem_filterMap.mp hx
    have hi := List.mem_range.mp hi
    cases hf : f (lo + i) with
    | false => rw [hf, if_neg (by simp)] at h; cases h
    | true =>
      rw [hf, if_pos rfl] at h
      cases h
      exact .inr ⟨lo + i, S, rfl, by omega, by omega, hf⟩
theorem wide_of {K : PySem.W.Frag} {σ : St} {H : Hp} {wk : Addr} {ys : List V} {rows : List (List Int)} {wd : Nat} {Q : V → Hp → Prop} (h2 : σ[2]? = some (some (.ref wk))) (hw : H wk = some (.lst ys)) (hp : Paired (rLI H) ys rows) (hr : ∀ r ∈ rows, r.length = wd) (q : Q (.int ((if rows = [] then 0 else wd : Nat) : Int)) H) :
    tIf (tTest (tOp (rI0 fun i j => V.bl (decide (j < i))) (tCB (fun xs H Q => ∃ p ys, xs = [.ref p] ∧ (SqL K H p ys ∨ SqT K H p ys) ∧ Q (.int ((ys.length : Nat) : Int)) H) (tCons (tVar 2) tNil)) (tC (.int 0))))
      (tCB (fun xs H Q => ∃ p ys, xs = [.ref p] ∧ (SqL K H p ys ∨ SqT K H p ys) ∧ Q (.int ((ys.length : Nat) : Int)) H) (tCons (tOp (rIxL K) (tVar 2) (tC (.int 0))) tNil)) (tC (.int 0)) σ H Q := by
  refine ⟨_, h2, wk, ys, rfl, .inl (.of hw), _, _, rfl, rfl, _, rfl, ?_⟩
  cases hp with
  | nil =>
    rw [if_pos rfl] at q
    rw [decide_eq_false (by show ¬ (0 : Int) < (([] : List V).length : Int); decide)]
    exact iteF q
  | cons r t =>
    obtain ⟨b, rfl, hb⟩ := r
    rw [if_neg (by simp)] at q
    rw [decide_eq_true (by rw [List.length_cons]; omega)]
    refine iteT ⟨_, h2, wk, _, _, _, rfl, rfl, .of hw, at_of (j := 0) rfl rfl, b, _, rfl, .inl (.of hb), ?_⟩
    rw [List.length_map, hr _ (by simp)]
    exact q
theorem LG.widen {p : Int} {wd : Nat} {pl : List Nat} {c : Nat} {W : List (List Int)} (L : LG p wd [] pl c W) : LG p wd [] pl wd W := by
  have hW : W = [] := List.eq_nil_of_length_eq_zero L.len
  have hpl := L.le
  rw [L.len] at hpl
  have hpl : pl = [] := List.eq_nil_of_length_eq_zero (by simpa using hpl)
  subst hW hpl
  exact ⟨L.row, L.len, L.sp, .nil, fun x h => (nomatch h), L.one, L.off, L.low, fun i y _ _ => by simp⟩
section
variable {P : Program} {w : World} {K : PySem.W.Frag} {mg : Str → Option Value} {base : Heap} {cT cS : Addr}
def rLT : Rp (List Int) := fun H v l => ∃ a, v = .ref a ∧ (H a = some (.lst (l.map V.int)) ∨ H a = some (.tup (l.map V.int)))
theorem lt_same {H H' : Hp} (s : Same H H') : ∀ {xs : List V} {W : List (List Int)}, Paired (rLT H) xs W → Paired (rLT H') xs W := fun p => Paired.mapP p fun _ _ ⟨a, e, h⟩ => ⟨a, e, h.elim (fun h => .inl (s _ _ h)) (fun h => .inr (s _ _ h))⟩
def spLLadT : Sp := fun vs H Q _ => ∃ (a : Addr) (p : Int) (wd : Nat) (xs : List V) (rows : List (List Int)), vs = [.int p, .ref a] ∧ H a = some (.lst xs) ∧ Paired (rLT H) xs rows ∧ rows.length ≤ 400 ∧ Prm p ∧ p ≤ 1000000 ∧ wd ≤ 200 ∧ (∀ r ∈ rows, isRow r p wd) ∧
  ∀ H' v lad, Same H H' → rTup rRow H' v lad → IsLad p wd rows lad → Q v H'
theorem ok_lladT (T : Tx K mg cT cS) {f : Addr} {fd : FuncData} (d : D K mg "_law_ladder" s_law_ladder ["p", "rows"] f fd) : FnOk P w K mg base CX0 2 f fd ["p", "rows"] spLLadT := by
  obtain ⟨f1, fd1, d1⟩ := T.d_law_inverse
  have G1 := ok_linv (P := P) (w := w) (base := base) T d1
  refine d.F.ok sc_law_ladder (fun vs H Q E h => ?_) (fun cdv A outer s H vs Q E hr h => ?_)
  · obtain ⟨a, p, wd, xs, rows, rfl, _⟩ := h
    rfl
  · obtain ⟨a, p, wd, xs, rows, rfl, ha, hp, hl, prm, pm, hwd, hrw, q⟩ := h
    refine ⟨_, pss_cons (ps_asg (pe_tup (pa_cons (pe_lc (own := [("row", 9)]) (g := (gName 9)) (tt := tYes) rfl sc_law_ladder.nd (pi_list (pv 1)) (blkOk_by (N := N_law_ladder) (sc := defScope s_law_ladder) (by decide +kernel)) (fun _ _ _ _ _ => (pg_name (i := 9) sc_law_ladder.nd rfl (Or.inl rfl))) (fun _ _ _ _ _ => pts_nil)
            (fun _ _ _ _ _ => (pe_callTy (listS (K := K) rfl) (by rfl) T.b_list (by decide +kernel) (pa_cons (pv 9) pa_nil)))) (pa_cons pe_int pa_nil))) (pg_tup rfl (pgs_cons (pg_name (i := 2) sc_law_ladder.nd rfl (.inr rfl)) (pgs_cons (pg_name (i := 3) sc_law_ladder.nd rfl (.inl rfl)) pgs_nil))))
      (pss_cons (ps_for PassesOwn.never rfl (pi_range1 rfl T.b_range (pa_cons (pe_ifExp (pt_cmpR op_gt (pe_callB call_len_seq (by rfl) T.b_len PySem.boot_len (pa_cons (pv 2) pa_nil)) pe_int (nomark _)) (pe_callB call_len_seq (by rfl) T.b_len PySem.boot_len (pa_cons (pe_ix ix_list (pv 2) pe_int (fun _ _ => rfl)) pa_nil)) pe_int) pa_nil)) (pg_name (i := 4) sc_law_ladder.nd rfl (.inr rfl))
        (pss_cons (ps_setLc (i := 6) (own := [("at", 5)]) (g := (gName 5)) (tt := _) rfl sc_law_ladder.nd rfl rfl (sw_true rfl rfl rfl (by decide +kernel)) (pi_range2 rfl T.b_range (pa_cons (pv 3) (pa_cons (pe_callB call_len_seq (by rfl) T.b_len PySem.boot_len (pa_cons (pv 2) pa_nil)) pa_nil))) (blkOk_by (N := N_law_ladder) (sc := defScope s_law_ladder) (by decide +kernel)) (fun _ _ _ _ _ => (pg_name (i := 5) sc_law_ladder.nd rfl (Or.inl rfl))) (fun _ _ _ _ _ => (pts_one (pt_cmpR op_ne (pe_ix (ixL (K := K) rfl) (pe_ix (ixL (K := K) rfl) (pv 2) (pv 5) (fun _ _ => rfl)) (pv 4) (fun _ _ => rfl)) pe_int (nomark _))))
            (fun _ _ _ _ _ => (pv 5)))
      (pss_one (ps_if (pt_cmpR op_gt (pe_callB call_len_seq (by rfl) T.b_len PySem.boot_len (pa_cons (pv 6) pa_nil)) pe_int (nomark _)) (pss_cons (ps_asg (pe_tup (pa_cons (pe_ix ix_list (pv 2) (pe_ix ix_list (pv 6) pe_int (fun _ _ => rfl)) (fun _ _ => rfl)) (pa_cons (pe_ix ix_list (pv 2) (pv 3) (fun _ _ => rfl)) pa_nil))) (pg_tup rfl (pgs_cons (pg_sub (pv 2) (pv 3) set_list) (pgs_cons (pg_sub (pv 2) (pe_ix ix_list (pv 6) pe_int (fun _ _ => rfl)) set_list) pgs_nil))))
      (pss_cons (ps_set (i := 7) sc_law_ladder.nd rfl (.inr rfl) (pe_call G1 (hr.mono (by decide)) rfl d1.m d1.F.kp d1.b .nil pass0 (pa_cons (pv 0) (pa_cons (pe_ix ix_list (pe_ix ix_list (pv 2) (pv 3) (fun _ _ => rfl)) (pv 4) (fun _ _ => rfl)) pa_nil))))
      (pss_cons (ps_asg (pe_lc (own := [("value", 10)]) (g := (gName 10)) (tt := tYes) rfl sc_law_ladder.nd (pi_list (pe_ix ix_list (pv 2) (pv 3) (fun _ _ => rfl))) (blkOk_by (N := N_law_ladder) (sc := defScope s_law_ladder) (by decide +kernel)) (fun _ _ _ _ _ => (pg_name (i := 10) sc_law_ladder.nd rfl (Or.inl rfl))) (fun _ _ _ _ _ => pts_nil)
            (fun _ _ _ _ _ => (pe_op op_mod (pe_callTy call_int1 (by rfl) T.b_int (by decide +kernel) (pa_cons (pe_op op_mul (pv 10) (pv 7)) pa_nil)) (pv 0)))) (pg_sub (pv 2) (pv 3) set_list))
      (pss_cons (ps_for PassesOwn.never rfl (pi_range1 rfl T.b_range (pa_cons (pe_callB call_len_seq (by rfl) T.b_len PySem.boot_len (pa_cons (pv 2) pa_nil)) pa_nil)) (pg_name (i := 5) sc_law_ladder.nd rfl (.inl rfl))
        (pss_cons (ps_set (i := 8) sc_law_ladder.nd rfl (.inr rfl) (pe_ix ix_list (pe_ix ix_list (pv 2) (pv 5) (fun _ _ => rfl)) (pv 4) (fun _ _ => rfl)))
      (pss_one (ps_if (PW.pt (pw_and (pt_cmpR op_ne (pv 5) (pv 3) (nomark _)) (pw_and1 (pt_cmpR op_ne (pv 8) pe_int (nomark _))))) (pss_one (ps_asg (pe_lc (own := [("value", 10), ("own", 11)]) (g := (gTup K 2 (gCons (gName 10) (gCons (gName 11) gNil)))) (tt := tYes) rfl sc_law_ladder.nd (RZ.pi_zipA (by rfl) T.b_zip (pa_cons (pe_ix ix_list (pv 2) (pv 5) (fun _ _ => rfl)) (pa_cons (pe_ix ix_list (pv 2) (pv 3) (fun _ _ => rfl)) pa_nil))) (blkOk_by (N := N_law_ladder) (sc := defScope s_law_ladder) (by decide +kernel)) (fun _ _ _ _ _ => (pgT rfl rfl (pgs_cons (pg_name (i := 10) sc_law_ladder.nd rfl (Or.inl rfl)) (pgs_cons (pg_name (i := 11) sc_law_ladder.nd rfl (Or.inl rfl)) pgs_nil)))) (fun _ _ _ _ _ => pts_nil)
            (fun _ _ _ _ _ => (pe_op op_mod (pe_callTy call_int1 (by rfl) T.b_int (by decide +kernel) (pa_cons (pe_op op_sub (pv 10) (pe_op op_mul (pv 8) (pv 11))) pa_nil)) (pv 0)))) (pg_sub (pv 2) (pv 5) set_list))) pss_nil))))
      (pss_one (ps_set (i := 3) sc_law_ladder.nd rfl (.inl rfl) (pe_op op_add (pv 3) pe_int))))))) pss_nil))))
      (pss_one (ps_ret (pe_callTy call_tuple_of (by rfl) T.b_tuple (by decide +kernel) (pa_cons (pe_lc (own := [("row", 9)]) (g := (gName 9)) (tt := tYes) rfl sc_law_ladder.nd (pi_list (pe_slice sl_list (pv 2) po_none (po_some (pv 3)))) (blkOk_by (N := N_law_ladder) (sc := defScope s_law_ladder) (by decide +kernel)) (fun _ _ _ _ _ => (pg_name (i := 9) sc_law_ladder.nd rfl (Or.inl rfl))) (fun _ _ _ _ _ => pts_nil)
            (fun _ _ _ _ _ => (pe_callTy (tupS (K := K) rfl) (by rfl) T.b_tuple (by decide +kernel) (pa_cons (pv 9) pa_nil)))) pa_nil))))), ?_⟩
    have p2 := prm.1
    have hlr := paired_len hp
    refine ⟨_, rfl, a, rfl, ⟨_, .of ha⟩, fun wk hwk => ?_⟩
    refine walk_W (walk_list (xs := xs)) _ (fun i H' => Same H H' ∧ ∃ ys, H' wk = some (.lst ys) ∧ Paired (rLI H') ys (rows.take i)) ⟨same_new hwk, [], upd_same, .nil⟩ (fun i H' _ h => .of (h.1 _ _ ha)) ?_ ?_
    · rintro i x H2 H3 hi ⟨s2, ys, h1, h2⟩ ⟨rfl, hx⟩
      obtain ⟨l, hl, b, rfl, hb⟩ := paired_get (lt_same s2 hp) hx
      refine ⟨rfl, _, rfl, b, _, rfl, hb.elim (fun h => .inl (.of h)) (fun h => .inr (.of h)), fun nl nnl => ?_⟩
      have s3 := same_new (o := .lst (l.map V.int)) nnl
      have h13 := s3 _ _ h1
      have lys := paired_len h2
      rw [List.length_take] at lys
      refine ⟨ys, h13, Nat.lt_of_le_of_lt (by omega : _ ≤ 400) (by decide), same_own (s2.trans s3) hwk, ys ++ [.ref nl], upd_same, ?_⟩
      rw [List.take_succ, hl]
      refine paired_app (li_upd h13 (li_same s3 h2)) (.cons ⟨nl, rfl, ?_⟩ .nil)
      rw [upd_ne (fun e => by subst e; rw [nnl] at h1; cases h1)]
      exact upd_same
    rintro H2 ⟨s2, ys, h1, h2⟩
    rw [hlr, List.take_length] at h2
    refine ⟨by show 2 ≤ sizeLine; decide, fun tp ntp => ?_⟩
    have s3 := same_new (o := .tup [V.ref wk, V.int 0]) ntp
    refine ⟨tp, _, rfl, .of upd_same, rfl, _, _, rfl, _, _, rfl, rfl, ?_⟩
    dsimp only [gName, tSeq]
    have hlen : ∀ r ∈ rows, r.length = wd := fun r h => by have := (hrw r h).1; omega
    refine wide_of (rows := rows) (wd := wd) rfl (s3 _ _ h1) (li_same s3 h2) hlen ?_
    refine ⟨_, rfl, by split <;> omega, by split <;> omega, ?_⟩
    refine for_it (walk_range (lo := 0) (n := ((if rows = [] then 0 else wd : Nat) : Int).toNat)) (fun i σ H' => ∃ x4 x5 x6 x7 x8 x9 x10 x11 pl W zs, σ = [some (.int p), some (.ref a), some (.ref wk), some (.int ((pl : List Nat).length : Nat)), x4, x5, x6, x7, x8, x9, x10, x11] ∧ Same H H' ∧ H' wk = some (.lst zs) ∧ Paired (rLI H') zs W ∧ LG p wd rows pl i W)
      ⟨none, none, none, none, none, none, none, none, [], rows, ys, rfl, s2.trans s3, s3 _ _ h1, li_same s3 h2, LG.start hrw⟩ (fun _ _ _ _ _ => trivial) ?_ ?_
    · rintro c x σ H4 H5 hi ⟨x4, x5, x6, x7, x8, x9, x10, x11, pl, W, zs, rfl, s4, hwk4, hp4, L⟩ ⟨rfl, rfl⟩
      rw [Int.toNat_natCast] at hi
      have hcw : c < wd := by split at hi <;> omega
      have hle := L.le
      have hlW := L.len
      have lzs := paired_len hp4
      dsimp only [gName, tSeq]
      have hm200 : W.length ≤ 400 := by omega
      have ent : ∀ (k : Nat) (hk : k < W.length), ∃ e, (W[k]'hk)[c]? = some e ∧ (W.getD k []).getD c 0 = e ∧ 0 ≤ e ∧ e < p := fun k hk => by
        have hr := L.row _ (List.getElem_mem hk)
        have hl := hr.1
        refine ⟨_, List.getElem?_eq_getElem (by omega), ?_, hr.2 _ (List.getElem_mem _)⟩
        rw [getD_at (List.getElem?_eq_getElem hk), getD_at (List.getElem?_eq_getElem (by omega))]
      refine ⟨_, rfl, _, rfl, wk, _, rfl, .inl (.of hwk4), (pl.length : Int), (zs.length : Int), rfl, ⟨by omega, by omega, by omega, by omega⟩, fun D hD => ?_⟩
      refine lc_fm (walk_range (lo := (pl.length : Int)) (n := ((zs.length : Int) - (pl.length : Int)).toNat)) rInt (fun i => if ((W.getD (pl.length + i) []).getD c 0 != 0) = true then some ((pl.length + i : Nat) : Int) else none) hD (fun _ _ => trivial) ?_ ?_
      · rintro i x H6 H7 hi2 pv ⟨rfl, rfl⟩
        have hk : pl.length + i < W.length := by omega
        obtain ⟨v, hv, b, rfl, hb⟩ := paired_get2 (li_same pv.1 hp4) (List.getElem?_eq_getElem hk)
        obtain ⟨e, he, he2, e0, e1⟩ := ent _ hk
        refine ⟨rfl, _, rfl, _, rfl, wk, _, _, _, rfl, rfl, .of (pv.1 _ _ hwk4), at_of (j := pl.length + i) (by omega) hv, _, rfl, b, _, _, _, rfl, rfl, .of hb, at_of (j := c) (by omega) (int_at he), rfl, _, rfl, ?_⟩
        by_cases h0 : e = 0
        · subst h0
          rw [decide_eq_true rfl]
          exact iteF (fm_skip mono_int pv (Same.refl _) (by rw [he2]; rfl))
        · rw [decide_eq_false (fun z => h0 (V.int.inj z))]
          exact iteT ⟨_, rfl, fm_keep mono_int pv hD (by omega) (Same.refl _) (by rw [he2, if_pos (by simpa using h0)]) (by show V.int _ = V.int _; congr 1)⟩
      intro H6 ys6 s6 hD6 hp6
      have := paired_int hp6
      subst this
      have hfirst := fm_first (f := fun k => (W.getD k []).getD c 0 != 0) pl.length ((zs.length : Int) - (pl.length : Int)).toNat
      generalize hS : ((List.range ((zs.length : Int) - (pl.length : Int)).toNat).filterMap fun i => if ((W.getD (pl.length + i) []).getD c 0 != 0) = true then some ((pl.length + i : Nat) : Int) else none) = S at *
      dsimp only [gName, tSeq]
      refine ⟨_, rfl, D, _, rfl, .inl (.of hD6), _, _, rfl, rfl, _, rfl, ?_⟩
      have t6 := s4.trans s6
      have hwk6 := s6 _ _ hwk4
      have hp6' := li_same s6 hp4
      rcases hfirst with ⟨rfl, hno⟩ | ⟨k, S', rfl, k0, k1, hkc⟩
      · rw [decide_eq_false (by show ¬ (0 : Int) < (([] : List V).length : Int); decide)]
        refine iteF ⟨_, _, _, _, _, _, _, _, pl, W, zs, rfl, t6, hwk6, hp6', L.none fun i hi => ?_⟩
        by_cases hiW : i < W.length
        · have := hno i hi (by omega)
          simpa using this
        · rw [List.getD_eq_getElem?_getD (l := W), List.getElem?_eq_none (by omega)]
          simp
      · rw [decide_eq_true (by rw [List.length_map, List.length_cons]; omega)]
        refine iteT ?_
        have hkW : k < W.length := by omega
        have htW : pl.length < W.length := by omega
        obtain ⟨vk, hvk, bk, rfl, hbk⟩ := paired_get2 hp6' (List.getElem?_eq_getElem hkW)
        obtain ⟨vt, hvt, bt, rfl, hbt⟩ := paired_get2 hp6' (List.getElem?_eq_getElem htW)
        obtain ⟨e, he, he2, e0, e1⟩ := ent k hkW
        have ene : e ≠ 0 := by rw [he2] at hkc; simpa using hkc
        have hWk : W.getD k [] = W[k] := getD_at (List.getElem?_eq_getElem hkW)
        have hWt : W.getD pl.length [] = W[pl.length] := getD_at (List.getElem?_eq_getElem htW)
        refine ⟨_, rfl, _, rfl, D, _, _, _, rfl, rfl, .of hD6, at_of (j := 0) rfl rfl, wk, _, _, _, rfl, rfl, .of hwk6, at_of (j := k) rfl hvk, _, rfl, _, rfl, wk, _, _, _, rfl, rfl, .of hwk6, at_of (j := pl.length) rfl hvt, by show 2 ≤ sizeLine; decide, fun tq ntq => ?_⟩
        have s7 := same_new (o := .tup [V.ref bk, V.ref bt]) ntq
        have hwk7 := s7 _ _ hwk6
        have dwk : D ≠ wk := fun z => by rw [z, hwk4] at hD; cases hD
        refine ⟨tq, _, rfl, .of upd_same, rfl, _, _, rfl, ?_⟩
        refine ⟨_, rfl, _, rfl, wk, _, _, pl.length, rfl, rfl, hwk7, ixN_nat (by omega), _, _, rfl, ?_⟩
        refine ⟨_, rfl, _, rfl, D, _, _, _, rfl, rfl, .of (by rw [upd_ne dwk]; exact s7 _ _ hD6), at_of (j := 0) rfl rfl, wk, _, _, k, rfl, rfl, upd_same, ixN_nat (by rw [List.length_set]; omega), rfl, ?_⟩
        rw [upd_upd]
        have hz1 : ∃ z1, z1 = (zs.set pl.length (V.ref bk)).set k (V.ref bt) := ⟨_, rfl⟩
        obtain ⟨z1, ez1⟩ := hz1
        rw [← ez1]
        have hW1 : ∃ W1, W1 = (W.set pl.length W[k]).set k W[pl.length] := ⟨_, rfl⟩
        obtain ⟨W1, eW1⟩ := hW1
        have hp8 : Paired (rLI (upd (upd H6 tq (.tup [V.ref bk, V.ref bt])) wk (.lst z1))) z1 W1 := by
          rw [ez1, eW1]
          have h7 := li_same s7 hp6'
          have b7 := li_upd (ys := z1) hwk7 h7
          rw [ez1] at b7
          obtain ⟨u1, hu1, c1⟩ := paired_get2 b7 (List.getElem?_eq_getElem hkW)
          obtain ⟨u2, hu2, c2⟩ := paired_get2 b7 (List.getElem?_eq_getElem htW)
          rw [hvk] at hu1
          rw [hvt] at hu2
          cases hu1
          cases hu2
          exact paired_set k (paired_set pl.length b7 c1) c2
        have t8 : Same H (upd (upd H6 tq (.tup [V.ref bk, V.ref bt])) wk (.lst z1)) := same_own (t6.trans s7) hwk
        have hwk8 : (upd (upd H6 tq (.tup [V.ref bk, V.ref bt])) wk (.lst z1)) wk = some (.lst z1) := upd_same
        generalize upd (upd H6 tq (.tup [V.ref bk, V.ref bt])) wk (.lst z1) = H8 at hp8 t8 hwk8
        have lW1 : W1.length = W.length := by rw [eW1, List.length_set, List.length_set]
        have row1 : ∀ r ∈ W1, isRow r p wd := fun r hr => by
          rw [eW1] at hr
          rcases List.mem_or_eq_of_mem_set hr with h | h
          · rcases List.mem_or_eq_of_mem_set h with h | h
            · exact L.row r h
            · rw [h]; exact L.row _ (List.getElem_mem hkW)
          · rw [h]; exact L.row _ (List.getElem_mem htW)
        have sp1 : Same2 p (inRows W1) (inRows W) := by
          have := same_swap (p := p) htW hkW
          rw [hWk, hWt] at this
          rw [eW1]
          exact this
        have gd1 : ∀ i, W1.getD i [] = if i = k then W[pl.length] else if i = pl.length then W[k] else W.getD i [] := fun i => by
          rw [eW1, getD_set _ (by rw [List.length_set]; exact hkW), getD_set _ htW]
        have gt1 : W1.getD pl.length [] = W[k] := by
          rw [gd1]
          split
          · rename_i h
            subst h
            rfl
          · rw [if_pos rfl]
        have un1 : ∀ i x, x < c → (W1.getD i []).getD x 0 = (W.getD i []).getD x 0 := fun i x hx => by
          rw [gd1]
          split
          · rename_i h
            subst h
            rw [← hWt, L.rest _ x (Nat.le_refl _) hx, L.rest i x k0 hx]
          · split
            · rename_i h
              subst h
              rw [← hWk, L.rest _ x (Nat.le_refl _) hx, L.rest k x k0 hx]
            · rfl
        have lz1 := paired_len hp8
        have htW1 : pl.length < W1.length := by omega
        have eT : W1[pl.length] = W[k] := by rw [← gt1]; exact (getD_at (List.getElem?_eq_getElem htW1)).symm
        obtain ⟨v1, hv1, b1, rfl, hb1⟩ := paired_get2 hp8 (List.getElem?_eq_getElem htW1)
        rw [eT] at hb1
        refine ⟨_, rfl, _, rfl, _, rfl, wk, _, _, _, rfl, rfl, .of hwk8, at_of (j := pl.length) rfl hv1, _, rfl, b1, _, _, _, rfl, rfl, .of hb1, at_of (j := c) (by omega) (int_at he), p, e, rfl, prm, pm, by omega, e1, fun H9 u s9 u0 u1 hue => ?_⟩
        have t9 := t8.trans s9
        have hwk9 := s9 _ _ hwk8
        have hp9 := li_same s9 hp8
        have hb9 := s9 _ _ hb1
        refine ⟨_, rfl, ?_⟩
        have p0 : 0 < p := by omega
        have irT : isRow W[k] p wd := L.row _ (List.getElem_mem hkW)
        have lT : W[k].length = wd := by have := irT.1; omega
        refine ⟨_, rfl, wk, _, _, _, rfl, rfl, .of hwk9, at_of (j := pl.length) rfl hv1, b1, rfl, ⟨_, .of hb9⟩, fun SD hSD => ?_⟩
        have sdk : SD ≠ wk := fun z => by rw [z, hwk9] at hSD; cases hSD
        refine lc_fm (walk_list (xs := W[k].map V.int)) rInt (fun i => W[k][i]?.bind fun x => some (u * x % p)) hSD (fun H' s' => .of (s' _ _ hb9)) ?_ ?_
        · rintro i x H10 H11 hi pv ⟨rfl, hx⟩
          obtain ⟨j, hj, rfl⟩ := at_int hx
          have hjb := irT.2 j (List.mem_of_getElem? hj)
          rw [List.length_map] at hi
          refine ⟨rfl, _, rfl, _, rfl, _, _, rfl, rfl, .inr ⟨by omega, by omega⟩, .inl ⟨_, rfl, _, rfl, _, _, rfl, rfl, p0, ?_⟩⟩
          exact fm_keep mono_int pv hSD (by omega) (Same.refl _) (by rw [hj]; rfl) (by rw [Int.mul_comm u]; rfl)
        intro H10 ys10 s10 hD10 hp10
        rw [List.length_map, fm_some] at hp10
        have := paired_int hp10
        subst this
        have hwk10 := s10 _ _ hwk9
        have hTT : ∃ TT, TT = mulL p u W[k] := ⟨_, rfl⟩
        obtain ⟨TT, eTT⟩ := hTT
        rw [show (W[k].map fun x => u * x % p) = TT from eTT.symm] at hD10
        refine ⟨_, rfl, _, rfl, wk, _, _, pl.length, rfl, rfl, hwk10, ixN_nat (by omega), ?_⟩
        have hp11 : Paired (rLI (upd H10 wk (.lst (z1.set pl.length (.ref SD))))) (z1.set pl.length (.ref SD)) (W1.set pl.length TT) := by
          refine paired_set _ (li_upd hwk10 (li_same s10 hp9)) ⟨SD, rfl, ?_⟩
          rw [upd_ne sdk]
          exact hD10
        have t11 : Same H (upd H10 wk (.lst (z1.set pl.length (.ref SD)))) := same_own (t9.trans s10) hwk
        have hwk11 : (upd H10 wk (.lst (z1.set pl.length (.ref SD)))) wk = some (.lst (z1.set pl.length (.ref SD))) := upd_same
        generalize upd H10 wk (.lst (z1.set pl.length (.ref SD))) = H11 at hp11 t11 hwk11
        generalize z1.set pl.length (.ref SD) = z2 at hp11 hwk11
        have hTb : ∀ x, TT.getD x 0 = (u * W[k].getD x 0) % p := fun x => by
          rw [eTT]
          unfold mulL
          by_cases hx : x < W[k].length
          · rw [getD_at (l := W[k].map fun x => u * x % p) (k := x) (by rw [List.getElem?_map, List.getElem?_eq_getElem hx]; rfl), getD_at (List.getElem?_eq_getElem hx)]
          · rw [List.getD_eq_getElem?_getD, List.getD_eq_getElem?_getD, List.getElem?_eq_none (by rw [List.length_map]; omega), List.getElem?_eq_none (by omega)]
            show (0 : Int) = u * 0 % p
            rw [Int.mul_zero]
            rfl
        have irTT : isRow TT p wd := by
          refine ⟨by rw [eTT]; unfold mulL; rw [List.length_map]; omega, fun v hv => ?_⟩
          rw [eTT] at hv
          unfold mulL at hv
          obtain ⟨y, _, rfl⟩ := List.mem_map.mp hv
          exact mod_b p0
        have hTc : TT.getD c 0 = 1 := by
          rw [hTb, ← hWk, he2]
          exact ((Cg.mod _).trans hue).eq (mod_b p0).1 (mod_b p0).2 (by omega) (by omega)
        have hT0 : ∀ x, x < c → TT.getD x 0 = 0 := fun x hx => by
          rw [hTb, ← hWk, L.rest k x k0 hx, Int.mul_zero]
          rfl
        have gd2 : ∀ i, (W1.set pl.length TT).getD i [] = if i = pl.length then TT else W1.getD i [] := fun i => getD_set _ htW1 _ _
        have lz2 := paired_len hp11
        rw [List.length_set] at lz2
        have sp2 : Same2 p (inRows (W1.set pl.length TT)) (inRows W1) := by
          refine same_set htW1 ?_ ?_
          · refine .plus u (.zero (v := fun _ => 0) fun _ => .refl 0) (.row ⟨W[k], by rw [← eT]; exact List.getElem_mem htW1, rfl⟩) fun x => ?_
            rw [eTT]
            exact (mulL_vec x).trans (.of_eq (by omega))
          · rw [gt1]
            refine .plus e (.zero (v := fun _ => 0) fun _ => .refl 0) (.row ⟨TT, List.mem_set htW1 _, rfl⟩) fun x => ?_
            have h1 := (Cg.refl (p := p) e).mul (mulL_vec (p := p) (f := u) (l := W[k]) x)
            have h2 := hue.mul (Cg.refl (p := p) (vec W[k] x))
            rw [eTT]
            rw [Int.zero_add]
            rw [Int.one_mul] at h2
            refine .trans h2.symm (.trans (.of_eq ?_) h1.symm)
            rw [← Int.mul_assoc, Int.mul_comm u e]
        dsimp only [gName, tSeq]
        refine ⟨_, rfl, wk, _, rfl, .inl (.of hwk11), _, rfl, by omega, by omega, ?_⟩
        rw [show ((z2.length : Nat) : Int).toNat = z2.length from Int.toNat_natCast _]
        refine for_it (walk_range (lo := 0) (n := z2.length)) (fun i σ H' => ∃ x5 x8 zs' W', σ = [some (.int p), some (.ref a), some (.ref wk), some (.int ((pl.length : Nat) : Int)), some (.int (0 + (c : Int))), x5, some (.ref D), some (.int u), x8, x9, x10, x11] ∧ Same H H' ∧ H' wk = some (.lst zs') ∧ Paired (rLI H') zs' W' ∧
          W'.length = W.length ∧ (∀ r ∈ W', isRow r p wd) ∧ W'.getD pl.length [] = TT ∧ Same2 p (inRows W') (inRows W1) ∧ (∀ j x, x < c → (W'.getD j []).getD x 0 = (W.getD j []).getD x 0) ∧ ∀ j, j < i → j ≠ pl.length → (W'.getD j []).getD c 0 = 0)
          ⟨x5, x8, z2, _, rfl, t11, hwk11, hp11, by rw [List.length_set]; exact lW1, ?_, by rw [gd2, if_pos rfl], sp2, ?_, fun j h => absurd h (Nat.not_lt_zero j)⟩ (fun _ _ _ _ _ => trivial) ?_ ?_
        · intro r hr
          rcases List.mem_or_eq_of_mem_set hr with h | h
          · exact row1 r h
          · rw [h]; exact irTT
        · intro j x hx
          rw [gd2]
          split
          · rename_i h
            rw [h, hT0 x hx, L.rest _ x (Nat.le_refl _) hx]
          · exact un1 j x hx
        · rintro r x σ H12 H13 hr ⟨y5, y8, zs', W', rfl, sA, hA, pA, lA, rowA, tA, spA, unA, offA⟩ ⟨rfl, rfl⟩
          have lzA := paired_len pA
          have hrW : r < W'.length := by omega
          have htA : pl.length < W'.length := by omega
          have irr := rowA _ (List.getElem_mem hrW)
          have lrr : W'[r].length = wd := by have := irr.1; omega
          have grr : W'.getD r [] = W'[r] := getD_at (List.getElem?_eq_getElem hrW)
          have hc : W'[r][c]? = some (W'[r][c]'(by omega)) := List.getElem?_eq_getElem (by omega)
          have gc : (W'.getD r []).getD c 0 = W'[r][c]'(by omega) := by rw [grr]; exact getD_at hc
          have bc := irr.2 _ (List.mem_of_getElem? hc)
          generalize W'[r][c]'(by omega) = m at hc gc bc
          obtain ⟨v, hv, b, rfl, hb⟩ := paired_get2 pA (List.getElem?_eq_getElem hrW)
          obtain ⟨v2, hv2, b2, rfl, hb2⟩ := paired_get2 pA (List.getElem?_eq_getElem htA)
          have eTA : W'[pl.length] = TT := by rw [← tA]; exact (getD_at (List.getElem?_eq_getElem htA)).symm
          rw [eTA] at hb2
          refine ⟨_, rfl, _, rfl, wk, _, _, _, rfl, rfl, .of hA, at_of (j := r) (by omega) hv, _, rfl, b, _, _, _, rfl, rfl, .of hb, at_of (j := c) (by omega) (int_at hc), ?_⟩
          dsimp only [gName, tSeq]
          have skip : r = pl.length ∨ m = 0 → ∀ j, j < r + 1 → j ≠ pl.length → (W'.getD j []).getD c 0 = 0 := fun h j hj hne => by
            by_cases e : j = r
            · subst e
              rcases h with h | h
              · exact absurd h hne
              · rw [gc, h]
            · exact offA j (by omega) hne
          refine ⟨_, rfl, _, rfl, rfl, _, rfl, ?_⟩
          by_cases hrt : r = pl.length
          · rw [decide_eq_true (by subst hrt; rw [Int.zero_add])]
            refine iteF (iteF ⟨_, _, zs', W', rfl, sA, hA, pA, lA, rowA, tA, spA, unA, skip (.inl hrt)⟩)
          · rw [decide_eq_false (fun z => hrt (by have := V.int.inj z; omega))]
            refine iteT ⟨_, rfl, rfl, _, rfl, ?_⟩
            by_cases hm : m = 0
            · rw [decide_eq_true (by rw [hm])]
              refine iteF ⟨_, _, zs', W', rfl, sA, hA, pA, lA, rowA, tA, spA, unA, skip (.inr hm)⟩
            · rw [decide_eq_false (fun z => hm (V.int.inj z))]
              refine iteT ?_
              refine ⟨_, rfl, _, rfl, wk, _, _, _, rfl, rfl, .of hA, at_of (j := r) (by omega) hv, _, rfl, _, rfl, wk, _, _, _, rfl, rfl, .of hA, at_of (j := pl.length) rfl hv2, b, b2, _, _, rfl, .inl ⟨.of hb, .of hb2, fun D2 hD2 => ?_⟩⟩
              have lTT : TT.length = wd := by have := irTT.1; omega
              have dk2 : D2 ≠ wk := fun z => by rw [z, hA] at hD2; cases hD2
              refine lc_fm (walk_zip (n := W'[r].length) (by rw [List.length_map, List.length_map]; omega)) rInt (fun i => some ((W'[r].getD i 0 - m * TT.getD i 0) % p)) hD2 (fun H' s' => ⟨.of (s' _ _ hb), .of (s' _ _ hb2)⟩) ?_ ?_
              · rintro i x H14 H15 hi pv ⟨tz, u1, u2, rfl, nz, rfl, e1, e2⟩
                obtain ⟨y1, hy1, rfl⟩ := at_int e1
                obtain ⟨y2, hy2, rfl⟩ := at_int e2
                have h1 := irr.2 y1 (List.mem_of_getElem? hy1)
                have h2 := irTT.2 y2 (List.mem_of_getElem? hy2)
                refine ⟨tz, _, rfl, .of upd_same, rfl, _, _, rfl, _, _, rfl, rfl, rfl, ?_⟩
                refine ⟨_, rfl, _, rfl, _, rfl, _, _, rfl, rfl, .inl ⟨by omega, by omega⟩, _, _, rfl, rfl, .inl ⟨_, rfl, _, rfl, _, _, rfl, rfl, p0, ?_⟩⟩
                exact fm_keep mono_int pv hD2 (by omega) (same_new nz) rfl (by rw [getD_at hy1, getD_at hy2]; rfl)
              intro H14 ys s14 hD4 hp4
              rw [fm_all] at hp4
              have := paired_int hp4
              subst this
              have hA14 := s14 _ _ hA
              refine ⟨_, rfl, _, rfl, wk, _, _, r, rfl, rfl, hA14, by rw [Int.zero_add]; exact ixN_nat (by omega), ?_⟩
              have eL : ((List.range W'[r].length).map fun i => (W'[r].getD i 0 - m * TT.getD i 0) % p) = lessL p W'[r] TT m := rfl
              rw [eL] at hD4
              have lle : (lessL p W'[r] TT m).length = W'[r].length := lessL_len _ _ _ _
              have gL : ∀ x, x < wd → (lessL p W'[r] TT m).getD x 0 = (W'[r].getD x 0 - m * TT.getD x 0) % p := fun x hx => vec_map (f := fun i => (W'[r].getD i 0 - m * TT.getD i 0) % p) (n := W'[r].length) (by omega)
              have gdA : ∀ j, (W'.set r (lessL p W'[r] TT m)).getD j [] = if j = r then lessL p W'[r] TT m else W'.getD j [] := fun j => getD_set _ hrW _ _
              refine ⟨_, _, zs'.set r (.ref D2), W'.set r (lessL p W'[r] TT m), rfl, same_own (sA.trans s14) hwk, upd_same, ?_, by rw [List.length_set]; exact lA, ?_, ?_, ?_, ?_, ?_⟩
              · refine paired_set _ (li_upd hA14 (li_same s14 pA)) ⟨D2, rfl, ?_⟩
                rw [upd_ne dk2]
                exact hD4
              · intro l hl
                rcases List.mem_or_eq_of_mem_set hl with h | h
                · exact rowA l h
                · rw [h]
                  exact ⟨by rw [lle]; omega, lessL_in p0 _ _ _⟩
              · rw [gdA, if_neg (fun z => hrt z.symm)]
                exact tA
              · refine same_trans (same_set hrW ?_ ?_) spA
                · refine .plus (-m) (.row ⟨W'[r], List.getElem_mem hrW, rfl⟩) (.row ⟨TT, by rw [← eTA]; exact List.getElem_mem htA, rfl⟩) fun x => ?_
                  exact (lessL_vec (by omega) m x).trans (.of_eq (by rw [Int.neg_mul]; omega))
                · rw [grr]
                  have hmT : TT ∈ W'.set r (lessL p W'[r] TT m) := by
                    have h : (W'.set r (lessL p W'[r] TT m))[pl.length]? = some TT := by rw [List.getElem?_set, if_neg hrt, List.getElem?_eq_getElem htA, eTA]
                    exact List.mem_of_getElem? h
                  refine .plus m (.row ⟨_, List.mem_set hrW _, rfl⟩) (.row ⟨TT, hmT, rfl⟩) fun x => ?_
                  exact ((Cg.add (lessL_vec (p := p) (l := W'[r]) (r := TT) (by omega) m x) (.refl (m * vec TT x))).trans (.of_eq (by omega))).symm
              · intro j x hx
                rw [gdA]
                split
                · rename_i h
                  have hxr : W'[r][x]? = some (W'[r][x]'(by omega)) := List.getElem?_eq_getElem (by omega)
                  have hb := irr.2 _ (List.mem_of_getElem? hxr)
                  have hu := unA r x hx
                  rw [grr, getD_at hxr] at hu
                  rw [gL x (by omega), hT0 x hx, Int.mul_zero, Int.sub_zero, getD_at hxr, h, ← hu]
                  exact Int.emod_eq_of_lt hb.1 hb.2
                · exact unA j x hx
              · intro j hj hne
                rw [gdA]
                split
                · rename_i h
                  rw [gL c (by omega), hTc, ← grr, gc, Int.mul_one, Int.sub_self]
                  rfl
                · rename_i h
                  exact offA j (by omega) hne
        · rintro σ H12 ⟨y5, y8, zs', W', rfl, sA, hA, pA, lA, rowA, tA, spA, unA, offA⟩
          refine ⟨_, rfl, _, _, rfl, rfl, some (.int (0 + (c : Int))), y5, some (.ref D), some (.int u), y8, x9, x10, x11, pl ++ [c], W', zs', ?_, sA, hA, pA, L.some rowA lA (same_trans spA sp1) unA (by rw [tA]; exact hTc) fun i hi => ?_⟩
          · rw [List.length_append, List.length_singleton]
            rfl
          · by_cases h : i < W'.length
            · exact offA i (by omega) hi
            · rw [List.getD_eq_getElem?_getD (l := W'), List.getElem?_eq_none (by omega)]
              rfl
    · rintro σ H4 ⟨x4, x5, x6, x7, x8, x9, x10, x11, pl, W, zs, rfl, s4, hwk4, hp4, L⟩
      rw [Int.toNat_natCast] at L
      have L2 : LG p wd rows pl wd W := by
        split at L
        · rename_i h
          subst h
          exact L.widen
        · exact L
      have hL := LG.done p2 L2
      have lzs := paired_len hp4
      have hlW := L.len
      have hle := L.le
      refine ⟨_, rfl, _, rfl, (pl.length : Int), rfl, wk, zs, rfl, .of hwk4, fun la nla => ?_⟩
      rw [cutV_upto]
      have s5 := same_new (o := .lst (zs.take pl.length)) nla
      have hp5 := paired_take pl.length (li_same s5 hp4)
      refine ⟨la, rfl, ⟨_, .of upd_same⟩, fun D hD => ?_⟩
      refine lc_fm (walk_list (xs := zs.take pl.length)) rRow (fun i => (W.take pl.length)[i]?.bind fun r => some r) hD (fun H' s' => .of (s' _ _ upd_same)) ?_ ?_
      · rintro i x H6 H7 hi pv ⟨rfl, hx⟩
        obtain ⟨l, hl, b, rfl, hb⟩ := paired_get (li_same pv.1 hp5) hx
        rw [List.length_take] at hi
        refine ⟨rfl, _, rfl, b, _, rfl, .inl ⟨.of hb, fun t nt => ?_⟩⟩
        exact fm_keep mono_row pv hD (by omega) (same_new nt) (by rw [hl]; rfl) ⟨t, rfl, upd_same⟩
      · intro H6 ys6 s6 hD6 hp6
        rw [show (zs.take pl.length).length = (W.take pl.length).length by rw [List.length_take, List.length_take, lzs], fm_some, List.map_id'] at hp6
        refine ⟨D, _, rfl, .inl ⟨.of hD6, fun t nt => ?_⟩⟩
        have s7 := same_new (o := .tup ys6) nt
        exact q _ (.ref t) (W.take pl.length) (((s4.trans s5).trans s6).trans s7) ⟨t, ys6, rfl, upd_same, paired_mono mono_row s7.keep hp6⟩ hL
def spLLad : Sp := fun vs H Q _ => ∃ (a : Addr) (p : Int) (wd : Nat) (xs : List V) (rows : List (List Int)), vs = [.int p, .ref a] ∧ H a = some (.lst xs) ∧ Paired (rLI H) xs rows ∧ rows.length ≤ 400 ∧ Prm p ∧ p ≤ 1000000 ∧ wd ≤ 200 ∧ (∀ r ∈ rows, isRow r p wd) ∧
  ∀ H' v lad, Same H H' → rTup rRow H' v lad → IsLad p wd rows lad → Q v H'
theorem ok_llad (T : Tx K mg cT cS) {f : Addr} {fd : FuncData} (d : D K mg "_law_ladder" s_law_ladder ["p", "rows"] f fd) : FnOk P w K mg base CX0 2 f fd ["p", "rows"] spLLad :=
  (ok_lladT T d).imp fun vs H Q E ⟨a, p, wd, xs, rows, e, h1, h2, q⟩ => ⟨a, p, wd, xs, rows, e, h1, Paired.mapP h2 fun _ _ ⟨b, e, h⟩ => ⟨b, e, .inl h⟩, q⟩
end
end S4

namespace S4
open PySem L2 TT MM
/-! ### the law's own parts -/
theorem hu1 {k : Nat} {A : Around} (r : Room k A) : A.units + 1 < cLine := by have := r.un; omega
def kvsP (p : Int) (tv uv rv : V) : List (Key × V) := [(.inr "p", .int p), (.inr "ties", tv), (.inr "unknowns", uv), (.inr "rules", rv)]
theorem valV_is {k : Key} {v : V} {l : List (Key × V)} : valV ((k, v) :: l) k = some v := by
  unfold valV
  rw [List.find?_cons_of_pos (by exact decide_eq_true rfl)]
  rfl
theorem valV_no {k k' : Key} {v : V} {l : List (Key × V)} (h : k ≠ k') : valV ((k, v) :: l) k' = valV l k' := by
  unfold valV
  rw [List.find?_cons_of_neg (by exact fun z => h (of_decide_eq_true z))]
section
variable {p : Int} {tv uv rv : V}
theorem kvsP_p : valV (kvsP p tv uv rv) (.inr "p") = some (.int p) := valV_is
theorem kvsP_ties : valV (kvsP p tv uv rv) (.inr "ties") = some tv := (valV_no (by decide +kernel)).trans valV_is
theorem kvsP_unk : valV (kvsP p tv uv rv) (.inr "unknowns") = some uv := (valV_no (by decide +kernel)).trans ((valV_no (by decide +kernel)).trans valV_is)
theorem kvsP_rules : valV (kvsP p tv uv rv) (.inr "rules") = some rv := (valV_no (by decide +kernel)).trans ((valV_no (by decide +kernel)).trans ((valV_no (by decide +kernel)).trans valV_is))
end
structure PDat (H : Hp) (a : Addr) (S : RD) (tv uv rv : V) : Prop where
  d : H a = some (.dK (kvsP S.p tv uv rv))
  t : rTup rPI H tv S.ties
  u : rRow H uv S.unk
  r : rRls H rv S.rules
section
variable {H H' : Hp} {a g : Addr} {S : RD} {tv uv rv : V}
theorem PDat.same (x : PDat H a S tv uv rv) (s : Same H H') : PDat H' a S tv uv rv := ⟨s _ _ x.d, mono_tup mono_pi _ _ _ _ s.keep x.t, mono_row _ _ _ _ s.keep x.u, mono_rls _ _ _ _ s.keep x.r⟩
theorem PDat.gp (x : PDat H a S tv uv rv) : DGet H a (.str "p") (some (.int S.p)) := by rw [← kvsP_p (tv := tv) (uv := uv) (rv := rv)]; exact DGet.k (k := .inr "p") x.d
theorem PDat.gt (x : PDat H a S tv uv rv) : DGet H a (.str "ties") (some tv) := by rw [← kvsP_ties (p := S.p) (tv := tv) (uv := uv) (rv := rv)]; exact DGet.k (k := .inr "ties") x.d
theorem PDat.gu (x : PDat H a S tv uv rv) : DGet H a (.str "unknowns") (some uv) := by rw [← kvsP_unk (p := S.p) (tv := tv) (uv := uv) (rv := rv)]; exact DGet.k (k := .inr "unknowns") x.d
theorem PDat.gr (x : PDat H a S tv uv rv) : DGet H a (.str "rules") (some rv) := by rw [← kvsP_rules (p := S.p) (tv := tv) (uv := uv) (rv := rv)]; exact DGet.k (k := .inr "rules") x.d
end
def rEv : Rp (Nat × Rule) := fun H v z => ∃ t x, v = .ref t ∧ H t = some (.tup [.int (z.1 : Int), x, .int z.2.2]) ∧ rRow H x z.2.1
theorem mono_ev : Mono rEv := fun _ _ _ _ k ⟨t, x, e, h, r⟩ => ⟨t, x, e, k.tup h, mono_row _ _ _ _ k r⟩
def everyL (rules : List (List Rule)) : List (Nat × Rule) := (List.range rules.length).flatMap fun i => (rules.getD i []).map fun r => (i, r)
section
variable {P : Program} {w : World} {K : PySem.W.Frag} {mg : Str → Option Value} {base : Heap} {cT cS : Addr}
def spLEvery : Sp := fun vs H Q _ => ∃ (a : Addr) (tv uv rv : V) (S : RD), vs = [.ref a] ∧ PDat H a S tv uv rv ∧ S.rules.length ≤ 24 ∧ (∀ own ∈ S.rules, own.length ≤ 8) ∧ ∀ H' r xs, Same H H' → H' r = some (.lst xs) → Paired (rEv H') xs (everyL S.rules) → Q (.ref r) H'
theorem ok_levery (T : Tx K mg cT cS) {f : Addr} {fd : FuncData} (d : D K mg "_law_every" s_law_every ["parts"] f fd) : FnOk P w K mg base CX0 1 f fd ["parts"] spLEvery := by
  refine d.F.ok sc_law_every (fun vs H Q E h => ?_) (fun cdv A outer s H vs Q E hr h => ?_)
  · obtain ⟨a, tv, uv, rv, S, rfl, _⟩ := h
    rfl
  · obtain ⟨a, tv, uv, rv, S, rfl, hP, hn, h8, q⟩ := h
    refine ⟨_, pss_cons (ps_set (i := 1) sc_law_every.nd rfl (.inl rfl) (pe_lst pa_nil))
      (pss_cons (ps_for PassesOwn.never rfl (pi_range1 rfl T.b_range (pa_cons (pe_callB call_len_seq (by rfl) T.b_len PySem.boot_len (pa_cons (pe_dget (hu1 hr) (pv 0) pe_str (fun _ _ => rfl)) pa_nil)) pa_nil)) (pg_name (i := 2) sc_law_every.nd rfl (.inr rfl))
        (pss_one (ps_expr (pe_bm PySem.F.plainAttrs_list PySem.F.slot_list_extend PySem.F.type_list_extend mt_extend (pv 1) (pa_cons (pe_lc (own := [("row", 3), ("right", 4)]) (g := (gTup K 2 (gCons (gName 3) (gCons (gName 4) gNil)))) (tt := tYes) rfl sc_law_every.nd (pi_tup (pe_ix ix_tup (pe_dget (hu1 hr) (pv 0) pe_str (fun _ _ => rfl)) (pv 2) (fun _ _ => rfl))) (blkOk_by (N := N_law_every) (sc := defScope s_law_every) (by decide +kernel)) (fun _ _ _ _ _ => (pgT rfl rfl (pgs_cons (pg_name (i := 3) sc_law_every.nd rfl (Or.inl rfl)) (pgs_cons (pg_name (i := 4) sc_law_every.nd rfl (Or.inl rfl)) pgs_nil)))) (fun _ _ _ _ _ => pts_nil)
            (fun _ _ _ _ _ => (pe_tup (pa_cons (pv 2) (pa_cons (pv 3) (pa_cons (pv 4) pa_nil)))))) pa_nil)))))
      (pss_one (ps_ret (pv 1)))), ?_⟩
    obtain ⟨tr, xs, rfl, htr, hxs⟩ := id hP.r
    have hlr := paired_len hxs
    refine ⟨by show 0 ≤ sizeLine; decide, fun r nr => ?_⟩
    have s1 := same_new (o := .lst []) nr
    dsimp only [gName, tSeq]
    refine ⟨_, rfl, a, _, rfl, (hP.same s1).gr, tr, xs, rfl, .inr (.of (s1 _ _ htr)), _, rfl, by omega, by omega, ?_⟩
    rw [show ((xs.length : Nat) : Int).toNat = xs.length from Int.toNat_natCast _]
    refine for_it (walk_range (lo := 0) (n := xs.length)) (fun i σ H' => ∃ x2 ys, σ = [some (.ref a), some (.ref r), x2, none, none] ∧ Same H H' ∧ H' r = some (.lst ys) ∧ Paired (rEv H') ys ((List.range i).flatMap fun i => (S.rules.getD i []).map fun r => (i, r)))
      ⟨none, [], rfl, s1, upd_same, .nil⟩ (fun _ _ _ _ _ => trivial) ?_ ?_
    · rintro i x σ H2 H3 hi ⟨x2, ys, rfl, s2, hr2, hp2⟩ ⟨rfl, rfl⟩
      have hir : i < S.rules.length := by omega
      have hrl : S.rules[i]? = some (S.rules[i]'hir) := List.getElem?_eq_getElem hir
      obtain ⟨v, hv, to, ws, rfl, hto, hws⟩ := paired_get2 (paired_mono mono_own s2.keep hxs) hrl
      have hl8 := h8 _ (List.getElem_mem hir)
      have hwl := paired_len hws
      have hyl := paired_len hp2
      have hfl := flat_lenR (F := fun i => (S.rules.getD i []).map fun r => (i, r)) (i := i) (b := 8) fun j hj => by
        rw [List.length_map, getD_at (List.getElem?_eq_getElem (show j < S.rules.length by omega))]
        exact h8 _ (List.getElem_mem _)
      refine ⟨_, rfl, .inl ⟨rfl, _, .of hr2⟩, ?_⟩
      refine ⟨_, rfl, a, _, rfl, (hP.same s2).gr, _, rfl, tr, _, _, _, rfl, rfl, .of (s2 _ _ htr), at_of (j := i) (by omega) hv, to, rfl, ⟨_, .of hto⟩, fun D hD => ?_⟩
      have rd : r ≠ D := fun z => by rw [z, hD] at hr2; cases hr2
      refine lc_fm (walk_tup (xs := ws)) rEv (fun j => (S.rules[i]'hir)[j]?.bind fun r => some (i, r)) hD (fun H' s' => .of (s' _ _ hto)) ?_ ?_
      · rintro j x H4 H5 hj pv ⟨rfl, hx⟩
        obtain ⟨rl, hrl2, t2, x2, rfl, ht2, hx2⟩ := paired_get (paired_mono mono_rule pv.1.keep hws) hx
        refine ⟨t2, _, rfl, .of ht2, rfl, _, _, rfl, _, _, rfl, rfl, rfl, _, rfl, _, rfl, _, rfl, by show 3 ≤ sizeLine; decide, fun np nnp => ?_⟩
        have s5 := same_new (o := .tup [V.int (0 + (i : Int)), x2, .int rl.2]) nnp
        refine fm_keep mono_ev pv hD (by omega) s5 (by rw [hrl2]; rfl) ⟨np, x2, rfl, ?_, mono_row _ _ _ _ s5.keep hx2⟩
        rw [upd_same]
        show some (HO.tup [V.int (0 + (i : Int)), x2, V.int rl.2]) = _
        rw [Int.zero_add]
      · intro H4 zs s4 hD4 hp4
        rw [hwl, fm_some] at hp4
        have hr4 := s4 _ _ hr2
        have lz := paired_len hp4
        rw [List.length_map] at lz
        refine ⟨r, D, ys, zs, rfl, rfl, hr4, hD4, Nat.le_trans (by omega : _ ≤ 1000) (by decide), _, ys ++ zs, rfl, same_own (s2.trans s4) nr, upd_same, ?_⟩
        have k5 : Keep _ _ := keep_lst (o := .lst (ys ++ zs)) hr4
        rw [List.range_succ, List.flatMap_append, List.flatMap_singleton, getD_at hrl]
        exact paired_app (paired_mono mono_ev (s4.keep.trans k5) hp2) (paired_mono mono_ev k5 hp4)
    · rintro σ H2 ⟨x2, ys, rfl, s2, hr2, hp2⟩
      refine ⟨_, rfl, q _ r ys s2 hr2 ?_⟩
      unfold everyL
      rw [← hlr]
      exact hp2
def spLAll : Sp := fun vs H Q _ => ∃ (a : Addr) (tv uv rv : V) (S : RD) (post : Int) (n : Nat), vs = [.ref a, .int post] ∧ PDat H a S tv uv rv ∧ TiesOk S.ties n ∧ CountsOk S.unk n ∧ 0 ≤ post ∧ post < (n : Int) ∧
  ∀ H' r (l : List Int), Same H H' → H r = none → H' r = some (.lst (l.map V.int)) → l.length ≤ 1500 → (∀ x ∈ l, nearU S.ties S.unk post x) → Q (.ref r) H'
theorem ok_lall (T : Tx K mg cT cS) {f : Addr} {fd : FuncData} (d : D K mg "_law_allowed" s_law_allowed ["parts", "post"] f fd) : FnOk P w K mg base CX0 2 f fd ["parts", "post"] spLAll := by
  obtain ⟨f1, fd1, d1⟩ := T.d_law_places
  have G1 := ok_lpl (P := P) (w := w) (base := base) T d1
  obtain ⟨f2, fd2, d2⟩ := T.d_law_near
  have G2 := ok_lnear (P := P) (w := w) (base := base) T d2
  refine d.F.ok sc_law_allowed (fun vs H Q E h => ?_) (fun cdv A outer s H vs Q E hr h => ?_)
  · obtain ⟨a, tv, uv, rv, S, post, n, rfl, _⟩ := h
    rfl
  · obtain ⟨a, tv, uv, rv, S, post, n, rfl, hP, ok, oh, h0, h1, q⟩ := h
    refine ⟨_, pss_cons (ps_set (i := 2) sc_law_allowed.nd rfl (.inl rfl) (pe_call G1 (hr.mono (by decide)) rfl d1.m d1.F.kp d1.b .nil pass0 (pa_cons (pe_dget (hu1 hr) (pv 0) pe_str (fun _ _ => rfl)) (pa_cons (pv 1) pa_nil))))
      (pss_cons (ps_for PassesOwn.never rfl (pi_list (pe_call G2 (hr.mono (by decide)) rfl d2.m d2.F.kp d2.b .nil pass0 (pa_cons (pe_dget (hu1 hr) (pv 0) pe_str (fun _ _ => rfl)) (pa_cons (pv 1) pa_nil)))) (pg_name (i := 3) sc_law_allowed.nd rfl (.inl rfl))
        (pss_one (ps_set (i := 2) sc_law_allowed.nd rfl (.inl rfl) (pe_op op_cat (pv 2) (pe_call G1 (hr.mono (by decide)) rfl d1.m d1.F.kp d1.b .nil pass0 (pa_cons (pe_dget (hu1 hr) (pv 0) pe_str (fun _ _ => rfl)) (pa_cons (pv 3) pa_nil)))))))
      (pss_one (ps_ret (pv 2)))), ?_⟩
    have hn := ok.len
    have hn24 := ok.n24
    refine ⟨_, rfl, a, _, rfl, hP.gu, _, rfl, uv, S.unk, post, n, rfl, hP.u, oh, hn24, h0, h1, fun H2 r s2 nr hr2 => ?_⟩
    dsimp only [gName, tSeq]
    refine ⟨_, rfl, a, _, rfl, (hP.same s2).gt, _, rfl, tv, S.ties, post, rfl, (hP.same s2).t, by omega, fun z hz => by have := (ok.b0 z hz).2.1; omega, fun H3 p ns s3 np hp3 hperm hup => ⟨p, rfl, ⟨_, .of hp3⟩, ?_⟩⟩
    have nbl : (nb S.ties post).length ≤ S.ties.length := List.length_filterMap_le _ _
    have nsl := hperm.length_eq
    refine for_it (walk_list (xs := ns.map V.int)) (fun i σ H' => ∃ x3 r, ∃ l : List Int, σ = [some (.ref a), some (.int post), some (.ref r), x3] ∧ Same H H' ∧ Same H3 H' ∧ H r = none ∧ H' r = some (.lst (l.map V.int)) ∧ l.length ≤ 60 + 60 * i ∧ ∀ x ∈ l, nearU S.ties S.unk post x)
      ⟨none, r, _, rfl, s2.trans s3, .refl _, nr, s3 _ _ hr2, heldL_len oh post, fun x hx => .inl hx⟩ (fun i σ H' _ h => by obtain ⟨_, _, _, _, _, s, _⟩ := h; exact .of (s _ _ hp3)) ?_ ?_
    · rintro i x σ H4 H5 hi ⟨x3, r, l, rfl, s4, s5, nr4, hr4, hl, hin⟩ ⟨rfl, hx⟩
      obtain ⟨k, hk, rfl⟩ := at_int hx
      rw [List.length_map] at hi
      have hkn := hperm.mem_iff.mp (List.mem_of_getElem? hk)
      have hkb : 0 ≤ k ∧ k < (n : Int) := by
        rcases nb_mem.mp hkn with h | h
        · have := ok.b0 _ h; simp only at this; omega
        · have := ok.b0 _ h; simp only at this; omega
      refine ⟨_, rfl, _, rfl, a, _, rfl, (hP.same s4).gu, _, rfl, uv, S.unk, k, n, rfl, (hP.same s4).u, oh, hn24, hkb.1, hkb.2, fun H6 r2 s6 nr2 hr6 => ?_⟩
      have l60 := heldL_len oh k
      refine ⟨r, r2, _, _, rfl, rfl, s6 _ _ hr4, hr6, Nat.le_trans (by rw [List.length_map, List.length_map]; omega : _ ≤ 3000) (by decide), fun r3 nr3 => ?_⟩
      have s7 := same_new (o := .lst (l.map V.int ++ (heldL S.unk k).map V.int)) nr3
      refine ⟨_, r3, l ++ heldL S.unk k, rfl, (s4.trans s6).trans s7, (s5.trans s6).trans s7, (s4.trans s6).free nr3, by rw [upd_same, List.map_append], by rw [List.length_append]; omega, fun y hy => ?_⟩
      rcases List.mem_append.mp hy with h | h
      · exact hin y h
      · exact .inr ⟨k, hkn, h⟩
    · rintro σ H4 ⟨x3, r, l, rfl, s4, s5, nr4, hr4, hl, hin⟩
      rw [List.length_map] at hl
      exact ⟨_, rfl, q _ r l s4 nr4 hr4 (by omega) hin⟩
def spLMade (cT : Addr) (mg : Str → Option Value) : Sp := fun vs H Q _ => ∃ (a : Addr) (tv uv rv : V) (S : RD) (n : Nat), vs = [.ref a] ∧ PDat H a S tv uv rv ∧ RulesOk S n ∧ ∀ H' v', Same H H' → rRO cT mg H' v' S → Q v' H'
theorem ok_lmade (T : Tx K mg cT cS) {f : Addr} {fd : FuncData} (d : D K mg "_law_made" s_law_made ["parts"] f fd) : FnOk P w K mg base CX0 8 f fd ["parts"] (spLMade cT mg) := by
  obtain ⟨f1, fd1, k1⟩ := T.k_Tree
  have G1 := ok_Tree (P := P) (w := w) (base := base) T k1
  obtain ⟨f2, fd2, k2⟩ := T.k_Rules
  have G2 := ok_Rules (P := P) (w := w) (base := base) T k2
  refine d.F.ok sc_law_made (fun vs H Q E h => ?_) (fun cdv A outer s H vs Q E hr h => ?_)
  · obtain ⟨a, tv, uv, rv, S, n, rfl, _⟩ := h
    rfl
  · obtain ⟨a, tv, uv, rv, S, n, rfl, hP, ok, q⟩ := h
    refine ⟨_, pss_one (ps_ret (pe_make k2.mkf G2 (hr.mono (by decide)) rfl k2.m k2.b .nil pass0 (pa_cons (pe_dget (hu1 hr) (pv 0) pe_str (fun _ _ => rfl)) (pa_cons (pe_make k1.mkf G1 (hr.mono (by decide)) rfl k1.m k1.b .nil pass0 (pa_cons (pe_dget (hu1 hr) (pv 0) pe_str (fun _ _ => rfl)) pa_nil)) (pa_cons (pe_dget (hu1 hr) (pv 0) pe_str (fun _ _ => rfl)) (pa_cons (pe_dget (hu1 hr) (pv 0) pe_str (fun _ _ => rfl)) pa_nil)))))), ?_⟩
    refine ⟨_, rfl, a, _, rfl, hP.gp, _, rfl, a, _, rfl, hP.gt, fun y dy ny ndy ney => ?_⟩
    have s1 := same_make (C := cT) ny ndy ney
    refine ⟨y, dy, tv, S.ties, n, rfl, upd_same, (hP.same s1).t, ok.tree.ok, fun H2 k2 hT2 => ⟨rfl, ?_⟩⟩
    have s2 : Same _ H2 := fun b o e => k2 b o (fun z => by subst z; rw [ny] at e; cases e) (s1 _ _ e)
    refine ⟨_, rfl, a, _, rfl, (hP.same s2).gu, _, rfl, a, _, rfl, (hP.same s2).gr, fun x dx nx ndx nex => ?_⟩
    have s3 := same_make (C := cR mg) nx ndx nex
    have s4 := s2.trans s3
    have yx : V.ref y ≠ V.ref x := fun e => by
      obtain ⟨_, _, _, _, e2, h2, _⟩ := hT2
      cases e2
      rw [V.ref.inj e, nx] at h2
      cases h2
    refine ⟨x, dx, .ref y, uv, rv, S, n, rfl, upd_same, mono_tree cT _ _ _ _ s3.keep hT2, yx, (hP.same s4).u, (hP.same s4).r, ok, fun H5 k5 hR5 => ⟨rfl, ?_⟩⟩
    exact q _ _ (fun b o e => k5 b o (fun z => by subst z; rw [s2 _ _ e] at nx; cases nx) (s4 _ _ e)) hR5
end
end S4

namespace S4
open PySem L2 TT MM
/-! ### ladders there are -/
theorem isRow_len2 {l : List Int} {p : Int} {wd : Nat} (h : isRow l p wd) : l.length = wd := by have := h.1; omega
theorem first_nz (l : List Int) : ∀ n : Nat, (∀ x, x < n → l.getD x 0 = 0) ∨ ∃ k, k < n ∧ l.getD k 0 ≠ 0 ∧ ∀ x, x < k → l.getD x 0 = 0
  | 0 => .inl fun x h => absurd h (Nat.not_lt_zero x)
  | n + 1 => by
    rcases first_nz l n with h | ⟨k, h1, h2, h3⟩
    · by_cases e : l.getD n 0 = 0
      · refine .inl fun x hx => ?_
        by_cases q : x = n
        · rw [q]; exact e
        · exact h x (by omega)
      · exact .inr ⟨n, by omega, e, h⟩
    · exact .inr ⟨k, by omega, h2, h3⟩
theorem st_app {p : Int} {wd : Nat} (prm : Prm p) : ∀ (l : List (List Int)) {rs : RG} {acc : List (List Int)}, St1 p wd rs acc → (∀ r ∈ l, isRow r p wd) → ∃ rs', St1 p wd rs' (acc ++ l)
  | [], rs, acc, S, _ => ⟨rs, by rw [List.append_nil]; exact S⟩
  | row :: l, rs, acc, S, h => by
    have hr := h row (by simp)
    have hl := isRow_len2 hr
    have p2 := prm.1
    have e : acc ++ row :: l = (acc ++ [row]) ++ l := by rw [List.append_assoc]; rfl
    rw [e]
    rcases first_nz (clr p rs row) wd with h0 | ⟨k, k1, k2, k3⟩
    · exact st_app prm l (S.skip hl h0) fun r hr => h r (by simp [hr])
    · have hb := getD_in (by omega) (clr_in (by omega) rs hr.2) k
      obtain ⟨u, hu⟩ := prm.inv (v := (clr p rs row).getD k 0) (by omega) hb.2
      exact st_app prm l (S.put p2 hl hr.2 k1 k2 k3 hu) fun r hr => h r (by simp [hr])
theorem st_ex {p : Int} {wd : Nat} (prm : Prm p) {rows : List (List Int)} (h : ∀ r ∈ rows, isRow r p wd) : ∃ rs, St1 p wd rs rows := by
  have := st_app prm rows (St1.nil p wd) h
  rwa [List.nil_append] at this
theorem srt_ex (l : List Int) : ∃ ys : List Int, ys.Perm l ∧ Up ys := by
  induction l with
  | nil => exact ⟨[], .refl _, .nil⟩
  | cons a l ih =>
    obtain ⟨ys, h1, h2⟩ := ih
    have ins : ∀ ys : List Int, Up ys → ∃ zs : List Int, zs.Perm (a :: ys) ∧ Up zs := by
      intro ys
      induction ys with
      | nil => intro _; exact ⟨[a], .refl _, List.pairwise_singleton _ _⟩
      | cons b ys ih2 =>
        intro hu
        obtain ⟨u1, u2⟩ := List.pairwise_cons.mp hu
        by_cases hab : a ≤ b
        · refine ⟨a :: b :: ys, .refl _, List.pairwise_cons.mpr ⟨fun c hc => ?_, hu⟩⟩
          rcases List.mem_cons.mp hc with e | hc
          · rw [e]; exact hab
          · have := u1 c hc; omega
        · obtain ⟨zs, z1, z2⟩ := ih2 u2
          refine ⟨b :: zs, (List.Perm.cons b z1).trans (.swap a b ys), List.pairwise_cons.mpr ⟨fun c hc => ?_, z2⟩⟩
          rcases List.mem_cons.mp (z1.mem_iff.mp hc) with e | hc
          · omega
          · exact u1 c hc
    obtain ⟨zs, z1, z2⟩ := ins ys h2
    exact ⟨zs, z1.trans (List.Perm.cons a h1), z2⟩
theorem lad_ex {p : Int} {wd : Nat} (prm : Prm p) {rows : List (List Int)} (h : ∀ r ∈ rows, isRow r p wd) : IsLad p wd rows (ladL p wd rows) := by
  obtain ⟨rs, S⟩ := st_ex prm h
  obtain ⟨ys, h1, h2⟩ := srt_ex (keysI rs)
  have : IsLad p wd rows (ys.map fun y => rowOf rs y.toNat) := ⟨rs, ys, S, h1, h2, rfl⟩
  rw [← ladL_eq prm.1 this]
  exact this
/-! ### sums within a room -/
theorem spn_sumP {p : Int} {R : Vc → Prop} {f : Nat → Vc} {c : Nat → Int} : ∀ {P : List Nat}, (∀ i ∈ P, Spn p R (f i)) → Spn p R fun x => sumP P fun i => c i * f i x
  | [], _ => .zero fun x => .refl _
  | i :: P, h => by
    have h1 := spn_sumP (c := c) (P := P) fun j hj => h j (by simp [hj])
    refine .plus (c i) h1 (h i (by simp)) fun x => .of_eq ?_
    rw [sumP_cons]
    omega
open Classical in
noncomputable def rsL (p : Int) (wd : Nat) (rows : List (List Int)) : RG := if h : ∃ rs, St1 p wd rs rows then h.choose else []
theorem rsL_st {p : Int} {wd : Nat} {rows : List (List Int)} {rs : RG} (S : St1 p wd rs rows) : St1 p wd (rsL p wd rows) rows := by
  have h : ∃ rs, St1 p wd rs rows := ⟨rs, S⟩
  unfold rsL
  rw [dif_pos h]
  exact h.choose_spec
/-! ### rows cut down to places -/
def cutV (v : Vc) (ord : List Int) : Vc := fun x => if x < ord.length then v (ord.getD x 0).toNat else 0
theorem vec_cut {r ord : List Int} (x : Nat) : vec (cutL r ord) x = cutV (vec r) ord x := by
  unfold cutV
  by_cases h : x < ord.length
  · rw [if_pos h]
    unfold vec cutL
    have e : (ord.map fun i => r.getD i.toNat 0)[x]? = some (r.getD (ord[x]).toNat 0) := by rw [List.getElem?_map, List.getElem?_eq_getElem h]; rfl
    rw [getD_at e, getD_at (List.getElem?_eq_getElem h)]
  · rw [if_neg h]
    exact vec_over (by unfold cutL; rw [List.length_map]; omega)
section
variable {p : Int} {wd : Nat} {rows : List (List Int)} {ord : List Int}
theorem cut_up {v : Vc} (h : Spn p (inRows rows) v) : Spn p (inRows (rows.map fun r => cutL r ord)) (cutV v ord) := by
  induction h with
  | @zero v h => exact .zero fun x => by unfold cutV; split; exact h _; exact .refl _
  | @add u r v c hu hr h ih =>
    obtain ⟨l, hl, rfl⟩ := hr
    refine .plus c ih (.row ⟨cutL l ord, List.mem_map.mpr ⟨l, hl, rfl⟩, rfl⟩) fun x => ?_
    rw [vec_cut]
    unfold cutV
    split
    · exact h _
    · exact .of_eq (by omega)
theorem cut_down {u : Vc} (h : Spn p (inRows (rows.map fun r => cutL r ord)) u) : ∃ v, Spn p (inRows rows) v ∧ ∀ x, Cg p (u x) (cutV v ord x) := by
  induction h with
  | @zero u h => exact ⟨fun _ => 0, .zero fun _ => .refl _, fun x => (h x).trans (.of_eq (by unfold cutV; split <;> rfl))⟩
  | @add u r v c hu hr h ih =>
    obtain ⟨w, w1, w2⟩ := ih
    obtain ⟨l, hl, rfl⟩ := hr
    obtain ⟨r, hr, rfl⟩ := List.mem_map.mp hl
    refine ⟨fun x => w x + c * vec r x, .plus c w1 (.row ⟨r, hr, rfl⟩) fun x => .refl _, fun x => (h x).trans (((w2 x).add ((Cg.refl c).mul (.of_eq (vec_cut x)))).trans (.of_eq ?_))⟩
    unfold cutV
    split
    · rfl
    · omega
end
/-! ### ranks -/
theorem len_of_keys {rs rs' : RG} (nd : (rs.map (·.1)).Nodup) (h : ∀ i, i ∈ rs.map (·.1) → i ∈ rs'.map (·.1)) : rs.length ≤ rs'.length := by
  have := nodup_len (keysI_nodup nd) (V := keysI rs') fun v hv => by
    obtain ⟨i, hi, rfl⟩ := keysI_mem.mp hv
    exact keysI_mem.mpr ⟨i, h i hi, rfl⟩
  unfold keysI at this
  rwa [List.length_map, List.length_map] at this
noncomputable def rk (p : Int) (wd : Nat) (rows : List (List Int)) : Nat := (rsL p wd rows).length
theorem rk_span {p : Int} {wd : Nat} {rs rs' : RG} {rows rows' : List (List Int)} (p2 : 2 ≤ p) (S : St1 p wd rs rows) (S' : St1 p wd rs' rows') (h : Same2 p (inRows rows) (inRows rows')) : rs.length = rs'.length := by
  have k1 := (S.only S' p2 h).1
  exact Nat.le_antisymm (len_of_keys S.lad.nd fun i hi => (k1 i).mp hi) (len_of_keys S'.lad.nd fun i hi => (k1 i).mpr hi)
theorem rk_eq {p : Int} {wd : Nat} {rs : RG} {rows : List (List Int)} (p2 : 2 ≤ p) (S : St1 p wd rs rows) : rs.length = rk p wd rows := rk_span p2 S (rsL_st S) fun _ => Iff.rfl
theorem rk_same {p : Int} {wd : Nat} {rows rows' : List (List Int)} (prm : Prm p) (h1 : ∀ r ∈ rows, isRow r p wd) (h2 : ∀ r ∈ rows', isRow r p wd) (h : Same2 p (inRows rows) (inRows rows')) : rk p wd rows = rk p wd rows' := by
  obtain ⟨rs, S⟩ := st_ex prm h1
  obtain ⟨rs', S'⟩ := st_ex prm h2
  rw [← rk_eq prm.1 S, ← rk_eq prm.1 S']
  exact rk_span prm.1 S S' h
theorem st_step {p : Int} {wd : Nat} {rs : RG} {rows : List (List Int)} {row : List Int} (prm : Prm p) (S : St1 p wd rs rows) (hr : isRow row p wd) :
    ∃ rs', St1 p wd rs' (rows ++ [row]) ∧ ((Spn p (inRows rows) (vec row) ∧ rs'.length = rs.length) ∨ (¬ Spn p (inRows rows) (vec row) ∧ rs'.length = rs.length + 1)) := by
  have hl := isRow_len2 hr
  have p2 := prm.1
  obtain ⟨a, c⟩ := S.clear hl
  rcases first_nz (clr p rs row) wd with h0 | ⟨k, k1, k2, k3⟩
  · refine ⟨rs, S.skip hl h0, .inl ⟨(S.room _).mp (a.cg fun x => ?_), rfl⟩⟩
    have e : vec (clr p rs row) x = 0 := by
      by_cases hx : x < wd
      · exact h0 x hx
      · exact vec_over (by rw [clr_len]; omega)
    rw [e, Int.sub_zero]
    exact .refl _
  · have hb := getD_in (by omega) (clr_in (by omega) rs hr.2) k
    obtain ⟨u, hu⟩ := prm.inv (v := (clr p rs row).getD k 0) (by omega) hb.2
    refine ⟨_, S.put p2 hl hr.2 k1 k2 k3 hu, .inr ⟨fun hs => ?_, by unfold putIn; rw [List.length_append, List.length_map]; rfl⟩⟩
    have h1 := (S.room _).mpr hs
    have h2 : Spn p (rungs (rs.map (·.1)) (rv rs)) (vec (clr p rs row)) := .plus (-1) h1 a fun x => .of_eq (by omega)
    have h3 := S.lad.zero h2 c k
    exact k2 (h3.zero_of hb.1 hb.2)
theorem rk_step {p : Int} {wd : Nat} {rows : List (List Int)} {row : List Int} (prm : Prm p) (h : ∀ r ∈ rows, isRow r p wd) (hr : isRow row p wd) :
    (Spn p (inRows rows) (vec row) ∧ rk p wd (rows ++ [row]) = rk p wd rows) ∨ (¬ Spn p (inRows rows) (vec row) ∧ rk p wd (rows ++ [row]) = rk p wd rows + 1) := by
  obtain ⟨rs, S⟩ := st_ex prm h
  obtain ⟨rs', S', h2⟩ := st_step prm S hr
  rw [← rk_eq prm.1 S, ← rk_eq prm.1 S']
  exact h2
theorem rk_nil {p : Int} {wd : Nat} (p2 : 2 ≤ p) : rk p wd [] = 0 := (rk_eq p2 (St1.nil p wd)).symm
/-- two lists of rows go along -/
theorem rk_along {p : Int} {w1 w2 : Nat} {base Y Z : List (List Int)} (prm : Prm p) (hb : ∀ r ∈ base, isRow r p w1) (hY : ∀ r ∈ Y, isRow r p w1) (hZ : ∀ r ∈ Z, isRow r p w2) (hl : Y.length = Z.length)
    (h : ∀ k y z, Y[k]? = some y → Z[k]? = some z → (Spn p (inRows (base ++ Y.take k)) (vec y) ↔ Spn p (inRows (Z.take k)) (vec z))) : rk p w1 (base ++ Y) = rk p w1 base + rk p w2 Z := by
  have go : ∀ k, k ≤ Y.length → rk p w1 (base ++ Y.take k) = rk p w1 base + rk p w2 (Z.take k) := fun k => by
    induction k with
    | zero => intro _; rw [List.take_zero, List.take_zero, List.append_nil, rk_nil prm.1]; rfl
    | succ k ih =>
      intro hk
      have h1 : Y[k]? = some (Y[k]'(by omega)) := List.getElem?_eq_getElem (by omega)
      have h2 : Z[k]? = some (Z[k]'(by omega)) := List.getElem?_eq_getElem (by omega)
      have hh := h k _ _ h1 h2
      rw [List.take_succ, List.take_succ, h1, h2]
      show rk p w1 (base ++ (Y.take k ++ [_])) = rk p w1 base + rk p w2 (Z.take k ++ [_])
      rw [← List.append_assoc]
      have s1 := rk_step prm (rows := base ++ Y.take k) (row := Y[k]'(by omega)) (fun r hr => (List.mem_append.mp hr).elim (hb r) fun hr => hY r (List.mem_of_mem_take hr)) (hY _ (List.getElem_mem _))
      have s2 := rk_step prm (rows := Z.take k) (row := Z[k]'(by omega)) (fun r hr => hZ r (List.mem_of_mem_take hr)) (hZ _ (List.getElem_mem _))
      have := ih (by omega)
      rcases s1 with ⟨a, b⟩ | ⟨a, b⟩
      · rcases s2 with ⟨c, d⟩ | ⟨c, d⟩
        · omega
        · exact absurd (hh.mp a) c
      · rcases s2 with ⟨c, d⟩ | ⟨c, d⟩
        · exact absurd (hh.mpr c) a
        · omega
  have := go Y.length (Nat.le_refl _)
  rwa [List.take_length, hl, List.take_length] at this
theorem rk_iso {p : Int} {w1 w2 : Nat} {Y Z : List (List Int)} (prm : Prm p) (hY : ∀ r ∈ Y, isRow r p w1) (hZ : ∀ r ∈ Z, isRow r p w2) (hl : Y.length = Z.length)
    (h : ∀ k y z, Y[k]? = some y → Z[k]? = some z → (Spn p (inRows (Y.take k)) (vec y) ↔ Spn p (inRows (Z.take k)) (vec z))) : rk p w1 Y = rk p w2 Z := by
  have := rk_along (base := []) prm (fun _ h => nomatch h) hY hZ hl h
  rw [rk_nil prm.1] at this
  simpa using this
theorem rk_le {p : Int} {wd : Nat} {rows : List (List Int)} (prm : Prm p) (h : ∀ r ∈ rows, isRow r p wd) : ∀ k, k ≤ rows.length → rk p wd rows ≤ rk p wd (rows.take k) + (rows.length - k) := fun k hk => by
  have go : ∀ j, k + j ≤ rows.length → rk p wd (rows.take (k + j)) ≤ rk p wd (rows.take k) + j := fun j => by
    induction j with
    | zero => intro _; exact Nat.le_refl _
    | succ j ih =>
      intro hj
      have h1 : rows[k + j]? = some (rows[k + j]'(by omega)) := List.getElem?_eq_getElem (by omega)
      have := ih (by omega)
      rw [← Nat.add_assoc, List.take_succ, h1]
      show rk p wd (rows.take (k + j) ++ [_]) ≤ _
      have s1 := rk_step prm (rows := rows.take (k + j)) (row := rows[k + j]'(by omega)) (fun r hr => h r (List.mem_of_mem_take hr)) (h _ (List.getElem_mem _))
      rcases s1 with ⟨_, b⟩ | ⟨_, b⟩ <;> omega
  have := go (rows.length - k) (by omega)
  rwa [show k + (rows.length - k) = rows.length by omega, List.take_length] at this
theorem rk_len {p : Int} {wd : Nat} {rows : List (List Int)} (prm : Prm p) (h : ∀ r ∈ rows, isRow r p wd) : rk p wd rows ≤ rows.length := by
  have := rk_le prm h 0 (Nat.zero_le _)
  rw [List.take_zero, rk_nil prm.1] at this
  omega
/-- as many as there are: none comes of those ahead -/
theorem rk_full {p : Int} {wd : Nat} {rows : List (List Int)} (prm : Prm p) (h : ∀ r ∈ rows, isRow r p wd) : rk p wd rows = rows.length ↔ ∀ k r, rows[k]? = some r → ¬ Spn p (inRows (rows.take k)) (vec r) := by
  constructor
  · intro hf k r hk hs
    have hkl := (List.getElem?_eq_some_iff.mp hk).1
    have s1 := rk_step prm (rows := rows.take k) (row := r) (fun r hr => h r (List.mem_of_mem_take hr)) (h r (List.mem_of_getElem? hk))
    have h1 := rk_le prm h (k + 1) (by omega)
    have h2 := rk_len prm (rows := rows.take k) fun r hr => h r (List.mem_of_mem_take hr)
    rw [List.length_take] at h2
    rw [List.take_succ, hk] at h1
    rcases s1 with ⟨_, b⟩ | ⟨a, _⟩
    · have h1' : rk p wd rows ≤ rk p wd (rows.take k ++ [r]) + (rows.length - (k + 1)) := h1
      omega
    · exact a hs
  · intro hi
    have go : ∀ k, k ≤ rows.length → rk p wd (rows.take k) = k := fun k => by
      induction k with
      | zero => intro _; rw [List.take_zero, rk_nil prm.1]
      | succ k ih =>
        intro hk
        have h1 : rows[k]? = some (rows[k]'(by omega)) := List.getElem?_eq_getElem (by omega)
        rw [List.take_succ, h1]
        show rk p wd (rows.take k ++ [_]) = _
        have s1 := rk_step prm (rows := rows.take k) (row := rows[k]'(by omega)) (fun r hr => h r (List.mem_of_mem_take hr)) (h _ (List.getElem_mem _))
        have := ih (by omega)
        rcases s1 with ⟨a, _⟩ | ⟨_, b⟩
        · exact absurd a (hi k _ h1)
        · omega
    have := go rows.length (Nat.le_refl _)
    rwa [List.take_length] at this
end S4

namespace S4
open PySem L2 TT MM
/-! ### complementary blocks of a square and of its inverse -/
def units (n : Nat) (S : List Int) : List (List Int) := S.map fun j => uRow n j.toNat
theorem unit_vec (n j x : Nat) : vec (uRow n j) x = if x = j then 1 else 0 := uRow_at x
theorem unit_row {p : Int} (p2 : 2 ≤ p) {n j : Nat} (h : j < n) : isRow (uRow n j) p n := by
  refine ⟨by rw [uRow_len h], fun v hv => ?_⟩
  unfold uRow at hv
  simp only [List.mem_append, List.mem_replicate, List.mem_singleton] at hv
  rcases hv with (⟨_, rfl⟩ | rfl) | ⟨_, rfl⟩ <;> omega
theorem units_row {p : Int} (p2 : 2 ≤ p) {n : Nat} {S : List Int} (h : ∀ x ∈ S, x ∈ rng n) : ∀ r ∈ units n S, isRow r p n := fun r hr => by
  obtain ⟨j, hj, rfl⟩ := List.mem_map.mp hr
  obtain ⟨a, b⟩ := rng_mem.mp (h j hj)
  exact unit_row p2 (by omega)
theorem cutL_row {r l : List Int} {p : Int} {wd : Nat} (h : isRow r p wd) (hin : ∀ i ∈ l, 0 ≤ i ∧ i < (wd : Int)) : isRow (cutL r l) p l.length := by
  have hl := h.1
  refine ⟨by unfold cutL; rw [List.length_map], fun v hv => ?_⟩
  unfold cutL at hv
  obtain ⟨i, hi, rfl⟩ := List.mem_map.mp hv
  have hb := hin i hi
  have hx : r[i.toNat]? = some (r[i.toNat]'(by omega)) := List.getElem?_eq_getElem (by omega)
  rw [getD_at hx]
  exact h.2 _ (List.mem_of_getElem? hx)
theorem spn_over2 {p : Int} {wd : Nat} {rows : List (List Int)} {v : Vc} (hr : ∀ r ∈ rows, isRow r p wd) (h : Spn p (inRows rows) v) {x : Nat} (hx : wd ≤ x) : Cg p (v x) 0 := h.nought fun r ⟨l, hl, e⟩ => by
  rw [e, vec_over (by rw [isRow_len2 (hr l hl)]; exact hx)]
  exact .refl _
/-- what is 0 but at some places comes of these units -/
theorem units_span {p : Int} {n : Nat} {S : List Int} (hS : ∀ x ∈ S, x ∈ rng n) (nd : S.Nodup) {d : Vc} (h : ∀ x : Nat, (x : Int) ∉ S → Cg p (d x) 0) : Spn p (inRows (units n S)) d := by
  have hnd : (S.map Int.toNat).Nodup := by
    rw [List.nodup_iff_pairwise_ne, List.pairwise_map]
    refine List.Pairwise.imp_of_mem (fun {a b} ha hb hne e => ?_) (List.nodup_iff_pairwise_ne.mp nd)
    have := rng_mem.mp (hS a ha)
    have := rng_mem.mp (hS b hb)
    exact hne (by omega)
  have h1 : Spn p (inRows (units n S)) fun x => sumP (S.map Int.toNat) fun i => d i * vec (uRow n i) x := by
    refine spn_sumP (f := fun i x => vec (uRow n i) x) fun i hi => ?_
    obtain ⟨j, hj, rfl⟩ := List.mem_map.mp hi
    exact .row ⟨uRow n j.toNat, List.mem_map.mpr ⟨j, hj, rfl⟩, rfl⟩
  refine h1.cg fun x => ?_
  by_cases hx : (x : Int) ∈ S
  · have hxm : x ∈ S.map Int.toNat := List.mem_map.mpr ⟨(x : Int), hx, Int.toNat_natCast x⟩
    refine (Cg.of_eq ?_).trans (sumP_one hnd hxm fun i hi hne => .of_eq (by rw [unit_vec, if_neg (fun e => hne e.symm), Int.mul_zero])).symm
    rw [unit_vec, if_pos rfl, Int.mul_one]
  · refine (h x hx).trans (sumP_zero fun i hi => .of_eq ?_).symm
    obtain ⟨j, hj, rfl⟩ := List.mem_map.mp hi
    have := rng_mem.mp (hS j hj)
    rw [unit_vec, if_neg (fun e => hx (by rw [show (x : Int) = j by omega]; exact hj)), Int.mul_zero]
theorem rk_units {p : Int} (prm : Prm p) {n : Nat} {S : List Int} (hS : ∀ x ∈ S, x ∈ rng n) (nd : S.Nodup) : rk p n (units n S) = S.length := by
  have hl : (units n S).length = S.length := by unfold units; rw [List.length_map]
  rw [← hl]
  refine (rk_full prm (units_row prm.1 hS)).mpr fun k r hk hs => ?_
  unfold units at hk
  rw [List.getElem?_map] at hk
  obtain ⟨j, hj, e⟩ := Option.map_eq_some_iff.mp hk
  subst e
  have h0 := hs.nought (x := j.toNat) fun v hv => by
    obtain ⟨l, hl, rfl⟩ := hv
    unfold units at hl
    rw [← List.map_take] at hl
    obtain ⟨i, hi, rfl⟩ := List.mem_map.mp hl
    obtain ⟨m, hm⟩ := List.getElem?_of_mem hi
    have hmk : m < k := by
      have := (List.getElem?_eq_some_iff.mp hm).1
      rw [List.length_take] at this
      omega
    rw [List.getElem?_take_of_lt hmk] at hm
    refine .of_eq ?_
    rw [unit_vec, if_neg]
    intro e
    have h1 := rng_mem.mp (hS i (List.mem_of_getElem? hm))
    have h2 := rng_mem.mp (hS j (List.mem_of_getElem? hj))
    have e : i = j := by omega
    subst e
    have ha := List.getElem?_eq_some_iff.mp hm
    have hb := List.getElem?_eq_some_iff.mp hj
    have := (List.getElem_inj nd).mp (ha.2.trans hb.2.symm)
    omega
  rw [unit_vec, if_pos rfl] at h0
  exact one_ne prm.1 (.refl 1) h0
/-- units, and more rows: what these are elsewhere -/
theorem rk_beside {p : Int} (prm : Prm p) {n : Nat} {S S' : List Int} (hp : (S ++ S').Perm (rng n)) {Y : List (List Int)} (hY : ∀ r ∈ Y, isRow r p n) :
    rk p n (units n S ++ Y) = S.length + rk p S'.length (Y.map fun r => cutL r S') := by
  have hnd : (S ++ S').Nodup := hp.nodup_iff.mpr (rng_nodup n)
  obtain ⟨nS, nS', hdis⟩ := List.nodup_append.mp hnd
  have hS : ∀ x ∈ S, x ∈ rng n := fun x hx => hp.mem_iff.mp (List.mem_append_left _ hx)
  have hS' : ∀ x ∈ S', x ∈ rng n := fun x hx => hp.mem_iff.mp (List.mem_append_right _ hx)
  have hS'b : ∀ x ∈ S', 0 ≤ x ∧ x < (n : Int) := fun x hx => rng_mem.mp (hS' x hx)
  rw [rk_along (Z := Y.map fun r => cutL r S') (w2 := S'.length) prm (units_row prm.1 hS) hY (fun r hr => by
    obtain ⟨y, hy, rfl⟩ := List.mem_map.mp hr
    exact cutL_row (hY y hy) hS'b) (by rw [List.length_map]) (fun k y z hy hz => ?_), rk_units prm hS nS]
  rw [List.getElem?_map, hy] at hz
  have hz := Option.some.inj hz
  subst hz
  rw [← List.map_take]
  have hcv : ∀ r : List Int, ∀ x, Cg p (vec (cutL r S') x) (cutV (vec r) S' x) := fun r x => .of_eq (vec_cut x)
  constructor
  · intro h
    have h1 := cut_up (ord := S') h
    refine (h1.sub fun r hr => ?_).cg fun x => hcv y x
    obtain ⟨l, hl, rfl⟩ := hr
    obtain ⟨q, hq, rfl⟩ := List.mem_map.mp hl
    rcases List.mem_append.mp hq with hq | hq
    · obtain ⟨j, hj, rfl⟩ := List.mem_map.mp hq
      refine .zero fun x => .of_eq ?_
      rw [vec_cut]
      unfold cutV
      split
      · rename_i hx
        rw [getD_at (List.getElem?_eq_getElem hx), unit_vec, if_neg]
        intro e
        have h1 := rng_mem.mp (hS j hj)
        have h2 := hS'b _ (List.getElem_mem hx)
        exact hdis j hj _ (List.getElem_mem hx) (by omega)
      · rfl
    · exact .row ⟨_, List.mem_map.mpr ⟨q, hq, rfl⟩, rfl⟩
  · intro h
    obtain ⟨v, v1, v2⟩ := cut_down h
    have hv0 : ∀ x, n ≤ x → Cg p (v x) 0 := fun x hx => spn_over2 (fun r hr => hY r (List.mem_of_mem_take hr)) v1 hx
    have hyl := isRow_len2 (hY y (List.mem_of_getElem? hy))
    have hd : Spn p (inRows (units n S)) fun x => vec y x - v x := units_span hS nS fun x hx => by
      by_cases hxn : x < n
      · have hxS : (x : Int) ∈ S' := by
          have : (x : Int) ∈ S ++ S' := hp.mem_iff.mpr (rng_mem.mpr ⟨by omega, by omega⟩)
          exact (List.mem_append.mp this).resolve_left hx
        obtain ⟨m, hm⟩ := List.getElem?_of_mem hxS
        have hml := (List.getElem?_eq_some_iff.mp hm).1
        have h1 := v2 m
        rw [vec_cut] at h1
        unfold cutV at h1
        rw [if_pos hml, if_pos hml, getD_at hm, Int.toNat_natCast] at h1
        have := h1.sub (Cg.refl (p := p) (v x))
        rwa [Int.sub_self] at this
      · have h1 := hv0 x (by omega)
        rw [vec_over (l := y) (by omega)]
        have := (Cg.refl (p := p) 0).sub h1
        rwa [Int.sub_self] at this
    refine Spn.plus 1 (v1.mono (R' := inRows (units n S ++ Y.take k)) fun r ⟨l, hl, e⟩ => ⟨l, List.mem_append_right _ hl, e⟩) (hd.mono (R' := inRows (units n S ++ Y.take k)) fun r ⟨l, hl, e⟩ => ⟨l, List.mem_append_left _ hl, e⟩) fun x => .of_eq ?_
    omega
/-! ### rows put to rows -/
def tA (A : List (List Int)) (v : Vc) : Vc := fun x => sumP (List.range A.length) fun j => v j * (A.getD j []).getD x 0
theorem tA_cg {p : Int} {A : List (List Int)} {u v : Vc} (h : ∀ j, j < A.length → Cg p (u j) (v j)) (x : Nat) : Cg p (tA A u x) (tA A v x) := sumP_cg fun j hj => (h j (List.mem_range.mp hj)).mul (.refl _)
theorem tA_add {A : List (List Int)} {u v : Vc} (c : Int) (x : Nat) : tA A (fun j => u j + c * v j) x = tA A u x + c * tA A v x := by
  unfold tA
  rw [← sumP_mul, ← sumP_add]
  unfold sumP
  congr 1
  refine List.map_congr_left fun j _ => ?_
  rw [Int.add_mul, Int.mul_assoc]
theorem tA_zero {p : Int} {A : List (List Int)} {v : Vc} (h : ∀ j, Cg p (v j) 0) (x : Nat) : Cg p (tA A v x) 0 := sumP_zero fun j _ => by
  have := (h j).mul (Cg.refl (p := p) ((A.getD j []).getD x 0))
  rwa [Int.zero_mul] at this
section
variable {p : Int} {A P Q : List (List Int)} {n : Nat}
theorem tA_spn (h : ∀ r ∈ P, ∃ q ∈ Q, ∀ x, Cg p (vec q x) (tA A (vec r) x)) {v : Vc} (hv : Spn p (inRows P) v) : Spn p (inRows Q) (tA A v) := by
  induction hv with
  | @zero v hz => exact .zero fun x => tA_zero hz x
  | @add u r v c hu hr he ih =>
    obtain ⟨l, hl, rfl⟩ := hr
    obtain ⟨q, hq, e⟩ := h l hl
    refine .plus c ih (.row ⟨q, hq, rfl⟩) fun x => ?_
    refine (tA_cg (fun j _ => he j) x).trans ((Cg.of_eq (tA_add c x)).trans ((Cg.refl _).add ((Cg.refl c).mul (e x).symm)))
theorem tA_back (h : ∀ q ∈ Q, ∃ r ∈ P, ∀ x, Cg p (vec q x) (tA A (vec r) x)) {w : Vc} (hw : Spn p (inRows Q) w) : ∃ v, Spn p (inRows P) v ∧ ∀ x, Cg p (w x) (tA A v x) := by
  induction hw with
  | @zero w hz => exact ⟨fun _ => 0, .zero fun _ => .refl _, fun x => (hz x).trans (tA_zero (fun _ => .refl _) x).symm⟩
  | @add u q w c hu hq he ih =>
    obtain ⟨v, v1, v2⟩ := ih
    obtain ⟨l, hl, rfl⟩ := hq
    obtain ⟨r, hr, e⟩ := h l hl
    exact ⟨fun j => v j + c * vec r j, .plus c v1 (.row ⟨r, hr, rfl⟩) fun x => .refl _, fun x => (he x).trans (((v2 x).add ((Cg.refl c).mul (e x))).trans (.of_eq (tA_add c x).symm))⟩
/-- a square of whole rank: only noughts are put to noughts -/
theorem tA_inj (prm : Prm p) (hA : ∀ r ∈ A, isRow r p n) (hf : rk p n A = A.length) {v : Vc} (h : ∀ x, Cg p (tA A v x) 0) : ∀ j, j < A.length → Cg p (v j) 0 := by
  have p2 := prm.1
  have go : ∀ m, m ≤ A.length → ∀ j, A.length - m ≤ j → j < A.length → Cg p (v j) 0 := fun m => by
    induction m with
    | zero => intro _ j h1 h2; omega
    | succ m ih =>
      intro hm j h1 h2
      have up := ih (by omega)
      by_cases hj : A.length - m ≤ j
      · exact up j hj h2
      · have hb := mod_b (a := v j) (m := p) (by omega)
        by_cases h0 : v j % p = 0
        · exact (Cg.mod (p := p) (v j)).symm.trans (.of_eq h0)
        · exfalso
          obtain ⟨u, hu⟩ := prm.inv (v := v j % p) (by omega) hb.2
          have hu : Cg p (u * v j) 1 := ((Cg.refl u).mul (Cg.mod (v j)).symm).trans hu
          have hjx : A[j]? = some (A[j]'h2) := List.getElem?_eq_getElem h2
          refine (rk_full prm hA).mp hf j _ hjx ?_
          have hs : Spn p (inRows (A.take j)) fun x => sumP (List.range j) fun i => (-(u * v i)) * (A.getD i []).getD x 0 := spn_sumP (f := fun i x => (A.getD i []).getD x 0) fun i hi => by
            have hi := List.mem_range.mp hi
            refine .row ⟨A[i]'(by omega), ?_, ?_⟩
            · have : (A.take j)[i]? = some (A[i]'(by omega)) := by rw [List.getElem?_take_of_lt hi, List.getElem?_eq_getElem]
              exact List.mem_of_getElem? this
            · rw [getD_at (List.getElem?_eq_getElem (show i < A.length by omega))]
              rfl
          refine hs.cg fun x => ?_
          have hsplit : Cg p (tA A v x) (sumP (List.range j) (fun i => v i * (A.getD i []).getD x 0) + v j * (A.getD j []).getD x 0) := by
            unfold tA
            have e : List.range A.length = List.range j ++ (j :: (List.range (A.length - j - 1)).map fun i => j + 1 + i) := by
              have h1 : A.length = j + (1 + (A.length - j - 1)) := by omega
              rw [h1, List.range_add, List.range_add]
              rw [show j + (1 + (A.length - j - 1)) - j - 1 = A.length - j - 1 by omega]
              simp [List.range_succ, Nat.add_assoc, Function.comp_def]
            have e2 : sumP (List.range A.length) (fun i => v i * (A.getD i []).getD x 0) = sumP (List.range j) (fun i => v i * (A.getD i []).getD x 0) + (v j * (A.getD j []).getD x 0 + sumP ((List.range (A.length - j - 1)).map fun i => j + 1 + i) fun i => v i * (A.getD i []).getD x 0) := by
              rw [e]
              unfold sumP
              rw [List.map_append, List.sum_append, List.map_cons, List.sum_cons]
            rw [e2]
            have hz : Cg p (sumP ((List.range (A.length - j - 1)).map fun i => j + 1 + i) fun i => v i * (A.getD i []).getD x 0) 0 := sumP_zero fun i hi => by
              obtain ⟨t, ht, rfl⟩ := List.mem_map.mp hi
              have ht := List.mem_range.mp ht
              have := (up (j + 1 + t) (by omega) (by omega)).mul (Cg.refl (p := p) ((A.getD (j + 1 + t) []).getD x 0))
              rwa [Int.zero_mul] at this
            have := (Cg.refl (p := p) (sumP (List.range j) fun i => v i * (A.getD i []).getD x 0)).add ((Cg.refl (p := p) (v j * (A.getD j []).getD x 0)).add hz)
            rwa [Int.add_zero] at this
          have h3 := hsplit.symm.trans (h x)
          have h4 := (Cg.refl (p := p) u).mul h3
          rw [Int.mul_zero, Int.mul_add] at h4
          have h5 : Cg p (u * (v j * (A.getD j []).getD x 0)) (vec (A[j]'h2) x) := by
            have := hu.mul (Cg.refl (p := p) ((A.getD j []).getD x 0))
            rw [Int.one_mul, Int.mul_assoc] at this
            rw [getD_at hjx] at this ⊢
            exact this
          have h6 : sumP (List.range j) (fun i => (-(u * v i)) * (A.getD i []).getD x 0) = -(u * sumP (List.range j) fun i => v i * (A.getD i []).getD x 0) := by
            rw [← sumP_mul, show (fun i => (-(u * v i)) * (A.getD i []).getD x 0) = fun i => (-1) * (u * (v i * (A.getD i []).getD x 0)) from funext fun i => by rw [Int.neg_mul, Int.mul_assoc]; omega, sumP_mul]
            omega
          rw [h6]
          have h7 := ((Cg.refl (p := p) (u * sumP (List.range j) fun i => v i * (A.getD i []).getD x 0)).add h5).symm.trans h4
          have h8 := h7.sub (Cg.refl (p := p) (u * sumP (List.range j) fun i => v i * (A.getD i []).getD x 0))
          refine (Cg.of_eq ?_).trans (h8.trans (.of_eq ?_)) <;> omega
  exact fun j hj => go A.length (Nat.le_refl _) j (by omega) hj
theorem rk_tA (prm : Prm p) (hA : ∀ r ∈ A, isRow r p n) (hAl : A.length = n) (hf : rk p n A = A.length) (hP : ∀ r ∈ P, isRow r p n) (hQ : ∀ r ∈ Q, isRow r p n) (hl : P.length = Q.length)
    (h : ∀ (k : Nat) (r q : List Int), P[k]? = some r → Q[k]? = some q → ∀ x, Cg p (vec q x) (tA A (vec r) x)) : rk p n P = rk p n Q := by
  refine rk_iso prm hP hQ hl fun k y z hy hz => ?_
  have hPQ : ∀ r ∈ P.take k, ∃ q ∈ Q.take k, ∀ x, Cg p (vec q x) (tA A (vec r) x) := fun r hr => by
    obtain ⟨i, hi⟩ := List.getElem?_of_mem hr
    have hik : i < k := by have := (List.getElem?_eq_some_iff.mp hi).1; rw [List.length_take] at this; omega
    rw [List.getElem?_take_of_lt hik] at hi
    have hiQ : Q[i]? = some (Q[i]'(by have := (List.getElem?_eq_some_iff.mp hi).1; omega)) := List.getElem?_eq_getElem _
    exact ⟨_, List.mem_of_getElem? (show (Q.take k)[i]? = some _ by rw [List.getElem?_take_of_lt hik]; exact hiQ), h i _ _ hi hiQ⟩
  have hQP : ∀ q ∈ Q.take k, ∃ r ∈ P.take k, ∀ x, Cg p (vec q x) (tA A (vec r) x) := fun q hq => by
    obtain ⟨i, hi⟩ := List.getElem?_of_mem hq
    have hik : i < k := by have := (List.getElem?_eq_some_iff.mp hi).1; rw [List.length_take] at this; omega
    rw [List.getElem?_take_of_lt hik] at hi
    have hiP : P[i]? = some (P[i]'(by have := (List.getElem?_eq_some_iff.mp hi).1; omega)) := List.getElem?_eq_getElem _
    exact ⟨_, List.mem_of_getElem? (show (P.take k)[i]? = some _ by rw [List.getElem?_take_of_lt hik]; exact hiP), h i _ _ hiP hi⟩
  constructor
  · intro hs
    exact (tA_spn hPQ hs).cg fun x => h k y z hy hz x
  · intro hs
    obtain ⟨v, v1, v2⟩ := tA_back hQP hs
    have hd : ∀ j, j < A.length → Cg p (vec y j - v j) 0 := tA_inj prm hA hf fun x => by
      have e : tA A (fun j => vec y j - v j) x = tA A (vec y) x - tA A v x := by
        have := tA_add (A := A) (u := vec y) (v := v) (-1) x
        rw [show (fun j => vec y j - v j) = fun j => vec y j + (-1) * v j from funext fun j => by omega, this]
        omega
      rw [e]
      have := ((h k y z hy hz x).symm.trans (v2 x)).sub (Cg.refl (p := p) (tA A v x))
      rwa [Int.sub_self] at this
    have hyl := isRow_len2 (hP y (List.mem_of_getElem? hy))
    refine v1.cg fun x => ?_
    by_cases hx : x < A.length
    · have := (hd x hx).add (Cg.refl (p := p) (v x))
      rw [Int.zero_add] at this
      exact (Cg.of_eq (by omega)).trans this
    · rw [vec_over (by omega)]
      exact (spn_over2 (fun r hr => hP r (List.mem_of_mem_take hr)) v1 (by omega)).symm
end
/-- THE FACT OF PIVOTS: complementary blocks -/
theorem nullity {p : Int} (prm : Prm p) {n : Nat} {A B : List (List Int)} {I I' J J' : List Int} (hA : ∀ r ∈ A, isRow r p n) (hAl : A.length = n) (hf : rk p n A = n) (hB : ∀ r ∈ B, isRow r p n) (hBl : B.length = n)
    (hBA : ∀ k, k < n → ∀ x, x < n → Cg p (if x = k then 1 else 0) (tA A (vec (B.getD k [])) x)) (hI : (I ++ I').Perm (rng n)) (hJ : (J ++ J').Perm (rng n)) :
    I'.length + rk p I.length ((J'.map fun k => B.getD k.toNat []).map fun r => cutL r I) = J'.length + rk p J.length ((I'.map fun j => A.getD j.toNat []).map fun r => cutL r J) := by
  have p2 := prm.1
  have hI' : ∀ x ∈ I', x ∈ rng n := fun x hx => hI.mem_iff.mp (List.mem_append_right _ hx)
  have hJ' : ∀ x ∈ J', x ∈ rng n := fun x hx => hJ.mem_iff.mp (List.mem_append_right _ hx)
  have gB : ∀ k ∈ J', B.getD k.toNat [] ∈ B := fun k hk => by
    obtain ⟨a, b⟩ := rng_mem.mp (hJ' k hk)
    rw [getD_at (List.getElem?_eq_getElem (show k.toNat < B.length by omega))]
    exact List.getElem_mem _
  have gA : ∀ k ∈ I', A.getD k.toNat [] ∈ A := fun k hk => by
    obtain ⟨a, b⟩ := rng_mem.mp (hI' k hk)
    rw [getD_at (List.getElem?_eq_getElem (show k.toNat < A.length by omega))]
    exact List.getElem_mem _
  have hY : ∀ r ∈ J'.map fun k => B.getD k.toNat [], isRow r p n := fun r hr => by
    obtain ⟨k, hk, rfl⟩ := List.mem_map.mp hr
    exact hB _ (gB k hk)
  have hZ : ∀ r ∈ I'.map fun k => A.getD k.toNat [], isRow r p n := fun r hr => by
    obtain ⟨k, hk, rfl⟩ := List.mem_map.mp hr
    exact hA _ (gA k hk)
  have hX := units_row p2 hI'
  have hX2 := units_row p2 hJ'
  have e1 := rk_beside prm (S := I') (S' := I) (List.perm_append_comm.trans hI) hY
  have e2 := rk_beside prm (S := J') (S' := J) (List.perm_append_comm.trans hJ) hZ
  have e3 : rk p n (units n I' ++ J'.map fun k => B.getD k.toNat []) = rk p n ((J'.map fun k => B.getD k.toNat []) ++ units n I') := rk_same prm (fun r hr => (List.mem_append.mp hr).elim (hX r) (hY r)) (fun r hr => (List.mem_append.mp hr).elim (hY r) (hX r)) fun v =>
    ⟨fun h => h.mono fun r ⟨l, hl, e⟩ => ⟨l, List.mem_append.mpr (List.mem_append.mp hl).symm, e⟩, fun h => h.mono fun r ⟨l, hl, e⟩ => ⟨l, List.mem_append.mpr (List.mem_append.mp hl).symm, e⟩⟩
  have e4 : rk p n ((J'.map fun k => B.getD k.toNat []) ++ units n I') = rk p n (units n J' ++ I'.map fun j => A.getD j.toNat []) := by
    refine rk_tA prm hA hAl (by rw [hf, hAl]) (fun r hr => (List.mem_append.mp hr).elim (hY r) (hX r)) (fun r hr => (List.mem_append.mp hr).elim (hX2 r) (hZ r)) (by unfold units; simp) fun k r q hr hq x => ?_
    unfold units at hr hq
    by_cases hk : k < J'.length
    · rw [List.getElem?_append_left (by rw [List.length_map]; exact hk), List.getElem?_map] at hr hq
      obtain ⟨j, hj, rfl⟩ := Option.map_eq_some_iff.mp hr
      rw [hj] at hq
      have hq := Option.some.inj hq
      subst hq
      obtain ⟨a, b⟩ := rng_mem.mp (hJ' j (List.mem_of_getElem? hj))
      rw [unit_vec]
      by_cases hx : x < n
      · exact hBA j.toNat (by omega) x hx
      · rw [if_neg (by omega)]
        refine (sumP_zero fun i hi => .of_eq ?_).symm
        have hi := List.mem_range.mp hi
        have hil := isRow_len2 (hA _ (List.getElem_mem hi))
        have : (A.getD i []).getD x 0 = 0 := by
          rw [getD_at (List.getElem?_eq_getElem hi)]
          exact vec_over (l := A[i]) (by omega)
        rw [this, Int.mul_zero]
    · rw [List.getElem?_append_right (by rw [List.length_map]; omega), List.length_map, List.getElem?_map] at hr hq
      obtain ⟨j, hj, rfl⟩ := Option.map_eq_some_iff.mp hr
      rw [hj] at hq
      have hq := Option.some.inj hq
      subst hq
      obtain ⟨a, b⟩ := rng_mem.mp (hI' j (List.mem_of_getElem? hj))
      have hjr : j.toNat ∈ List.range A.length := List.mem_range.mpr (by omega)
      refine (Cg.of_eq ?_).trans (sumP_one List.nodup_range hjr fun i hi hne => .of_eq (by rw [unit_vec, if_neg hne, Int.zero_mul])).symm
      rw [unit_vec, if_pos rfl, Int.one_mul]
      rfl
  have hlen : (units n I').length = I'.length := by unfold units; rw [List.length_map]
  omega
end S4

namespace S4
open PySem L2 TT MM EE
theorem mem_every {rules : List (List Rule)} {e : Nat × Rule} (h : e ∈ everyL rules) : ∃ own, rules[e.1]? = some own ∧ e.2 ∈ own := by
  unfold everyL at h
  obtain ⟨i, hi, h⟩ := List.mem_flatMap.mp h
  obtain ⟨r, hr, rfl⟩ := List.mem_map.mp h
  have hx : rules[i]? = some (rules[i]'(List.mem_range.mp hi)) := List.getElem?_eq_getElem (List.mem_range.mp hi)
  rw [getD_at hx] at hr
  exact ⟨_, hx, hr⟩
theorem len_every {rules : List (List Rule)} (h : ∀ own ∈ rules, own.length ≤ 8) : (everyL rules).length ≤ 8 * rules.length := by
  unfold everyL
  refine flat_lenR fun j hj => ?_
  rw [List.length_map, getD_at (List.getElem?_eq_getElem hj)]
  exact h _ (List.getElem_mem hj)
theorem ways_nodup {S : RD} {n : Nat} (ok : RulesOk S n) : (S.ties ++ flipAll S.ties).Nodup := by
  have h1 : S.ties.Nodup := ok.tree.ok.asc.imp fun {a b} h e => by
    subst e
    rcases h with h | h
    · omega
    · omega
  rw [List.nodup_append]
  refine ⟨h1, ?_, fun a ha b hb e => ?_⟩
  · unfold flipAll
    rw [List.Nodup, List.pairwise_map]
    exact List.Pairwise.imp (fun {a b} h e => h (by have := congrArg Prod.swap e; simpa using this)) h1
  · subst e
    unfold flipAll at hb
    obtain ⟨y, hy, e⟩ := List.mem_map.mp hb
    have b1 := ok.tree.ok.b0 _ ha
    have b2 := ok.tree.ok.b0 _ hy
    rw [← e] at b1
    simp only [Prod.fst_swap, Prod.snd_swap] at b1
    omega
theorem heldF_len {unk : List Int} {n : Nat} (oh : CountsOk unk n) : ∀ L : List Int, (L.flatMap (heldL unk)).length ≤ 60 * L.length
  | [] => Nat.zero_le _
  | a :: L => by
    rw [List.flatMap_cons, List.length_append, List.length_cons]
    have := heldL_len oh a
    have := heldF_len oh L
    omega
end S4

namespace S4
open PySem L2 TT MM
/-! ### comprehensions that draw -/
section
variable {J : It} {n : Nat} {G : Hp → Prop} {Y : Nat → Hp → V → Hp → Prop} {H1 : Hp} {g c D : Addr} {α : Type}
def PvDr (R : Rp α) (F : α → Prop) (g c D : Addr) (H1 : Hp) (i : Nat) (H : Hp) : Prop := But g H1 H ∧ Hand g c H ∧ ∃ xs l, H D = some (.lst xs) ∧ Paired (R H) xs l ∧ l.length = i ∧ ∀ a ∈ l, F a
theorem dr_ne (h : Hand g c H1) (hD : H1 D = none) : D ≠ g ∧ D ≠ c := by
  obtain ⟨_, e⟩ := h.lst
  obtain ⟨_, e2⟩ := h.cells
  exact ⟨fun q => (by rw [q, e] at hD; cases hD), fun q => (by rw [q, e2] at hD; cases hD)⟩
theorem dr_start {R : Rp α} {F : α → Prop} (h : Hand g c H1) (hD : H1 D = none) : PvDr R F g c D H1 0 (upd H1 D (.lst [])) :=
  ⟨(same_new hD).but g, h.same (same_new hD), [], [], upd_same, .nil, rfl, fun _ h => nomatch h⟩
theorem dr_keep {R : Rp α} (m : Mono R) {F : α → Prop} {i : Nat} {H H4 : Hp} {y : V} {a : α} (h : Hand g c H1) (p : PvDr R F g c D H1 i H) (hD : H1 D = none) (hi : i ≤ 100000) (b4 : But g H H4) (h4 : Hand g c H4) (ra : R H4 y a) (fa : F a) :
    ∃ acc, H4 D = some (.lst acc) ∧ acc.length < sizeLine ∧ PvDr R F g c D H1 (i + 1) (upd H4 D (.lst (acc ++ [y]))) := by
  obtain ⟨b, hh, xs, l, h1, h2, h3, hf⟩ := p
  obtain ⟨d1, d2⟩ := dr_ne h hD
  have hD4 : H4 D = some (.lst xs) := b4.lst d1 h1
  have k5 : Keep H4 (upd H4 D (.lst (xs ++ [y]))) := keep_lst hD4
  have hlen := paired_len h2
  refine ⟨xs, hD4, Nat.lt_of_le_of_lt (Nat.le_trans (by omega) hi) (by decide), fun x o hx e => ?_, h4.setD d1 d2, xs ++ [y], l ++ [a], upd_same, ?_, by rw [List.length_append, h3]; rfl, fun z hz => ?_⟩
  · have hxD : x ≠ D := fun q => by subst q; rw [hD] at e; cases e
    rw [upd_ne hxD]
    exact (b.trans b4) x o hx e
  · exact paired_app (paired_mono m k5 (paired_mono m (hh.keep b4) h2)) (.cons (m _ _ _ _ k5 ra) .nil)
  · rcases List.mem_append.mp hz with hz | hz
    · exact hf z hz
    · rw [List.mem_singleton.mp hz]
      exact fa
end
theorem erase_map {α β : Type} (f : α → β) (l : List α) (i : Nat) : (l.map f).eraseIdx i = (l.eraseIdx i).map f := by
  rw [List.eraseIdx_eq_take_drop_succ, List.eraseIdx_eq_take_drop_succ, List.map_append, List.map_take, List.map_drop]
theorem erase_perm {α : Type} {l : List α} {i : Nat} (h : i < l.length) : (l[i] :: l.eraseIdx i).Perm l := by
  rw [List.eraseIdx_eq_take_drop_succ]
  have e : l = l.take i ++ l[i] :: l.drop (i + 1) := by rw [← List.drop_eq_getElem_cons h, List.take_append_drop]
  exact List.perm_middle.symm.trans (.of_eq e.symm)
theorem seqIx_nat {j n : Nat} (h : j < n) : seqIndex? (j : Int) n = some j := by
  unfold seqIndex?
  have e1 : (if (j : Int) < 0 then (j : Int) + (n : Int) else (j : Int)) = j := if_neg (by omega)
  simp only [e1]
  rw [if_pos (by rw [Bool.and_eq_true]; exact ⟨decide_eq_true (by omega), decide_eq_true (by omega)⟩), Int.toNat_natCast]
theorem hand_new {g c p : Addr} {H : Hp} (h : Hand g c H) (hp : H p = none) : p ≠ g ∧ p ≠ c := dr_ne h hp
theorem rgV_rng (n : Nat) : rgV 0 (n : Int) = (rng n).map V.int := by
  rw [rgV_int]
  unfold rng
  have e : ((n : Int) - 0).toNat = n := by omega
  rw [e]
  congr 1
  refine List.map_congr_left fun i _ => ?_
  omega
theorem tieOf_mm (l q : Int) : tieOf l q = (if l < q then l else q, if l > q then l else q) := by
  unfold tieOf
  by_cases h : l < q
  · rw [if_pos h, if_pos h, if_neg (by omega)]
  · rw [if_neg h, if_neg h]
    by_cases h2 : l > q
    · rw [if_pos h2]
    · have : l = q := by omega
      subst this
      simp
end S4

namespace S4
open PySem L2 TT MM EE
/-! ### the law's ties, its rows -/
section
variable {P : Program} {w : World} {K : PySem.W.Frag} {mg : Str → Option Value} {base : Heap} {cT cS : Addr}
def spLTies : Sp := fun vs H Q _ => ∃ (g c : Addr) (most : Nat), vs = [.ref g, .int (most : Int)] ∧ 1 ≤ most ∧ most ≤ 24 ∧ Hand g c H ∧ ∀ H' v ties n, But g H H' → Hand g c H' → rTup rPI H' v ties → TreeOk ties n → n ≤ most → Q v H'
theorem ok_lties (T : Tx K mg cT cS) {f : Addr} {fd : FuncData} (d : D K mg "_law_ties" s_law_ties ["hand", "most"] f fd) : FnOk P w K mg base CX0 2 f fd ["hand", "most"] spLTies := by
  obtain ⟨f1, fd1, d1⟩ := T.d_law_draw
  have G1 := ok_draw (P := P) (w := w) (base := base) T d1
  refine d.F.ok sc_law_ties (fun vs H Q E h => ?_) (fun cdv A outer s H vs Q E hr h => ?_)
  · obtain ⟨g, c, most, rfl, _⟩ := h
    rfl
  · obtain ⟨g, c, most, rfl, m1, m24, hh, q⟩ := h
    refine ⟨_, pss_cons (ps_set (i := 2) sc_law_ties.nd rfl (.inl rfl) (pe_op op_add pe_int (pe_call G1 (hr.mono (by decide)) rfl d1.m d1.F.kp d1.b .nil pass0 (pa_cons (pv 0) (pa_cons (pv 1) pa_nil)))))
      (pss_cons (ps_par (i := 3) (j := 4) (by rfl) sc_law_ties.nd rfl rfl (by decide) rfl rfl (pa_cons (pe_lst pa_nil) (pa_cons (pe_listRg rfl (by rfl) T.b_list (prg_1 (by rfl) T.b_range (pv 2))) pa_nil)) (by rfl))
      (pss_cons (ps_while PassesOwn.never (pt_cmpR op_gt (pe_callB call_len_seq (by rfl) T.b_len PySem.boot_len (pa_cons (pv 4) pa_nil)) pe_int (nomark _))
        (pss_one (ps_expr (pe_bm PySem.F.plainAttrs_list PySem.F.slot_list_append PySem.F.type_list_append mt_append (pv 3) (pa_cons (pe_bm PySem.F.plainAttrs_list PySem.F.slot_list_pop PySem.F.type_list_pop mt_popAt (pv 4) (pa_cons (pe_call G1 (hr.mono (by decide)) rfl d1.m d1.F.kp d1.b .nil pass0 (pa_cons (pv 0) (pa_cons (pe_callB call_len_seq (by rfl) T.b_len PySem.boot_len (pa_cons (pv 4) pa_nil)) pa_nil))) pa_nil)) pa_nil)))))
      (pss_cons (ps_set (i := 5) sc_law_ties.nd rfl (.inl rfl) (pe_lst pa_nil))
      (pss_cons (ps_for PassesOwn.never rfl (pi_range2 rfl T.b_range (pa_cons pe_int (pa_cons (pv 2) pa_nil))) (pg_name (i := 6) sc_law_ties.nd rfl (.inl rfl))
        (pss_cons (ps_par (i := 7) (j := 8) (by rfl) sc_law_ties.nd rfl rfl (by decide) rfl rfl (pa_cons (pe_ix ix_list (pv 3) (pe_call G1 (hr.mono (by decide)) rfl d1.m d1.F.kp d1.b .nil pass0 (pa_cons (pv 0) (pa_cons (pv 6) pa_nil))) (fun _ _ => rfl)) (pa_cons (pe_ix ix_list (pv 3) (pv 6) (fun _ _ => rfl)) pa_nil)) (by rfl))
      (pss_one (ps_expr (pe_bm PySem.F.plainAttrs_list PySem.F.slot_list_append PySem.F.type_list_append mt_append (pv 5) (pa_cons (pe_tup (pa_cons (pe_callB (call_min2 rfl) (by rfl) T.b_min (by decide +kernel) (pa_cons (pv 7) (pa_cons (pv 8) pa_nil))) (pa_cons (pe_callB (call_max2 rfl) (by rfl) T.b_max (by decide +kernel) (pa_cons (pv 7) (pa_cons (pv 8) pa_nil))) pa_nil))) pa_nil))))))
      (pss_one (ps_ret (pe_callTy call_tuple_of (by rfl) T.b_tuple (by decide +kernel) (pa_cons (pe_callB cr_sortedPD (by rfl) T.b_sorted (by decide +kernel) (pa_cons (pv 5) pa_nil)) pa_nil)))))))), ?_⟩
    refine ⟨_, rfl, _, rfl, g, c, most, rfl, by omega, by omega, hh, fun H2 k b2 hh2 k0 k1 => ⟨_, _, rfl, rfl, ?_⟩⟩
    obtain ⟨kn, rfl⟩ : ∃ kn : Nat, k = (kn : Int) := ⟨k.toNat, by omega⟩
    have e1 : (1 + (kn : Int)) = ((kn + 1 : Nat) : Int) := by omega
    dsimp only [gName, tSeq]
    rw [e1]
    generalize hn : kn + 1 = n at *
    have n1 : 1 ≤ n := by omega
    have n24 : n ≤ 24 := by omega
    refine ⟨by show 0 ≤ sizeLine; decide, fun nm nnm => ?_⟩
    have s3 := same_new (o := .lst []) nnm
    refine ⟨_, rfl, _, rfl, ⟨by omega, by omega, by omega, by omega, by omega⟩, fun lf nlf => ?_⟩
    have s4 := same_new (o := .lst (rgV 0 (n : Int))) nlf
    refine ⟨_, _, rfl, ?_⟩
    dsimp only [gName, tSeq]
    have nmg := hand_new hh2 nnm
    have lfg := hand_new (hh2.same s3) nlf
    have hnl : nm ≠ lf := fun e => by subst e; rw [upd_same] at nlf; cases nlf
    have nm0 : H nm = none := b2.free nnm nmg.1
    have lf0 : H lf = none := b2.free (s3.free nlf) lfg.1
    refine while_by (fun σ H' => ∃ (ms1 ms2 : List Int), σ = [some (.ref g), some (.int (most : Int)), some (.int (n : Int)), some (.ref nm), some (.ref lf), none, none, none, none] ∧ But g H H' ∧ Hand g c H' ∧ H' lf = some (.lst (ms1.map V.int)) ∧ H' nm = some (.lst (ms2.map V.int)) ∧ (ms2 ++ ms1).Perm (rng n))
      (fun σ H' => match H' lf with | some (.lst l) => l.length | _ => 0) ⟨rng n, [], rfl, b2.trans ((s3.trans s4).but g), hh2.same (s3.trans s4), by rw [upd_same, rgV_rng], s4 _ _ upd_same, .refl _⟩ ?_ ?_
    · rintro σ H3 ⟨ms1, ms2, rfl, bt, hh3, h1, h2, hp⟩
      have hmu : (match H3 lf with | some (.lst l) => l.length | _ => 0) = ms1.length := by
        rw [h1]
        show (ms1.map V.int).length = _
        rw [List.length_map]
      rw [hmu]
      have hlen := hp.length_eq
      rw [List.length_append, rng_len] at hlen
      refine ⟨_, rfl, _, _, rfl, .inl (.of h1), _, _, rfl, rfl, _, rfl, ?_⟩
      rw [List.length_map]
      by_cases h0 : 0 < ms1.length
      · rw [decide_eq_true (by omega)]
        refine iteT ⟨_, rfl, .inl ⟨rfl, _, .of h2⟩, _, rfl, .inl ⟨rfl, _, .of h1⟩, _, rfl, _, rfl, _, _, rfl, .inl (.of h1), g, c, _, rfl, by rw [List.length_map]; omega, by rw [List.length_map]; omega, hh3, fun H4 k b4 hh4 k0 k1 => ?_⟩
        rw [List.length_map] at k1
        obtain ⟨j, rfl⟩ : ∃ j : Nat, k = (j : Int) := ⟨k.toNat, by omega⟩
        have hj : ms1[j]? = some (ms1[j]'(by omega)) := List.getElem?_eq_getElem (by omega)
        have h14 := b4.lst lfg.1 h1
        have h24 := b4.lst nmg.1 h2
        refine ⟨lf, _, _, j, _, rfl, rfl, h14, by omega, by omega, ?_, int_at hj, ?_⟩
        · exact seqIx_nat (by rw [List.length_map]; omega)
        refine ⟨nm, _, _, rfl, rfl, by rw [upd_ne hnl]; exact h24, by rw [List.length_map]; exact Nat.lt_of_le_of_lt (by omega : ms2.length ≤ 1000) (by decide), ?_⟩
        refine ⟨⟨ms1.eraseIdx j, ms2 ++ [ms1[j]'(by omega)], rfl, fun a u ha e => ?_, ?_, ?_, ?_, ?_⟩, ?_⟩
        · rw [upd_ne (fun z => by subst z; rw [nm0] at e; cases e), upd_ne (fun z => by subst z; rw [lf0] at e; cases e)]
          exact (bt.trans b4) a u ha e
        · exact (hh4.setD lfg.1 lfg.2).setD nmg.1 nmg.2
        · rw [upd_ne hnl.symm, upd_same, erase_map]
        · rw [upd_same, List.map_append]
          rfl
        · have e1 := erase_perm (l := ms1) (i := j) (by omega)
          rw [List.append_assoc]
          exact (List.Perm.append_left ms2 e1).trans hp
        · rw [upd_ne hnl.symm, upd_same, erase_map]
          show ((ms1.eraseIdx j).map V.int).length < _
          rw [List.length_map, List.length_eraseIdx, if_pos (by omega)]
          omega
      · rw [decide_eq_false (by omega)]
        refine iteF ?_
        have : ms1 = [] := List.eq_nil_of_length_eq_zero (by omega)
        subst this
        rw [List.append_nil] at hp
        generalize ms2 = names at *
        dsimp only [gName, tSeq]
        refine ⟨by show 0 ≤ sizeLine; decide, fun fo hfo => ?_⟩
        have s5 := same_new (o := .lst []) hfo
        have fog := hand_new hh3 hfo
        have hne : nm ≠ fo := fun e => by subst e; rw [h2] at hfo; cases hfo
        have fo0 : H fo = none := bt.free hfo fog.1
        have nml : names.length = n := by rw [hp.length_eq, rng_len]
        have nmnd : names.Nodup := hp.nodup_iff.mpr (rng_nodup n)
        refine ⟨_, rfl, _, _, rfl, ⟨by omega, by omega, by omega, by omega⟩, ?_⟩
        have x0 : names[0]? = some (names[0]'(by omega)) := List.getElem?_eq_getElem (by omega)
        refine for_it (walk_range (lo := 1) (n := ((n : Int) - 1).toNat)) (fun i σ H' => ∃ x y z, σ = [some (.ref g), some (.int (most : Int)), some (.int (n : Int)), some (.ref nm), some (.ref lf), some (.ref fo), x, y, z] ∧ But g H H' ∧ Hand g c H' ∧ H' nm = some (.lst (names.map V.int)) ∧
          ∃ xs es, H' fo = some (.lst xs) ∧ Paired (rPI H') xs es ∧ Tr (names.take (i + 1)) es)
          ⟨none, none, none, rfl, bt.trans (s5.but g), hh3.same s5, s5 _ _ h2, [], [], upd_same, .nil, by rw [List.take_succ, x0]; exact .one _⟩ (fun i σ H' _ h => trivial) ?_ ?_
        · rintro i x σ H5 H6 hi ⟨x1, y1, z1, rfl, bt5, hh5, hnm5, xs, es, hfo5, hxp, tr⟩ ⟨rfl, rfl⟩
          have hi2 : i + 1 < n := by omega
          have hxl := paired_len hxp
          have htl := tr.len
          rw [List.length_take] at htl
          refine ⟨_, rfl, _, rfl, _, rfl, g, c, _, rfl, by omega, by omega, hh5, fun H7 o b7 hh7 o0 o1 => ?_⟩
          obtain ⟨o, rfl⟩ : ∃ oo : Nat, o = (oo : Int) := ⟨o.toNat, by omega⟩
          have hnm7 := b7.lst nmg.1 hnm5
          have hfo7 := b7.lst fog.1 hfo5
          have ai : names[i + 1]? = some (names[i + 1]'(by omega)) := List.getElem?_eq_getElem (by omega)
          have ao : names[o]? = some (names[o]'(by omega)) := List.getElem?_eq_getElem (by omega)
          have ea : (1 + (i : Int)) = ((i + 1 : Nat) : Int) := by omega
          refine ⟨nm, _, _, _, rfl, rfl, .of hnm7, atI_nat (int_at ao), _, rfl, _, rfl, nm, _, _, _, rfl, rfl, .of hnm7, by rw [ea]; exact atI_nat (int_at ai), _, _, rfl, ?_⟩
          dsimp only [gName, tSeq]
          generalize names[i + 1]'(by omega) = l at ai
          generalize hq : names[o]'(by omega) = qq at ao
          refine ⟨_, rfl, .inl ⟨rfl, _, .of hfo7⟩, ?_⟩
          refine ⟨_, rfl, _, rfl, _, _, rfl, _, rfl, _, rfl, _, _, rfl, by show 2 ≤ sizeLine; decide, fun tp ntp => ?_⟩
          have s8 := same_new (o := .tup [V.int (if l < qq then l else qq), V.int (if l > qq then l else qq)]) ntp
          have hfo8 := s8 _ _ hfo7
          have k9 : Keep _ _ := keep_lst (o := .lst (xs ++ [V.ref tp])) hfo8
          have bz := b7.trans (s8.but g)
          refine ⟨fo, _, _, rfl, rfl, hfo8, Nat.lt_of_le_of_lt (by omega : xs.length ≤ 24) (by decide), ?_⟩
          refine ⟨_, _, _, rfl, fun a u ha e => ?_, (hh7.same s8).setD fog.1 fog.2, ?_, _, es ++ [tieOf l qq], upd_same, paired_app (paired_mono mono_pi ((hh5.keep bz).trans k9) hxp) (.cons (mono_pi _ _ _ _ k9 ⟨tp, rfl, by rw [upd_same, tieOf_mm]⟩) .nil), ?_⟩
          · rw [upd_ne (fun q => by subst q; rw [fo0] at e; cases e)]
            exact (bt5.trans bz) a u ha e
          · rw [upd_ne hne]
            exact s8 _ _ hnm7
          · have et : names.take (i + 1 + 1) = names.take (i + 1) ++ [l] := by rw [List.take_succ, ai]; rfl
            rw [et]
            refine .leaf tr ?_ ?_
            · have : (names.take (i + 1))[o]? = some qq := by rw [List.getElem?_take_of_lt (by omega), ao]
              exact List.mem_of_getElem? this
            · intro hm
              have nd := List.Nodup.sublist (List.take_sublist (i + 1 + 1) names) nmnd
              rw [et, List.nodup_append] at nd
              exact nd.2.2 _ hm _ (by simp) rfl
        · rintro σ H5 ⟨x1, y1, z1, rfl, bt5, hh5, hnm5, xs, es, hfo5, hxp, tr⟩
          have e0 : ((n : Int) - 1).toNat + 1 = n := by omega
          rw [e0, ← nml, List.take_length] at tr
          refine ⟨_, rfl, fo, xs, es, rfl, .of hfo5, hxp, fun ys m p hys hm hs np => ⟨p, ys, rfl, .inl ⟨.of upd_same, fun l nl => ?_⟩⟩⟩
          have sz := (same_new (o := .lst ys) np).trans (same_new (o := .tup ys) nl)
          exact q _ _ m n (bt5.trans (sz.but g)) (hh5.same sz) ⟨l, ys, rfl, upd_same, paired_mono mono_pi sz.keep hys⟩ (treeOk_of tr hp n24 hm hs) (by omega)
    · rintro σ H' Q1 Q2 i ⟨x, e1, p, ys, e2, h1, i1, j1, e3, e4, k, e5, h⟩
      exact ⟨x, e1, p, ys, e2, h1, i1, j1, e3, e4, k, e5, i _ _ h⟩
end
end S4

namespace S4
open PySem L2 TT MM EE
/-! ### the law's row -/
theorem PDat.ne {H : Hp} {a g c : Addr} {S : RD} {tv uv rv : V} (x : PDat H a S tv uv rv) (hh : Hand g c H) : a ≠ g := fun e => by
  obtain ⟨_, h⟩ := hh.lst
  rw [← e, x.d] at h
  cases h
theorem PDat.but {H H' : Hp} {a g c : Addr} {S : RD} {tv uv rv : V} (x : PDat H a S tv uv rv) (hh : Hand g c H) (b : But g H H') : PDat H' a S tv uv rv :=
  ⟨b a _ (x.ne hh) x.d, mono_tup mono_pi _ _ _ _ (hh.keep b) x.t, mono_row _ _ _ _ (hh.keep b) x.u, mono_rls _ _ _ _ (hh.keep b) x.r⟩
theorem near_in {ties : List (Int × Int)} {n : Nat} {unk : List Int} (oh : CountsOk unk n) {post x : Int} (h : nearU ties unk post x) : 0 ≤ x ∧ x < unk.sum := by
  rcases h with h | ⟨_, _, h⟩ <;> exact held_lt oh h
theorem hand_ints {g c r : Addr} {H : Hp} {l : List Int} (hh : Hand g c H) (h : H r = some (.lst (l.map V.int))) : r ≠ g := fun e => by
  obtain ⟨cells, i1, i2, i3, i4, w⟩ := hh
  have h1 := w.h
  rw [← e, h] at h1
  have h1 := HO.lst.inj (Option.some.inj h1)
  unfold hl at h1
  cases l with
  | nil => cases h1
  | cons a l => cases h1
theorem rep_zero (k : Nat) : (List.replicate k [V.int 0]).flatten = (List.replicate k (0 : Int)).map V.int := by
  induction k with
  | zero => rfl
  | succ k ih => rw [List.replicate_succ, List.flatten_cons, ih, List.replicate_succ, List.map_cons]; rfl
section
variable {P : Program} {w : World} {K : PySem.W.Frag} {mg : Str → Option Value} {base : Heap} {cT cS : Addr}
def spLRow : Sp := fun vs H Q _ => ∃ (g c a : Addr) (tv uv rv : V) (S : RD) (post : Int) (n : Nat), vs = [.ref g, .ref a, .int post] ∧ PDat H a S tv uv rv ∧ TiesOk S.ties n ∧ CountsOk S.unk n ∧ 0 ≤ post ∧ post < (n : Int) ∧ 2 ≤ S.p ∧ S.p ≤ 1000000 ∧ Hand g c H ∧
  ∀ H' v l, But g H H' → Hand g c H' → rRow H' v l → isRow l S.p S.unk.sum → (∀ i v, l[i]? = some v → v = 0 ∨ nearU S.ties S.unk post (i : Nat)) → Q v H'
theorem ok_lrow (T : Tx K mg cT cS) {f : Addr} {fd : FuncData} (d : D K mg "_law_row" s_law_row ["hand", "parts", "post"] f fd) : FnOk P w K mg base CX0 3 f fd ["hand", "parts", "post"] spLRow := by
  obtain ⟨f1, fd1, d1⟩ := T.d_law_allowed
  have G1 := ok_lall (P := P) (w := w) (base := base) T d1
  obtain ⟨f2, fd2, d2⟩ := T.d_law_draw
  have G2 := ok_draw (P := P) (w := w) (base := base) T d2
  obtain ⟨f3, fd3, d3⟩ := T.d_law_any
  have G3 := ok_any (P := P) (w := w) (base := base) T d3
  refine d.F.ok sc_law_row (fun vs H Q E h => ?_) (fun cdv A outer s H vs Q E hr h => ?_)
  · obtain ⟨g, c, a, tv, uv, rv, S, post, n, rfl, _⟩ := h
    rfl
  · obtain ⟨g, c, a, tv, uv, rv, S, post, n, rfl, hP, ok, oh, h0, h1, p2, pm, hh, q⟩ := h
    refine ⟨_, pss_cons (ps_set (i := 3) sc_law_row.nd rfl (.inl rfl) (pe_op op_rep (pe_lst (pa_cons pe_int pa_nil)) (pe_callB (cr_sumT rfl) (by rfl) T.b_sum (by decide +kernel) (pa_cons (pe_dget (hu1 hr) (pv 1) pe_str (fun _ _ => rfl)) pa_nil))))
      (pss_cons (ps_for PassesOwn.never rfl (pi_list (pe_call G1 (hr.mono (by decide)) rfl d1.m d1.F.kp d1.b .nil pass0 (pa_cons (pv 1) (pa_cons (pv 2) pa_nil)))) (pg_name (i := 4) sc_law_row.nd rfl (.inl rfl))
        (pss_one (ps_if (pt_cmpR op_gt (pe_call G2 (hr.mono (by decide)) rfl d2.m d2.F.kp d2.b .nil pass0 (pa_cons (pv 0) (pa_cons pe_int pa_nil))) pe_int (nomark _)) (pss_one (ps_asg (pe_call G3 (hr.mono (by decide)) rfl d3.m d3.F.kp d3.b .nil pass0 (pa_cons (pv 0) (pa_cons (pe_lst (pa_cons pe_int (pa_cons (pe_call G2 (hr.mono (by decide)) rfl d2.m d2.F.kp d2.b .nil pass0 (pa_cons (pv 0) (pa_cons (pe_dget (hu1 hr) (pv 1) pe_str (fun _ _ => rfl)) pa_nil))) (pa_cons (pe_call G2 (hr.mono (by decide)) rfl d2.m d2.F.kp d2.b .nil pass0 (pa_cons (pv 0) (pa_cons (pe_dget (hu1 hr) (pv 1) pe_str (fun _ _ => rfl)) pa_nil))) pa_nil)))) pa_nil))) (pg_sub (pv 3) (pv 4) set_list))) pss_nil)))
      (pss_one (ps_ret (pe_callTy call_tuple_of (by rfl) T.b_tuple (by decide +kernel) (pa_cons (pv 3) pa_nil))))), ?_⟩
    have hnn := sum_nn fun x hx => (oh.b x hx).1
    obtain ⟨wd, hwd⟩ : ∃ wd : Nat, S.unk.sum = (wd : Int) := ⟨S.unk.sum.toNat, by omega⟩
    have hs60 := oh.s
    obtain ⟨tu, eu, htu⟩ := id hP.u
    subst eu
    refine ⟨by show 1 ≤ sizeLine; decide, fun l0 nl0 => ?_⟩
    have s1 := same_new (o := .lst [V.int 0]) nl0
    refine ⟨_, rfl, a, _, rfl, (hP.same s1).gu, tu, S.unk, rfl, .of (s1 _ _ htu), l0, _, _, rfl, rfl, upd_same, by omega, by omega, Nat.le_trans (by show 1 * _ ≤ _; omega : _ ≤ 100) (by decide), fun rw0 nrw => ?_⟩
    have ewd : S.unk.sum.toNat = wd := by omega
    rw [ewd, rep_zero]
    have s2 := same_new (o := .lst ((List.replicate wd (0 : Int)).map V.int)) nrw
    have s12 := s1.trans s2
    have rwg := hand_new (hh.same s1) nrw
    have rw00 : H rw0 = none := s1.free nrw
    refine ⟨_, rfl, _, rfl, a, tv, .ref tu, rv, S, post, n, rfl, hP.same s12, ok, oh, h0, h1, fun H4 r l s4 nr0 hr4 hl hin => ⟨r, rfl, ⟨_, .of hr4⟩, ?_⟩⟩
    have s14 := s12.trans s4
    have hh4 := hh.same s14
    have rg := hand_ints hh4 hr4
    have hrw4 := s4 _ _ (upd_same (H := upd H l0 (.lst [V.int 0])) (a := rw0) (o := .lst ((List.replicate wd (0 : Int)).map V.int)))
    have nrr : r ≠ rw0 := fun e => by rw [e, upd_same] at nr0; cases nr0
    refine for_it (walk_list (xs := l.map V.int)) (fun i σ H' => ∃ x4, ∃ row : List Int, σ = [some (.ref g), some (.ref a), some (.int post), some (.ref rw0), x4] ∧ But g H H' ∧ Hand g c H' ∧ H' r = some (.lst (l.map V.int)) ∧ H' rw0 = some (.lst (row.map V.int)) ∧ isRow row S.p S.unk.sum ∧ ∀ i v, row[i]? = some v → v = 0 ∨ nearU S.ties S.unk post (i : Nat))
      ⟨none, List.replicate wd 0, rfl, s14.but g, hh4, hr4, hrw4, ⟨by rw [List.length_replicate, hwd], fun v hv => by rw [(List.mem_replicate.mp hv).2]; omega⟩, fun i v hv => .inl (List.mem_replicate.mp (List.mem_of_getElem? hv)).2⟩ (fun i σ H' _ h => by obtain ⟨_, _, _, _, _, h, _⟩ := h; exact .of h) ?_ ?_
    · rintro i x σ H5 H6 hi ⟨x4, row, rfl, b5, hh5, hr5, hrw5, ir, nr⟩ ⟨rfl, hx⟩
      obtain ⟨k, hk, rfl⟩ := at_int hx
      have hkn := hin k (List.mem_of_getElem? hk)
      have hkb := near_in (n := n) (ties := S.ties) oh hkn
      obtain ⟨kn, rfl⟩ : ∃ kn : Nat, k = (kn : Int) := ⟨k.toNat, by omega⟩
      have irl := ir.1
      refine ⟨_, rfl, g, c, 3, rfl, by decide, by decide, hh5, fun H7 e b7 hh7 e0 e1 => ⟨_, _, rfl, rfl, _, rfl, ?_⟩⟩
      have b57 := b5.trans b7
      by_cases he : 0 < e
      · rw [decide_eq_true he]
        refine iteT ?_
        refine ⟨_, rfl, _, rfl, _, rfl, a, _, rfl, (hP.but hh b57).gp, g, c, S.p, rfl, by omega, by omega, hh7, fun H8 v1 b8 hh8 v10 v11 => ?_⟩
        have b58 := b57.trans b8
        refine ⟨_, rfl, _, rfl, a, _, rfl, (hP.but hh b58).gp, g, c, S.p, rfl, by omega, by omega, hh8, fun H9 v2 b9 hh9 v20 v21 => ?_⟩
        have b59 := b58.trans b9
        refine ⟨by show 3 ≤ sizeLine; decide, fun lb nlb => ?_⟩
        have s10 := same_new (o := .lst [V.int 1, V.int v1, V.int v2]) nlb
        refine ⟨g, c, lb, _, rfl, upd_same, (hand_new hh9 nlb).1, by show 0 < 3; decide, by show 3 < 1000000; decide, hh9.same s10, fun H11 j y b11 hh11 hy => ?_⟩
        obtain ⟨u, rfl, u0, u1⟩ : ∃ u, y = V.int u ∧ 0 ≤ u ∧ u < S.p := by
          rcases (show j = 0 ∨ j = 1 ∨ j = 2 by have := (List.getElem?_eq_some_iff.mp hy).1; simp only [List.length_cons, List.length_nil] at this; omega) with rfl | rfl | rfl
          · exact ⟨1, (Option.some.inj hy).symm, by omega, by omega⟩
          · exact ⟨v1, (Option.some.inj hy).symm, v10, v11⟩
          · exact ⟨v2, (Option.some.inj hy).symm, v20, v21⟩
        have bz := ((b7.trans b8).trans b9).trans ((s10.but g).trans b11)
        have hrw11 := bz.lst rwg.1 hrw5
        have hr11 := bz.lst rg hr5
        refine ⟨_, rfl, _, rfl, rw0, _, _, kn, rfl, rfl, hrw11, ixN_nat (by rw [List.length_map]; omega), ?_⟩
        refine ⟨_, row.set kn u, rfl, fun a u ha e => ?_, hh11.setD rwg.1 rwg.2, by rw [upd_ne nrr]; exact hr11, by rw [upd_same, List.map_set], ⟨by rw [List.length_set]; exact ir.1, fun v hv => ?_⟩, fun j v hv => ?_⟩
        · rw [upd_ne (fun q => by subst q; rw [rw00] at e; cases e)]
          exact (b5.trans bz) a u ha e
        · rcases List.mem_or_eq_of_mem_set hv with h | h
          · exact ir.2 v h
          · rw [h]; exact ⟨u0, u1⟩
        · rw [List.getElem?_set] at hv
          split at hv
          · rename_i h
            subst h
            exact .inr hkn
          · exact nr j v hv
      · rw [decide_eq_false he]
        exact iteF ⟨_, row, rfl, b57, hh7, b7.lst rg hr5, b7.lst rwg.1 hrw5, ir, nr⟩
    · rintro σ H5 ⟨x4, row, rfl, b5, hh5, hr5, hrw5, ir, nr⟩
      refine ⟨_, rfl, rw0, _, rfl, .inl ⟨.of hrw5, fun t nt => ?_⟩⟩
      have sz := same_new (o := .tup (row.map V.int)) nt
      exact q _ (.ref t) row (b5.trans (sz.but g)) (hh5.same sz) ⟨t, rfl, upd_same⟩ ir nr
end
end S4

namespace S4
open PySem L2 TT MM EE
/-! ### the law's parts, made -/
theorem dr_fin {p : Int} {g c D : Addr} {H3 H4 : Hp} {n : Nat} (pv : PvDr rInt (fun x => 0 ≤ x ∧ x < p) g c D H3 n H4) : ∃ l : List Int, H4 D = some (.lst (l.map V.int)) ∧ l.length = n ∧ (∀ x ∈ l, 0 ≤ x ∧ x < p) ∧ But g H3 H4 ∧ Hand g c H4 := by
  obtain ⟨b4, hh4, ys, l, hD4, hp4, hl4, hf4⟩ := pv
  have := paired_int hp4
  subst this
  exact ⟨l, hD4, hl4, hf4, b4, hh4⟩
theorem atI_last (xs : List V) (y : V) : atI (xs ++ [y]) (-1) = some y := by
  unfold atI ixN
  rw [if_neg (by decide), List.length_append, List.length_singleton, if_pos (by omega)]
  have e : ((-1 : Int) + ((xs.length + 1 : Nat) : Int)).toNat = xs.length := by omega
  rw [e]
  show (xs ++ [y])[xs.length]? = some y
  rw [List.getElem?_append_right (Nat.le_refl _), Nat.sub_self]
  rfl
theorem merge_kvsP (p : Int) (tv uv rv : V) : mergeK [] (kvsP p tv uv rv) = kvsP p tv uv rv := by
  have e1 : putK [] (.inr "p" : Key) (.int p) = [(.inr "p", .int p)] := putK_new _ rfl
  have e2 : putK [((.inr "p" : Key), V.int p)] (.inr "ties") tv = [(.inr "p", .int p), (.inr "ties", tv)] := putK_new _ ((valV_no (by decide +kernel)).trans rfl)
  have e3 : putK [((.inr "p" : Key), V.int p), (.inr "ties", tv)] (.inr "unknowns") uv = [(.inr "p", .int p), (.inr "ties", tv), (.inr "unknowns", uv)] := putK_new _ ((valV_no (by decide +kernel)).trans ((valV_no (by decide +kernel)).trans rfl))
  have e4 : putK [((.inr "p" : Key), V.int p), (.inr "ties", tv), (.inr "unknowns", uv)] (.inr "rules") rv = [(.inr "p", .int p), (.inr "ties", tv), (.inr "unknowns", uv), (.inr "rules", rv)] := putK_new _ ((valV_no (by decide +kernel)).trans ((valV_no (by decide +kernel)).trans ((valV_no (by decide +kernel)).trans rfl)))
  unfold mergeK kvsP
  simp only [List.foldl_cons, List.foldl_nil]
  rw [e1, e2, e3, e4]
theorem put_rules (p : Int) (tv uv rv x : V) : putK (kvsP p tv uv rv) (.inr "rules") x = kvsP p tv uv x := by
  have n1 : ¬ ((.inr "p" : Key) = .inr "rules") := by decide +kernel
  have n2 : ¬ ((.inr "ties" : Key) = .inr "rules") := by decide +kernel
  have n3 : ¬ ((.inr "unknowns" : Key) = .inr "rules") := by decide +kernel
  unfold putK kvsP
  rw [if_pos (by simp only [List.any_cons, decide_true, Bool.true_or, Bool.or_true])]
  simp only [List.map_cons, List.map_nil, if_true]
  rw [if_neg n1, if_neg n2, if_neg n3]
section
variable {P : Program} {w : World} {K : PySem.W.Frag} {mg : Str → Option Value} {base : Heap} {cT cS : Addr}
/-- few rules -/
def few (S : RD) (k : Nat) : Prop := (S.rules.map List.length).sum ≤ k
def spLParts : Sp := fun vs H Q _ => ∃ (g c : Addr) (p : Int) (posts most rules : Nat), vs = [.ref g, .int p, .int (posts : Int), .int (most : Int), .int (rules : Int)] ∧ NoDiv p ∧ 1 ≤ posts ∧ posts ≤ 7 ∧ most ≤ 14 ∧ rules ≤ 4 ∧ Hand g c H ∧
  ∀ H' a tv uv rv S n, But g H H' → Hand g c H' → PDat H' a S tv uv rv → RulesOk S n → S.p = p → n ≤ posts → H a = none → Q (.ref a) H'
theorem ok_lparts (T : Tx K mg cT cS) {f : Addr} {fd : FuncData} (d : D K mg "_law_parts" s_law_parts ["hand", "p", "posts", "most", "rules"] f fd) : FnOk P w K mg base CX0 4 f fd ["hand", "p", "posts", "most", "rules"] spLParts := by
  obtain ⟨f1, fd1, d1⟩ := T.d_law_ties
  have G1 := ok_lties (P := P) (w := w) (base := base) T d1
  obtain ⟨f2, fd2, d2⟩ := T.d_law_any
  have G2 := ok_any (P := P) (w := w) (base := base) T d2
  obtain ⟨f3, fd3, d3⟩ := T.d_law_draw
  have G3 := ok_draw (P := P) (w := w) (base := base) T d3
  obtain ⟨f4, fd4, d4⟩ := T.d_law_row
  have G4 := ok_lrow (P := P) (w := w) (base := base) T d4
  obtain ⟨f5, fd5, d5⟩ := T.d_law_dot
  have G5 := ok_ldot (P := P) (w := w) (base := base) T d5
  refine d.F.ok sc_law_parts (fun vs H Q E h => ?_) (fun cdv A outer s H vs Q E hr h => ?_)
  · obtain ⟨g, c, p, posts, most, rules, rfl, _⟩ := h
    rfl
  · obtain ⟨g, c, p, posts, most, rules, rfl, cl, po1, po6, mo10, ru2, hh, q⟩ := h
    refine ⟨_, pss_cons (ps_set (i := 5) sc_law_parts.nd rfl (.inl rfl) (pe_call G1 (hr.mono (by decide)) rfl d1.m d1.F.kp d1.b .nil pass0 (pa_cons (pv 0) (pa_cons (pv 2) pa_nil))))
      (pss_cons (ps_par (i := 6) (j := 7) (by rfl) sc_law_parts.nd rfl rfl (by decide) rfl rfl (pa_cons (pv 3) (pa_cons (pe_lst pa_nil) pa_nil)) (by rfl))
      (pss_cons (ps_for PassesOwn.never rfl (pi_range1 rfl T.b_range (pa_cons (pe_op op_add (pe_callB call_len_seq (by rfl) T.b_len PySem.boot_len (pa_cons (pv 5) pa_nil)) pe_int) pa_nil)) (pg_name (i := 8) sc_law_parts.nd rfl (.inl rfl))
        (pss_cons (ps_expr (pe_bm PySem.F.plainAttrs_list PySem.F.slot_list_append PySem.F.type_list_append mt_append (pv 7) (pa_cons (pe_callB (call_min2 rfl) (by rfl) T.b_min (by decide +kernel) (pa_cons (pv 6) (pa_cons (pe_call G2 (hr.mono (by decide)) rfl d2.m d2.F.kp d2.b .nil pass0 (pa_cons (pv 0) (pa_cons (pe_lst (pa_cons pe_int (pa_cons pe_int (pa_cons pe_int (pa_cons pe_int (pa_cons pe_int (pa_cons pe_int pa_nil))))))) pa_nil))) pa_nil))) pa_nil)))
      (pss_one (ps_set (i := 6) sc_law_parts.nd rfl (.inl rfl) (pe_op op_sub (pv 6) (pe_ix ix_list (pv 7) (pe_un un_neg pe_int) (fun _ _ => rfl)))))))
      (pss_cons (ps_set (i := 9) sc_law_parts.nd rfl (.inl rfl) (pe_disp (pps_cons pe_str (pv 1) (pps_cons pe_str (pv 5) (pps_cons pe_str (pe_callTy call_tuple_of (by rfl) T.b_tuple (by decide +kernel) (pa_cons (pv 7) pa_nil)) (pps_cons pe_str (pe_tup pa_nil) pps_nil)))) rfl rfl (fun h => nomatch h) (by decide)))
      (pss_cons (ps_par (i := 10) (j := 11) (by rfl) sc_law_parts.nd rfl rfl (by decide) rfl rfl (pa_cons (pe_lc (own := [("place", 16)]) (g := (gName 16)) (tt := tYes) rfl sc_law_parts.nd (pi_range1 rfl T.b_range (pa_cons (pe_callB (cr_sum rfl) (by rfl) T.b_sum (by decide +kernel) (pa_cons (pv 7) pa_nil)) pa_nil)) (blkOk_by (N := N_law_parts) (sc := defScope s_law_parts) (by decide +kernel)) (fun _ _ _ _ _ => (pg_name (i := 16) sc_law_parts.nd rfl (Or.inl rfl))) (fun _ _ _ _ _ => pts_nil)
            (fun _ _ _ _ _ => (pe_call G3 (hr.mono (by decide)) rfl d3.m d3.F.kp d3.b .nil pass0 (pa_cons (pv 0) (pa_cons (pv 1) pa_nil))))) (pa_cons (pe_cmpR op_eq (pe_call G3 (hr.mono (by decide)) rfl d3.m d3.F.kp d3.b .nil pass0 (pa_cons (pv 0) (pa_cons pe_int pa_nil))) pe_int (nomark _)) pa_nil)) (by rfl))
      (pss_cons (ps_for PassesOwn.never rfl (pi_range1 rfl T.b_range (pa_cons (pe_op op_add (pe_callB call_len_seq (by rfl) T.b_len PySem.boot_len (pa_cons (pv 5) pa_nil)) pe_int) pa_nil)) (pg_name (i := 8) sc_law_parts.nd rfl (.inl rfl))
        (pss_cons (ps_set (i := 12) sc_law_parts.nd rfl (.inl rfl) (pe_tup pa_nil))
      (pss_cons (ps_for PassesOwn.never rfl (pi_range1 rfl T.b_range (pa_cons (pe_call G3 (hr.mono (by decide)) rfl d3.m d3.F.kp d3.b .nil pass0 (pa_cons (pv 0) (pa_cons (pe_op op_add (pv 4) pe_int) pa_nil))) pa_nil)) (pg_name (i := 13) sc_law_parts.nd rfl (.inl rfl))
        (pss_cons (ps_set (i := 14) sc_law_parts.nd rfl (.inl rfl) (pe_call G4 (hr.mono (by decide)) rfl d4.m d4.F.kp d4.b .nil pass0 (pa_cons (pv 0) (pa_cons (pv 9) (pa_cons (pv 8) pa_nil)))))
      (pss_cons (ps_set (i := 15) sc_law_parts.nd rfl (.inl rfl) (pe_call G5 (hr.mono (by decide)) rfl d5.m d5.F.kp d5.b .nil pass0 (pa_cons (pv 1) (pa_cons (pv 14) (pa_cons (pv 10) pa_nil)))))
      (pss_cons (ps_if (PW.pt (pw_and (pt_val (pv 11)) (pw_and1 (pt_cmpR op_eq (pe_call G3 (hr.mono (by decide)) rfl d3.m d3.F.kp d3.b .nil pass0 (pa_cons (pv 0) (pa_cons pe_int pa_nil))) pe_int (nomark _))))) (pss_one (ps_set (i := 15) sc_law_parts.nd rfl (.inl rfl) (pe_call G3 (hr.mono (by decide)) rfl d3.m d3.F.kp d3.b .nil pass0 (pa_cons (pv 0) (pa_cons (pv 1) pa_nil))))) pss_nil)
      (pss_one (ps_set (i := 12) sc_law_parts.nd rfl (.inl rfl) (pe_op op_catA (pv 12) (pe_tup (pa_cons (pe_tup (pa_cons (pv 14) (pa_cons (pv 15) pa_nil))) pa_nil)))))))))
      (pss_one (ps_asg (pe_op op_catA (pe_dget (hu1 hr) (pv 9) pe_str (fun _ _ => rfl)) (pe_tup (pa_cons (pv 12) pa_nil))) (pg_sub (pv 9) pe_str (set_dict (hu1 hr))))))))
      (pss_one (ps_ret (pv 9)))))))), ?_⟩
    refine ⟨_, rfl, _, rfl, g, c, posts, rfl, po1, by omega, hh, fun H2 v2 ties n b2 hh2 hv2 tok hn => ?_⟩
    obtain ⟨tt, xs, rfl, htt, hxs⟩ := id hv2
    have hlx := paired_len hxs
    have hn' := tok.ok.len
    have hn24 := tok.ok.n24
    dsimp only [gName, tSeq]
    refine ⟨_, rfl, by show 0 ≤ sizeLine; decide, fun ul nul => ⟨_, _, rfl, ?_⟩⟩
    have s3 := same_new (o := .lst []) nul
    have ulg := hand_new hh2 nul
    have ul0 : H ul = none := b2.free nul ulg.1
    dsimp only [gName, tSeq]
    refine ⟨_, rfl, tt, _, rfl, .inr (.of (s3 _ _ htt)), _, _, rfl, rfl, _, rfl, by omega, by omega, ?_⟩
    have en : ((xs.length : Int) + 1).toNat = n := by omega
    rw [en]
    refine for_it (walk_range (lo := 0) (n := n)) (fun i σ H' => ∃ x8 left, ∃ us : List Int, σ = [some (.ref g), some (.int p), some (.int (posts : Int)), some (.int (most : Int)), some (.int (rules : Int)), some (.ref tt), some (.int left), some (.ref ul), x8, none, none, none, none, none, none, none, none] ∧ But g H H' ∧ Hand g c H' ∧ H' tt = some (.tup xs) ∧ Paired (rPI H') xs ties ∧
      H' ul = some (.lst (us.map V.int)) ∧ us.length = i ∧ (∀ u ∈ us, 0 ≤ u ∧ u < 9) ∧ us.sum + left = most ∧ 0 ≤ left)
      ⟨none, most, [], rfl, b2.trans (s3.but g), hh2.same s3, s3 _ _ htt, paired_mono mono_pi s3.keep hxs, upd_same, rfl, fun _ h => (nomatch h), by simp, by omega⟩ (fun _ _ _ _ _ => trivial) ?_ ?_
    · rintro i x σ H4 H5 hi ⟨x8, left, us, rfl, b5, hh5, htt5, hxs5, hul5, hlu, hub, hsum, hl0⟩ ⟨rfl, rfl⟩
      refine ⟨_, rfl, .inl ⟨rfl, _, .of hul5⟩, ?_⟩
      refine ⟨_, rfl, _, rfl, by show 6 ≤ sizeLine; decide, fun lb nlb => ?_⟩
      have s6 := same_new (o := .lst [V.int 0, V.int 1, V.int 1, V.int 2, V.int 2, V.int 3]) nlb
      refine ⟨g, c, lb, _, rfl, upd_same, (hand_new hh5 nlb).1, by show 0 < 6; decide, by show 6 < 1000000; decide, hh5.same s6, fun H7 j y b7 hh7 hy => ?_⟩
      obtain ⟨u, rfl, u0, u1⟩ : ∃ u, y = V.int u ∧ 0 ≤ u ∧ u < 4 := by
        have hj := (List.getElem?_eq_some_iff.mp hy).1
        simp only [List.length_cons, List.length_nil] at hj
        rcases (show j = 0 ∨ j = 1 ∨ j = 2 ∨ j = 3 ∨ j = 4 ∨ j = 5 by omega) with rfl | rfl | rfl | rfl | rfl | rfl
        · exact ⟨0, (Option.some.inj hy).symm, by decide, by decide⟩
        · exact ⟨1, (Option.some.inj hy).symm, by decide, by decide⟩
        · exact ⟨1, (Option.some.inj hy).symm, by decide, by decide⟩
        · exact ⟨2, (Option.some.inj hy).symm, by decide, by decide⟩
        · exact ⟨2, (Option.some.inj hy).symm, by decide, by decide⟩
        · exact ⟨3, (Option.some.inj hy).symm, by decide, by decide⟩
      have bz := (s6.but g).trans b7
      have hul7 := bz.lst ulg.1 hul5
      refine ⟨_, _, rfl, ?_⟩
      refine ⟨ul, _, _, rfl, rfl, hul7, Nat.lt_of_le_of_lt (by rw [List.length_map]; omega : _ ≤ 1000) (by decide), ?_⟩
      refine ⟨_, rfl, _, rfl, _, rfl, ul, _, _, _, rfl, rfl, .of upd_same, atI_last _ _, _, _, rfl, rfl, ?_⟩
      refine ⟨_, _, us ++ [if u < left then u else left], rfl, fun a u ha e => ?_, hh7.setD ulg.1 ulg.2, ?_, ?_, by rw [upd_same, List.map_append]; rfl, by rw [List.length_append, hlu]; rfl, ?_, ?_, ?_⟩
      · rw [upd_ne (fun q => by subst q; rw [ul0] at e; cases e)]
        exact (b5.trans bz) a u ha e
      · have := (keep_lst (o := .lst (us.map V.int ++ [V.int (if u < left then u else left)])) hul7).tup ((hh5.keep bz).tup htt5)
        exact this
      · exact paired_mono mono_pi ((hh5.keep bz).trans (keep_lst hul7)) hxs5
      · intro v hv
        rcases List.mem_append.mp hv with h | h
        · exact hub v h
        · rw [List.mem_singleton.mp h]
          split <;> omega
      · rw [List.sum_append, List.sum_singleton]
        omega
      · split <;> omega
    · rintro σ H4 ⟨x8, left, us, rfl, b4, hh4, htt4, hxs4, hul4, hlu, hub, hsum, hl0⟩
      have oh : CountsOk us n := ⟨hlu, hub, by omega⟩
      have hus0 := sum_nn fun x hx => (hub x hx).1
      dsimp only [gName, tSeq]
      refine fun pd npd => ⟨_, rfl, _, rfl, _, rfl, ?_⟩
      have s5 := same_new (o := .dK []) npd
      refine ⟨ul, _, rfl, .inl ⟨.of (s5 _ _ hul4), fun tu ntu => ?_⟩⟩
      have s6 := same_new (o := .tup (us.map V.int)) ntu
      refine ⟨by show 0 ≤ sizeLine; decide, fun tr ntr => ?_⟩
      have s7 := same_new (o := .tup []) ntr
      have hpd7 := (s6.trans s7) _ _ (upd_same (H := H4) (a := pd) (o := .dK []))
      refine ⟨hpd7, kvsP p (.ref tt) (.ref tu) (.ref tr), rfl, by show 4 ≤ 15; decide, ?_⟩
      rw [merge_kvsP]
      have pdu : tu ≠ pd := fun e => by rw [e, upd_same] at ntu; cases ntu
      have pdr : tr ≠ pd := fun e => by rw [e, s6 _ _ upd_same] at ntr; cases ntr
      have htu7 := s7 _ _ (upd_same (H := upd H4 pd (.dK [])) (a := tu) (o := .tup (us.map V.int)))
      have htr7 := upd_same (H := upd (upd H4 pd (.dK [])) tu (.tup (us.map V.int))) (a := tr) (o := .tup [])
      have s8 : Same H4 (upd (upd (upd (upd H4 pd (.dK [])) tu (.tup (us.map V.int))) tr (.tup [])) pd (.dK (kvsP p (.ref tt) (.ref tu) (.ref tr)))) := same_own ((s5.trans s6).trans s7) npd
      have hP8 : PDat (upd (upd (upd (upd H4 pd (.dK [])) tu (.tup (us.map V.int))) tr (.tup [])) pd (.dK (kvsP p (.ref tt) (.ref tu) (.ref tr)))) pd ⟨p, ties, us, []⟩ (.ref tt) (.ref tu) (.ref tr) :=
        ⟨upd_same, ⟨tt, xs, rfl, s8 _ _ htt4, paired_mono mono_pi s8.keep hxs4⟩, ⟨tu, rfl, by rw [upd_ne pdu]; exact htu7⟩, ⟨tr, [], rfl, by rw [upd_ne pdr]; exact htr7, .nil⟩⟩
      generalize upd (upd (upd (upd H4 pd (.dK [])) tu (.tup (us.map V.int))) tr (.tup [])) pd (.dK (kvsP p (.ref tt) (.ref tu) (.ref tr))) = H8 at *
      have hh8 := hh4.same s8
      have pdg := hand_new hh4 npd
      have pd0 : H pd = none := b4.free npd pdg.1
      have p2 := cl.1
      have pm := cl.2.1
      have hs60 := oh.s
      refine ⟨_, rfl, ul, us, rfl, .of (s8 _ _ hul4), _, rfl, by omega, by omega, fun D hD => ?_⟩
      refine walk_W (walk_range (lo := 0) (n := us.sum.toNat)) _ (PvDr rInt (fun x => 0 ≤ x ∧ x < p) g c D H8) (dr_start hh8 hD) (fun _ _ _ _ => trivial) ?_ ?_
      · rintro i x H9 H10 hi pv ⟨rfl, rfl⟩
        refine ⟨rfl, _, rfl, _, rfl, g, c, p, rfl, by omega, by omega, pv.2.1, fun H11 e b hh e0 e1 => ?_⟩
        exact dr_keep mono_int hh8 pv hD (by omega) b hh rfl ⟨e0, e1⟩
      rintro H9 pv
      obtain ⟨hid, hD9, lhid, bhid, b9, hh9⟩ := dr_fin pv
      have Dg := hand_new hh8 hD
      have D0 : H D = none := b4.free (s8.free hD) Dg.1
      refine ⟨_, rfl, g, c, 2, rfl, by decide, by decide, hh9, fun H10 e b10 hh10 e0 e1 => ⟨rfl, _, _, rfl, ?_⟩⟩
      have hP10 := (hP8.but hh8 b9).but hh9 b10
      have hD10 := b10.lst Dg.1 hD9
      have t10 := ((b4.trans (s8.but g)).trans b9).trans b10
      generalize decide (V.int e = V.int 0) = sp
      dsimp only [gName, tSeq]
      have htt10 := (hh9.keep b10).tup ((hh8.keep b9).tup (s8 _ _ htt4))
      refine ⟨_, rfl, tt, _, rfl, .inr (.of htt10), _, _, rfl, rfl, _, rfl, by omega, by omega, ?_⟩
      rw [en]
      refine for_it (walk_range (lo := 0) (n := n)) (fun i σ H' => ∃ x8 x12 x13 x14 x15 rv rls, σ = [some (.ref g), some (.int p), some (.int (posts : Int)), some (.int (most : Int)), some (.int (rules : Int)), some (.ref tt), some (.int left), some (.ref ul), x8, some (.ref pd), some (.ref D), some (.bl sp), x12, x13, x14, x15, none] ∧ But g H H' ∧ Hand g c H' ∧
        PDat H' pd ⟨p, ties, us, rls⟩ (.ref tt) (.ref tu) rv ∧ H' D = some (.lst (hid.map V.int)) ∧ (rls : List (List Rule)).length = i ∧ (∀ own ∈ rls, own.length ≤ 4) ∧ ∀ post own, rls[post]? = some own → ∀ r ∈ own, RuleOk p ties us (post : Nat) r)
        ⟨_, none, none, none, none, _, [], rfl, t10, hh10, hP10, hD10, rfl, fun _ h => (nomatch h), fun post own h => by simp at h⟩ (fun _ _ _ _ _ => trivial) ?_ ?_
      · rintro i x σ H11 H12 hi ⟨x8, x12, x13, x14, x15, rv, rls, rfl, b12, hh12, hP12, hD12, hlr, h2, hok⟩ ⟨rfl, rfl⟩
        refine ⟨by show 0 ≤ sizeLine; decide, fun to nto => ?_⟩
        have s13 := same_new (o := .tup []) nto
        dsimp only [gName, tSeq]
        refine ⟨_, rfl, _, rfl, _, _, rfl, rfl, g, c, _, rfl, by omega, by omega, hh12.same s13, fun H14 m b14 hh14 m0 m1 => ⟨_, rfl, by omega, by omega, ?_⟩⟩
        have bb := (s13.but g).trans b14
        have hP14 := hP12.but hh12 bb
        have hD14 := bb.lst Dg.1 hD12
        have hto14 := (hh12.same s13).keep b14 |>.tup (upd_same (H := H12) (a := to) (o := .tup []))
        refine for_it (walk_range (lo := 0) (n := m.toNat)) (fun j σ H' => ∃ v12 x13 x14 x15 own, σ = [some (.ref g), some (.int p), some (.int (posts : Int)), some (.int (most : Int)), some (.int (rules : Int)), some (.ref tt), some (.int left), some (.ref ul), some (.int (0 + (i : Int))), some (.ref pd), some (.ref D), some (.bl sp), some v12, x13, x14, x15, none] ∧ But g H H' ∧ Hand g c H' ∧
          PDat H' pd ⟨p, ties, us, rls⟩ (.ref tt) (.ref tu) rv ∧ H' D = some (.lst (hid.map V.int)) ∧ rOwn H' v12 own ∧ own.length = j ∧ ∀ r ∈ own, RuleOk p ties us (i : Nat) r)
          ⟨.ref to, x13, x14, x15, [], rfl, b12.trans bb, hh14, hP14, hD14, ⟨to, [], rfl, hto14, .nil⟩, rfl, fun _ h => (nomatch h)⟩ (fun _ _ _ _ _ => trivial) ?_ ?_
        · rintro j x σ H15 H16 hj ⟨v12, y13, y14, y15, own, rfl, b16, hh16, hP16, hD16, hown, hlo, hro⟩ ⟨rfl, rfl⟩
          dsimp only [gName, tSeq]
          refine ⟨_, rfl, _, rfl, _, rfl, g, c, pd, .ref tt, .ref tu, rv, ⟨p, ties, us, rls⟩, 0 + (i : Int), n, rfl, hP16, tok.ok, oh, by omega, by omega, p2, pm, hh16, fun H17 v l b17 hh17 hrow hir hnear => ?_⟩
          have hP17 := hP16.but hh16 b17
          have hD17 := b17.lst Dg.1 hD16
          have hll := hir.1
          simp only at hll
          dsimp only [gName, tSeq]
          refine ⟨_, rfl, _, rfl, _, rfl, v, D, p, l, hid, rfl, hrow, hD17, p2, pm, by omega, by omega, hir.2, bhid, fun H18 k s18 k0 k1 => ?_⟩
          dsimp only [gName, tSeq]
          simp only [Int.zero_add] at hnear
          refine ⟨_, rfl, _, rfl, ?_⟩
          cases sp with
          | false =>
            refine iteF (iteF ?_)
            dsimp only [tNext, tSeq]
            refine ⟨_, rfl, _, rfl, _, rfl, by show 2 ≤ sizeLine; decide, fun t2 nt2 => ⟨by show 1 ≤ sizeLine; decide, fun t3 nt3 => ?_⟩⟩
            have q2 := same_new (o := .tup [v, .int k]) nt2
            have q3 := same_new (o := .tup [V.ref t2]) nt3
            have bq := (b17.trans (s18.but g)).trans ((q2.trans q3).but g)
            obtain ⟨to', xo, eo, hto', hxo⟩ := mono_own _ _ _ _ (hh16.keep bq) hown
            subst eo
            have lxo := paired_len hxo
            have hrow2 := mono_row _ _ _ _ ((hh17.keep (s18.but g)).trans (q2.trans q3).keep) hrow
            refine cat_of hto' upd_same (by have h3 : m.toNat ≤ 5 := (by omega); show xo.length + 1 ≤ 10000; omega) fun H20 t4 s20 ht4 => ?_
            refine ⟨_, _, _, _, own ++ [(l, k)], rfl, (b16.trans bq).trans (s20.but g), ((hh17.same s18).same (q2.trans q3)).same s20, (hP16.but hh16 bq).same s20, s20 _ _ (bq.lst Dg.1 hD16), ⟨t4, xo ++ [.ref t2], rfl, ht4, paired_app (paired_mono mono_rule s20.keep hxo) (.cons ⟨t2, v, rfl, s20 _ _ (q3 _ _ upd_same), mono_row _ _ _ _ s20.keep hrow2⟩ .nil)⟩, by rw [List.length_append, hlo]; rfl, fun r' hr' => ?_⟩
            rcases List.mem_append.mp hr' with h | h
            · exact hro r' h
            · rw [List.mem_singleton.mp h]
              exact ⟨hir, k0, k1, hnear⟩
          | true =>
            refine iteT ⟨_, rfl, g, c, 2, rfl, by decide, by decide, hh17.same s18, fun H19 e2 b19 hh19 e20 e21 => ⟨rfl, _, rfl, ?_⟩⟩
            by_cases he : e2 = 0
            · rw [decide_eq_true (by rw [he])]
              refine iteT ⟨_, rfl, _, rfl, g, c, p, rfl, by omega, by omega, hh19, fun H21 k2 b21 hh21 k20 k21 => ?_⟩
              dsimp only [gName, tSeq]
              refine ⟨_, rfl, _, rfl, _, rfl, by show 2 ≤ sizeLine; decide, fun t2 nt2 => ⟨by show 1 ≤ sizeLine; decide, fun t3 nt3 => ?_⟩⟩
              have q2 := same_new (o := .tup [v, .int k2]) nt2
              have q3 := same_new (o := .tup [V.ref t2]) nt3
              have bq := (b17.trans (((s18.but g).trans b19).trans b21)).trans ((q2.trans q3).but g)
              obtain ⟨to', xo, eo, hto', hxo⟩ := mono_own _ _ _ _ (hh16.keep bq) hown
              subst eo
              have lxo := paired_len hxo
              have hrow2 := mono_row _ _ _ _ ((hh17.keep (((s18.but g).trans b19).trans b21)).trans (q2.trans q3).keep) hrow
              refine cat_of hto' upd_same (by have h3 : m.toNat ≤ 5 := (by omega); show xo.length + 1 ≤ 10000; omega) fun H20 t4 s20 ht4 => ?_
              refine ⟨_, _, _, _, own ++ [(l, k2)], rfl, (b16.trans bq).trans (s20.but g), ((hh21).same (q2.trans q3)).same s20, (hP16.but hh16 bq).same s20, s20 _ _ (bq.lst Dg.1 hD16), ⟨t4, xo ++ [.ref t2], rfl, ht4, paired_app (paired_mono mono_rule s20.keep hxo) (.cons ⟨t2, v, rfl, s20 _ _ (q3 _ _ upd_same), mono_row _ _ _ _ s20.keep hrow2⟩ .nil)⟩, by rw [List.length_append, hlo]; rfl, fun r' hr' => ?_⟩
              rcases List.mem_append.mp hr' with h | h
              · exact hro r' h
              · rw [List.mem_singleton.mp h]
                exact ⟨hir, k20, k21, hnear⟩
            · rw [decide_eq_false (fun z => he (V.int.inj z))]
              refine iteF ?_
              dsimp only [tNext, tSeq]
              refine ⟨_, rfl, _, rfl, _, rfl, by show 2 ≤ sizeLine; decide, fun t2 nt2 => ⟨by show 1 ≤ sizeLine; decide, fun t3 nt3 => ?_⟩⟩
              have q2 := same_new (o := .tup [v, .int k]) nt2
              have q3 := same_new (o := .tup [V.ref t2]) nt3
              have bq := (b17.trans ((s18.but g).trans b19)).trans ((q2.trans q3).but g)
              obtain ⟨to', xo, eo, hto', hxo⟩ := mono_own _ _ _ _ (hh16.keep bq) hown
              subst eo
              have lxo := paired_len hxo
              have hrow2 := mono_row _ _ _ _ ((hh17.keep ((s18.but g).trans b19)).trans (q2.trans q3).keep) hrow
              refine cat_of hto' upd_same (by have h3 : m.toNat ≤ 5 := (by omega); show xo.length + 1 ≤ 10000; omega) fun H20 t4 s20 ht4 => ?_
              refine ⟨_, _, _, _, own ++ [(l, k)], rfl, (b16.trans bq).trans (s20.but g), ((hh19).same (q2.trans q3)).same s20, (hP16.but hh16 bq).same s20, s20 _ _ (bq.lst Dg.1 hD16), ⟨t4, xo ++ [.ref t2], rfl, ht4, paired_app (paired_mono mono_rule s20.keep hxo) (.cons ⟨t2, v, rfl, s20 _ _ (q3 _ _ upd_same), mono_row _ _ _ _ s20.keep hrow2⟩ .nil)⟩, by rw [List.length_append, hlo]; rfl, fun r' hr' => ?_⟩
              rcases List.mem_append.mp hr' with h | h
              · exact hro r' h
              · rw [List.mem_singleton.mp h]
                exact ⟨hir, k0, k1, hnear⟩
        · rintro σ H15 ⟨v12, y13, y14, y15, own, rfl, b16, hh16, hP16, hD16, hown, hlo, hro⟩
          refine ⟨_, rfl, pd, _, rfl, hP16.gr, _, rfl, by show 1 ≤ sizeLine; decide, fun t2 nt2 => ?_⟩
          have q2 := same_new (o := .tup [v12]) nt2
          have hP17 := hP16.same q2
          have hown17 := mono_own _ _ _ _ q2.keep hown
          obtain ⟨tr', xr, er, htr', hxr⟩ := id hP17.r
          subst er
          have lxr := paired_len hxr
          refine cat_of htr' upd_same (by show xr.length + 1 ≤ 10000; simp only at lxr; omega) fun H20 t4 s20 ht4 => ?_
          have hP20 := hP17.same s20
          refine ⟨_, rfl, pd, _, rfl, DPut.k (k := .inr "rules") hP20.d (by show 4 < sizeLine; decide), ?_⟩
          rw [put_rules]
          have kt : ∀ t xs, H20 t = some (.tup xs) → (upd H20 pd (.dK (kvsP p (.ref tt) (.ref tu) (.ref t4)))) t = some (.tup xs) := fun t xs h => by
            rw [upd_ne (fun e => by rw [e, hP20.d] at h; cases h)]
            exact h
          have s15 := q2.trans s20
          obtain ⟨tt', xt, et, htt', hxt⟩ := id hP20.t
          have hr20 : rRls (upd H20 pd (.dK (kvsP p (.ref tt) (.ref tu) (.ref t4)))) (.ref t4) (rls ++ [own]) :=
            ⟨t4, xr ++ [v12], rfl, kt _ _ ht4, paired_app (Paired.mapP (paired_mono mono_own s20.keep hxr) fun _ _ q => own_kt kt q) (.cons (own_kt kt (mono_own _ _ _ _ s20.keep hown17)) .nil)⟩
          refine ⟨_, _, _, _, _, _, rls ++ [own], rfl, fun a u ha e => ?_, ((hh16.same s15)).setD pdg.1 pdg.2, ⟨upd_same, ⟨tt', xt, et, kt _ _ htt', Paired.mapP hxt fun _ _ q => pi_kt kt q⟩, row_kt kt hP20.u, hr20⟩, ?_, by rw [List.length_append, hlr]; rfl, ?_, ?_⟩
          · rw [upd_ne (fun q => by subst q; rw [pd0] at e; cases e)]
            exact (b16.trans (s15.but g)) a u ha e
          · rw [upd_ne (fun e => by rw [e, hP16.d] at hD16; cases hD16)]
            exact s15 _ _ hD16
          · intro o ho
            rcases List.mem_append.mp ho with h | h
            · exact h2 o h
            · rw [List.mem_singleton.mp h]; omega
          · intro post o ho
            by_cases hp : post < rls.length
            · rw [List.getElem?_append_left hp] at ho
              exact hok post o ho
            · rw [List.getElem?_append_right (by omega)] at ho
              have h0 : post - rls.length = 0 := by have := (List.getElem?_eq_some_iff.mp ho).1; rw [List.length_singleton] at this; omega
              rw [h0] at ho
              have e1 : post = i := by omega
              cases (Option.some.inj ho)
              rw [e1]
              exact hro
      · rintro σ H11 ⟨x8, x12, x13, x14, x15, rv, rls, rfl, b12, hh12, hP12, hD12, hlr, h2, hok⟩
        have h12 : (rls.map List.length).sum ≤ 4 * rls.length := by
          clear hok hP12 hlr
          induction rls with
          | nil => exact Nat.zero_le _
          | cons a l ih =>
            have h1 := h2 a (by simp)
            have h3 := ih fun own h => h2 own (by simp [h])
            rw [List.map_cons, List.sum_cons, List.length_cons]
            omega
        refine ⟨_, rfl, q H11 pd _ _ _ ⟨p, ties, us, rls⟩ n b12 hh12 hP12 ⟨tok, cl, oh, hlr, fun own h => by have := h2 own h; omega, ?_, hok⟩ rfl hn pd0⟩
        · show (rls.map List.length).sum ≤ 60
          omega
end
end S4

/-! one != other: tuples that hold instances, instances with an own == -/
namespace GQ
open PySem PySem.SeqAt
open AutoSeq1 (wpAny_loadPart')
open MeetsSeq MeetsSeq2 MeetsSeq3 SeqRoads2
section
variable {prog : Program} {w : World} {A : Around} {R : Result → Shared → Prop}
theorem tuple_neG (l b : Addr) (items items2 : Array Value) (n n2 : Nat) (dd dd2 : Option Addr) (sl sl2 : Array (Option Value)) (hsz : items.size = items2.size) (I : Nat → Shared → Prop)
    (turn : ∀ i (h1 : i < items.size) (h2 : i < items2.size) s, I i s → wpAny (model prog w) A.in1 (eqBool items[i] items2[i]) (fun r s' => r = true ∧ I (i + 1) s') (fun e s' => R (.error e) s') s)
    (fin : ∀ s, I items.size s → R (.ok (.ret (.bool false))) s) {s : Shared} (hl1 : s.heap.get? l = some { cls := .type "tuple", dict := dd, data := .seq items n, slots := sl }) (hb1 : s.heap.get? b = some { cls := .type "tuple", dict := dd2, data := .seq items2 n2, slots := sl2 }) (h : I 0 s) :
    wpAny (model prog w) A.in1 (Builtin.«tuple.__ne__» ⟨[.ref l, .ref b], []⟩) (FinOf prog w A R) (fun e s' => R (.error e) s') s := by
  have f2 := AutoSeq1.sub_tuple_tuple
  have hZ : (items.toList.zip items2.toList).length = items.size := by simp [hsz]
  have h0 := h
  obtain ⟨hp, g, d, tk, os⟩ := s
  wp_walk using wpAny_loadPart' hl1, wpAny_loadPart' hb1, wpAny_forIn_list _ (fun rest b s' => b.1 = none ∧ ∃ i, rest = (items.toList.zip items2.toList).drop i ∧ i ≤ items.size ∧ I i s') _
  case turn =>
    rintro ⟨y, x⟩ rest b s' ⟨hb', i, hz, hi, hI⟩
    have hlt : i < (items.toList.zip items2.toList).length := by
      rcases Nat.lt_or_ge i (items.toList.zip items2.toList).length with h' | h'
      · exact h'
      · rw [List.drop_of_length_le h'] at hz; cases hz
    have h1 : i < items.size := hZ ▸ hlt
    have h2 : i < items2.size := hsz ▸ h1
    rw [List.drop_eq_getElem_cons hlt] at hz
    injection hz with hyx hrest
    have hy : y = items[i] := by have := congrArg Prod.fst hyx; simpa using this
    have hx : x = items2[i] := by have := congrArg Prod.snd hyx; simpa using this
    subst hy hx
    refine wpAny_bind (wpAny_mono (turn i h1 h2 s' hI) (fun r s2 q2 => ?_) fun _ _ x => x)
    obtain ⟨hr, q2⟩ := q2
    subst hr
    wp_walk
    exact ⟨rfl, i + 1, hrest, h1, q2⟩
  case fin =>
    rintro ⟨b1, b2⟩ s' ⟨hb', i, hz, hi, hI⟩
    simp only at hb'
    subst hb'
    have hge : items.size ≤ i := by
      rcases Nat.lt_or_ge i (items.toList.zip items2.toList).length with h' | h'
      · rw [List.drop_eq_getElem_cons h'] at hz; cases hz
      · exact hZ ▸ h'
    have hi' : i = items.size := by omega
    have hR : R (.ok (.ret (.bool false))) s' := fin s' (hi' ▸ hI)
    wp_walk
    simpa [Builtin.Tuple.tupleCompareSizes, hsz] using hR
  case h =>
    exact ⟨rfl, 0, rfl, Nat.zero_le _, h0⟩
end
section
variable {prog : Program} {w : World} {A : Around} {E : Value → Shared → Prop} {s : Shared}
theorem rcn_tupG {l b : Addr} {items items2 : Array Value} {Q : Value → Shared → Prop} (hsz : items.size = items2.size) (hu : A.units < cLine) (I : Nat → Shared → Prop)
    (hl : s.heap.IsTuple l items) (hb : s.heap.IsTuple b items2)
    (turn : ∀ i (h1 : i < items.size) (h2 : i < items2.size) s, I i s → wpAny (model prog w) A.in1 (eqBool items[i] items2[i]) (fun r s' => r = true ∧ I (i + 1) s') E s)
    (fin : ∀ s, I items.size s → Q (.bool false) s) (h : I 0 s) : wpAny (model prog w) A (richCompare .NotEq (.ref l) (.ref b)) Q E s := by
  obtain ⟨⟨cls, dd, data, sl⟩, ho, hc, n, hd⟩ := id hl
  obtain ⟨⟨cls2, dd2, data2, sl2⟩, ho2, hc2, n2, hd2⟩ := id hb
  simp only at hc hd hc2 hd2
  subst hc hd hc2 hd2
  refine wpAny_richCompare_same_room (op := .NotEq) ⟨_, ho, rfl⟩ ⟨_, ho2, rfl⟩ F.slot_tuple_ne (call_here F.slot_tuple_ne ⟨_, ho, rfl⟩ F.entry_tuple_ne (F.args_tuple_ne_2 _ _) ?_) hu
  exact tuple_neG (R := wants (fun v s' => v ≠ .notImplemented ∧ Q v s') E) l b items items2 n n2 dd dd2 sl sl2 hsz I turn (fun s' q => ⟨(fun x => nomatch x), fin s' q⟩) ho ho2 h
end
end GQ

namespace PySem.W
open PySem PySem.Calls PyProof.Rows
theorem on_bind (self : Value) : bindSpecial (.builtin "object.__ne__") self = pure (.builtin "object.__ne__", [self]) :=
  (Slot.of (T := "object") (name := "__ne__") (owner := "object") (n := "__ne__") (by rw [typeLookup_type, builtinLookup_eq_fast]; kernel_rfl) (by decide +kernel) (by decide +kernel) (by decide +kernel)
    (.inl (by decide +kernel)) (by rw [isSubtype_type]; kernel_rfl)).bind self
theorem entry_on : entryFor table "object.__ne__" = some Builtin.«object.__ne__» := entryFor_of_tree (by kernel_rfl)
theorem on_plain : plainId "object.__ne__" = true := by decide +kernel
theorem on_kind : builtinKind "object.__ne__" = some .slot := by decide +kernel
theorem on_split : splitId "object.__ne__" = some ("object", "__ne__") := by decide +kernel
theorem on_args (a b : Value) : argsOk "object.__ne__" ⟨[a, b], []⟩ := by unfold argsOk; kernel_rfl
section
variable {prog : Program} {w : World} {A : Around} {E : Value → Shared → Prop} {s : Shared} {K : Frag} {x C L f : Addr} {h₀ : Heap} {m : Str → Option Value} {ox : Obj} {od : Option Obj} {name : Str} {b tb : Value}
theorem ifBound_B {M : Model} {args : List Value} {id : String} {Q : Option Value → Shared → Prop} (X : K.In s.heap) (I : InstAt s.heap x ox C od) (hs : findIn K (.ref C) name = some (some (.builtin id))) (hbi : ∀ self, bindSpecial (.builtin id) self = pure (.builtin id, [self]))
    (h : wpAny M A (call (.builtin id) (.ref x :: args)) (fun v => Q (some v)) E s) : wpAny M A (callSpecialIfBound? (.ref x) name args) Q E s := by
  simp only [callSpecialIfBound?, bindSpecialIfBound?]
  refine wpAny_holding (wpAny_bind (wpAny_bind (wpAny_bind (I.type.here ((looks_findIn X hs).here ?_)))))
  refine wpAny_bind (wpAny_askSetting (wpAny_ite ?_))
  have fin : wpAny M A (call (.builtin id) ([.ref x] ++ args) >>= fun v => pure (some v)) Q E s := wpAny_bind (wpAny_mono h (fun v s' h' => wpAny_pure h') fun _ _ h' => h')
  split
  · rw [hbi]; exact wpAny_bind (wpAny_pure (wpAny_pure (by exact fin)))
  · rw [hbi]; exact wpAny_tryCatch (wpAny_bind (wpAny_pure (wpAny_pure (by exact fin))))
theorem ne_body {Q : Value → Shared → Prop} (hu1 : A.in1.units < cLine) (X : K.In s.heap) (I : InstAt s.heap x ox C od) (hob : subIn K (.ref C) (.type "object") = some true)
    (hs : findIn K (.ref C) "__eq__" = some (some (.ref f))) (hf : isFn K (.ref f) = true)
    (h : wpAny (model prog w) A.in1 (call (.ref f) [.ref x, b]) (fun v s' => ∃ c, v = .bool c ∧ Q (.bool (!c)) s') E s) : wpAny (model prog w) A (call (.builtin "object.__ne__") [.ref x, b]) Q E s := by
  refine wpAny_call (codeAny_call_builtin on_plain entry_on (@check_slot (model prog w) _ _ _ "object.__ne__" "object" "__ne__" (.ref x) [b] [] _ on_kind on_split (I.type.andThen (looks_subIn X hob)) (on_args (.ref x) b) ?_))
  have hb2 : wpAny (model prog w) A.in1 (callSpecialIfBound? (.ref x) "__eq__" [b]) (fun r s' => ∃ c, r = some (.bool c) ∧ Q (.bool (!c)) s') E s :=
    ifBound_K X I hs hf (wpAny_mono h (fun v s' ⟨c, e, q⟩ => ⟨c, by rw [e], q⟩) fun _ _ e => e)
  show wpAny (model prog w) A.in1 (do
    cRoomFor "comparison" [.ref x, b]
    match ← callSpecialIfBound? (.ref x) "__eq__" [b] with
    | some .notImplemented | none => ret .notImplemented
    | some r => ret (.bool (!(← truthy r)))) _ _ s
  refine wpAny_bind (wpAny_cRoomFor hu1 (wpAny_bind (wpAny_mono hb2 (fun r s' z => ?_) fun _ _ e => e)))
  obtain ⟨c, rfl, q⟩ := z
  refine wpAny_bind ?_
  show wpAny (model prog w) A.in1 (pure c) _ _ _
  exact wpAny_pure (wpAny_pure q)
theorem cmpNe_K {Q : Value → Shared → Prop} (hu : A.units < cLine) (hu1 : A.in1.units < cLine) (F : Fr h₀ L s.heap m) (X₀ : K.In h₀) (I : InstAt s.heap x ox C od) (hb : Looks (model prog w) s.heap (typeOf b) tb) (hn : notFirst K C tb = true)
    (ho : findIn K (.ref C) "__ne__" = some (some (.builtin "object.__ne__"))) (hob : subIn K (.ref C) (.type "object") = some true)
    (hs : findIn K (.ref C) "__eq__" = some (some (.ref f))) (hf : isFn K (.ref f) = true)
    (h : wpAny (model prog w) A.in1 (call (.ref f) [.ref x, b]) (fun v s' => ∃ c, v = .bool c ∧ Q (.bool (!c)) s') E s) : wpAny (model prog w) A (richCompare .NotEq (.ref x) b) Q E s := by
  have X := X₀.keeps F.keep
  have one : wpAny (model prog w) A (tryCompare (.ref x) "__ne__" b) (fun r s' => ∃ v, r = some v ∧ Q v s') E s := by
    unfold tryCompare
    refine wpAny_bind (ifBound_B X I ho on_bind (ne_body (Q := fun v s' => ∃ c, v = .bool c ∧ Q (.bool c) s') hu1 X I hob hs hf (wpAny_mono h (fun v s' ⟨c, e, q⟩ => ⟨c, e, _, rfl, q⟩) fun _ _ e => e) |> fun z => wpAny_mono z (fun v s' hv => ?_) fun _ _ e => e))
    obtain ⟨c, rfl, q⟩ := hv
    exact wpAny_pure ⟨_, rfl, q⟩
  unfold richCompare
  simp only [oneThing_ref]
  refine wpAny_holding (wpAny_bind (wpAny_cRoomFor hu ?_))
  refine wpAny_bind (I.type.here (wpAny_bind (hb.here ?_)))
  split
  · rename_i q
    have e : subIn K tb (.ref C) = some false := by
      rcases Bool.or_eq_true_iff.mp hn with e | e
      · rw [beq_iff_eq.mp e] at q; simp at q
      · exact beq_iff_eq.mp e
    refine wpAny_bind ((looks_subIn X e).here ?_)
    simp only [Bool.false_eq_true, if_false]
    refine wpAny_bind (wpAny_mono one (fun r s' z => ?_) fun _ _ e => e)
    obtain ⟨v, rfl, hq⟩ := z
    exact wpAny_pure hq
  · refine wpAny_bind (wpAny_pure ?_)
    simp only [Bool.false_eq_true, if_false]
    refine wpAny_bind (wpAny_mono one (fun r s' z => ?_) fun _ _ e => e)
    obtain ⟨v, rfl, hq⟩ := z
    exact wpAny_pure hq
end
end PySem.W
namespace L2
open PySem
/-- != gives False for what D says, and only makes objects -/
def RcNG (X : Cx) (n : Nat) (D : Eqv) : Prop :=
  ∀ (A : Around) (pins : List (Addr × Obj)) (s : Shared) (σ : St) (H : Hp) (x y : V) (u v : Value), Sub X n A → Inv X pins σ H s → RelV x u → RelV y v → D x y H →
    wpAny (model X.prog X.w) A (richCompare .NotEq u v) (fun r s' => r = .bool false ∧ ∃ H', Inv X pins σ H' s' ∧ Ext H H') X.xe s
section
variable {X : Cx} {n m : Nat} {D D' : Eqv}
theorem rcN_tup (hD : Mon D) (h : EqG X n D) : RcNG X (n + 1) (DTup X.K D) := by
  intro A pins s σ H x y u v sb I rx ry d
  obtain ⟨a, b, xs, ys, rfl, rfl, ha, hb, p⟩ := d
  cases rx
  cases ry
  obtain ⟨its, r, e, z⟩ := I.tuple ha
  obtain ⟨its2, r2, e2, z2⟩ := I.tuple hb
  have hsz : its.toArray.size = its2.toArray.size := by rw [List.size_toArray, List.size_toArray, ← r.length, ← r2.length]; exact p.1
  exact GQ.rcn_tupG hsz sb.room.units0 (fun _ s' => LoopI X pins σ H s') e e2 (fun i h1 h2 s' q => turnG hD h sb p r r2 i h1 h2 s' q) (fun s' q => ⟨rfl, q⟩) ⟨H, I, Ext.rfl'⟩
theorem rcN_ins {CX : CXT} {C f : Addr} {fd : FuncData} {ps : List Str} {R : Addr → Addr → Hp → Prop} {E : XK} (F : FnOk X.prog X.w X.K X.mg X.base CX n f fd ps (spEq R))
    (ho : PySem.W.findIn X.K (.ref C) "__ne__" = some (some (.builtin "object.__ne__"))) (hob : PySem.W.subIn X.K (.ref C) (.type "object") = some true)
    (hs : PySem.W.findIn X.K (.ref C) "__eq__" = some (some (.ref f))) (hf : PySem.W.isFn X.K (.ref f) = true) (hb : Binds X.K fd ps []) (hx : Passes CX X E) : RcNG X (n + 1) (DIns C R) := by
  intro A pins s σ H x y u v sb0 I rx ry d
  have sb := sb0.in1
  obtain ⟨a, b, dx, dy, fs, gs, rfl, rfl, ha, hb', hr⟩ := d
  cases rx
  cases ry
  obtain ⟨mA, J, _⟩ := ins_get I.hok ha
  obtain ⟨mB, J', _⟩ := ins_get I.hok hb'
  obtain ⟨od, J, _⟩ := J.look
  obtain ⟨od', J', _⟩ := J'.look
  obtain ⟨m, hF⟩ := I.fr
  refine PySem.W.cmpNe_K (tb := .ref C) sb0.room.units0 sb.room.units0 hF I.ok.mod.kin J J'.type (by simp [PySem.W.notFirst]) ho hob hs hf ?_
  have hsp : spEq R [.ref a, .ref b] H (fun v H' => v = .bl true ∧ Ext H H') E := ⟨a, b, rfl, hr, fun H' e => ⟨rfl, e⟩⟩
  have e0 : Env0 X.prog X.w X.K X.mg X.base A.in1 X.stack s H := by
    have e := I.env0
    exact ⟨by rw [sb.fr]; exact e.frames, e.mod, e.bs, e.bsz, e.funs, e.frf, e.hok, e.bare⟩
  have hl := F.len _ _ _ _ hsp
  have r2 : Vals [V.ref a, V.ref b] [Value.ref a, Value.ref b] := .cons rfl (.cons rfl .nil)
  refine wpAny_call (codeAny_mono (F.run A.in1 X.stack s H ⟨[.ref a, .ref b], []⟩ [.ref a, .ref b] [.ref a, .ref b] _ E sb.room e0 (by
    have := hb s [.ref a, .ref b] I.kIn (by simpa using hl)
    simpa using this) r2 hsp) fun r s' hq => ?_)
  cases r with
  | error e => exact hx pins σ H s e s' I hq
  | ok fl =>
    cases fl with
    | ret w =>
      obtain ⟨z, H', I', rz, ez, ex⟩ := I.after hq
      subst ez
      cases rz
      exact ⟨true, rfl, rfl, H', I', ex⟩
    | next => exact False.elim hq
    | brk => exact False.elim hq
    | cont => exact False.elim hq
/-- x != y as an expression, the two equal -/
def rNeG (D : Eqv) : R2 := fun x y H Q => D x y H ∧ ∀ H', Ext H H' → Q (.bl false) H'
theorem op_neG (h : RcNG X n D) (hr : Room n X.A) : OpR X (compareOp .NotEq) (rNeG D) := by
  intro pins s σ H x y v u Q I rx ry hq
  obtain ⟨d, q⟩ := hq
  show wpAny (model X.prog X.w) X.A (richCompare .NotEq v u) (EP X pins σ Q) X.xe s
  refine wpAny_mono (h X.A pins s σ H x y v u ⟨hr, rfl⟩ I rx ry d) (fun r s' z => ?_) fun _ _ x => x
  obtain ⟨hr', H', I', e⟩ := z
  subst hr'
  exact ⟨.bl false, H', I', rfl, q H' e⟩
end
end L2

namespace S4
open PySem L2 TT MM
/-! ### data to compare -/
def Shp (n : Nat) (d : PyData) : Prop := PyData.canLay0 d = true ∧ PyData.depth d ≤ n
theorem Shp.int (i : Int) : Shp 0 (.int i) := ⟨by simp [PyData.canLay0], by simp [PyData.depth]⟩
theorem Shp.mono {n m : Nat} {d : PyData} (h : Shp n d) (hm : n ≤ m) : Shp m d := ⟨h.1, Nat.le_trans h.2 hm⟩
theorem shp_all {n : Nat} : ∀ {l : List PyData}, (∀ x ∈ l, Shp n x) → PyData.canLayAll0 l = true ∧ PyData.depthAll l ≤ n
  | [], _ => ⟨by simp [PyData.canLayAll0], by simp [PyData.depthAll]⟩
  | x :: l, h => by
    obtain ⟨h1, h2⟩ := shp_all (l := l) fun y hy => h y (by simp [hy])
    obtain ⟨h3, h4⟩ := h x (by simp)
    exact ⟨by simp [PyData.canLayAll0, h1, h3], by simp only [PyData.depthAll]; omega⟩
theorem Shp.tup {n : Nat} {l : List PyData} (h : ∀ x ∈ l, Shp n x) : Shp (n + 1) (.tuple l) := by
  obtain ⟨h1, h2⟩ := shp_all h
  exact ⟨by simp only [PyData.canLay0]; exact h1, by simp only [PyData.depth]; omega⟩
theorem Shp.lst {n : Nat} {l : List PyData} (h : ∀ x ∈ l, Shp n x) : Shp (n + 1) (.list l) := by
  obtain ⟨h1, h2⟩ := shp_all h
  exact ⟨by simp only [PyData.canLay0]; exact h1, by simp only [PyData.depth]; omega⟩
theorem Shp.ok {n : Nat} {d : PyData} (h : Shp n d) (hn : n ≤ 64) : SeqAt.shaped d = true := by
  show (PyData.canLay0 d && decide (PyData.depth d ≤ 64)) = true
  rw [Bool.and_eq_true]
  exact ⟨h.1, decide_eq_true (Nat.le_trans h.2 hn)⟩
/-- data in the heap, told apart by == -/
structure Enc {α : Type} (R : Rp α) (enc : α → PyData) (n : Nat) : Prop where
  eq : ∀ a b, PyData.eqv (enc a) (enc b) = true ↔ a = b
  shp : ∀ a, Shp n (enc a)
  dp : ∀ (K : PySem.W.Frag) (H : Hp) (v : V) (a : α), R H v a → Dp K H v (enc a)
theorem eqvAll_iff {α : Type} {enc : α → PyData} (h : ∀ a b, PyData.eqv (enc a) (enc b) = true ↔ a = b) : ∀ l m : List α, PyData.eqvAll (l.map enc) (m.map enc) = true ↔ l = m
  | [], [] => by simp [PyData.eqvAll]
  | [], b :: m => by simp [PyData.eqvAll]
  | a :: l, [] => by simp [PyData.eqvAll]
  | a :: l, b :: m => by
    rw [List.map_cons, List.map_cons]
    simp only [PyData.eqvAll, Bool.and_eq_true]
    rw [h, eqvAll_iff h l m, List.cons.injEq]
theorem int_iff (a b : Int) : PyData.eqv (.int a) (.int b) = true ↔ a = b := by simp [PyData.eqv]
theorem enc_int : Enc rInt PyData.int 0 := ⟨int_iff, Shp.int, fun K H v a h => by rw [show v = .int a from h]; exact .int a⟩
theorem enc_tup {α : Type} {R : Rp α} {enc : α → PyData} {n : Nat} (E : Enc R enc n) : Enc (rTup R) (fun l => .tuple (l.map enc)) (n + 1) := by
  refine ⟨fun a b => ?_, fun a => .tup fun x hx => ?_, fun K H v a ⟨t, xs, e, h, p⟩ => ?_⟩
  · simp only [PyData.eqv]
    exact eqvAll_iff E.eq a b
  · obtain ⟨y, _, rfl⟩ := List.mem_map.mp hx
    exact E.shp y
  · subst e
    refine .tup (.of h) ?_
    clear h
    have go : ∀ {xs : List V} {l : List α}, Paired (R H) xs l → DpAll K H xs (l.map enc) := fun p => by
      induction p with
      | nil => exact .nil
      | cons r t ih => exact .cons (E.dp K H _ _ r) ih
    exact go p
theorem enc_row : Enc rRow (fun l => .tuple (l.map PyData.int)) 1 := by
  refine ⟨fun a b => ?_, fun a => .tup fun x hx => ?_, fun K H v a ⟨t, e, h⟩ => ?_⟩
  · simp only [PyData.eqv]
    exact eqvAll_iff int_iff a b
  · obtain ⟨y, _, rfl⟩ := List.mem_map.mp hx
    exact .int y
  · subst e
    refine .tup (.of h) ?_
    have go : ∀ l : List Int, DpAll K H (l.map V.int) (l.map PyData.int) := fun l => by
      induction l with
      | nil => exact .nil
      | cons r t ih => exact .cons (.int _) ih
    exact go a
theorem enc_pi : Enc rPI (fun z => .tuple [.int z.1, .int z.2]) 1 := by
  refine ⟨fun a b => ?_, fun a => .tup fun x hx => ?_, fun K H v a ⟨t, e, h⟩ => ?_⟩
  · simp only [PyData.eqv, PyData.eqvAll, Bool.and_true, Bool.and_eq_true]
    exact ⟨fun h => Prod.ext (by simpa using h.1) (by simpa using h.2), fun h => by subst h; simp⟩
  · simp only [List.mem_cons, List.not_mem_nil, or_false] at hx
    rcases hx with rfl | rfl <;> exact .int _
  · subst e
    exact .tup (.of h) (.cons (.int _) (.cons (.int _) .nil))
theorem enc_rule : Enc rRule (fun r => .tuple [.tuple (r.1.map PyData.int), .int r.2]) 2 := by
  refine ⟨fun a b => ?_, fun a => .tup fun x hx => ?_, fun K H v a ⟨t, y, e, h, r⟩ => ?_⟩
  · have h1 := enc_row.eq a.1 b.1
    simp only [PyData.eqv] at h1
    simp only [PyData.eqv, PyData.eqvAll, Bool.and_true, Bool.and_eq_true]
    rw [h1]
    exact ⟨fun h => Prod.ext h.1 (by simpa using h.2), fun h => by subst h; simp⟩
  · simp only [List.mem_cons, List.not_mem_nil, or_false] at hx
    rcases hx with rfl | rfl
    · exact enc_row.shp _
    · exact (Shp.int _).mono (by omega)
  · subst e
    exact .tup (.of h) (.cons (enc_row.dp K H _ _ r) (.cons (.int _) .nil))
section
variable {α : Type} {R : Rp α} {enc : α → PyData} {n : Nat} {K : PySem.W.Frag} {H : Hp} {x y : V} {a b : α} {Q : VK}
theorem Enc.eqD (E : Enc R enc n) (hn : n ≤ 64) (hx : R H x a) (hy : R H y b) [d : Decidable (a = b)] (q : Q (.bl (decide (a = b))) H) : rEqD K x y H Q := by
  refine ⟨_, _, E.dp K H _ _ hx, E.dp K H _ _ hy, (E.shp a).ok hn, (E.shp b).ok hn, ?_⟩
  rw [show PyData.eqv (enc a) (enc b) = decide (a = b) from by rw [Bool.eq_iff_iff, E.eq, decide_eq_true_iff]]
  exact q
theorem Enc.neD (E : Enc R enc n) (hn : n ≤ 64) (hx : R H x a) (hy : R H y b) [d : Decidable (a = b)] (q : Q (.bl (!decide (a = b))) H) : rNeD K x y H Q := by
  refine ⟨_, _, E.dp K H _ _ hx, E.dp K H _ _ hy, (E.shp a).ok hn, (E.shp b).ok hn, ?_⟩
  rw [show PyData.eqv (enc a) (enc b) = decide (a = b) from by rw [Bool.eq_iff_iff, E.eq, decide_eq_true_iff]]
  exact q
end
end S4

namespace S4
open PySem L2 TT MM EE
/-! ### == of trees, of rules -/
section
variable {P : Program} {w : World} {K : PySem.W.Frag} {mg : Str → Option Value} {base : Heap} {cT cS : Addr}
def spEqTree (cT : Addr) : Sp := fun vs H Q _ => ∃ (u v : V) (t1 t2 : List (Int × Int)), vs = [u, v] ∧ rTree cT H u t1 ∧ rTree cT H v t2 ∧ Q (.bl (decide (t1 = t2))) H
theorem ok_eqTree (T : Tx K mg cT cS) {f : Addr} {fd : FuncData} (d : DM K "__eq__" "Tree.__eq__" s_Tree_eq ["self", "other"] cT f fd) : FnOk P w K mg base CX0 1 f fd ["self", "other"] (spEqTree cT) := by
  obtain ⟨fT, fdT, kT⟩ := T.k_Tree
  have nt : NoAttr K cT "ties" := kT.na _ (by simp)
  refine d.F.ok sc_Tree_eq (fun vs H Q E h => ?_) (fun cdv A outer s H vs Q E hr h => ?_)
  · obtain ⟨u, v, t1, t2, rfl, _⟩ := h
    rfl
  · obtain ⟨u, v, t1, t2, rfl, ⟨a, dx, t, xs, rfl, h1, h2, h3⟩, ⟨a2, dx2, tt2, xs2, rfl, g1, g2, g3⟩, q⟩ := h
    refine ⟨_, pss_one (ps_ret (pe_and (pe_callB (C8.call_isC T.i_Tree) (by rfl) T.b_isinstance (by decide +kernel) (pa_cons (pv 1) (pa_cons (pe_glob (v := .ref cT) rfl kT.m rfl) pa_nil)))
      (pe_one (pe_cmpR (op_eqD (hu64 hr)) (pe_fld (pv 0) rfl) (pe_fld (pv 1) rfl) (nomark _))))), ?_⟩
    refine ⟨_, rfl, a2, dx2, _, rfl, g1, _, rfl, iteT ?_⟩
    refine ⟨_, rfl, a, cT, dx, _, _, rfl, h1, kT.cl, nt, tfs_ties _ _, _, rfl, a2, cT, dx2, _, _, rfl, g1, kT.cl, nt, tfs_ties _ _, ?_⟩
    exact (enc_tup enc_pi).eqD (by decide) ⟨t, xs, rfl, h2, h3⟩ ⟨tt2, xs2, rfl, g2, g3⟩ q
def rdEq (S1 S2 : RD) : Bool := decide (S1.p = S2.p) && (decide (S1.ties = S2.ties) && (decide (S1.unk = S2.unk) && decide (S1.rules = S2.rules)))
def spEqRules (cT : Addr) (mg : Str → Option Value) : Sp := fun vs H Q _ => ∃ (u v : V) (S1 S2 : RD), vs = [u, v] ∧ rRO cT mg H u S1 ∧ rRO cT mg H v S2 ∧ Q (.bl (rdEq S1 S2)) H
theorem ok_eqRules (T : Tx K mg cT cS) {f : Addr} {fd : FuncData} (d : DM K "__eq__" "Rules.__eq__" s_Rules_eq ["self", "other"] (adr mg "Rules") f fd) : FnOk P w K mg base CX0 2 f fd ["self", "other"] (spEqRules cT mg) := by
  obtain ⟨fT, fdT, kT⟩ := T.k_Tree
  obtain ⟨fR, fdR, kR⟩ := T.k_Rules
  obtain ⟨fE, fdE, dE⟩ := T.m_Tree_eq
  have GE : FnOk P w K mg base CX0 1 fE fdE ["self", "other"] (spEqTree cT) := ok_eqTree T dE
  have nR : ∀ y ∈ (["p", "tree", "unknowns", "rules"] : List Str), NoAttr K (cR mg) y := kR.na
  have n1 := nR "p" (by simp)
  have n2 := nR "tree" (by simp)
  have n3 := nR "unknowns" (by simp)
  have n4 := nR "rules" (by simp)
  have iT := T.i_Tree
  refine d.F.ok sc_Rules_eq (fun vs H Q E h => ?_) (fun cdv A outer s H vs Q E hr h => ?_)
  · obtain ⟨u, v, S1, S2, rfl, _⟩ := h
    rfl
  · obtain ⟨u, v, S1, S2, rfl, ⟨a, dx, tr, tu, tl, rfl, hI, hT, hU, hR⟩, ⟨a2, dx2, tr2, tu2, tl2, rfl, gI, gT, gU, gR⟩, q⟩ := h
    refine ⟨_, pss_one (ps_ret (pe_and (pe_callB (C8.call_isC T.i_Rules) (by rfl) T.b_isinstance (by decide +kernel) (pa_cons (pv 1) (pa_cons (pe_glob (v := .ref (adr mg "Rules")) rfl kR.m rfl) pa_nil)))
      (pe_and (pe_cmpR op_eq (pe_fld (pv 0) rfl) (pe_fld (pv 1) rfl) (nomark _))
      (pe_and (pe_cmpR (op_eqO GE (hr.mono (by decide)) dE.fi dE.fn dE.b pass0) (pe_fld (pv 0) rfl) (pe_fld (pv 1) rfl) (nomark _))
      (pe_and (pe_cmpR (op_eqD (hu64 hr)) (pe_fld (pv 0) rfl) (pe_fld (pv 1) rfl) (nomark _))
      (pe_one (pe_cmpR (op_eqD (hu64 hr)) (pe_fld (pv 0) rfl) (pe_fld (pv 1) rfl) (nomark _)))))))), ?_⟩
    have clR := kR.cl
    refine ⟨_, rfl, a2, dx2, _, rfl, gI, _, rfl, iteT ?_⟩
    refine ⟨_, rfl, a, cR mg, dx, _, _, rfl, hI, clR, n1, rfs_p, _, rfl, a2, cR mg, dx2, _, _, rfl, gI, clR, n1, rfs_p, rfl, _, rfl, ?_⟩
    unfold rdEq at q
    by_cases e1 : S1.p = S2.p
    · rw [decide_eq_true (by rw [e1])]
      rw [decide_eq_true e1, Bool.true_and] at q
      refine iteT ?_
      obtain ⟨_, dt, tt, xs, e, i1, i2, i3⟩ := id gT
      cases e
      obtain ⟨_, dt', tt', xs', e, i1', i2', i3'⟩ := id hT
      cases e
      refine ⟨_, rfl, a, cR mg, dx, _, _, rfl, hI, clR, n2, rfs_tree, _, rfl, a2, cR mg, dx2, _, _, rfl, gI, clR, n2, rfs_tree, tr, dt', _, rfl, i1', ⟨_, .base (.ins i1 iT.cl iT.ha iT.hn iT.htk iT.hm), by simp [PySem.W.notFirst]⟩, .ref tr, .ref tr2, S1.ties, S2.ties, rfl, hT, gT, ⟨_, rfl⟩, _, rfl, ?_⟩
      by_cases e2 : S1.ties = S2.ties
      · rw [decide_eq_true e2]
        rw [decide_eq_true e2, Bool.true_and] at q
        refine iteT ?_
        refine ⟨_, rfl, a, cR mg, dx, _, _, rfl, hI, clR, n3, rfs_unk, _, rfl, a2, cR mg, dx2, _, _, rfl, gI, clR, n3, rfs_unk, ?_⟩
        refine enc_row.eqD (by decide) hU gU ⟨_, rfl, ?_⟩
        by_cases e3 : S1.unk = S2.unk
        · rw [decide_eq_true e3]
          rw [decide_eq_true e3, Bool.true_and] at q
          refine iteT ?_
          refine ⟨_, rfl, a, cR mg, dx, _, _, rfl, hI, clR, n4, rfs_rules, _, rfl, a2, cR mg, dx2, _, _, rfl, gI, clR, n4, rfs_rules, ?_⟩
          exact (enc_tup (enc_tup enc_rule)).eqD (by decide) hR gR q
        · rw [decide_eq_false e3]
          rw [decide_eq_false e3] at q
          exact iteF q
      · rw [decide_eq_false e2]
        rw [decide_eq_false e2] at q
        exact iteF q
    · rw [decide_eq_false (fun z => e1 (V.int.inj z))]
      rw [decide_eq_false e1] at q
      exact iteF q
end
end S4

namespace S4
open PySem L2 TT MM EE
/-! ### changed_ways -/
theorem neDK {X : Cx} {K : PySem.W.Frag} (hK : X.K = K) (hu : X.A.units + 64 < cLine) : OpR X (compareOp .NotEq) (rNeD K) := by
  subst hK
  exact op_neD hu
def RTree (cT : Addr) : Addr → Addr → Hp → Prop := fun a b H => ∃ t, rTree cT H (.ref a) t ∧ rTree cT H (.ref b) t
def RRules (cT : Addr) (mg : Str → Option Value) : Addr → Addr → Hp → Prop := fun a b H => ∃ S, rRO cT mg H (.ref a) S ∧ rRO cT mg H (.ref b) S
section
variable {P : Program} {w : World} {K : PySem.W.Frag} {mg : Str → Option Value} {base : Heap} {cT cS : Addr}
theorem wayR_of {S : RD} {n : Nat} (ok : RulesOk S n) {z : Int × Int} (h : z ∈ S.ties ++ flipAll S.ties) : WayR S n z := by
  have hm : z ∈ S.ties ∨ z.swap ∈ S.ties := by
    rcases List.mem_append.mp h with h | h
    · exact .inl h
    · unfold flipAll at h
      obtain ⟨y, hy, rfl⟩ := List.mem_map.mp h
      exact .inr hy
  rcases hm with h | h
  · have := ok.tree.ok.b0 _ h
    exact ⟨by omega, by omega, by omega, by omega, .inl h⟩
  · have := ok.tree.ok.b0 _ h
    simp only [Prod.fst_swap, Prod.snd_swap] at this
    exact ⟨by omega, by omega, by omega, by omega, .inr h⟩
end
end S4

namespace S4
open PySem L2 TT MM EE
/-! ### sheets of rules, whether they can be undone -/
def rowsW (S : SD) : List (List Int) := S.wants.flatMap fun own => own
def shOf (S : RD) : SD := ⟨S.p, S.ties, S.unk, S.rules.map fun own => own.map fun r => r.1⟩
theorem shOf_ok {S : RD} {n : Nat} (ok : RulesOk S n) : SheetOk (shOf S) n := by
  refine ⟨ok.tree.ok, ok.clock, ok.unk, ⟨by show (S.rules.map _).length = n; rw [List.length_map, ok.len], fun rows h => ?_, ?_⟩⟩
  · obtain ⟨own, ho, rfl⟩ := List.mem_map.mp h
    refine ⟨by rw [List.length_map]; exact ok.l8 _ ho, fun r hr => ?_⟩
    obtain ⟨x, hx, rfl⟩ := List.mem_map.mp hr
    obtain ⟨k, hk⟩ := List.getElem?_of_mem ho
    exact (ok.ok k own hk x hx).row
  · show ((S.rules.map _).map List.length).sum ≤ 60
    rw [List.map_map]
    have : (List.length ∘ fun own : List Rule => own.map fun r => r.1) = List.length := funext fun o => by simp
    rw [this]
    exact ok.l60
noncomputable def canU (S : SD) (wd : Nat) : Bool := decide ((rowsW S).length = wd) && decide (rk S.p wd (rowsW S) = wd)
theorem rowsW_len {S : SD} : (rowsW S).length = (S.wants.map List.length).sum := by
  unfold rowsW
  rw [List.length_flatMap]
theorem rowsW_row {S : SD} {n : Nat} (ok : SheetOk S n) : ∀ r ∈ rowsW S, isRow r S.p S.holds.sum := fun r hr => by
  obtain ⟨own, ho, hr⟩ := List.mem_flatMap.mp hr
  exact (ok.wants.b own ho).2 r hr
theorem sum_row {S : SD} {n : Nat} (ok : SheetOk S n) : ∃ wd : Nat, S.holds.sum = (wd : Int) ∧ wd ≤ 60 := by
  have h := take_sum_le ok.holds S.holds.length
  rw [List.take_length] at h
  have := ok.holds.s
  exact ⟨S.holds.sum.toNat, by omega, by omega⟩
theorem rk_lad {p : Int} {wd : Nat} {rows lad : List (List Int)} (prm : Prm p) (h : IsLad p wd rows lad) : lad.length = rk p wd rows := by
  obtain ⟨rs, ys, S, hp, _, e⟩ := h
  rw [e, List.length_map, hp.length_eq]
  unfold keysI
  rw [List.length_map]
  exact rk_eq prm.1 S
def scRs : Scope := { kind := .function, names := [(".0", .local), ("own", .local), ("tuple", .globalImplicit)], isGenerator := false, isCoroutine := false }
section
variable {P : Program} {w : World} {K : PySem.W.Frag} {mg : Str → Option Value} {base : Heap} {cT cS : Addr}
def spAllW (cT cS : Addr) : Sp := fun vs H Q _ => ∃ (u : V) (S : SD) (n : Nat), vs = [u] ∧ rSheet cT cS H u S ∧ SheetOk S n ∧ ∀ H' r xs, Same H H' → H r = none → H' r = some (.lst xs) → Paired (rRow H') xs (rowsW S) → Q (.ref r) H'
theorem ok_allW (T : Tx K mg cT cS) {f : Addr} {fd : FuncData} (d : D K mg "all_wants" s_all_wants ["sheet"] f fd) : FnOk P w K mg base CX0 1 f fd ["sheet"] (spAllW cT cS) := by
  refine d.F.ok sc_all_wants (fun vs H Q E h => ?_) (fun cdv A outer s H vs Q E hr h => ?_)
  · obtain ⟨u, S, n, rfl, _⟩ := h
    rfl
  · obtain ⟨u, S, n, rfl, hS, ok, q⟩ := h
    refine ⟨_, pss_one (ps_ret (pe_lc2 (own := [("rows", 1), ("row", 2)]) (vs1 := [2]) (wi1 := _) (g := (gName 1)) (g1 := (gName 2)) (tt := tYes) (tt1 := tYes) rfl sc_all_wants.nd
          (pi_tup (pe_fld (pv 0) rfl)) (blkOk_by (N := N_all_wants) (sc := defScope s_all_wants) (by decide +kernel)) (by decide)
          (fun _ _ _ _ _ => (pg_name (i := 1) sc_all_wants.nd rfl (Or.inl rfl))) (fun _ _ _ _ _ => pts_nil)
          (fun _ _ _ _ _ => (piT rfl (pi_tup (pv 1))))
          (fun _ _ _ _ _ => (pg_name (i := 2) sc_all_wants.nd rfl (Or.inl rfl))) (fun _ _ _ _ _ => pts_nil)
          (fun _ _ _ _ _ => (pv 2)))), ?_⟩
    obtain ⟨fS, fdS, kS⟩ := T.k_Sheet
    have n4 : NoAttr K cS "wants" := kS.na _ (by simp)
    obtain ⟨a, dx, tr, th, tw, rfl, hI, hT, hth, hwt⟩ := id hS
    obtain ⟨_, xs, e, htl, hxs⟩ := id hwt
    cases e
    have lxs := paired_len hxs
    have hln := ok.wants.len
    have hn24 := ok.ties.n24
    have hb : ∀ j : Nat, ((S.wants[j]?.map fun own => own).getD []).length ≤ 8 := fun j => by
      cases h : S.wants[j]? with
      | none => exact Nat.zero_le _
      | some own => exact (ok.wants.b _ (List.mem_of_getElem? h)).1
    refine ⟨_, rfl, a, cS, dx, _, _, rfl, hI, kS.cl, n4, sfs_wants, tw, rfl, ⟨_, .of htl⟩, fun D7 hD7 => ?_⟩
    refine walk_W (walk_tup (xs := xs)) _ (PvFl rRow (fun i => (S.wants[i]?.map fun own => own).getD []) D7 H) (fl_start hD7) (fun i H' _ h => .of (h.1.keep.tup htl)) ?_ ?_
    · rintro i x H8 H9 hi pv ⟨rfl, hx⟩
      obtain ⟨own, hown, to, xo, rfl, hto, hpo⟩ := paired_get (paired_mono (mono_tup mono_row) pv.1.keep hxs) hx
      have hlo := paired_len hpo
      refine ⟨rfl, ?_⟩
      refine ⟨_, rfl, to, rfl, ⟨_, .of hto⟩, ?_⟩
      have hF : (S.wants[i]?.map fun own => own).getD [] = own := by rw [hown]; rfl
      have hpre := flat_lenR (F := fun i => (S.wants[i]?.map fun own => own).getD []) (i := i) (b := 8) fun j _ => hb j
      have hbi := hb i
      rw [hF] at hbi
      refine walk_W (walk_tup (xs := xo)) _ (PvIn rRow _ ((S.wants[i]?.map fun own => own).getD []) D7 H H9) (fl_in mono_row pv (.refl _)) (fun j H' _ h => .of (h.2.1.tup hto)) ?_ ?_
      · rintro j y H10 H11 hj pv6 ⟨rfl, hy2⟩
        obtain ⟨r, hr, hx2⟩ := paired_get (paired_mono mono_row pv6.2.1 hpo) hy2
        refine ⟨rfl, _, rfl, ?_⟩
        exact in_keep mono_row pv6 hD7 (by omega) (.refl _) (by rw [hF, hr]) hx2
      · intro H10 pv6
        exact in_fl (by rw [hF, hlo]) pv6
    · rintro H8 ⟨s8, ys8, hD8, hp8⟩
      rw [lxs, fl_list] at hp8
      exact q _ D7 ys8 s8 hD7 hD8 hp8
def spWCnt (cT cS : Addr) : Sp := fun vs H Q _ => ∃ (u : V) (S : SD) (n : Nat), vs = [u] ∧ rSheet cT cS H u S ∧ SheetOk S n ∧ ∀ H' v, Same H H' → rRow H' v (S.wants.map fun own => (own.length : Int)) → Q v H'
theorem ok_wcnt (T : Tx K mg cT cS) {f : Addr} {fd : FuncData} (d : D K mg "want_counts" s_want_counts ["sheet"] f fd) : FnOk P w K mg base CX0 1 f fd ["sheet"] (spWCnt cT cS) := by
  refine d.F.ok sc_want_counts (fun vs H Q E h => ?_) (fun cdv A outer s H vs Q E hr h => ?_)
  · obtain ⟨u, S, n, rfl, _⟩ := h
    rfl
  · obtain ⟨u, S, n, rfl, hS, ok, q⟩ := h
    refine ⟨_, pss_one (ps_ret (pe_callTy call_tuple_of (by rfl) T.b_tuple (by decide +kernel) (pa_cons (pe_lc (own := [("rows", 1)]) (g := (gName 1)) (tt := tYes) rfl sc_want_counts.nd (pi_tup (pe_fld (pv 0) rfl)) (blkOk_by (N := N_want_counts) (sc := defScope s_want_counts) (by decide +kernel)) (fun _ _ _ _ _ => (pg_name (i := 1) sc_want_counts.nd rfl (Or.inl rfl))) (fun _ _ _ _ _ => pts_nil)
            (fun _ _ _ _ _ => (pe_callB (lenS (K := K) rfl) (by rfl) T.b_len PySem.boot_len (pa_cons (pv 1) pa_nil)))) pa_nil))), ?_⟩
    obtain ⟨fS, fdS, kS⟩ := T.k_Sheet
    have n4 : NoAttr K cS "wants" := kS.na _ (by simp)
    obtain ⟨a, dx, tr, th, tw, rfl, hI, hT, hth, hwt⟩ := id hS
    obtain ⟨_, xs, e, htl, hxs⟩ := id hwt
    cases e
    have lxs := paired_len hxs
    have hln := ok.wants.len
    have hn24 := ok.ties.n24
    refine ⟨_, rfl, a, cS, dx, _, _, rfl, hI, kS.cl, n4, sfs_wants, tw, rfl, ⟨_, .of htl⟩, fun D hD => ?_⟩
    refine lc_fm (walk_tup (xs := xs)) rInt (fun i => S.wants[i]?.bind fun own => some (own.length : Int)) hD (fun H' s' => .of (s' _ _ htl)) ?_ ?_
    · rintro i x H4 H5 hi pv ⟨rfl, hx⟩
      obtain ⟨own, hown, to, xo, rfl, hto, hpo⟩ := paired_get (paired_mono (mono_tup mono_row) pv.1.keep hxs) hx
      have hlo := paired_len hpo
      refine ⟨rfl, _, rfl, to, xo, rfl, .inr (.of hto), ?_⟩
      exact fm_keep mono_int pv hD (by omega) (Same.refl _) (by rw [hown]; show some ((own.length : Nat) : Int) = some ((xo.length : Nat) : Int); rw [hlo]) rfl
    · intro H4 ys s4 hD4 hp4
      rw [lxs, fm_some] at hp4
      have := paired_int hp4
      subst this
      refine ⟨D, _, rfl, .inl ⟨.of hD4, fun tq ntq => ?_⟩⟩
      exact q _ _ (s4.trans (same_new ntq)) ⟨tq, rfl, upd_same⟩
def spRSheet (cT cS : Addr) (mg : Str → Option Value) : Sp := fun vs H Q _ => ∃ (u : V) (S : RD) (n : Nat), vs = [u] ∧ rRO cT mg H u S ∧ RulesOk S n ∧ ∀ H' v, Same H H' → rSheet cT cS H' v (shOf S) → Q v H'
theorem ok_rsheet (T : Tx K mg cT cS) {f : Addr} {fd : FuncData} (d : D K mg "rule_sheet" s_rule_sheet ["rules"] f fd) : FnOk P w K mg base CX0 7 f fd ["rules"] (spRSheet cT cS mg) := by
  obtain ⟨f1, fd1, k1⟩ := T.k_Sheet
  have G1 := ok_Sheet (P := P) (w := w) (base := base) T k1
  refine d.F.ok sc_rule_sheet (fun vs H Q E h => ?_) (fun cdv A outer s H vs Q E hr h => ?_)
  · obtain ⟨u, S, n, rfl, _⟩ := h
    rfl
  · obtain ⟨u, S, n, rfl, hR, ok, q⟩ := h
    refine ⟨_, pss_cons (ps_set (i := 1) sc_rule_sheet.nd rfl (.inl rfl) (pe_callTy call_tuple_of (by rfl) T.b_tuple (by decide +kernel) (pa_cons (pe_lc (own := [("own", 4)]) (g := (gName 4)) (tt := tYes) rfl sc_rule_sheet.nd (pi_tup (pe_fld (pv 0) rfl)) (blkOk_by (N := N_rule_sheet) (sc := defScope s_rule_sheet) (by decide +kernel)) (fun _ _ _ _ _ => (pg_name (i := 4) sc_rule_sheet.nd rfl (Or.inl rfl))) (fun _ _ _ _ _ => pts_nil)
            (fun _ _ _ _ _ => (pe_callTy (tupS (K := K) rfl) (by rfl) T.b_tuple (by decide +kernel) (pa_cons (pe_lc (own := [("row", 2), ("_", 3)]) (g := (gTup K 2 (gCons (gName 2) (gCons (gName 3) gNil)))) (tt := tYes) rfl sc_rule_sheet.nd (piT rfl (pi_tup (pv 4))) (blkOk_by (N := N_rule_sheet) (sc := scRs) (own := [("row", 2), ("_", 3)]) (by decide +kernel)) (fun _ _ _ _ _ => (pgT rfl rfl (pgs_cons (pg_name (i := 2) sc_rule_sheet.nd rfl (Or.inl rfl)) (pgs_cons (pg_name (i := 3) sc_rule_sheet.nd rfl (Or.inl rfl)) pgs_nil)))) (fun _ _ _ _ _ => pts_nil)
            (fun _ _ _ _ _ => (pv 2))) pa_nil)))) pa_nil)))
      (pss_one (ps_ret (pe_make k1.mkf G1 (hr.mono (by decide)) rfl k1.m k1.b .nil pass0 (pa_cons (pe_fld (pv 0) rfl) (pa_cons (pe_fld (pv 0) rfl) (pa_cons (pe_fld (pv 0) rfl) (pa_cons (pv 1) pa_nil))))))), ?_⟩
    obtain ⟨fR, fdR, kR⟩ := T.k_Rules
    have nR : ∀ y ∈ (["p", "tree", "unknowns", "rules"] : List Str), NoAttr K (cR mg) y := kR.na
    obtain ⟨a, dx, tr, tu, tl, rfl, hI, hT, hU, hL⟩ := id hR
    obtain ⟨_, xs, e, htl, hxs⟩ := id hL
    cases e
    have lxs := paired_len hxs
    have hln := ok.len
    have hn24 := ok.tree.ok.n24
    refine ⟨_, rfl, a, cR mg, dx, _, _, rfl, hI, kR.cl, nR "rules" (by simp), rfs_rules, tl, rfl, ⟨_, .of htl⟩, fun D hD => ?_⟩
    refine lc_fm (walk_tup (xs := xs)) (rTup rRow) (fun i => S.rules[i]?.bind fun own => some (own.map fun r => r.1)) hD (fun H' s' => .of (s' _ _ htl)) ?_ ?_
    · rintro i x H4 H5 hi pv ⟨rfl, hx⟩
      obtain ⟨own, hown, to, xo, rfl, hto, hpo⟩ := paired_get (paired_mono mono_own pv.1.keep hxs) hx
      have hlo := paired_len hpo
      have h8 := ok.l8 own (List.mem_of_getElem? hown)
      refine ⟨rfl, _, rfl, to, rfl, ⟨_, .of hto⟩, fun D2 hD2 => ?_⟩
      refine lc_fm (walk_tup (xs := xo)) rRow (fun j => own[j]?.bind fun r => some r.1) hD2 (fun H' s' => .of (s' _ _ hto)) ?_ ?_
      · rintro j y H6 H7 hj pw ⟨rfl, hy⟩
        obtain ⟨r, hr, t2, x2, rfl, ht2, hx2⟩ := paired_get (paired_mono mono_rule pw.1.keep hpo) hy
        refine ⟨t2, _, rfl, .of ht2, rfl, _, _, rfl, _, _, rfl, rfl, rfl, _, rfl, ?_⟩
        exact fm_keep mono_row pw hD2 (by omega) (Same.refl _) (by rw [hr]; rfl) hx2
      · intro H6 zs s6 hD6 hp6
        rw [hlo, fm_some] at hp6
        refine ⟨D2, _, rfl, .inl ⟨.of hD6, fun tq ntq => ?_⟩⟩
        have s5 := same_new (o := .tup zs) ntq
        exact fm_keep (mono_tup mono_row) pv hD (by omega) (s6.trans s5) (by rw [hown]; rfl) ⟨tq, zs, rfl, upd_same, paired_mono mono_row s5.keep hp6⟩
    · intro H4 ys s4 hD4 hp4
      rw [lxs, fm_some] at hp4
      refine ⟨D, _, rfl, .inl ⟨.of hD4, fun tq ntq => ?_⟩⟩
      have s5 := same_new (o := .tup ys) ntq
      have s45 := s4.trans s5
      have hw : rWants (upd H4 tq (.tup ys)) (.ref tq) (shOf S).wants := ⟨tq, ys, rfl, upd_same, paired_mono (mono_tup mono_row) s5.keep hp4⟩
      generalize upd H4 tq (.tup ys) = H5 at *
      dsimp only [gName, tSeq]
      refine ⟨_, rfl, a, cR mg, dx, _, _, rfl, s45.keep.ins hI, kR.cl, nR "p" (by simp), rfs_p, _, rfl, a, cR mg, dx, _, _, rfl, s45.keep.ins hI, kR.cl, nR "tree" (by simp), rfs_tree, _, rfl, a, cR mg, dx, _, _, rfl, s45.keep.ins hI, kR.cl, nR "unknowns" (by simp), rfs_unk, _, rfl, fun x dx2 nx ndx nex => ?_⟩
      have s6 := same_make (C := cS) nx ndx nex
      have trx : V.ref tr ≠ V.ref x := fun e => by
        obtain ⟨_, _, _, _, e2, h2, _⟩ := mono_tree cT _ _ _ _ s45.keep hT
        cases e2
        rw [V.ref.inj e, nx] at h2
        cases h2
      refine ⟨x, dx2, _, _, _, shOf S, n, rfl, upd_same, mono_tree cT _ _ _ _ (s45.trans s6).keep hT, trx, mono_row _ _ _ _ (s45.trans s6).keep hU, mono_wants _ _ _ _ s6.keep hw, shOf_ok ok, fun H7 k7 hS7 => ⟨rfl, ?_⟩⟩
      exact q _ _ (fun b o e => k7 b o (fun z => by subst z; rw [s45 _ _ e] at nx; cases nx) ((s45.trans s6) _ _ e)) hS7
def spCanU (cT cS : Addr) : Sp := fun vs H Q _ => ∃ (u : V) (S : SD) (n wd : Nat), vs = [u] ∧ rSheet cT cS H u S ∧ SheetOk S n ∧ S.holds.sum = (wd : Int) ∧ ∀ H', Same H H' → Q (.bl (canU S wd)) H'
theorem ok_canU (T : Tx K mg cT cS) {f : Addr} {fd : FuncData} (d : D K mg "can_be_undone" s_can_be_undone ["sheet"] f fd) : FnOk P w K mg base CX0 4 f fd ["sheet"] (spCanU cT cS) := by
  obtain ⟨f1, fd1, d1⟩ := T.d_all_wants
  have G1 := ok_allW (P := P) (w := w) (base := base) T d1
  obtain ⟨f2, fd2, d2⟩ := T.d_rank_of
  have G2 := ok_rank_of (P := P) (w := w) (base := base) T d2
  refine d.F.ok sc_can_be_undone (fun vs H Q E h => ?_) (fun cdv A outer s H vs Q E hr h => ?_)
  · obtain ⟨u, S, n, wd, rfl, _⟩ := h
    rfl
  · obtain ⟨u, S, n, wd, rfl, hS, ok, hwd, q⟩ := h
    refine ⟨_, pss_cons (ps_set (i := 1) sc_can_be_undone.nd rfl (.inl rfl) (pe_call G1 (hr.mono (by decide)) rfl d1.m d1.F.kp d1.b .nil pass0 (pa_cons (pv 0) pa_nil)))
      (pss_one (ps_ret (pe_and (pe_cmpR op_eq (pe_callB call_len_seq (by rfl) T.b_len PySem.boot_len (pa_cons (pv 1) pa_nil)) (pe_fld (pv 0) rfl) (nomark _)) (pe_one (pe_cmpR op_eq (pe_call G2 (hr.mono (by decide)) rfl d2.m d2.F.kp d2.b .nil pass0 (pa_cons (pe_fld (pv 0) rfl) (pa_cons (pe_fld (pv 0) rfl) (pa_cons (pv 1) pa_nil)))) (pe_fld (pv 0) rfl) (nomark _)))))), ?_⟩
    obtain ⟨fS, fdS, kS⟩ := T.k_Sheet
    have nm : NoAttr K cS "numbers" := kS.na _ (by simp)
    have np : NoAttr K cS "p" := kS.na _ (by simp)
    obtain ⟨a, dx, tr, th, tw, rfl, hI, hT, hth, hwt⟩ := id hS
    have hs60 := ok.holds.s
    have hr60 : (rowsW S).length ≤ 60 := by rw [rowsW_len]; exact ok.wants.s
    refine ⟨_, rfl, .ref a, S, n, rfl, hS, ok, fun H1 r xs s1 nr hr1 hp1 => ?_⟩
    have lxs := paired_len hp1
    dsimp only [gName, tSeq]
    refine ⟨_, rfl, r, xs, rfl, .inl (.of hr1), _, rfl, a, cS, dx, _, _, rfl, s1.keep.ins hI, kS.cl, nm, sfs_numbers, ?_⟩
    have e1 : S.holds.sum = ((wd : Nat) : Int) := hwd
    refine ⟨rfl, _, rfl, ?_⟩
    rw [dec_int, e1, lxs]
    by_cases hl : (rowsW S).length = wd
    · rw [if_pos (by rw [hl]; simp)]
      refine ⟨_, rfl, a, cS, dx, _, _, rfl, s1.keep.ins hI, kS.cl, np, sfs_p, _, rfl, a, cS, dx, _, _, rfl, s1.keep.ins hI, kS.cl, nm, sfs_numbers, _, rfl, ?_⟩
      rw [e1]
      have hrw : ∀ r ∈ rowsW S, isRow r S.p wd := fun r hr => by rw [← e1]; exact rowsW_row ok r hr
      refine ⟨r, S.p, wd, xs, rowsW S, rfl, .inl hr1, hp1, by omega, ok.clock.prm, ok.clock.2.1, by omega, hrw, fun H2 m s2 _ hm => ?_⟩
      refine ⟨_, rfl, a, cS, dx, _, _, rfl, (s1.trans s2).keep.ins hI, kS.cl, nm, sfs_numbers, rfl, ?_⟩
      rw [e1, dec_int]
      have hk : rk S.p wd (rowsW S) = m := by
        rw [← hm _ (lad_ex ok.clock.prm hrw)]
        exact (rk_lad ok.clock.prm (lad_ex ok.clock.prm hrw)).symm
      have hc : canU S wd = (((m : Nat) : Int) == ((wd : Nat) : Int)) := by
        unfold canU
        rw [decide_eq_true hl, hk, Bool.true_and, Bool.eq_iff_iff]
        simp
        omega
      rw [← hc]
      exact q _ (s1.trans s2)
    · rw [if_neg (by simp; omega)]
      have hc : canU S wd = false := by
        unfold canU
        rw [decide_eq_false hl, Bool.false_and]
      rw [← hc]
      exact q _ s1
end
end S4

namespace S4
open PySem L2 TT MM EE
/-! ### the way back -/
theorem rk_le_wd {p : Int} {wd : Nat} {rows : List (List Int)} (prm : Prm p) (h : ∀ r ∈ rows, isRow r p wd) : rk p wd rows ≤ wd := by
  obtain ⟨rs, S⟩ := st_ex prm h
  rw [← rk_eq prm.1 S]
  exact S.len
theorem spn_full {p : Int} {wd : Nat} {rows : List (List Int)} (prm : Prm p) (h : ∀ r ∈ rows, isRow r p wd) (hk : rk p wd rows = wd) {u : List Int} (hu : isRow u p wd) : Spn p (inRows rows) (vec u) := by
  classical
  by_cases hs : Spn p (inRows rows) (vec u)
  · exact hs
  · rcases rk_step prm h hu with ⟨h1, _⟩ | ⟨_, h1⟩
    · exact h1
    rw [hk] at h1
    have := rk_le_wd prm (rows := rows ++ [u]) fun r hr => (List.mem_append.mp hr).elim (h r) fun e => by rw [List.mem_singleton.mp e]; exact hu
    omega
def byP (counts : List Int) (n : Nat) (A : List (List Int)) : List (List (List Int)) := (List.range n).map fun (j : Nat) => (heldL counts (j : Int)).map fun i => A.getD i.toNat []
/-- A undoes the rows B -/
structure IsInv (p : Int) (wd : Nat) (B A : List (List Int)) : Prop where
  len : A.length = wd
  mix : ∀ k, k < wd → IsMix p wd B (uRow wd k) (A.getD k [])
def undOf (S : SD) (n : Nat) (A : List (List Int)) : SD := ⟨S.p, S.ties, S.wants.map fun own => (own.length : Int), byP S.holds n A⟩
theorem sum_cnt (S : SD) : (S.wants.map fun own => (own.length : Int)).sum = ((rowsW S).length : Nat) := by
  rw [sum_lens, rowsW_len]
theorem inv_row {p : Int} {wd : Nat} {B A : List (List Int)} (h : IsInv p wd B A) (hB : B.length = wd) : ∀ r ∈ A, isRow r p wd := fun r hr => by
  obtain ⟨k, hk, e⟩ := List.getElem_of_mem hr
  have h1 := h.mix k (by have := h.len; omega)
  rw [getD_at (List.getElem?_eq_getElem hk), e] at h1
  exact ⟨by rw [h1.1, hB], h1.2.1⟩
theorem heldL_ln {holds : List Int} {n : Nat} (ok : CountsOk holds n) {j : Nat} (hj : j < n) : ((heldL holds (j : Int)).length : Int) = holds.getD j 0 ∧ (heldL holds (j : Int)).length ≤ 8 := by
  have hl : j < holds.length := by rw [ok.len]; exact hj
  have hb := ok.b _ (List.getElem_mem hl)
  unfold heldL
  rw [List.length_map, List.length_range, Int.toNat_natCast, getD_at (List.getElem?_eq_getElem hl)]
  omega
theorem byP_sum {counts : List Int} {n : Nat} (ok : CountsOk counts n) (A : List (List Int)) : ((byP counts n A).map List.length).sum = counts.sum.toNat := by
  have e : (byP counts n A).map List.length = counts.map Int.toNat := by
    unfold byP
    refine List.ext_getElem (by simp [ok.len]) fun j h1 h2 => ?_
    rw [List.getElem_map, List.getElem_map, List.getElem_range, List.length_map, List.getElem_map]
    have hj : j < n := by simpa using h1
    have := (heldL_ln ok hj).1
    rw [getD_at (List.getElem?_eq_getElem (by rw [ok.len]; exact hj))] at this
    omega
  rw [e]
  have := toNat_sum counts fun x hx => (ok.b x hx).1
  omega
theorem und_ok {S : SD} {n wd : Nat} {A : List (List Int)} (ok : SheetOk S n) (hwd : S.holds.sum = (wd : Int)) (hl : (rowsW S).length = wd) (h : IsInv S.p wd (rowsW S) A) : SheetOk (undOf S n A) n := by
  have hs := ok.holds.s
  refine ⟨ok.ties, ok.clock, ⟨by show (S.wants.map _).length = n; rw [List.length_map, ok.wants.len], fun x hx => ?_, ?_⟩, ⟨?_, fun rows hrw => ?_, ?_⟩⟩
  · obtain ⟨own, ho, rfl⟩ := List.mem_map.mp hx
    have := (ok.wants.b own ho).1
    omega
  · show (S.wants.map _).sum ≤ 60
    rw [sum_cnt, hl]
    omega
  · show ((List.range n).map _).length = n
    simp
  · obtain ⟨j, hj, rfl⟩ := List.mem_map.mp hrw
    have hj := List.mem_range.mp hj
    refine ⟨by rw [List.length_map]; exact (heldL_ln ok.holds hj).2, fun r hr => ?_⟩
    obtain ⟨i, hi, rfl⟩ := List.mem_map.mp hr
    obtain ⟨i0, i1⟩ := heldL_in ok.holds hi
    show isRow _ S.p (S.wants.map _).sum
    rw [sum_cnt, hl]
    refine inv_row h hl _ ?_
    have hi' : i.toNat < A.length := by rw [h.len]; omega
    rw [getD_at (List.getElem?_eq_getElem hi')]
    exact List.getElem_mem _
  · show ((byP S.holds n A).map List.length).sum ≤ 60
    rw [byP_sum ok.holds]
    omega
def scBp : Scope := { kind := .function, names := [(".0", .local), ("post", .local), ("tuple", .globalImplicit), ("own_places", .globalImplicit), ("counts", .cell), ("things", .cell)], isGenerator := false, isCoroutine := false }
section
variable {P : Program} {w : World} {K : PySem.W.Frag} {mg : Str → Option Value} {base : Heap} {cT cS : Addr}
def spByPosts : Sp := fun vs H Q _ => ∃ (v : V) (a : Addr) (us : List V) (counts : List Int) (n : Nat) (A : List (List Int)), vs = [v, .ref a] ∧ rRow H v counts ∧ CountsOk counts n ∧ n ≤ 24 ∧ H a = some (.lst us) ∧ Paired (rRow H) us A ∧ counts.sum ≤ (A.length : Int) ∧
  ∀ H' v', Same H H' → rWants H' v' (byP counts n A) → Q v' H'
theorem ok_byposts (T : Tx K mg cT cS) {f : Addr} {fd : FuncData} (d : D K mg "by_posts" s_by_posts ["counts", "things"] f fd) : FnOk P w K mg base CX0 3 f fd ["counts", "things"] spByPosts := by
  obtain ⟨f1, fd1, d1⟩ := T.d_own_places
  have G1 := ok_own (P := P) (w := w) (base := base) T d1
  refine d.F.ok sc_by_posts (fun vs H Q E h => ?_) (fun cdv A outer s H vs Q E hr h => ?_)
  · obtain ⟨v, a, us, counts, n, A, rfl, _⟩ := h
    rfl
  · obtain ⟨v, a, us, counts, n, A, rfl, hv, ok, hn, ha, hp, hs, q⟩ := h
    refine ⟨_, pss_one (ps_ret (pe_callTy call_tuple_of (by rfl) T.b_tuple (by decide +kernel) (pa_cons (pe_lc (own := [("post", 3)]) (g := (gName 3)) (tt := tYes) rfl sc_by_posts.nd (pi_range1 rfl T.b_range (pa_cons (pe_callB call_len_seq (by rfl) T.b_len PySem.boot_len (pa_cons (pv 0) pa_nil)) pa_nil)) (blkOk_by (N := N_by_posts) (sc := defScope s_by_posts) (by decide +kernel)) (fun _ _ _ _ _ => (pg_name (i := 3) sc_by_posts.nd rfl (Or.inl rfl))) (fun _ _ _ _ _ => pts_nil)
            (fun _ _ _ _ _ => (pe_callTy (tupS (K := K) rfl) (by rfl) T.b_tuple (by decide +kernel) (pa_cons (pe_lc (own := [("place", 2)]) (g := (gName 2)) (tt := tYes) rfl sc_by_posts.nd (piT rfl (pi_tup (pe_call G1 (hr.mono (by decide)) rfl d1.m d1.F.kp d1.b .nil pass0 (pa_cons (pv 0) (pa_cons (pv 3) pa_nil))))) (blkOk_by (N := N_by_posts) (sc := scBp) (own := [("place", 2)]) (by decide +kernel)) (fun _ _ _ _ _ => (pg_name (i := 2) sc_by_posts.nd rfl (Or.inl rfl))) (fun _ _ _ _ _ => pts_nil)
            (fun _ _ _ _ _ => (pe_ix (ixL (K := K) rfl) (pv 1) (pv 2) (fun _ _ => rfl)))) pa_nil)))) pa_nil))), ?_⟩
    obtain ⟨t, rfl, ht⟩ := id hv
    have lus := paired_len hp
    have hlc := ok.len
    refine ⟨_, rfl, t, _, rfl, .inr (.of ht), _, rfl, by rw [List.length_map]; omega, by rw [List.length_map]; omega, fun D hD => ?_⟩
    rw [List.length_map, hlc]
    refine lc_fm (walk_range (n := n)) (rTup rRow) (fun i => some ((heldL counts (i : Int)).map fun i => A.getD i.toNat [])) hD (fun H' s' => trivial) ?_ ?_
    · rintro i x H4 H5 hi pv ⟨rfl, rfl⟩
      refine ⟨rfl, _, rfl, _, rfl, .ref t, counts, (i : Int), n, by show [V.ref t, V.int (0 + (i : Int))] = _; rw [Int.zero_add], ⟨t, rfl, pv.1 _ _ ht⟩, hn, ok, by omega, by omega, fun H6 v6 s6 hv6 => ?_⟩
      obtain ⟨to, rfl, hto⟩ := id hv6
      have h8 := heldL_ln ok hi
      refine ⟨to, rfl, ⟨_, .of hto⟩, fun D2 hD2 => ?_⟩
      refine lc_fm (walk_tup (xs := (heldL counts (i : Int)).map V.int)) rRow (fun j => (heldL counts (i : Int))[j]?.bind fun x => some (A.getD x.toNat [])) hD2 (fun H' s' => .of (s' _ _ hto)) ?_ ?_
      · rintro j y H7 H8 hj pw ⟨rfl, hy⟩
        obtain ⟨y, hy2, rfl⟩ := at_int hy
        rw [List.length_map] at hj
        obtain ⟨y0, y1⟩ := held_lt ok (List.mem_of_getElem? hy2)
        obtain ⟨k, rfl⟩ : ∃ k : Nat, y = (k : Int) := ⟨y.toNat, by omega⟩
        have sA := (pv.1.trans s6).trans pw.1
        obtain ⟨v, hv7, hr7⟩ := paired_get2 hp (i := k) (List.getElem?_eq_getElem (show k < A.length by omega))
        refine ⟨rfl, _, rfl, _, rfl, a, _, _, _, rfl, rfl, .of (sA _ _ ha), atI_nat hv7, ?_⟩
        exact fm_keep mono_row pw hD2 (by omega) (Same.refl _) (by rw [hy2]; show some (A.getD ((k : Nat) : Int).toNat []) = _; rw [Int.toNat_natCast, getD_at (List.getElem?_eq_getElem (show k < A.length by omega))]) (mono_row _ _ _ _ sA.keep hr7)
      · intro H7 zs s7 hD7 hp7
        rw [List.length_map, fm_some] at hp7
        refine ⟨D2, _, rfl, .inl ⟨.of hD7, fun tq ntq => ?_⟩⟩
        have s5 := same_new (o := .tup zs) ntq
        exact fm_keep (mono_tup mono_row) pv hD (by omega) ((s6.trans s7).trans s5) rfl ⟨tq, zs, rfl, upd_same, paired_mono mono_row s5.keep hp7⟩
    · intro H4 ys s4 hD4 hp4
      rw [fm_all] at hp4
      refine ⟨D, _, rfl, .inl ⟨.of hD4, fun tq ntq => ?_⟩⟩
      have s5 := same_new (o := .tup ys) ntq
      exact q _ _ (s4.trans s5) ⟨tq, ys, rfl, upd_same, paired_mono (mono_tup mono_row) s5.keep hp4⟩
def spWayB (cT cS : Addr) : Sp := fun vs H Q _ => ∃ (u : V) (S : SD) (n wd : Nat), vs = [u] ∧ rSheet cT cS H u S ∧ SheetOk S n ∧ S.holds.sum = (wd : Int) ∧ canU S wd = true ∧
  ∀ H' c vs' A, Same H H' → H c = none → H' c = some (.lst vs') → Paired (rRow H') vs' A → IsInv S.p wd (rowsW S) A → Q (.ref c) H'
theorem ok_wayB (T : Tx K mg cT cS) {f : Addr} {fd : FuncData} (d : D K mg "way_back" s_way_back ["sheet"] f fd) : FnOk P w K mg base CX0 5 f fd ["sheet"] (spWayB cT cS) := by
  obtain ⟨f1, fd1, d1⟩ := T.d_can_be_undone
  have G1 := ok_canU (P := P) (w := w) (base := base) T d1
  obtain ⟨f2, fd2, d2⟩ := T.d_all_wants
  have G2 := ok_allW (P := P) (w := w) (base := base) T d2
  obtain ⟨f3, fd3, d3⟩ := T.d_unit_rows
  have G3 := ok_units (P := P) (w := w) (base := base) T d3
  obtain ⟨f4, fd4, d4⟩ := T.d_mixtures
  have G4 := ok_mixs (P := P) (w := w) (base := base) T d4
  refine d.F.ok sc_way_back (fun vs H Q E h => ?_) (fun cdv A outer s H vs Q E hr h => ?_)
  · obtain ⟨u, S, n, wd, rfl, _⟩ := h
    rfl
  · obtain ⟨u, S, n, wd, rfl, hS, ok, hwd, hc, q⟩ := h
    refine ⟨_, pss_cons (ps_if (pt_not (pt_val (pe_call G1 (hr.mono (by decide)) rfl d1.m d1.F.kp d1.b .nil pass0 (pa_cons (pv 0) pa_nil)))) pss_never pss_nil)
      (pss_one (ps_ret (pe_call G4 (hr.mono (by decide)) rfl d4.m d4.F.kp d4.b .nil pass0 (pa_cons (pe_fld (pv 0) rfl) (pa_cons (pe_fld (pv 0) rfl) (pa_cons (pe_call G2 (hr.mono (by decide)) rfl d2.m d2.F.kp d2.b .nil pass0 (pa_cons (pv 0) pa_nil)) (pa_cons (pe_call G3 (hr.mono (by decide)) rfl d3.m d3.F.kp d3.b .nil pass0 (pa_cons (pe_fld (pv 0) rfl) pa_nil)) pa_nil))))))), ?_⟩
    obtain ⟨fS, fdS, kS⟩ := T.k_Sheet
    have nm : NoAttr K cS "numbers" := kS.na _ (by simp)
    have np : NoAttr K cS "p" := kS.na _ (by simp)
    obtain ⟨a, dx, tr, th, tw, rfl, hI, hT, hth, hwt⟩ := id hS
    have hs60 := ok.holds.s
    have hr60 : (rowsW S).length ≤ 60 := by rw [rowsW_len]; exact ok.wants.s
    have hrw : ∀ r ∈ rowsW S, isRow r S.p wd := fun r hr => by rw [← hwd]; exact rowsW_row ok r hr
    have hc2 : (rowsW S).length = wd ∧ rk S.p wd (rowsW S) = wd := by
      unfold canU at hc
      simpa using hc
    refine ⟨_, rfl, .ref a, S, n, wd, rfl, hS, ok, hwd, fun H1 s1 => ?_⟩
    rw [hc]
    refine ⟨_, rfl, iteF ?_⟩
    dsimp only [gName, tSeq]
    refine ⟨_, rfl, a, cS, dx, _, _, rfl, s1.keep.ins hI, kS.cl, np, sfs_p, _, rfl, a, cS, dx, _, _, rfl, s1.keep.ins hI, kS.cl, nm, sfs_numbers, _, rfl, .ref a, S, n, rfl, mono_sheet cT cS _ _ _ _ s1.keep hS, ok, fun H2 r xs s2 nr hr2 hp2 => ?_⟩
    have s12 := s1.trans s2
    have lxs := paired_len hp2
    refine ⟨_, rfl, a, cS, dx, _, _, rfl, s12.keep.ins hI, kS.cl, nm, sfs_numbers, wd, ?_, by omega, fun H3 b us s3 nb hb hus => ?_⟩
    · show [V.int S.holds.sum] = _
      rw [hwd]
    have s13 := s12.trans s3
    have lu : (uRows wd).length = wd := by unfold uRows; simp
    refine ⟨r, b, S.p, wd, xs, rowsW S, us, uRows wd, by show [V.int S.p, V.int S.holds.sum, _, _] = _; rw [hwd], .inl (s3 _ _ hr2), paired_mono mono_row s3.keep hp2, by omega, ok.clock.prm, ok.clock.2.1, by omega, hrw, hb, hus, by omega, fun row hrow => ?_, fun H4 c vs' s4 nc hc4 hp4 => ?_⟩
    · obtain ⟨i, hi, rfl⟩ := List.mem_map.mp hrow
      have hur := unit_row ok.clock.prm.1 (List.mem_range.mp hi)
      exact ⟨hur, spn_full ok.clock.prm hrw hc2.2 hur⟩
    obtain ⟨A, hA1, hA2⟩ : ∃ A : List (List Int), Paired (rRow H4) vs' A ∧ Paired (fun l row => IsMix S.p wd (rowsW S) row l) A (uRows wd) := by
      generalize uRows wd = R at hp4
      clear hus lu q hc4
      induction hp4 with
      | nil => exact ⟨[], .nil, .nil⟩
      | cons h _ ih =>
        obtain ⟨l, h1, h2⟩ := h
        obtain ⟨A, i1, i2⟩ := ih
        exact ⟨l :: A, .cons h1 i1, .cons h2 i2⟩
    have lA := paired_len hA2
    refine q _ c vs' A (s13.trans s4) (s13.free nc) hc4 hA1 ⟨by omega, fun k hk => ?_⟩
    obtain ⟨l, e1, e2⟩ := paired_get2 hA2 (i := k) (show (uRows wd)[k]? = some (uRow wd k) by unfold uRows; rw [List.getElem?_map, List.getElem?_range hk]; rfl)
    rw [getD_at e1]
    exact e2
end
end S4

namespace S4
open PySem L2 TT MM EE
/-! ### undone, what is worked out -/
abbrev cNS (mg : Str → Option Value) : Addr := adr mg "NotSure"
section
variable {P : Program} {w : World} {K : PySem.W.Frag} {mg : Str → Option Value} {base : Heap} {cT cS : Addr}
theorem EX.ex {x : Str} {C : Addr} (e : EX K mg x C) {A : Addr} {b : Bool} (h : PySem.W.subIn K (.ref A) (.ref C) = some b) : PySem.W.exmOne K (.ref A) (.ref C) = some b := PySem.W.exm_ref e.ec.hs e.ec.hd e.ty h
def spUndone (cT cS : Addr) : Sp := fun vs H Q _ => ∃ (u : V) (S : SD) (n wd : Nat), vs = [u] ∧ rSheet cT cS H u S ∧ SheetOk S n ∧ S.holds.sum = (wd : Int) ∧ canU S wd = true ∧
  ∀ H' v A, Same H H' → rSheet cT cS H' v (undOf S n A) → IsInv S.p wd (rowsW S) A → Q v H'
theorem ok_undone (T : Tx K mg cT cS) {f : Addr} {fd : FuncData} (d : D K mg "undone" s_undone ["sheet"] f fd) : FnOk P w K mg base CX0 7 f fd ["sheet"] (spUndone cT cS) := by
  obtain ⟨f1, fd1, d1⟩ := T.d_way_back
  have G1 := ok_wayB (P := P) (w := w) (base := base) T d1
  obtain ⟨f2, fd2, d2⟩ := T.d_want_counts
  have G2 := ok_wcnt (P := P) (w := w) (base := base) T d2
  obtain ⟨f3, fd3, d3⟩ := T.d_by_posts
  have G3 := ok_byposts (P := P) (w := w) (base := base) T d3
  obtain ⟨f4, fd4, k4⟩ := T.k_Sheet
  have G4 := ok_Sheet (P := P) (w := w) (base := base) T k4
  refine d.F.ok sc_undone (fun vs H Q E h => ?_) (fun cdv A outer s H vs Q E hr h => ?_)
  · obtain ⟨u, S, n, wd, rfl, _⟩ := h
    rfl
  · obtain ⟨u, S, n, wd, rfl, hS, ok, hwd, hc, q⟩ := h
    refine ⟨_, pss_cons (ps_set (i := 1) sc_undone.nd rfl (.inl rfl) (pe_call G1 (hr.mono (by decide)) rfl d1.m d1.F.kp d1.b .nil pass0 (pa_cons (pv 0) pa_nil)))
      (pss_one (ps_ret (pe_make k4.mkf G4 (hr.mono (by decide)) rfl k4.m k4.b .nil pass0 (pa_cons (pe_fld (pv 0) rfl) (pa_cons (pe_fld (pv 0) rfl) (pa_cons (pe_call G2 (hr.mono (by decide)) rfl d2.m d2.F.kp d2.b .nil pass0 (pa_cons (pv 0) pa_nil)) (pa_cons (pe_call G3 (hr.mono (by decide)) rfl d3.m d3.F.kp d3.b .nil pass0 (pa_cons (pe_fld (pv 0) rfl) (pa_cons (pv 1) pa_nil))) pa_nil))))))), ?_⟩
    obtain ⟨fS, fdS, kS⟩ := T.k_Sheet
    have np : NoAttr K cS "p" := kS.na _ (by simp)
    have nt : NoAttr K cS "tree" := kS.na _ (by simp)
    have nh : NoAttr K cS "holds" := kS.na _ (by simp)
    obtain ⟨a, dx, tr, th, tw, rfl, hI, hT, hth, hwt⟩ := id hS
    have hc2 : (rowsW S).length = wd ∧ rk S.p wd (rowsW S) = wd := by
      unfold canU at hc
      simpa using hc
    refine ⟨_, rfl, .ref a, S, n, wd, rfl, hS, ok, hwd, hc, fun H1 c us A s1 nc hc1 hp1 hA => ?_⟩
    dsimp only [gName, tSeq]
    refine ⟨_, rfl, a, cS, dx, _, _, rfl, s1.keep.ins hI, kS.cl, np, sfs_p, _, rfl, a, cS, dx, _, _, rfl, s1.keep.ins hI, kS.cl, nt, sfs_tree, _, rfl, .ref a, S, n, rfl, mono_sheet cT cS _ _ _ _ s1.keep hS, ok, fun H2 v2 s2 hv2 => ?_⟩
    have s12 := s1.trans s2
    refine ⟨_, rfl, a, cS, dx, _, _, rfl, s12.keep.ins hI, kS.cl, nh, sfs_holds, _, rfl, .ref th, c, us, S.holds, n, A, rfl, mono_row _ _ _ _ s12.keep hth, ok.holds, ok.ties.n24, s2 _ _ hc1, paired_mono mono_row s2.keep hp1, by rw [hwd, hA.len]; omega, fun H3 v3 s3 hv3 => ?_⟩
    have s13 := s12.trans s3
    refine fun x dx2 nx ndx nex => ?_
    have s4 := same_make (C := cS) nx ndx nex
    have trx : V.ref tr ≠ V.ref x := fun e => by
      obtain ⟨_, _, _, _, e2, h2, _⟩ := mono_tree cT _ _ _ _ s13.keep hT
      cases e2
      rw [V.ref.inj e, nx] at h2
      cases h2
    refine ⟨x, dx2, _, _, _, undOf S n A, n, rfl, upd_same, mono_tree cT _ _ _ _ (s13.trans s4).keep hT, trx, mono_row _ _ _ _ (s3.trans s4).keep hv2, mono_wants _ _ _ _ s4.keep hv3, und_ok ok hwd hc2.1 hA, fun H7 k7 hS7 => ⟨rfl, ?_⟩⟩
    exact q _ _ A (fun b o e => k7 b o (fun z => by subst z; rw [s13 _ _ e] at nx; cases nx) ((s13.trans s4) _ _ e)) hS7 hA
def spSureR (cT cS : Addr) (mg : Str → Option Value) : Sp := fun vs H Q _ => ∃ (u : V) (S : RD) (n wd : Nat), vs = [u] ∧ rRO cT mg H u S ∧ RulesOk S n ∧ S.unk.sum = (wd : Int) ∧ ∀ H', Same H H' → Q (.bl (canU (shOf S) wd)) H'
theorem ok_sureR (T : Tx K mg cT cS) {f : Addr} {fd : FuncData} (d : D K mg "are_sure" s_are_sure ["rules"] f fd) : FnOk P w K mg base CX0 8 f fd ["rules"] (spSureR cT cS mg) := by
  obtain ⟨f1, fd1, d1⟩ := T.d_rule_sheet
  have G1 := ok_rsheet (P := P) (w := w) (base := base) T d1
  obtain ⟨f2, fd2, d2⟩ := T.d_can_be_undone
  have G2 := ok_canU (P := P) (w := w) (base := base) T d2
  refine d.F.ok sc_are_sure (fun vs H Q E h => ?_) (fun cdv A outer s H vs Q E hr h => ?_)
  · obtain ⟨u, S, n, wd, rfl, _⟩ := h
    rfl
  · obtain ⟨u, S, n, wd, rfl, hR, ok, hwd, q⟩ := h
    refine ⟨_, pss_one (ps_ret (pe_call G2 (hr.mono (by decide)) rfl d2.m d2.F.kp d2.b .nil pass0 (pa_cons (pe_call G1 (hr.mono (by decide)) rfl d1.m d1.F.kp d1.b .nil pass0 (pa_cons (pv 0) pa_nil)) pa_nil))), ?_⟩
    refine ⟨_, rfl, u, S, n, rfl, hR, ok, fun H1 v s1 hv => ?_⟩
    exact ⟨v, shOf S, n, wd, rfl, hv, shOf_ok ok, hwd, fun H2 s2 => q _ (s1.trans s2)⟩
def spWorked (cT cS : Addr) (mg : Str → Option Value) : Sp := fun vs H Q E => ∃ (u : V) (S : RD) (n wd : Nat), vs = [u] ∧ rRO cT mg H u S ∧ RulesOk S n ∧ S.unk.sum = (wd : Int) ∧
  (canU (shOf S) wd = false → ∀ H', Same H H' → E (.ref (cNS mg)) none H') ∧
  (canU (shOf S) wd = true → ∀ H' v A, Same H H' → rSheet cT cS H' v (undOf (shOf S) n A) → IsInv S.p wd (rowsW (shOf S)) A → Q v H')
theorem ok_worked (T : Tx K mg cT cS) {f : Addr} {fd : FuncData} (d : D K mg "worked_out" s_worked_out ["rules"] f fd) : FnOk P w K mg base (L2.CX P w) 9 f fd ["rules"] (spWorked cT cS mg) := by
  obtain ⟨f1, fd1, d1⟩ := T.d_are_sure
  have G1 := ok_sureR (P := P) (w := w) (base := base) T d1
  obtain ⟨f2, fd2, d2⟩ := T.d_rule_sheet
  have G2 := ok_rsheet (P := P) (w := w) (base := base) T d2
  obtain ⟨f3, fd3, d3⟩ := T.d_undone
  have G3 := ok_undone (P := P) (w := w) (base := base) T d3
  refine d.F.okX sc_worked_out (fun vs H Q E h => ?_) (fun cdv A outer s H vs Q E hr h => ?_)
  · obtain ⟨u, S, n, wd, rfl, _⟩ := h
    rfl
  · obtain ⟨u, S, n, wd, rfl, hR, ok, hwd, q1, q2⟩ := h
    refine ⟨_, pss_cons (ps_if (pt_not (pt_val (pe_call G1 (hr.mono (by decide)) rfl d1.m d1.F.kp d1.b .nil pass0 (pa_cons (pv 0) pa_nil)))) (pss_one (ps_raise rfl (takes_of rfl rfl rfl rfl) (pmk_own0 PySem.F.excBase_ValueError T.p_NotSure T.e_NotSure.m T.e_NotSure.kp (raises_own T.e_NotSure.ec.hs T.e_NotSure.ty) rfl))) pss_nil)
      (pss_one (ps_ret (pe_call G3 (hr.mono (by decide)) rfl d3.m d3.F.kp d3.b .nil pass0 (pa_cons (pe_call G2 (hr.mono (by decide)) rfl d2.m d2.F.kp d2.b .nil pass0 (pa_cons (pv 0) pa_nil)) pa_nil)))), ?_⟩
    refine ⟨_, rfl, u, S, n, wd, rfl, hR, ok, hwd, fun H1 s1 => ⟨_, rfl, ?_⟩⟩
    cases hc : canU (shOf S) wd with
    | false => exact iteT (q1 hc _ s1)
    | true =>
      refine iteF ?_
      dsimp only [gName, tSeq]
      refine ⟨_, rfl, u, S, n, rfl, mono_ro cT mg _ _ _ _ s1.keep hR, ok, fun H2 v s2 hv => ?_⟩
      exact ⟨v, shOf S, n, wd, rfl, hv, shOf_ok ok, hwd, hc, fun H3 v3 A s3 hv3 hA => q2 hc _ v3 A ((s1.trans s2).trans s3) hv3 hA⟩
def tbWord (cT cS : Addr) (mg : Str → Option Value) (W : WX) : TS := tAsg (tCallS (spWorked cT cS mg) (WE W) (tCons (tVar 0) tNil)) (gName 1)
def tIsE (K : PySem.W.Frag) (a : Addr) (cls : Value) (d : Option Addr) (i : Nat) (v : V) : TE := tCB (rIsG K cls d a) (tCons (tVar i) (tCons (tC v) tNil))
def tsWord (K : PySem.W.Frag) (mg : Str → Option Value) (a : Addr) (cls : Value) (d : Option Addr) : TS :=
  tAsg (tIf (tAnd (tB (tIsE K a cls d 2 (.ref (adr mg "TollError")))) (tB (tIsE K a cls d 2 (.ty "ValueError")))) (tC (.str "not sure")) (tC (.str "other"))) (gName 1)
def spLWord (cT cS : Addr) (mg : Str → Option Value) : Sp := fun vs H Q _ => ∃ (u : V) (S : RD) (n wd : Nat), vs = [u] ∧ rRO cT mg H u S ∧ RulesOk S n ∧ S.unk.sum = (wd : Int) ∧
  (canU (shOf S) wd = false → ∀ H', Same H H' → Q (.str "not sure") H') ∧
  (canU (shOf S) wd = true → ∀ H' v A, Same H H' → rSheet cT cS H' v (undOf (shOf S) n A) → IsInv S.p wd (rowsW (shOf S)) A → Q v H')
theorem ok_lword (T : Tx K mg cT cS) {f : Addr} {fd : FuncData} (d : D K mg "_law_word" s_law_word ["rules"] f fd) : FnOk P w K mg base CX0 10 f fd ["rules"] (spLWord cT cS mg) := by
  obtain ⟨f1, fd1, d1⟩ := T.d_worked_out
  have G1 : FnOk P w K mg base (L2.CX P w) 9 f1 fd1 ["rules"] (spWorked cT cS mg) := ok_worked T d1
  refine d.F.ok sc_law_word (fun vs H Q E h => ?_) (fun cdv A outer s H vs Q E hr h => ?_)
  · obtain ⟨u, S, n, wd, rfl, _⟩ := h
    rfl
  · obtain ⟨u, S, n, wd, rfl, hR, ok, hwd, q1, q2⟩ := h
    refine ⟨_, pss_cons (ps_set (i := 1) sc_law_word.nd rfl (.inl rfl) pe_str)
      (pss_cons (ps_try_as (i := 2) (tb := tbWord cT cS mg) (ts := tsWord K mg) (Wout := fun _ _ _ _ => False) rfl rfl sc_law_word.nd rfl rfl ⟨rfl, by decide, .inl T.e_NotSure.m⟩ takes0
          (fun W pn xe tk _ => pss_one (ps_set (i := 1) sc_law_word.nd rfl (.inl rfl) (pe_callS G1 hr rfl d1.m d1.F.kp d1.b (fun σ => passAt tk σ) (pa_cons (pv 0) pa_nil))))
          (fun a oe cls dd pn hz hf => pss_one (ps_set (i := 1) sc_law_word.nd rfl (.inl rfl) (pe_ifExp (PW.pt (pw_and (pt_val (pe_callB (call_isG hz hf) (by rfl) T.b_isinstance (by decide +kernel) (pa_cons (pv 2) (pa_cons (pe_glob (v := .ref (adr mg "TollError")) rfl T.e_TollError.m rfl) pa_nil))))
                (pw_and1 (pt_val (pe_callB (call_isG hz hf) (by rfl) T.b_isinstance (by decide +kernel) (pa_cons (pv 2) (pa_cons (pe_bltn (v := .ty "ValueError") (by rfl) T.b_ValueError (by decide +kernel) (u := .type "ValueError") rfl) pa_nil)))))))
              pe_str pe_str))))
      (pss_one (ps_ret (pv 1)))), ?_⟩
    dsimp only [gName, tSeq]
    refine ⟨_, rfl, u, S, n, wd, rfl, hR, ok, hwd, fun hc H' s' => ?_, fun hc H' v A s' hv hA => ?_⟩
    · refine ⟨true, T.e_NotSure.ex T.u_NotSure_NotSure, fun _ a ha => ?_, fun z => nomatch z⟩
      refine ⟨_, rfl, cNS mg, _, _, true, rfl, rfl, T.e_NotSure.ec, .inl rfl, ref_cls, kit_sub T.e_TollError.ec.hd T.e_TollError.ty T.u_TollError_TollError T.u_NotSure_TollError, _, rfl, ?_⟩
      refine iteT ⟨_, rfl, cNS mg, _, _, true, rfl, rfl, T.e_NotSure.ec, .inl rfl, ty_cls, T.e_NotSure.ve, true, rfl, iteT ?_⟩
      exact ⟨_, rfl, q1 hc _ s'⟩
    · dsimp only [gName, tSeq]
      exact ⟨_, rfl, q2 hc _ v A s' hv hA⟩
end
end S4

namespace S4
open PySem L2 TT MM EE
/-! ### what is wanted, by a given -/
def dsP (p : Int) (r g : List Int) (i : Nat) : Int := ((List.range i).map fun j => r.getD j 0 * g.getD j 0).sum % p
theorem dsP_zero (p : Int) (r g : List Int) : dsP p r g 0 = 0 := by unfold dsP; simp
theorem dsP_succ (p : Int) (r g : List Int) (i : Nat) : dsP p r g (i + 1) = (dsP p r g i + r.getD i 0 * g.getD i 0) % p := by
  unfold dsP
  rw [List.range_succ, List.map_append, List.sum_append, Int.emod_add_emod]
  simp
theorem dsP_all (p : Int) (r g : List Int) : dsP p r g r.length = dotU p r g := rfl
def wantV (p : Int) (A : List (List (List Int))) (g : List Int) : List (List Int) := A.map fun own => own.map fun r => dotU p r g
def scWa : Scope := { kind := .function, names := [(".0", .local), ("rows", .local), ("bare", .globalImplicit), ("sheet", .cell), ("starts", .cell)], isGenerator := false, isCoroutine := false }
section
variable {P : Program} {w : World} {K : PySem.W.Frag} {mg : Str → Option Value} {base : Heap} {cT cS : Addr}
def spMixed1 : Sp := fun vs H Q _ => ∃ (u : V) (a : Addr) (p : Int) (r g : List Int) (us : List V), vs = [.int p, .int 1, u, .ref a] ∧ 2 ≤ p ∧ p ≤ 1000000 ∧ rRow H u r ∧ H a = some (.lst us) ∧ Paired (rRow H) us (g.map fun x => [x]) ∧ r.length = g.length ∧ r.length ≤ 60 ∧ InB p r ∧ InB p g ∧
  ∀ H' v, Same H H' → rRow H' v [dotU p r g] → Q v H'
theorem ok_mixed1 (T : Tx K mg cT cS) {f : Addr} {fd : FuncData} (d : D K mg "mixed" s_mixed ["p", "wide", "factors", "rows"] f fd) : FnOk P w K mg base CX0 1 f fd ["p", "wide", "factors", "rows"] spMixed1 := by
  refine d.F.ok sc_mixed (fun vs H Q E h => ?_) (fun cdv A outer s H vs Q E hr h => ?_)
  · obtain ⟨u, a, p, r, g, us, rfl, _⟩ := h
    rfl
  · obtain ⟨u, a, p, r, g, us, rfl, p2, pm, hu, ha, hp, hl, h60, hr1, hg, q⟩ := h
    refine ⟨_, pss_cons (ps_set (i := 4) sc_mixed.nd rfl (.inl rfl) (pe_op op_repA (pe_tup (pa_cons pe_int pa_nil)) (pv 1)))
      (pss_cons (ps_for PassesOwn.never rfl (pi_zipM (by rfl) T.b_zip (pa_cons (pv 2) (pa_cons (pv 3) pa_nil))) (pg_tup rfl (pgs_cons (pg_name (i := 5) sc_mixed.nd rfl (.inr rfl)) (pgs_cons (pg_name (i := 6) sc_mixed.nd rfl (.inl rfl)) pgs_nil)))
        (pss_one (ps_if (pt_truth (pv 5) (by intro _; rfl)) (pss_one (ps_set (i := 4) sc_mixed.nd rfl (.inl rfl) (pe_callTy call_tuple_of (by rfl) T.b_tuple (by decide +kernel) (pa_cons (pe_lc (own := [("value", 7), ("more", 8)]) (g := (gTup K 2 (gCons (gName 7) (gCons (gName 8) gNil)))) (tt := tYes) rfl sc_mixed.nd (RZ.pi_zipA (by rfl) T.b_zip (pa_cons (pv 4) (pa_cons (pv 6) pa_nil))) (blkOk_by (N := N_mixed) (sc := defScope s_mixed) (by decide +kernel)) (fun _ _ _ _ _ => (pgT rfl rfl (pgs_cons (pg_name (i := 7) sc_mixed.nd rfl (Or.inl rfl)) (pgs_cons (pg_name (i := 8) sc_mixed.nd rfl (Or.inl rfl)) pgs_nil)))) (fun _ _ _ _ _ => pts_nil)
            (fun _ _ _ _ _ => (pe_op op_mod (pe_op op_add (pv 7) (pe_op op_mul (pv 5) (pv 8))) (pv 0)))) pa_nil)))) pss_nil)))
      (pss_one (ps_ret (pv 4)))), ?_⟩
    obtain ⟨tr, rfl, htr⟩ := id hu
    have lus := paired_len hp
    rw [List.length_map] at lus
    refine ⟨by show 1 ≤ sizeLine; decide, fun t nt => ⟨_, rfl, ?_⟩⟩
    refine zeros (k := 1) upd_same (by omega) fun H2 v2 s2 hrow2 => ?_
    have s02 := (same_new nt).trans s2
    dsimp only [gName, tSeq]
    refine ⟨_, rfl, _, rfl, tr, a, _, us, false, true, rfl, .of (s02 _ _ htr), .of (s02 _ _ ha), ?_⟩
    refine for_it (walk_zipM (n := r.length) (by rw [List.length_map]; omega)) (fun i σ H' => Same H H' ∧ ∃ (v : V) (x y : Option V), σ = [some (.int p), some (.int 1), some (.ref tr), some (.ref a), some v, x, y, none, none] ∧ rRow H' v [dsP p r g i])
      ⟨s02, v2, none, none, rfl, by rw [dsP_zero]; exact hrow2⟩ (fun i σ H' _ h => ⟨.of (h.1 _ _ htr), .of (h.1 _ _ ha)⟩) ?_ ?_
    · rintro i x σ H3 H4 hi ⟨s3, v, x1, x2, rfl, hrow⟩ ⟨tz, u1, u2, rfl, nz, rfl, e1, e2⟩
      have s4 := same_new (o := .tup [u1, u2]) nz
      obtain ⟨c, hc, rfl⟩ := at_int e1
      obtain ⟨gx, hgx, hm⟩ := paired_get (paired_mono mono_row (s3.trans s4).keep hp) e2
      rw [List.getElem?_map] at hgx
      obtain ⟨m, hgm, rfl⟩ := Option.map_eq_some_iff.mp hgx
      have ec : r.getD i 0 = c := getD_at hc
      have em : g.getD i 0 = m := getD_at hgm
      have hcb := hr1 c (List.mem_of_getElem? hc)
      have hmb := hg m (List.mem_of_getElem? hgm)
      have hst := dsP_succ p r g i
      rw [ec, em] at hst
      have hdb : 0 ≤ dsP p r g i ∧ dsP p r g i < p := mod_b (by omega)
      refine ⟨tz, _, rfl, .of upd_same, rfl, _, _, rfl, _, _, rfl, rfl, ?_⟩
      refine ⟨_, rfl, _, rfl, ?_⟩
      by_cases h0 : c = 0
      · subst h0
        refine iteF ⟨s3.trans s4, v, _, _, rfl, ?_⟩
        rw [hst, Int.zero_mul, Int.add_zero, Int.emod_eq_of_lt hdb.1 hdb.2]
        exact mono_row _ _ _ _ s4.keep hrow
      · have hbn : (c != 0) = true := by rw [bne_iff_ne]; exact h0
        rw [hbn]
        obtain ⟨t', rfl, ht'⟩ := mono_row _ _ _ _ s4.keep hrow
        obtain ⟨t2, rfl, ht2⟩ := hm
        refine iteT ⟨_, rfl, _, rfl, t', t2, _, _, rfl, .inr ⟨.of ht', .of ht2, fun D hD => ?_⟩⟩
        refine lc_fm (walk_zipT (n := 1) rfl) rInt (fun j => some ((dsP p r g i + c * m) % p)) hD (fun H' s' => ⟨.of (s'.keep.tup ht'), .of (s'.keep.tup ht2)⟩) ?_ ?_
        · rintro j x H5 H6 hj pv ⟨ty, w1, w2, rfl, ny, rfl, f1, f2⟩
          have : j = 0 := by omega
          subst this
          cases f1
          cases f2
          have s6 := same_new (o := .tup [V.int (dsP p r g i), V.int m]) ny
          refine ⟨ty, _, rfl, .of upd_same, rfl, _, _, rfl, _, _, rfl, rfl, rfl, ?_⟩
          refine ⟨_, rfl, _, rfl, _, rfl, _, _, rfl, rfl, .inl ⟨by omega, by omega⟩, _, _, rfl, rfl, _, rfl, _, _, rfl, rfl, by omega, ?_⟩
          exact fm_keep mono_int pv hD (by omega) s6 rfl rfl
        · intro H5 ys s5 hD5 hp5
          have := paired_int hp5
          subst this
          refine ⟨D, _, rfl, .inl ⟨.of hD5, fun tq ntq => ?_⟩⟩
          refine ⟨((s3.trans s4).trans s5).trans (same_new ntq), _, _, _, rfl, tq, rfl, ?_⟩
          rw [hst]
          exact upd_same
    · rintro σ H3 ⟨s3, v, x1, x2, rfl, hrow⟩
      exact ⟨_, rfl, q _ v s3 hrow⟩
def spBare : Sp := fun vs H Q _ => ∃ (a : Addr) (us : List V) (l : List Int), vs = [.ref a] ∧ H a = some (.lst us) ∧ Paired (rRow H) us (l.map fun x => [x]) ∧ l.length ≤ 1000 ∧ ∀ H' v, Same H H' → rRow H' v l → Q v H'
theorem ok_bare (T : Tx K mg cT cS) {f : Addr} {fd : FuncData} (d : D K mg "bare" s_bare ["rows"] f fd) : FnOk P w K mg base CX0 1 f fd ["rows"] spBare := by
  refine d.F.ok sc_bare (fun vs H Q E h => ?_) (fun cdv A outer s H vs Q E hr h => ?_)
  · obtain ⟨a, us, l, rfl, _⟩ := h
    rfl
  · obtain ⟨a, us, l, rfl, ha, hp, hl, q⟩ := h
    refine ⟨_, pss_one (ps_ret (pe_callTy call_tuple_of (by rfl) T.b_tuple (by decide +kernel) (pa_cons (pe_lc (own := [("row", 1)]) (g := (gName 1)) (tt := tYes) rfl sc_bare.nd (pi_list (pv 0)) (blkOk_by (N := N_bare) (sc := defScope s_bare) (by decide +kernel)) (fun _ _ _ _ _ => (pg_name (i := 1) sc_bare.nd rfl (Or.inl rfl))) (fun _ _ _ _ _ => pts_nil)
            (fun _ _ _ _ _ => (pe_ix (ixT (K := K) rfl) (pv 1) pe_int (fun _ _ => rfl)))) pa_nil))), ?_⟩
    have lus := paired_len hp
    rw [List.length_map] at lus
    refine ⟨_, rfl, a, rfl, ⟨us, .of ha⟩, fun D hD => ?_⟩
    refine lc_fm (walk_list (xs := us)) rInt (fun i => l[i]?) hD (fun H' s' => .of (s' _ _ ha)) ?_ ?_
    · rintro i x H4 H5 hi pv ⟨rfl, hx⟩
      obtain ⟨gx, hgx, hm⟩ := paired_get (paired_mono mono_row pv.1.keep hp) hx
      rw [List.getElem?_map] at hgx
      obtain ⟨m, hgm, rfl⟩ := Option.map_eq_some_iff.mp hgx
      obtain ⟨t, rfl, ht⟩ := hm
      refine ⟨rfl, _, rfl, t, _, _, V.int m, rfl, rfl, .of ht, at_of (j := 0) rfl rfl, ?_⟩
      exact fm_keep mono_int pv hD (by omega) (Same.refl _) hgm rfl
    · intro H4 ys s4 hD4 hp4
      have e : (List.range us.length).filterMap (fun i => l[i]?) = l := by
        rw [lus]
        have h1 := fm_list l (fun x => some x)
        rw [show (fun i => l[i]?) = fun i => l[i]?.bind fun x => some x from funext fun i => by cases l[i]? <;> rfl, h1]
        simp
      rw [e] at hp4
      have := paired_int hp4
      subst this
      refine ⟨D, _, rfl, .inl ⟨.of hD4, fun tq ntq => ?_⟩⟩
      exact q _ _ (s4.trans (same_new ntq)) ⟨tq, rfl, upd_same⟩
def spChG (cT cS : Addr) : Sp := fun vs H Q _ => ∃ (u v : V) (S : SD) (n : Nat) (g : List Int), vs = [u, v] ∧ rSheet cT cS H u S ∧ SheetOk S n ∧ rRow H v g ∧ isRow g S.p S.holds.sum ∧ ∀ H', Same H H' → Q .non H'
theorem ok_chG (T : Tx K mg cT cS) {f : Addr} {fd : FuncData} (d : D K mg "check_given" s_check_given ["sheet", "given"] f fd) : FnOk P w K mg base CX0 4 f fd ["sheet", "given"] (spChG cT cS) := by
  obtain ⟨f1, fd1, d1⟩ := T.d_is_row
  have G1 := ok_is_row (P := P) (w := w) (base := base) T d1
  refine d.F.ok sc_check_given (fun vs H Q E h => ?_) (fun cdv A outer s H vs Q E hr h => ?_)
  · obtain ⟨u, v, S, n, g, rfl, _⟩ := h
    rfl
  · obtain ⟨u, v, S, n, g, rfl, hS, ok, hg, ir, q⟩ := h
    refine ⟨_, pss_one (ps_if (pt_not (pt_val (pe_call G1 (hr.mono (by decide)) rfl d1.m d1.F.kp d1.b .nil pass0 (pa_cons (pv 1) (pa_cons (pe_fld (pv 0) rfl) (pa_cons (pe_fld (pv 0) rfl) pa_nil)))))) pss_never pss_nil), ?_⟩
    obtain ⟨fS, fdS, kS⟩ := T.k_Sheet
    have nm : NoAttr K cS "numbers" := kS.na _ (by simp)
    have np : NoAttr K cS "p" := kS.na _ (by simp)
    obtain ⟨a, dx, tr, th, tw, rfl, hI, hT, hth, hwt⟩ := id hS
    have hs := ok.holds.s
    have hl := ir.1
    refine ⟨_, rfl, _, rfl, a, cS, dx, _, _, rfl, hI, kS.cl, np, sfs_p, _, rfl, a, cS, dx, _, _, rfl, hI, kS.cl, nm, sfs_numbers, v, g, S.p, _, rfl, hg, by omega, ir, fun H2 s2 => ⟨_, rfl, iteF (q _ s2)⟩⟩
def spWanted (cT cS : Addr) : Sp := fun vs H Q _ => ∃ (u v : V) (S : SD) (n : Nat) (g : List Int), vs = [u, v] ∧ rSheet cT cS H u S ∧ SheetOk S n ∧ rRow H v g ∧ isRow g S.p S.holds.sum ∧ ∀ H' v', Same H H' → rTup rRow H' v' (wantV S.p S.wants g) → Q v' H'
theorem ok_wanted (T : Tx K mg cT cS) {f : Addr} {fd : FuncData} (d : D K mg "wanted" s_wanted ["sheet", "given"] f fd) : FnOk P w K mg base CX0 5 f fd ["sheet", "given"] (spWanted cT cS) := by
  obtain ⟨f1, fd1, d1⟩ := T.d_check_given
  have G1 := ok_chG (P := P) (w := w) (base := base) T d1
  obtain ⟨f2, fd2, d2⟩ := T.d_mixed
  have G2 := ok_mixed1 (P := P) (w := w) (base := base) T d2
  obtain ⟨f3, fd3, d3⟩ := T.d_bare
  have G3 := ok_bare (P := P) (w := w) (base := base) T d3
  refine d.F.ok sc_wanted (fun vs H Q E h => ?_) (fun cdv A outer s H vs Q E hr h => ?_)
  · obtain ⟨u, v, S, n, g, rfl, _⟩ := h
    rfl
  · obtain ⟨u, v, S, n, g, rfl, hS, ok, hg, ir, q⟩ := h
    refine ⟨_, pss_cons (ps_expr (pe_call G1 (hr.mono (by decide)) rfl d1.m d1.F.kp d1.b .nil pass0 (pa_cons (pv 0) (pa_cons (pv 1) pa_nil))))
      (pss_cons (ps_set (i := 2) sc_wanted.nd rfl (.inr rfl) (pe_lc (own := [("value", 3)]) (g := (gName 3)) (tt := tYes) rfl sc_wanted.nd (pi_tup (pv 1)) (blkOk_by (N := N_wanted) (sc := defScope s_wanted) (by decide +kernel)) (fun _ _ _ _ _ => (pg_name (i := 3) sc_wanted.nd rfl (Or.inl rfl))) (fun _ _ _ _ _ => pts_nil)
            (fun _ _ _ _ _ => (pe_tup (pa_cons (pv 3) pa_nil)))))
      (pss_one (ps_ret (pe_callTy call_tuple_of (by rfl) T.b_tuple (by decide +kernel) (pa_cons (pe_lc (own := [("rows", 5)]) (g := (gName 5)) (tt := tYes) rfl sc_wanted.nd (pi_tup (pe_fld (pv 0) rfl)) (blkOk_by (N := N_wanted) (sc := defScope s_wanted) (by decide +kernel)) (fun _ _ _ _ _ => (pg_name (i := 5) sc_wanted.nd rfl (Or.inl rfl))) (fun _ _ _ _ _ => pts_nil)
            (fun _ _ _ _ _ => (pe_call G3 (hr.mono (by decide)) rfl d3.m d3.F.kp d3.b .nil pass0 (pa_cons (pe_lc (own := [("row", 4)]) (g := (gName 4)) (tt := tYes) rfl sc_wanted.nd (piT rfl (pi_tup (pv 5))) (blkOk_by (N := N_wanted) (sc := scWa) (own := [("row", 4)]) (by decide +kernel)) (fun _ _ _ _ _ => (pg_name (i := 4) sc_wanted.nd rfl (Or.inl rfl))) (fun _ _ _ _ _ => pts_nil)
            (fun _ _ _ _ _ => (pe_call G2 (hr.mono (by decide)) rfl d2.m d2.F.kp d2.b .nil pass0 (pa_cons (fldK (pv 0) rfl rfl) (pa_cons pe_int (pa_cons (pv 4) (pa_cons (pv 2) pa_nil))))))) pa_nil)))) pa_nil))))), ?_⟩
    obtain ⟨fS, fdS, kS⟩ := T.k_Sheet
    have nw : NoAttr K cS "wants" := kS.na _ (by simp)
    have np : NoAttr K cS "p" := kS.na _ (by simp)
    obtain ⟨a, dx, tr, th, tw, rfl, hI, hT, hth, hwt⟩ := id hS
    obtain ⟨tg, rfl, htg⟩ := id hg
    have hs := ok.holds.s
    have hl := ir.1
    refine ⟨_, rfl, _, rfl, .ref a, .ref tg, S, n, g, rfl, hS, ok, hg, ir, fun H1 s1 => ?_⟩
    dsimp only [tNext, tSeq]
    refine ⟨_, rfl, tg, rfl, ⟨_, .of (s1 _ _ htg)⟩, fun D hD => ?_⟩
    refine lc_fm (walk_tup (xs := g.map V.int)) rRow (fun i => g[i]?.bind fun x => some [x]) hD (fun H' s' => .of (s' _ _ (s1 _ _ htg))) ?_ ?_
    · rintro i x H4 H5 hi pv ⟨rfl, hx⟩
      obtain ⟨y, hy, rfl⟩ := at_int hx
      rw [List.length_map] at hi
      refine ⟨rfl, _, rfl, by show 1 ≤ sizeLine; decide, fun t nt => ?_⟩
      exact fm_keep mono_row pv hD (by omega) (same_new nt) (by rw [hy]; rfl) ⟨t, rfl, upd_same⟩
    intro H2 ys s2 hD2 hp2
    rw [List.length_map, fm_some] at hp2
    have s12 := s1.trans s2
    dsimp only [gName, tSeq]
    obtain ⟨_, xs, e, htl, hxs⟩ := id hwt
    cases e
    have lxs := paired_len hxs
    have hln := ok.wants.len
    have hn24 := ok.ties.n24
    refine ⟨_, rfl, a, cS, dx, _, _, rfl, s12.keep.ins hI, kS.cl, nw, sfs_wants, tw, rfl, ⟨_, .of (s12 _ _ htl)⟩, fun D3 hD3 => ?_⟩
    refine lc_fm (walk_tup (xs := xs)) rRow (fun i => S.wants[i]?.bind fun own => some (own.map fun r => dotU S.p r g)) hD3 (fun H' s' => .of (s' _ _ (s12 _ _ htl))) ?_ ?_
    · rintro i x H4 H5 hi pv ⟨rfl, hx⟩
      have t4 := s12.trans pv.1
      obtain ⟨own, hown, to, xo, rfl, hto, hpo⟩ := paired_get (paired_mono (mono_tup mono_row) t4.keep hxs) hx
      have hlo := paired_len hpo
      obtain ⟨h8, hor⟩ := ok.wants.b own (List.mem_of_getElem? hown)
      refine ⟨rfl, _, rfl, to, rfl, ⟨_, .of hto⟩, fun D4 hD4 => ?_⟩
      refine lc_fm (walk_tup (xs := xo)) rRow (fun j => own[j]?.bind fun r => some [dotU S.p r g]) hD4 (fun H' s' => .of (s' _ _ hto)) ?_ ?_
      · rintro j y H6 H7 hj pw ⟨rfl, hy⟩
        obtain ⟨r, hr2, hrow⟩ := paired_get (paired_mono mono_row pw.1.keep hpo) hy
        have t6 := t4.trans pw.1
        have hrr := hor r (List.mem_of_getElem? hr2)
        have hrl := hrr.1
        refine ⟨rfl, _, rfl, a, cS, dx, _, _, rfl, t6.keep.ins hI, kS.cl, np, sfs_p, _, rfl, _, rfl, y, D, S.p, r, g, ys, rfl, ok.clock.prm.1, ok.clock.2.1, hrow, (pv.1.trans pw.1) _ _ hD2, paired_mono mono_row (pv.1.trans pw.1).keep hp2, by omega, by omega, hrr.2, ir.2, fun H8 v8 s8 hv8 => ?_⟩
        exact fm_keep mono_row pw hD4 (by omega) s8 (by rw [hr2]; rfl) hv8
      · intro H6 zs s6 hD6 hp6
        rw [hlo, fm_some] at hp6
        refine ⟨D4, zs, own.map fun r => dotU S.p r g, rfl, hD6, by rw [List.map_map]; exact hp6, by rw [List.length_map]; omega, fun H7 v7 s7 hv7 => ?_⟩
        exact fm_keep mono_row pv hD3 (by omega) (s6.trans s7) (by rw [hown]; rfl) hv7
    · intro H4 zs s4 hD4 hp4
      rw [lxs, fm_some] at hp4
      refine ⟨D3, _, rfl, .inl ⟨.of hD4, fun tq ntq => ?_⟩⟩
      have s5 := same_new (o := .tup zs) ntq
      exact q _ _ ((s12.trans s4).trans s5) ⟨tq, zs, rfl, upd_same, paired_mono mono_row s5.keep hp4⟩
end
end S4

/-! dicts with tuples for keys: the comprehension -/
namespace TT
open PySem PySem.Spec PyProof.Rows L2
theorem d_dictSetT {X : Cx} {pins : List (Addr × Obj)} {σ : L2.St} {H : Hp} {s : Shared} {E : Value → Shared → Prop} {D b : Addr} {kvs : List (List L2.Key × V)} {k : List L2.Key} {v : V} {u r : Value} {Q : Unit → Shared → Prop}
    (hu : (tupleKind (mixKind X.prog X.w)).room X.A) (I : L2.Inv X pins σ H s) (e : H D = some (.dT kvs)) (eb : H b = some (.tup (k.map kV))) (l : kvs.length < sizeLine) (ry : RelV (.ref b) u) (rv : RelV v r)
    (h : ∀ s', L2.Inv X pins σ (upd H D (.dT (putK kvs k v))) s' → Q () s') : wpAny (model X.prog X.w) X.A (dictSet D u r) Q E s := by
  obtain rfl : u = Value.ref b := ry
  obtain ⟨z, hd, xs, rel, dd⟩ := dt_of I.hok e
  have hz : xs.length ≤ sizeLine := by rw [← rel.length]; exact z
  have hl : (putK kvs k v).length ≤ sizeLine := by have := length_putK kvs k v; omega
  refine wpAny_dictSet_heap hu (key_of I.hok eb) dd (fun h' dd' hs => h _ ?_) hz
  obtain ⟨q, es, ep, hq, h2, h3, h4, _, h5⟩ := dd'
  exact d_write I (by rw [e]; trivial) hs ⟨q, hq⟩ ⟨hl, hd, storedH xs k b r, (KT.put rel k eb rv).keeps fun c ys ec => by rw [upd_ne (ne_of ec e fun z => nomatch z)]; exact ec, q, es, ep, hq, h2, h3, h4, h5⟩
/-- what one entry asks -/
def PutT (H : Hp) (D : Addr) (y z : V) (Nx : Hp → Prop) : Prop := ∃ kvs k b, y = V.ref b ∧ H b = some (.tup (k.map kV)) ∧ H D = some (.dT kvs) ∧ kvs.length < sizeLine ∧ Nx (upd H D (.dT (putK kvs k z)))
def tDcT (wi : TI) (g : TG) (tt : TT) (tk tv : TE) (vs : List Nat) : TE := fun σ H Q => wi σ H fun J H1 => ∀ D : Addr, H1 D = none →
  ∃ W : Nat → Nat → Hp → Prop, (∃ m, W 0 m (upd H1 D (.dT []))) ∧ ∀ (i m : Nat) (H : Hp), W i m H → (J.stop i H ∧ Q (.ref D) H) ∨ (J.go i H ∧ ∃ Nx : Hp → Prop, (∀ H', Nx H' → ∃ m', m' < m ∧ W (i + 1) m' H') ∧
    ∀ x H', J.yld i H x H' → g x (wipe σ vs) H' fun σ2 H2 => wipe σ2 vs = wipe σ vs ∧ tt σ2 H2 fun b H3 => if b = true then tk σ2 H3 fun y H4 => tv σ2 H4 fun z H5 => PutT H5 D y z Nx else Nx H3)
theorem pe_dcT {X : Cx} {kx vx tg iter : Expr} {ifs : List Expr} {scope : Scope} {own : List (Str × Nat)} {pos : Pos} {wi : TI} {g : TG} {tt : L2.TT} {tk tv : TE} (hc : X.calm = true) (hu : (tupleKind (mixKind X.prog X.w)).room X.A) (hN : X.N.Nodup) (hi : PI X tg iter wi)
    (ok : BlkOk X.N X.env.scope scope own) (hg : ∀ (s : Shared) (H : Hp) (C : Addr) (cl : List (Str × Addr)) (fp : List Addr), PG (X.blk s H scope (compEnvC scope cl C X.env) fp) tg g)
    (ht : ∀ (s : Shared) (H : Hp) (C : Addr) (cl : List (Str × Addr)) (fp : List Addr), PTs (X.blk s H scope (compEnvC scope cl C X.env) fp) ifs tt)
    (hk : ∀ (s : Shared) (H : Hp) (C : Addr) (cl : List (Str × Addr)) (fp : List Addr), PE (X.blk s H scope (compEnvC scope cl C X.env) fp) kx tk)
    (he : ∀ (s : Shared) (H : Hp) (C : Addr) (cl : List (Str × Addr)) (fp : List Addr), PE (X.blk s H scope (compEnvC scope cl C X.env) fp) vx tv)
    (hs : ∀ x, foldedSetIterable iter X.env x = pure x := by intro x; rfl) : PE X (.DictComp kx vx [⟨tg, iter, ifs, 0⟩] scope pos) (tDcT wi g tt tk tv (own.map (·.2))) := by
  refine ⟨fun pins s σ H Q I h => ?_⟩
  rw [arm_eval_DictComp]
  have hfree : ∀ y : Str × NameKind, y ∈ scope.names → y.2 = NameKind.free → ∃ c, List.lookup y.1 X.env.cells = some c := fun y hy e => by
    rcases ok.free y hy e with k | k
    · exact I.ok.has y.1 (.inl k)
    · exact I.ok.has y.1 (.inr k)
  refine wpAny_comprehension_free rfl hs (closure_ok hfree) ok.kind (fun y hy e => by rw [ok.uniq y hy, e]) ?_
  refine thn (hi.run pins s σ H _ I h) fun xv s1 hx => thn hx fun itv s2 h2 => ?_
  obtain ⟨it, fp, tn, J, H2, e, I2, T, st2, f2, q⟩ := h2
  subst e
  refine wpAny_newObj_type (newEnv_comp ?_)
  have hDn : H2 s2.heap.objs.size = none := I2.hok.fresh (Nat.le_refl _)
  obtain ⟨W, ⟨m0, w0⟩, turn⟩ := q _ hDn
  have I3 : L2.Inv X pins σ (upd H2 s2.heap.objs.size (.dT [])) { s2 with heap := s2.heap.push { cls := Value.type "dict", data := Data.dict #[] } } :=
    Inv.laid (t' := s2.toks) I2 (fun b o e => Heap.get?_push_of_some { cls := Value.type "dict", data := Data.dict #[] } e) (Nat.le_refl _) (dt_empty s2.heap I2.big)
  have sz : ∀ b ∈ fp, b < s2.heap.objs.size := fun b hb => by
    obtain ⟨o, e, _⟩ := T.obj 0 s2.heap st2 b hb
    exact Heap.lt_size e
  have st3 : tn 0 (s2.heap.push { cls := Value.type "dict", data := Data.dict #[] }) := T.keep 0 s2.heap _ st2 fun b x o e => Heap.get?_push_of_some _ e
  have hsz : s2.heap.objs.size < (s2.heap.push { cls := Value.type "dict", data := Data.dict #[] }).objs.size := by rw [Heap.size_push]; exact Nat.lt_succ_self _
  have f3 : ∀ b ∈ fp, FpOk X pins (upd H2 s2.heap.objs.size (.dT [])) b ∧ b < (s2.heap.push { cls := Value.type "dict", data := Data.dict #[] }).objs.size := fun b hb =>
    ⟨⟨by rw [upd_ne (Nat.ne_of_lt (sz b hb))]; exact (f2 b hb).1, (f2 b hb).2⟩, Nat.lt_trans (sz b hb) hsz⟩
  generalize hD : s2.heap.objs.size = D at *
  generalize hS : ({ s2 with heap := s2.heap.push { cls := Value.type "dict", data := Data.dict #[] } } : Shared) = S3 at *
  have hS' : s2.heap.push { cls := Value.type "dict", data := Data.dict #[] } = S3.heap := by rw [← hS]
  rw [hS'] at st3 hsz f3
  have I4 := block_start I3 ok hN f3
  have pg := hg S3 (upd H2 D (.dT [])) S3.heap.objs.size (cellsFrom (S3.heap.objs.size + 1) scope.names (cloFrom X.env.cells scope.names [])) fp
  have pt := ht S3 (upd H2 D (.dT [])) S3.heap.objs.size (cellsFrom (S3.heap.objs.size + 1) scope.names (cloFrom X.env.cells scope.names [])) fp
  have pk := hk S3 (upd H2 D (.dT [])) S3.heap.objs.size (cellsFrom (S3.heap.objs.size + 1) scope.names (cloFrom X.env.cells scope.names [])) fp
  have pe := he S3 (upd H2 D (.dT [])) S3.heap.objs.size (cellsFrom (S3.heap.objs.size + 1) scope.names (cloFrom X.env.cells scope.names [])) fp
  have st4 : tn 0 (pushCells (S3.heap.push { cls := Value.type "dict", data := Data.dict #[] }) scope.names) := T.keep 0 _ _ st3 fun b x o e => pushCells_keeps _ _ _ _ (Heap.get?_push_of_some _ e)
  suffices key : codeAny (model X.prog X.w) X.A (.compLoop (.DictComp kx vx [⟨tg, iter, ifs, 0⟩] scope pos) 0 (.ref it) (.ref D) (compEnvC scope (cellsFrom (S3.heap.objs.size + 1) scope.names (cloFrom X.env.cells scope.names [])) S3.heap.objs.size X.env))
      (compPost (model X.prog X.w) X.A X.xe none (EP X pins σ Q) (.ref D) (compEnvC scope (cellsFrom (S3.heap.objs.size + 1) scope.names (cloFrom X.env.cells scope.names [])) S3.heap.objs.size X.env).locals)
      { S3 with heap := pushCells (S3.heap.push { cls := Value.type "dict", data := Data.dict #[] }) scope.names } by exact codeAny_compStart_dict key (T.self X.A 0 _ _ _ st4 key)
  have cL : (compEnvC scope (cellsFrom (S3.heap.objs.size + 1) scope.names (cloFrom X.env.cells scope.names [])) S3.heap.objs.size X.env).locals = S3.heap.objs.size := rfl
  generalize hce : compEnvC scope (cellsFrom (S3.heap.objs.size + 1) scope.names (cloFrom X.env.cells scope.names [])) S3.heap.objs.size X.env = ce at *
  have nfp : ∀ b ∈ fp, (upd H2 D (.dT [])) b = none := fun b hb => (f3 b hb).1.1
  have stat : ∀ {σ' : L2.St} {H' : Hp} {s' : Shared}, L2.Inv (X.blk S3 (upd H2 D (.dT [])) scope ce fp) [] σ' H' s' → (∀ b ∈ fp, H' b = none) → ∀ b ∈ fp, FpOk (X.blk S3 (upd H2 D (.dT [])) scope ce fp) [] H' b :=
    fun I' hn b hb => ⟨hn b hb, (I'.ok.exf b hb).1, I'.ok.exfs b hb, .inl hb, fun x c e => (I'.ok.exf b hb).2 x c e, fun p hp => absurd (show p ∈ ([] ++ [] : List (Addr × Obj)) from hp) (by simp)⟩
  have eL : ce.locals = (X.blk S3 (upd H2 D (.dT [])) scope ce fp).env.locals := rfl
  refine compLoop_anyD (fun n s' => ∃ i H', L2.Inv (X.blk S3 (upd H2 D (.dT [])) scope ce fp) [] (wipe σ (own.map (·.2))) H' s' ∧ tn i s'.heap ∧ (∀ b ∈ fp, H' b = none) ∧ W i n H') ?_ m0 ⟨0, _, I4, st4, nfp, w0⟩
  rintro n s5 ⟨i, H5, I5, st5, n5, w5⟩
  rcases turn i n H5 w5 with ⟨stop, qq⟩ | ⟨go, Nx, hNx, step⟩
  · refine thnF (T.done (X.blk S3 (upd H2 D (.dT [])) scope ce fp) rfl rfl rfl hc i [] s5 _ H5 (fun _ _ => False) I5 (stat I5 n5) st5 stop) fun r s6 x => ?_
    obtain ⟨rfl, I6⟩ := x
    have I7 : L2.Inv X pins σ H5 s6 := I3.call' I6.os I6.base I6.hok I6.bare fun b hb => ⟨(f3 b hb).1.2.2.2.1, (f3 b hb).1.2.1, (f3 b hb).1.2.2.2.2.1, (f3 b hb).1.2.2.2.2.2⟩
    obtain ⟨m, hn, _⟩ := I6.loc
    have nC : H5 S3.heap.objs.size = none := by
      have z : H5 ce.locals = none := I6.free
      rw [cL] at z
      exact z
    have hn : s6.heap.Ns ce.locals m := hn
    have fC := I3.fpOk (Nat.le_refl _) nC
    refine ⟨m, hn, fun h' sb => ⟨.ref D, H5, ?_, rfl, qq⟩⟩
    rw [cL] at sb
    exact I7.turned (t' := s6.toks) (fun b o hb e => (sb.2 b hb).trans e) fC.1 fC.2.1 fC.2.2.2.1 fC.2.2.2.2.1 fC.2.2.2.2.2
  · refine thnF (T.item (X.blk S3 (upd H2 D (.dT [])) scope ce fp) rfl rfl rfl hc i [] s5 _ H5 (fun _ _ => False) I5 (stat I5 n5) st5 go) fun r s6 x => ?_
    obtain ⟨u, rfl, h6⟩ := x
    refine thnF h6 fun _ s7 x7 => ?_
    obtain ⟨x, H7, I7, r7, y7, st7, n7⟩ := x7
    have I7' := I7.pinned (stat I7 n7) (T.obj (i + 1) s7.heap st7)
    have fin : ∀ {s' : Shared} {σ8 : L2.St} {H' : Hp}, wipe σ8 (own.map (·.2)) = wipe σ (own.map (·.2)) → L2.Inv (X.blk S3 (upd H2 D (.dT [])) scope ce fp) ([] ++ pinsAt fp s7.heap) σ8 H' s' → Nx H' →
        ∃ m', m' < n ∧ ∃ i H', L2.Inv (X.blk S3 (upd H2 D (.dT [])) scope ce fp) [] (wipe σ (own.map (·.2))) H' s' ∧ tn i s'.heap ∧ (∀ b ∈ fp, H' b = none) ∧ W i m' H' := by
      intro s' σ8 H' hw8 I' nx
      obtain ⟨m', hm, w'⟩ := hNx H' nx
      have pin' : ∀ b ∈ fp, ∀ o, s7.heap.get? b = some o → s'.heap.get? b = some o ∧ H' b = none := fun b hb o e => by
        have z := I'.pin (b, o) (List.mem_append_right _ (List.mem_append_right [] (mem_pinsAt hb e)))
        exact ⟨z.1, z.2.1⟩
      have hl : (wipe σ (own.map (·.2))).length = σ8.length := by rw [← hw8, wipe_length]
      refine ⟨m', hm, i + 1, H', (I'.unpinned).weak hl fun j v e => ?_, T.keep (i + 1) s7.heap s'.heap st7 fun b hb o e => (pin' b hb o e).1, fun b hb => ?_, w'⟩
      · rw [← hw8] at e
        exact (wipe_some e).1
      · obtain ⟨o, e, _⟩ := T.obj (i + 1) s7.heap st7 b hb
        exact (pin' b hb o e).2
    refine thnF (pg.run ([] ++ pinsAt fp s7.heap) s7 _ H7 x u _ I7' r7 (step x H7 y7)) fun _ s8 x8 => ?_
    obtain ⟨σ8, H8, I8, hw8, q8⟩ := x8
    refine thnF (pt.run _ s8 σ8 H8 _ I8 q8) fun b s9 x9 => ?_
    obtain ⟨H9, I9, q9⟩ := x9
    cases b with
    | false => exact fin hw8 I9 q9
    | true =>
      refine thnF (pk.run _ s9 σ8 H9 _ I9 q9) fun ku s10 x10 => ?_
      obtain ⟨yk, H10, I10, r10, q10⟩ := x10
      refine thnF (pe.run _ s10 σ8 H10 _ I10 q10) fun vu s11 x11 => ?_
      obtain ⟨yv, H11, I11, r11, kvs, k, b, rfl, hb, hD11, hz11, nx⟩ := x11
      exact d_dictSetT (X := X.blk S3 (upd H2 D (.dT [])) scope ce fp) hu I11 hD11 hb hz11 r10 r11 fun s12 I12 => fin hw8 I12 nx
end TT

namespace S4
open PySem L2 TT MM EE
/-! ### the two sides, the rank, as data -/
open Classical in
noncomputable def nearOf (S : SD) (n : Nat) (z : Int × Int) : List Int := (rng n).filter fun x => decide (Rch S.ties (some z.2) z.1 x)
open Classical in
noncomputable def farOf (S : SD) (n : Nat) (z : Int × Int) : List Int := (rng n).filter fun x => decide (Rch S.ties (some z.1) z.2 x)
theorem near_of {S : SD} {n : Nat} {z : Int × Int} {near : List Int} (u : Up near) (nd : near.Nodup) (m : ∀ x, x ∈ near ↔ Rch S.ties (some z.2) z.1 x) (hin : ∀ x ∈ near, x ∈ rng n) : near = nearOf S n z := by
  classical
  refine up_nodup_same u ((List.Pairwise.filter _ (rng_up n)).imp fun h => by omega) nd (List.Pairwise.filter _ (rng_nodup n)) fun x => ?_
  unfold nearOf
  rw [List.mem_filter]
  exact ⟨fun h => ⟨hin x h, decide_eq_true ((m x).mp h)⟩, fun h => (m x).mpr (of_decide_eq_true h.2)⟩
theorem far_of {S : SD} {n : Nat} {z : Int × Int} {far : List Int} (u : Up far) (nd : far.Nodup) (m : ∀ x, x ∈ far ↔ Rch S.ties (some z.1) z.2 x) (hin : ∀ x ∈ far, x ∈ rng n) : far = farOf S n z := by
  classical
  refine up_nodup_same u ((List.Pairwise.filter _ (rng_up n)).imp fun h => by omega) nd (List.Pairwise.filter _ (rng_nodup n)) fun x => ?_
  unfold farOf
  rw [List.mem_filter]
  exact ⟨fun h => ⟨hin x h, decide_eq_true ((m x).mp h)⟩, fun h => (m x).mpr (of_decide_eq_true h.2)⟩
theorem Sides.eq {S : SD} {n : Nat} {z : Int × Int} {near far : List Int} (h : Sides S n z near far) : near = nearOf S n z ∧ far = farOf S n z := ⟨near_of h.nu h.nn h.nm h.ni, far_of h.fu h.fn h.fm h.fi⟩
noncomputable def rkZ (S : SD) (n : Nat) (z : Int × Int) : Nat := rk S.p (numsL S.holds (nearOf S n z)).length (blockL S (nearOf S n z) (farOf S n z))
theorem toll_is {S : SD} {n : Nat} {z : Int × Int} {near far : List Int} {k : Nat} (ok : SheetOk S n) (s : Sides S n z near far) (h : ∀ lad, IsLad S.p (numsL S.holds near).length (blockL S near far) lad → lad.length = k) : k = rkZ S n z := by
  obtain ⟨rfl, rfl⟩ := s.eq
  exact (h _ (lad_ex ok.clock.prm (block_rows ok s.ni s.fi))).symm.trans (rk_lad ok.clock.prm (lad_ex ok.clock.prm (block_rows ok s.ni s.fi)))
/-! ### tolls -/
def wayK (z : Int × Int) : List L2.Key := [.inl z.1, .inl z.2]
noncomputable def tollD (S : SD) (n : Nat) (m : List (Int × Int)) : List (List L2.Key × V) := m.map fun z => (wayK z, .int (rkZ S n z : Nat))
theorem hu0 {k : Nat} {A : Around} (r : Room k A) : A.units < cLine := by have := r.un; omega
theorem wayK_inj {a b : Int × Int} (h : wayK a = wayK b) : a = b := by
  unfold wayK at h
  injection h with h1 h2
  injection h2 with h2 _
  exact Prod.ext (Sum.inl.inj h1) (Sum.inl.inj h2)
theorem put_new {kvs : List (List L2.Key × V)} {k : List L2.Key} {v : V} (h : ∀ p ∈ kvs, p.1 ≠ k) : putK kvs k v = kvs ++ [(k, v)] := by
  unfold putK
  rw [if_neg]
  intro q
  obtain ⟨p, hp, e⟩ := List.any_eq_true.mp q
  exact h p hp (of_decide_eq_true e)
theorem way_ok {S : SD} {n : Nat} (ok : SheetOk S n) {m : List (Int × Int)} (hm : m.Perm (S.ties ++ flipAll S.ties)) {z : Int × Int} (hz : z ∈ m) : WayOk S n z := by
  have hz := hm.mem_iff.mp hz
  rcases List.mem_append.mp hz with h | h
  · have := ok.ties.b0 z h
    exact ⟨by omega, by omega, by omega, by omega, .inl h⟩
  · unfold flipAll at h
    obtain ⟨y, hy, rfl⟩ := List.mem_map.mp h
    have := ok.ties.b0 y hy
    exact ⟨by show 0 ≤ y.2; omega, by show 0 ≤ y.1; omega, by show y.2 < _; omega, by show y.1 < _; omega, .inr hy⟩
section
variable {P : Program} {w : World} {K : PySem.W.Frag} {mg : Str → Option Value} {base : Heap} {cT cS : Addr}
def spTolls (cT cS : Addr) : Sp := fun vs H Q _ => ∃ (u : V) (S : SD) (n : Nat), vs = [u] ∧ rSheet cT cS H u S ∧ SheetOk S n ∧
  ∀ H' D m, Same H H' → H D = none → H' D = some (.dT (tollD S n m)) → m.Perm (S.ties ++ flipAll S.ties) → m.Pairwise lxLe → m.Nodup → Q (.ref D) H'
theorem ways_nodupT {ties : List (Int × Int)} {n : Nat} (ok : TiesOk ties n) {m : List (Int × Int)} (hm : m.Perm (ties ++ flipAll ties)) : m.Nodup := by
  have nt : ties.Nodup := ok.asc.imp fun h e => by
    subst e
    unfold lxLt at h
    omega
  refine hm.nodup_iff.mpr (List.nodup_append.mpr ⟨nt, ?_, fun a ha b hb e => ?_⟩)
  · unfold flipAll
    rw [List.nodup_iff_pairwise_ne, List.pairwise_map]
    exact (List.nodup_iff_pairwise_ne.mp nt).imp fun h e => h (by have := congrArg Prod.swap e; simpa using this)
  · subst e
    unfold flipAll at hb
    obtain ⟨y, hy, rfl⟩ := List.mem_map.mp hb
    have h1 := ok.b0 _ ha
    have h2 := ok.b0 _ hy
    have h3 : y.swap.1 = y.2 := rfl
    have h4 : y.swap.2 = y.1 := rfl
    omega
theorem tollD_len (S : SD) (n : Nat) (m : List (Int × Int)) : (tollD S n m).length = m.length := by unfold tollD; rw [List.length_map]
theorem tollD_put {S : SD} {n : Nat} {m : List (Int × Int)} {i : Nat} {z : Int × Int} (nd : m.Nodup) (h : m[i]? = some z) : putK (tollD S n (m.take i)) (wayK z) (.int (rkZ S n z : Nat)) = tollD S n (m.take (i + 1)) := by
  rw [put_new fun p hp e => ?_]
  · unfold tollD
    rw [List.take_succ, h, List.map_append]
    rfl
  · unfold tollD at hp
    obtain ⟨y, hy, rfl⟩ := List.mem_map.mp hp
    have := wayK_inj e
    subst this
    obtain ⟨j, hj⟩ := List.getElem?_of_mem hy
    rw [List.getElem?_take] at hj
    split at hj
    · rename_i hlt
      have h1 := List.getElem?_eq_some_iff.mp hj
      have h2 := List.getElem?_eq_some_iff.mp h
      obtain ⟨a, b⟩ := h1
      obtain ⟨c, d⟩ := h2
      have := (List.getElem_inj (h₀ := a) (h₁ := c) nd).mp (by rw [b, d])
      omega
    · cases hj
theorem ok_tolls (T : Tx K mg cT cS) {f : Addr} {fd : FuncData} (d : D K mg "tolls" s_tolls ["sheet"] f fd) : FnOk P w K mg base CX0 8 f fd ["sheet"] (spTolls cT cS) := by
  obtain ⟨f1, fd1, d1⟩ := T.d_ways
  have G1 : FnOk P w K mg base CX0 1 f1 fd1 ["tree"] (spWays cT) := ok_ways T d1
  obtain ⟨f2, fd2, d2⟩ := T.d_toll
  have G2 : FnOk P w K mg base CX0 7 f2 fd2 ["sheet", "way"] (spToll cT cS) := ok_toll T d2
  obtain ⟨fS, fdS, kS⟩ := T.k_Sheet
  have n1 : NoAttr K cS "tree" := kS.na _ (by simp)
  refine d.F.ok sc_tolls (fun vs H Q E h => ?_) (fun cdv A outer s H vs Q E hr h => ?_)
  · obtain ⟨u, S, n, rfl, _⟩ := h
    rfl
  · obtain ⟨u, S, n, rfl, hS, ok, q⟩ := h
    have hn := ok.ties.len
    have hn24 := ok.ties.n24
    refine ⟨_, pss_one (ps_ret (pe_dcT (own := [("way", 1)]) (g := gName 1) (tt := tYes) rfl (hu0 hr) sc_tolls.nd (pi_list (pe_call G1 (hr.mono (by decide)) rfl d1.m d1.F.kp d1.b .nil pass0 (pa_cons (pe_fld (pv 0) rfl) pa_nil))) (blkOk_by (N := N_tolls) (sc := defScope s_tolls) (by decide +kernel))
        (fun _ _ _ _ _ => pg_name (i := 1) sc_tolls.nd rfl (Or.inl rfl)) (fun _ _ _ _ _ => pts_nil) (fun _ _ _ _ _ => pv 1)
        (fun _ _ _ _ _ => pe_call G2 hr rfl d2.m d2.F.kp d2.b .nil pass0 (pa_cons (pv 0) (pa_cons (pv 1) pa_nil))))), ?_⟩
    obtain ⟨a, dx, tr, th, tw, rfl, hI, hT, _⟩ := id hS
    refine ⟨_, rfl, a, cS, dx, _, _, rfl, hI, kS.cl, n1, rfl, .ref tr, S.ties, rfl, hT, by omega, fun H2 p xs m s2 np hp hpm hper hlx => ⟨p, rfl, ⟨_, .of hp⟩, fun D hD => ?_⟩⟩
    have nd := ways_nodupT ok.ties hper
    have hlen := paired_len hpm
    have hml : m.length ≤ 1000 := by rw [hper.length_eq, List.length_append]; unfold flipAll; rw [List.length_map]; omega
    refine walk_W (walk_list (xs := xs)) _ (fun i H' => Same H2 H' ∧ H' D = some (.dT (tollD S n (m.take i)))) ⟨same_new hD, by rw [upd_same, List.take_zero]; rfl⟩ (fun i H' _ h => .of (h.1 _ _ hp)) ?_ ?_
    · rintro i x H3 H4 hi ⟨s3, hD3⟩ ⟨rfl, hx⟩
      obtain ⟨z, hz, hrz⟩ := paired_get (paired_mono mono_pi s3.keep hpm) hx
      obtain ⟨t, rfl, ht⟩ := id hrz
      have s23 := s2.trans s3
      refine ⟨rfl, _, rfl, _, rfl, _, rfl, .ref a, .ref t, S, z, n, rfl, mono_sheet cT cS _ _ _ _ s23.keep hS, hrz, ok, way_ok ok hper (List.mem_of_getElem? hz), fun H5 k near far s5 sd hk _ => ?_⟩
      have ek := toll_is ok sd hk
      subst ek
      have sn : Same H2 (upd H5 D (.dT (putK (tollD S n (m.take i)) (wayK z) (.int (rkZ S n z : Nat))))) := fun b o ho => by
        have hb : b ≠ D := fun h => by subst h; rw [hD] at ho; cases ho
        rw [upd_ne hb]
        exact s5 _ _ (s3 b o ho)
      exact ⟨_, wayK z, t, rfl, s5 _ _ ht, s5 _ _ hD3, by rw [tollD_len, List.length_take]; exact Nat.lt_of_le_of_lt (Nat.le_trans (Nat.min_le_right _ _) hml) (by decide), sn, by rw [upd_same, tollD_put nd hz]⟩
    · rintro H3 ⟨s3, hD3⟩
      rw [hlen, List.take_length] at hD3
      exact q H3 D m (s2.trans s3) (s2.free hD) hD3 hper hlx nd
end
end S4

namespace S4
open PySem L2 TT MM EE
/-! ### the law's own tolls -/
def blkR (S : RD) (z : Int × Int) : List (List Int) := (S.rules.getD z.2.toNat []).map fun r => cutL r.1 (heldL S.unk z.1)
def moreR (S : RD) (ns : List Int) : Int := (ns.map fun q => ((S.rules.getD q.toNat []).length : Int) - S.unk.getD q.toNat 0).sum
noncomputable def lawT (S : RD) (n : Nat) (z : Int × Int) : Int := (rk S.p (heldL S.unk z.1).length (blkR S z) : Int) + moreR S (sideOf S.ties n z)
noncomputable def lawD (S : RD) (n : Nat) (m : List (Int × Int)) : List (List L2.Key × V) := m.map fun z => (wayK z, .int (lawT S n z))
theorem lawD_len (S : RD) (n : Nat) (m : List (Int × Int)) : (lawD S n m).length = m.length := by unfold lawD; rw [List.length_map]
theorem lawD_put {S : RD} {n : Nat} {m : List (Int × Int)} {i : Nat} {z : Int × Int} (nd : m.Nodup) (h : m[i]? = some z) : putK (lawD S n (m.take i)) (wayK z) (.int (lawT S n z)) = lawD S n (m.take (i + 1)) := by
  rw [put_new fun p hp e => ?_]
  · unfold lawD
    rw [List.take_succ, h, List.map_append]
    rfl
  · unfold lawD at hp
    obtain ⟨y, hy, rfl⟩ := List.mem_map.mp hp
    have := wayK_inj e
    subst this
    obtain ⟨j, hj⟩ := List.getElem?_of_mem hy
    rw [List.getElem?_take] at hj
    split at hj
    · rename_i hlt
      have h1 := List.getElem?_eq_some_iff.mp hj
      have h2 := List.getElem?_eq_some_iff.mp h
      obtain ⟨a, b⟩ := h1
      obtain ⟨c, d⟩ := h2
      have := (List.getElem_inj (h₀ := a) (h₁ := c) nd).mp (by rw [b, d])
      omega
    · cases hj
theorem up_lt2 {l : List Int} (h : Up l) (nd : l.Nodup) : l.Pairwise (· < ·) := (List.pairwise_and_iff.mpr ⟨h, nd⟩).imp fun ⟨a, b⟩ => by omega
def scTo : Scope := { kind := .function, names := [(".0", .local), ("row", .cell), ("right", .local), ("places", .cell)], isGenerator := false, isCoroutine := false }
section
variable {P : Program} {w : World} {K : PySem.W.Frag} {mg : Str → Option Value} {base : Heap} {cT cS : Addr}
def spLTolls : Sp := fun vs H Q _ => ∃ (a : Addr) (tv uv rv : V) (S : RD) (n : Nat), vs = [.ref a] ∧ PDat H a S tv uv rv ∧ RulesOk S n ∧
  ∀ H' d m, Same H H' → H d = none → H' d = some (.dT (lawD S n m)) → m.Perm (S.ties ++ flipAll S.ties) → m.Pairwise lxLe → Q (.ref d) H'
theorem ok_ltolls (T : Tx K mg cT cS) {f : Addr} {fd : FuncData} (d : D K mg "_law_tolls" s_law_tolls ["parts"] f fd) : FnOk P w K mg base CX0 4 f fd ["parts"] spLTolls := by
  obtain ⟨f1, fd1, d1⟩ := T.d_law_ways
  have G1 := ok_lways (P := P) (w := w) (base := base) T d1
  obtain ⟨f2, fd2, d2⟩ := T.d_law_places
  have G2 := ok_lpl (P := P) (w := w) (base := base) T d2
  obtain ⟨f3, fd3, d3⟩ := T.d_law_this_side
  have G3 := ok_lthis (P := P) (w := w) (base := base) T d3
  obtain ⟨f4, fd4, d4⟩ := T.d_law_ladder
  have G4 := ok_lladT (P := P) (w := w) (base := base) T d4
  refine d.F.ok sc_law_tolls (fun vs H Q E h => ?_) (fun cdv A outer s H vs Q E hr h => ?_)
  · obtain ⟨a, tv, uv, rv, S, n, rfl, _⟩ := h
    rfl
  · obtain ⟨a, tv, uv, rv, S, n, rfl, hP, ok, q⟩ := h
    refine ⟨_, pss_cons (ps_set (i := 1) sc_law_tolls.nd rfl (.inl rfl) pe_dnewT)
      (pss_cons (ps_for PassesOwn.never rfl (pi_list (pe_call G1 (hr.mono (by decide)) rfl d1.m d1.F.kp d1.b .nil pass0 (pa_cons (pe_dget (hu1 hr) (pv 0) pe_str (fun _ _ => rfl)) pa_nil))) (pg_name (i := 2) sc_law_tolls.nd rfl (.inl rfl))
        (pss_cons (ps_set (i := 3) sc_law_tolls.nd rfl (.inr rfl) (pe_call G2 (hr.mono (by decide)) rfl d2.m d2.F.kp d2.b .nil pass0 (pa_cons (pe_dget (hu1 hr) (pv 0) pe_str (fun _ _ => rfl)) (pa_cons (pe_ix ix_tup (pv 2) pe_int (fun _ _ => rfl)) pa_nil))))
      (pss_cons (ps_setLc (i := 4) (own := [("row", 8), ("right", 9)]) (g := (gTup K 2 (gCons (gName 8) (gCons (gName 9) gNil)))) (tt := tYes) rfl sc_law_tolls.nd rfl rfl (sw_true rfl rfl rfl (by decide +kernel)) (pi_tup (pe_ix ix_tup (pe_dget (hu1 hr) (pv 0) pe_str (fun _ _ => rfl)) (pe_ix ix_tup (pv 2) pe_int (fun _ _ => rfl)) (fun _ _ => rfl))) (blkOk_by (N := N_law_tolls) (sc := defScope s_law_tolls) (by decide +kernel)) (fun _ _ _ _ _ => (pgT rfl rfl (pgs_cons (pg_name (i := 8) sc_law_tolls.nd rfl (Or.inr rfl)) (pgs_cons (pg_name (i := 9) sc_law_tolls.nd rfl (Or.inl rfl)) pgs_nil)))) (fun _ _ _ _ _ => pts_nil)
            (fun _ _ _ _ _ => (pe_lc (own := [("place", 7)]) (g := (gName 7)) (tt := tYes) rfl sc_law_tolls.nd (piLK rfl (pi_list (pv 3))) (blkOk_by (N := N_law_tolls) (sc := scTo) (own := [("place", 7)]) (by decide +kernel)) (fun _ _ _ _ _ => (pg_name (i := 7) sc_law_tolls.nd rfl (Or.inl rfl))) (fun _ _ _ _ _ => pts_nil)
            (fun _ _ _ _ _ => (pe_ix (ixT (K := K) rfl) (pv 8) (pv 7) (fun _ _ => rfl))))))
      (pss_cons (ps_set (i := 5) sc_law_tolls.nd rfl (.inl rfl) pe_int)
      (pss_cons (ps_for PassesOwn.never rfl (pi_list (pe_call G3 (hr.mono (by decide)) rfl d3.m d3.F.kp d3.b .nil pass0 (pa_cons (pe_dget (hu1 hr) (pv 0) pe_str (fun _ _ => rfl)) (pa_cons (pv 2) pa_nil)))) (pg_name (i := 6) sc_law_tolls.nd rfl (.inl rfl))
        (pss_one (ps_set (i := 5) sc_law_tolls.nd rfl (.inl rfl) (pe_op op_sub (pe_op op_add (pv 5) (pe_callB call_len_seq (by rfl) T.b_len PySem.boot_len (pa_cons (pe_ix ix_tup (pe_dget (hu1 hr) (pv 0) pe_str (fun _ _ => rfl)) (pv 6) (fun _ _ => rfl)) pa_nil))) (pe_ix ix_tup (pe_dget (hu1 hr) (pv 0) pe_str (fun _ _ => rfl)) (pv 6) (fun _ _ => rfl))))))
      (pss_one (ps_asg (pe_op op_add (pe_callB call_len_seq (by rfl) T.b_len PySem.boot_len (pa_cons (pe_call G4 (hr.mono (by decide)) rfl d4.m d4.F.kp d4.b .nil pass0 (pa_cons (pe_dget (hu1 hr) (pv 0) pe_str (fun _ _ => rfl)) (pa_cons (pv 4) pa_nil))) pa_nil)) (pv 5)) (pg_sub (pv 1) (pv 2) (set_dict (hu1 hr))))))))))
      (pss_one (ps_ret (pv 1)))), ?_⟩
    have hn := ok.tree.ok.len
    have n24 := ok.tree.ok.n24
    have hs60 := ok.unk.s
    have hln := ok.len
    refine fun fd nfd => ?_
    have s1 := same_new (o := .dT []) nfd
    refine ⟨_, rfl, a, _, rfl, (hP.same s1).gt, tv, S.ties, rfl, (hP.same s1).t, by omega, fun H2 p xs m s2 np hp2 hpr hperm hsort => ⟨p, rfl, ⟨_, .of hp2⟩, ?_⟩⟩
    have hlm := paired_len hpr
    have s12 := s1.trans s2
    have hml : m.length ≤ 100 := by
      rw [hperm.length_eq, List.length_append]
      unfold flipAll
      rw [List.length_map]
      omega
    have hnd : m.Nodup := hperm.nodup_iff.mpr (ways_nodup ok)
    refine for_it (walk_list (xs := xs)) (fun i σ H' => ∃ x2 x3 x4 x5 x6, σ = [some (.ref a), some (.ref fd), x2, x3, x4, x5, x6, none, none, none] ∧ Same H H' ∧ H' p = some (.lst xs) ∧ Paired (rPI H') xs m ∧ H' fd = some (.dT (lawD S n (m.take i))))
      ⟨none, none, none, none, none, rfl, s12, hp2, hpr, s2 _ _ upd_same⟩ (fun i σ H' _ h => by obtain ⟨_, _, _, _, _, _, _, h, _⟩ := h; exact .of h) ?_ ?_
    · rintro i x σ H3 H4 hi ⟨x2, x3, x4, x5, x6, rfl, s3, hp3, hpr3, hfd3⟩ ⟨rfl, hx⟩
      obtain ⟨z, hz, t, rfl, ht⟩ := paired_get hpr3 hx
      have hzm := hperm.mem_iff.mp (List.mem_of_getElem? hz)
      have W := wayR_of ok hzm
      have s3' : Same H H4 := s3
      have a0 := W.a0
      have a1 := W.a1
      have b0 := W.b0
      have b1 := W.b1
      refine ⟨_, rfl, a, _, rfl, (hP.same s3').gu, _, rfl, t, _, _, _, rfl, rfl, .of ht, at_of (j := 0) rfl rfl, uv, S.unk, z.1, n, rfl, (hP.same s3').u, ok.unk, n24, a0, a1, fun H5 pl s5 npl hpl => ?_⟩
      have t5 := s3'.trans s5
      obtain ⟨zb, hzb⟩ : ∃ zb : Nat, z.2 = (zb : Int) := ⟨z.2.toNat, by omega⟩
      obtain ⟨own, hown⟩ : ∃ own, S.rules[zb]? = some own := ⟨_, List.getElem?_eq_getElem (show zb < S.rules.length by omega)⟩
      obtain ⟨tr, xr, er, htr, hxr⟩ := (hP.same t5).r
      obtain ⟨vo, hvo, hro⟩ := paired_get2 hxr hown
      obtain ⟨to, xo, eo, hto, hxo⟩ := hro
      have lxo := paired_len hxo
      have h8 := ok.l8 own (List.mem_of_getElem? hown)
      subst er eo
      dsimp only [gName, tSeq]
      have ht5 := s5 _ _ ht
      have hrz : ∀ r ∈ own, isRow r.1 S.p S.unk.sum := fun r hr => (ok.ok zb own hown r hr).row
      refine ⟨_, rfl, a, _, rfl, (hP.same t5).gr, _, rfl, t, _, _, _, rfl, rfl, .of ht5, at_of (j := 1) rfl rfl, tr, _, _, _, rfl, rfl, .of htr, by rw [hzb]; exact atI_nat hvo, to, rfl, ⟨_, .of hto⟩, fun D hD => ?_⟩
      refine walk_W (walk_tup (xs := xo)) _ (fun j H' => Same H5 H' ∧ ∃ ys, H' D = some (.lst ys) ∧ Paired (rLI H') ys ((own.take j).map fun r => cutL r.1 (heldL S.unk z.1))) ⟨same_new hD, [], upd_same, .nil⟩ (fun j H' _ h => .of (h.1 _ _ hto)) ?_ ?_
      · rintro j y H6 H7 hj ⟨s6, ys, h1, h2⟩ ⟨rfl, hy⟩
        obtain ⟨r, hr2, t2, x2, rfl, ht2, tw, rfl, htw⟩ := paired_get (paired_mono mono_rule s6.keep hxo) hy
        have hrow := hrz r (List.mem_of_getElem? hr2)
        have hrl := hrow.1
        have hys := paired_len h2
        rw [List.length_map, List.length_take] at hys
        refine ⟨t2, _, rfl, .of ht2, rfl, _, _, rfl, _, _, rfl, rfl, rfl, ?_⟩
        refine ⟨_, rfl, pl, rfl, ⟨_, .of (s6 _ _ hpl)⟩, fun D2 hD2 => ?_⟩
        refine lc_fm (walk_list (xs := (heldL S.unk z.1).map V.int)) rInt (fun k => (heldL S.unk z.1)[k]?.bind fun x => some (r.1.getD x.toNat 0)) hD2 (fun H' s' => .of (s' _ _ (s6 _ _ hpl))) ?_ ?_
        · rintro k y H8 H9 hk pw ⟨rfl, hy2⟩
          obtain ⟨y, hy3, rfl⟩ := at_int hy2
          rw [List.length_map] at hk
          obtain ⟨y0, y1⟩ := held_lt ok.unk (List.mem_of_getElem? hy3)
          obtain ⟨c, rfl⟩ : ∃ c : Nat, y = (c : Int) := ⟨y.toNat, by omega⟩
          have hl60 := heldL_len ok.unk z.1
          have hrc : r.1[c]? = some (r.1[c]'(by omega)) := List.getElem?_eq_getElem (by omega)
          refine ⟨rfl, _, rfl, _, rfl, tw, _, _, _, rfl, rfl, .of (pw.1 _ _ htw), atI_nat (int_at hrc), ?_⟩
          exact fm_keep mono_int pw hD2 (by omega) (Same.refl _) (by rw [hy3]; show some (r.1.getD ((c : Nat) : Int).toNat 0) = _; rw [Int.toNat_natCast, getD_at hrc]) rfl
        · intro H8 zs s8 hD8 hp8
          rw [List.length_map, fm_some] at hp8
          have := paired_int hp8
          subst this
          have hne : D2 ≠ D := fun e => by rw [e, h1] at hD2; cases hD2
          refine ⟨ys, s8 _ _ h1, Nat.lt_of_le_of_lt (by omega : _ ≤ 200) (by decide), same_own (s6.trans s8) hD, ys ++ [.ref D2], upd_same, ?_⟩
          rw [List.take_succ, hr2, List.map_append]
          exact paired_app (li_upd (s8 _ _ h1) (li_same s8 h2)) (.cons ⟨D2, rfl, by rw [upd_ne hne]; exact hD8⟩ .nil)
      rintro H6 ⟨s6, ys, h1, h2⟩
      rw [lxo, List.take_length] at h2
      have eblk : (own.map fun r => cutL r.1 (heldL S.unk z.1)) = blkR S z := by
        unfold blkR
        rw [hzb, Int.toNat_natCast, getD_at hown]
      rw [eblk] at h2
      have t6 := t5.trans s6
      dsimp only [gName, tSeq]
      have k6 := s5.trans s6
      refine ⟨_, rfl, a, _, rfl, (hP.same t6).gt, _, rfl, tv, .ref t, S.ties, z, n, rfl, (hP.same t6).t, ⟨t, rfl, k6 _ _ ht⟩, ok.tree.ok, a0, a1, fun H7 pn ns s7 npn hpn hup hnd2 hmem => ⟨pn, rfl, ⟨_, .of hpn⟩, ?_⟩⟩
      have hin : ∀ x ∈ ns, x ∈ rng n := fun x hx => ((hmem x).mp hx).inV ok.tree.ok.shut (rng_mem.mpr ⟨a0, a1⟩)
      have ens : ns = sideOf S.ties n z := up_same (up_lt hup hnd2) (List.Pairwise.filter _ (rng_up n)) fun x => by
        rw [side_mem]
        exact ⟨fun h => ⟨hin x h, (hmem x).mp h⟩, fun h => (hmem x).mpr h.2⟩
      have t7 := t6.trans s7
      refine for_it (walk_list (xs := ns.map V.int)) (fun j σ H' => ∃ x6, σ = [some (.ref a), some (.ref fd), some (.ref t), some (.ref pl), some (.ref D), some (.int (moreR S (ns.take j))), x6, none, none, none] ∧ Same H7 H')
        ⟨x6, rfl, .refl _⟩ (fun j σ H' _ h => by obtain ⟨_, _, s⟩ := h; exact .of (s _ _ hpn)) ?_ ?_
      · rintro j x σ H8 H9 hj ⟨y6, rfl, s8⟩ ⟨rfl, hx⟩
        obtain ⟨k, hk, rfl⟩ := at_int hx
        obtain ⟨g1, g2⟩ := rng_mem.mp (hin k (List.mem_of_getElem? hk))
        obtain ⟨kn, rfl⟩ : ∃ kn : Nat, k = (kn : Int) := ⟨k.toNat, by omega⟩
        have t8 := t7.trans s8
        obtain ⟨ow, how⟩ : ∃ ow, S.rules[kn]? = some ow := ⟨_, List.getElem?_eq_getElem (show kn < S.rules.length by omega)⟩
        obtain ⟨tr2, xr2, er2, htr2, hxr2⟩ := (hP.same t8).r
        obtain ⟨vo2, hvo2, to2, xo2, eo2, hto2, hxo2⟩ := paired_get2 hxr2 how
        subst eo2
        have lxo2 := paired_len hxo2
        obtain ⟨tu, eu, htu⟩ := (hP.same t8).u
        have hun : S.unk[kn]? = some (S.unk[kn]'(by have := ok.unk.len; omega)) := List.getElem?_eq_getElem _
        cases er2
        subst eu
        have e : moreR S (ns.take (j + 1)) = moreR S (ns.take j) + (xo2.length : Int) - S.unk[kn]'(by have := ok.unk.len; omega) := by
          unfold moreR
          rw [List.take_succ, hk, List.map_append, List.sum_append]
          show _ + (((S.rules.getD ((kn : Nat) : Int).toNat []).length : Int) - S.unk.getD ((kn : Nat) : Int).toNat 0 + 0) = _
          rw [Int.toNat_natCast, getD_at how, getD_at hun, lxo2]
          omega
        refine ⟨_, rfl, _, rfl, a, _, rfl, (hP.same t8).gr, _, rfl, tr, xr2, _, _, rfl, rfl, .of htr2, atI_nat hvo2, to2, xo2, rfl, .inr (.of hto2), _, _, rfl, rfl, ?_⟩
        refine ⟨_, rfl, a, _, rfl, (hP.same t8).gu, _, rfl, tu, _, _, _, rfl, rfl, .of htu, atI_nat (int_at hun), _, _, rfl, rfl, ?_⟩
        exact ⟨some (.int (kn : Int)), by rw [e]; rfl, s8⟩
      · rintro σ H8 ⟨y6, rfl, s8⟩
        have etk : moreR S (ns.take (ns.map V.int).length) = moreR S ns := by rw [List.length_map, List.take_length]
        rw [etk]
        have t8 := t7.trans s8
        have k8 := s7.trans s8
        obtain ⟨wd, hwd⟩ : ∃ wd : Nat, S.unk.sum = (wd : Int) := ⟨S.unk.sum.toNat, by have := sum_nn fun x hx => (ok.unk.b x hx).1; omega⟩
        have hl60 := heldL_len ok.unk z.1
        have hrows : ∀ r ∈ blkR S z, isRow r S.p (heldL S.unk z.1).length := fun r hr => by
          rw [← eblk] at hr
          obtain ⟨y, hy, rfl⟩ := List.mem_map.mp hr
          refine cutL_row (wd := wd) (by rw [← hwd]; exact hrz y hy) fun i hi => ?_
          rw [← hwd]
          exact held_lt ok.unk hi
        have hbl : (blkR S z).length ≤ 8 := by rw [← eblk, List.length_map]; exact h8
        refine ⟨_, rfl, a, _, rfl, (hP.same t8).gp, _, rfl, D, S.p, (heldL S.unk z.1).length, ys, blkR S z, rfl, k8 _ _ h1, Paired.mapP (li_same k8 h2) fun _ _ ⟨b, e, h⟩ => ⟨b, e, .inl h⟩, by omega, ok.clock.prm, ok.clock.2.1, by omega, hrows, fun H9 v9 lad s9 hv9 hlad => ?_⟩
        obtain ⟨tl, xl, rfl, htl, hxl⟩ := hv9
        have lxl := paired_len hxl
        have hrk := rk_lad ok.clock.prm hlad
        have t49 := ((((s5.trans s6).trans s7).trans s8).trans s9)
        have hfd9 := t49 _ _ hfd3
        refine ⟨tl, xl, rfl, .inr (.of htl), _, rfl, _, _, rfl, rfl, _, rfl, _, rfl, fd, _, rfl, DPut.t (k := wayK z) hfd9 (t49 _ _ ht) (Nat.lt_of_le_of_lt (by rw [lawD_len, List.length_take]; omega : _ ≤ 100) (by decide)), ?_⟩
        have e1 : ((xl.length : Int) + moreR S ns) = lawT S n z := by
          unfold lawT
          rw [lxl, hrk, ens]
        have hpC := t49 _ _ hp3
        have pf : p ≠ fd := fun e => by rw [e, hfd9] at hpC; cases hpC
        have kt : ∀ o t xs, H9 t = some (.tup xs) → (upd H9 fd o) t = some (.tup xs) := fun o t xs h => by
          rw [upd_ne (fun e => by rw [e, hfd9] at h; cases h)]
          exact h
        refine ⟨_, _, _, _, _, rfl, same_own (t8.trans s9) nfd, by rw [upd_ne pf]; exact hpC, Paired.mapP (paired_mono mono_pi t49.keep hpr3) fun _ _ q => pi_kt (kt _) q, ?_⟩
        rw [upd_same]
        show some (HO.dT (putK _ (wayK z) (V.int ((xl.length : Int) + moreR S ns)))) = _
        rw [e1, lawD_put hnd hz]
    · rintro σ H4 ⟨x2, x3, x4, x5, x6, rfl, s3, hp3, hpr3, hfd3⟩
      rw [hlm, List.take_length] at hfd3
      exact ⟨_, rfl, q _ fd m s3 nfd hfd3 hperm hsort⟩
end
end S4

namespace S4
open PySem L2 TT MM EE
/-! ### rules with a hidden solution, in pairs -/
theorem PDat.setL {H : Hp} {a D : Addr} {S : RD} {tv uv rv : V} {xs : List V} {o : HO} (x : PDat H a S tv uv rv) (h : H D = some (.lst xs)) : PDat (upd H D o) a S tv uv rv :=
  ⟨by rw [upd_ne (fun e => by have := x.d; rw [e, h] at this; cases this)]; exact x.d, mono_tup mono_pi _ _ _ _ (keep_lst h) x.t, mono_row _ _ _ _ (keep_lst h) x.u, mono_rls _ _ _ _ (keep_lst h) x.r⟩
theorem twice2 {α : Type} {R : Hp → Prop} {G : Prop} (C : Hp → α → Prop) (h : (∀ HX cs, C HX cs → R HX) → G) (y : ∀ HX cs, C HX cs → R HX) : G := h y
theorem iteT' {b : Bool} {p q : Prop} (h : b = true) (x : p) : if b = true then p else q := by rw [if_pos h]; exact x
theorem iteF' {b : Bool} {p q : Prop} (h : b = false) (x : q) : if b = true then p else q := by rw [h]; exact x
/-- what is hidden makes the rules right -/
structure HidOk (S : RD) (hid : List Int) : Prop where
  row : isRow hid S.p S.unk.sum
  ok : ∀ own ∈ S.rules, ∀ r ∈ own, r.2 = dotU S.p r.1 hid
def noDivB (n : Nat) : Bool := decide (2 ≤ n) && decide (n ≤ 1000000) && (List.range 1001).all fun k => decide (k < 2) || decide (n < k * k) || decide (n % k ≠ 0)
theorem noDiv_of {n : Nat} (h : noDivB n = true) : NoDiv (n : Int) := by
  unfold noDivB at h
  rw [Bool.and_eq_true, Bool.and_eq_true] at h
  obtain ⟨⟨h1, h2⟩, h3⟩ := h
  have h1 := of_decide_eq_true h1
  have h2 := of_decide_eq_true h2
  refine ⟨by omega, by omega, fun k hk hkk => ?_⟩
  have hk1 := sq_small hk (Int.le_trans hkk (by omega))
  obtain ⟨j, rfl⟩ : ∃ j : Nat, k = (j : Int) := ⟨k.toNat, by omega⟩
  have h4 := List.all_eq_true.mp h3 j (List.mem_range.mpr (by omega))
  rw [Bool.or_eq_true, Bool.or_eq_true] at h4
  rcases h4 with (h4 | h4) | h4
  · have := of_decide_eq_true h4
    omega
  · have := of_decide_eq_true h4
    have e : ((j * j : Nat) : Int) = (j : Int) * (j : Int) := Int.natCast_mul j j
    omega
  · have := of_decide_eq_true h4
    intro e
    apply this
    have e2 : ((n % j : Nat) : Int) = (n : Int) % (j : Int) := Int.natCast_emod n j
    omega
section
variable {P : Program} {w : World} {K : PySem.W.Frag} {mg : Str → Option Value} {base : Heap} {cT cS : Addr}
def spLPaired : Sp := fun vs H Q _ => ∃ (g c : Addr), vs = [.ref g] ∧ Hand g c H ∧
  ∀ H' t a th tv uv rv S n hid, But g H H' → Hand g c H' → H' t = some (.tup [.ref a, .ref th]) → PDat H' a S tv uv rv → RulesOk S n → rRow H' (.ref th) hid → HidOk S hid → Q (.ref t) H'
theorem ok_lpaired (T : Tx K mg cT cS) {f : Addr} {fd : FuncData} (d : D K mg "_law_paired" s_law_paired ["hand"] f fd) : FnOk P w K mg base CX0 5 f fd ["hand"] spLPaired := by
  obtain ⟨f1, fd1, d1⟩ := T.d_law_any
  have G1 := ok_any (P := P) (w := w) (base := base) T d1
  obtain ⟨f2, fd2, d2⟩ := T.d_law_parts
  have G2 := ok_lparts (P := P) (w := w) (base := base) T d2
  obtain ⟨f3, fd3, d3⟩ := T.d_law_draw
  have G3 := ok_draw (P := P) (w := w) (base := base) T d3
  obtain ⟨f4, fd4, d4⟩ := T.d_law_row
  have G4 := ok_lrow (P := P) (w := w) (base := base) T d4
  obtain ⟨f5, fd5, d5⟩ := T.d_law_dot
  have G5 := ok_ldotV (P := P) (w := w) (base := base) T d5
  refine d.F.ok sc_law_paired (fun vs H Q E h => ?_) (fun cdv A outer s H vs Q E hr h => ?_)
  · obtain ⟨g, c, rfl, _⟩ := h
    rfl
  · obtain ⟨g, c, rfl, hh, q⟩ := h
    refine ⟨_, pss_cons (ps_asg (pe_tup (pa_cons (pe_call G1 (hr.mono (by decide)) rfl d1.m d1.F.kp d1.b .nil pass0 (pa_cons (pv 0) (pa_cons (pe_lst (pa_cons pe_int (pa_cons pe_int (pa_cons pe_int (pa_cons pe_int (pa_cons pe_int (pa_cons pe_int pa_nil))))))) pa_nil))) (pa_cons pe_int pa_nil))) (pg_tup rfl (pgs_cons (pg_name (i := 1) sc_law_paired.nd rfl (.inr rfl)) (pgs_cons (pg_name (i := 2) sc_law_paired.nd rfl (.inl rfl)) pgs_nil))))
      (pss_cons (ps_set (i := 3) sc_law_paired.nd rfl (.inr rfl) (pe_call G2 (hr.mono (by decide)) rfl d2.m d2.F.kp d2.b .nil pass0 (pa_cons (pv 0) (pa_cons (pv 1) (pa_cons (pv 2) (pa_cons pe_int (pa_cons pe_int pa_nil)))))))
      (pss_cons (ps_set (i := 4) sc_law_paired.nd rfl (.inl rfl) (pe_callTy call_list_of (by rfl) T.b_list (by decide +kernel) (pa_cons (pe_dget (hu1 hr) (pv 3) pe_str (fun _ _ => rfl)) pa_nil)))
      (pss_cons (ps_for PassesOwn.never rfl (pi_range1 rfl T.b_range (pa_cons (pe_call G3 (hr.mono (by decide)) rfl d3.m d3.F.kp d3.b .nil pass0 (pa_cons (pv 0) (pa_cons pe_int pa_nil))) pa_nil)) (pg_name (i := 5) sc_law_paired.nd rfl (.inl rfl))
        (pss_cons (ps_par (i := 6) (j := 7) (by rfl) sc_law_paired.nd rfl rfl (by decide) rfl rfl (pa_cons (pe_call G3 (hr.mono (by decide)) rfl d3.m d3.F.kp d3.b .nil pass0 (pa_cons (pv 0) (pa_cons (pe_callB call_len_seq (by rfl) T.b_len PySem.boot_len (pa_cons (pv 4) pa_nil)) pa_nil))) (pa_cons (pe_call G3 (hr.mono (by decide)) rfl d3.m d3.F.kp d3.b .nil pass0 (pa_cons (pv 0) (pa_cons (pe_callB call_len_seq (by rfl) T.b_len PySem.boot_len (pa_cons (pv 4) pa_nil)) pa_nil))) pa_nil)) (by rfl))
      (pss_one (ps_if (PW.pt (pw_and (pt_cmpR op_gt (pe_ix ix_list (pv 4) (pv 6) (fun _ _ => rfl)) pe_int (nomark _)) (pw_and1 (pt_cmpR op_lt (pe_ix ix_list (pv 4) (pv 7) (fun _ _ => rfl)) pe_int (nomark _))))) (pss_one (ps_asg (pe_tup (pa_cons (pe_op op_sub (pe_ix ix_list (pv 4) (pv 6) (fun _ _ => rfl)) pe_int) (pa_cons (pe_op op_add (pe_ix ix_list (pv 4) (pv 7) (fun _ _ => rfl)) pe_int) pa_nil))) (pg_tup rfl (pgs_cons (pg_sub (pv 4) (pv 6) set_list) (pgs_cons (pg_sub (pv 4) (pv 7) set_list) pgs_nil))))) pss_nil))))
      (pss_cons (ps_if (pt_cmpR op_eq (pe_call G3 (hr.mono (by decide)) rfl d3.m d3.F.kp d3.b .nil pass0 (pa_cons (pv 0) (pa_cons pe_int pa_nil))) pe_int (nomark _)) (pss_one (ps_asg (pe_call G3 (hr.mono (by decide)) rfl d3.m d3.F.kp d3.b .nil pass0 (pa_cons (pv 0) (pa_cons pe_int pa_nil))) (pg_sub (pv 4) (pe_call G3 (hr.mono (by decide)) rfl d3.m d3.F.kp d3.b .nil pass0 (pa_cons (pv 0) (pa_cons (pe_callB call_len_seq (by rfl) T.b_len PySem.boot_len (pa_cons (pv 4) pa_nil)) pa_nil))) set_list))) pss_nil)
      (pss_cons (ps_asg (pe_tup (pa_cons (pe_lc (own := [("place", 12)]) (g := (gName 12)) (tt := tYes) rfl sc_law_paired.nd (pi_range1 rfl T.b_range (pa_cons (pe_callB (cr_sumT rfl) (by rfl) T.b_sum (by decide +kernel) (pa_cons (pe_dget (hu1 hr) (pv 3) pe_str (fun _ _ => rfl)) pa_nil)) pa_nil)) (blkOk_by (N := N_law_paired) (sc := defScope s_law_paired) (by decide +kernel)) (fun _ _ _ _ _ => (pg_name (i := 12) sc_law_paired.nd rfl (Or.inl rfl))) (fun _ _ _ _ _ => pts_nil)
            (fun _ _ _ _ _ => (pe_call G3 (hr.mono (by decide)) rfl d3.m d3.F.kp d3.b .nil pass0 (pa_cons (pv 0) (pa_cons (pv 1) pa_nil))))) (pa_cons (pe_lst pa_nil) pa_nil))) (pg_tup rfl (pgs_cons (pg_name (i := 8) sc_law_paired.nd rfl (.inr rfl)) (pgs_cons (pg_name (i := 9) sc_law_paired.nd rfl (.inl rfl)) pgs_nil))))
      (pss_cons (ps_for PassesOwn.never rfl (pi_range1 rfl T.b_range (pa_cons (pe_callB call_len_seq (by rfl) T.b_len PySem.boot_len (pa_cons (pv 4) pa_nil)) pa_nil)) (pg_name (i := 10) sc_law_paired.nd rfl (.inr rfl))
        (pss_cons (ps_setLc (i := 11) (own := [("turn", 5)]) (g := (gName 5)) (tt := tYes) rfl sc_law_paired.nd rfl rfl (sw_true rfl rfl rfl (by decide +kernel)) (pi_range1 rfl T.b_range (pa_cons (pe_ix ix_list (pv 4) (pv 10) (fun _ _ => rfl)) pa_nil)) (blkOk_by (N := N_law_paired) (sc := defScope s_law_paired) (by decide +kernel)) (fun _ _ _ _ _ => (pg_name (i := 5) sc_law_paired.nd rfl (Or.inl rfl))) (fun _ _ _ _ _ => pts_nil)
            (fun _ _ _ _ _ => (pe_call G4 (hr.mono (by decide)) rfl d4.m d4.F.kp d4.b .nil pass0 (pa_cons (pv 0) (pa_cons (pv 3) (pa_cons (pv 10) pa_nil))))))
      (pss_one (ps_expr (pe_bm PySem.F.plainAttrs_list PySem.F.slot_list_append PySem.F.type_list_append mt_append (pv 9) (pa_cons (pe_callTy call_tuple_of (by rfl) T.b_tuple (by decide +kernel) (pa_cons (pe_lc (own := [("row", 13)]) (g := (gName 13)) (tt := tYes) rfl sc_law_paired.nd (pi_list (pv 11)) (blkOk_by (N := N_law_paired) (sc := defScope s_law_paired) (by decide +kernel)) (fun _ _ _ _ _ => (pg_name (i := 13) sc_law_paired.nd rfl (Or.inl rfl))) (fun _ _ _ _ _ => pts_nil)
            (fun _ _ _ _ _ => (pe_tup (pa_cons (pv 13) (pa_cons (pe_call G5 (hr.mono (by decide)) rfl d5.m d5.F.kp d5.b .nil pass0 (pa_cons (pv 1) (pa_cons (pv 13) (pa_cons (pv 8) pa_nil)))) pa_nil))))) pa_nil)) pa_nil))))))
      (pss_cons (ps_dput (hu_of hr) (pv 3) pe_str (pe_callTy call_tuple_of (by rfl) T.b_tuple (by decide +kernel) (pa_cons (pv 9) pa_nil)) rfl)
      (pss_one (ps_ret (pe_tup (pa_cons (pv 3) (pa_cons (pe_callTy call_tuple_of (by rfl) T.b_tuple (by decide +kernel) (pa_cons (pv 8) pa_nil)) pa_nil)))))))))))), ?_⟩
    refine ⟨_, rfl, by show 6 ≤ sizeLine; decide, fun lb nlb => ?_⟩
    have slb := same_new (o := .lst (([2, 3, 5, 7, 101, 999983] : List Int).map V.int)) nlb
    refine ⟨g, c, lb, ([2, 3, 5, 7, 101, 999983] : List Int).map V.int, rfl, upd_same, (hand_new hh nlb).1, by decide, by decide, hh.same slb, fun H3 j y b3 hh3 hy => ?_⟩
    obtain ⟨p, rfl, cl⟩ : ∃ p, y = V.int p ∧ NoDiv p := by
      obtain ⟨pz, hp, rfl⟩ := at_int hy
      have hm := List.mem_of_getElem? hp
      simp only [List.mem_cons, List.not_mem_nil, or_false] at hm
      refine ⟨pz, rfl, ?_⟩
      rcases hm with rfl | rfl | rfl | rfl | rfl | rfl
      · exact noDiv_of (n := 2) (by decide +kernel)
      · exact noDiv_of (n := 3) (by decide +kernel)
      · exact noDiv_of (n := 5) (by decide +kernel)
      · exact noDiv_of (n := 7) (by decide +kernel)
      · exact noDiv_of (n := 101) (by decide +kernel)
      · exact noDiv_of (n := 999983) (by decide +kernel)
    refine ⟨by show 2 ≤ sizeLine; decide, fun tp ntp => ?_⟩
    have stp := same_new (o := .tup [V.int p, V.int 6]) ntp
    dsimp only [gName, tSeq]
    refine ⟨tp, _, rfl, .of upd_same, rfl, _, _, rfl, _, _, rfl, rfl, ?_⟩
    have b4 := (slb.but g).trans (b3.trans (stp.but g))
    have hh4 := hh3.same stp
    refine ⟨_, rfl, _, rfl, _, rfl, g, c, p, 6, 9, 0, rfl, cl, by decide, by decide, by decide, by decide, hh4, fun H5 a tv uv rv S n b5 hh5 hP5 ok5 ep5 hn6 na4 => ?_⟩
    obtain ⟨tu, eu, htu⟩ := id hP5.u
    subst eu
    dsimp only [gName, tSeq]
    refine ⟨_, rfl, a, _, rfl, hP5.gu, tu, _, rfl, .inr (.of htu), fun cl1 ncl1 => ?_⟩
    have s6 := same_new (o := .lst (S.unk.map V.int)) ncl1
    have hh6 := hh5.same s6
    have hP6 := hP5.same s6
    have clg := hand_new hh5 ncl1
    have bc := b4.trans b5
    have cl0 : H cl1 = none := bc.free ncl1 clg.1
    have hcl6 := upd_same (H := H5) (a := cl1) (o := .lst (S.unk.map V.int))
    have t6 := bc.trans (s6.but g)
    generalize upd H5 cl1 (.lst (S.unk.map V.int)) = H6 at *
    dsimp only [gName, tSeq]
    refine ⟨_, rfl, g, c, 3, rfl, by decide, by decide, hh6, fun H7 k b7 hh7 k0 k1 => ⟨_, rfl, by omega, by omega, ?_⟩⟩
    have hlu := ok5.unk.len
    have hP7 := hP6.but hh6 b7
    refine for_it (walk_range (lo := 0) (n := k.toNat)) (fun i σ H' => ∃ x5 x6 x7, ∃ cs : List Int, σ = [some (.ref g), some (.int p), some (.int 6), some (.ref a), some (.ref cl1), x5, x6, x7, none, none, none, none, none, none] ∧ But g H H' ∧ Hand g c H' ∧ PDat H' a S tv (.ref tu) rv ∧ H' cl1 = some (.lst (cs.map V.int)) ∧ cs.length = n ∧ ∀ c ∈ cs, 0 ≤ c ∧ c < 9)
      ⟨none, none, none, S.unk, rfl, t6.trans b7, hh7, hP7, b7.lst clg.1 hcl6, hlu, ok5.unk.b⟩ (fun _ _ _ _ _ => trivial) ?_ ?_
    · rintro i x σ H8 H9 hi ⟨x5, x6, x7, cs, rfl, b8, hh8, hP8, hcl8, hcn, hcb⟩ ⟨rfl, rfl⟩
      have hn := ok5.tree.ok.len
      dsimp only [gName, tSeq]
      refine ⟨_, rfl, _, rfl, cl1, _, rfl, .inl (.of hcl8), g, c, _, rfl, by rw [List.length_map]; omega, by rw [List.length_map]; omega, hh8, fun HA one bA hhA o0 o1 => ?_⟩
      have hclA := bA.lst clg.1 hcl8
      refine ⟨_, rfl, _, rfl, cl1, _, rfl, .inl (.of hclA), g, c, _, rfl, by rw [List.length_map]; omega, by rw [List.length_map]; omega, hhA, fun HB oth bB hhB p0 p1 => ⟨_, _, rfl, ?_⟩⟩
      have hclB := bB.lst clg.1 hclA
      have bAB := bA.trans bB
      have hPB := hP8.but hh8 bAB
      rw [List.length_map] at o1 p1
      obtain ⟨on, rfl⟩ : ∃ on : Nat, one = (on : Int) := ⟨one.toNat, by omega⟩
      obtain ⟨qn, rfl⟩ : ∃ qn : Nat, oth = (qn : Int) := ⟨oth.toNat, by omega⟩
      have ho : cs[on]? = some (cs[on]'(by omega)) := List.getElem?_eq_getElem (by omega)
      have hq : cs[qn]? = some (cs[qn]'(by omega)) := List.getElem?_eq_getElem (by omega)
      have ob := hcb _ (List.mem_of_getElem? ho)
      have qb := hcb _ (List.mem_of_getElem? hq)
      have t9 := b8.trans bAB
      dsimp only [gName, tSeq]
      refine ⟨_, rfl, _, rfl, cl1, _, _, _, rfl, rfl, .of hclB, atI_nat (int_at ho), _, _, rfl, rfl, _, rfl, ?_⟩
      by_cases g1 : cs[on]'(by omega) > 0
      · refine iteT' (decide_eq_true g1) ?_
        refine ⟨_, rfl, _, rfl, cl1, _, _, _, rfl, rfl, .of hclB, atI_nat (int_at hq), _, _, rfl, rfl, _, rfl, ?_⟩
        by_cases g2 : cs[qn]'(by omega) < 8
        · refine iteT' (decide_eq_true g2) ?_
          refine ⟨_, rfl, _, rfl, cl1, _, _, _, rfl, rfl, .of hclB, atI_nat (int_at ho), _, _, rfl, rfl, _, rfl, _, rfl, cl1, _, _, _, rfl, rfl, .of hclB, atI_nat (int_at hq), _, _, rfl, rfl, by show 2 ≤ sizeLine; decide, fun t2 nt2 => ?_⟩
          have s2 := same_new (o := .tup [V.int (cs[on]'(by omega) - 1), V.int (cs[qn]'(by omega) + 1)]) nt2
          have hcl9 := s2 _ _ hclB
          have x1 : ixN (cs.map V.int).length (on : Int) = some on := ixN_nat (by rw [List.length_map]; omega)
          have x2 : ixN ((cs.map V.int).set on (.int (cs[on]'(by omega) - 1))).length (qn : Int) = some qn := ixN_nat (by rw [List.length_set, List.length_map]; omega)
          refine ⟨t2, _, rfl, .of upd_same, rfl, _, _, rfl, _, rfl, _, rfl, cl1, _, _, on, rfl, rfl, hcl9, x1, _, _, rfl, _, rfl, _, rfl, cl1, _, _, qn, rfl, rfl, upd_same, x2, rfl, ?_⟩
          refine ⟨_, _, _, (cs.set on (cs[on]'(by omega) - 1)).set qn (cs[qn]'(by omega) + 1), rfl, fun a u ha e => ?_, ((hhB.same s2).setD clg.1 clg.2).setD clg.1 clg.2, ?_, by rw [upd_same, List.map_set, List.map_set], by rw [List.length_set, List.length_set, hcn], fun v hv => ?_⟩
          · have hne : a ≠ cl1 := fun q => by subst q; rw [cl0] at e; cases e
            rw [upd_ne hne, upd_ne hne]
            exact (t9.trans (s2.but g)) a u ha e
          · exact ((hPB.same s2).setL hcl9).setL upd_same
          · rcases List.mem_or_eq_of_mem_set hv with hv | rfl
            · rcases List.mem_or_eq_of_mem_set hv with hv | rfl
              · exact hcb v hv
              · omega
            · omega
        · refine iteF' (decide_eq_false g2) ?_
          exact ⟨_, _, _, cs, rfl, t9, hhB, hPB, hclB, hcn, hcb⟩
      · refine iteF' (decide_eq_false g1) ?_
        exact ⟨_, _, _, cs, rfl, t9, hhB, hPB, hclB, hcn, hcb⟩
    · rintro σ H8 ⟨x5, x6, x7, cs, rfl, b8, hh8, hP8, hcl8, hcn, hcb⟩
      have hn := ok5.tree.ok.len
      refine ⟨_, rfl, g, c, 8, rfl, by decide, by decide, hh8, fun H9 e b9 hh9 e0 e1 => ⟨rfl, _, rfl, ?_⟩⟩
      have hP9 := hP8.but hh8 b9
      have hcl9 := b9.lst clg.1 hcl8
      have t9 := b8.trans b9
      clear hcl8 hP8 b8 hh8 b9
      apply twice2 (fun HX (cs : List Int) => But g H HX ∧ Hand g c HX ∧ PDat HX a S tv (.ref tu) rv ∧ HX cl1 = some (.lst (cs.map V.int)) ∧ cs.length = n ∧ ∀ c ∈ cs, 0 ≤ c ∧ c < 9)
      · intro rest
        by_cases he : e = 0
        case neg =>
          refine iteF' (decide_eq_false fun z => he (V.int.inj z)) ?_
          exact rest H9 cs ⟨t9, hh9, hP9, hcl9, hcn, hcb⟩
        refine iteT' (decide_eq_true (by rw [he])) ?_
        refine ⟨_, rfl, g, c, 4, rfl, by decide, by decide, hh9, fun HA k2 bA hhA k20 k21 => ?_⟩
        have hclA := bA.lst clg.1 hcl9
        refine ⟨_, rfl, _, rfl, _, rfl, cl1, _, rfl, .inl (.of hclA), g, c, _, rfl, by rw [List.length_map]; omega, by rw [List.length_map]; omega, hhA, fun HB on bB hhB o0 o1 => ?_⟩
        rw [List.length_map] at o1
        obtain ⟨j, rfl⟩ : ∃ j : Nat, on = (j : Int) := ⟨on.toNat, by omega⟩
        have hclB := bB.lst clg.1 hclA
        refine ⟨cl1, _, _, j, rfl, rfl, hclB, ixN_nat (by rw [List.length_map]; omega), ?_⟩
        refine rest _ (cs.set j k2) ⟨fun a u ha e => ?_, hhB.setD clg.1 clg.2, ?_, by rw [upd_same, List.map_set], by rw [List.length_set, hcn], fun v hv => ?_⟩
        · have hne : a ≠ cl1 := fun q => by subst q; rw [cl0] at e; cases e
          rw [upd_ne hne]
          exact ((t9.trans bA).trans bB) a u ha e
        · exact (hP9.but hh9 (bA.trans bB)).setL hclB
        · rcases List.mem_or_eq_of_mem_set hv with hv | rfl
          · exact hcb v hv
          · omega
      · clear hcl9 hP9 hh9 t9 hcb hcn cs
        rintro HX cs ⟨t9, hh9, hP9, hcl9, hcn, hcb⟩
        dsimp only [tNext, tSeq]
        have hs60 := ok5.unk.s
        have hsn := sum_nn fun x hx => (ok5.unk.b x hx).1
        have p2 := cl.1
        have pm := cl.2.1
        obtain ⟨tu', eu', htu9⟩ := id hP9.u
        cases eu'
        refine ⟨_, rfl, a, _, rfl, hP9.gu, tu, S.unk, rfl, .of htu9, _, rfl, by omega, by omega, fun D hD => ?_⟩
        have Dg := hand_new hh9 hD
        have D0 : H D = none := t9.free hD Dg.1
        refine walk_W (walk_range (lo := 0) (n := S.unk.sum.toNat)) _ (PvDr rInt (fun x => 0 ≤ x ∧ x < p) g c D HX) (dr_start hh9 hD) (fun _ _ _ _ => trivial) ?_ ?_
        · rintro i x HA HB hi pv ⟨rfl, rfl⟩
          refine ⟨rfl, _, rfl, _, rfl, g, c, p, rfl, by omega, by omega, pv.2.1, fun HC e b hh e0 e1 => ?_⟩
          exact dr_keep mono_int hh9 pv hD (by omega) b hh rfl ⟨e0, e1⟩
        rintro HA pv
        obtain ⟨hid, hDA, lhid, bhid, bA, hhA⟩ := dr_fin pv
        have hclA := bA.lst clg.1 hcl9
        have hPA := hP9.but hh9 bA
        refine ⟨by show 0 ≤ sizeLine; decide, fun rl nrl => ⟨by show 2 ≤ sizeLine; decide, fun tq ntq => ?_⟩⟩
        have s3 := same_new (o := .lst []) nrl
        have s4 := same_new (o := .tup [V.ref D, V.ref rl]) ntq
        have rlg := hand_new hhA nrl
        have tA := t9.trans bA
        have rl0 : H rl = none := tA.free nrl rlg.1
        have Drl : D ≠ rl := fun e => by rw [← e, hDA] at nrl; cases nrl
        have crl : cl1 ≠ rl := fun e => by rw [← e, hclA] at nrl; cases nrl
        refine ⟨tq, _, rfl, .of upd_same, rfl, _, _, rfl, _, _, rfl, rfl, ?_⟩
        have s34 := s3.trans s4
        have hrlB := s4 _ _ (upd_same (H := HA) (a := rl) (o := .lst []))
        generalize upd (upd HA rl (.lst [])) tq (.tup [V.ref D, V.ref rl]) = HB at *
        have tB := tA.trans (s34.but g)
        have hhB := hhA.same s34
        have hPB := hPA.same s34
        refine ⟨_, rfl, cl1, _, rfl, .inl (.of (s34 _ _ hclA)), _, rfl, by rw [List.length_map]; omega, by rw [List.length_map]; omega, ?_⟩
        rw [List.length_map, hcn]
        refine for_it (walk_range (lo := 0) (n := n)) (fun i σ H' => ∃ x5 x10 x11, ∃ vs, ∃ rls : List (List Rule), σ = [some (.ref g), some (.int p), some (.int 6), some (.ref a), some (.ref cl1), x5, x6, x7, some (.ref D), some (.ref rl), x10, x11, none, none] ∧ But g H H' ∧ Hand g c H' ∧ PDat H' a S tv (.ref tu) rv ∧ H' cl1 = some (.lst (cs.map V.int)) ∧ H' D = some (.lst (hid.map V.int)) ∧
            H' rl = some (.lst vs) ∧ Paired (rOwn H') vs rls ∧ rls.length = i ∧ (∀ own ∈ rls, own.length ≤ 8 ∧ ∀ r ∈ own, r.2 = dotU p r.1 hid) ∧ ∀ post own, rls[post]? = some own → ∀ r ∈ own, RuleOk p S.ties S.unk (post : Nat) r)
          ⟨x5, none, none, [], [], rfl, tB, hhB, hPB, s34 _ _ hclA, s34 _ _ hDA, hrlB, .nil, rfl, fun _ h => (nomatch h), fun post own h => by simp at h⟩ (fun _ _ _ _ _ => trivial) ?_ ?_
        · rintro i x σ HC HD hi ⟨y5, x10, x11, vs, rls, rfl, bC, hhC, hPC, hclC, hDC, hrlC, hpr, hlr, hr8, hok⟩ ⟨rfl, rfl⟩
          have hci : cs[i]? = some (cs[i]'(by omega)) := List.getElem?_eq_getElem (by omega)
          have cib := hcb _ (List.mem_of_getElem? hci)
          dsimp only [gName, tSeq]
          refine ⟨_, rfl, _, rfl, cl1, _, _, _, rfl, rfl, .of hclC, by rw [Int.zero_add]; exact atI_nat (int_at hci), _, rfl, by omega, by omega, fun E1 hE1 => ?_⟩
          have hn := ok5.tree.ok.len
          have Eg := hand_new hhC hE1
          refine walk_W (walk_range (lo := 0) (n := (cs[i]'(by omega)).toNat)) _ (PvDr rRow (fun l => isRow l S.p S.unk.sum ∧ ∀ k v, l[k]? = some v → v = 0 ∨ nearU S.ties S.unk (i : Nat) (k : Nat)) g c E1 HD) (dr_start hhC hE1) (fun _ _ _ _ => trivial) ?_ ?_
          · rintro j x H1 H2 hj pv ⟨rfl, rfl⟩
            have hPD := hPC.but hhC pv.1
            refine ⟨rfl, _, rfl, _, rfl, _, rfl, g, c, a, tv, .ref tu, rv, S, 0 + (i : Int), n, rfl, hPD, ok5.tree.ok, ok5.unk, by omega, by omega, by rw [ep5]; exact p2, by rw [ep5]; exact pm, pv.2.1, fun H3 v l b3 hh3 hrow hir hnear => ?_⟩
            rw [Int.zero_add] at hnear
            exact dr_keep mono_row hhC pv hE1 (by omega) b3 hh3 hrow ⟨hir, hnear⟩
          rintro H1 ⟨b1, hh1, us, rs, hE, hpE, hlE, hfE⟩
          have t1 := bC.trans b1
          have hP1 := hPC.but hhC b1
          have hD1 := b1.lst Dg.1 hDC
          have hrl1 := b1.lst rlg.1 hrlC
          have lus := paired_len hpE
          have hu8 : rs.length ≤ 8 := by omega
          dsimp only [gName, tSeq]
          refine ⟨_, rfl, .inl ⟨rfl, _, .of hrl1⟩, _, rfl, E1, rfl, ⟨_, .of hE⟩, fun E2 hE2 => ?_⟩
          refine lc_fm (walk_list (xs := us)) rRule (fun k => rs[k]?.bind fun r => some (r, dotU p r hid)) hE2 (fun H' s' => .of (s' _ _ hE)) ?_ ?_
          · rintro k y H2 H3 hk pw ⟨rfl, hy⟩
            obtain ⟨r, hr2, hrow⟩ := paired_get (paired_mono mono_row pw.1.keep hpE) hy
            obtain ⟨hrr, _⟩ := hfE r (List.mem_of_getElem? hr2)
            have hrl := hrr.1
            refine ⟨rfl, _, rfl, _, rfl, _, rfl, _, rfl, y, D, p, r, hid, rfl, hrow, pw.1 _ _ hD1, p2, pm, by omega, by omega, by rw [← ep5]; exact hrr.2, bhid, fun H4 s4 => ⟨by show 2 ≤ sizeLine; decide, fun t4 nt4 => ?_⟩⟩
            have s5 := same_new (o := .tup [y, V.int (dotU p r hid)]) nt4
            exact fm_keep mono_rule pw hE2 (by omega) (s4.trans s5) (by rw [hr2]; rfl) ⟨t4, y, rfl, upd_same, mono_row _ _ _ _ (s4.trans s5).keep hrow⟩
          · intro H2 zs s2 hE2' hp2
            rw [lus, fm_some] at hp2
            refine ⟨E2, _, rfl, .inl ⟨.of hE2', fun t5 nt5 => ?_⟩⟩
            have s5 := same_new (o := .tup zs) nt5
            have s25 := s2.trans s5
            have hrl5 := s25 _ _ hrl1
            refine ⟨rl, vs, _, rfl, rfl, hrl5, Nat.lt_of_le_of_lt (by have := paired_len hpr; omega : _ ≤ 1000) (by decide), ?_⟩
            have own5 : rOwn (upd H2 t5 (.tup zs)) (.ref t5) (rs.map fun r => (r, dotU p r hid)) := ⟨t5, zs, rfl, upd_same, paired_mono mono_rule s5.keep hp2⟩
            have hP5 := hP1.same s25
            have hh5 := hh1.same s25
            have hcl5 := s25 _ _ (b1.lst clg.1 hclC)
            have hD5 := s25 _ _ hD1
            have kpr : Keep H1 (upd H2 t5 (.tup zs)) := s25.keep
            have hpr5 := paired_mono mono_own ((hhC.keep b1).trans kpr) hpr
            have bt := t1.trans (s25.but g)
            generalize upd H2 t5 (.tup zs) = H5 at *
            have kl := keep_lst (o := .lst (vs ++ [V.ref t5])) hrl5
            refine ⟨_, _, _, vs ++ [.ref t5], rls ++ [rs.map fun r => (r, dotU p r hid)], rfl, fun a u ha e => ?_, hh5.setD rlg.1 rlg.2, hP5.setL hrl5, by rw [upd_ne crl]; exact hcl5, by rw [upd_ne Drl]; exact hD5, upd_same, ?_, by rw [List.length_append, hlr]; rfl, ?_, ?_⟩
            · rw [upd_ne (fun q => by subst q; rw [rl0] at e; cases e)]
              exact bt a u ha e
            · exact paired_app (paired_mono mono_own kl hpr5) (.cons (mono_own _ _ _ _ kl own5) .nil)
            · intro own ho
              rcases List.mem_append.mp ho with h | h
              · exact hr8 own h
              · rw [List.mem_singleton.mp h, List.length_map]
                refine ⟨hu8, fun r hr => ?_⟩
                obtain ⟨y, _, rfl⟩ := List.mem_map.mp hr
                rfl
            · intro post own ho
              by_cases hp : post < rls.length
              · rw [List.getElem?_append_left hp] at ho
                exact hok post own ho
              · rw [List.getElem?_append_right (by omega)] at ho
                have h0 : post - rls.length = 0 := by have := (List.getElem?_eq_some_iff.mp ho).1; rw [List.length_singleton] at this; omega
                rw [h0] at ho
                have e1 : post = i := by omega
                cases (Option.some.inj ho)
                rw [e1]
                intro r hr
                obtain ⟨y, hy, rfl⟩ := List.mem_map.mp hr
                obtain ⟨f1, f2⟩ := hfE y hy
                have hdb : 0 ≤ dotU p y hid ∧ dotU p y hid < p := mod_b (by omega)
                exact ⟨by rw [← ep5]; exact f1, hdb.1, hdb.2, f2⟩
        · rintro σ HC ⟨y5, x10, x11, vs, rls, rfl, bC, hhC, hPC, hclC, hDC, hrlC, hpr, hlr, hr8, hok⟩
          have lvs := paired_len hpr
          refine ⟨_, rfl, rl, vs, rfl, .inl ⟨.of hrlC, fun t1 nt1 => ?_⟩⟩
          have s1 := same_new (o := .tup vs) nt1
          have hP1 := hPC.same s1
          have hh1 := hhC.same s1
          have hD1 := s1 _ _ hDC
          have hr1 : rRls (upd HC t1 (.tup vs)) (.ref t1) rls := ⟨t1, vs, rfl, upd_same, paired_mono mono_own s1.keep hpr⟩
          have b1 := bC.trans (s1.but g)
          generalize upd HC t1 (.tup vs) = H1 at *
          refine ⟨_, rfl, a, _, rfl, DPut.k (k := .inr "rules") hP1.d (by show 4 < sizeLine; decide), ?_⟩
          rw [put_rules]
          have na4' : H a = none := b4.free na4 (hP5.ne hh5)
          have hag : a ≠ g := hP5.ne hh5
          have hac : a ≠ c := fun e => by
            obtain ⟨_, ec⟩ := hh1.cells
            rw [← e, hP1.d] at ec
            cases ec
          have kt : ∀ o t xs, H1 t = some (.tup xs) → (upd H1 a o) t = some (.tup xs) := fun o t xs h => by
            rw [upd_ne (fun e => by rw [e, hP1.d] at h; cases h)]
            exact h
          have hD2 : (upd H1 a (.dK (kvsP S.p tv (.ref tu) (.ref t1)))) D = some (.lst (hid.map V.int)) := by
            rw [upd_ne (fun e => by rw [e, hP1.d] at hD1; cases hD1)]
            exact hD1
          have hh2 : Hand g c (upd H1 a (.dK (kvsP S.p tv (.ref tu) (.ref t1)))) := hh1.setD hag hac
          have b2 : But g H (upd H1 a (.dK (kvsP S.p tv (.ref tu) (.ref t1)))) := fun x u hx e => by
            rw [upd_ne (fun q => by subst q; rw [na4'] at e; cases e)]
            exact b1 x u hx e
          obtain ⟨tt, xt, et, htt, hxt⟩ := id hP1.t
          obtain ⟨_, xr, er, htr, hxr⟩ := id hr1
          cases er
          have hP2 : PDat (upd H1 a (.dK (kvsP S.p tv (.ref tu) (.ref t1)))) a ⟨S.p, S.ties, S.unk, rls⟩ tv (.ref tu) (.ref t1) :=
            ⟨upd_same, ⟨tt, xt, et, kt _ _ _ htt, Paired.mapP hxt fun _ _ q => pi_kt (kt _) q⟩, row_kt (kt _) hP1.u, ⟨t1, xr, rfl, kt _ _ _ htr, Paired.mapP hxr fun _ _ q => own_kt (kt _) q⟩⟩
          generalize upd H1 a (.dK (kvsP S.p tv (.ref tu) (.ref t1))) = H2 at *
          refine ⟨_, rfl, _, rfl, D, _, rfl, .inl ⟨.of hD2, fun th nth => ⟨by show 2 ≤ sizeLine; decide, fun tz ntz => ?_⟩⟩⟩
          have s3 := same_new (o := .tup (hid.map V.int)) nth
          have s4 := same_new (o := .tup [V.ref a, V.ref th]) ntz
          have s34 := s3.trans s4
          have h12 : ∀ own ∈ rls, own.length ≤ 8 := fun own h => (hr8 own h).1
          have h12s : (rls.map List.length).sum ≤ 8 * rls.length := by
            clear hpr lvs hr8 hok hlr hr1 hP2 hxr
            induction rls with
            | nil => exact Nat.zero_le _
            | cons a l ih =>
              have h1 := h12 a (by simp)
              have h3 := ih fun own h => h12 own (by simp [h])
              rw [List.map_cons, List.sum_cons, List.length_cons]
              omega
          refine q _ tz a th tv (.ref tu) (.ref t1) ⟨S.p, S.ties, S.unk, rls⟩ n hid (b2.trans (s34.but g)) (hh2.same s34) upd_same (hP2.same s34) ⟨ok5.tree, ok5.clock, ok5.unk, hlr, h12, by show (rls.map List.length).sum ≤ 60; omega, fun post own h r hr => ?_⟩ ⟨th, rfl, s4 _ _ upd_same⟩ ⟨⟨by show (hid.length : Int) = S.unk.sum; omega, fun v hv => ?_⟩, fun own ho r hr => ?_⟩
          · show RuleOk S.p S.ties S.unk _ _
            rw [ep5]
            exact hok post own h r hr
          · show 0 ≤ v ∧ v < S.p
            rw [ep5]
            exact bhid v hv
          · show r.2 = dotU S.p r.1 hid
            rw [ep5]
            exact (hr8 own ho).2 r hr
end
end S4

namespace S4
open PySem L2 TT MM EE
/-! ### rules along a chain -/
def chT : Nat → List (Int × Int)
  | 0 => []
  | n + 1 => (List.range n).map fun (i : Nat) => ((i : Int), (i : Int) + 1)
theorem rng_succ (n : Nat) : rng (n + 1) = rng n ++ [(n : Int)] := by unfold rng; rw [List.range_succ, List.map_append]; rfl
theorem chain_tr : ∀ n : Nat, Tr (rng (n + 1)) (chT (n + 1))
  | 0 => Tr.one 0
  | n + 1 => by
    have h := chain_tr n
    have e : chT (n + 2) = chT (n + 1) ++ [tieOf ((n + 1 : Nat) : Int) (n : Int)] := by
      show (List.range (n + 1)).map (fun (i : Nat) => ((i : Int), (i : Int) + 1)) = (List.range n).map (fun (i : Nat) => ((i : Int), (i : Int) + 1)) ++ _
      rw [List.range_succ, List.map_append]
      unfold tieOf
      rw [if_neg (by omega)]
      rfl
    rw [e, rng_succ (n + 1)]
    exact Tr.leaf h (rng_mem.mpr ⟨by omega, by omega⟩) fun q => by have := rng_mem.mp q; omega
theorem chain_ok {n : Nat} (h1 : 1 ≤ n) (hn : n ≤ 24) : TreeOk (chT n) n := by
  obtain ⟨m, rfl⟩ : ∃ m, n = m + 1 := ⟨n - 1, by omega⟩
  refine treeOk_of (chain_tr m) (.refl _) hn (.refl _) ?_
  unfold chT
  rw [List.pairwise_map]
  refine List.pairwise_lt_range.imp ?_
  intro a b h
  show lxLe _ _
  unfold lxLe lxLt
  simp only
  omega
theorem ones_ok {n : Nat} (hn : n ≤ 24) : CountsOk (List.replicate n 1) n := ⟨by simp, fun h hh => by rw [(List.mem_replicate.mp hh).2]; omega, by rw [List.sum_replicate_int]; omega⟩
theorem ones_sum (n : Nat) : (List.replicate n (1 : Int)).sum = (n : Int) := by rw [List.sum_replicate_int]; omega
theorem ones_held {n i : Nat} (hi : i < n) : ((i : Nat) : Int) ∈ heldL (List.replicate n 1) (i : Int) := by
  unfold heldL
  rw [Int.toNat_natCast, getD_at (show (List.replicate n (1 : Int))[i]? = some 1 by rw [List.getElem?_replicate, if_pos hi]), List.take_replicate, Nat.min_eq_left (by omega), ones_sum]
  exact List.mem_map.mpr ⟨0, by simp, by simp⟩
theorem rep_row1 (H : Hp) (k : Nat) : (List.replicate k [V.int 1]).flatten = (List.replicate k (1 : Int)).map V.int := by
  induction k with
  | zero => rfl
  | succ k ih => rw [List.replicate_succ, List.replicate_succ, List.flatten_cons, ih, List.map_cons]; rfl
/-- (0,) * k -/
theorem ones {K : PySem.W.Frag} {H : Hp} {t : Addr} {k : Nat} {Q : V → Hp → Prop} (ht : H t = some (.tup [V.int 1])) (hk : k ≤ 1000) (q : ∀ H' v, Same H H' → rRow H' v (List.replicate k 1) → Q v H') : rRepA K (.ref t) (.int (k : Int)) H Q := by
  refine ⟨t, k, [V.int 1], rfl, rfl, .of ht, by simp, by omega, by omega, by show 1 ≤ 1000; decide, fun e => ?_, fun e p np => ?_⟩
  · have : k = 1 := by omega
    subst this
    exact q H _ (.refl _) ⟨t, rfl, ht⟩
  · refine q _ _ (same_new np) ⟨p, rfl, ?_⟩
    rw [upd_same, Int.toNat_natCast, rep_row1 H k]
section
variable {P : Program} {w : World} {K : PySem.W.Frag} {mg : Str → Option Value} {base : Heap} {cT cS : Addr}
def spLDotL : Sp := fun vs H Q _ => ∃ (v : V) (b : Addr) (p : Int) (l m : List Int), vs = [.int p, v, .ref b] ∧ rLI H v l ∧ H b = some (.lst (m.map V.int)) ∧ 2 ≤ p ∧ p ≤ 1000000 ∧ l.length = m.length ∧ l.length ≤ 100 ∧ (∀ x ∈ l, 0 ≤ x ∧ x < p) ∧ (∀ x ∈ m, 0 ≤ x ∧ x < p) ∧ ∀ H', Same H H' → Q (.int (dotU p l m)) H'
theorem ok_ldotL (T : Tx K mg cT cS) {f : Addr} {fd : FuncData} (d : D K mg "_law_dot" s_law_dot ["p", "one", "other"] f fd) : FnOk P w K mg base CX0 1 f fd ["p", "one", "other"] spLDotL := by
  refine d.F.ok sc_law_dot (fun vs H Q E h => ?_) (fun cdv A outer s H vs Q E hr h => ?_)
  · obtain ⟨v, b, p, l, m, rfl, _⟩ := h
    rfl
  · obtain ⟨v, b, p, l, m, rfl, ⟨t, rfl, ht⟩, hb, p2, pm, hlm, hl, hlb, hmb, q⟩ := h
    refine ⟨_, pss_one (ps_ret (pe_op op_mod (pe_callTy call_int1 (by rfl) T.b_int (by decide +kernel) (pa_cons (pe_callB (cr_sum rfl) (by rfl) T.b_sum (by decide +kernel) (pa_cons (pe_lc (own := [("here", 3), ("there", 4)]) (g := (gTup K 2 (gCons (gName 3) (gCons (gName 4) gNil)))) (tt := tYes) rfl sc_law_dot.nd (pi_zipM (by rfl) T.b_zip (pa_cons (pv 1) (pa_cons (pv 2) pa_nil))) (blkOk_by (N := N_law_dot) (sc := defScope s_law_dot) (by decide +kernel)) (fun _ _ _ _ _ => (pgT rfl rfl (pgs_cons (pg_name (i := 3) sc_law_dot.nd rfl (Or.inl rfl)) (pgs_cons (pg_name (i := 4) sc_law_dot.nd rfl (Or.inl rfl)) pgs_nil)))) (fun _ _ _ _ _ => pts_nil)
            (fun _ _ _ _ _ => (pe_op op_mul (pv 3) (pv 4)))) pa_nil)) pa_nil)) (pv 0))), ?_⟩
    refine ⟨_, rfl, _, rfl, t, b, _, _, true, true, rfl, .of ht, .of hb, fun D hD => ?_⟩
    refine lc_fm (walk_zipM (b1 := true) (b2 := true) (n := l.length) (by rw [List.length_map, List.length_map]; omega)) rInt (fun i => some (l.getD i 0 * m.getD i 0)) hD (fun H' s' => ⟨.of (s' _ _ ht), .of (s' _ _ hb)⟩) ?_ ?_
    · rintro i x H2 H3 hi pv ⟨tz, u1, u2, rfl, nz, rfl, e1, e2⟩
      obtain ⟨a, ha, rfl⟩ := at_int e1
      obtain ⟨b, hb2, rfl⟩ := at_int e2
      have h1 := hlb a (List.mem_of_getElem? ha)
      have h2 := hmb b (List.mem_of_getElem? hb2)
      refine ⟨tz, _, rfl, .of upd_same, rfl, _, _, rfl, _, _, rfl, rfl, rfl, ?_⟩
      refine ⟨_, rfl, _, rfl, _, _, rfl, rfl, .inl ⟨by omega, by omega⟩, ?_⟩
      refine fm_keep mono_int pv hD (by omega) (same_new nz) rfl ?_
      show V.int (a * b) = V.int (l.getD i 0 * m.getD i 0)
      rw [getD_at ha, getD_at hb2]
    · intro H2 ys s2 hD2 hp2
      rw [fm_all] at hp2
      have := paired_int hp2
      subst this
      exact ⟨D, _, rfl, .of hD2, .inl ⟨_, rfl, _, rfl, _, _, rfl, rfl, by show 0 < p; omega, q _ s2⟩⟩
def spLChain : Sp := fun vs H Q _ => ∃ (g c : Addr), vs = [.ref g] ∧ Hand g c H ∧
  ∀ H' t a th tv uv rv S n hid, But g H H' → Hand g c H' → H' t = some (.tup [.ref a, .ref th]) → PDat H' a S tv uv rv → RulesOk S n → rRow H' (.ref th) hid → HidOk S hid → Q (.ref t) H'
theorem ok_lchain (T : Tx K mg cT cS) {f : Addr} {fd : FuncData} (d : D K mg "_law_chain" s_law_chain ["hand"] f fd) : FnOk P w K mg base CX0 5 f fd ["hand"] spLChain := by
  obtain ⟨f1, fd1, d1⟩ := T.d_law_draw
  have G1 := ok_draw (P := P) (w := w) (base := base) T d1
  obtain ⟨f2, fd2, d2⟩ := T.d_law_any
  have G2 := ok_any (P := P) (w := w) (base := base) T d2
  obtain ⟨f3, fd3, d3⟩ := T.d_law_allowed
  have G3 := ok_lall (P := P) (w := w) (base := base) T d3
  obtain ⟨f4, fd4, d4⟩ := T.d_law_dot
  have G4 := ok_ldotL (P := P) (w := w) (base := base) T d4
  refine d.F.ok sc_law_chain (fun vs H Q E h => ?_) (fun cdv A outer s H vs Q E hr h => ?_)
  · obtain ⟨g, c, rfl, _⟩ := h
    rfl
  · obtain ⟨g, c, rfl, hh, q⟩ := h
    refine ⟨_, pss_cons (ps_asg (pe_tup (pa_cons (pe_op op_add pe_int (pe_call G1 (hr.mono (by decide)) rfl d1.m d1.F.kp d1.b .nil pass0 (pa_cons (pv 0) (pa_cons pe_int pa_nil)))) (pa_cons (pe_call G2 (hr.mono (by decide)) rfl d2.m d2.F.kp d2.b .nil pass0 (pa_cons (pv 0) (pa_cons (pe_lst (pa_cons pe_int (pa_cons pe_int (pa_cons pe_int (pa_cons pe_int pa_nil))))) pa_nil))) pa_nil))) (pg_tup rfl (pgs_cons (pg_name (i := 1) sc_law_chain.nd rfl (.inl rfl)) (pgs_cons (pg_name (i := 2) sc_law_chain.nd rfl (.inr rfl)) pgs_nil))))
      (pss_cons (ps_set (i := 4) sc_law_chain.nd rfl (.inl rfl) (pe_callTy call_tuple_of (by rfl) T.b_tuple (by decide +kernel) (pa_cons (pe_lc (own := [("post", 3)]) (g := (gName 3)) (tt := tYes) rfl sc_law_chain.nd (pi_range1 rfl T.b_range (pa_cons (pe_op op_sub (pv 1) pe_int) pa_nil)) (blkOk_by (N := N_law_chain) (sc := defScope s_law_chain) (by decide +kernel)) (fun _ _ _ _ _ => (pg_name (i := 3) sc_law_chain.nd rfl (Or.inl rfl))) (fun _ _ _ _ _ => pts_nil)
            (fun _ _ _ _ _ => (pe_tup (pa_cons (pv 3) (pa_cons (pe_op op_add (pv 3) pe_int) pa_nil))))) pa_nil)))
      (pss_cons (ps_par (i := 5) (j := 6) (by rfl) sc_law_chain.nd rfl rfl (by decide) rfl rfl (pa_cons (pe_disp (pps_cons pe_str (pv 2) (pps_cons pe_str (pv 4) (pps_cons pe_str (pe_op op_repA (pe_tup (pa_cons pe_int pa_nil)) (pv 1)) (pps_cons pe_str (pe_tup pa_nil) pps_nil)))) rfl rfl (fun h => nomatch h) (by decide)) (pa_cons (pe_lst pa_nil) pa_nil)) (by rfl))
      (pss_cons (ps_setLc (i := 7) (own := [("post", 3)]) (g := (gName 3)) (tt := tYes) rfl sc_law_chain.nd rfl rfl (sw_true rfl rfl rfl (by decide +kernel)) (pi_range1 rfl T.b_range (pa_cons (pv 1) pa_nil)) (blkOk_by (N := N_law_chain) (sc := defScope s_law_chain) (by decide +kernel)) (fun _ _ _ _ _ => (pg_name (i := 3) sc_law_chain.nd rfl (Or.inl rfl))) (fun _ _ _ _ _ => pts_nil)
            (fun _ _ _ _ _ => (pe_call G1 (hr.mono (by decide)) rfl d1.m d1.F.kp d1.b .nil pass0 (pa_cons (pv 0) (pa_cons (pv 2) pa_nil)))))
      (pss_cons (ps_for PassesOwn.never rfl (pi_range1 rfl T.b_range (pa_cons (pv 1) pa_nil)) (pg_name (i := 3) sc_law_chain.nd rfl (.inl rfl))
        (pss_cons (ps_set (i := 8) sc_law_chain.nd rfl (.inl rfl) (pe_op op_rep (pe_lst (pa_cons pe_int pa_nil)) (pv 1)))
      (pss_cons (ps_for PassesOwn.never rfl (pi_list (pe_call G3 (hr.mono (by decide)) rfl d3.m d3.F.kp d3.b .nil pass0 (pa_cons (pv 5) (pa_cons (pv 3) pa_nil)))) (pg_name (i := 9) sc_law_chain.nd rfl (.inl rfl))
        (pss_one (ps_asg (pe_op op_add pe_int (pe_call G1 (hr.mono (by decide)) rfl d1.m d1.F.kp d1.b .nil pass0 (pa_cons (pv 0) (pa_cons (pe_op op_sub (pv 2) pe_int) pa_nil)))) (pg_sub (pv 8) (pv 9) set_list))))
      (pss_cons (ps_asg (pe_call G2 (hr.mono (by decide)) rfl d2.m d2.F.kp d2.b .nil pass0 (pa_cons (pv 0) (pa_cons (pe_lst (pa_cons pe_int (pa_cons pe_int (pa_cons (pe_ix ix_list (pv 8) (pv 3) (fun _ _ => rfl)) pa_nil)))) pa_nil))) (pg_sub (pv 8) (pv 3) set_list))
      (pss_one (ps_expr (pe_bm PySem.F.plainAttrs_list PySem.F.slot_list_append PySem.F.type_list_append mt_append (pv 6) (pa_cons (pe_tup (pa_cons (pe_tup (pa_cons (pe_callTy call_tuple_of (by rfl) T.b_tuple (by decide +kernel) (pa_cons (pv 8) pa_nil)) (pa_cons (pe_call G4 (hr.mono (by decide)) rfl d4.m d4.F.kp d4.b .nil pass0 (pa_cons (pv 2) (pa_cons (pv 8) (pa_cons (pv 7) pa_nil)))) pa_nil))) pa_nil)) pa_nil))))))))
      (pss_cons (ps_dput (hu_of hr) (pv 5) pe_str (pe_callTy call_tuple_of (by rfl) T.b_tuple (by decide +kernel) (pa_cons (pv 6) pa_nil)) rfl)
      (pss_one (ps_ret (pe_tup (pa_cons (pv 5) (pa_cons (pe_callTy call_tuple_of (by rfl) T.b_tuple (by decide +kernel) (pa_cons (pv 7) pa_nil)) pa_nil)))))))))), ?_⟩
    refine ⟨_, rfl, g, c, 5, rfl, by decide, by decide, hh, fun H1 k b1 hh1 k0 k1 => ⟨_, _, rfl, rfl, _, rfl, by show 4 ≤ sizeLine; decide, fun lb nlb => ?_⟩⟩
    have slb := same_new (o := .lst (([2, 3, 5, 101] : List Int).map V.int)) nlb
    refine ⟨g, c, lb, ([2, 3, 5, 101] : List Int).map V.int, rfl, upd_same, (hand_new hh1 nlb).1, by decide, by decide, hh1.same slb, fun H3 j y b3 hh3 hy => ?_⟩
    obtain ⟨p, rfl, cl⟩ : ∃ p, y = V.int p ∧ NoDiv p := by
      obtain ⟨pz, hp, rfl⟩ := at_int hy
      have hm := List.mem_of_getElem? hp
      simp only [List.mem_cons, List.not_mem_nil, or_false] at hm
      refine ⟨pz, rfl, ?_⟩
      rcases hm with rfl | rfl | rfl | rfl
      · exact noDiv_of (n := 2) (by decide +kernel)
      · exact noDiv_of (n := 3) (by decide +kernel)
      · exact noDiv_of (n := 5) (by decide +kernel)
      · exact noDiv_of (n := 101) (by decide +kernel)
    have p2 := cl.1
    have pm := cl.2.1
    obtain ⟨n, hn, n2, n6⟩ : ∃ n : Nat, 2 + k = (n : Int) ∧ 2 ≤ n ∧ n ≤ 6 := ⟨(2 + k).toNat, by omega, by omega, by omega⟩
    refine ⟨by show 2 ≤ sizeLine; decide, fun tp ntp => ?_⟩
    have stp := same_new (o := .tup [V.int (2 + k), V.int p]) ntp
    dsimp only [gName, tSeq]
    refine ⟨tp, _, rfl, .of upd_same, rfl, _, _, rfl, _, _, rfl, rfl, ?_⟩
    rw [hn]
    have b4 := b1.trans ((slb.but g).trans (b3.trans (stp.but g)))
    have hh4 := hh3.same stp
    rw [hn] at stp b4 hh4
    generalize upd H3 tp (.tup [V.int (n : Int), V.int p]) = H4 at *
    have tok := chain_ok (n := n) (by omega) (by omega)
    have oh := ones_ok (n := n) (by omega)
    refine ⟨_, rfl, _, _, rfl, rfl, _, rfl, by omega, by omega, fun D hD => ?_⟩
    refine lc_fm (walk_range (lo := 0) (n := ((n : Int) - 1).toNat)) rPI (fun i => some ((i : Int), (i : Int) + 1)) hD (fun H' s' => trivial) ?_ ?_
    · rintro i x H5 H6 hi pv ⟨rfl, rfl⟩
      refine ⟨rfl, _, rfl, _, rfl, _, _, rfl, rfl, by show 2 ≤ sizeLine; decide, fun t nt => ?_⟩
      exact fm_keep mono_pi pv hD (by omega) (same_new nt) rfl ⟨t, rfl, by rw [upd_same]; show some (HO.tup [V.int (0 + (i : Int)), V.int (0 + (i : Int) + 1)]) = _; rw [Int.zero_add]⟩
    intro H5 ys s5 hD5 hp5
    rw [fm_all] at hp5
    have ech : (List.range ((n : Int) - 1).toNat).map (fun (i : Nat) => ((i : Int), (i : Int) + 1)) = chT n := by
      obtain ⟨m, rfl⟩ : ∃ m, n = m + 1 := ⟨n - 1, by omega⟩
      rw [show (((m + 1 : Nat) : Int) - 1).toNat = m by omega]
      rfl
    rw [ech] at hp5
    refine ⟨D, _, rfl, .inl ⟨.of hD5, fun tt ntt => ?_⟩⟩
    have s6 := same_new (o := .tup ys) ntt
    have s56 := s5.trans s6
    have hties : rTup rPI (upd H5 tt (.tup ys)) (.ref tt) (chT n) := ⟨tt, ys, rfl, upd_same, paired_mono mono_pi s6.keep hp5⟩
    have hh6 := hh4.same s56
    have b6 := b4.trans (s56.but g)
    generalize upd H5 tt (.tup ys) = H6 at *
    dsimp only [gName, tSeq]
    refine fun pd npd => ⟨_, rfl, _, rfl, by show 1 ≤ sizeLine; decide, fun t1 nt1 => ⟨_, rfl, ones (k := n) upd_same (by omega) fun H7 uv s7 huv => ?_⟩⟩
    have q5 := same_new (o := .dK []) npd
    have q6 := same_new (o := .tup [V.int 1]) nt1
    refine ⟨by show 0 ≤ sizeLine; decide, fun tr ntr => ?_⟩
    have q7 := same_new (o := .tup []) ntr
    have q67 := (q6.trans s7).trans q7
    have hpd7 := q67 _ _ (upd_same (H := H6) (a := pd) (o := .dK []))
    refine ⟨hpd7, kvsP p (.ref tt) uv (.ref tr), rfl, by show 4 ≤ 15; decide, ?_⟩
    rw [merge_kvsP]
    obtain ⟨tu, rfl, htu⟩ := huv
    have pd7 : H6 pd = none := npd
    have s8 : Same H6 (upd (upd H7 tr (.tup [])) pd (.dK (kvsP p (.ref tt) (.ref tu) (.ref tr)))) := same_own (q5.trans q67) npd
    have kt : ∀ o t xs, (upd H7 tr (.tup [])) t = some (.tup xs) → (upd (upd H7 tr (.tup [])) pd o) t = some (.tup xs) := fun o t xs h => by
      rw [upd_ne (fun e => by rw [e, hpd7] at h; cases h)]
      exact h
    have hP8 : PDat (upd (upd H7 tr (.tup [])) pd (.dK (kvsP p (.ref tt) (.ref tu) (.ref tr)))) pd ⟨p, chT n, List.replicate n 1, []⟩ (.ref tt) (.ref tu) (.ref tr) :=
      ⟨upd_same, mono_tup mono_pi _ _ _ _ s8.keep hties, ⟨tu, rfl, kt _ _ _ (q7 _ _ htu)⟩, ⟨tr, [], rfl, kt _ _ _ upd_same, .nil⟩⟩
    have hh8 := hh6.same s8
    have pdg := hand_new hh6 npd
    have pd0 : H pd = none := b6.free npd pdg.1
    have b8 := b6.trans (s8.but g)
    generalize upd (upd H7 tr (.tup [])) pd (.dK (kvsP p (.ref tt) (.ref tu) (.ref tr))) = H8 at *
    refine ⟨by show 0 ≤ sizeLine; decide, fun rl nrl => ⟨_, _, rfl, ?_⟩⟩
    have s9 := same_new (o := .lst []) nrl
    have rlg := hand_new hh8 nrl
    have rl0 : H rl = none := b8.free nrl rlg.1
    have hh9 := hh8.same s9
    have hP9 := hP8.same s9
    have hrl9 := upd_same (H := H8) (a := rl) (o := .lst [])
    have b9 := b8.trans (s9.but g)
    generalize upd H8 rl (.lst []) = H9 at *
    dsimp only [gName, tSeq]
    refine ⟨_, rfl, _, rfl, by omega, by omega, fun D hD => ?_⟩
    have Dg := hand_new hh9 hD
    have Drl0 : D ≠ rl := fun e => by rw [e, hrl9] at hD; cases hD
    have D0 : H D = none := b9.free hD Dg.1
    refine walk_W (walk_range (lo := 0) (n := ((n : Nat) : Int).toNat)) _ (PvDr rInt (fun x => 0 ≤ x ∧ x < p) g c D H9) (dr_start hh9 hD) (fun _ _ _ _ => trivial) ?_ ?_
    · rintro i x HA HB hi pv ⟨rfl, rfl⟩
      refine ⟨rfl, _, rfl, _, rfl, g, c, p, rfl, by omega, by omega, pv.2.1, fun HC e b hh e0 e1 => ?_⟩
      exact dr_keep mono_int hh9 pv hD (by omega) b hh rfl ⟨e0, e1⟩
    rintro HA pv
    obtain ⟨hid, hDA, lhid, bhid, bA, hhA⟩ := dr_fin pv
    rw [Int.toNat_natCast] at lhid
    have hPA := hP9.but hh9 bA
    have hrlA := bA.lst rlg.1 hrl9
    have tA := b9.trans bA
    dsimp only [gName, tSeq]
    refine ⟨_, rfl, _, rfl, by omega, by omega, ?_⟩
    refine for_it (walk_range (lo := 0) (n := ((n : Nat) : Int).toNat)) (fun i σ H' => ∃ x3 x8 x9, ∃ vs, ∃ rls : List (List Rule), σ = [some (.ref g), some (.int (n : Int)), some (.int p), x3, some (.ref tt), some (.ref pd), some (.ref rl), some (.ref D), x8, x9] ∧ But g H H' ∧ Hand g c H' ∧ PDat H' pd ⟨p, chT n, List.replicate n 1, []⟩ (.ref tt) (.ref tu) (.ref tr) ∧ H' D = some (.lst (hid.map V.int)) ∧
            H' rl = some (.lst vs) ∧ Paired (rOwn H') vs rls ∧ rls.length = i ∧ (∀ own ∈ rls, own.length ≤ 8 ∧ ∀ r ∈ own, r.2 = dotU p r.1 hid) ∧ ∀ post own, rls[post]? = some own → ∀ r ∈ own, RuleOk p (chT n) (List.replicate n 1) (post : Nat) r)
      ⟨none, none, none, [], [], rfl, tA, hhA, hPA, hDA, hrlA, .nil, rfl, fun _ h => (nomatch h), fun post own h => by simp at h⟩ (fun _ _ _ _ _ => trivial) ?_ ?_
    · rintro i x σ HC HD hi ⟨x3, x8, x9, vs, rls, rfl, bC, hhC, hPC, hDC, hrlC, hpr, hlr, hr8, hok⟩ ⟨rfl, rfl⟩
      rw [Int.toNat_natCast] at hi
      dsimp only [gName, tSeq]
      refine ⟨by show 1 ≤ sizeLine; decide, fun l0 nl0 => ?_⟩
      have s1 := same_new (o := .lst [V.int 0]) nl0
      refine ⟨_, rfl, l0, _, _, rfl, rfl, upd_same, by omega, by omega, Nat.le_trans (by show 1 * _ ≤ _; omega : _ ≤ 100) (by decide), fun rw0 nrw => ?_⟩
      rw [Int.toNat_natCast, rep_zero]
      have s2 := same_new (o := .lst ((List.replicate n (0 : Int)).map V.int)) nrw
      have s12 := s1.trans s2
      have rwg := hand_new (hhC.same s1) nrw
      have rw00 : HD rw0 = none := s1.free nrw
      have rwD : rw0 ≠ D := fun e => by rw [e, hDC] at rw00; cases rw00
      have rwl : rw0 ≠ rl := fun e => by rw [e, hrlC] at rw00; cases rw00
      have hrw2 := upd_same (H := upd HD l0 (.lst [V.int 0])) (a := rw0) (o := .lst ((List.replicate n (0 : Int)).map V.int))
      generalize upd (upd HD l0 (.lst [V.int 0])) rw0 (.lst ((List.replicate n (0 : Int)).map V.int)) = H2 at *
      dsimp only [gName, tSeq]
      refine ⟨_, rfl, _, rfl, pd, .ref tt, .ref tu, .ref tr, ⟨p, chT n, List.replicate n 1, []⟩, 0 + (i : Int), n, rfl, hPC.same s12, tok.ok, oh, by omega, by omega, fun H4 r l s4 nr0 hr4 hll hin => ⟨r, rfl, ⟨_, .of hr4⟩, ?_⟩⟩
      simp only [Int.zero_add] at hin
      have s14 := s12.trans s4
      have hh4 := hhC.same s14
      have rg := hand_ints hh4 hr4
      have hrw4 := s4 _ _ hrw2
      have nrr : r ≠ rw0 := fun e => by rw [e, hrw2] at nr0; cases nr0
      refine for_it (walk_list (xs := l.map V.int)) (fun j σ H' => ∃ y9, ∃ row : List Int, σ = [some (.ref g), some (.int (n : Int)), some (.int p), some (.int (0 + (i : Int))), some (.ref tt), some (.ref pd), some (.ref rl), some (.ref D), some (.ref rw0), y9] ∧ But g HD H' ∧ Hand g c H' ∧ H' r = some (.lst (l.map V.int)) ∧ H' rw0 = some (.lst (row.map V.int)) ∧ isRow row p (n : Int) ∧ ∀ k v, row[k]? = some v → v = 0 ∨ nearU (chT n) (List.replicate n 1) (i : Nat) (k : Nat))
        ⟨x9, List.replicate n 0, rfl, s14.but g, hh4, hr4, hrw4, ⟨by rw [List.length_replicate], fun v hv => by rw [(List.mem_replicate.mp hv).2]; omega⟩, fun k v hv => .inl (List.mem_replicate.mp (List.mem_of_getElem? hv)).2⟩ (fun j σ H' _ h => by obtain ⟨_, _, _, _, _, h, _⟩ := h; exact .of h) ?_ ?_
      · rintro j x σ H5 H6 hj ⟨y9, row, rfl, b5, hh5, hr5, hrw5, ir, nr⟩ ⟨rfl, hx⟩
        obtain ⟨k, hk, rfl⟩ := at_int hx
        have hkn := hin k (List.mem_of_getElem? hk)
        have hkb := near_in (n := n) (ties := chT n) oh hkn
        rw [ones_sum] at hkb
        obtain ⟨kn, rfl⟩ : ∃ kn : Nat, k = (kn : Int) := ⟨k.toNat, by omega⟩
        have irl := ir.1
        refine ⟨_, rfl, _, rfl, _, _, rfl, rfl, g, c, p - 1, rfl, by omega, by omega, hh5, fun H7 e b7 hh7 e0 e1 => ⟨_, _, rfl, rfl, _, rfl, _, rfl, rw0, _, _, kn, rfl, rfl, b7.lst rwg.1 hrw5, ixN_nat (by rw [List.length_map]; omega), ?_⟩⟩
        refine ⟨_, row.set kn (1 + e), rfl, fun a u ha ea => ?_, hh7.setD rwg.1 rwg.2, by rw [upd_ne nrr]; exact b7.lst rg hr5, by rw [upd_same, List.map_set], ⟨by rw [List.length_set]; exact ir.1, fun v hv => ?_⟩, fun m v hv => ?_⟩
        · rw [upd_ne (fun q => by subst q; rw [rw00] at ea; cases ea)]
          exact (b5.trans b7) a u ha ea
        · rcases List.mem_or_eq_of_mem_set hv with h | h
          · exact ir.2 v h
          · rw [h]; omega
        · rw [List.getElem?_set] at hv
          split at hv
          · rename_i h
            subst h
            exact .inr hkn
          · exact nr m v hv
      rintro σ H5 ⟨y9, row, rfl, b5, hh5, hr5, hrw5, ir, nr⟩
      have irl := ir.1
      have hri : row[i]? = some (row[i]'(by omega)) := List.getElem?_eq_getElem (by omega)
      have hrb := ir.2 _ (List.mem_of_getElem? hri)
      refine ⟨_, rfl, _, rfl, _, rfl, rw0, _, _, _, rfl, rfl, .of hrw5, by rw [Int.zero_add]; exact atI_nat (int_at hri), by show 3 ≤ sizeLine; decide, fun lb nlb => ?_⟩
      have s6 := same_new (o := .lst (([0, 0, row[i]'(by omega)] : List Int).map V.int)) nlb
      refine ⟨g, c, lb, ([0, 0, row[i]'(by omega)] : List Int).map V.int, rfl, upd_same, (hand_new hh5 nlb).1, by show 0 < 3; decide, by show 3 < 1000000; decide, hh5.same s6, fun H7 j y b7 hh7 hy => ?_⟩
      obtain ⟨u, hu, rfl⟩ := at_int hy
      have hub : 0 ≤ u ∧ u < p := by
        have := List.mem_of_getElem? hu
        simp only [List.mem_cons, List.not_mem_nil, or_false] at this
        rcases this with rfl | rfl | rfl <;> omega
      have b57 := (s6.but g).trans b7
      have hrw7 := b57.lst rwg.1 hrw5
      refine ⟨_, rfl, _, rfl, rw0, _, _, i, rfl, rfl, hrw7, by rw [Int.zero_add]; exact ixN_nat (by rw [List.length_map]; omega), ?_⟩
      have b8' : But g HD (upd H7 rw0 (.lst ((row.set i u).map V.int))) := fun a o ha ea => by
        rw [upd_ne (fun q => by subst q; rw [rw00] at ea; cases ea)]
        exact (b5.trans b57) a o ha ea
      have hh8' : Hand g c (upd H7 rw0 (.lst ((row.set i u).map V.int))) := hh7.setD rwg.1 rwg.2
      have hrw8 := upd_same (H := H7) (a := rw0) (o := .lst ((row.set i u).map V.int))
      rw [← List.map_set]
      generalize upd H7 rw0 (.lst ((row.set i u).map V.int)) = H8' at *
      have ir8 : isRow (row.set i u) p (n : Int) := ⟨by rw [List.length_set]; exact irl, fun v hv => by
        rcases List.mem_or_eq_of_mem_set hv with h | h
        · exact ir.2 v h
        · rw [h]; exact hub⟩
      have nr8 : ∀ k v, (row.set i u)[k]? = some v → v = 0 ∨ nearU (chT n) (List.replicate n 1) (i : Nat) (k : Nat) := fun k v hv => by
        rw [List.getElem?_set] at hv
        split at hv
        · rename_i h
          subst h
          exact .inr (.inl (ones_held hi))
        · exact nr k v hv
      generalize row.set i u = row8 at *
      have ir8l := ir8.1
      have t8 := bC.trans b8'
      have hrl8 := b8'.lst rlg.1 hrlC
      have hD8 := b8'.lst Dg.1 hDC
      have hP8' := hPC.but hhC b8'
      have hpr8 := paired_mono mono_own (hhC.keep b8') hpr
      refine ⟨_, rfl, .inl ⟨rfl, _, .of hrl8⟩, _, rfl, rw0, _, rfl, .inl ⟨.of hrw8, fun tw ntw => ?_⟩⟩
      have s9' := same_new (o := .tup (row8.map V.int)) ntw
      refine ⟨_, rfl, _, rfl, _, rfl, .ref rw0, D, p, row8, hid, rfl, ⟨rw0, rfl, s9' _ _ hrw8⟩, s9' _ _ hD8, p2, pm, by omega, by omega, ir8.2, bhid, fun H10 s10 => ⟨by show 2 ≤ sizeLine; decide, fun t4 nt4 => ⟨by show 1 ≤ sizeLine; decide, fun t5 nt5 => ?_⟩⟩⟩
      have s11 := same_new (o := .tup [V.ref tw, V.int (dotU p row8 hid)]) nt4
      have s12' := same_new (o := .tup [V.ref t4]) nt5
      have sE := (s9'.trans s10).trans (s11.trans s12')
      have hrlE := sE _ _ hrl8
      have ow : rOwn (upd (upd H10 t4 (.tup [V.ref tw, V.int (dotU p row8 hid)])) t5 (.tup [V.ref t4])) (.ref t5) [(row8, dotU p row8 hid)] :=
        ⟨t5, [.ref t4], rfl, upd_same, .cons ⟨t4, .ref tw, rfl, s12' _ _ upd_same, tw, rfl, (s10.trans (s11.trans s12')) _ _ upd_same⟩ .nil⟩
      refine ⟨rl, vs, _, rfl, rfl, hrlE, Nat.lt_of_le_of_lt (by have := paired_len hpr; omega : _ ≤ 1000) (by decide), ?_⟩
      have hPE := hP8'.same sE
      have hhE := hh8'.same sE
      have hDE := sE _ _ hD8
      have hprE := paired_mono mono_own sE.keep hpr8
      have bt := t8.trans (sE.but g)
      generalize upd (upd H10 t4 (.tup [V.ref tw, V.int (dotU p row8 hid)])) t5 (.tup [V.ref t4]) = HE at *
      have Drl : D ≠ rl := Drl0
      have kl := keep_lst (o := .lst (vs ++ [V.ref t5])) hrlE
      refine ⟨_, _, _, vs ++ [.ref t5], rls ++ [[(row8, dotU p row8 hid)]], rfl, fun a u ha e => ?_, hhE.setD rlg.1 rlg.2, hPE.setL hrlE, by rw [upd_ne Drl]; exact hDE, upd_same, ?_, by rw [List.length_append, hlr]; rfl, ?_, ?_⟩
      · rw [upd_ne (fun q => by subst q; rw [rl0] at e; cases e)]
        exact bt a u ha e
      · exact paired_app (paired_mono mono_own kl hprE) (.cons (mono_own _ _ _ _ kl ow) .nil)
      · intro own ho
        rcases List.mem_append.mp ho with h | h
        · exact hr8 own h
        · rw [List.mem_singleton.mp h]
          refine ⟨by show 1 ≤ 8; decide, fun r hr => ?_⟩
          rw [List.mem_singleton.mp hr]
      · intro post own ho
        by_cases hp : post < rls.length
        · rw [List.getElem?_append_left hp] at ho
          exact hok post own ho
        · rw [List.getElem?_append_right (by omega)] at ho
          have h0 : post - rls.length = 0 := by have := (List.getElem?_eq_some_iff.mp ho).1; rw [List.length_singleton] at this; omega
          rw [h0] at ho
          have e1 : post = i := by omega
          cases (Option.some.inj ho)
          rw [e1]
          intro r hr
          rw [List.mem_singleton.mp hr]
          have hdb : 0 ≤ dotU p row8 hid ∧ dotU p row8 hid < p := mod_b (by omega)
          exact ⟨by rw [ones_sum]; exact ir8, hdb.1, hdb.2, nr8⟩
    · rintro σ HC ⟨x3, x8, x9, vs, rls, rfl, bC, hhC, hPC, hDC, hrlC, hpr, hlr, hr8, hok⟩
      rw [Int.toNat_natCast] at hlr
      have lvs := paired_len hpr
      refine ⟨_, rfl, rl, vs, rfl, .inl ⟨.of hrlC, fun t1 nt1 => ?_⟩⟩
      have s1 := same_new (o := .tup vs) nt1
      have hP1 := hPC.same s1
      have hh1 := hhC.same s1
      have hD1 := s1 _ _ hDC
      have hr1 : rRls (upd HC t1 (.tup vs)) (.ref t1) rls := ⟨t1, vs, rfl, upd_same, paired_mono mono_own s1.keep hpr⟩
      have b1 := bC.trans (s1.but g)
      generalize upd HC t1 (.tup vs) = H1 at *
      refine ⟨_, rfl, pd, _, rfl, DPut.k (k := .inr "rules") hP1.d (by show 4 < sizeLine; decide), ?_⟩
      rw [put_rules]
      have hag := pdg.1
      have hac : pd ≠ c := fun e => by
        obtain ⟨_, ec⟩ := hh1.cells
        rw [← e, hP1.d] at ec
        cases ec
      have kt : ∀ o t xs, H1 t = some (.tup xs) → (upd H1 pd o) t = some (.tup xs) := fun o t xs h => by
        rw [upd_ne (fun e => by rw [e, hP1.d] at h; cases h)]
        exact h
      have hD2 : (upd H1 pd (.dK (kvsP p (.ref tt) (.ref tu) (.ref t1)))) D = some (.lst (hid.map V.int)) := by
        rw [upd_ne (fun e => by rw [e, hP1.d] at hD1; cases hD1)]
        exact hD1
      have hh2 : Hand g c (upd H1 pd (.dK (kvsP p (.ref tt) (.ref tu) (.ref t1)))) := hh1.setD hag hac
      have b2 : But g H (upd H1 pd (.dK (kvsP p (.ref tt) (.ref tu) (.ref t1)))) := fun x u hx e => by
        rw [upd_ne (fun q => by subst q; rw [pd0] at e; cases e)]
        exact b1 x u hx e
      obtain ⟨tt', xt, et, htt, hxt⟩ := id hP1.t
      obtain ⟨_, xr, er, htr, hxr⟩ := id hr1
      cases er
      have hP2 : PDat (upd H1 pd (.dK (kvsP p (.ref tt) (.ref tu) (.ref t1)))) pd ⟨p, chT n, List.replicate n 1, rls⟩ (.ref tt) (.ref tu) (.ref t1) :=
        ⟨upd_same, ⟨tt', xt, et, kt _ _ _ htt, Paired.mapP hxt fun _ _ q => pi_kt (kt _) q⟩, row_kt (kt _) hP1.u, ⟨t1, xr, rfl, kt _ _ _ htr, Paired.mapP hxr fun _ _ q => own_kt (kt _) q⟩⟩
      generalize upd H1 pd (.dK (kvsP p (.ref tt) (.ref tu) (.ref t1))) = H2 at *
      refine ⟨_, rfl, _, rfl, D, _, rfl, .inl ⟨.of hD2, fun th nth => ⟨by show 2 ≤ sizeLine; decide, fun tz ntz => ?_⟩⟩⟩
      have s3 := same_new (o := .tup (hid.map V.int)) nth
      have s4 := same_new (o := .tup [V.ref pd, V.ref th]) ntz
      have s34 := s3.trans s4
      have h12 : ∀ own ∈ rls, own.length ≤ 8 := fun own h => (hr8 own h).1
      have h12s : (rls.map List.length).sum ≤ 8 * rls.length := by
        clear hpr lvs hr8 hok hlr hr1 hP2 hxr
        induction rls with
        | nil => exact Nat.zero_le _
        | cons a l ih =>
          have h1 := h12 a (by simp)
          have h3 := ih fun own h => h12 own (by simp [h])
          rw [List.map_cons, List.sum_cons, List.length_cons]
          omega
      refine q _ tz pd th (.ref tt) (.ref tu) (.ref t1) ⟨p, chT n, List.replicate n 1, rls⟩ n hid (b2.trans (s34.but g)) (hh2.same s34) upd_same (hP2.same s34) ⟨tok, cl, oh, hlr, h12, by show (rls.map List.length).sum ≤ 60; omega, fun post own h r hr => hok post own h r hr⟩ ⟨th, rfl, s4 _ _ upd_same⟩ ⟨⟨by show (hid.length : Int) = (List.replicate n (1 : Int)).sum; rw [ones_sum]; omega, fun v hv => bhid v hv⟩, fun own ho r hr => (hr8 own ho).2 r hr⟩
end
end S4

namespace S4
open PySem L2 TT MM EE
/-! ### the tolls of what is undone -/
theorem rng_add (s c : Nat) : rng (s + c) = rng s ++ (List.range c).map fun (i : Nat) => (s : Int) + (i : Int) := by
  unfold rng
  rw [List.range_add, List.map_append, List.map_map]
  congr 1
theorem numsL_rng {holds : List Int} {n : Nat} (ok : CountsOk holds n) : ∀ k : Nat, k ≤ n → numsL holds (rng k) = rng (holds.take k).sum.toNat
  | 0, _ => by unfold numsL rng; simp
  | k + 1, h => by
    have ih := numsL_rng ok k (by omega)
    have hk : k < holds.length := by rw [ok.len]; omega
    have e : rng (k + 1) = rng k ++ [(k : Int)] := by unfold rng; rw [List.range_succ, List.map_append]; rfl
    have hb := ok.b _ (List.getElem_mem hk)
    have ht := take_sum_le ok k
    have et : (holds.take (k + 1)).sum = (holds.take k).sum + holds[k] := by
      rw [List.take_succ, List.getElem?_eq_getElem hk, List.sum_append]
      simp
    unfold numsL at ih ⊢
    rw [e, List.flatMap_append, ih, List.flatMap_singleton, et]
    have eh : heldL holds (k : Int) = (List.range (holds[k]).toNat).map fun (i : Nat) => (holds.take k).sum + (i : Int) := by
      unfold heldL
      rw [Int.toNat_natCast, getD_at (List.getElem?_eq_getElem hk)]
    rw [eh, show ((holds.take k).sum + holds[k]).toNat = (holds.take k).sum.toNat + (holds[k]).toNat by omega, rng_add]
    congr 1
    refine List.map_congr_left fun i _ => ?_
    omega
theorem numsL_all {holds : List Int} {n wd : Nat} (ok : CountsOk holds n) (hw : holds.sum = (wd : Int)) : numsL holds (rng n) = rng wd := by
  rw [numsL_rng ok n (Nat.le_refl _), ← ok.len, List.take_length, hw, Int.toNat_natCast]
theorem numsL_perm {holds : List Int} {n wd : Nat} (ok : CountsOk holds n) (hw : holds.sum = (wd : Int)) {near far : List Int} (hp : (near ++ far).Perm (rng n)) : (numsL holds near ++ numsL holds far).Perm (rng wd) := by
  rw [← numsL_all ok hw]
  unfold numsL
  rw [← List.flatMap_append]
  exact hp.flatMap_right _
theorem range_getD {β : Type} (l : List (List Int)) (f : List Int → β) : (List.range l.length).map (fun k => f (l.getD k [])) = l.map f := by
  refine List.ext_getElem (by simp) fun i h1 h2 => ?_
  rw [List.getElem_map, List.getElem_range, List.getElem_map]
  rw [getD_at (List.getElem?_eq_getElem (by simpa using h1))]
theorem blk_und {S : SD} {n : Nat} {A : List (List Int)} {near far : List Int} (hf : ∀ x ∈ far, x ∈ rng n) :
    blockL (undOf S n A) near far = ((numsL S.holds far).map fun j => A.getD j.toNat []).map fun r => cutL r (numsL (undOf S n A).holds near) := by
  unfold blockL farL
  rw [List.map_flatMap]
  unfold numsL
  rw [List.map_flatMap, List.map_flatMap]
  generalize hN : near.flatMap (heldL (undOf S n A).holds) = N
  clear hN
  induction far with
  | nil => rfl
  | cons q far ih =>
    rw [List.flatMap_cons, List.flatMap_cons, ih fun x hx => hf x (by simp [hx])]
    congr 1
    obtain ⟨q0, q1⟩ := rng_mem.mp (hf q (by simp))
    obtain ⟨k, rfl⟩ : ∃ k : Nat, q = (k : Int) := ⟨q.toNat, by omega⟩
    have e : (undOf S n A).wants.getD ((k : Nat) : Int).toNat [] = (heldL S.holds (k : Int)).map fun i => A.getD i.toNat [] := by
      show (byP S.holds n A).getD _ _ = _
      unfold byP
      rw [Int.toNat_natCast]
      refine getD_at ?_
      rw [List.getElem?_map, List.getElem?_range (by omega)]
      rfl
    rw [List.map_map]
    show (List.range ((undOf S n A).wants.getD ((k : Nat) : Int).toNat []).length).map (fun j => cutL (((undOf S n A).wants.getD ((k : Nat) : Int).toNat []).getD ((j : Nat) : Int).toNat []) N) = _
    rw [e]
    exact range_getD _ fun r => cutL r N
end S4

namespace S4
open PySem L2 TT MM EE
/-- rows that are 0 at the places left out have the same rank when these are cut off -/
theorem rk_cut {p : Int} {wd : Nat} (prm : Prm p) {R : List (List Int)} {J I : List Int} (hR : ∀ r ∈ R, isRow r p wd) (hJ : ∀ x ∈ J, 0 ≤ x ∧ x < (wd : Int)) (hI : ∀ x ∈ I, x ∈ J) (h0 : ∀ r ∈ R, ∀ x ∈ J, x ∉ I → r.getD x.toNat 0 = 0) :
    rk p J.length (R.map fun r => cutL r J) = rk p I.length (R.map fun r => cutL r I) := by
  refine rk_iso prm (fun r hr => ?_) (fun r hr => ?_) (by rw [List.length_map, List.length_map]) fun k y z hy hz => ?_
  · obtain ⟨x, hx, rfl⟩ := List.mem_map.mp hr
    exact cutL_row (hR x hx) hJ
  · obtain ⟨x, hx, rfl⟩ := List.mem_map.mp hr
    exact cutL_row (hR x hx) fun i hi => hJ i (hI i hi)
  rw [List.getElem?_map] at hy hz
  obtain ⟨r, hr, rfl⟩ := Option.map_eq_some_iff.mp hy
  rw [hr] at hz
  cases (Option.some.inj hz)
  have hm := List.mem_of_getElem? hr
  rw [← List.map_take, ← List.map_take]
  constructor
  · intro h
    obtain ⟨v, hv, e⟩ := cut_down h
    refine (cut_up (ord := I) hv).cg fun x => ?_
    rw [vec_cut]
    unfold cutV
    by_cases hx : x < I.length
    · rw [if_pos hx, if_pos hx]
      have hi : I.getD x 0 ∈ J := hI _ (by rw [getD_at (List.getElem?_eq_getElem hx)]; exact List.getElem_mem hx)
      obtain ⟨j, hj, ej⟩ := List.getElem_of_mem hi
      have := e j
      rw [vec_cut] at this
      unfold cutV at this
      rw [if_pos hj, if_pos hj, getD_at (List.getElem?_eq_getElem hj), ej] at this
      exact this
    · rw [if_neg hx, if_neg hx]
      exact .refl _
  · intro h
    obtain ⟨v, hv, e⟩ := cut_down h
    refine (cut_up (ord := J) hv).cg fun x => ?_
    rw [vec_cut]
    unfold cutV
    by_cases hx : x < J.length
    · rw [if_pos hx, if_pos hx]
      have hi : J.getD x 0 ∈ J := by rw [getD_at (List.getElem?_eq_getElem hx)]; exact List.getElem_mem hx
      by_cases hin : J.getD x 0 ∈ I
      · obtain ⟨j, hj, ej⟩ := List.getElem_of_mem hin
        have := e j
        rw [vec_cut] at this
        unfold cutV at this
        rw [if_pos hj, if_pos hj, getD_at (List.getElem?_eq_getElem hj), ej] at this
        exact this
      · have e1 : vec r (J.getD x 0).toNat = 0 := h0 r hm _ hi hin
        rw [e1]
        refine (Spn.nought hv fun u hu => ?_).symm
        obtain ⟨l, hl, rfl⟩ := hu
        exact .of_eq (h0 l (List.mem_of_mem_take hl) _ hi hin)
    · rw [if_neg hx, if_neg hx]
      exact .refl _
/-- rows of noughts add nothing -/
theorem rk_noughts {p : Int} {wd : Nat} (prm : Prm p) {Y Y0 : List (List Int)} (hY : ∀ r ∈ Y, isRow r p wd) (hs : ∀ r ∈ Y0, r ∈ Y) (h0 : ∀ r ∈ Y, r ∈ Y0 ∨ ∀ x : Nat, r.getD x 0 = 0) : rk p wd Y = rk p wd Y0 := by
  refine rk_same prm hY (fun r hr => hY r (hs r hr)) ?_
  refine same2_of (fun v hv => ?_) (fun v hv => ?_)
  · obtain ⟨l, hl, rfl⟩ := hv
    rcases h0 l hl with h | h
    · exact .row ⟨l, h, rfl⟩
    · exact .zero fun x => .of_eq (h x)
  · obtain ⟨l, hl, rfl⟩ := hv
    exact .row ⟨l, hs l hl, rfl⟩
theorem held_flat {l : List (List (List Int))} {q : Nat} (hq : q < l.length) : (heldL (l.map fun o => (o.length : Int)) (q : Int)).map (fun j => (l.flatMap fun o => o).getD j.toNat []) = l.getD q [] := by
  have hl : l[q]? = some l[q] := List.getElem?_eq_getElem hq
  have e0 : (l.map fun o => (o.length : Int)).getD q 0 = (l[q].length : Int) := getD_at (by rw [List.getElem?_map, hl]; rfl)
  have e1 : ((l.map fun o => (o.length : Int)).take q).sum = (((l.take q).flatMap fun o => o).length : Int) := by
    rw [← List.map_take, sum_lens, List.length_flatMap]
  unfold heldL
  rw [Int.toNat_natCast, e0, e1, Int.toNat_natCast, getD_at hl, List.map_map]
  have el : (l.flatMap fun o => o) = ((l.take q).flatMap fun o => o) ++ (l[q] ++ ((l.drop (q + 1)).flatMap fun o => o)) := by
    conv => lhs; rw [← List.take_append_drop q l, List.drop_eq_getElem_cons hq, List.flatMap_append, List.flatMap_cons]
  refine List.ext_getElem (by simp) fun i h1 h2 => ?_
  rw [List.getElem_map, List.getElem_range]
  show (l.flatMap fun o => o).getD (((((l.take q).flatMap fun o => o).length : Nat) : Int) + (i : Int)).toNat [] = _
  rw [show (((((l.take q).flatMap fun o => o).length : Nat) : Int) + (i : Int)).toNat = ((l.take q).flatMap fun o => o).length + i by omega, el]
  refine getD_at ?_
  rw [List.getElem?_append_right (by omega), Nat.add_sub_cancel_left, List.getElem?_append_left h2, List.getElem?_eq_getElem h2]
end S4

namespace S4
open PySem L2 TT MM EE
theorem held_uniq {unk : List Int} {n : Nat} (ok : CountsOk unk n) {a b i : Int} (a0 : 0 ≤ a) (b0 : 0 ≤ b) (h1 : i ∈ heldL unk a) (h2 : i ∈ heldL unk b) : a = b := by
  have g1 := held_in ok h1
  have g2 := held_in ok h2
  rcases Int.lt_trichotomy a b with h | h | h
  · have := take_sum_step (fun x hx => (ok.b x hx).1) (a := a.toNat) (b := b.toNat) (by omega)
    omega
  · exact h
  · have := take_sum_step (fun x hx => (ok.b x hx).1) (a := b.toNat) (b := a.toNat) (by omega)
    omega

/-- from beyond only the tie itself leads here -/
theorem cross {ties : List (Int × Int)} {n : Nat} (o : TreeOk ties n) {z : Int × Int} (a0 : 0 ≤ z.1) (a1 : z.1 < (n : Int)) (hz : z.2 ∈ nb ties z.1) {m q : Int} (hm : Rch ties (some z.2) z.1 m) (hq : Rch ties (some z.1) z.2 q) (h : m = q ∨ m ∈ nb ties q) : m = z.1 ∧ q = z.2 := by
  have ap := fun x => sides_apart (x := x) (o.rt z.1 a0 a1) hz
  rcases h with h | h
  · subst h
    exact (ap _ hm hq).elim
  · have em : m = z.1 := by
      by_cases e : m = z.1
      · exact e
      · exact (ap m hm (.step hq h fun q => e (Option.some.inj q).symm)).elim
    subst em
    refine ⟨rfl, ?_⟩
    by_cases e : q = z.2
    · exact e
    · refine (ap q (.step .refl ?_ fun x => e (Option.some.inj x).symm) hq).elim
      rcases nb_mem.mp h with h | h
      · exact nb_mem.mpr (.inr h)
      · exact nb_mem.mpr (.inl h)
theorem numsL_sum {holds : List Int} {n : Nat} (ok : CountsOk holds n) : ∀ {l : List Int}, (∀ x ∈ l, x ∈ rng n) → ((numsL holds l).length : Int) = (l.map fun q => holds.getD q.toNat 0).sum
  | [], _ => rfl
  | q :: l, h => by
    have ih := numsL_sum ok (l := l) fun x hx => h x (by simp [hx])
    obtain ⟨q0, q1⟩ := rng_mem.mp (h q (by simp))
    obtain ⟨k, rfl⟩ : ∃ k : Nat, q = (k : Int) := ⟨q.toNat, by omega⟩
    have hk := (heldL_ln ok (j := k) (by omega)).1
    unfold numsL at ih ⊢
    rw [List.flatMap_cons, List.length_append, List.map_cons, List.sum_cons, Int.toNat_natCast]
    omega
theorem toll_law (S : RD) (n wd : Nat) (A : List (List Int)) (z : Int × Int) (ok : RulesOk S n) (hwd : S.unk.sum = (wd : Int)) (hc : canU (shOf S) wd = true) (hA : IsInv S.p wd (rowsW (shOf S)) A) (hz : z ∈ S.ties ++ flipAll S.ties) : (rkZ (undOf (shOf S) n A) n z : Int) = lawT S n z := by
  classical
  have prm := ok.clock.prm
  have p2 := prm.1
  have oks := shOf_ok ok
  have hc2 : (rowsW (shOf S)).length = wd ∧ rk S.p wd (rowsW (shOf S)) = wd := by
    unfold canU at hc
    have h2 : (rowsW (shOf S)).length = wd ∧ rk (shOf S).p wd (rowsW (shOf S)) = wd := by simpa using hc
    exact h2
  have okT := und_ok oks hwd hc2.1 hA
  have W := wayR_of ok hz
  have hnb : z.2 ∈ nb S.ties z.1 := nb_mem.mpr (W.m.elim .inl .inr)
  have hB : ∀ r ∈ rowsW (shOf S), isRow r S.p wd := fun r hr => by rw [← hwd]; exact rowsW_row oks r hr
  have hAr := inv_row hA hc2.1
  generalize hnear : nearOf (undOf (shOf S) n A) n z = near
  generalize hfar : farOf (undOf (shOf S) n A) n z = far
  have mn : ∀ x, x ∈ near ↔ x ∈ rng n ∧ Rch S.ties (some z.2) z.1 x := fun x => by
    rw [← hnear]; unfold nearOf; rw [List.mem_filter, decide_eq_true_iff]; rfl
  have mf : ∀ x, x ∈ far ↔ x ∈ rng n ∧ Rch S.ties (some z.1) z.2 x := fun x => by
    rw [← hfar]; unfold farOf; rw [List.mem_filter, decide_eq_true_iff]; rfl
  have nn : near.Nodup := by rw [← hnear]; exact List.Pairwise.filter _ (rng_nodup n)
  have nf : far.Nodup := by rw [← hfar]; exact List.Pairwise.filter _ (rng_nodup n)
  have eside : sideOf S.ties n z = near := by
    have : sideOf S.ties n z = nearOf (undOf (shOf S) n A) n z := by
      unfold sideOf nearOf
      congr
    rw [this, hnear]
  have ra : z.1 ∈ rng n := rng_mem.mpr ⟨W.a0, W.a1⟩
  have rb : z.2 ∈ rng n := rng_mem.mpr ⟨W.b0, W.b1⟩
  have hp : (near ++ far).Perm (rng n) := sides_perm ok.tree hnb nn nf
    (fun x => ⟨fun h => ((mn x).mp h).2, fun h => (mn x).mpr ⟨h.inV ok.tree.ok.shut ra, h⟩⟩) (fun x => ⟨fun h => ((mf x).mp h).2, fun h => (mf x).mpr ⟨h.inV ok.tree.ok.shut rb, h⟩⟩)
  have okc : CountsOk (undOf (shOf S) n A).holds n := okT.holds
  have hcs : (undOf (shOf S) n A).holds.sum = (wd : Int) := by
    show ((shOf S).wants.map fun own => (own.length : Int)).sum = _
    rw [sum_cnt, hc2.1]
  have pI := numsL_perm okc hcs hp
  have pJ := numsL_perm ok.unk hwd hp
  have key := nullity (p := S.p) prm (A := rowsW (shOf S)) (B := A) hB hc2.1 hc2.2 hAr hA.len (fun k hk x hx => by
    have h := (hA.mix k hk).2.2 x hx
    rw [uRow_at] at h
    exact h) pI pJ
  have hff : ∀ x ∈ far, x ∈ rng n := fun x hx => ((mf x).mp hx).1
  unfold rkZ
  rw [hnear, hfar, blk_und hff]
  have hnn : ∀ x ∈ near, x ∈ rng n := fun x hx => ((mn x).mp hx).1
  have zin : z.1 ∈ near := (mn _).mpr ⟨ra, .refl⟩
  have zfar : z.2 ∈ far := (mf _).mpr ⟨rb, .refl⟩
  have hln := ok.len
  have lw : (shOf S).wants.length = n := by show (S.rules.map _).length = n; rw [List.length_map, hln]
  have egq : ∀ q : Int, (shOf S).wants.getD q.toNat [] = (S.rules.getD q.toNat []).map fun r => r.1 := fun q => by
    show (S.rules.map fun own => own.map fun r => r.1).getD q.toNat [] = _
    rw [List.getD_eq_getElem?_getD, List.getD_eq_getElem?_getD, List.getElem?_map]
    cases S.rules[q.toNat]? <;> rfl
  have erow : (numsL (undOf (shOf S) n A).holds far).map (fun j => (rowsW (shOf S)).getD j.toNat []) = far.flatMap fun q => (shOf S).wants.getD q.toNat [] := by
    unfold numsL
    rw [List.map_flatMap]
    clear key hp hfar mf nf zfar pI pJ
    induction far with
    | nil => rfl
    | cons q far ih =>
      rw [List.flatMap_cons, List.flatMap_cons, ih fun x hx => hff x (by simp [hx])]
      congr 1
      obtain ⟨q0, q1⟩ := rng_mem.mp (hff q (by simp))
      obtain ⟨k, rfl⟩ : ∃ k : Nat, q = (k : Int) := ⟨q.toNat, by omega⟩
      rw [Int.toNat_natCast]
      exact held_flat (by omega)
  have inJ : ∀ x, x ∈ numsL S.unk near → ∃ m ∈ near, x ∈ heldL S.unk m := fun x hx => List.mem_flatMap.mp hx
  have Jb : ∀ x ∈ numsL S.unk near, 0 ≤ x ∧ x < (wd : Int) := fun x hx => by
    obtain ⟨m, _, h⟩ := inJ x hx
    rw [← hwd]
    exact held_lt ok.unk h
  -- a rule beyond that hears of an unknown this side stands at the tie
  have far0 : ∀ q ∈ far, ∀ rr ∈ (shOf S).wants.getD q.toNat [], ∀ x m, m ∈ near → x ∈ heldL S.unk m → rr.getD x.toNat 0 ≠ 0 → m = z.1 ∧ q = z.2 := fun q hq rr hrr x m hm hx h0 => by
    rw [egq] at hrr
    obtain ⟨r, hr, rfl⟩ := List.mem_map.mp hrr
    obtain ⟨q0, q1⟩ := rng_mem.mp (hff q hq)
    obtain ⟨m0, m1⟩ := rng_mem.mp (hnn m hm)
    have hx2 := held_lt ok.unk hx
    have hqr : S.rules[q.toNat]? = some (S.rules[q.toNat]'(by omega)) := List.getElem?_eq_getElem (by omega)
    rw [getD_at hqr] at hr
    have hk := ok.ok _ _ hqr r hr
    have hrl := hk.row.1
    have hxr : r.1[x.toNat]? = some (r.1[x.toNat]'(by omega)) := List.getElem?_eq_getElem (by omega)
    rw [getD_at hxr] at h0
    rcases hk.near _ _ hxr with h | h
    · exact (h0 h).elim
    rw [show ((x.toNat : Nat) : Int) = x by omega, show ((q.toNat : Nat) : Int) = q by omega] at h
    refine cross ok.tree W.a0 W.a1 hnb ((mn m).mp hm).2 ((mf q).mp hq).2 ?_
    rcases h with h | ⟨q', hq', h⟩
    · exact .inl (held_uniq ok.unk m0 q0 hx h)
    · have hq0 : 0 ≤ q' := by
        rcases nb_mem.mp hq' with h3 | h3
        · have := ok.tree.ok.b0 _ h3; simp only at this; omega
        · have := ok.tree.ok.b0 _ h3; simp only at this; omega
      have e : m = q' := held_uniq ok.unk m0 hq0 hx h
      rw [e]
      exact .inr hq'
  have rowB : ∀ q : Int, ∀ rr ∈ (shOf S).wants.getD q.toNat [], isRow rr S.p wd := fun q rr h => by
    rw [List.getD_eq_getElem?_getD] at h
    cases e : (shOf S).wants[q.toNat]? with
    | none => rw [e] at h; simp at h
    | some own =>
      rw [e] at h
      exact hB rr (List.mem_flatMap.mpr ⟨own, List.mem_of_getElem? e, h⟩)
  have k1 : rk S.p (numsL S.unk near).length ((far.flatMap fun q => (shOf S).wants.getD q.toNat []).map fun r => cutL r (numsL S.unk near)) = rk S.p (numsL S.unk near).length (((shOf S).wants.getD z.2.toNat []).map fun r => cutL r (numsL S.unk near)) := by
    refine rk_noughts prm (fun r hr => ?_) (fun r hr => ?_) fun r hr => ?_
    · obtain ⟨y, hy, rfl⟩ := List.mem_map.mp hr
      obtain ⟨q, _, hy⟩ := List.mem_flatMap.mp hy
      exact cutL_row (rowB q y hy) Jb
    · obtain ⟨y, hy, rfl⟩ := List.mem_map.mp hr
      exact List.mem_map.mpr ⟨y, List.mem_flatMap.mpr ⟨z.2, zfar, hy⟩, rfl⟩
    · obtain ⟨y, hy, rfl⟩ := List.mem_map.mp hr
      obtain ⟨q, hq, hy⟩ := List.mem_flatMap.mp hy
      by_cases e : q = z.2
      · subst e
        exact .inl (List.mem_map.mpr ⟨y, hy, rfl⟩)
      · refine .inr fun x => ?_
        show vec (cutL y _) x = 0
        rw [vec_cut]
        unfold cutV
        split
        · rename_i hx
          have hxm : (numsL S.unk near).getD x 0 ∈ numsL S.unk near := by rw [getD_at (List.getElem?_eq_getElem hx)]; exact List.getElem_mem hx
          obtain ⟨m, hm, hx2⟩ := inJ _ hxm
          by_cases h0 : y.getD ((numsL S.unk near).getD x 0).toNat 0 = 0
          · exact h0
          · exact absurd (far0 q hq y hy _ m hm hx2 h0).2 e
        · rfl
  have k2 := rk_cut prm (R := (shOf S).wants.getD z.2.toNat []) (J := numsL S.unk near) (I := heldL S.unk z.1) (rowB z.2) Jb (fun x hx => List.mem_flatMap.mpr ⟨z.1, zin, hx⟩) fun r hr x hx hxn => by
    obtain ⟨m, hm, hx2⟩ := inJ x hx
    by_cases h0 : r.getD x.toNat 0 = 0
    · exact h0
    · exact absurd ((far0 z.2 zfar r hr x m hm hx2 h0).1 ▸ hx2) hxn
  have k3 : ((shOf S).wants.getD z.2.toNat []).map (fun r => cutL r (heldL S.unk z.1)) = blkR S z := by
    unfold blkR
    rw [egq, List.map_map]
    rfl
  rw [erow, k1, k2, k3] at key
  have lI := pI.length_eq
  have lJ := pJ.length_eq
  rw [List.length_append, rng_len] at lI lJ
  have sI := numsL_sum okc hnn
  have sJ := numsL_sum ok.unk hnn
  have em : moreR S near = ((numsL (undOf (shOf S) n A).holds near).length : Int) - ((numsL S.unk near).length : Int) := by
    rw [sI, sJ]
    unfold moreR
    clear sI sJ lI lJ key k1 k2 k3 far0 inJ Jb zin hnn hp pI pJ eside nn mn hnear
    induction near with
    | nil => rfl
    | cons q near ih =>
      rw [List.map_cons, List.map_cons, List.map_cons, List.sum_cons, List.sum_cons, List.sum_cons, ih]
      have e : (undOf (shOf S) n A).holds.getD q.toNat 0 = ((S.rules.getD q.toNat []).length : Int) := by
        show ((shOf S).wants.map fun own => (own.length : Int)).getD q.toNat 0 = _
        show ((S.rules.map fun own => own.map fun r => r.1).map fun own => (own.length : Int)).getD q.toNat 0 = _
        rw [List.getD_eq_getElem?_getD, List.getD_eq_getElem?_getD, List.getElem?_map, List.getElem?_map]
        cases S.rules[q.toNat]? <;> simp
      rw [e]
      omega
  unfold lawT
  rw [eside, em]
  show ((rk S.p (numsL (undOf (shOf S) n A).holds near).length ((((numsL S.unk far).map fun j => A.getD j.toNat []).map fun r => cutL r (numsL (undOf (shOf S) n A).holds near))) : Nat) : Int) = _
  omega
end S4

/-! == of two dicts with tuples for keys -/
namespace TT
open PySem PySem.Calls PyProof.Rows PyProof.V PySem.Spec L2 PySem.W
section
variable {prog : Program} {w : World} {K : Type} [DecidableEq K] {knd : HeapKind prog w K} {A : Around} {E : Value → Shared → Prop} {s : Shared}
theorem keqH_samePairs {nm : String} {a b : Addr} {xa xb : List (K × Addr × Value)} {Q : Bool → Shared → Prop} (ha : (a == sysModules) = false) (hb : (b == sysModules) = false)
    (da : s.heap.DictOfH knd a xa) (db : s.heap.DictOfH knd b xb) (hu : knd.room A) (hl : xa.length = xb.length) (hits : ∀ (i : Nat) (x : K × Addr × Value), xa[i]? = some x → ∃ (j : Nat) (y : Addr × Value), xb[j]? = some (x.1, y) ∧ SeqAt.EqAt A s x.2.2 y.2 true) (h : Q true s) :
    wpAny (model prog w) A (Builtin.Dict.samePairs nm a b) Q E s := by
  obtain ⟨oa, es, ep, hoa, _, hda, hea, hisa, hna⟩ := da
  obtain ⟨ob, es', ep', hob, _, hdb, heb, hisb, hnb⟩ := db
  have hla := size_of_entries hea
  have hlb := size_of_entries heb
  unfold Builtin.Dict.samePairs Builtin.Dict.showsAll
  rw [if_neg (show ¬ (a == sysModules) = true by rw [ha]; exact Bool.false_ne_true), if_neg (show ¬ (b == sysModules) = true by rw [hb]; exact Bool.false_ne_true)]
  refine wpAny_bind (wpAny_pure (wpAny_bind (wpAny_pure ?_)))
  refine wpAny_bind (wpAny_dictEntries hoa hda ?_)
  dsimp only
  refine wpAny_bind (wpAny_dictEntries hob hdb ?_)
  have hsz : es.size = es'.size := by omega
  rw [if_neg (by rw [hsz]; simp)]
  refine wpAny_bind (wpAny_dictEpoch hoa hda ?_)
  refine wpAny_bind ?_
  rw [Std.Legacy.Range.forIn_eq_forIn_range']
  simp only [Std.Legacy.Range.size, Nat.sub_zero, Nat.add_sub_cancel, Nat.div_one]
  refine wpAny_forIn_list _
    (fun rest q s' => s' = s ∧ q = (none, ()) ∧ ∃ i, rest = List.range' i (es.size - i) ∧ i ≤ es.size)
    _ ?_ ?_ _ _ ⟨rfl, rfl, 0, by simp, Nat.zero_le _⟩
  · rintro x rest q s' ⟨rfl, rfl, i, hr, hi⟩
    have hlt : i < es.size := by
      rcases Nat.lt_or_ge i es.size with h | h
      · exact h
      · rw [Nat.sub_eq_zero_of_le h] at hr; simp at hr
    obtain ⟨rfl, hrest⟩ : x = i ∧ rest = List.range' (i + 1) (es.size - (i + 1)) := by
      have e : es.size - i = (es.size - (i + 1)) + 1 := by omega
      rw [e, List.range'_succ] at hr
      injection hr with h1 h2
      exact ⟨h1, h2⟩
    refine wpAny_bind (wpAny_dictEntries hoa hda ?_)
    rw [Array.getElem?_eq_getElem hlt]
    have hx : xa[x]? = some (xa[x]'(by omega)) := List.getElem?_eq_getElem (by omega)
    have hex : es[x] = entryOfKey knd (xa[x]'(by omega)) := by
      have := entry_at hea x
      rw [Array.getElem?_eq_getElem hlt, hx] at this
      exact Option.some.inj this
    obtain ⟨j, y, hj, he⟩ := hits x _ hx
    generalize xa[x]'(by omega) = X at *
    show wpAny _ _ (holding [es[x].key, es[x].val] _ >>= _) _ _ _
    rw [hex]
    have hkey : knd.is s'.heap X.1 X.2.1 := hisa X (List.mem_of_getElem? hx)
    refine wpAny_bind (wpAny_holding (wpAny_bind (wpAny_dictFind_heap hu hkey hob hdb heb hisb hnb (fun hn => absurd hj (hn j y)) fun j' p hj' => ?_)))
    have hjj := idxH_unique hnb hj hj'
    subst hjj
    have hjlt : j < es'.size := by have := (List.getElem?_eq_some_iff.mp hj).1; omega
    refine wpAny_bind (wpAny_dictEntries hob hdb ?_)
    rw [Array.getElem?_eq_getElem hjlt]
    have hey : es'[j] = entryOfKey knd (X.1, y) := by
      have := entry_at heb j
      rw [Array.getElem?_eq_getElem hjlt, hj] at this
      exact Option.some.inj this
    rw [hey]
    refine wpAny_holding (he prog w _ _ ?_)
    show wpAny _ _ (if (!true) = true then _ else _) _ _ _
    rw [if_neg (by decide)]
    refine wpAny_bind (wpAny_dictEpoch hoa hda ?_)
    rw [if_neg (by simp)]
    exact wpAny_pure ⟨rfl, rfl, x + 1, hrest, hlt⟩
  · rintro q s' ⟨rfl, rfl, i, hr, hi⟩
    exact wpAny_pure h
end
section
variable {prog : Program} {w : World} {K : Type} [DecidableEq K] {knd : HeapKind prog w K} {A : Around} {E : Value → Shared → Prop} {s : Shared}
theorem keqH_eq {a b : Addr} {xa xb : List (K × Addr × Value)} {Q : Value → Shared → Prop} (ha : (a == sysModules) = false) (hb : (b == sysModules) = false)
    (da : s.heap.DictOfH knd a xa) (db : s.heap.DictOfH knd b xb) (hr : knd.room A.in1) (hu : A.units < cLine) (hl : xa.length = xb.length) (hits : ∀ (i : Nat) (x : K × Addr × Value), xa[i]? = some x → ∃ (j : Nat) (y : Addr × Value), xb[j]? = some (x.1, y) ∧ SeqAt.EqAt A.in1 s x.2.2 y.2 true) (h : Q (.bool true) s) :
    wpAny (model prog w) A (compareOp .Eq (.ref a) (.ref b)) Q E s := by
  refine wpAny_richCompare_same_room (op := .Eq) da.typeIs db.typeIs PySem.F.slot_dict_eq (wpAny_call_entry PySem.F.slot_dict_eq da.typeIs PySem.F.entry_dict_eq ?_ (PySem.F.args_dict_eq_2 _ _)) hu
  show wpAny _ _ (Builtin.Dict.dictSlotArgs "__eq__" ⟨[.ref a, .ref b], []⟩ >>= _) _ _ s
  refine wpAny_bind ?_
  unfold Builtin.Dict.dictSlotArgs
  refine wpAny_bind (wpAny_notOrdered_dict da.typeIs ?_)
  show wpAny _ _ (pure (Value.ref a, Value.ref b)) _ _ s
  refine wpAny_pure ?_
  refine wpAny_bind (wpAny_isInstance (T := "dict") db.typeIs PySem.F.sub_dict_dict ?_)
  simp only [Bool.not_true, Bool.false_eq_true, if_false]
  refine wpAny_bind (wpAny_pure (wpAny_bind (wpAny_pure ?_)))
  refine wpAny_bind (keqH_samePairs ha hb da db hr hl hits ?_)
  refine wpAny_pure ⟨_, rfl, ?_, ?_⟩
  · exact fun x => nomatch x
  · simpa using h
end
section
variable {X : Cx}
theorem paired_getK {α β : Type} {F : α → β → Prop} : ∀ {xs : List α} {l : List β}, Paired F xs l → ∀ {i : Nat} {b : β}, l[i]? = some b → ∃ a, xs[i]? = some a ∧ F a b
  | _, _, .nil, i, b, h => by simp at h
  | _, _, .cons h t, 0, b, e => ⟨_, rfl, by cases (Option.some.inj e); exact h⟩
  | _, _, .cons h t, i + 1, b, e => paired_getK t (i := i) e
theorem paired_getL {α β : Type} {F : α → β → Prop} : ∀ {xs : List α} {l : List β}, Paired F xs l → ∀ {i : Nat} {a : α}, xs[i]? = some a → ∃ b, l[i]? = some b ∧ F a b
  | _, _, .nil, i, b, h => by simp at h
  | _, _, .cons h t, 0, b, e => ⟨_, rfl, by cases (Option.some.inj e); exact h⟩
  | _, _, .cons h t, i + 1, b, e => paired_getL t (i := i) e
def rEqDT : R2 := fun x y H Q => ∃ a b kvs, x = .ref a ∧ y = .ref b ∧ H a = some (.dT kvs) ∧ H b = some (.dT kvs) ∧ (∀ p ∈ kvs, flatB p.2 = true) ∧ Q (.bl true) H
theorem op_eqDT (hr : (tupleKind (mixKind X.prog X.w)).room X.A.in1) (hu : X.A.units < cLine) : OpR X (compareOp .Eq) rEqDT := by
  intro pins s σ H x y v u Q I rx ry h
  obtain ⟨a, b, kvs, rfl, rfl, ea, eb, fl, q⟩ := h
  obtain rfl : v = Value.ref a := rx
  obtain rfl : u = Value.ref b := ry
  obtain ⟨_, ya, xa, ra, da⟩ := dt_of I.hok ea
  obtain ⟨_, yb, xb, rb, db⟩ := dt_of I.hok eb
  refine keqH_eq ya yb da db hr hu (ra.length.symm.trans rb.length) (fun i z hz => ?_) (fin_bl I q rfl)
  obtain ⟨p, hp, e1, _, e3⟩ := paired_getK ra hz
  obtain ⟨z', hz', f1, _, f3⟩ := paired_getL rb hp
  refine ⟨i, z'.2, ?_, eqAt_same e3 f3 (fl p (List.mem_of_getElem? hp))⟩
  rw [hz', ← e1, f1]
end
end TT

namespace S4
open PySem L2 TT MM EE
/-! ### data that is equal item by item -/
def datD (K : PySem.W.Frag) : Nat → Eqv
  | 0 => DFlat
  | n + 1 => fun x y H => datD K n x y H ∨ DTup K (datD K n) x y H
theorem mon_dat {K : PySem.W.Frag} : ∀ n, Mon (datD K n)
  | 0 => mon_flat
  | n + 1 => (mon_dat n).or (mon_tup (mon_dat n))
theorem eqG_dat {X : Cx} : ∀ n, EqG X n (datD X.K n)
  | 0 => eqG_flat
  | n + 1 => ((eqG_dat n).mono (Nat.le_succ n)).or (eqG_tup (mon_dat n) (eqG_dat n))
def Eqd {α : Type} (R : Rp α) (n : Nat) : Prop := ∀ (K : PySem.W.Frag) (H : Hp) (x y : V) (a : α), R H x a → R H y a → datD K n x y H
theorem dat_up {K : PySem.W.Frag} {x y : V} {H : Hp} {n : Nat} (h : datD K n x y H) : ∀ m, datD K (n + m) x y H
  | 0 => h
  | m + 1 => .inl (dat_up h m)
theorem dat_int {K : PySem.W.Frag} {H : Hp} (k : Int) : datD K 0 (.int k) (.int k) H := ⟨rfl, rfl, by unfold eqV; exact decide_eq_true rfl⟩
theorem eqd_row : Eqd rRow 1 := fun K H x y a ⟨t, e, h⟩ ⟨t', e', h'⟩ => by
  subst e e'
  refine .inr ⟨t, t', _, _, rfl, rfl, .of h, .of h', rfl, fun i x y h1 h2 => ?_⟩
  obtain ⟨k, _, rfl⟩ := at_int h1
  rw [h1] at h2
  cases h2
  exact dat_int k
theorem eqd_tup {α : Type} {R : Rp α} {n : Nat} (E : Eqd R n) : Eqd (rTup R) (n + 1) := fun K H x y a ⟨t, xs, e, h, p⟩ ⟨t', xs', e', h', p'⟩ => by
  subst e e'
  refine .inr ⟨t, t', _, _, rfl, rfl, .of h, .of h', by rw [paired_len p, paired_len p'], fun i x y h1 h2 => ?_⟩
  obtain ⟨b, hb, r⟩ := paired_get p h1
  obtain ⟨b', hb', r'⟩ := paired_get p' h2
  rw [hb] at hb'
  cases hb'
  exact E K H x y b r r'
theorem eqd_rule : Eqd rRule 2 := fun K H x y a ⟨t, u, e, h, r⟩ ⟨t', u', e', h', r'⟩ => by
  subst e e'
  refine .inr ⟨t, t', _, _, rfl, rfl, .of h, .of h', ?_⟩
  exact .cons (eqd_row K H u u' _ r r') (.cons (dat_up (dat_int a.2) 1) .nil)
section
variable {P : Program} {w : World} {K : PySem.W.Frag} {mg : Str → Option Value} {base : Heap} {cT cS : Addr}
theorem eqTree_R {f : Addr} {fd : FuncData} (F : FnOk P w K mg base CX0 1 f fd ["self", "other"] (spEqTree cT)) : FnOk P w K mg base CX0 1 f fd ["self", "other"] (spEq (RTree cT)) :=
  F.imp fun vs H Q E ⟨a, b, e, ⟨t, h1, h2⟩, q⟩ => ⟨.ref a, .ref b, t, t, e, h1, h2, by rw [decide_eq_true rfl]; exact q H Ext.rfl'⟩
theorem mon_treeD : Mon (DIns cT (RTree cT)) := mon_ins fun a b H H' (s : Same H H') ⟨t, h1, h2⟩ => ⟨t, mono_tree cT _ _ _ _ s.keep h1, mono_tree cT _ _ _ _ s.keep h2⟩
/-- items of the law's tuple -/
def itD (K : PySem.W.Frag) (cT : Addr) : Eqv := fun x y H => datD K 4 x y H ∨ DIns cT (RTree cT) x y H
theorem mon_itD : Mon (itD K cT) := (mon_dat 4).or mon_treeD
end
end S4

namespace S4
open PySem L2 TT MM EE
/-! ### rules are worked out right -/
/-- what the tolls of what is undone are -/
def TollLaw : Prop := ∀ (S : RD) (n wd : Nat) (A : List (List Int)) (z : Int × Int), RulesOk S n → S.unk.sum = (wd : Int) → canU (shOf S) wd = true → IsInv S.p wd (rowsW (shOf S)) A → z ∈ S.ties ++ flipAll S.ties → (rkZ (undOf (shOf S) n A) n z : Int) = lawT S n z
theorem kit_bb {K : PySem.W.Frag} : PySem.W.kitOne K (.type "bool") (.type "bool") = some true := kit_ty (by decide +kernel)
theorem flat_cong {α β : Type} {l : List α} {f g : α → List β} (h : ∀ a ∈ l, f a = g a) : l.flatMap f = l.flatMap g := by
  induction l with
  | nil => rfl
  | cons a l ih => rw [List.flatMap_cons, List.flatMap_cons, h a (by simp), ih fun b hb => h b (by simp [hb])]
theorem every_map {β : Type} (f : Rule → β) (rules : List (List Rule)) : (everyL rules).map (fun e => f e.2) = rules.flatMap fun own => own.map f := by
  unfold everyL
  rw [List.map_flatMap, ← fl_list rules fun own => own.map f]
  refine flat_cong fun i hi => ?_
  have hi := List.mem_range.mp hi
  rw [List.map_map, getD_at (List.getElem?_eq_getElem hi), List.getElem?_eq_getElem hi]
  rfl
theorem every_rows (rules : List (List Rule)) : (everyL rules).map (fun e => e.2.1) = (rules.map fun own => own.map fun r => r.1).flatMap fun own => own := by
  rw [every_map (fun r => r.1), List.flatMap_map]
theorem every_rights (rules : List (List Rule)) : (everyL rules).map (fun e => e.2.2) = rules.flatMap fun own => own.map fun r => r.2 := every_map (fun r => r.2) rules
def scAt : Scope := { kind := .function, names := [(".0", .local), ("at", .cell), ("_law_dot", .globalImplicit), ("p", .cell), ("place", .cell), ("rows", .cell), ("times", .cell)], isGenerator := false, isCoroutine := false }
section
variable {P : Program} {w : World} {K : PySem.W.Frag} {mg : Str → Option Value} {base : Heap} {cT cS : Addr}
def spLRight (cT cS : Addr) (mg : Str → Option Value) : Sp := fun vs H Q _ => ∃ (a th : Addr) (tv uv rv : V) (S : RD) (n : Nat) (hid : List Int), vs = [.ref a, .ref th] ∧ PDat H a S tv uv rv ∧ RulesOk S n ∧ rRow H (.ref th) hid ∧ HidOk S hid ∧ TollLaw ∧ ∀ H', Same H H' → Q (.bl true) H'
end
end S4

namespace S4
open PySem L2 TT MM EE
/-! ### what is undone, put to the rules, is one -/
theorem sumP_swap (P Q : List Nat) (f : Nat → Nat → Int) : sumP P (fun i => sumP Q fun j => f i j) = sumP Q fun j => sumP P fun i => f i j := by
  induction P with
  | nil =>
    have h : ∀ Q : List Nat, sumP Q (fun _ => (0 : Int)) = 0 := fun Q => by
      induction Q with
      | nil => rfl
      | cons a Q ih => rw [sumP_cons, ih]; rfl
    show (0 : Int) = sumP Q fun j => 0
    rw [h]
  | cons a P ih =>
    rw [sumP_cons, ih, ← sumP_add]
    congr 1
theorem byP_flat {counts : List Int} {n wd : Nat} {A : List (List Int)} (ok : CountsOk counts n) (hw : counts.sum = (wd : Int)) (hA : A.length = wd) : (byP counts n A).flatMap (fun own => own) = A := by
  have h := numsL_all ok hw
  have e : (byP counts n A).flatMap (fun own => own) = (numsL counts (rng n)).map fun i => A.getD i.toNat [] := by
    unfold byP numsL rng
    rw [List.flatMap_map, List.map_flatMap, List.flatMap_map]
  rw [e, h]
  unfold rng
  rw [List.map_map, ← hA]
  have := range_getD A (fun r => r)
  rw [List.map_id'] at this
  exact this
theorem dotU_cg {p : Int} (l : List Int) (m : List Int) : Cg p (dotU p l m) (sumP (List.range l.length) fun i => l.getD i 0 * m.getD i 0) := Cg.mod _
theorem sumP_rng_one {p : Int} {wd k : Nat} (hk : k < wd) (f : Nat → Int) : Cg p (sumP (List.range wd) fun x => (if x = k then 1 else 0) * f x) (f k) := by
  refine (sumP_one (k := k) List.nodup_range (List.mem_range.mpr hk) fun i _ hne => ?_).trans (.of_eq ?_)
  · rw [if_neg hne, Int.zero_mul]
    exact .refl 0
  · rw [if_pos rfl, Int.one_mul]
theorem map_getD0 (B : List (List Int)) (f : List Int → Int) (j : Nat) (hj : j < B.length) : (B.map f).getD j 0 = f (B.getD j []) := by
  rw [getD_at (show (B.map f)[j]? = some (f B[j]) by rw [List.getElem?_map, List.getElem?_eq_getElem hj]; rfl), getD_at (List.getElem?_eq_getElem hj)]
theorem inv_dot {p : Int} {wd : Nat} {B A : List (List Int)} (p2 : 2 ≤ p) (h : IsInv p wd B A) (hB : B.length = wd) {k x : Nat} (hk : k < wd) (hx : x < wd) : dotU p (A.getD k []) (B.map fun r => r.getD x 0) = if x = k then 1 else 0 := by
  have hm := h.mix k hk
  have hl : (A.getD k []).length = B.length := hm.1
  have h1 := hm.2.2 x hx
  rw [uRow_at] at h1
  have b : 0 ≤ dotU p (A.getD k []) (B.map fun r => r.getD x 0) ∧ dotU p (A.getD k []) (B.map fun r => r.getD x 0) < p := mod_b (by omega)
  refine Cg.eq (((dotU_cg (p := p) _ _).trans ?_).trans h1.symm) b.1 b.2 (by split <;> omega) (by split <;> omega)
  unfold dotC
  rw [hl]
  refine sumP_cg fun j hj => ?_
  rw [map_getD0 B (fun r => r.getD x 0) j (List.mem_range.mp hj)]
  exact .refl _
theorem inv_hid {p : Int} {wd : Nat} {B A : List (List Int)} (p2 : 2 ≤ p) (h : IsInv p wd B A) (hBr : ∀ r ∈ B, isRow r p wd) {hid : List Int} (hh : isRow hid p wd) {k : Nat} (hk : k < wd) : dotU p (A.getD k []) (B.map fun r => dotU p r hid) = hid.getD k 0 := by
  have hm := h.mix k hk
  have hl : (A.getD k []).length = B.length := hm.1
  have lh : hid.length = wd := isRow_len hh
  have b : 0 ≤ dotU p (A.getD k []) (B.map fun r => dotU p r hid) ∧ dotU p (A.getD k []) (B.map fun r => dotU p r hid) < p := mod_b (by omega)
  have hkl : hid[k]? = some (hid[k]'(by omega)) := List.getElem?_eq_getElem (by omega)
  have hb := hh.2 _ (List.mem_of_getElem? hkl)
  rw [getD_at hkl]
  refine Cg.eq ((dotU_cg (p := p) _ _).trans ?_) b.1 b.2 hb.1 hb.2
  rw [hl]
  have e1 : Cg p (sumP (List.range B.length) fun i => (A.getD k []).getD i 0 * (B.map fun r => dotU p r hid).getD i 0) (sumP (List.range B.length) fun i => sumP (List.range wd) fun x => (A.getD k []).getD i 0 * (B.getD i []).getD x 0 * hid.getD x 0) := by
    refine sumP_cg fun j hj => ?_
    have hj := List.mem_range.mp hj
    rw [map_getD0 B (fun r => dotU p r hid) j hj]
    have hr : isRow (B.getD j []) p wd := hBr _ (by rw [getD_at (List.getElem?_eq_getElem hj)]; exact List.getElem_mem hj)
    refine ((Cg.refl _).mul (dotU_cg (p := p) _ _)).trans (.of_eq ?_)
    rw [isRow_len hr, ← sumP_mul]
    congr 1
    funext x
    rw [Int.mul_assoc]
  refine e1.trans ?_
  rw [sumP_swap]
  have e2 : Cg p (sumP (List.range wd) fun x => sumP (List.range B.length) fun i => (A.getD k []).getD i 0 * (B.getD i []).getD x 0 * hid.getD x 0) (sumP (List.range wd) fun x => (if x = k then 1 else 0) * hid.getD x 0) := by
    refine sumP_cg fun x hx => ?_
    have h1 := hm.2.2 x (List.mem_range.mp hx)
    rw [uRow_at] at h1
    have e3 : (sumP (List.range B.length) fun i => (A.getD k []).getD i 0 * (B.getD i []).getD x 0 * hid.getD x 0) = dotC (A.getD k []) B x * hid.getD x 0 := by
      unfold dotC
      rw [Int.mul_comm _ (hid.getD x 0), ← sumP_mul]
      congr 1
      funext i
      rw [Int.mul_comm]
    rw [e3]
    exact h1.symm.mul (.refl _)
  refine e2.trans ((sumP_rng_one hk _).trans (.of_eq ?_))
  rw [getD_at hkl]
theorem wantV_flat (p : Int) (W : List (List (List Int))) (g : List Int) : (wantV p W g).flatMap (fun own => own) = (W.flatMap fun own => own).map fun r => dotU p r g := by
  unfold wantV
  rw [List.flatMap_map, List.map_flatMap]
/-- the rights lead back to what is hidden -/
theorem wanted_hid {S : RD} {n wd : Nat} {A : List (List Int)} {hid : List Int} (ok : RulesOk S n) (hwd : S.unk.sum = (wd : Int)) (hl : (rowsW (shOf S)).length = wd) (h : IsInv S.p wd (rowsW (shOf S)) A) (hh : HidOk S hid) :
    (wantV S.p (byP S.unk n A) (S.rules.flatMap fun own => own.map fun r => r.2)).flatMap (fun own => own) = hid := by
  have p2 := ok.clock.1
  have hB : ∀ r ∈ rowsW (shOf S), isRow r S.p wd := fun r hr => by rw [← hwd]; exact rowsW_row (shOf_ok ok) r hr
  have hid2 : isRow hid S.p wd := by rw [← hwd]; exact hh.row
  have er : (S.rules.flatMap fun own => own.map fun r => r.2) = (rowsW (shOf S)).map fun r => dotU S.p r hid := by
    unfold rowsW shOf
    rw [List.map_flatMap, List.flatMap_map]
    refine flat_cong fun own ho => ?_
    rw [List.map_map]
    exact List.map_congr_left fun r hr => hh.ok own ho r hr
  rw [wantV_flat, byP_flat ok.unk hwd h.len, er]
  refine List.ext_getElem (by rw [List.length_map, h.len, isRow_len hid2]) fun k h1 h2 => ?_
  have hk : k < wd := by rw [isRow_len hid2] at h2; exact h2
  have := inv_hid p2 h hB hid2 hk
  rw [getD_at (List.getElem?_eq_getElem (by rw [h.len]; exact hk)), getD_at (List.getElem?_eq_getElem h2)] at this
  rw [List.getElem_map]
  exact this
end S4

namespace S4
open PySem L2 TT MM EE
/-! ### a sheet == a text -/
theorem sub_str {K : PySem.W.Frag} {C : Addr} : PySem.W.subIn K (.type "str") (.ref C) = some false := by
  have e : PySem.fastBuiltinMro "str" = some [.type "str", .type "object"] := by decide +kernel
  show (PySem.fastBuiltinMro "str").map (·.contains (.ref C)) = some false
  rw [e]
  rfl
theorem kit_strC {K : PySem.W.Frag} {C : Addr} (hd : PySem.W.hasDictIn K C = true) (ht : PySem.W.typeIn K (.ref C) = some (.type "type")) : PySem.W.kitOne K (.type "str") (.ref C) = some false := by
  obtain ⟨cd, hc, _⟩ := PySem.W.any_some hd
  have e2 : ((PySem.W.clsIn K C).isSome && PySem.W.typeIn K (.ref C) == some (.type "type")) = true := by rw [hc, ht] <;> rfl
  unfold PySem.W.kitOne
  rw [if_neg (by simp)]
  show (if ((PySem.W.clsIn K C).isSome && PySem.W.typeIn K (.ref C) == some (.type "type")) = true then PySem.W.subIn K (.type "str") (.ref C) else none) = some false
  rw [if_pos e2]
  exact sub_str

theorem call_isCS {X : Cx} {C : Addr} (c : C8.InsC X.K C) (ht : PySem.W.typeIn X.K (.ref C) = some (.type "type")) (hd : PySem.W.hasDictIn X.K C = true) : CallR X (.builtin "isinstance") (fun xs H Q => ∃ s, xs = [.str s, .ref C] ∧ Q (.bl false) H) := by
  intro pins s σ H xs us Q I r h
  obtain ⟨t, rfl, q⟩ := h
  obtain ⟨u, w', rfl, ru, rw'⟩ := vals2 r
  cases rw'
  exact isinst_ok I ru (TyOf.str t) (kit_strC hd ht) fun tk => ⟨.bl false, H, I.tok _, rfl, q⟩
section
variable {P : Program} {w : World} {K : PySem.W.Frag} {mg : Str → Option Value} {base : Heap} {cT cS : Addr}
def spEqSheetS (cT cS : Addr) : Sp := fun vs H Q _ => ∃ (u : V) (S : SD) (s : Str), vs = [u, .str s] ∧ rSheet cT cS H u S ∧ Q (.bl false) H
theorem ok_eqSheetS (T : Tx K mg cT cS) {f : Addr} {fd : FuncData} (d : DM K "__eq__" "Sheet.__eq__" s_Sheet_eq ["self", "other"] cS f fd) : FnOk P w K mg base CX0 2 f fd ["self", "other"] (spEqSheetS cT cS) := by
  obtain ⟨fS, fdS, kS⟩ := T.k_Sheet
  obtain ⟨fE, fdE, dE⟩ := T.m_Tree_eq
  have GE : FnOk P w K mg base CX0 1 fE fdE ["self", "other"] (spEqTree cT) := ok_eqTree T dE
  refine d.F.ok sc_Sheet_eq (fun vs H Q E h => ?_) (fun cdv A outer s H vs Q E hr h => ?_)
  · obtain ⟨u, S, t, rfl, _⟩ := h
    rfl
  · obtain ⟨u, S, t, rfl, hS, q⟩ := h
    refine ⟨_, pss_one (ps_ret (pe_and (pe_callB call_isi (by rfl) T.b_isinstance (by decide +kernel) (pa_cons (pv 1) (pa_cons (pe_glob (v := .ref cS) rfl kS.m rfl) pa_nil)))
      (pe_and (pe_cmpR op_eq (pe_fld (pv 0) rfl) (pe_fld (pv 1) rfl) (nomark _))
      (pe_and (pe_cmpR (op_eqO GE (hr.mono (by decide)) dE.fi dE.fn dE.b pass0) (pe_fld (pv 0) rfl) (pe_fld (pv 1) rfl) (nomark _))
      (pe_and (pe_cmpR (op_eqD (hu64 hr)) (pe_fld (pv 0) rfl) (pe_fld (pv 1) rfl) (nomark _))
      (pe_one (pe_cmpR (op_eqD (hu64 hr)) (pe_fld (pv 0) rfl) (pe_fld (pv 1) rfl) (nomark _)))))))), ?_⟩
    exact ⟨_, rfl, _, _, _, _, _, rfl, .own _, .base (.str _), kit_strC T.i_Sheet.cl.hd T.t_Sheet, _, rfl, iteF q⟩
end
end S4

namespace S4
open PySem L2 TT MM EE
/-! ### rules are worked out right -/
theorem enc_li : Enc rLI (fun l => .list (l.map PyData.int)) 1 := by
  refine ⟨fun a b => ?_, fun a => .lst fun x hx => ?_, fun K H v a ⟨t, e, h⟩ => ?_⟩
  · simp only [PyData.eqv]
    exact eqvAll_iff int_iff a b
  · obtain ⟨y, _, rfl⟩ := List.mem_map.mp hx
    exact .int y
  · subst e
    refine .lst (.of h) ?_
    have go : ∀ l : List Int, DpAll K H (l.map V.int) (l.map PyData.int) := fun l => by
      induction l with
      | nil => exact .nil
      | cons r t ih => exact .cons (.int _) ih
    exact go a
theorem byP_cnt {counts : List Int} {n : Nat} (ok : CountsOk counts n) (A : List (List Int)) : ((byP counts n A).map fun own => (own.length : Int)) = counts := by
  unfold byP
  refine List.ext_getElem (by simp [ok.len]) fun j h1 h2 => ?_
  rw [List.getElem_map, List.getElem_map, List.getElem_range, List.length_map]
  have hj : j < n := by simpa using h1
  rw [(heldL_ln ok hj).1, getD_at (List.getElem?_eq_getElem (by rw [ok.len]; exact hj))]
/-- what stands behind `told` -/
structure MidP (cT cS : Addr) (H HA : Hp) (S : RD) (n wd : Nat) (a th : Addr) (ru : V) (re D sa tz tw : Addr) (v14 : V) (A : List (List Int)) (es rs : List V) (σ : St) : Prop where
  s : σ = [some (V.ref a), some (V.ref th), some ru, some (V.int S.p), some (V.ref re), some (V.int (wd : Int)), some (V.ref D), some (V.ref sa), some (V.ref tz), none, some (V.ref tw), some (V.bl true), some (V.bl true), some v14, none, none, none, none, none, none, none, none, none]
  h : Same H HA
  e : HA re = some (.lst es)
  pe : Paired (rEv HA) es (everyL S.rules)
  d : HA D = some (.lst rs)
  pd : Paired (rRow HA) rs (rowsW (shOf S))
  v : rSheet cT cS HA v14 (undOf (shOf S) n A)
  i : IsInv S.p wd (rowsW (shOf S)) A
  c : canU (shOf S) wd = true
section
variable {P : Program} {w : World} {K : PySem.W.Frag} {mg : Str → Option Value} {base : Heap} {cT cS : Addr}
set_option maxHeartbeats 0 in
theorem ok_lright (T : Tx K mg cT cS) {f : Addr} {fd : FuncData} (d : D K mg "_law_right" s_law_right ["parts", "hidden"] f fd) : FnOk P w K mg base CX0 11 f fd ["parts", "hidden"] (spLRight cT cS mg) := by
  obtain ⟨fE, fdE, dE⟩ := T.m_Tree_eq; obtain ⟨fSq, fdSq, dS⟩ := T.m_Sheet_eq
  obtain ⟨f1, fd1, d1⟩ := T.d_law_made
  have G1 := ok_lmade (P := P) (w := w) (base := base) T d1
  obtain ⟨f2, fd2, d2⟩ := T.d_law_every
  have G2 := ok_levery (P := P) (w := w) (base := base) T d2
  obtain ⟨f3, fd3, d3⟩ := T.d_rule_sheet
  have G3 := ok_rsheet (P := P) (w := w) (base := base) T d3
  obtain ⟨f4, fd4, k4⟩ := T.k_Tree
  have G4 := ok_Tree (P := P) (w := w) (base := base) T k4
  obtain ⟨f5, fd5, d5⟩ := T.d_law_ladder
  have G5 := ok_lladT (P := P) (w := w) (base := base) T d5
  obtain ⟨f6, fd6, d6⟩ := T.d_are_sure
  have G6 := ok_sureR (P := P) (w := w) (base := base) T d6
  obtain ⟨f7, fd7, d7⟩ := T.d_law_word
  have G7 := ok_lword (P := P) (w := w) (base := base) T d7
  obtain ⟨f8, fd8, d8⟩ := T.d_law_dot
  have G8 := ok_ldotV (P := P) (w := w) (base := base) T d8
  obtain ⟨f9, fd9, d9⟩ := T.d_wanted
  have G9 := ok_wanted (P := P) (w := w) (base := base) T d9
  obtain ⟨f10, fd10, d10⟩ := T.d_tolls
  have G10 := ok_tolls (P := P) (w := w) (base := base) T d10
  obtain ⟨f11, fd11, d11⟩ := T.d_law_tolls
  have G11 := ok_ltolls (P := P) (w := w) (base := base) T d11
  refine d.F.ok sc_law_right (fun vs H Q E h => ?_) (fun cdv A outer s H vs Q E hr h => ?_)
  · obtain ⟨a, th, tv, uv, rv, S, n, hid, rfl, _⟩ := h
    rfl
  · obtain ⟨a, th, tv, uv, rv, S, n, hid, rfl, hP, ok, hh, hok, hT, q⟩ := h
    refine ⟨_, pss_cons (ps_asg (pe_tup (pa_cons (pe_call G1 (hr.mono (by decide)) rfl d1.m d1.F.kp d1.b .nil pass0 (pa_cons (pv 0) pa_nil)) (pa_cons (pe_dget (hu1 hr) (pv 0) pe_str (fun _ _ => rfl)) (pa_cons (pe_call G2 (hr.mono (by decide)) rfl d2.m d2.F.kp d2.b .nil pass0 (pa_cons (pv 0) pa_nil)) (pa_cons (pe_callB (cr_sumT rfl) (by rfl) T.b_sum (by decide +kernel) (pa_cons (pe_dget (hu1 hr) (pv 0) pe_str (fun _ _ => rfl)) pa_nil)) pa_nil))))) (pg_tup rfl (pgs_cons (pg_name (i := 2) sc_law_right.nd rfl (.inl rfl)) (pgs_cons (pg_name (i := 3) sc_law_right.nd rfl (.inr rfl)) (pgs_cons (pg_name (i := 4) sc_law_right.nd rfl (.inl rfl)) (pgs_cons (pg_name (i := 5) sc_law_right.nd rfl (.inl rfl)) pgs_nil))))))
      (pss_cons (ps_set (i := 6) sc_law_right.nd rfl (.inr rfl) (pe_lc (own := [("post", 19), ("row", 20), ("right", 21)]) (g := (gTup K 3 (gCons (gName 19) (gCons (gName 20) (gCons (gName 21) gNil))))) (tt := tYes) rfl sc_law_right.nd (pi_list (pv 4)) (blkOk_by (N := N_law_right) (sc := defScope s_law_right) (by decide +kernel)) (fun _ _ _ _ _ => (pgT rfl rfl (pgs_cons (pg_name (i := 19) sc_law_right.nd rfl (Or.inl rfl)) (pgs_cons (pg_name (i := 20) sc_law_right.nd rfl (Or.inl rfl)) (pgs_cons (pg_name (i := 21) sc_law_right.nd rfl (Or.inl rfl)) pgs_nil))))) (fun _ _ _ _ _ => pts_nil)
            (fun _ _ _ _ _ => (pv 20))))
      (pss_cons (ps_set (i := 7) sc_law_right.nd rfl (.inl rfl) (pe_call G3 (hr.mono (by decide)) rfl d3.m d3.F.kp d3.b .nil pass0 (pa_cons (pv 2) pa_nil)))
      (pss_cons (ps_set (i := 8) sc_law_right.nd rfl (.inl rfl) (pe_tup (pa_cons (pe_fld (pv 7) rfl) (pa_cons (pe_fld (pv 7) rfl) (pa_cons (pe_fld (pv 7) rfl) (pa_cons (pe_fld (pv 7) rfl) pa_nil))))))
      (pss_cons (ps_set (i := 10) sc_law_right.nd rfl (.inl rfl) (pe_callTy call_tuple_of (by rfl) T.b_tuple (by decide +kernel) (pa_cons (pe_lc (own := [("own", 9)]) (g := (gName 9)) (tt := tYes) rfl sc_law_right.nd (pi_tup (pe_dget (hu1 hr) (pv 0) pe_str (fun _ _ => rfl))) (blkOk_by (N := N_law_right) (sc := defScope s_law_right) (by decide +kernel)) (fun _ _ _ _ _ => (pg_name (i := 9) sc_law_right.nd rfl (Or.inl rfl))) (fun _ _ _ _ _ => pts_nil)
            (fun _ _ _ _ _ => (pe_callTy (tupS (K := K) rfl) (by rfl) T.b_tuple (by decide +kernel) (pa_cons (pe_lc (own := [("row", 20), ("right", 21)]) (g := (gTup K 2 (gCons (gName 20) (gCons (gName 21) gNil)))) (tt := tYes) rfl sc_law_right.nd (piT rfl (pi_tup (pv 9))) (blkOk_by (N := N_law_right) (sc := scRs) (own := [("row", 20), ("right", 21)]) (by decide +kernel)) (fun _ _ _ _ _ => (pgT rfl rfl (pgs_cons (pg_name (i := 20) sc_law_right.nd rfl (Or.inl rfl)) (pgs_cons (pg_name (i := 21) sc_law_right.nd rfl (Or.inl rfl)) pgs_nil)))) (fun _ _ _ _ _ => pts_nil)
            (fun _ _ _ _ _ => (pv 20))) pa_nil)))) pa_nil)))
      (pss_cons (ps_if (pt_cmpR (op_neG (rcN_tup mon_itD ((eqG_dat 4).or ((eqG_ins (eqTree_R (ok_eqTree T dE)) dE.fi dE.fn dE.b pass0).mono (by decide)))) (hr.mono (by decide))) (pv 8) (pe_tup (pa_cons (pv 3) (pa_cons (pe_make k4.mkf G4 (hr.mono (by decide)) rfl k4.m k4.b .nil pass0 (pa_cons (pe_dget (hu1 hr) (pv 0) pe_str (fun _ _ => rfl)) pa_nil)) (pa_cons (pe_dget (hu1 hr) (pv 0) pe_str (fun _ _ => rfl)) (pa_cons (pv 10) pa_nil))))) (nomark _)) pss_never pss_nil)
      (pss_cons (ps_set (i := 11) sc_law_right.nd rfl (.inl rfl) (pe_and (pe_cmpR op_eq (pe_callB call_len_seq (by rfl) T.b_len PySem.boot_len (pa_cons (pv 6) pa_nil)) (pv 5) (nomark _)) (pe_one (pe_cmpR op_eq (pe_callB call_len_seq (by rfl) T.b_len PySem.boot_len (pa_cons (pe_call G5 (hr.mono (by decide)) rfl d5.m d5.F.kp d5.b .nil pass0 (pa_cons (pv 3) (pa_cons (pv 6) pa_nil))) pa_nil)) (pv 5) (nomark _)))))
      (pss_cons (ps_par (i := 12) (j := 13) (by rfl) sc_law_right.nd rfl rfl (by decide) rfl rfl (pa_cons (pe_call G6 (hr.mono (by decide)) rfl d6.m d6.F.kp d6.b .nil pass0 (pa_cons (pv 2) pa_nil)) (pa_cons (pe_call G7 (hr.mono (by decide)) rfl d7.m d7.F.kp d7.b .nil pass0 (pa_cons (pv 2) pa_nil)) pa_nil)) (by rfl))
      (pss_cons (ps_if (PW.pt (pw_or (pt_not (pt_val (pe_callB call_isi (by rfl) T.b_isinstance (by decide +kernel) (pa_cons (pv 12) (pa_cons (ty_bool T.b_bool) pa_nil))))) (pw_or1 (pt_cmpR op_ne (pv 12) (pv 11) (nomark _))))) pss_never pss_nil)
      (C8.pss_cut (ps_if (pt_not (pt_val (pv 11))) (pss_one (ps_ret (pe_cmpR op_eq (pv 13) pe_str (nomark _)))) pss_nil)
      (pss_cons (ps_set (i := 14) sc_law_right.nd rfl (.inl rfl) (pe_callTy call_tuple_of (by rfl) T.b_tuple (by decide +kernel) (pa_cons (pe_lc (own := [("own", 9)]) (g := (gName 9)) (tt := tYes) rfl sc_law_right.nd (pi_tup (pe_dget (hu1 hr) (pv 0) pe_str (fun _ _ => rfl))) (blkOk_by (N := N_law_right) (sc := defScope s_law_right) (by decide +kernel)) (fun _ _ _ _ _ => (pg_name (i := 9) sc_law_right.nd rfl (Or.inl rfl))) (fun _ _ _ _ _ => pts_nil)
            (fun _ _ _ _ _ => (pe_callB (lenS (K := K) rfl) (by rfl) T.b_len PySem.boot_len (pa_cons (pv 9) pa_nil)))) pa_nil)))
      (pss_cons (ps_if (PW.pt (pw_or (pt_cmpR (op_eqO (ok_eqSheetS T dS) (hr.mono (by decide)) dS.fi dS.fn dS.b pass0) (pv 13) pe_str (nomark _)) (pw_or (pt_cmpR (op_eqO (ok_eqSheetS T dS) (hr.mono (by decide)) dS.fi dS.fn dS.b pass0) (pv 13) pe_str (nomark _)) (pw_or1 (pt_cmpR (op_neG (rcN_tup mon_itD ((eqG_dat 4).or ((eqG_ins (eqTree_R (ok_eqTree T dE)) dE.fi dE.fn dE.b pass0).mono (by decide)))) (hr.mono (by decide))) (pe_tup (pa_cons (pe_fld (pv 13) rfl) (pa_cons (pe_fld (pv 13) rfl) (pa_cons (pe_fld (pv 13) rfl) pa_nil)))) (pe_tup (pa_cons (pv 3) (pa_cons (pe_make k4.mkf G4 (hr.mono (by decide)) rfl k4.m k4.b .nil pass0 (pa_cons (pe_dget (hu1 hr) (pv 0) pe_str (fun _ _ => rfl)) pa_nil)) (pa_cons (pv 14) pa_nil)))) (nomark _)))))) pss_never pss_nil)
      (pss_cons (ps_if (pt_cmpR (op_neD (hu64 hr)) (pe_callTy call_tuple_of (by rfl) T.b_tuple (by decide +kernel) (pa_cons (pe_lc (own := [("own", 9)]) (g := (gName 9)) (tt := tYes) rfl sc_law_right.nd (pi_tup (pe_fld (pv 13) rfl)) (blkOk_by (N := N_law_right) (sc := defScope s_law_right) (by decide +kernel)) (fun _ _ _ _ _ => (pg_name (i := 9) sc_law_right.nd rfl (Or.inl rfl))) (fun _ _ _ _ _ => pts_nil)
            (fun _ _ _ _ _ => (pe_callB (lenS (K := K) rfl) (by rfl) T.b_len PySem.boot_len (pa_cons (pv 9) pa_nil)))) pa_nil)) (pe_dget (hu1 hr) (pv 0) pe_str (fun _ _ => rfl)) (nomark _)) pss_never pss_nil)
      (pss_cons (ps_set (i := 15) sc_law_right.nd rfl (.inr rfl) (pe_lst pa_nil))
      (pss_cons (ps_for PassesOwn.never rfl (pi_tup (pe_fld (pv 13) rfl)) (pg_name (i := 9) sc_law_right.nd rfl (.inl rfl))
        (pss_one (ps_set (i := 15) sc_law_right.nd rfl (.inr rfl) (pe_op op_cat (pv 15) (pe_callTy call_list_of (by rfl) T.b_list (by decide +kernel) (pa_cons (pv 9) pa_nil))))))
      (pss_cons (ps_for PassesOwn.never rfl (pi_range1 rfl T.b_range (pa_cons (pv 5) pa_nil)) (pg_name (i := 16) sc_law_right.nd rfl (.inr rfl))
        (pss_cons (ps_setLc (i := 17) (own := [("at", 22)]) (g := (gName 22)) (tt := tYes) rfl sc_law_right.nd rfl rfl (sw_true rfl rfl rfl (by decide +kernel)) (pi_range1 rfl T.b_range (pa_cons (pv 5) pa_nil)) (blkOk_by (N := N_law_right) (sc := defScope s_law_right) (by decide +kernel)) (fun _ _ _ _ _ => (pg_name (i := 22) sc_law_right.nd rfl (Or.inl rfl))) (fun _ _ _ _ _ => pts_nil)
            (fun _ _ _ _ _ => (pe_callTy call_int1 (by rfl) T.b_int (by decide +kernel) (pa_cons (pe_cmpR op_eq (pv 22) (pv 16) (nomark _)) pa_nil))))
      (pss_one (ps_if (pt_cmpR (op_neD (hu64 hr)) (pe_lc (own := [("at", 22)]) (g := (gName 22)) (tt := tYes) rfl sc_law_right.nd (pi_range1 rfl T.b_range (pa_cons (pv 5) pa_nil)) (blkOk_by (N := N_law_right) (sc := defScope s_law_right) (by decide +kernel)) (fun _ _ _ _ _ => (pg_name (i := 22) sc_law_right.nd rfl (Or.inr rfl))) (fun _ _ _ _ _ => pts_nil)
            (fun _ _ _ _ _ => (pe_call G8 (hr.mono (by decide)) rfl d8.m d8.F.kp d8.b .nil pass0 (pa_cons (pv 3) (pa_cons (pe_ix (ixL (K := K) rfl) (pv 15) (pv 16) (fun _ _ => rfl)) (pa_cons (pe_lc (own := [("row", 20)]) (g := (gName 20)) (tt := tYes) rfl sc_law_right.nd (piLK rfl (pi_list (pv 6))) (blkOk_by (N := N_law_right) (sc := scAt) (own := [("row", 20)]) (by decide +kernel)) (fun _ _ _ _ _ => (pg_name (i := 20) sc_law_right.nd rfl (Or.inl rfl))) (fun _ _ _ _ _ => pts_nil)
            (fun _ _ _ _ _ => (pe_ix (ixT (K := K) rfl) (pv 20) (pv 22) (fun _ _ => rfl)))) pa_nil)))))) (pv 17) (nomark _)) pss_never pss_nil))))
      (pss_cons (ps_set (i := 18) sc_law_right.nd rfl (.inl rfl) (pe_lst pa_nil))
      (pss_cons (ps_for PassesOwn.never rfl (pi_tup (pe_call G9 (hr.mono (by decide)) rfl d9.m d9.F.kp d9.b .nil pass0 (pa_cons (pv 13) (pa_cons (pe_callTy call_tuple_of (by rfl) T.b_tuple (by decide +kernel) (pa_cons (pe_lc (own := [("post", 19), ("row", 20), ("right", 21)]) (g := (gTup K 3 (gCons (gName 19) (gCons (gName 20) (gCons (gName 21) gNil))))) (tt := tYes) rfl sc_law_right.nd (pi_list (pv 4)) (blkOk_by (N := N_law_right) (sc := defScope s_law_right) (by decide +kernel)) (fun _ _ _ _ _ => (pgT rfl rfl (pgs_cons (pg_name (i := 19) sc_law_right.nd rfl (Or.inl rfl)) (pgs_cons (pg_name (i := 20) sc_law_right.nd rfl (Or.inl rfl)) (pgs_cons (pg_name (i := 21) sc_law_right.nd rfl (Or.inl rfl)) pgs_nil))))) (fun _ _ _ _ _ => pts_nil)
            (fun _ _ _ _ _ => (pv 21))) pa_nil)) pa_nil)))) (pg_name (i := 9) sc_law_right.nd rfl (.inl rfl))
        (pss_one (ps_set (i := 18) sc_law_right.nd rfl (.inl rfl) (pe_op op_cat (pv 18) (pe_callTy call_list_of (by rfl) T.b_list (by decide +kernel) (pa_cons (pv 9) pa_nil))))))
      (pss_one (ps_ret (pe_and (pe_cmpR (op_eqD (hu64 hr)) (pe_callTy call_tuple_of (by rfl) T.b_tuple (by decide +kernel) (pa_cons (pv 18) pa_nil)) (pv 1) (nomark _)) (pe_one (pe_cmpR (op_eqDT (hu1 hr) (hu0 hr)) (pe_call G10 (hr.mono (by decide)) rfl d10.m d10.F.kp d10.b .nil pass0 (pa_cons (pv 13) pa_nil)) (pe_call G11 (hr.mono (by decide)) rfl d11.m d11.F.kp d11.b .nil pass0 (pa_cons (pv 0) pa_nil)) (nomark _))))))))))))))))))))))), ?_⟩
    obtain ⟨fS, fdS, kS⟩ := T.k_Sheet
    have nS : ∀ y ∈ (["p", "tree", "holds", "wants", "numbers"] : List Str), NoAttr K cS y := kS.na
    have clS : Cls K cS := kS.cl
    obtain ⟨wd, hwd⟩ : ∃ wd : Nat, S.unk.sum = (wd : Int) := ⟨S.unk.sum.toNat, by have := sum_nn fun x hx => (ok.unk.b x hx).1; omega⟩
    have hs60 := ok.unk.s
    have hln := ok.len
    have hn24 := ok.tree.ok.n24
    have p2 := ok.clock.1
    have pm := ok.clock.2.1
    obtain ⟨tu, eu, htu⟩ := id hP.u
    subst eu
    obtain ⟨tr, xr, er, htr, hxr⟩ := id hP.r
    subst er
    have lxr := paired_len hxr
    refine ⟨_, rfl, a, tv, .ref tu, .ref tr, S, n, rfl, hP, ok, fun H1 ru s1 hR1 => ?_⟩
    refine ⟨_, rfl, a, _, rfl, (hP.same s1).gp, _, rfl, a, tv, .ref tu, .ref tr, S, rfl, hP.same s1, by omega, ok.l8, fun H2 re es s2 hre hev => ?_⟩
    have t2 := s1.trans s2
    refine ⟨_, rfl, a, _, rfl, (hP.same t2).gu, tu, S.unk, rfl, .of (t2 _ _ htu), by show 4 ≤ sizeLine; decide, fun tq ntq => ?_⟩
    have s3 := same_new (o := .tup [ru, V.int S.p, V.ref re, V.int S.unk.sum]) ntq
    have t3 := t2.trans s3
    refine ⟨tq, _, rfl, .of upd_same, rfl, _, _, rfl, _, _, rfl, _, _, rfl, _, _, rfl, rfl, ?_⟩
    have hR3 := mono_ro cT mg _ _ _ _ (s2.trans s3).keep hR1
    have hre3 := s3 _ _ hre
    have hev3 := paired_mono mono_ev s3.keep hev
    generalize upd H2 tq (.tup [ru, V.int S.p, V.ref re, V.int S.unk.sum]) = H3 at *
    have lev := paired_len hev3
    have hl8 := len_every ok.l8
    have evr : (everyL S.rules).map (fun e => e.2.1) = rowsW (shOf S) := every_rows S.rules
    have evq : (everyL S.rules).map (fun e => e.2.2) = S.rules.flatMap fun own => own.map fun r => r.2 := every_rights S.rules
    dsimp only [gName, tSeq]
    refine ⟨_, rfl, re, rfl, ⟨_, .of hre3⟩, fun D hD => ?_⟩
    refine lc_fm (walk_list (xs := es)) rRow (fun i => (everyL S.rules)[i]?.bind fun e => some e.2.1) hD (fun H' s' => .of (s' _ _ hre3)) ?_ ?_
    · rintro i x H4 H5 hi pv ⟨rfl, hx⟩
      obtain ⟨e, he, te, xe, rfl, hte, hrow⟩ := paired_get (paired_mono mono_ev pv.1.keep hev3) hx
      refine ⟨te, _, rfl, .of hte, rfl, _, _, rfl, _, _, rfl, _, _, rfl, rfl, rfl, _, rfl, ?_⟩
      exact fm_keep mono_row pv hD (by omega) (Same.refl _) (by rw [he]; rfl) hrow
    intro H4 rs s4 hD4 hp4
    rw [lev, fm_some, evr] at hp4
    have t4 := t3.trans s4
    dsimp only [gName, tSeq]
    have hR4 := mono_ro cT mg _ _ _ _ s4.keep hR3
    refine ⟨_, rfl, ru, S, n, rfl, hR4, ok, fun H5 sh s5 hsh => ?_⟩
    have t5 := t4.trans s5
    obtain ⟨sa, sdx, str, sth, stw, rfl, sI, sT, sH, sW⟩ := id hsh
    dsimp only [gName, tSeq]
    refine ⟨_, rfl, sa, cS, sdx, _, _, rfl, sI, clS, nS "p" (by simp), sfs_p, _, rfl, sa, cS, sdx, _, _, rfl, sI, clS, nS "tree" (by simp), sfs_tree, _, rfl, sa, cS, sdx, _, _, rfl, sI, clS, nS "holds" (by simp), sfs_holds, _, rfl, sa, cS, sdx, _, _, rfl, sI, clS, nS "wants" (by simp), sfs_wants, by show 4 ≤ sizeLine; decide, fun tz ntz => ?_⟩
    have s6 := same_new (o := .tup [V.int (shOf S).p, V.ref str, V.ref sth, V.ref stw]) ntz
    have t6 := t5.trans s6
    have hz6 := upd_same (H := H5) (a := tz) (o := .tup [V.int (shOf S).p, V.ref str, V.ref sth, V.ref stw])
    have k46 := s5.trans s6
    have hsh6 := mono_sheet cT cS _ _ _ _ s6.keep hsh
    generalize upd H5 tz (.tup [V.int (shOf S).p, V.ref str, V.ref sth, V.ref stw]) = H6 at *
    dsimp only [gName, tSeq]
    have htr6 := t6 _ _ htr
    have hxr6 := paired_mono mono_own t6.keep hxr
    refine ⟨_, rfl, a, _, rfl, (hP.same t6).gr, tr, rfl, ⟨_, .of htr6⟩, fun D2 hD2 => ?_⟩
    refine lc_fm (walk_tup (xs := xr)) (rTup rRow) (fun i => S.rules[i]?.bind fun own => some (own.map fun r => r.1)) hD2 (fun H' s' => .of (s' _ _ htr6)) ?_ ?_
    · rintro i x H7 H8 hi pv ⟨rfl, hx⟩
      obtain ⟨own, hown, to, xo, rfl, hto, hpo⟩ := paired_get (paired_mono mono_own pv.1.keep hxr6) hx
      have hlo := paired_len hpo
      have h8 := ok.l8 own (List.mem_of_getElem? hown)
      refine ⟨rfl, _, rfl, to, rfl, ⟨_, .of hto⟩, fun D3 hD3 => ?_⟩
      refine lc_fm (walk_tup (xs := xo)) rRow (fun j => own[j]?.bind fun r => some r.1) hD3 (fun H' s' => .of (s' _ _ hto)) ?_ ?_
      · rintro j y H9 H10 hj pw ⟨rfl, hy⟩
        obtain ⟨r, hr2, t2, x2, rfl, ht2, hx2⟩ := paired_get (paired_mono mono_rule pw.1.keep hpo) hy
        refine ⟨t2, _, rfl, .of ht2, rfl, _, _, rfl, _, _, rfl, rfl, rfl, _, rfl, ?_⟩
        exact fm_keep mono_row pw hD3 (by omega) (Same.refl _) (by rw [hr2]; rfl) hx2
      · intro H9 zs s9 hD9 hp9
        rw [hlo, fm_some] at hp9
        refine ⟨D3, _, rfl, .inl ⟨.of hD9, fun tq ntq => ?_⟩⟩
        have s10 := same_new (o := .tup zs) ntq
        exact fm_keep (mono_tup mono_row) pv hD2 (by omega) (s9.trans s10) (by rw [hown]; rfl) ⟨tq, zs, rfl, upd_same, paired_mono mono_row s10.keep hp9⟩
    intro H7 ws s7 hD7 hp7
    rw [lxr, fm_some] at hp7
    refine ⟨D2, _, rfl, .inl ⟨.of hD7, fun tw ntw => ?_⟩⟩
    have s8 := same_new (o := .tup ws) ntw
    have k78 := s7.trans s8
    have t8 := t6.trans k78
    have hw8 : rWants (upd H7 tw (.tup ws)) (.ref tw) (shOf S).wants := ⟨tw, ws, rfl, upd_same, paired_mono (mono_tup mono_row) s8.keep hp7⟩
    generalize upd H7 tw (.tup ws) = H8 at *
    dsimp only [gName, tSeq]
    refine ⟨_, rfl, _, rfl, _, rfl, a, _, rfl, (hP.same t8).gt, fun y dy ny ndy ney => ?_⟩
    have s9 := same_make (C := cT) ny ndy ney
    refine ⟨y, dy, tv, S.ties, n, rfl, upd_same, (hP.same (t8.trans s9)).t, ok.tree.ok, fun H9 k9 hT9 => ⟨rfl, ?_⟩⟩
    have s89 : Same H8 H9 := fun b o e => k9 b o (fun z => by subst z; rw [ny] at e; cases e) (s9 _ _ e)
    have t9 := t8.trans s89
    refine ⟨_, rfl, a, _, rfl, (hP.same t9).gu, _, rfl, by show 4 ≤ sizeLine; decide, fun pd npd => ?_⟩
    have s10 := same_new (o := .tup [V.int S.p, V.ref y, V.ref tu, V.ref tw]) npd
    have t10 := t9.trans s10
    have hpd := upd_same (H := H9) (a := pd) (o := .tup [V.int S.p, V.ref y, V.ref tu, V.ref tw])
    have hY10 := mono_tree cT _ _ _ _ s10.keep hT9
    have hw10 := mono_wants _ _ _ _ (s89.trans s10).keep hw8
    have k610 := (k78.trans s89).trans s10
    generalize upd H9 pd (.tup [V.int S.p, V.ref y, V.ref tu, V.ref tw]) = H10 at *
    have k510 := s6.trans k610
    have hT10 := mono_tree cT _ _ _ _ k510.keep sT
    have hz10 := k610 _ _ hz6
    obtain ⟨_, dt, tt, xs, e, i1, i2, i3⟩ := id hT10
    cases e
    obtain ⟨_, dt', tt', xs', e, i1', i2', i3'⟩ := id hY10
    cases e
    refine ⟨⟨tz, pd, _, _, rfl, rfl, .of hz10, .of hpd, ?_⟩, fun H11 (s11 : Same H10 H11) => ⟨_, rfl, iteF ?_⟩⟩
    · exact .cons (.inl (dat_up (dat_int S.p) 4)) (.cons (.inr ⟨str, y, _, _, _, _, rfl, rfl, i1, i1', S.ties, hT10, hY10⟩) (.cons (.inl (dat_up (eqd_row K _ _ _ _ (mono_row _ _ _ _ k510.keep sH) (hP.same t10).u) 3)) (.cons (.inl (dat_up (eqd_tup (eqd_tup eqd_row) K _ _ _ _ (mono_wants _ _ _ _ k510.keep sW) hw10) 1)) .nil)))
    have t11 := t10.trans s11
    have k411 : Same H4 H11 := (s5.trans k510).trans s11
    have hD11 := k411 _ _ hD4
    have hp11 := paired_mono mono_row k411.keep hp4
    have lrs := paired_len hp11
    have oks := shOf_ok ok
    have hrw : ∀ r ∈ rowsW (shOf S), isRow r S.p wd := fun r hr => by rw [← hwd]; exact rowsW_row oks r hr
    have hr60 : (rowsW (shOf S)).length ≤ 60 := by rw [rowsW_len]; exact oks.wants.s
    dsimp only [tNext, tSeq]
    apply twice2 (fun HX (_ : Unit) => Same H11 HX)
    · intro rest
      refine ⟨_, rfl, D, rs, rfl, .inl (.of hD11), _, rfl, rfl, _, rfl, ?_⟩
      rw [hwd, dec_int, lrs]
      by_cases hl : (rowsW (shOf S)).length = wd
      · rw [if_pos (by rw [hl]; simp)]
        refine ⟨_, rfl, _, rfl, D, S.p, wd, rs, rowsW (shOf S), rfl, hD11, Paired.mapP hp11 fun _ _ ⟨t, e, h⟩ => ⟨t, e, .inr h⟩, by omega, ok.clock.prm, pm, by omega, hrw, fun H12 v12 lad s12 hv12 hlad => ?_⟩
        obtain ⟨tl, xl, rfl, htl, hxl⟩ := hv12
        have lxl := paired_len hxl
        have hrk := rk_lad ok.clock.prm hlad
        refine ⟨tl, xl, rfl, .inr (.of htl), _, rfl, rfl, ?_⟩
        rw [dec_int]
        have hc : (((xl.length : Nat) : Int) == ((wd : Nat) : Int)) = canU (shOf S) wd := by
          unfold canU
          rw [decide_eq_true hl, Bool.true_and, Bool.eq_iff_iff, lxl, hrk]
          show _ ↔ decide (rk S.p wd (rowsW (shOf S)) = wd) = true
          rw [beq_iff_eq, decide_eq_true_iff]
          exact Int.ofNat_inj
        rw [hc]
        exact rest H12 () s12
      · rw [if_neg (by simp; omega)]
        have hc : canU (shOf S) wd = false := by
          unfold canU
          rw [decide_eq_false hl, Bool.false_and]
        have r := rest H11 () (.refl _)
        rw [hc] at r
        exact r
    rintro H12 _ s12
    have t12 := t11.trans s12
    have k412 := k411.trans s12
    have hR12 := mono_ro cT mg _ _ _ _ k412.keep hR4
    dsimp only [gName, tSeq]
    show tPar 12 13 _ _ [some (V.ref a), some (V.ref th), some ru, some (V.int S.p), some (V.ref re), some (V.int (wd : Int)), some (V.ref D), some (V.ref sa), some (V.ref tz), none, some (V.ref tw), some (V.bl (canU (shOf S) wd)), none, none, none, none, none, none, none, none, none, none, none] H12
    refine ⟨_, rfl, ru, S, n, wd, rfl, hR12, ok, hwd, fun H13 s13 => ⟨_, rfl, ru, S, n, wd, rfl, mono_ro cT mg _ _ _ _ s13.keep hR12, ok, hwd, fun hc H14 s14 => ⟨_, _, rfl, ?_⟩, fun hc H14 v14 A s14 hv14 hA => ⟨_, _, rfl, ?_⟩⟩⟩
    · rw [hc]
      dsimp only [gName, tSeq]
      refine ⟨_, rfl, _, _, _, _, _, rfl, .ty _, .base (.bl _), kit_bb, _, rfl, iteF ⟨_, rfl, _, rfl, rfl, _, rfl, iteF' (by simp) ?_⟩⟩
      dsimp only [tNext, tSeq]
      refine ⟨fun _ _ => False, ⟨_, rfl, _, rfl, iteT ⟨_, rfl, rfl, ?_⟩⟩, fun _ _ h => h.elim⟩
      rw [decide_eq_true rfl]
      exact q _ ((t12.trans s13).trans s14)
    · rw [hc]
      dsimp only [gName, tSeq]
      refine ⟨_, rfl, _, _, _, _, _, rfl, .ty _, .base (.bl _), kit_bb, _, rfl, iteF ⟨_, rfl, _, rfl, rfl, _, rfl, iteF' (by simp) ?_⟩⟩
      dsimp only [tNext, tSeq]
      have t14 := (t12.trans s13).trans s14
      have k14 := (k412.trans s13).trans s14
      refine ⟨fun σ HA => ∃ ru re D sa tz tw v14 A es rs, MidP cT cS H HA S n wd a th ru re D sa tz tw v14 A es rs σ, ⟨_, rfl, _, rfl, iteF ?_⟩, ?_⟩
      · exact ⟨ru, re, D, sa, tz, tw, v14, A, es, rs, rfl, t14, (s4.trans k14) _ _ hre3, paired_mono mono_ev (s4.trans k14).keep hev3, k14 _ _ hD4, paired_mono mono_row k14.keep hp4, hv14, hA, hc⟩
      rintro σ' H14 ⟨ru, re, D, sa, tz, tw, v14, A, es, rs, M⟩
      obtain ⟨rfl, t14, hre, hev, hD, hp, hv14, hA, hc⟩ := M
      have hh14 := mono_row _ _ _ _ t14.keep hh
      dsimp only [gName, tSeq]
      show tAsg _ _ _ [some (V.ref a), some (V.ref th), some ru, some (V.int S.p), some (V.ref re), some (V.int (wd : Int)), some (V.ref D), some (V.ref sa), some (V.ref tz), none, some (V.ref tw), some (V.bl true), some (V.bl true), some v14, none, none, none, none, none, none, none, none, none] H14
      have htr14 := t14 _ _ htr
      have hxr14 := paired_mono mono_own t14.keep hxr
      refine ⟨_, rfl, a, _, rfl, (hP.same t14).gr, tr, rfl, ⟨_, .of htr14⟩, fun D5 hD5 => ?_⟩
      refine lc_fm (walk_tup (xs := xr)) rInt (fun i => S.rules[i]?.bind fun own => some (own.length : Int)) hD5 (fun H' s' => .of (s' _ _ htr14)) ?_ ?_
      · rintro i x H15 H16 hi pv ⟨rfl, hx⟩
        obtain ⟨own, hown, to, xo, rfl, hto, hpo⟩ := paired_get (paired_mono mono_own pv.1.keep hxr14) hx
        have hlo := paired_len hpo
        refine ⟨rfl, _, rfl, to, xo, rfl, .inr (.of hto), ?_⟩
        exact fm_keep mono_int pv hD5 (by omega) (Same.refl _) (by rw [hown]; show some ((own.length : Nat) : Int) = some ((xo.length : Nat) : Int); rw [hlo]) rfl
      intro H15 ys s15 hD15 hp15
      rw [lxr, fm_some] at hp15
      have := paired_int hp15
      subst this
      refine ⟨D5, _, rfl, .inl ⟨.of hD15, fun th2 nth2 => ?_⟩⟩
      dsimp only [gName, tSeq]
      obtain ⟨ua, udx, utr, uth, utw, rfl, uI, uT, uH, uW⟩ := id hv14
      have s16 := same_new (o := .tup ((S.rules.map fun own => (own.length : Int)).map V.int)) nth2
      have k1416 := s15.trans s16
      have t16 := t14.trans k1416
      have hh16 := upd_same (H := H15) (a := th2) (o := .tup ((S.rules.map fun own => (own.length : Int)).map V.int))
      generalize upd H15 th2 (.tup ((S.rules.map fun own => (own.length : Int)).map V.int)) = H16 at *
      have hv16 := mono_sheet cT cS _ _ _ _ k1416.keep hv14
      have uI16 := k1416.keep.ins uI
      refine ⟨_, rfl, ua, udx, _, rfl, uI16, ⟨_, .base (.str _), by simp [PySem.W.notFirst, sub_str]⟩, .ref ua, _, _, rfl, hv16, ⟨_, rfl⟩, _, rfl, iteF ?_⟩
      refine ⟨_, rfl, ua, udx, _, rfl, uI16, ⟨_, .base (.str _), by simp [PySem.W.notFirst, sub_str]⟩, .ref ua, _, _, rfl, hv16, ⟨_, rfl⟩, _, rfl, iteF ?_⟩
      refine ⟨_, rfl, ua, cS, udx, _, _, rfl, uI16, clS, nS "p" (by simp), sfs_p, _, rfl, ua, cS, udx, _, _, rfl, uI16, clS, nS "tree" (by simp), sfs_tree, _, rfl, ua, cS, udx, _, _, rfl, uI16, clS, nS "holds" (by simp), sfs_holds, by show 3 ≤ sizeLine; decide, fun tq3 ntq3 => ?_⟩
      have s17 := same_new (o := .tup [V.int S.p, V.ref utr, V.ref uth]) ntq3
      have hq17 := upd_same (H := H16) (a := tq3) (o := .tup [V.int S.p, V.ref utr, V.ref uth])
      show tTup _ _ (upd H16 tq3 (.tup [V.int S.p, V.ref utr, V.ref uth])) _
      generalize upd H16 tq3 (.tup [V.int S.p, V.ref utr, V.ref uth]) = H17 at *
      have t17 := t16.trans s17
      refine ⟨_, rfl, _, rfl, a, _, rfl, (hP.same t17).gt, fun y2 dy2 ny2 ndy2 ney2 => ?_⟩
      have s18 := same_make (C := cT) ny2 ndy2 ney2
      refine ⟨y2, dy2, tv, S.ties, n, rfl, upd_same, (hP.same (t17.trans s18)).t, ok.tree.ok, fun H18 k18 hT18 => ⟨rfl, ?_⟩⟩
      have s1718 : Same H17 H18 := fun b o e => k18 b o (fun z => by subst z; rw [ny2] at e; cases e) (s18 _ _ e)
      have t18 := t17.trans s1718
      refine ⟨_, rfl, by show 3 ≤ sizeLine; decide, fun pd2 npd2 => ?_⟩
      have s19 := same_new (o := .tup [V.int S.p, V.ref y2, V.ref th2]) npd2
      have hpd2 := upd_same (H := H18) (a := pd2) (o := .tup [V.int S.p, V.ref y2, V.ref th2])
      have k1619 := (s17.trans s1718).trans s19
      have hq19 := (s1718.trans s19) _ _ hq17
      have hY19 := mono_tree cT _ _ _ _ s19.keep hT18
      have t19 := t18.trans s19
      generalize upd H18 pd2 (.tup [V.int S.p, V.ref y2, V.ref th2]) = H19 at *
      have k1419 := k1416.trans k1619
      have hT19 := mono_tree cT _ _ _ _ k1419.keep uT
      obtain ⟨_, dt, tt, xs, e, i1, i2, i3⟩ := id hT19
      cases e
      obtain ⟨_, dt', tt', xs', e, i1', i2', i3'⟩ := id hY19
      cases e
      have eh : (undOf (shOf S) n A).holds = S.rules.map fun own => (own.length : Int) := by
        show ((S.rules.map fun own => own.map fun r => r.1).map fun own => (own.length : Int)) = _
        rw [List.map_map]
        exact List.map_congr_left fun own _ => by show ((own.map _).length : Int) = _; rw [List.length_map]
      refine ⟨⟨tq3, pd2, _, _, rfl, rfl, .of hq19, .of hpd2, ?_⟩, fun H20 (s20 : Same H19 H20) => ⟨_, rfl, iteF ?_⟩⟩
      · exact .cons (.inl (dat_up (dat_int S.p) 4)) (.cons (.inr ⟨utr, y2, _, _, _, _, rfl, rfl, i1, i1', S.ties, hT19, hY19⟩) (.cons (.inl (dat_up (eqd_row K _ _ _ _ (mono_row _ _ _ _ k1419.keep uH) ⟨th2, rfl, by rw [eh]; exact k1619 _ _ hh16⟩) 3)) .nil))
      have k20 : Same H14 H20 := k1419.trans s20
      have t20 := t14.trans k20
      dsimp only [tNext, tSeq]
      show tIfS _ _ _ _ [some (V.ref a), some (V.ref th), some ru, some (V.int S.p), some (V.ref re), some (V.int (wd : Int)), some (V.ref D), some (V.ref sa), some (V.ref tz), none, some (V.ref tw), some (V.bl true), some (V.bl true), some (V.ref ua), some (V.ref th2), none, none, none, none, none, none, none, none] H20
      obtain ⟨_, xw, ew, htw, hxw⟩ := id uW
      cases ew
      have lxw := paired_len hxw
      have lbp : (byP S.unk n A).length = n := by unfold byP; simp
      have hxw20 := paired_mono (mono_tup mono_row) k20.keep hxw
      have htw20 := k20 _ _ htw
      refine ⟨_, rfl, ua, cS, udx, _, _, rfl, k20.keep.ins uI, clS, nS "wants" (by simp), sfs_wants, utw, rfl, ⟨_, .of htw20⟩, fun D6 hD6 => ?_⟩
      refine lc_fm (walk_tup (xs := xw)) rInt (fun i => (byP S.unk n A)[i]?.bind fun own => some (own.length : Int)) hD6 (fun H' s' => .of (s' _ _ htw20)) ?_ ?_
      · rintro i x H21 H22 hi pv ⟨rfl, hx⟩
        obtain ⟨own, hown, to, xo, rfl, hto, hpo⟩ := paired_get (paired_mono (mono_tup mono_row) pv.1.keep hxw20) hx
        have hlo := paired_len hpo
        refine ⟨rfl, _, rfl, to, xo, rfl, .inr (.of hto), ?_⟩
        exact fm_keep mono_int pv hD6 (by show i ≤ 100000; have : xw.length = n := lxw.trans lbp; omega) (Same.refl _) (by rw [show (byP S.unk n A)[i]? = some own from hown]; show some ((own.length : Nat) : Int) = some ((xo.length : Nat) : Int); rw [hlo]) rfl
      intro H21 ys2 s21 hD21 hp21
      rw [show xw.length = (byP S.unk n A).length from lxw, fm_some, byP_cnt ok.unk] at hp21
      have := paired_int hp21
      subst this
      refine ⟨D6, _, rfl, .inl ⟨.of hD21, fun t6 nt6 => ?_⟩⟩
      have s22 := same_new (o := .tup (S.unk.map V.int)) nt6
      have h22 := upd_same (H := H21) (a := t6) (o := .tup (S.unk.map V.int))
      have k22 := (k20.trans s21).trans s22
      have t22 := t14.trans k22
      generalize upd H21 t6 (.tup (S.unk.map V.int)) = H22 at *
      refine ⟨_, rfl, a, _, rfl, (hP.same t22).gu, enc_row.neD (by decide) ⟨t6, rfl, h22⟩ (hP.same t22).u ⟨_, rfl, ?_⟩⟩
      rw [decide_eq_true rfl]
      refine iteF ?_
      dsimp only [gName, tNext, tSeq]
      refine ⟨by show 0 ≤ sizeLine; decide, fun l0 nl0 => ?_⟩
      have s23 := same_new (o := .lst []) nl0
      have hl0 := upd_same (H := H22) (a := l0) (o := .lst [])
      have k23 := k22.trans s23
      have t23 := t14.trans k23
      dsimp only [gName, tSeq]
      show tFor _ _ _ _ [some (V.ref a), some (V.ref th), some ru, some (V.int S.p), some (V.ref re), some (V.int (wd : Int)), some (V.ref D), some (V.ref sa), some (V.ref tz), none, some (V.ref tw), some (V.bl true), some (V.bl true), some (V.ref ua), some (V.ref th2), some (V.ref l0), none, none, none, none, none, none, none] (upd H22 l0 (.lst []))
      generalize upd H22 l0 (.lst []) = H23 at *
      have hxw23 := paired_mono (mono_tup mono_row) k23.keep hxw
      have htw23 := k23 _ _ htw
      clear hxw20 htw20 hq17 hq19 hpd2 hh16 h22 hD21 hD15 hp15 hp21
      have hAl : (byP S.unk n A).flatMap (fun own => own) = A := byP_flat ok.unk hwd hA.len
      have h8 : ∀ own ∈ byP S.unk n A, own.length ≤ 8 := fun own ho => by
        obtain ⟨j, hj, rfl⟩ := List.mem_map.mp ho
        rw [List.length_map]
        exact (heldL_ln ok.unk (List.mem_range.mp hj)).2
      have hfl : ∀ i, (((byP S.unk n A).take i).flatMap fun own => own).length ≤ 60 := fun i => by
        have h1 : ((byP S.unk n A).flatMap fun own => own).length ≤ 60 := by rw [hAl, hA.len]; omega
        rw [← List.take_append_drop i (byP S.unk n A), List.flatMap_append, List.length_append] at h1
        omega
      refine ⟨_, rfl, ua, cS, udx, _, _, rfl, k23.keep.ins uI, clS, nS "wants" (by simp), sfs_wants, utw, rfl, ⟨_, .of htw23⟩, ?_⟩
      refine for_it (walk_tup (xs := xw)) (fun i σ H' => ∃ (x9 : Option V) (l : Addr) (us : List V), σ = [some (V.ref a), some (V.ref th), some ru, some (V.int S.p), some (V.ref re), some (V.int (wd : Int)), some (V.ref D), some (V.ref sa), some (V.ref tz), x9, some (V.ref tw), some (V.bl true), some (V.bl true), some (V.ref ua), some (V.ref th2), some (V.ref l), none, none, none, none, none, none, none] ∧ Same H23 H' ∧ H' l = some (.lst us) ∧ Paired (rRow H') us (((byP S.unk n A).take i).flatMap fun own => own))
        ⟨none, l0, [], rfl, .refl _, hl0, .nil⟩ (fun i σ H' _ h => by obtain ⟨_, _, _, _, s, _⟩ := h; exact .of (s _ _ htw23)) ?_ ?_
      · rintro i x σ H24 H25 hi ⟨x9, l, us, rfl, s24, hl, hpu⟩ ⟨rfl, hx⟩
        obtain ⟨own, hown, to, xo, rfl, hto, hpo⟩ := paired_get (paired_mono (mono_tup mono_row) s24.keep hxw23) hx
        have hown : (byP S.unk n A)[i]? = some own := hown
        have lxo := paired_len hpo
        have lus := paired_len hpu
        have hf := hfl i
        have h8o := h8 own (List.mem_of_getElem? hown)
        refine ⟨_, rfl, _, rfl, to, xo, rfl, .inr (.of hto), fun lz nlz => ?_⟩
        have s26 := same_new (o := .lst xo) nlz
        refine ⟨l, lz, us, xo, rfl, rfl, s26 _ _ hl, upd_same, Nat.le_trans (show us.length + xo.length ≤ 100 by omega) (by decide), fun lp nlp => ?_⟩
        have s27 := same_new (o := .lst (us ++ xo)) nlp
        refine ⟨_, lp, us ++ xo, rfl, s24.trans (s26.trans s27), upd_same, ?_⟩
        rw [List.take_succ, hown, List.flatMap_append]
        refine paired_app (paired_mono mono_row (s26.trans s27).keep hpu) ?_
        rw [show ((some own).toList.flatMap fun own => own) = own by simp]
        exact paired_mono mono_row (s26.trans s27).keep hpo
      rintro σ H24 ⟨x9, l, us, rfl, s24, hl, hpu⟩
      rw [show xw.length = (byP S.unk n A).length from lxw, List.take_length, hAl] at hpu
      have k24 := k23.trans s24
      have t24 := t14.trans k24
      have htt : ((wd : Nat) : Int).toNat = wd := Int.toNat_natCast wd
      have hBr : ∀ r ∈ rowsW (shOf S), isRow r S.p wd := fun r hr => by rw [← hwd]; exact rowsW_row (shOf_ok ok) r hr
      have hBl : (rowsW (shOf S)).length = wd := by
        unfold canU at hc
        have h2 : (rowsW (shOf S)).length = wd ∧ rk (shOf S).p wd (rowsW (shOf S)) = wd := by simpa using hc
        exact h2.1
      have lrs := paired_len hp
      have lus := paired_len hpu
      have hAr := inv_row hA hBl
      have hAlen := hA.len
      dsimp only [gName, tSeq]
      refine ⟨_, rfl, _, rfl, by omega, by omega, ?_⟩
      refine for_it (walk_range (lo := 0) (n := ((wd : Nat) : Int).toNat)) (fun i σ H' => ∃ x16 x17 : Option V, σ = [some (V.ref a), some (V.ref th), some ru, some (V.int S.p), some (V.ref re), some (V.int (wd : Int)), some (V.ref D), some (V.ref sa), some (V.ref tz), x9, some (V.ref tw), some (V.bl true), some (V.bl true), some (V.ref ua), some (V.ref th2), some (V.ref l), x16, x17, none, none, none, none, none] ∧ Same H24 H')
        ⟨none, none, rfl, .refl _⟩ (fun _ _ _ _ _ => trivial) ?_ ?_
      · rintro k x σ H26 H27 hk ⟨x16, x17, rfl, s26⟩ ⟨rfl, rfl⟩
        rw [htt] at hk
        have k27 := k24.trans s26
        dsimp only [gName, tSeq]
        refine ⟨_, rfl, _, rfl, by omega, by omega, fun D7 hD7 => ?_⟩
        refine lc_fm (walk_range (lo := 0) (n := ((wd : Nat) : Int).toNat)) rInt (fun i => some (if i = k then 1 else 0)) hD7 (fun _ _ => trivial) ?_ ?_
        · rintro j x H28 H29 hj pv ⟨rfl, rfl⟩
          refine ⟨rfl, _, rfl, _, rfl, rfl, .inr ⟨_, rfl, ?_⟩⟩
          refine fm_keep mono_int pv hD7 (by omega) (.refl _) rfl ?_
          have ed : decide (V.int (0 + (j : Int)) = V.int (0 + (k : Int))) = decide (j = k) := decide_eq_decide.mpr ⟨fun h => by have := V.int.inj h; omega, fun h => by rw [h]⟩
          show V.int (if decide (V.int (0 + (j : Int)) = V.int (0 + (k : Int))) = true then 1 else 0) = V.int (if j = k then 1 else 0)
          rw [ed]
          by_cases h : j = k
          · rw [if_pos h, if_pos (decide_eq_true h)]
          · rw [if_neg h, if_neg (by simpa using h)]
        intro H28 ys7 s28 hD28 hp28
        rw [fm_all, htt] at hp28
        have := paired_int hp28
        subst this
        dsimp only [gName, tSeq]
        have k28 := k27.trans s28
        have hD28' := k28 _ _ hD
        have hp28' := paired_mono mono_row k28.keep hp
        have hl28 := (s26.trans s28) _ _ hl
        have hpu28 := paired_mono mono_row (s26.trans s28).keep hpu
        refine ⟨_, rfl, _, rfl, by omega, by omega, fun D8 hD8 => ?_⟩
        refine lc_fm (walk_range (lo := 0) (n := ((wd : Nat) : Int).toNat)) rInt (fun i => some (if i = k then 1 else 0)) hD8 (fun _ _ => trivial) ?_ ?_
        · rintro j x H30 H31 hj pv ⟨rfl, rfl⟩
          rw [htt] at hj
          have hAk : A[k]? = some (A[k]'(by omega)) := List.getElem?_eq_getElem (by omega)
          obtain ⟨uk, huk, hrow⟩ := paired_get2 (paired_mono mono_row pv.1.keep hpu28) hAk
          have hArk := hAr _ (List.mem_of_getElem? hAk)
          have eA : A.getD k [] = A[k]'(by omega) := getD_at hAk
          refine ⟨rfl, _, rfl, _, rfl, _, rfl, l, us, _, _, rfl, rfl, .of (pv.1 _ _ hl28), by rw [Int.zero_add]; exact atI_nat huk, _, rfl, D, rfl, ⟨_, .of (pv.1 _ _ hD28')⟩, fun D9 hD9 => ?_⟩
          refine lc_fm (walk_list (xs := rs)) rInt (fun i => (rowsW (shOf S))[i]?.bind fun r => some (r.getD j 0)) hD9 (fun H' s' => .of (s' _ _ (pv.1 _ _ hD28'))) ?_ ?_
          · rintro i y H32 H33 hi pw ⟨rfl, hy⟩
            obtain ⟨r, hr2, t2, rfl, ht2⟩ := paired_get (paired_mono mono_row (pv.1.trans pw.1).keep hp28') hy
            have hrr := hBr r (List.mem_of_getElem? hr2)
            have hrl := isRow_len hrr
            have hrj : r[j]? = some (r[j]'(by omega)) := List.getElem?_eq_getElem (by omega)
            refine ⟨rfl, _, rfl, _, rfl, t2, _, _, _, rfl, rfl, .of ht2, by rw [Int.zero_add]; exact atI_nat (int_at hrj), ?_⟩
            exact fm_keep mono_int pw hD9 (by omega) (.refl _) (by rw [hr2]; rfl) (by show V.int _ = V.int _; rw [getD_at hrj])
          intro H32 zs s32 hD32 hp32
          rw [lrs, fm_some] at hp32
          have := paired_int hp32
          subst this
          refine ⟨uk, D9, S.p, A[k]'(by omega), (rowsW (shOf S)).map fun r => r.getD j 0, rfl, mono_row _ _ _ _ s32.keep hrow, hD32, p2, pm, by rw [isRow_len hArk, List.length_map]; omega, by rw [isRow_len hArk]; omega, hArk.2, fun x hx => ?_, fun H33 s33 => ?_⟩
          · obtain ⟨r, hr, rfl⟩ := List.mem_map.mp hx
            have hrr := hBr r hr
            have hrl := isRow_len hrr
            have hrj : r[j]? = some (r[j]'(by omega)) := List.getElem?_eq_getElem (by omega)
            rw [getD_at hrj]
            exact hrr.2 _ (List.mem_of_getElem? hrj)
          · refine fm_keep mono_int pv hD8 (by omega) (s32.trans s33) rfl ?_
            show V.int _ = V.int _
            rw [← eA, inv_dot p2 hA hBl hk hj]
        intro H30 ys8 s30 hD30 hp30
        rw [fm_all, htt] at hp30
        have := paired_int hp30
        subst this
        refine ⟨_, rfl, ?_⟩
        refine enc_li.neD (by decide) ⟨D8, rfl, hD30⟩ ⟨D7, rfl, s30 _ _ hD28⟩ ⟨_, rfl, ?_⟩
        rw [decide_eq_true rfl]
        refine iteF ?_
        exact ⟨_, _, rfl, (s26.trans s28).trans s30⟩
      rintro σ H26 ⟨x16, x17, rfl, s26⟩
      dsimp only [gName, tSeq]
      have k26 := k24.trans s26
      refine ⟨by show 0 ≤ sizeLine; decide, fun v0 nv0 => ?_⟩
      have s27 := same_new (o := .lst []) nv0
      have hv0 := upd_same (H := H26) (a := v0) (o := .lst [])
      have k27 := k26.trans s27
      generalize upd H26 v0 (.lst []) = H27 at *
      dsimp only [gName, tSeq]
      have hre27 := k27 _ _ hre
      have hev27 := paired_mono mono_ev k27.keep hev
      have lev := paired_len hev
      have hl8 := len_every ok.l8
      have evq : (everyL S.rules).map (fun e => e.2.2) = S.rules.flatMap fun own => own.map fun r => r.2 := every_rights S.rules
      have hlr : (S.rules.flatMap fun own => own.map fun r => r.2).length = wd := by
        rw [← evq, List.length_map]
        have h1 := every_rows S.rules
        have h2 := congrArg List.length h1
        rw [List.length_map] at h2
        rw [h2]
        exact hBl
      refine ⟨_, rfl, _, rfl, re, rfl, ⟨_, .of hre27⟩, fun D10 hD10 => ?_⟩
      refine lc_fm (walk_list (xs := es)) rInt (fun i => (everyL S.rules)[i]?.bind fun e => some e.2.2) hD10 (fun H' s' => .of (s' _ _ hre27)) ?_ ?_
      · rintro i x H28 H29 hi pv ⟨rfl, hx⟩
        obtain ⟨e, he, te, xe, rfl, hte, hrow⟩ := paired_get (paired_mono mono_ev pv.1.keep hev27) hx
        refine ⟨te, _, rfl, .of hte, rfl, _, _, rfl, _, _, rfl, _, _, rfl, rfl, rfl, _, rfl, ?_⟩
        exact fm_keep mono_int pv hD10 (by omega) (Same.refl _) (by rw [he]; rfl) rfl
      intro H28 ys10 s28 hD28 hp28
      rw [lev, fm_some, evq] at hp28
      have := paired_int hp28
      subst this
      refine ⟨D10, _, rfl, .inl ⟨.of hD28, fun tg ntg => ?_⟩⟩
      have s29 := same_new (o := .tup ((S.rules.flatMap fun own => own.map fun r => r.2).map V.int)) ntg
      have htg := upd_same (H := H28) (a := tg) (o := .tup ((S.rules.flatMap fun own => own.map fun r => r.2).map V.int))
      generalize upd H28 tg (.tup ((S.rules.flatMap fun own => own.map fun r => r.2).map V.int)) = H29 at *
      have k2729 := s28.trans s29
      have k29 := k27.trans k2729
      have okT := und_ok (shOf_ok ok) hwd hBl hA
      have hcs : (undOf (shOf S) n A).holds.sum = (wd : Int) := by
        show ((shOf S).wants.map fun own => (own.length : Int)).sum = _
        rw [sum_cnt, hBl]
      refine ⟨.ref ua, .ref tg, undOf (shOf S) n A, n, S.rules.flatMap fun own => own.map fun r => r.2, rfl, mono_sheet cT cS _ _ _ _ k29.keep hv14, okT, ⟨tg, rfl, htg⟩, ⟨by rw [hcs, hlr], fun v hv => ?_⟩, fun H30 v30 s30 hv30 => ?_⟩
      · obtain ⟨own, ho, hv⟩ := List.mem_flatMap.mp hv
        obtain ⟨r, hr, rfl⟩ := List.mem_map.mp hv
        obtain ⟨i, hi⟩ := List.getElem?_of_mem ho
        have := ok.ok i own hi r hr
        exact ⟨this.b0, this.b1⟩
      have ewant := wanted_hid ok hwd hBl hA hok
      have hv30 : rTup rRow H30 v30 (wantV S.p (byP S.unk n A) (S.rules.flatMap fun own => own.map fun r => r.2)) := hv30
      generalize hW : wantV S.p (byP S.unk n A) (S.rules.flatMap fun own => own.map fun r => r.2) = W at *
      obtain ⟨tw30, xw30, rfl, htw30, hxw30⟩ := hv30
      have k30 := k29.trans s30
      have lxw30 := paired_len hxw30
      have hidl : hid.length = wd := by have := hok.row.1; omega
      have hfl2 : ∀ i, ((W.take i).flatMap fun own => own).length ≤ 60 := fun i => by
        have h1 : (W.flatMap fun own => own).length ≤ 60 := by rw [ewant]; omega
        rw [← List.take_append_drop i W, List.flatMap_append, List.length_append] at h1
        omega
      have hW8 : ∀ own ∈ W, own.length ≤ 8 := fun own ho => by
        rw [← hW] at ho
        obtain ⟨o2, h2, rfl⟩ := List.mem_map.mp ho
        rw [List.length_map]
        exact h8 o2 h2
      refine ⟨tw30, rfl, ⟨_, .of htw30⟩, ?_⟩
      refine for_it (walk_tup (xs := xw30)) (fun i σ H' => ∃ (x9 : Option V) (l2 : Addr), σ = [some (V.ref a), some (V.ref th), some ru, some (V.int S.p), some (V.ref re), some (V.int (wd : Int)), some (V.ref D), some (V.ref sa), some (V.ref tz), x9, some (V.ref tw), some (V.bl true), some (V.bl true), some (V.ref ua), some (V.ref th2), some (V.ref l), x16, x17, some (V.ref l2), none, none, none, none] ∧ Same H30 H' ∧ H' l2 = some (.lst (((W.take i).flatMap fun own => own).map V.int)))
        ⟨x9, v0, rfl, .refl _, (k2729.trans s30) _ _ hv0⟩ (fun i σ H' _ h => by obtain ⟨_, _, _, s, _⟩ := h; exact .of (s _ _ htw30)) ?_ ?_
      · rintro i x σ H31 H32 hi ⟨y9, l2, rfl, s31, hl2⟩ ⟨rfl, hx⟩
        obtain ⟨own, hown, to, rfl, hto⟩ := paired_get (paired_mono mono_row s31.keep hxw30) hx
        have hf := hfl2 i
        have h8o := hW8 own (List.mem_of_getElem? hown)
        refine ⟨_, rfl, _, rfl, to, _, rfl, .inr (.of hto), fun lz nlz => ?_⟩
        have s33 := same_new (o := .lst (own.map V.int)) nlz
        refine ⟨l2, lz, _, _, rfl, rfl, s33 _ _ hl2, upd_same, by rw [List.length_map, List.length_map]; exact Nat.le_trans (show _ ≤ 100 by omega) (by decide), fun lp nlp => ?_⟩
        have s34 := same_new (o := .lst ((((W.take i).flatMap fun own => own).map V.int) ++ own.map V.int)) nlp
        refine ⟨_, lp, rfl, s31.trans (s33.trans s34), ?_⟩
        rw [upd_same, List.take_succ, hown, List.flatMap_append, List.map_append]
        simp
      rintro σ H31 ⟨y9, l2, rfl, s31, hl2⟩
      rw [lxw30, List.take_length, ewant] at hl2
      have k31 := k30.trans s31
      have hh31 := mono_row _ _ _ _ k31.keep hh14
      refine ⟨_, rfl, l2, _, rfl, .inl ⟨.of hl2, fun tv2 ntv2 => ?_⟩⟩
      have s32 := same_new (o := .tup (hid.map V.int)) ntv2
      have k32 := k31.trans s32
      refine ⟨_, rfl, enc_row.eqD (by decide) ⟨tv2, rfl, upd_same⟩ (mono_row _ _ _ _ s32.keep hh31) ⟨_, rfl, ?_⟩⟩
      rw [decide_eq_true rfl]
      refine iteT ?_
      refine ⟨_, rfl, .ref ua, undOf (shOf S) n A, n, rfl, mono_sheet cT cS _ _ _ _ k32.keep hv14, okT, fun H33 dd m s33 ndd hdd hper hlx nd => ?_⟩
      refine ⟨_, rfl, a, tv, .ref tu, .ref tr, S, n, rfl, hP.same (t14.trans (k32.trans s33)), ok, fun H34 d2 m2 s34 nd2 hd2 hper2 hlx2 => ?_⟩
      have em : m = m2 := lex_same (hper.trans hper2.symm) hlx hlx2
      subst em
      have eD : tollD (undOf (shOf S) n A) n m = lawD S n m := by
        unfold tollD lawD
        refine List.map_congr_left fun z hz => ?_
        rw [hT S n wd A z ok hwd hc hA (hper.mem_iff.mp hz)]
      rw [eD] at hdd
      refine ⟨dd, d2, _, rfl, rfl, s34 _ _ hdd, hd2, fun x hx => ?_, ?_⟩
      · unfold lawD at hx
        obtain ⟨z, _, rfl⟩ := List.mem_map.mp hx
        rfl
      · exact q _ (t14.trans ((k32.trans s33).trans s34))
end
end S4

namespace S4
open PySem L2 TT MM EE
/-! ### the law -/
section
variable {P : Program} {w : World} {K : PySem.W.Frag} {mg : Str → Option Value} {base : Heap} {cT cS : Addr}
def spLaw (K : PySem.W.Frag) : Sp := fun vs H Q _ => ∃ (a : Addr) (ns : List Int), vs = [.ref a] ∧ SqL K H a (ns.map V.int) ∧ ns.length ≤ 63 ∧ ∀ H', Q (.bl true) H'
theorem ok_lawG (T : Tx K mg cT cS) (GR : ∀ {f : Addr} {fd : FuncData}, D K mg "_law_right" s_law_right ["parts", "hidden"] f fd → FnOk P w K mg base CX0 11 f fd ["parts", "hidden"] (spLRight cT cS mg)) {f : Addr} {fd : FuncData} (d : D K mg "law" s_law ["script"] f fd) : FnOk P w K mg base CX0 12 f fd ["script"] (spLaw K) := by
  obtain ⟨f1, fd1, d1⟩ := T.d_law_hand
  have G1 := ok_hand (P := P) (w := w) (base := base) T d1
  obtain ⟨f2, fd2, d2⟩ := T.d_law_draw
  have G2 := ok_draw (P := P) (w := w) (base := base) T d2
  obtain ⟨f3, fd3, d3⟩ := T.d_law_chain
  have G3 := ok_lchain (P := P) (w := w) (base := base) T d3
  obtain ⟨f4, fd4, d4⟩ := T.d_law_paired
  have G4 := ok_lpaired (P := P) (w := w) (base := base) T d4
  obtain ⟨f5, fd5, d5⟩ := T.d_law_right
  have G5 := GR d5
  refine d.F.ok sc_law (fun vs H Q E h => ?_) (fun cdv A outer s H vs Q E hr h => ?_)
  · obtain ⟨a0, ns, rfl, _⟩ := h
    rfl
  · obtain ⟨a0, ns, rfl, hS, hl, q⟩ := h
    refine ⟨_, pss_cons (ps_set (i := 1) sc_law.nd rfl (.inl rfl) (pe_call G1 (hr.mono (by decide)) rfl d1.m d1.F.kp d1.b .nil pass0 (pa_cons (pv 0) pa_nil)))
      (pss_cons (ps_for PassesOwn.never rfl (pi_range1 rfl T.b_range (pa_cons pe_int pa_nil)) (pg_name (i := 2) sc_law.nd rfl (.inl rfl))
        (pss_cons (ps_asg (pe_ifExp (pt_cmpR op_eq (pe_call G2 (hr.mono (by decide)) rfl d2.m d2.F.kp d2.b .nil pass0 (pa_cons (pv 1) (pa_cons pe_int pa_nil))) pe_int (nomark _)) (pe_call G3 (hr.mono (by decide)) rfl d3.m d3.F.kp d3.b .nil pass0 (pa_cons (pv 1) pa_nil)) (pe_call G4 (hr.mono (by decide)) rfl d4.m d4.F.kp d4.b .nil pass0 (pa_cons (pv 1) pa_nil))) (pg_tup rfl (pgs_cons (pg_name (i := 3) sc_law.nd rfl (.inl rfl)) (pgs_cons (pg_name (i := 4) sc_law.nd rfl (.inl rfl)) pgs_nil))))
      (pss_one (ps_if (pt_not (pt_val (pe_call G5 (hr.mono (by decide)) rfl d5.m d5.F.kp d5.b .nil pass0 (pa_cons (pv 3) (pa_cons (pv 4) pa_nil))))) pss_never pss_nil))))
      (pss_one (ps_ret pe_bl))), ?_⟩
    refine ⟨_, rfl, a0, ns, rfl, hS, hl, fun H1 g c s1 ng hh1 => ?_⟩
    dsimp only [gName, tSeq]
    refine ⟨4, rfl, by decide, by decide, ?_⟩
    refine for_range (lo := 0) (n := 4) (fun i σ H' => Hand g c H' ∧ ∃ o2 o3 o4, σ = [some (.ref a0), some (.ref g), o2, o3, o4])
      ⟨hh1, none, none, none, rfl⟩ ?_ ?_
    · rintro i σ H2 hi ⟨hh2, o2, o3, o4, rfl⟩
      dsimp only [gName, tSeq]
      have step : ∀ H3 t a th tv uv rv S n hid, Hand g c H3 → H3 t = some (.tup [.ref a, .ref th]) → PDat H3 a S tv uv rv → RulesOk S n → rRow H3 (.ref th) hid → HidOk S hid → True := fun _ _ _ _ _ _ _ _ _ _ _ _ _ _ _ _ => trivial
      refine ⟨_, rfl, g, c, 3, rfl, by decide, by decide, hh2, fun H3 e b3 hh3 e0 e1 => ⟨rfl, _, rfl, ?_⟩⟩
      by_cases he : e = 0
      · refine iteT' (decide_eq_true (by rw [he])) ?_
        refine ⟨_, rfl, g, c, rfl, hh3, fun H4 t a th tv uv rv S n hid b4 hh4 ht hP ok hrow hok => ?_⟩
        refine ⟨t, _, rfl, .of ht, rfl, _, _, rfl, _, _, rfl, rfl, ?_⟩
        refine ⟨_, rfl, _, rfl, a, th, tv, uv, rv, S, n, hid, rfl, hP, ok, hrow, hok, toll_law, fun H5 s5 => ⟨_, rfl, iteF ?_⟩⟩
        exact ⟨hh4.same s5, _, _, _, rfl⟩
      · refine iteF' (decide_eq_false fun z => he (V.int.inj z)) ?_
        refine ⟨_, rfl, g, c, rfl, hh3, fun H4 t a th tv uv rv S n hid b4 hh4 ht hP ok hrow hok => ?_⟩
        refine ⟨t, _, rfl, .of ht, rfl, _, _, rfl, _, _, rfl, rfl, ?_⟩
        refine ⟨_, rfl, _, rfl, a, th, tv, uv, rv, S, n, hid, rfl, hP, ok, hrow, hok, toll_law, fun H5 s5 => ⟨_, rfl, iteF ?_⟩⟩
        exact ⟨hh4.same s5, _, _, _, rfl⟩
    · rintro σ H2 ⟨hh2, o2, o3, o4, rfl⟩
      exact q _
end
end S4

namespace S4
open PySem L2 TT EE
theorem dc_mk {K : PySem.W.Frag} {h : Heap} {mg : Str → Option Value} {x q : Str} {st : Stmt} {ps fl : List Str} {C f : Addr} {oc : Value} {od an : Option Addr} {osl : Array (Option Value)} {kV doc pm cdv ct : Value} (X : K.In h) (G : h.Ns mainGlobals mg)
    (hb : ∀ (kV doc pm : Value) (an : Option Addr) (cdv ct : Value) (us : List Value), us.length = ps.length → bindArgs (PySem.W.fnOf "__init__" q (defArgs st) (defBody st) (defScope st) .none kV doc pm an cdv ct) ⟨us, []⟩ = pure (ps.zip us))
    (aC : mg x = some (.ref C))
    (a : PySem.W.findIn K (.ref C) "__init__" = some (some (.ref f))) (i : PySem.W.isFn K (.ref f) = true)
    (l : K.lookup f = some ⟨oc, od, .func (PySem.W.fnOf "__init__" q (defArgs st) (defBody st) (defScope st) .none kV doc pm an cdv ct), osl⟩) (c : PySem.W.codeIn K cdv q = true) (k : PySem.W.keepIn K (.ref f) = true)
    (mk : PySem.W.makesIn K C = true) (kc : PySem.W.keepIn K (.ref C) = true)
    (pg : PySem.W.plainGet K C Str.empty = true) (hd : PySem.W.hasDictIn K C = true) (po : PySem.W.plainOver K C = true) (sa : PySem.W.findIn K (.ref C) "__setattr__" = some (some (.builtin "object.__setattr__")))
    (na : ∀ y ∈ fl, NoAttr K C y) : ∃ f fd, DC K mg x q st ps fl C f fd :=
  ⟨f, _, fun_mk l c k, (fun_mk l c k).binds hb, aC, ⟨mk, a, i, kc⟩, ⟨pg, hd, po, sa⟩, na⟩
theorem dm_mk {K : PySem.W.Frag} {m q : Str} {st : Stmt} {ps : List Str} {C f : Addr} {oc : Value} {od an : Option Addr} {osl : Array (Option Value)} {kV doc pm cdv ct : Value}
    (hb : ∀ (kV doc pm : Value) (an : Option Addr) (cdv ct : Value) (us : List Value), us.length = ps.length → bindArgs (PySem.W.fnOf m q (defArgs st) (defBody st) (defScope st) .none kV doc pm an cdv ct) ⟨us, []⟩ = pure (ps.zip us))
    (a : PySem.W.findIn K (.ref C) m = some (some (.ref f))) (i : PySem.W.isFn K (.ref f) = true)
    (l : K.lookup f = some ⟨oc, od, .func (PySem.W.fnOf m q (defArgs st) (defBody st) (defScope st) .none kV doc pm an cdv ct), osl⟩) (c : PySem.W.codeIn K cdv q = true) (k : PySem.W.keepIn K (.ref f) = true) : ∃ f fd, DM K m q st ps C f fd :=
  ⟨f, _, fun_mk l c k, (fun_mk l c k).binds hb, a, i⟩
theorem ei_mk {K : PySem.W.Frag} {q : Str} {st : Stmt} {ps fl : List Str} {C f : Addr} {oc : Value} {od an : Option Addr} {osl : Array (Option Value)} {kV doc pm cdv ct : Value}
    {nm qn : Str} {N : Addr} {bs bm : List Value} {sn : List Str} {sub : List Value} {ab : Bool} {col : Option Bool} {dd : Option Addr} {m0 m1 m2 m3 m5 : Option Value}
    (hb : ∀ (kV doc pm : Value) (an : Option Addr) (cdv ct : Value) (us : List Value), us.length = ps.length → bindArgs (PySem.W.fnOf "__init__" q (defArgs st) (defBody st) (defScope st) .none kV doc pm an cdv ct) ⟨us, []⟩ = pure (ps.zip us))
    (xL : K.lookup C = some (PySem.excClassObj nm qn C N bs bm true sn sub ab col dd m0 m1 m2 m3 m5 "ValueError.__new__")) (rv : PySem.HandSPX.refsVE bm = true)
    (sa : PySem.W.findIn K (.ref C) "__setattr__" = some (some (.builtin "object.__setattr__"))) (eC : PySem.W.subIn K (.ref C) (.type "BaseException") = some true) (tC : PySem.W.typeIn K (.ref C) = some (.type "type")) (kC : PySem.W.keepIn K (.ref C) = true)
    (a : PySem.W.findIn K (.ref C) "__init__" = some (some (.ref f))) (t1 : PySem.W.typeIn K (.ref f) = some (.type "function"))
    (l : K.lookup f = some ⟨oc, od, .func (PySem.W.fnOf "__init__" q (defArgs st) (defBody st) (defScope st) .none kV doc pm an cdv ct), osl⟩) (c : PySem.W.codeIn K cdv q = true) (k : PySem.W.keepIn K (.ref f) = true)
    (no : ∀ y ∈ fl, PySem.W.findIn K (.ref C) y = some none) : ∃ f fd, EI K q st ps fl C f fd :=
  ⟨f, _, fun_mk l c k, (fun_mk l c k).binds hb, ⟨⟨nm, qn, N, bs, bm, sn, sub, ab, col, dd, m0, m1, m2, m3, m5, xL, rv⟩, sa, eC, tC, kC⟩, a, t1, no⟩
theorem cls_of {K : PySem.W.Frag} {h : Heap} {mg : Str → Option Value} {x : Str} {C : Addr} (X : K.In h) (G : h.Ns mainGlobals mg) (a : PySem.W.nsIn K mainGlobals x = some (some (.ref C))) : mg x = some (.ref C) := PySem.W.mg_of X G a
theorem kit_ve {K : PySem.W.Frag} {C : Addr} (h : PySem.W.subIn K (.ref C) (.type "ValueError") = some true) : PySem.W.kitOne K (.ref C) (.type "ValueError") = some true := by
  unfold PySem.W.kitOne
  rw [if_neg (by simp)]
  show (if PySem.W.kitMeta "ValueError" = true then PySem.W.subIn K (.ref C) (.type "ValueError") else none) = some true
  rw [if_pos (by decide +kernel)]
  exact h
theorem kit_self (K : PySem.W.Frag) (C : Addr) : PySem.W.kitOne K (.ref C) (.ref C) = some true := if_pos (beq_self_eq_true _)
theorem use {a b : Prop} (h : a) (f : a → b) : b := f h
theorem int_mk {mg : Str → Option Value} {x : Str} {v : Value} {n : Int} (h : mg x = some v) (e : ∃ t, v = .int n t) : ∃ t, mg x = some (.int n t) := by
  obtain ⟨t, rfl⟩ := e
  exact ⟨t, h⟩
theorem all_mk {l : PySem.W.OpenLaw} {w : World} {K : PySem.W.Frag} {mg : Str → Option Value} {fa : Addr} {cT cS : Addr} (hfa : mg "law" = some (.ref fa)) (T : Tx K mg cT cS) :
    ∃ fd : FuncData, (∀ (s : Shared) (v : Value), BindsTo s fd ⟨[v], []⟩ [("script", v)]) ∧ ∀ base : Heap, K.In base → base.Ns mainGlobals mg → FnOk l.prog w K mg base CX0 12 fa fd ["script"] (spLaw K) := by
  obtain ⟨f, fd, d⟩ := T.d_law
  have e := hfa.symm.trans d.m
  cases e
  refine ⟨fd, ?_, fun base _ _ => ok_lawG T (fun d => ok_lright T d) d⟩
  obtain ⟨oc, od, kV, doc, pm, an, cdv, ct, osl, rfl, lk, hcd⟩ := d.F.ex
  exact fun s v => .of_eq rfl
theorem walk {l : PySem.W.OpenLaw} {q : Program} {loose : List Str} {XP : (Str → Option Value) → Heap → Prop} {YP : World → Heap → Prop} {d : DefRec} {K : Params → PySem.W.Frag} (hn : l.most = some 63) (hdf : d.params.defaults = [])
    (hY : ∀ (w : World) (h : Heap), YP w h → (K w.params).In h)
    (F : ∀ (w : World) (mg : Str → Option Value) (fa : Addr) (h : Heap), (K w.params).In h → h.Ns mainGlobals mg → mg d.name = some (.ref fa) →
      ∃ fd : FuncData, (∀ (s : Shared) (u : Value), BindsTo s fd ⟨[u], []⟩ [("script", u)]) ∧ ∀ base : Heap, (K w.params).In base → base.Ns mainGlobals mg → FnOk l.prog w (K w.params) mg base CX0 12 fa fd ["script"] (spLaw (K w.params))) :
    PySem.W.WalkO q loose XP YP l.row.toRowW d [] (fun f vs => PySem.call f vs) :=
  L2.walk_of (n := 63) (k := 12) (x := "script") (CX := fun _ => CX0) (sp := fun w => spLaw (K w.params)) hn (by decide) hdf ⟨rfl, by decide, by decide⟩ hY F (fun _ _ a ns hl _ hS => ⟨a, ns, rfl, hS, hl, fun _ => rfl⟩) fun _ _ _ _ _ z => z
end S4

open PySem PySem.W PyProof.Rows in
set_option maxRecDepth 100000 in
set_option maxHeartbeats 0 in
theorem PySem.Challenge.cw_sametolls_k21_whole_rules_worked_out_holds : PySem.Challenge.rw_sametolls_k21_whole_rules_worked_out.Holds := by
  w_on; o_law; k_head; (case hw => w_witness2)
  k_fill
  refine S4.walk (l := PySem.Challenge.rw_sametolls_k21_whole_rules_worked_out) rfl rfl (fun w h Y => PySem.W.kIn_of Y) ?F
  case F =>
    intro w mg fa h KX G hmg
    refine' S4.use (S4.cls_of (x := "Rules") KX G ?a) (fun m_Rules => ?_)
    (case a => k_is)
    refine' S4.use (S4.cls_of (x := "TollError") KX G ?a) (fun m_TollError => ?_)
    (case a => k_is)
    refine' S4.use (S4.cls_of (x := "NoClock") KX G ?a) (fun m_NoClock => ?_)
    (case a => k_is)
    refine' S4.use (S4.cls_of (x := "NoNumber") KX G ?a) (fun m_NoNumber => ?_)
    (case a => k_is)
    refine' S4.use (S4.cls_of (x := "NoPost") KX G ?a) (fun m_NoPost => ?_)
    (case a => k_is)
    refine' S4.use (S4.cls_of (x := "NoWay") KX G ?a) (fun m_NoWay => ?_)
    (case a => k_is)
    refine' S4.use (S4.cls_of (x := "NoGiven") KX G ?a) (fun m_NoGiven => ?_)
    (case a => k_is)
    refine' S4.use (S4.cls_of (x := "NotUndoable") KX G ?a) (fun m_NotUndoable => ?_)
    (case a => k_is)
    refine' S4.use (S4.cls_of (x := "NotSure") KX G ?a) (fun m_NotSure => ?_)
    (case a => k_is)
    refine' S4.use (S4.cls_of (x := "NoRows") KX G ?a) (fun m_NoRows => ?_)
    (case a => k_is)
    refine' S4.use (S4.cls_of (x := "BadTree") KX G ?a) (fun m_BadTree => ?_)
    (case a => k_is)
    refine' S4.use (S4.cls_of (x := "BadSheet") KX G ?a) (fun m_BadSheet => ?_)
    (case a => k_is)
    refine' S4.use (S4.cls_of (x := "BadRules") KX G ?a) (fun m_BadRules => ?_)
    (case a => k_is)
    have b_abs : mg "abs" = none := PySem.W.mg_none_of KX G (by k_is)
    have b_all : mg "all" = none := PySem.W.mg_none_of KX G (by k_is)
    have b_bool : mg "bool" = none := PySem.W.mg_none_of KX G (by k_is)
    have b_enumerate : mg "enumerate" = none := PySem.W.mg_none_of KX G (by k_is)
    have b_int : mg "int" = none := PySem.W.mg_none_of KX G (by k_is)
    have b_isinstance : mg "isinstance" = none := PySem.W.mg_none_of KX G (by k_is)
    have b_len : mg "len" = none := PySem.W.mg_none_of KX G (by k_is)
    have b_list : mg "list" = none := PySem.W.mg_none_of KX G (by k_is)
    have b_max : mg "max" = none := PySem.W.mg_none_of KX G (by k_is)
    have b_min : mg "min" = none := PySem.W.mg_none_of KX G (by k_is)
    have b_range : mg "range" = none := PySem.W.mg_none_of KX G (by k_is)
    have b_sorted : mg "sorted" = none := PySem.W.mg_none_of KX G (by k_is)
    have b_sum : mg "sum" = none := PySem.W.mg_none_of KX G (by k_is)
    have b_tuple : mg "tuple" = none := PySem.W.mg_none_of KX G (by k_is)
    have b_zip : mg "zip" = none := PySem.W.mg_none_of KX G (by k_is)
    have c_MOST_HOURS : ∃ t, mg "MOST_HOURS" = some (.int 1000000 t) := by
      refine' S4.int_mk (PySem.W.mg_of KX G ?a) ?e
      (case a => k_is)
      (case e => exact ⟨_, rfl⟩)
    have c_MOST_WIDE : ∃ t, mg "MOST_WIDE" = some (.int 200 t) := by
      refine' S4.int_mk (PySem.W.mg_of KX G ?a) ?e
      (case a => k_is)
      (case e => exact ⟨_, rfl⟩)
    have c_MOST_ROWS : ∃ t, mg "MOST_ROWS" = some (.int 200 t) := by
      refine' S4.int_mk (PySem.W.mg_of KX G ?a) ?e
      (case a => k_is)
      (case e => exact ⟨_, rfl⟩)
    have c_MOST_TIES : ∃ t, mg "MOST_TIES" = some (.int 23 t) := by
      refine' S4.int_mk (PySem.W.mg_of KX G ?a) ?e
      (case a => k_is)
      (case e => exact ⟨_, rfl⟩)
    have c_MOST_AT_POST : ∃ t, mg "MOST_AT_POST" = some (.int 8 t) := by
      refine' S4.int_mk (PySem.W.mg_of KX G ?a) ?e
      (case a => k_is)
      (case e => exact ⟨_, rfl⟩)
    have c_MOST_IN_ALL : ∃ t, mg "MOST_IN_ALL" = some (.int 60 t) := by
      refine' S4.int_mk (PySem.W.mg_of KX G ?a) ?e
      (case a => k_is)
      (case e => exact ⟨_, rfl⟩)
    refine' S4.use (S4.DE.mk (x := "is_integer") (st := S4.s_is_integer) (ps := ["thing"]) KX G (fun _ _ _ _ _ _ us hl => match us, hl with | [_], _ => rfl) ?a ?l ?c ?k) (fun d_is_integer => ?_)
    (case a => k_is)
    (case l => k_is)
    (case c => k_is)
    (case k => k_is)
    refine' S4.use (S4.DE.mk (x := "is_below") (st := S4.s_is_below) (ps := ["thing", "end"]) KX G (fun _ _ _ _ _ _ us hl => match us, hl with | [_, _], _ => rfl) ?a ?l ?c ?k) (fun d_is_below => ?_)
    (case a => k_is)
    (case l => k_is)
    (case c => k_is)
    (case k => k_is)
    refine' S4.use (S4.DE.mk (x := "is_pair") (st := S4.s_is_pair) (ps := ["thing"]) KX G (fun _ _ _ _ _ _ us hl => match us, hl with | [_], _ => rfl) ?a ?l ?c ?k) (fun d_is_pair => ?_)
    (case a => k_is)
    (case l => k_is)
    (case c => k_is)
    (case k => k_is)
    refine' S4.use (S4.DE.mk (x := "is_row") (st := S4.s_is_row) (ps := ["thing", "p", "wide"]) KX G (fun _ _ _ _ _ _ us hl => match us, hl with | [_, _, _], _ => rfl) ?a ?l ?c ?k) (fun d_is_row => ?_)
    (case a => k_is)
    (case l => k_is)
    (case c => k_is)
    (case k => k_is)
    refine' S4.use (S4.DE.mk (x := "is_clock") (st := S4.s_is_clock) (ps := ["thing"]) KX G (fun _ _ _ _ _ _ us hl => match us, hl with | [_], _ => rfl) ?a ?l ?c ?k) (fun d_is_clock => ?_)
    (case a => k_is)
    (case l => k_is)
    (case c => k_is)
    (case k => k_is)
    refine' S4.use (S4.DE.mk (x := "rank") (st := S4.s_rank) (ps := ["p", "wide", "rows"]) KX G (fun _ _ _ _ _ _ us hl => match us, hl with | [_, _, _], _ => rfl) ?a ?l ?c ?k) (fun d_rank => ?_)
    (case a => k_is)
    (case l => k_is)
    (case c => k_is)
    (case k => k_is)
    refine' S4.use (S4.DE.mk (x := "check_clock") (st := S4.s_check_clock) (ps := ["p"]) KX G (fun _ _ _ _ _ _ us hl => match us, hl with | [_], _ => rfl) ?a ?l ?c ?k) (fun d_check_clock => ?_)
    (case a => k_is)
    (case l => k_is)
    (case c => k_is)
    (case k => k_is)
    refine' S4.use (S4.DE.mk (x := "check_rows") (st := S4.s_check_rows) (ps := ["p", "wide", "rows"]) KX G (fun _ _ _ _ _ _ us hl => match us, hl with | [_, _, _], _ => rfl) ?a ?l ?c ?k) (fun d_check_rows => ?_)
    (case a => k_is)
    (case l => k_is)
    (case c => k_is)
    (case k => k_is)
    refine' S4.use (S4.DE.mk (x := "check_each") (st := S4.s_check_each) (ps := ["p", "wide", "rows"]) KX G (fun _ _ _ _ _ _ us hl => match us, hl with | [_, _, _], _ => rfl) ?a ?l ?c ?k) (fun d_check_each => ?_)
    (case a => k_is)
    (case l => k_is)
    (case c => k_is)
    (case k => k_is)
    refine' S4.use (S4.DE.mk (x := "rank_of") (st := S4.s_rank_of) (ps := ["p", "wide", "rows"]) KX G (fun _ _ _ _ _ _ us hl => match us, hl with | [_, _, _], _ => rfl) ?a ?l ?c ?k) (fun d_rank_of => ?_)
    (case a => k_is)
    (case l => k_is)
    (case c => k_is)
    (case k => k_is)
    refine' S4.use (S4.DE.mk (x := "widened") (st := S4.s_widened) (ps := ["p", "wide", "rungs", "rows"]) KX G (fun _ _ _ _ _ _ us hl => match us, hl with | [_, _, _, _], _ => rfl) ?a ?l ?c ?k) (fun d_widened => ?_)
    (case a => k_is)
    (case l => k_is)
    (case c => k_is)
    (case k => k_is)
    refine' S4.use (S4.DE.mk (x := "rungs_of") (st := S4.s_rungs_of) (ps := ["p", "wide", "rows"]) KX G (fun _ _ _ _ _ _ us hl => match us, hl with | [_, _, _], _ => rfl) ?a ?l ?c ?k) (fun d_rungs_of => ?_)
    (case a => k_is)
    (case l => k_is)
    (case c => k_is)
    (case k => k_is)
    refine' S4.use (S4.DE.mk (x := "mixtures") (st := S4.s_mixtures) (ps := ["p", "wide", "rows", "made"]) KX G (fun _ _ _ _ _ _ us hl => match us, hl with | [_, _, _, _], _ => rfl) ?a ?l ?c ?k) (fun d_mixtures => ?_)
    (case a => k_is)
    (case l => k_is)
    (case c => k_is)
    (case k => k_is)
    refine' S4.use (S4.DE.mk (x := "mixed") (st := S4.s_mixed) (ps := ["p", "wide", "factors", "rows"]) KX G (fun _ _ _ _ _ _ us hl => match us, hl with | [_, _, _, _], _ => rfl) ?a ?l ?c ?k) (fun d_mixed => ?_)
    (case a => k_is)
    (case l => k_is)
    (case c => k_is)
    (case k => k_is)
    refine' S4.use (S4.DE.mk (x := "cleared") (st := S4.s_cleared) (ps := ["p", "rungs", "row"]) KX G (fun _ _ _ _ _ _ us hl => match us, hl with | [_, _, _], _ => rfl) ?a ?l ?c ?k) (fun d_cleared => ?_)
    (case a => k_is)
    (case l => k_is)
    (case c => k_is)
    (case k => k_is)
    refine' S4.use (S4.DE.mk (x := "multiplied") (st := S4.s_multiplied) (ps := ["p", "factor", "row"]) KX G (fun _ _ _ _ _ _ us hl => match us, hl with | [_, _, _], _ => rfl) ?a ?l ?c ?k) (fun d_multiplied => ?_)
    (case a => k_is)
    (case l => k_is)
    (case c => k_is)
    (case k => k_is)
    refine' S4.use (S4.DE.mk (x := "inverse") (st := S4.s_inverse) (ps := ["p", "value"]) KX G (fun _ _ _ _ _ _ us hl => match us, hl with | [_, _], _ => rfl) ?a ?l ?c ?k) (fun d_inverse => ?_)
    (case a => k_is)
    (case l => k_is)
    (case c => k_is)
    (case k => k_is)
    refine' S4.use (S4.DE.mk (x := "first_place") (st := S4.s_first_place) (ps := ["row", "wide"]) KX G (fun _ _ _ _ _ _ us hl => match us, hl with | [_, _], _ => rfl) ?a ?l ?c ?k) (fun d_first_place => ?_)
    (case a => k_is)
    (case l => k_is)
    (case c => k_is)
    (case k => k_is)
    refine' S4.use (S4.DE.mk (x := "unit_rows") (st := S4.s_unit_rows) (ps := ["wide"]) KX G (fun _ _ _ _ _ _ us hl => match us, hl with | [_], _ => rfl) ?a ?l ?c ?k) (fun d_unit_rows => ?_)
    (case a => k_is)
    (case l => k_is)
    (case c => k_is)
    (case k => k_is)
    refine' S4.use (S4.DE.mk (x := "check_ties") (st := S4.s_check_ties) (ps := ["ties"]) KX G (fun _ _ _ _ _ _ us hl => match us, hl with | [_], _ => rfl) ?a ?l ?c ?k) (fun d_check_ties => ?_)
    (case a => k_is)
    (case l => k_is)
    (case c => k_is)
    (case k => k_is)
    refine' S4.use (S4.DE.mk (x := "is_tie") (st := S4.s_is_tie) (ps := ["thing", "posts"]) KX G (fun _ _ _ _ _ _ us hl => match us, hl with | [_, _], _ => rfl) ?a ?l ?c ?k) (fun d_is_tie => ?_)
    (case a => k_is)
    (case l => k_is)
    (case c => k_is)
    (case k => k_is)
    refine' S4.use (S4.DE.mk (x := "tied") (st := S4.s_tied) (ps := ["tree", "post"]) KX G (fun _ _ _ _ _ _ us hl => match us, hl with | [_, _], _ => rfl) ?a ?l ?c ?k) (fun d_tied => ?_)
    (case a => k_is)
    (case l => k_is)
    (case c => k_is)
    (case k => k_is)
    refine' S4.use (S4.DE.mk (x := "ways") (st := S4.s_ways) (ps := ["tree"]) KX G (fun _ _ _ _ _ _ us hl => match us, hl with | [_], _ => rfl) ?a ?l ?c ?k) (fun d_ways => ?_)
    (case a => k_is)
    (case l => k_is)
    (case c => k_is)
    (case k => k_is)
    refine' S4.use (S4.DE.mk (x := "beyond") (st := S4.s_beyond) (ps := ["tree", "way"]) KX G (fun _ _ _ _ _ _ us hl => match us, hl with | [_, _], _ => rfl) ?a ?l ?c ?k) (fun d_beyond => ?_)
    (case a => k_is)
    (case l => k_is)
    (case c => k_is)
    (case k => k_is)
    refine' S4.use (S4.DE.mk (x := "this_side") (st := S4.s_this_side) (ps := ["tree", "way"]) KX G (fun _ _ _ _ _ _ us hl => match us, hl with | [_, _], _ => rfl) ?a ?l ?c ?k) (fun d_this_side => ?_)
    (case a => k_is)
    (case l => k_is)
    (case c => k_is)
    (case k => k_is)
    refine' S4.use (S4.DE.mk (x := "neighbours") (st := S4.s_neighbours) (ps := ["ties", "post"]) KX G (fun _ _ _ _ _ _ us hl => match us, hl with | [_, _], _ => rfl) ?a ?l ?c ?k) (fun d_neighbours => ?_)
    (case a => k_is)
    (case l => k_is)
    (case c => k_is)
    (case k => k_is)
    refine' S4.use (S4.DE.mk (x := "reached") (st := S4.s_reached) (ps := ["ties", "start", "barred"]) KX G (fun _ _ _ _ _ _ us hl => match us, hl with | [_, _, _], _ => rfl) ?a ?l ?c ?k) (fun d_reached => ?_)
    (case a => k_is)
    (case l => k_is)
    (case c => k_is)
    (case k => k_is)
    refine' S4.use (S4.DE.mk (x := "is_way") (st := S4.s_is_way) (ps := ["tree", "thing"]) KX G (fun _ _ _ _ _ _ us hl => match us, hl with | [_, _], _ => rfl) ?a ?l ?c ?k) (fun d_is_way => ?_)
    (case a => k_is)
    (case l => k_is)
    (case c => k_is)
    (case k => k_is)
    refine' S4.use (S4.DE.mk (x := "are_counts") (st := S4.s_are_counts) (ps := ["tree", "thing"]) KX G (fun _ _ _ _ _ _ us hl => match us, hl with | [_, _], _ => rfl) ?a ?l ?c ?k) (fun d_are_counts => ?_)
    (case a => k_is)
    (case l => k_is)
    (case c => k_is)
    (case k => k_is)
    refine' S4.use (S4.DE.mk (x := "check_wants") (st := S4.s_check_wants) (ps := ["p", "tree", "numbers", "wants"]) KX G (fun _ _ _ _ _ _ us hl => match us, hl with | [_, _, _, _], _ => rfl) ?a ?l ?c ?k) (fun d_check_wants => ?_)
    (case a => k_is)
    (case l => k_is)
    (case c => k_is)
    (case k => k_is)
    refine' S4.use (S4.DE.mk (x := "held") (st := S4.s_held) (ps := ["sheet", "post"]) KX G (fun _ _ _ _ _ _ us hl => match us, hl with | [_, _], _ => rfl) ?a ?l ?c ?k) (fun d_held => ?_)
    (case a => k_is)
    (case l => k_is)
    (case c => k_is)
    (case k => k_is)
    refine' S4.use (S4.DE.mk (x := "own_places") (st := S4.s_own_places) (ps := ["counts", "post"]) KX G (fun _ _ _ _ _ _ us hl => match us, hl with | [_, _], _ => rfl) ?a ?l ?c ?k) (fun d_own_places => ?_)
    (case a => k_is)
    (case l => k_is)
    (case c => k_is)
    (case k => k_is)
    refine' S4.use (S4.DE.mk (x := "by_posts") (st := S4.s_by_posts) (ps := ["counts", "things"]) KX G (fun _ _ _ _ _ _ us hl => match us, hl with | [_, _], _ => rfl) ?a ?l ?c ?k) (fun d_by_posts => ?_)
    (case a => k_is)
    (case l => k_is)
    (case c => k_is)
    (case k => k_is)
    refine' S4.use (S4.DE.mk (x := "all_wants") (st := S4.s_all_wants) (ps := ["sheet"]) KX G (fun _ _ _ _ _ _ us hl => match us, hl with | [_], _ => rfl) ?a ?l ?c ?k) (fun d_all_wants => ?_)
    (case a => k_is)
    (case l => k_is)
    (case c => k_is)
    (case k => k_is)
    refine' S4.use (S4.DE.mk (x := "want_counts") (st := S4.s_want_counts) (ps := ["sheet"]) KX G (fun _ _ _ _ _ _ us hl => match us, hl with | [_], _ => rfl) ?a ?l ?c ?k) (fun d_want_counts => ?_)
    (case a => k_is)
    (case l => k_is)
    (case c => k_is)
    (case k => k_is)
    refine' S4.use (S4.DE.mk (x := "block") (st := S4.s_block) (ps := ["sheet", "way"]) KX G (fun _ _ _ _ _ _ us hl => match us, hl with | [_, _], _ => rfl) ?a ?l ?c ?k) (fun d_block => ?_)
    (case a => k_is)
    (case l => k_is)
    (case c => k_is)
    (case k => k_is)
    refine' S4.use (S4.DE.mk (x := "near_numbers") (st := S4.s_near_numbers) (ps := ["sheet", "way"]) KX G (fun _ _ _ _ _ _ us hl => match us, hl with | [_, _], _ => rfl) ?a ?l ?c ?k) (fun d_near_numbers => ?_)
    (case a => k_is)
    (case l => k_is)
    (case c => k_is)
    (case k => k_is)
    refine' S4.use (S4.DE.mk (x := "far_wants") (st := S4.s_far_wants) (ps := ["sheet", "way"]) KX G (fun _ _ _ _ _ _ us hl => match us, hl with | [_, _], _ => rfl) ?a ?l ?c ?k) (fun d_far_wants => ?_)
    (case a => k_is)
    (case l => k_is)
    (case c => k_is)
    (case k => k_is)
    refine' S4.use (S4.DE.mk (x := "cut") (st := S4.s_cut) (ps := ["row", "lot"]) KX G (fun _ _ _ _ _ _ us hl => match us, hl with | [_, _], _ => rfl) ?a ?l ?c ?k) (fun d_cut => ?_)
    (case a => k_is)
    (case l => k_is)
    (case c => k_is)
    (case k => k_is)
    refine' S4.use (S4.DE.mk (x := "narrowed") (st := S4.s_narrowed) (ps := ["rows", "lot"]) KX G (fun _ _ _ _ _ _ us hl => match us, hl with | [_, _], _ => rfl) ?a ?l ?c ?k) (fun d_narrowed => ?_)
    (case a => k_is)
    (case l => k_is)
    (case c => k_is)
    (case k => k_is)
    refine' S4.use (S4.DE.mk (x := "check_rules") (st := S4.s_check_rules) (ps := ["p", "tree", "unknowns", "rules"]) KX G (fun _ _ _ _ _ _ us hl => match us, hl with | [_, _, _, _], _ => rfl) ?a ?l ?c ?k) (fun d_check_rules => ?_)
    (case a => k_is)
    (case l => k_is)
    (case c => k_is)
    (case k => k_is)
    refine' S4.use (S4.DE.mk (x := "near_unknowns") (st := S4.s_near_unknowns) (ps := ["tree", "unknowns", "post"]) KX G (fun _ _ _ _ _ _ us hl => match us, hl with | [_, _, _], _ => rfl) ?a ?l ?c ?k) (fun d_near_unknowns => ?_)
    (case a => k_is)
    (case l => k_is)
    (case c => k_is)
    (case k => k_is)
    refine' S4.use (S4.DE.mk (x := "is_rule") (st := S4.s_is_rule) (ps := ["p", "wide", "near", "thing"]) KX G (fun _ _ _ _ _ _ us hl => match us, hl with | [_, _, _, _], _ => rfl) ?a ?l ?c ?k) (fun d_is_rule => ?_)
    (case a => k_is)
    (case l => k_is)
    (case c => k_is)
    (case k => k_is)
    refine' S4.use (S4.DE.mk (x := "rule_sheet") (st := S4.s_rule_sheet) (ps := ["rules"]) KX G (fun _ _ _ _ _ _ us hl => match us, hl with | [_], _ => rfl) ?a ?l ?c ?k) (fun d_rule_sheet => ?_)
    (case a => k_is)
    (case l => k_is)
    (case c => k_is)
    (case k => k_is)
    refine' S4.use (S4.DE.mk (x := "can_be_undone") (st := S4.s_can_be_undone) (ps := ["sheet"]) KX G (fun _ _ _ _ _ _ us hl => match us, hl with | [_], _ => rfl) ?a ?l ?c ?k) (fun d_can_be_undone => ?_)
    (case a => k_is)
    (case l => k_is)
    (case c => k_is)
    (case k => k_is)
    refine' S4.use (S4.DE.mk (x := "undone") (st := S4.s_undone) (ps := ["sheet"]) KX G (fun _ _ _ _ _ _ us hl => match us, hl with | [_], _ => rfl) ?a ?l ?c ?k) (fun d_undone => ?_)
    (case a => k_is)
    (case l => k_is)
    (case c => k_is)
    (case k => k_is)
    refine' S4.use (S4.DE.mk (x := "way_back") (st := S4.s_way_back) (ps := ["sheet"]) KX G (fun _ _ _ _ _ _ us hl => match us, hl with | [_], _ => rfl) ?a ?l ?c ?k) (fun d_way_back => ?_)
    (case a => k_is)
    (case l => k_is)
    (case c => k_is)
    (case k => k_is)
    refine' S4.use (S4.DE.mk (x := "are_sure") (st := S4.s_are_sure) (ps := ["rules"]) KX G (fun _ _ _ _ _ _ us hl => match us, hl with | [_], _ => rfl) ?a ?l ?c ?k) (fun d_are_sure => ?_)
    (case a => k_is)
    (case l => k_is)
    (case c => k_is)
    (case k => k_is)
    refine' S4.use (S4.DE.mk (x := "worked_out") (st := S4.s_worked_out) (ps := ["rules"]) KX G (fun _ _ _ _ _ _ us hl => match us, hl with | [_], _ => rfl) ?a ?l ?c ?k) (fun d_worked_out => ?_)
    (case a => k_is)
    (case l => k_is)
    (case c => k_is)
    (case k => k_is)
    refine' S4.use (S4.DE.mk (x := "toll") (st := S4.s_toll) (ps := ["sheet", "way"]) KX G (fun _ _ _ _ _ _ us hl => match us, hl with | [_, _], _ => rfl) ?a ?l ?c ?k) (fun d_toll => ?_)
    (case a => k_is)
    (case l => k_is)
    (case c => k_is)
    (case k => k_is)
    refine' S4.use (S4.DE.mk (x := "tolls") (st := S4.s_tolls) (ps := ["sheet"]) KX G (fun _ _ _ _ _ _ us hl => match us, hl with | [_], _ => rfl) ?a ?l ?c ?k) (fun d_tolls => ?_)
    (case a => k_is)
    (case l => k_is)
    (case c => k_is)
    (case k => k_is)
    refine' S4.use (S4.DE.mk (x := "wanted") (st := S4.s_wanted) (ps := ["sheet", "given"]) KX G (fun _ _ _ _ _ _ us hl => match us, hl with | [_, _], _ => rfl) ?a ?l ?c ?k) (fun d_wanted => ?_)
    (case a => k_is)
    (case l => k_is)
    (case c => k_is)
    (case k => k_is)
    refine' S4.use (S4.DE.mk (x := "check_given") (st := S4.s_check_given) (ps := ["sheet", "given"]) KX G (fun _ _ _ _ _ _ us hl => match us, hl with | [_, _], _ => rfl) ?a ?l ?c ?k) (fun d_check_given => ?_)
    (case a => k_is)
    (case l => k_is)
    (case c => k_is)
    (case k => k_is)
    refine' S4.use (S4.DE.mk (x := "bare") (st := S4.s_bare) (ps := ["rows"]) KX G (fun _ _ _ _ _ _ us hl => match us, hl with | [_], _ => rfl) ?a ?l ?c ?k) (fun d_bare => ?_)
    (case a => k_is)
    (case l => k_is)
    (case c => k_is)
    (case k => k_is)
    refine' S4.use (S4.DE.mk (x := "_law_hand") (st := S4.s_law_hand) (ps := ["script"]) KX G (fun _ _ _ _ _ _ us hl => match us, hl with | [_], _ => rfl) ?a ?l ?c ?k) (fun d_law_hand => ?_)
    (case a => k_is)
    (case l => k_is)
    (case c => k_is)
    (case k => k_is)
    refine' S4.use (S4.DE.mk (x := "_law_draw") (st := S4.s_law_draw) (ps := ["hand", "many"]) KX G (fun _ _ _ _ _ _ us hl => match us, hl with | [_, _], _ => rfl) ?a ?l ?c ?k) (fun d_law_draw => ?_)
    (case a => k_is)
    (case l => k_is)
    (case c => k_is)
    (case k => k_is)
    refine' S4.use (S4.DE.mk (x := "_law_any") (st := S4.s_law_any) (ps := ["hand", "some"]) KX G (fun _ _ _ _ _ _ us hl => match us, hl with | [_, _], _ => rfl) ?a ?l ?c ?k) (fun d_law_any => ?_)
    (case a => k_is)
    (case l => k_is)
    (case c => k_is)
    (case k => k_is)
    refine' S4.use (S4.DE.mk (x := "_law_ties") (st := S4.s_law_ties) (ps := ["hand", "most"]) KX G (fun _ _ _ _ _ _ us hl => match us, hl with | [_, _], _ => rfl) ?a ?l ?c ?k) (fun d_law_ties => ?_)
    (case a => k_is)
    (case l => k_is)
    (case c => k_is)
    (case k => k_is)
    refine' S4.use (S4.DE.mk (x := "_law_near") (st := S4.s_law_near) (ps := ["ties", "post"]) KX G (fun _ _ _ _ _ _ us hl => match us, hl with | [_, _], _ => rfl) ?a ?l ?c ?k) (fun d_law_near => ?_)
    (case a => k_is)
    (case l => k_is)
    (case c => k_is)
    (case k => k_is)
    refine' S4.use (S4.DE.mk (x := "_law_ways") (st := S4.s_law_ways) (ps := ["ties"]) KX G (fun _ _ _ _ _ _ us hl => match us, hl with | [_], _ => rfl) ?a ?l ?c ?k) (fun d_law_ways => ?_)
    (case a => k_is)
    (case l => k_is)
    (case c => k_is)
    (case k => k_is)
    refine' S4.use (S4.DE.mk (x := "_law_this_side") (st := S4.s_law_this_side) (ps := ["ties", "way"]) KX G (fun _ _ _ _ _ _ us hl => match us, hl with | [_, _], _ => rfl) ?a ?l ?c ?k) (fun d_law_this_side => ?_)
    (case a => k_is)
    (case l => k_is)
    (case c => k_is)
    (case k => k_is)
    refine' S4.use (S4.DE.mk (x := "_law_places") (st := S4.s_law_places) (ps := ["unknowns", "post"]) KX G (fun _ _ _ _ _ _ us hl => match us, hl with | [_, _], _ => rfl) ?a ?l ?c ?k) (fun d_law_places => ?_)
    (case a => k_is)
    (case l => k_is)
    (case c => k_is)
    (case k => k_is)
    refine' S4.use (S4.DE.mk (x := "_law_dot") (st := S4.s_law_dot) (ps := ["p", "one", "other"]) KX G (fun _ _ _ _ _ _ us hl => match us, hl with | [_, _, _], _ => rfl) ?a ?l ?c ?k) (fun d_law_dot => ?_)
    (case a => k_is)
    (case l => k_is)
    (case c => k_is)
    (case k => k_is)
    refine' S4.use (S4.DE.mk (x := "_law_inverse") (st := S4.s_law_inverse) (ps := ["p", "value"]) KX G (fun _ _ _ _ _ _ us hl => match us, hl with | [_, _], _ => rfl) ?a ?l ?c ?k) (fun d_law_inverse => ?_)
    (case a => k_is)
    (case l => k_is)
    (case c => k_is)
    (case k => k_is)
    refine' S4.use (S4.DE.mk (x := "_law_ladder") (st := S4.s_law_ladder) (ps := ["p", "rows"]) KX G (fun _ _ _ _ _ _ us hl => match us, hl with | [_, _], _ => rfl) ?a ?l ?c ?k) (fun d_law_ladder => ?_)
    (case a => k_is)
    (case l => k_is)
    (case c => k_is)
    (case k => k_is)
    refine' S4.use (S4.DE.mk (x := "_law_allowed") (st := S4.s_law_allowed) (ps := ["parts", "post"]) KX G (fun _ _ _ _ _ _ us hl => match us, hl with | [_, _], _ => rfl) ?a ?l ?c ?k) (fun d_law_allowed => ?_)
    (case a => k_is)
    (case l => k_is)
    (case c => k_is)
    (case k => k_is)
    refine' S4.use (S4.DE.mk (x := "_law_row") (st := S4.s_law_row) (ps := ["hand", "parts", "post"]) KX G (fun _ _ _ _ _ _ us hl => match us, hl with | [_, _, _], _ => rfl) ?a ?l ?c ?k) (fun d_law_row => ?_)
    (case a => k_is)
    (case l => k_is)
    (case c => k_is)
    (case k => k_is)
    refine' S4.use (S4.DE.mk (x := "_law_parts") (st := S4.s_law_parts) (ps := ["hand", "p", "posts", "most", "rules"]) KX G (fun _ _ _ _ _ _ us hl => match us, hl with | [_, _, _, _, _], _ => rfl) ?a ?l ?c ?k) (fun d_law_parts => ?_)
    (case a => k_is)
    (case l => k_is)
    (case c => k_is)
    (case k => k_is)
    refine' S4.use (S4.DE.mk (x := "_law_every") (st := S4.s_law_every) (ps := ["parts"]) KX G (fun _ _ _ _ _ _ us hl => match us, hl with | [_], _ => rfl) ?a ?l ?c ?k) (fun d_law_every => ?_)
    (case a => k_is)
    (case l => k_is)
    (case c => k_is)
    (case k => k_is)
    refine' S4.use (S4.DE.mk (x := "_law_made") (st := S4.s_law_made) (ps := ["parts"]) KX G (fun _ _ _ _ _ _ us hl => match us, hl with | [_], _ => rfl) ?a ?l ?c ?k) (fun d_law_made => ?_)
    (case a => k_is)
    (case l => k_is)
    (case c => k_is)
    (case k => k_is)
    refine' S4.use (S4.DE.mk (x := "_law_word") (st := S4.s_law_word) (ps := ["rules"]) KX G (fun _ _ _ _ _ _ us hl => match us, hl with | [_], _ => rfl) ?a ?l ?c ?k) (fun d_law_word => ?_)
    (case a => k_is)
    (case l => k_is)
    (case c => k_is)
    (case k => k_is)
    refine' S4.use (S4.DE.mk (x := "_law_paired") (st := S4.s_law_paired) (ps := ["hand"]) KX G (fun _ _ _ _ _ _ us hl => match us, hl with | [_], _ => rfl) ?a ?l ?c ?k) (fun d_law_paired => ?_)
    (case a => k_is)
    (case l => k_is)
    (case c => k_is)
    (case k => k_is)
    refine' S4.use (S4.DE.mk (x := "_law_chain") (st := S4.s_law_chain) (ps := ["hand"]) KX G (fun _ _ _ _ _ _ us hl => match us, hl with | [_], _ => rfl) ?a ?l ?c ?k) (fun d_law_chain => ?_)
    (case a => k_is)
    (case l => k_is)
    (case c => k_is)
    (case k => k_is)
    refine' S4.use (S4.DE.mk (x := "_law_tolls") (st := S4.s_law_tolls) (ps := ["parts"]) KX G (fun _ _ _ _ _ _ us hl => match us, hl with | [_], _ => rfl) ?a ?l ?c ?k) (fun d_law_tolls => ?_)
    (case a => k_is)
    (case l => k_is)
    (case c => k_is)
    (case k => k_is)
    refine' S4.use (S4.DE.mk (x := "_law_right") (st := S4.s_law_right) (ps := ["parts", "hidden"]) KX G (fun _ _ _ _ _ _ us hl => match us, hl with | [_, _], _ => rfl) ?a ?l ?c ?k) (fun d_law_right => ?_)
    (case a => k_is)
    (case l => k_is)
    (case c => k_is)
    (case k => k_is)
    refine' S4.use (S4.DE.mk (x := "law") (st := S4.s_law) (ps := ["script"]) KX G (fun _ _ _ _ _ _ us hl => match us, hl with | [_], _ => rfl) ?a ?l ?c ?k) (fun d_law => ?_)
    (case a => k_is)
    (case l => k_is)
    (case c => k_is)
    (case k => k_is)
    have b_ValueError : mg "ValueError" = none := PySem.W.mg_none_of KX G (by k_is)
    refine' S4.all_mk hmg (S4.Tx.mk b_abs b_all b_bool b_enumerate b_int b_isinstance b_len b_list b_max b_min b_range b_sorted b_sum b_tuple b_zip c_MOST_HOURS c_MOST_WIDE c_MOST_ROWS c_MOST_TIES c_MOST_AT_POST c_MOST_IN_ALL d_is_integer d_is_below d_is_pair d_is_row d_is_clock d_rank d_check_clock d_check_rows d_check_each d_rank_of d_widened d_rungs_of d_mixtures d_mixed d_cleared d_multiplied d_inverse d_first_place d_unit_rows d_check_ties d_is_tie d_tied d_ways d_beyond d_this_side d_neighbours d_reached d_is_way d_are_counts d_check_wants d_held d_own_places d_by_posts d_all_wants d_want_counts d_block d_near_numbers d_far_wants d_cut d_narrowed d_check_rules d_near_unknowns d_is_rule d_rule_sheet d_can_be_undone d_undone d_way_back d_are_sure d_worked_out d_toll d_tolls d_wanted d_check_given d_bare d_law_hand d_law_draw d_law_any d_law_ties d_law_near d_law_ways d_law_this_side d_law_places d_law_dot d_law_inverse d_law_ladder d_law_allowed d_law_row d_law_parts d_law_every d_law_made d_law_word d_law_paired d_law_chain d_law_tolls d_law_right d_law ?h0 ?h1 ?h2 ?h3 ?h4 ?h5 ?h6 ?h7 ?h8 ?h9 ?h10 ?h11 ?h12 ?h13 ?h14 ?h15 ?h16 ?h17 ?h18 ?h19 ?h20 ?h21 ?h22 ?h23 ?h24 ?h25 ?h26 ?h27 ?h28 ?h29 ?h30 ?h31 ?h32 ?h33 ?h34 ?h35 ?h36 ?h37 ?h38 ?h39 ?h40 ?h41 ?h42 ?h43 ?h44 ?h45 ?h46 ?h47 ?h48 ?h49 ?h50 ?h51 ?h52 ?h53 ?h54 ?h55 ?h56 ?h57 ?h58 ?h59 ?h60 ?h61 ?h62 ?h63 ?h64 ?h65 ?h66 ?h67 ?h68 ?h69 ?h70 ?h71 ?h72 ?h73 ?h74 ?h75 ?h76 ?h77 ?h78 ?h79 ?h80 ?h81 ?h82 ?h83 ?h84 ?h85 ?h86 ?h87 ?h88 ?h89 ?h90 ?h91 ?h92 ?h93 ?h94 ?h95 ?h96 ?h97 ?h98 ?h99 ?h100 ?h101 ?h102 ?h103 ?h104 ?h105 ?h106 ?h107 ?h108 ?h109 ?h110 ?h111 ?h112 ?h113 ?h114 ?h115 ?h116 ?h117 ?h118 ?h119 ?h120 ?h121 ?h122 ?h123 ?h124 ?h125 ?h126 ?h127 ?h128 ?h129 ?h130 ?h131 ?h132 ?h133 ?h134 ?h135 ?h136 ?h137 ?h138 ?h139 ?h140 ?h141 ?h142 ?h143 ?h144 ?h145 ?h146 ?h147 ?h148 ?h149 ?h150 ?h151 ?h152 ?h153 ?h154 ?h155 ?h156 ?h157 ?h158 ?h159 ?h160 ?h161 ?h162 ?h163 ?h164 ?h165 ?h166 ?h167 ?h168 ?h169 ?h170 ?h171 ?h172 ?h173 ?h174 ?h175 ?h176 ?h177 ?h178 ?h179 ?h180 ?h181 ?h182 b_ValueError)
    case h0 =>
      skip
      refine' S4.dc_mk KX G (fun _ _ _ _ _ _ us hl => match us, hl with | [_, _], _ => rfl) ?aC ?a ?i ?l ?c ?k ?mk ?kc ?pg ?hd ?po ?sa ?na
      (case aC => exact PySem.W.mg_of KX G (by k_is))
      (case a => k_is)
      (case i => k_is)
      (case l => k_is)
      (case c => k_is)
      (case k => k_is)
      (case mk => k_is)
      (case kc => k_is)
      (case pg => k_is)
      (case hd => k_is)
      (case po => k_is)
      (case sa => k_is)
      case na =>
        intro y hy
        simp only [List.mem_cons, List.not_mem_nil, or_false] at hy
        rcases hy with rfl | rfl
        · show PySem.W.findIn _ _ _ = some none
          k_is
        · show PySem.W.findIn _ _ _ = some none
          k_is
    case h1 =>
      skip
      refine' ⟨⟨?pg, ?hd, ?po, ?sa⟩, ?ha, ?hn, ?htk, ?hm, S4.kit_self _ _⟩
      (case pg => k_is)
      (case hd => k_is)
      (case po => k_is)
      (case sa => k_is)
      (case ha => k_is)
      (case hn => k_is)
      (case htk => k_is)
      (case hm => k_is)
    case h2 =>
      skip
      k_is
    case h3 =>
      skip
      refine' S4.dm_mk (fun _ _ _ _ _ _ us hl => match us, hl with | [_, _], _ => rfl) ?a ?i ?l ?c ?k
      (case a => k_is)
      (case i => k_is)
      (case l => k_is)
      (case c => k_is)
      (case k => k_is)
    case h4 =>
      skip
      k_is
    case h5 =>
      skip
      refine' S4.dc_mk KX G (fun _ _ _ _ _ _ us hl => match us, hl with | [_, _, _, _, _], _ => rfl) ?aC ?a ?i ?l ?c ?k ?mk ?kc ?pg ?hd ?po ?sa ?na
      (case aC => exact PySem.W.mg_of KX G (by k_is))
      (case a => k_is)
      (case i => k_is)
      (case l => k_is)
      (case c => k_is)
      (case k => k_is)
      (case mk => k_is)
      (case kc => k_is)
      (case pg => k_is)
      (case hd => k_is)
      (case po => k_is)
      (case sa => k_is)
      case na =>
        intro y hy
        simp only [List.mem_cons, List.not_mem_nil, or_false] at hy
        rcases hy with rfl | rfl | rfl | rfl | rfl
        · show PySem.W.findIn _ _ _ = some none
          k_is
        · show PySem.W.findIn _ _ _ = some none
          k_is
        · show PySem.W.findIn _ _ _ = some none
          k_is
        · show PySem.W.findIn _ _ _ = some none
          k_is
        · show PySem.W.findIn _ _ _ = some none
          k_is
    case h6 =>
      skip
      refine' ⟨⟨?pg, ?hd, ?po, ?sa⟩, ?ha, ?hn, ?htk, ?hm, S4.kit_self _ _⟩
      (case pg => k_is)
      (case hd => k_is)
      (case po => k_is)
      (case sa => k_is)
      (case ha => k_is)
      (case hn => k_is)
      (case htk => k_is)
      (case hm => k_is)
    case h7 =>
      skip
      k_is
    case h8 =>
      skip
      refine' S4.dm_mk (fun _ _ _ _ _ _ us hl => match us, hl with | [_, _], _ => rfl) ?a ?i ?l ?c ?k
      (case a => k_is)
      (case i => k_is)
      (case l => k_is)
      (case c => k_is)
      (case k => k_is)
    case h9 =>
      skip
      k_is
    case h10 =>
      rw [S4.adr_of m_Rules]
      refine' S4.dc_mk KX G (fun _ _ _ _ _ _ us hl => match us, hl with | [_, _, _, _, _], _ => rfl) m_Rules ?a ?i ?l ?c ?k ?mk ?kc ?pg ?hd ?po ?sa ?na
      (case a => k_is)
      (case i => k_is)
      (case l => k_is)
      (case c => k_is)
      (case k => k_is)
      (case mk => k_is)
      (case kc => k_is)
      (case pg => k_is)
      (case hd => k_is)
      (case po => k_is)
      (case sa => k_is)
      case na =>
        intro y hy
        simp only [List.mem_cons, List.not_mem_nil, or_false] at hy
        rcases hy with rfl | rfl | rfl | rfl
        · show PySem.W.findIn _ _ _ = some none
          k_is
        · show PySem.W.findIn _ _ _ = some none
          k_is
        · show PySem.W.findIn _ _ _ = some none
          k_is
        · show PySem.W.findIn _ _ _ = some none
          k_is
    case h11 =>
      rw [S4.adr_of m_Rules]
      refine' ⟨⟨?pg, ?hd, ?po, ?sa⟩, ?ha, ?hn, ?htk, ?hm, S4.kit_self _ _⟩
      (case pg => k_is)
      (case hd => k_is)
      (case po => k_is)
      (case sa => k_is)
      (case ha => k_is)
      (case hn => k_is)
      (case htk => k_is)
      (case hm => k_is)
    case h12 =>
      rw [S4.adr_of m_Rules]
      k_is
    case h13 =>
      rw [S4.adr_of m_Rules]
      refine' S4.dm_mk (fun _ _ _ _ _ _ us hl => match us, hl with | [_, _], _ => rfl) ?a ?i ?l ?c ?k
      (case a => k_is)
      (case i => k_is)
      (case l => k_is)
      (case c => k_is)
      (case k => k_is)
    case h14 =>
      rw [S4.adr_of m_Rules]
      k_is
    case h15 =>
      rw [S4.adr_of m_TollError]
      refine' ⟨m_TollError, ?kp, ?ty, ⟨?hg, ?hk, ?hs, ?hd, ?ha, ?hn, ?ht, ?hm⟩, ?ve⟩
      (case kp => k_is)
      (case ty => k_is)
      (case hg => k_is)
      (case hk => k_is)
      (case hs => k_is)
      (case hd => k_is)
      (case ha => k_is)
      (case hn => k_is)
      (case ht => k_is)
      (case hm => k_is)
      (case ve => first | (refine' S4.kit_ve ?w; done) | (refine' S4.kit_ve ?vw; k_is) | (refine' S4.kit_ve ?_; exact (by k_is)))
    case h16 =>
      rw [S4.adr_of m_TollError]
      show PySem.W.excIn _ _ _ _ = true
      k_exc
    case h17 =>
      rw [S4.adr_of m_NoClock]
      refine' ⟨m_NoClock, ?kp, ?ty, ⟨?hg, ?hk, ?hs, ?hd, ?ha, ?hn, ?ht, ?hm⟩, ?ve⟩
      (case kp => k_is)
      (case ty => k_is)
      (case hg => k_is)
      (case hk => k_is)
      (case hs => k_is)
      (case hd => k_is)
      (case ha => k_is)
      (case hn => k_is)
      (case ht => k_is)
      (case hm => k_is)
      (case ve => first | (refine' S4.kit_ve ?w; done) | (refine' S4.kit_ve ?vw; k_is) | (refine' S4.kit_ve ?_; exact (by k_is)))
    case h18 =>
      rw [S4.adr_of m_NoClock]
      show PySem.W.excIn _ _ _ _ = true
      k_exc
    case h19 =>
      rw [S4.adr_of m_NoNumber]
      refine' ⟨m_NoNumber, ?kp, ?ty, ⟨?hg, ?hk, ?hs, ?hd, ?ha, ?hn, ?ht, ?hm⟩, ?ve⟩
      (case kp => k_is)
      (case ty => k_is)
      (case hg => k_is)
      (case hk => k_is)
      (case hs => k_is)
      (case hd => k_is)
      (case ha => k_is)
      (case hn => k_is)
      (case ht => k_is)
      (case hm => k_is)
      (case ve => first | (refine' S4.kit_ve ?w; done) | (refine' S4.kit_ve ?vw; k_is) | (refine' S4.kit_ve ?_; exact (by k_is)))
    case h20 =>
      rw [S4.adr_of m_NoNumber]
      show PySem.W.excIn _ _ _ _ = true
      k_exc
    case h21 =>
      rw [S4.adr_of m_NoPost]
      refine' ⟨m_NoPost, ?kp, ?ty, ⟨?hg, ?hk, ?hs, ?hd, ?ha, ?hn, ?ht, ?hm⟩, ?ve⟩
      (case kp => k_is)
      (case ty => k_is)
      (case hg => k_is)
      (case hk => k_is)
      (case hs => k_is)
      (case hd => k_is)
      (case ha => k_is)
      (case hn => k_is)
      (case ht => k_is)
      (case hm => k_is)
      (case ve => first | (refine' S4.kit_ve ?w; done) | (refine' S4.kit_ve ?vw; k_is) | (refine' S4.kit_ve ?_; exact (by k_is)))
    case h22 =>
      rw [S4.adr_of m_NoPost]
      show PySem.W.excIn _ _ _ _ = true
      k_exc
    case h23 =>
      rw [S4.adr_of m_NoWay]
      refine' ⟨m_NoWay, ?kp, ?ty, ⟨?hg, ?hk, ?hs, ?hd, ?ha, ?hn, ?ht, ?hm⟩, ?ve⟩
      (case kp => k_is)
      (case ty => k_is)
      (case hg => k_is)
      (case hk => k_is)
      (case hs => k_is)
      (case hd => k_is)
      (case ha => k_is)
      (case hn => k_is)
      (case ht => k_is)
      (case hm => k_is)
      (case ve => first | (refine' S4.kit_ve ?w; done) | (refine' S4.kit_ve ?vw; k_is) | (refine' S4.kit_ve ?_; exact (by k_is)))
    case h24 =>
      rw [S4.adr_of m_NoWay]
      show PySem.W.excIn _ _ _ _ = true
      k_exc
    case h25 =>
      rw [S4.adr_of m_NoGiven]
      refine' ⟨m_NoGiven, ?kp, ?ty, ⟨?hg, ?hk, ?hs, ?hd, ?ha, ?hn, ?ht, ?hm⟩, ?ve⟩
      (case kp => k_is)
      (case ty => k_is)
      (case hg => k_is)
      (case hk => k_is)
      (case hs => k_is)
      (case hd => k_is)
      (case ha => k_is)
      (case hn => k_is)
      (case ht => k_is)
      (case hm => k_is)
      (case ve => first | (refine' S4.kit_ve ?w; done) | (refine' S4.kit_ve ?vw; k_is) | (refine' S4.kit_ve ?_; exact (by k_is)))
    case h26 =>
      rw [S4.adr_of m_NoGiven]
      show PySem.W.excIn _ _ _ _ = true
      k_exc
    case h27 =>
      rw [S4.adr_of m_NotUndoable]
      refine' ⟨m_NotUndoable, ?kp, ?ty, ⟨?hg, ?hk, ?hs, ?hd, ?ha, ?hn, ?ht, ?hm⟩, ?ve⟩
      (case kp => k_is)
      (case ty => k_is)
      (case hg => k_is)
      (case hk => k_is)
      (case hs => k_is)
      (case hd => k_is)
      (case ha => k_is)
      (case hn => k_is)
      (case ht => k_is)
      (case hm => k_is)
      (case ve => first | (refine' S4.kit_ve ?w; done) | (refine' S4.kit_ve ?vw; k_is) | (refine' S4.kit_ve ?_; exact (by k_is)))
    case h28 =>
      rw [S4.adr_of m_NotUndoable]
      show PySem.W.excIn _ _ _ _ = true
      k_exc
    case h29 =>
      rw [S4.adr_of m_NotSure]
      refine' ⟨m_NotSure, ?kp, ?ty, ⟨?hg, ?hk, ?hs, ?hd, ?ha, ?hn, ?ht, ?hm⟩, ?ve⟩
      (case kp => k_is)
      (case ty => k_is)
      (case hg => k_is)
      (case hk => k_is)
      (case hs => k_is)
      (case hd => k_is)
      (case ha => k_is)
      (case hn => k_is)
      (case ht => k_is)
      (case hm => k_is)
      (case ve => first | (refine' S4.kit_ve ?w; done) | (refine' S4.kit_ve ?vw; k_is) | (refine' S4.kit_ve ?_; exact (by k_is)))
    case h30 =>
      rw [S4.adr_of m_NotSure]
      show PySem.W.excIn _ _ _ _ = true
      k_exc
    case h31 =>
      rw [S4.adr_of m_NoRows]
      refine' ⟨m_NoRows, ?kp, ?ty, ⟨?hg, ?hk, ?hs, ?hd, ?ha, ?hn, ?ht, ?hm⟩, ?ve⟩
      (case kp => k_is)
      (case ty => k_is)
      (case hg => k_is)
      (case hk => k_is)
      (case hs => k_is)
      (case hd => k_is)
      (case ha => k_is)
      (case hn => k_is)
      (case ht => k_is)
      (case hm => k_is)
      (case ve => first | (refine' S4.kit_ve ?w; done) | (refine' S4.kit_ve ?vw; k_is) | (refine' S4.kit_ve ?_; exact (by k_is)))
    case h32 =>
      rw [S4.adr_of m_NoRows]
      refine' S4.ei_mk (fun _ _ _ _ _ _ us hl => match us, hl with | [_, _], _ => rfl) ?xL ?rv ?sa ?eC ?tC ?kC ?a ?t1 ?l ?c ?k ?no
      (case xL => k_is)
      (case rv => first | rfl | decide +kernel)
      (case sa => k_is)
      (case eC => k_is)
      (case tC => k_is)
      (case kC => k_is)
      (case a => k_is)
      (case t1 => k_is)
      (case l => k_is)
      (case c => k_is)
      (case k => k_is)
      case no =>
        intro y hy
        simp only [List.mem_cons, List.not_mem_nil, or_false] at hy
        rcases hy with rfl
        · k_is
    case h33 =>
      rw [S4.adr_of m_BadTree]
      refine' ⟨m_BadTree, ?kp, ?ty, ⟨?hg, ?hk, ?hs, ?hd, ?ha, ?hn, ?ht, ?hm⟩, ?ve⟩
      (case kp => k_is)
      (case ty => k_is)
      (case hg => k_is)
      (case hk => k_is)
      (case hs => k_is)
      (case hd => k_is)
      (case ha => k_is)
      (case hn => k_is)
      (case ht => k_is)
      (case hm => k_is)
      (case ve => first | (refine' S4.kit_ve ?w; done) | (refine' S4.kit_ve ?vw; k_is) | (refine' S4.kit_ve ?_; exact (by k_is)))
    case h34 =>
      rw [S4.adr_of m_BadTree]
      refine' S4.ei_mk (fun _ _ _ _ _ _ us hl => match us, hl with | [_, _], _ => rfl) ?xL ?rv ?sa ?eC ?tC ?kC ?a ?t1 ?l ?c ?k ?no
      (case xL => k_is)
      (case rv => first | rfl | decide +kernel)
      (case sa => k_is)
      (case eC => k_is)
      (case tC => k_is)
      (case kC => k_is)
      (case a => k_is)
      (case t1 => k_is)
      (case l => k_is)
      (case c => k_is)
      (case k => k_is)
      case no =>
        intro y hy
        simp only [List.mem_cons, List.not_mem_nil, or_false] at hy
        rcases hy with rfl
        · k_is
    case h35 =>
      rw [S4.adr_of m_BadSheet]
      refine' ⟨m_BadSheet, ?kp, ?ty, ⟨?hg, ?hk, ?hs, ?hd, ?ha, ?hn, ?ht, ?hm⟩, ?ve⟩
      (case kp => k_is)
      (case ty => k_is)
      (case hg => k_is)
      (case hk => k_is)
      (case hs => k_is)
      (case hd => k_is)
      (case ha => k_is)
      (case hn => k_is)
      (case ht => k_is)
      (case hm => k_is)
      (case ve => first | (refine' S4.kit_ve ?w; done) | (refine' S4.kit_ve ?vw; k_is) | (refine' S4.kit_ve ?_; exact (by k_is)))
    case h36 =>
      rw [S4.adr_of m_BadSheet]
      refine' S4.ei_mk (fun _ _ _ _ _ _ us hl => match us, hl with | [_, _], _ => rfl) ?xL ?rv ?sa ?eC ?tC ?kC ?a ?t1 ?l ?c ?k ?no
      (case xL => k_is)
      (case rv => first | rfl | decide +kernel)
      (case sa => k_is)
      (case eC => k_is)
      (case tC => k_is)
      (case kC => k_is)
      (case a => k_is)
      (case t1 => k_is)
      (case l => k_is)
      (case c => k_is)
      (case k => k_is)
      case no =>
        intro y hy
        simp only [List.mem_cons, List.not_mem_nil, or_false] at hy
        rcases hy with rfl
        · k_is
    case h37 =>
      rw [S4.adr_of m_BadRules]
      refine' ⟨m_BadRules, ?kp, ?ty, ⟨?hg, ?hk, ?hs, ?hd, ?ha, ?hn, ?ht, ?hm⟩, ?ve⟩
      (case kp => k_is)
      (case ty => k_is)
      (case hg => k_is)
      (case hk => k_is)
      (case hs => k_is)
      (case hd => k_is)
      (case ha => k_is)
      (case hn => k_is)
      (case ht => k_is)
      (case hm => k_is)
      (case ve => first | (refine' S4.kit_ve ?w; done) | (refine' S4.kit_ve ?vw; k_is) | (refine' S4.kit_ve ?_; exact (by k_is)))
    case h38 =>
      rw [S4.adr_of m_BadRules]
      refine' S4.ei_mk (fun _ _ _ _ _ _ us hl => match us, hl with | [_, _], _ => rfl) ?xL ?rv ?sa ?eC ?tC ?kC ?a ?t1 ?l ?c ?k ?no
      (case xL => k_is)
      (case rv => first | rfl | decide +kernel)
      (case sa => k_is)
      (case eC => k_is)
      (case tC => k_is)
      (case kC => k_is)
      (case a => k_is)
      (case t1 => k_is)
      (case l => k_is)
      (case c => k_is)
      (case k => k_is)
      case no =>
        intro y hy
        simp only [List.mem_cons, List.not_mem_nil, or_false] at hy
        rcases hy with rfl
        · k_is
    case h39 =>
      rw [S4.adr_of m_TollError]
      k_is
    case h40 =>
      rw [S4.adr_of m_TollError, S4.adr_of m_NoClock]
      k_is
    case h41 =>
      rw [S4.adr_of m_TollError, S4.adr_of m_NoNumber]
      k_is
    case h42 =>
      rw [S4.adr_of m_TollError, S4.adr_of m_NoPost]
      k_is
    case h43 =>
      rw [S4.adr_of m_TollError, S4.adr_of m_NoWay]
      k_is
    case h44 =>
      rw [S4.adr_of m_TollError, S4.adr_of m_NoGiven]
      k_is
    case h45 =>
      rw [S4.adr_of m_TollError, S4.adr_of m_NotUndoable]
      k_is
    case h46 =>
      rw [S4.adr_of m_TollError, S4.adr_of m_NotSure]
      k_is
    case h47 =>
      rw [S4.adr_of m_TollError, S4.adr_of m_NoRows]
      k_is
    case h48 =>
      rw [S4.adr_of m_TollError, S4.adr_of m_BadTree]
      k_is
    case h49 =>
      rw [S4.adr_of m_TollError, S4.adr_of m_BadSheet]
      k_is
    case h50 =>
      rw [S4.adr_of m_TollError, S4.adr_of m_BadRules]
      k_is
    case h51 =>
      rw [S4.adr_of m_NoClock, S4.adr_of m_TollError]
      k_is
    case h52 =>
      rw [S4.adr_of m_NoClock]
      k_is
    case h53 =>
      rw [S4.adr_of m_NoClock, S4.adr_of m_NoNumber]
      k_is
    case h54 =>
      rw [S4.adr_of m_NoClock, S4.adr_of m_NoPost]
      k_is
    case h55 =>
      rw [S4.adr_of m_NoClock, S4.adr_of m_NoWay]
      k_is
    case h56 =>
      rw [S4.adr_of m_NoClock, S4.adr_of m_NoGiven]
      k_is
    case h57 =>
      rw [S4.adr_of m_NoClock, S4.adr_of m_NotUndoable]
      k_is
    case h58 =>
      rw [S4.adr_of m_NoClock, S4.adr_of m_NotSure]
      k_is
    case h59 =>
      rw [S4.adr_of m_NoClock, S4.adr_of m_NoRows]
      k_is
    case h60 =>
      rw [S4.adr_of m_NoClock, S4.adr_of m_BadTree]
      k_is
    case h61 =>
      rw [S4.adr_of m_NoClock, S4.adr_of m_BadSheet]
      k_is
    case h62 =>
      rw [S4.adr_of m_NoClock, S4.adr_of m_BadRules]
      k_is
    case h63 =>
      rw [S4.adr_of m_NoNumber, S4.adr_of m_TollError]
      k_is
    case h64 =>
      rw [S4.adr_of m_NoNumber, S4.adr_of m_NoClock]
      k_is
    case h65 =>
      rw [S4.adr_of m_NoNumber]
      k_is
    case h66 =>
      rw [S4.adr_of m_NoNumber, S4.adr_of m_NoPost]
      k_is
    case h67 =>
      rw [S4.adr_of m_NoNumber, S4.adr_of m_NoWay]
      k_is
    case h68 =>
      rw [S4.adr_of m_NoNumber, S4.adr_of m_NoGiven]
      k_is
    case h69 =>
      rw [S4.adr_of m_NoNumber, S4.adr_of m_NotUndoable]
      k_is
    case h70 =>
      rw [S4.adr_of m_NoNumber, S4.adr_of m_NotSure]
      k_is
    case h71 =>
      rw [S4.adr_of m_NoNumber, S4.adr_of m_NoRows]
      k_is
    case h72 =>
      rw [S4.adr_of m_NoNumber, S4.adr_of m_BadTree]
      k_is
    case h73 =>
      rw [S4.adr_of m_NoNumber, S4.adr_of m_BadSheet]
      k_is
    case h74 =>
      rw [S4.adr_of m_NoNumber, S4.adr_of m_BadRules]
      k_is
    case h75 =>
      rw [S4.adr_of m_NoPost, S4.adr_of m_TollError]
      k_is
    case h76 =>
      rw [S4.adr_of m_NoPost, S4.adr_of m_NoClock]
      k_is
    case h77 =>
      rw [S4.adr_of m_NoPost, S4.adr_of m_NoNumber]
      k_is
    case h78 =>
      rw [S4.adr_of m_NoPost]
      k_is
    case h79 =>
      rw [S4.adr_of m_NoPost, S4.adr_of m_NoWay]
      k_is
    case h80 =>
      rw [S4.adr_of m_NoPost, S4.adr_of m_NoGiven]
      k_is
    case h81 =>
      rw [S4.adr_of m_NoPost, S4.adr_of m_NotUndoable]
      k_is
    case h82 =>
      rw [S4.adr_of m_NoPost, S4.adr_of m_NotSure]
      k_is
    case h83 =>
      rw [S4.adr_of m_NoPost, S4.adr_of m_NoRows]
      k_is
    case h84 =>
      rw [S4.adr_of m_NoPost, S4.adr_of m_BadTree]
      k_is
    case h85 =>
      rw [S4.adr_of m_NoPost, S4.adr_of m_BadSheet]
      k_is
    case h86 =>
      rw [S4.adr_of m_NoPost, S4.adr_of m_BadRules]
      k_is
    case h87 =>
      rw [S4.adr_of m_NoWay, S4.adr_of m_TollError]
      k_is
    case h88 =>
      rw [S4.adr_of m_NoWay, S4.adr_of m_NoClock]
      k_is
    case h89 =>
      rw [S4.adr_of m_NoWay, S4.adr_of m_NoNumber]
      k_is
    case h90 =>
      rw [S4.adr_of m_NoWay, S4.adr_of m_NoPost]
      k_is
    case h91 =>
      rw [S4.adr_of m_NoWay]
      k_is
    case h92 =>
      rw [S4.adr_of m_NoWay, S4.adr_of m_NoGiven]
      k_is
    case h93 =>
      rw [S4.adr_of m_NoWay, S4.adr_of m_NotUndoable]
      k_is
    case h94 =>
      rw [S4.adr_of m_NoWay, S4.adr_of m_NotSure]
      k_is
    case h95 =>
      rw [S4.adr_of m_NoWay, S4.adr_of m_NoRows]
      k_is
    case h96 =>
      rw [S4.adr_of m_NoWay, S4.adr_of m_BadTree]
      k_is
    case h97 =>
      rw [S4.adr_of m_NoWay, S4.adr_of m_BadSheet]
      k_is
    case h98 =>
      rw [S4.adr_of m_NoWay, S4.adr_of m_BadRules]
      k_is
    case h99 =>
      rw [S4.adr_of m_NoGiven, S4.adr_of m_TollError]
      k_is
    case h100 =>
      rw [S4.adr_of m_NoGiven, S4.adr_of m_NoClock]
      k_is
    case h101 =>
      rw [S4.adr_of m_NoGiven, S4.adr_of m_NoNumber]
      k_is
    case h102 =>
      rw [S4.adr_of m_NoGiven, S4.adr_of m_NoPost]
      k_is
    case h103 =>
      rw [S4.adr_of m_NoGiven, S4.adr_of m_NoWay]
      k_is
    case h104 =>
      rw [S4.adr_of m_NoGiven]
      k_is
    case h105 =>
      rw [S4.adr_of m_NoGiven, S4.adr_of m_NotUndoable]
      k_is
    case h106 =>
      rw [S4.adr_of m_NoGiven, S4.adr_of m_NotSure]
      k_is
    case h107 =>
      rw [S4.adr_of m_NoGiven, S4.adr_of m_NoRows]
      k_is
    case h108 =>
      rw [S4.adr_of m_NoGiven, S4.adr_of m_BadTree]
      k_is
    case h109 =>
      rw [S4.adr_of m_NoGiven, S4.adr_of m_BadSheet]
      k_is
    case h110 =>
      rw [S4.adr_of m_NoGiven, S4.adr_of m_BadRules]
      k_is
    case h111 =>
      rw [S4.adr_of m_NotUndoable, S4.adr_of m_TollError]
      k_is
    case h112 =>
      rw [S4.adr_of m_NotUndoable, S4.adr_of m_NoClock]
      k_is
    case h113 =>
      rw [S4.adr_of m_NotUndoable, S4.adr_of m_NoNumber]
      k_is
    case h114 =>
      rw [S4.adr_of m_NotUndoable, S4.adr_of m_NoPost]
      k_is
    case h115 =>
      rw [S4.adr_of m_NotUndoable, S4.adr_of m_NoWay]
      k_is
    case h116 =>
      rw [S4.adr_of m_NotUndoable, S4.adr_of m_NoGiven]
      k_is
    case h117 =>
      rw [S4.adr_of m_NotUndoable]
      k_is
    case h118 =>
      rw [S4.adr_of m_NotUndoable, S4.adr_of m_NotSure]
      k_is
    case h119 =>
      rw [S4.adr_of m_NotUndoable, S4.adr_of m_NoRows]
      k_is
    case h120 =>
      rw [S4.adr_of m_NotUndoable, S4.adr_of m_BadTree]
      k_is
    case h121 =>
      rw [S4.adr_of m_NotUndoable, S4.adr_of m_BadSheet]
      k_is
    case h122 =>
      rw [S4.adr_of m_NotUndoable, S4.adr_of m_BadRules]
      k_is
    case h123 =>
      rw [S4.adr_of m_NotSure, S4.adr_of m_TollError]
      k_is
    case h124 =>
      rw [S4.adr_of m_NotSure, S4.adr_of m_NoClock]
      k_is
    case h125 =>
      rw [S4.adr_of m_NotSure, S4.adr_of m_NoNumber]
      k_is
    case h126 =>
      rw [S4.adr_of m_NotSure, S4.adr_of m_NoPost]
      k_is
    case h127 =>
      rw [S4.adr_of m_NotSure, S4.adr_of m_NoWay]
      k_is
    case h128 =>
      rw [S4.adr_of m_NotSure, S4.adr_of m_NoGiven]
      k_is
    case h129 =>
      rw [S4.adr_of m_NotSure, S4.adr_of m_NotUndoable]
      k_is
    case h130 =>
      rw [S4.adr_of m_NotSure]
      k_is
    case h131 =>
      rw [S4.adr_of m_NotSure, S4.adr_of m_NoRows]
      k_is
    case h132 =>
      rw [S4.adr_of m_NotSure, S4.adr_of m_BadTree]
      k_is
    case h133 =>
      rw [S4.adr_of m_NotSure, S4.adr_of m_BadSheet]
      k_is
    case h134 =>
      rw [S4.adr_of m_NotSure, S4.adr_of m_BadRules]
      k_is
    case h135 =>
      rw [S4.adr_of m_NoRows, S4.adr_of m_TollError]
      k_is
    case h136 =>
      rw [S4.adr_of m_NoRows, S4.adr_of m_NoClock]
      k_is
    case h137 =>
      rw [S4.adr_of m_NoRows, S4.adr_of m_NoNumber]
      k_is
    case h138 =>
      rw [S4.adr_of m_NoRows, S4.adr_of m_NoPost]
      k_is
    case h139 =>
      rw [S4.adr_of m_NoRows, S4.adr_of m_NoWay]
      k_is
    case h140 =>
      rw [S4.adr_of m_NoRows, S4.adr_of m_NoGiven]
      k_is
    case h141 =>
      rw [S4.adr_of m_NoRows, S4.adr_of m_NotUndoable]
      k_is
    case h142 =>
      rw [S4.adr_of m_NoRows, S4.adr_of m_NotSure]
      k_is
    case h143 =>
      rw [S4.adr_of m_NoRows]
      k_is
    case h144 =>
      rw [S4.adr_of m_NoRows, S4.adr_of m_BadTree]
      k_is
    case h145 =>
      rw [S4.adr_of m_NoRows, S4.adr_of m_BadSheet]
      k_is
    case h146 =>
      rw [S4.adr_of m_NoRows, S4.adr_of m_BadRules]
      k_is
    case h147 =>
      rw [S4.adr_of m_BadTree, S4.adr_of m_TollError]
      k_is
    case h148 =>
      rw [S4.adr_of m_BadTree, S4.adr_of m_NoClock]
      k_is
    case h149 =>
      rw [S4.adr_of m_BadTree, S4.adr_of m_NoNumber]
      k_is
    case h150 =>
      rw [S4.adr_of m_BadTree, S4.adr_of m_NoPost]
      k_is
    case h151 =>
      rw [S4.adr_of m_BadTree, S4.adr_of m_NoWay]
      k_is
    case h152 =>
      rw [S4.adr_of m_BadTree, S4.adr_of m_NoGiven]
      k_is
    case h153 =>
      rw [S4.adr_of m_BadTree, S4.adr_of m_NotUndoable]
      k_is
    case h154 =>
      rw [S4.adr_of m_BadTree, S4.adr_of m_NotSure]
      k_is
    case h155 =>
      rw [S4.adr_of m_BadTree, S4.adr_of m_NoRows]
      k_is
    case h156 =>
      rw [S4.adr_of m_BadTree]
      k_is
    case h157 =>
      rw [S4.adr_of m_BadTree, S4.adr_of m_BadSheet]
      k_is
    case h158 =>
      rw [S4.adr_of m_BadTree, S4.adr_of m_BadRules]
      k_is
    case h159 =>
      rw [S4.adr_of m_BadSheet, S4.adr_of m_TollError]
      k_is
    case h160 =>
      rw [S4.adr_of m_BadSheet, S4.adr_of m_NoClock]
      k_is
    case h161 =>
      rw [S4.adr_of m_BadSheet, S4.adr_of m_NoNumber]
      k_is
    case h162 =>
      rw [S4.adr_of m_BadSheet, S4.adr_of m_NoPost]
      k_is
    case h163 =>
      rw [S4.adr_of m_BadSheet, S4.adr_of m_NoWay]
      k_is
    case h164 =>
      rw [S4.adr_of m_BadSheet, S4.adr_of m_NoGiven]
      k_is
    case h165 =>
      rw [S4.adr_of m_BadSheet, S4.adr_of m_NotUndoable]
      k_is
    case h166 =>
      rw [S4.adr_of m_BadSheet, S4.adr_of m_NotSure]
      k_is
    case h167 =>
      rw [S4.adr_of m_BadSheet, S4.adr_of m_NoRows]
      k_is
    case h168 =>
      rw [S4.adr_of m_BadSheet, S4.adr_of m_BadTree]
      k_is
    case h169 =>
      rw [S4.adr_of m_BadSheet]
      k_is
    case h170 =>
      rw [S4.adr_of m_BadSheet, S4.adr_of m_BadRules]
      k_is
    case h171 =>
      rw [S4.adr_of m_BadRules, S4.adr_of m_TollError]
      k_is
    case h172 =>
      rw [S4.adr_of m_BadRules, S4.adr_of m_NoClock]
      k_is
    case h173 =>
      rw [S4.adr_of m_BadRules, S4.adr_of m_NoNumber]
      k_is
    case h174 =>
      rw [S4.adr_of m_BadRules, S4.adr_of m_NoPost]
      k_is
    case h175 =>
      rw [S4.adr_of m_BadRules, S4.adr_of m_NoWay]
      k_is
    case h176 =>
      rw [S4.adr_of m_BadRules, S4.adr_of m_NoGiven]
      k_is
    case h177 =>
      rw [S4.adr_of m_BadRules, S4.adr_of m_NotUndoable]
      k_is
    case h178 =>
      rw [S4.adr_of m_BadRules, S4.adr_of m_NotSure]
      k_is
    case h179 =>
      rw [S4.adr_of m_BadRules, S4.adr_of m_NoRows]
      k_is
    case h180 =>
      rw [S4.adr_of m_BadRules, S4.adr_of m_BadTree]
      k_is
    case h181 =>
      rw [S4.adr_of m_BadRules, S4.adr_of m_BadSheet]
      k_is
    case h182 =>
      rw [S4.adr_of m_BadRules]
      k_is
