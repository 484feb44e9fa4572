import PyProof.Rows.All
import Wide.All
import OpenK.AllK
import Wide.FinOn
import HandS.ForMost
import HandS.Sort
import HandS.SortRule
import HandS.SortInts
import HandS.Conv
import HandS.Codes
import HandS.Deep
import HandS.TupLe
import HandS.TupAny
import HandS.TupMul
import HandS.Style
import HandS.Zip
import HandS.More
import HandS.Flow
import HandS.Walk
import HandS.IsInst
import KE.KTupSum
import PyProof.TupleOfSeq
import PyProof.Draws
import PyProof.EnumMake
import KE.GoesMore
import KE.GoesEnum
import HandS.ExcOwn
import HandS.ExcInit
import HandS.ExcIs
import HandS.ExcField
import HandS.OwnEq
import HandS.TryOnly
import HandS.WordsExc
import HandS.Dict
import PySem.Challenge.RW_sametolls_k24_whole_openings_tick_by_tic
set_option Elab.async false
set_option autoImplicit false
set_option linter.all false
set_option maxRecDepth 100000
set_option maxHeartbeats 4000000
/-! rules that the hand layer lacks: sum, sorted, enumerate, in, [::-1], * of tuples -/
namespace TT
open PySem PySem.Spec PyProof.Rows L2
section
variable {X : Cx}
/-! ### sum(t), t a tuple of ints -/
def rSumT (K : PySem.W.Frag) : List V → Hp → VK → Prop := fun vs H Q => ∃ (a : Addr) (ns : List Int), vs = [V.ref a] ∧ SqT K H a (ns.map V.int) ∧ Q (.int ns.sum) H
theorem cr_sumT (hc : X.calm = true) : CallR X (.builtin "sum") (rSumT X.K) := by
  intro pins s σ H vs us Q I r h
  obtain ⟨a, ns, rfl, hs, q⟩ := h
  obtain ⟨its, rv, hl, _⟩ := I.tuple hs
  rw [Vals.ref1 r]
  have hi : IntsAre its ns := rv.ints
  obtain ⟨xs, e⟩ := hi.allInts.items
  have hn : numsOf (intItems xs).toList = ns := by rw [← e]; exact hi.numsOf
  rw [nums_intItems] at hn
  obtain ⟨o, ho, hc', n, hd⟩ := id hl
  have hl2 : s.heap.IsTuple a (intItems xs) := by
    rw [← e]
    exact ⟨o, ho, hc', n, hd⟩
  refine PySem.W.ktm_sumG (I.ok.hd hc) hl2 fun h' tk t' hk => ?_
  rw [preSum_eq, List.take_of_length_le (by simp), hn]
  exact ⟨.int _, H, I.kept hk, ⟨_, rfl⟩, q⟩
/-! ### x in t, t a tuple of data -/
def rInT (K : PySem.W.Frag) : R2 := fun x y H Q => ∃ d ds, Dp K H x d ∧ Dp K H y (.tuple ds) ∧ SeqAt.shaped d = true ∧ SeqAt.shaped (.tuple ds) = true ∧ Q (.bl (ds.any fun z => PyData.eqv z d)) H
theorem op_inT (hu : X.A.units + 65 < cLine) : OpR X (compareOp .In) (rInT X.K) := by
  intro pins s σ H x y v u Q I rx ry h
  obtain ⟨d, ds, hd, he, sd, se, q⟩ := h
  obtain ⟨as, r1⟩ := Dp.reads I d x v hd rx
  obtain ⟨bs, r2⟩ := Dp.reads I (.tuple ds) y u he ry
  exact SeqAt.in_tuple_reads r2 r1 (SeqAt.canLay_of_shaped se) (SeqAt.canLay_of_shaped sd) (room_in_shaped sd hu) ⟨.bl _, H, I, rfl, q⟩
end
/-! ### t[::-1] -/
section
variable {prog : Program} {w : World} {A : Around} {E : Value → Shared → Prop} {s : Shared}
theorem adjust_rev (n : Nat) : Builtin.Slice.sliceAdjust none none (-1) (n : Int) = ((n : Int) - 1, -1) := rfl
theorem places_rev (n : Nat) : Builtin.Slice.slicePlaces ((n : Int) - 1) (-1) (-1) = n := by
  unfold Builtin.Slice.slicePlaces
  rw [if_neg (by decide)]
  have e : (-(-1 : Int)) = 1 := by decide
  rw [e, Int.ediv_one]
  split <;> omega
theorem pick_rev (xs : Array Value) : ((List.range xs.size).filterMap fun (k : Nat) => xs[(((xs.size : Int) - 1) + (k : Int) * (-1)).toNat]?).toArray = xs.toList.reverse.toArray := by
  have e : (List.range xs.size).filterMap (fun (k : Nat) => xs[(((xs.size : Int) - 1) + (k : Int) * (-1)).toNat]?) = xs.toList.reverse := by
    have h : ∀ (n : Nat), n ≤ xs.size → (List.range n).filterMap (fun (k : Nat) => xs[(((xs.size : Int) - 1) + (k : Int) * (-1)).toNat]?) = xs.toList.reverse.take n := by
      intro n
      induction n with
      | zero => intro _; simp
      | succ n ih =>
        intro hn
        rw [List.range_succ, List.filterMap_append, ih (by omega), List.take_succ]
        congr 1
        have e1 : (((xs.size : Int) - 1) + (n : Int) * (-1)).toNat = xs.size - 1 - n := by omega
        rw [List.filterMap_cons, e1, List.getElem?_reverse (by rw [Array.length_toList]; omega), Array.length_toList, Array.getElem?_toList]
        cases xs[xs.size - 1 - n]? <;> rfl
    have := h xs.size (Nat.le_refl _)
    rw [this, List.take_of_length_le (by rw [List.length_reverse, Array.length_toList]; exact Nat.le_refl _)]
  rw [e]
theorem getItem_tuple_rev {t sl : Addr} {items : Array Value} {u : Tok} {Q : Value → Shared → Prop} (ht : IsTup s.heap t items) (hs : s.heap.IsSliceOf sl .none .none (.int (-1) u))
    (h : Q (.ref s.heap.objs.size) { s with heap := s.heap.push { cls := .type "tuple", data := .seq items.toList.reverse.toArray } })
    (hsz : items.size ≤ sizeLine) : wpAny (model prog w) A (getItem (.ref t) (.ref sl)) Q E s := by
  have htake : sizeOk (.seq items.toList.reverse.toArray) := by
    show items.toList.reverse.toArray.size ≤ sizeLine
    rw [List.size_toArray, List.length_reverse, Array.length_toList]
    exact hsz
  obtain ⟨os, hos, hcs, hds⟩ := id hs
  have hTs : s.TypeIs (.ref sl) "slice" := ⟨os, hos, hcs⟩
  unfold getItem
  try with_reducible refine wpAny_holding ?_
  first | refine wpAny_bind (wpAny_pure ?_) | skip
  refine wpAny_bind (wpAny_sequenceKey ht.typeIs (by decide) ?_)
  refine wpAny_bind (wpAny_callSpecial?_slot (name := Str.ofString "__getitem__") ht.typeIs PyProof.Rows.slot_tuple_getitem
    (wpAny_call_entry PyProof.Rows.slot_tuple_getitem ht.typeIs entry_tuple_getitem ?_ (args_tuple_getitem _ _)))
  show wpAny _ _ (Builtin.Tuple.tupleItemsOf (.ref t) >>= _) _ _ s
  refine wpAny_bind (tupleItemsOf_ ht ?_)
  refine wpAny_bind (wpAny_typeOf hTs ?_)
  rw [if_pos (by decide)]
  refine wpAny_bind ?_
  unfold Builtin.Slice.sliceApplied Builtin.Slice.sliceFields
  refine wpAny_bind (wpAny_bind (wpAny_field hos hds (x := .none) rfl (wpAny_bind (wpAny_field hos hds (x := .none) rfl (wpAny_bind (wpAny_field hos hds (x := .int (-1) u) rfl (wpAny_pure ?_)))))))
  refine wpAny_bind (slicePart_int ?_)
  show wpAny _ _ (if ((-1 : Int) == 0) = true then _ else _) _ _ s
  rw [if_neg (by decide)]
  refine wpAny_bind (slicePart_none (wpAny_bind (slicePart_none (wpAny_bind (wpAny_pure ?_)))))
  show wpAny _ _ (match Builtin.Slice.sliceAdjust none none (-1) (items.size : Int) with | (lo, hi) => pure (lo, (-1 : Int), Builtin.Slice.slicePlaces lo hi (-1))) _ _ s
  rw [adjust_rev]
  show wpAny _ _ (pure (((items.size : Int) - 1), (-1 : Int), Builtin.Slice.slicePlaces ((items.size : Int) - 1) (-1) (-1))) _ _ s
  rw [places_rev]
  refine wpAny_pure ?_
  have hno : ¬ ((((items.size : Int) - 1) == 0 && (-1 : Int) == 1 && (items.size == items.size)) = true) := by
    rw [show ((-1 : Int) == 1) = false from by decide, Bool.and_false, Bool.false_and]
    exact Bool.false_ne_true
  show wpAny _ _ (if (((items.size : Int) - 1) == 0 && (-1 : Int) == 1 && (items.size == items.size)) = true then _ else _) _ _ s
  rw [if_neg hno, pick_rev]
  first
    | exact wpAny_bind (m := Builtin.Tuple.tupleExact _) (wpAny_newObj_type (wpAny_pure ⟨_, rfl, wpAny_pure h⟩) htake)
    | exact wpAny_bind (m := Builtin.Tuple.tupleExact _) (wpAny_newObj_type (wpAny_bind (wpAny_pure (wpAny_pure ⟨_, rfl, wpAny_pure h⟩))) htake)
    | exact wpAny_bind (wpAny_bind (m := Builtin.Tuple.tupleExact _) (wpAny_newObj_type (wpAny_pure (wpAny_pure ⟨_, rfl, wpAny_pure h⟩)) htake))
    | exact wpAny_bind (wpAny_bind (m := Builtin.Tuple.tupleExact _) (wpAny_newObj_type (wpAny_pure ⟨_, rfl, wpAny_pure h⟩) htake))
end
section
variable {X : Cx}
def tRevT (K : PySem.W.Frag) (te : TE) : TE := fun σ H Q => te σ H fun x H1 => ∃ a xs, x = .ref a ∧ SqT K H1 a xs ∧ ∀ p, H1 p = none → Q (.ref p) (upd H1 p (.tup xs.reverse))
theorem pe_revT {e : Expr} {te : TE} {k : Nat} {p1 p2 p3 pos : Pos} (he : PE X e te) : PE X (.Subscript e (.Slice none none (some (.UnaryOp .USub (.Constant (.int 1) k p1) p2)) p3) pos) (tRevT X.K te) := by
  refine ⟨fun pins s σ H Q I h => ?_⟩
  refine Subscript_ (thn (he.run pins s σ H _ I h) fun v s1 ⟨x, H1, I1, r1, q1⟩ => ?_)
  obtain ⟨a, xs, ex, hx, q⟩ := q1
  subst ex
  cases r1
  have hst : PO X (some (.UnaryOp .USub (.Constant (.int 1) k p1) p2)) (tPart (tUn (rU fun i => .int (-i)) (tC (.int 1)))) := po_some (pe_un un_neg pe_int)
  refine wpAny_Slice (thn (po_none.run pins s1 σ H1 (fun o H2 => o = none ∧ H2 = H1) I1 ⟨rfl, rfl⟩) fun vl s2 ⟨l, H2, I2, pl, el, e2⟩ => ?_)
  subst el e2
  refine thn (po_none.run pins s2 σ H2 (fun o H3 => o = none ∧ H3 = H2) I2 ⟨rfl, rfl⟩) fun vu s3 ⟨u, H3, I3, pu, eu, e3⟩ => ?_
  subst eu e3
  refine thn (hst.run pins s3 σ H3 (fun o H4 => o = some (-1) ∧ H4 = H3) I3 ⟨1, rfl, -1, rfl, rfl, rfl⟩) fun vs s4 ⟨o, H4, I4, ps, eo, e4⟩ => ?_
  subst eo e4
  have I5 : Inv X pins σ H4 { s4 with heap := s4.heap.push { cls := .type "slice", data := .fields #[vl, vu, vs] } } := I4.kept (t' := s4.toks) fun b ob q => Heap.get?_push_of_some _ q
  obtain ⟨its, r, ht, hz⟩ := I5.tuple hx
  have hlen := r.length
  show wpAny (model X.prog X.w) X.A (subscriptTail e (.Slice none none (some (.UnaryOp .USub (.Constant (.int 1) k p1) p2)) p3) (.ref a) (.ref s4.heap.objs.size)) (EP X pins σ Q) X.xe { s4 with heap := s4.heap.push { cls := .type "slice", data := .fields #[vl, vu, vs] } }
  cases pl
  cases pu
  cases ps with
  | int i t =>
    refine tail_any (ops := [.ref a, .ref s4.heap.objs.size]) ht.typeIs (PyProof.Rows.slot_tuple_getitem.lookup) ?_ (by with_unfolding_all rfl)
    refine getItem_tuple_rev ht (Heap.IsSliceOf.new _ .none .none (.int (-1) t)) ?_ (by rw [List.size_toArray]; omega)
    refine ⟨.ref _, _, I5.laid (t' := s4.toks) (o := .tup xs.reverse) (fun b ob q => Heap.get?_push_of_some _ q) (Nat.le_refl _) ?_, rfl, q _ (I5.hok.fresh (Nat.le_refl _))⟩
    exact ⟨by rw [List.length_reverse]; exact hz, _, r.reverse, IsTup.new _ _⟩
end
/-! ### enumerate(t), t a tuple -/
def IteT (K : PySem.W.Frag) (a : Addr) : It :=
  ⟨fun i H => ∃ (xs : List V) (x : V), SqT K H a xs ∧ xs[i]? = some x, fun i H v H' => ∃ T x, v = .ref T ∧ H T = none ∧ H' = upd H T (.tup [.int (i : Nat), x]) ∧ ∀ xs, SqT K H a xs → xs[i]? = some x, fun i H => ∃ xs : List V, SqT K H a xs ∧ i = xs.length⟩
theorem turn_enumT {P : Program} {w : World} {K : PySem.W.Frag} {elts : List Expr} {kk : Nat} {tpos : Pos} (a e it : Addr) (hai : a ≠ it) :
    Turn P w K (.Tuple elts kk tpos) (IteT K a) [e, it] e (fun i h => (∃ old, IsEnum h e it ((i : Nat) : Int) old) ∧ h.IsTupleIter it a i ∧ e ≠ it ∧ e ≠ a) where
  mem := by simp
  obj := fun i h st b hb => by
    obtain ⟨⟨old, he⟩, ⟨o, ho, hc, hd⟩, _⟩ := st
    have e' : b = e ∨ b = it := by simpa using hb
    rcases e' with z | z
    · rw [z]; exact ⟨_, he, fun v q => nomatch q⟩
    · rw [z]; exact ⟨o, ho, fun v q => by rw [hd] at q; cases q⟩
  keep := fun i h h' st k => let ⟨⟨old, he⟩, hi, hne⟩ := st; ⟨⟨old, k e (by simp) _ he⟩, hi.at fun o q => k it (by simp) o q, hne⟩
  item := by
    intro X hP hw hK hc i pins s σ H E I hf st hg
    subst hP hw hK
    obtain ⟨⟨old, he⟩, hit, hne, hnea⟩ := st
    obtain ⟨xs, x, hq, hx⟩ := hg
    obtain ⟨its, rv, p, hz⟩ := I.tuple hq
    obtain ⟨u, hu, ru⟩ := rv.get hx
    have hel : e < s.heap.objs.size := Heap.lt_size he
    have hil : it < s.heap.objs.size := by obtain ⟨_, q, _⟩ := hit; exact Heap.lt_size q
    have hlt : i < its.toArray.size := by
      rw [List.size_toArray]
      exact (List.getElem?_eq_some_iff.mp hu).1
    have p' : s.heap.IsTuple a its.toArray := p
    have D := Draws.tuple (prog := X.prog) (w := X.w) (A := X.A.in1) (I.ok.hd hc) it a hai its.toArray
    refine wpAny_pyNext_enum_itemD D he ⟨hit, p'⟩ hlt hne (by simp [hne, hnea]) fun u' h' tk hP' ho st' hT hsz hk => ?_
    have hu2 : u' = u := by
      have : its.toArray[i]? = some u' := hP'
      rw [show its.toArray[i]? = its[i]? by simp] at this
      rw [hu] at this
      exact (Option.some.inj this).symm
    subst hu2
    have hit' := st'.1
    refine ⟨_, rfl, wpAny_letOwnedTupleGo_enum (s := { s with heap := h', toks := tk + 1 }) ho fun h'' he' sb => ?_⟩
    have hT2 : h''.get? s.heap.objs.size = some { cls := .type "tuple", data := .seq #[.int i tk, u'] } := (sb.2 _ (Nat.ne_of_gt hel)).trans hT
    have new : ObjOk X.prog X.w (upd H s.heap.objs.size (.tup [.int (i : Nat), x])) h'' s.heap.objs.size (.tup [.int (i : Nat), x]) :=
      ⟨by show 2 ≤ sizeLine; decide, [.int i tk, u'], .cons ⟨_, rfl⟩ (.cons ru .nil), ⟨_, hT2, rfl, _, rfl⟩⟩
    have I1 : Inv X pins σ (upd H s.heap.objs.size (.tup [.int (i : Nat), x])) { s with heap := h'', toks := tk + 1 } :=
      I.turnedNew (ch := [e, it]) (fun b ob hb q => (sb.2 b (fun z => hb (by simp [z]))).trans (hk b ob (fun z => hb (by simp [z])) (fun z => hb (by simp [z])) q)) hf (Nat.le_refl _) new
    refine ⟨.ref s.heap.objs.size, _, I1, rfl, ⟨_, x, rfl, I.hok.fresh (Nat.le_refl _), rfl, fun ys hy => by rw [I.tuple_inj hy hq]; exact hx⟩, ⟨⟨u', ?_⟩, hit'.at fun o q => (sb.2 it (Ne.symm hne)).trans q, hne, hnea⟩, fun b hb => ?_⟩
    · have e1 : ((i + 1 : Nat) : Int) = (i : Int) + 1 := by omega
      rw [e1]; exact he'
    · have hb' : b < s.heap.objs.size := by
        have e' : b = e ∨ b = it := by simpa using hb
        rcases e' with z | z
        · rw [z]; exact hel
        · rw [z]; exact hil
      rw [upd_ne (Nat.ne_of_lt hb')]
      exact (hf b hb).1
  done := by
    intro X hP hw hK hc i pins s σ H E I hf st hg
    subst hP hw hK
    obtain ⟨⟨old, he⟩, hit, hne, hnea⟩ := st
    obtain ⟨xs, hq, hx⟩ := hg
    obtain ⟨its, rv, p, hz⟩ := I.tuple hq
    obtain ⟨f0, f1, f2, f3, f4, f5⟩ := hf it (by simp)
    have hl := rv.length
    have p' : s.heap.IsTuple a its.toArray := p
    have D := Draws.tuple (prog := X.prog) (w := X.w) (A := X.A.in1) (I.ok.hd hc) it a hai its.toArray
    have hi : i = its.toArray.size := by rw [List.size_toArray]; omega
    rw [hi] at hit
    exact wpAny_pyNext_enum_endD D he ⟨hit, p'⟩ fun h' eb => ⟨rfl, I.turned (t' := s.toks) (fun b o hb q => eb b o hb q) f0 f1 f3 f4 f5⟩
  self := fun A i s Q E st h => let ⟨⟨_, he⟩, _⟩ := st; wpAny_pyIter_enum he h
def iEnumT (K : PySem.W.Frag) (ta : TA) : TI := fun σ H R => ta σ H fun vs H1 => ∃ a xs, vs = [.ref a] ∧ SqT K H1 a xs ∧ R (IteT K a) H1
theorem meets_enumerate_newT (t : Addr) (items : Array Value) :
    Meets (Builtin.«enumerate.__new__» ⟨[.type "enumerate", .ref t], []⟩) (fun _ R s => s.heap.IsTuple t items ∧
      R (.ok (.ret (.ref (s.heap.push { cls := .type "tuple_iterator", data := .fields #[.ref t, .int 0 0] }).objs.size)))
        { s with heap := (s.heap.push { cls := .type "tuple_iterator", data := .fields #[.ref t, .int 0 0] }).push { cls := .type "enumerate", data := .fields #[.none, .bool false, .ref s.heap.objs.size, rawInt 0, .none, .none] } }) :=
  .of_wp fun prog w A R s h => by
    obtain ⟨hp, g, d, tk, os⟩ := s
    obtain ⟨hL, h⟩ := h
    have hsub := sub_enumerate
    have q1 : ∀ {A' : Around} {E : Value → Shared → Prop} {Q : Value → Shared → Prop}, Q (.ref hp.objs.size) ⟨hp.push { cls := .type "tuple_iterator", data := .fields #[.ref t, .int 0 0] }, g, d, tk, os⟩ → wpAny (model prog w) A' (pyIter (.ref t)) Q E ⟨hp, g, d, tk, os⟩ :=
      fun q => wpAny_pyIter_tuple hL q
    wp_walk using q1
    refine wpAny_stack_any fun st => wpAny_pure ?_
    split
    · rename_i c _ _ _ _ _
      cases (c == Value.type "enumerate")
      · wp_walk using q1
        exact ⟨_, rfl, h⟩
      · wp_walk using q1
        exact ⟨_, rfl, h⟩
    · wp_walk using q1
      exact ⟨_, rfl, h⟩
theorem call_enumerate_tuple {prog : Program} {w : World} {A : Around} {E : Value → Shared → Prop} {s : Shared} {t : Addr} {items : Array Value} {Q : Value → Shared → Prop} (ht : s.heap.IsTuple t items)
    (h : ∀ h', IsEnum h' (s.heap.objs.size + 1) s.heap.objs.size 0 .none → h'.IsTupleIter s.heap.objs.size t 0 → h'.objs.size = s.heap.objs.size + 2 →
      (∀ b o, s.heap.get? b = some o → h'.get? b = some o) → Q (.ref (s.heap.objs.size + 1)) { s with heap := h' }) :
    wpAny (model prog w) A (call (.type "enumerate") [.ref t]) Q E s := by
  refine callType_new F.called_enumerate (by decide) (F.typeCall_enumerate_1 _) (F.newCall_enumerate_1 _) (fun obj => F.args_object_init_2 obj _) F.entry_enumerate_new
    (meets_enumerate_newT t items) ⟨ht, ?_⟩
  have hz : (s.heap.push { cls := .type "tuple_iterator", data := .fields #[.ref t, .int 0 0] }).objs.size = s.heap.objs.size + 1 := Heap.size_push ..
  show _ ∧ _
  rw [hz]
  have he : IsEnum ((s.heap.push { cls := .type "tuple_iterator", data := .fields #[.ref t, .int 0 0] }).push
      { cls := .type "enumerate", data := .fields #[.none, .bool false, .ref s.heap.objs.size, rawInt 0, .none, .none] }) (s.heap.objs.size + 1) s.heap.objs.size 0 .none := by
    have := Heap.get?_push_size (s.heap.push { cls := .type "tuple_iterator", data := .fields #[.ref t, .int 0 0] }) (o := { cls := .type "enumerate", data := .fields #[.none, .bool false, .ref s.heap.objs.size, rawInt 0, .none, .none] }) rfl
    rw [hz] at this; exact this
  have hi : s.heap.push { cls := .type "tuple_iterator", data := .fields #[.ref t, .int 0 0] } |>.IsTupleIter s.heap.objs.size t 0 := ⟨_, Heap.get?_push_size _ rfl, rfl, rfl⟩
  refine ⟨⟨_, he, rfl⟩, h _ he (hi.at fun o e => Heap.get?_push_of_some _ e) (by rw [Heap.size_push, hz]) fun b o x => Heap.get?_push_of_some _ (Heap.get?_push_of_some _ x)⟩
theorem pi_enumT {X : Cx} {e : Expr} {ta : TA} {p pos tpos : Pos} {elts : List Expr} {kk : Nat} (hg : Gl X "enumerate") (hm : X.mg "enumerate" = none) (ha : PA X [e] ta) (hs : starEach [e] X.env = [(false, eval e X.env)] := by rfl) :
    PI X (.Tuple elts kk tpos) (.Call (.Name "enumerate" p) [e] [] pos) (iEnumT X.K ta) := by
  refine ⟨fun pins s σ H R I h => ?_⟩
  refine Call_ (ld_blt I hg hm boot_enumerate (PyProof.Rows.callWith_type1 (thn (ha.run pos pins s σ H _ I h) fun us s1 ⟨vs, H1, I1, r1, q1⟩ => ?_) hs rfl))
  obtain ⟨a, xs, ex, hq, q⟩ := q1
  subst ex
  cases r1 with
  | cons r rr =>
    cases rr
    cases r
    obtain ⟨its, rv, p', hz⟩ := I1.tuple hq
    have hlt : a < s1.heap.objs.size := p'.lt
    refine call_enumerate_tuple p' fun h' he hit hsz hk => wpAny_pyIter_enum he ?_
    have I2 : Inv X pins σ H1 { s1 with heap := h' } := I1.kept (t' := s1.toks) hk
    refine ⟨s1.heap.objs.size + 1, [s1.heap.objs.size + 1, s1.heap.objs.size], _, _, H1, rfl, I2, turn_enumT a (s1.heap.objs.size + 1) s1.heap.objs.size (Nat.ne_of_lt hlt), ⟨⟨.none, he⟩, hit, Nat.succ_ne_self _, Nat.ne_of_gt (Nat.lt_succ_of_lt hlt)⟩, fun b hb => ?_, q⟩
    have e' : b = s1.heap.objs.size + 1 ∨ b = s1.heap.objs.size := by simpa using hb
    have hle : s1.heap.objs.size ≤ b := by
      rcases e' with z | z
      · rw [z]; exact Nat.le_add_right _ _
      · rw [z]; exact Nat.le_refl _
    exact I1.fpOk hle (I1.hok.fresh hle)
theorem walk_enumT {K : PySem.W.Frag} {a : Addr} {xs : List V} : Walk (IteT K a) xs.length (fun H => SqT K H a xs) (YPair (fun i => some (.int (i : Nat))) (fun i => xs[i]?)) := by
  refine ⟨fun i _ hi q => ⟨xs, xs[i], q, by simp [hi]⟩, fun _ q => ⟨xs, q, rfl⟩, fun i H v H' _ q y => ?_⟩
  obtain ⟨T, x, h1, h2, h3, h4⟩ := y
  exact ⟨T, .int (i : Nat), x, h1, h2, h3, rfl, h4 xs q⟩
/-! ### sorted(t), t a tuple of ints -/
section
variable {prog : Program} {w : World} {A : Around} {E : Value → Shared → Prop} {s : Shared}
open SrtO in
theorem sorted_ordT {t : Addr} {vs : List Value} {ltv : Value → Value → Bool} {Q : Value → Shared → Prop} (O : SrtO.Swo ltv) (ht : IsTup s.heap t vs.toArray) (hz : vs.length ≤ sizeLine)
    (hS : 2 ≤ vs.length → ∀ (h₁ : Heap) (a : Addr), h₁.get? a = some (seqObj "list" vs.toArray 0) → (∀ b o, s.heap.get? b = some o → b ≠ a ∧ h₁.get? b = some o) → SrtO.SortableO prog w A.in1.in1 { s with heap := h₁ } a vs ltv)
    (h : ∀ (h' : Heap) (out : List Value), SrtO.Srtd ltv out → SrtO.Stb ltv out vs → (∀ b o, s.heap.get? b = some o → h'.get? b = some o) →
      Q (.ref h'.objs.size) { s with heap := sortedHeap (h'.push (seqObj "list" vs.toArray 0)) h'.objs.size vs out.toArray }) :
    wpAny (model prog w) A (call (.builtin "sorted") [.ref t]) Q E s := by
  obtain ⟨o, ho, hc, n, hd⟩ := id ht
  refine Calls.call_function_entry kind_sorted plain_sorted entry_sorted (args_sorted1 _) ?_
  unfold Builtin.«sorted»
  refine wpAny_bind (m := checkCount "sorted" 1 1 _) (wpAny_pure ?_)
  refine wpAny_bind (wpAny_collect_seq (hsz := by rw [List.size_toArray]; exact hz) t (.inr rfl) ho hc hd fun h' hk => ?_)
  refine wpAny_bind (wpAny_newList ?_ hz)
  have hoL : (h'.push (seqObj "list" vs.toArray 0)).get? h'.objs.size = some (seqObj "list" vs.toArray 0) := Heap.get?_push_size _ rfl
  have keep : ∀ b o, s.heap.get? b = some o → b ≠ h'.objs.size ∧ (h'.push (seqObj "list" vs.toArray 0)).get? b = some o := fun b o q =>
    ⟨Nat.ne_of_lt (Heap.lt_size (hk b o q)), Heap.get?_push_of_some _ (hk b o q)⟩
  show wpAny _ _ _ _ _ { s with heap := h'.push (seqObj "list" vs.toArray 0) }
  refine wpAny_bind (wpAny_holding (wpAny_call_entry slot_list_sort ⟨_, hoL, rfl⟩ entry_list_sort (SrtO.list_sort_ord O hoL hz (fun h2 => hS h2 _ _ hoL keep) fun out hs hb => ⟨_, rfl, ?_⟩) (args_list_sort _)))
  exact wpAny_pure ⟨_, rfl, h h' out hs hb hk⟩
end
section
variable {X : Cx}
def rSortedTI (K : PySem.W.Frag) : List V → Hp → VK → Prop := fun vs H Q => ∃ (a : Addr) (ns : List Int), vs = [V.ref a] ∧ SqT K H a (ns.map V.int) ∧
  ∀ (ns' : List Int) (p : Addr), ns'.Perm ns → ns'.Pairwise (· ≤ ·) → H p = none → Q (.ref p) (upd H p (.lst (ns'.map V.int)))
theorem cr_sortedTI : CallR X (.builtin "sorted") (rSortedTI X.K) := by
  intro pins s σ H vs us Q I r h
  obtain ⟨a, ns, rfl, hs, q⟩ := h
  obtain ⟨its, rv, hl, hz⟩ := I.tuple hs
  rw [Vals.ref1 r]
  have hi := rv.ints
  refine sorted_ordT SrtO.swo_int hl (by rw [← rv.length]; exact hz) (fun h2 h₁ a' _ _ => SrtO.ints_sortable hi h2) fun h' out h1 h2 hk => ?_
  obtain ⟨k1, k2, k3⟩ := SrtO.ints_out hi h1 h2
  obtain ⟨ep, he'⟩ := PyProof.Rows.sortedHeap_at (h := h'.push (seqObj "list" its.toArray 0)) (a := h'.objs.size) (vs := its) (out := out.toArray) (Heap.get?_push_size _ rfl)
  have hlen : ((out.map SrtO.iv).map V.int).length ≤ sizeLine := by
    rw [List.length_map, k2.length_eq]
    rw [List.length_map] at hz
    exact hz
  have I1 : Inv X pins σ H { s with heap := h' } := I.kept (t' := s.toks) hk
  refine ⟨.ref _, upd H h'.objs.size (.lst ((out.map SrtO.iv).map V.int)), I1.laid (t' := s.toks) (fun b ob e => ?_) (Nat.le_refl _) ⟨hlen, out, ep, vals_of_ints k1, he'⟩, rfl, q _ _ k2 k3 (I1.hok.fresh (Nat.le_refl _))⟩
  have hb : b < h'.objs.size := Heap.lt_size e
  rw [sortedHeap_old (Nat.ne_of_lt hb) (by rw [Heap.size_push]; exact Nat.lt_succ_of_lt hb)]
  exact Heap.get?_push_of_some _ e
end
/-! ### t * k, any small k from 0 on -/
section
variable {X : Cx}
theorem tuple_mul1 (l : Addr) (items : Array Value) (n : Nat) (dd : Option Addr) (sl : Array (Option Value)) (u : Tok) :
    Meets (Builtin.«tuple.__mul__» ⟨[.ref l, .int 1 u], []⟩) (fun _ R s => s.heap.get? l = some { cls := .type "tuple", dict := dd, data := .seq items n, slots := sl } ∧
      R (.ok (.ret (Value.ref l))) s) :=
  .of_wp fun prog w A R s h => by
    obtain ⟨hp, g, d, tk, os⟩ := s
    obtain ⟨hl, h⟩ := h
    have f1 := AutoSeq1.idx_int
    wp_walk using wpAny_loadPart' hl
    exact ⟨_, rfl, h⟩
theorem tuple_mul0 (l : Addr) (items : Array Value) (n : Nat) (dd : Option Addr) (sl : Array (Option Value)) (u : Tok) (c1 : items.isEmpty = false) :
    Meets (Builtin.«tuple.__mul__» ⟨[.ref l, .int 0 u], []⟩) (fun _ R s => s.heap.get? l = some { cls := .type "tuple", dict := dd, data := .seq items n, slots := sl } ∧
      R (.ok (.ret (Value.ref s.heap.objs.size))) { s with heap := s.heap.push { cls := Value.type "tuple", data := Data.seq #[] } }) :=
  .of_wp fun prog w A R s h => by
    obtain ⟨hp, g, d, tk, os⟩ := s
    obtain ⟨hl, h⟩ := h
    have f1 := AutoSeq1.idx_int
    wp_walk using wpAny_loadPart' hl
    repeat (first
      | (refine wpAny_ite_false (decide_eq_false (by rw [c1]; decide)) ?_; wp_walk using wpAny_loadPart' hl)
      | (refine wpAny_ite_true (decide_eq_true (by rw [c1]; decide)) ?_; wp_walk using wpAny_loadPart' hl))
    exact ⟨_, rfl, h⟩
def rRepA (K : PySem.W.Frag) : R2 := fun x y H Q => ∃ l k xs, x = .ref l ∧ y = .int k ∧ SqT K H l xs ∧ xs ≠ [] ∧ 0 ≤ k ∧ k ≤ 1000 ∧ xs.length ≤ 1000 ∧
  (k = 1 → Q (.ref l) H) ∧ (k ≠ 1 → ∀ p, H p = none → Q (.ref p) (upd H p (.tup (List.replicate k.toNat xs).flatten)))
theorem op_repA : OpR X (binaryOp .Mult) (rRepA X.K) := by
  intro pins s σ H x y v u Q I rx ry h
  obtain ⟨l, k, xs, rfl, rfl, hT, hne, h1, h2, hz, q1, q2⟩ := h
  by_cases hk : 2 ≤ k
  · exact op_repT pins s σ H _ _ v u Q I rx ry ⟨l, k, xs, rfl, rfl, hT, hne, hk, h2, hz, q2 (by omega)⟩
  cases rx
  obtain ⟨t, rfl⟩ := ry
  obtain ⟨its, r, ⟨⟨cls, dd, data, sl⟩, ho, hc, n, hd⟩, hs⟩ := I.tuple hT
  simp only at hc hd
  subst hc hd
  have hle : its.length = xs.length := r.length.symm
  have hn : its ≠ [] := fun e => hne (by
    rw [e] at hle
    exact List.eq_nil_of_length_eq_zero hle.symm)
  have hi : its.toArray.isEmpty = false := by
    cases its with
    | nil => exact absurd rfl hn
    | cons a b => rfl
  rcases (show k = 0 ∨ k = 1 by omega) with rfl | rfl
  · refine wpAny_binaryOp_repeat_ref (T := "tuple") (U := "int") (by decide) ⟨_, ho, rfl⟩ (fun s' => typeIs_int s' 0 t) noFill_tuple_mul F.fills_int_mul F.slot_int_rmul repeat_tuple F.slot_int_index.lookup
      (call_meets F.slot_int_rmul (typeIs_int s 0 t) F.entry_int_rmul (F.args_int_rmul_2 _ _) (int_rmul_tuple 0 t l its.toArray n dd sl)
        ⟨ho, rfl, ⟨_, ho, rfl⟩, call_meets F.slot_tuple_mul ⟨_, ho, rfl⟩ F.entry_tuple_mul (F.args_tuple_mul_2 _ _) (tuple_mul0 l its.toArray n dd sl t hi) ⟨ho, ?_⟩⟩)
    refine ⟨.ref s.heap.objs.size, _, I.laid (t' := s.toks) (o := .tup (List.replicate (0 : Int).toNat xs).flatten) (fun b ob q => Heap.get?_push_of_some _ q) (Nat.le_refl _) ?_, rfl, q2 (by decide) _ (I.hok.fresh (Nat.le_refl _))⟩
    exact ⟨Nat.zero_le _, [], .nil, IsTup.new _ _⟩
  · refine wpAny_binaryOp_repeat_ref (T := "tuple") (U := "int") (by decide) ⟨_, ho, rfl⟩ (fun s' => typeIs_int s' 1 t) noFill_tuple_mul F.fills_int_mul F.slot_int_rmul repeat_tuple F.slot_int_index.lookup
      (call_meets F.slot_int_rmul (typeIs_int s 1 t) F.entry_int_rmul (F.args_int_rmul_2 _ _) (int_rmul_tuple 1 t l its.toArray n dd sl)
        ⟨ho, rfl, ⟨_, ho, rfl⟩, call_meets F.slot_tuple_mul ⟨_, ho, rfl⟩ F.entry_tuple_mul (F.args_tuple_mul_2 _ _) (tuple_mul1 l its.toArray n dd sl t) ⟨ho, ?_⟩⟩)
    exact ⟨.ref l, H, I, rfl, q1 rfl⟩
end
end TT

/-! what stands for data in the heap; short rules -/
namespace TT
open PySem L2
/-! ### what stays: every object but lists -/
def Keep (H H' : Hp) : Prop := ∀ b o, (∀ xs, o ≠ .lst xs) → H b = some o → H' b = some o
theorem Keep.refl (H : Hp) : Keep H H := fun _ _ _ h => h
theorem Keep.trans {H H1 H2 : Hp} (a : Keep H H1) (b : Keep H1 H2) : Keep H H2 := fun c o n h => b c o n (a c o n h)
theorem _root_.L2.Same.keep {H H' : Hp} (s : Same H H') : Keep H H' := fun b o _ h => s b o h
theorem Keep.tup {H H' : Hp} (k : Keep H H') {t : Addr} {xs : List V} (h : H t = some (.tup xs)) : H' t = some (.tup xs) := k t _ (fun _ q => nomatch q) h
theorem Keep.ins {H H' : Hp} (k : Keep H H') {t C dx : Addr} {xs : List (Str × V)} (h : H t = some (.ins C dx xs)) : H' t = some (.ins C dx xs) := k t _ (fun _ q => nomatch q) h
theorem same_new {H : Hp} {p : Addr} {o : HO} (h : H p = none) : Same H (upd H p o) := fun b u e => by rw [upd_ne (ne_of_none e h)]; exact e
theorem same_own {H0 H : Hp} {p : Addr} {o : HO} (s : Same H0 H) (h : H0 p = none) : Same H0 (upd H p o) := fun b u e => by rw [upd_ne (ne_of_none e h)]; exact s b u e
theorem keep_lst {H : Hp} {p : Addr} {xs : List V} {o : HO} (h : H p = some (.lst xs)) : Keep H (upd H p o) := fun b u n e => by
  have : b ≠ p := fun q => by subst q; rw [h] at e; cases e; exact n _ rfl
  rw [upd_ne this]; exact e
/-- all but the list at g -/
def But (g : Addr) (H H' : Hp) : Prop := ∀ b o, b ≠ g → H b = some o → H' b = some o
theorem But.refl (g : Addr) (H : Hp) : But g H H := fun _ _ _ h => h
theorem But.trans {g : Addr} {H H1 H2 : Hp} (a : But g H H1) (b : But g H1 H2) : But g H H2 := fun c o n h => b c o n (a c o n h)
theorem _root_.L2.Same.but {H H' : Hp} (s : Same H H') (g : Addr) : But g H H' := fun b o _ h => s b o h
theorem But.keep {g : Addr} {H H' : Hp} (k : But g H H') {ys : List V} (hg : H g = some (.lst ys)) : Keep H H' := fun b o n h => by
  by_cases e : b = g
  · subst e; rw [hg] at h; cases h; exact absurd rfl (n _)
  · exact k b o e h
theorem But.free {g : Addr} {H H' : Hp} (k : But g H H') {p : Addr} (hp : H' p = none) (h : p ≠ g) : H p = none := by
  cases q : H p with
  | none => rfl
  | some o => rw [k p o h q] at hp; cases hp
theorem but_upd {g : Addr} {H : Hp} {o : HO} : But g H (upd H g o) := fun b u n e => by rw [upd_ne n]; exact e
/-! ### data -/
abbrev Rp (α : Type) := Hp → V → α → Prop
def Mono {α : Type} (R : Rp α) : Prop := ∀ H H' v x, Keep H H' → R H v x → R H' v x
def rInt : Rp Int := fun _ v n => v = .int n
def rRow : Rp (List Int) := fun H v l => ∃ t, v = .ref t ∧ H t = some (.tup (l.map V.int))
def rPI : Rp (Int × Int) := fun H v p => ∃ t, v = .ref t ∧ H t = some (.tup [.int p.1, .int p.2])
def rTup {α : Type} (R : Rp α) : Rp (List α) := fun H v l => ∃ t xs, v = .ref t ∧ H t = some (.tup xs) ∧ Paired (R H) xs l
theorem mono_int : Mono rInt := fun _ _ _ _ _ h => h
theorem mono_row : Mono rRow := fun _ _ _ _ k ⟨t, e, h⟩ => ⟨t, e, k.tup h⟩
theorem mono_pi : Mono rPI := fun _ _ _ _ k ⟨t, e, h⟩ => ⟨t, e, k.tup h⟩
theorem paired_mono {α : Type} {R : Rp α} (m : Mono R) {H H' : Hp} (k : Keep H H') {xs : List V} {l : List α} (p : Paired (R H) xs l) : Paired (R H') xs l := Paired.mapP p fun _ _ h => m _ _ _ _ k h
theorem mono_tup {α : Type} {R : Rp α} (m : Mono R) : Mono (rTup R) := fun _ _ _ _ k ⟨t, xs, e, h, p⟩ => ⟨t, xs, e, k.tup h, paired_mono m k p⟩
theorem paired_len {α β : Type} {F : α → β → Prop} : ∀ {xs : List α} {l : List β}, Paired F xs l → xs.length = l.length := Paired.length
theorem paired_get2 {α β : Type} {F : α → β → Prop} : ∀ {xs : List α} {l : List β} {i : Nat} {y : β}, Paired F xs l → l[i]? = some y → ∃ x, xs[i]? = some x ∧ F x y
  | _, _, _, _, .nil, e => by simp at e
  | _, _, 0, _, .cons r _, e => by simp at e; subst e; exact ⟨_, rfl, r⟩
  | _, _, i + 1, x, .cons _ t, e => by
    obtain ⟨u, h1, h2⟩ := paired_get2 (i := i) (y := x) t (by simpa using e)
    exact ⟨u, by simpa using h1, h2⟩
theorem paired_int : ∀ {xs : List V} {l : List Int} {H : Hp}, Paired (rInt H) xs l → xs = l.map V.int
  | _, _, _, .nil => rfl
  | _, _, _, .cons r t => by cases r; rw [List.map_cons, paired_int t]
theorem paired_ints {H : Hp} : ∀ (l : List Int), Paired (rInt H) (l.map V.int) l
  | [] => .nil
  | _ :: r => .cons rfl (paired_ints r)
theorem paired_app {α β : Type} {F : α → β → Prop} : ∀ {xs : List α} {l : List β} {ys : List α} {m : List β}, Paired F xs l → Paired F ys m → Paired F (xs ++ ys) (l ++ m)
  | _, _, _, _, .nil, q => q
  | _, _, _, _, .cons r t, q => .cons r (paired_app t q)
theorem paired_perm {α β : Type} {F : α → β → Prop} : ∀ {ys xs : List α}, ys.Perm xs → ∀ {l : List β}, Paired F xs l → ∃ m, m.Perm l ∧ Paired F ys m := by
  intro ys xs h
  induction h with
  | nil => intro l p; cases p; exact ⟨[], .refl _, .nil⟩
  | cons x h ih => intro l p; cases p with | cons r t => obtain ⟨m, h1, h2⟩ := ih t; exact ⟨_ :: m, .cons _ h1, .cons r h2⟩
  | swap x y t => intro l p; cases p with | cons r1 p => cases p with | cons r2 p => exact ⟨_ :: _ :: _, .swap _ _ _, .cons r2 (.cons r1 p)⟩
  | trans h1 h2 ih1 ih2 => intro l p; obtain ⟨m, a, b⟩ := ih2 p; obtain ⟨m', c, d⟩ := ih1 b; exact ⟨m', c.trans a, d⟩
theorem seqt_row {K : PySem.W.Frag} {H : Hp} {t : Addr} {xs : List V} (h : H t = some (.tup xs)) : SqT K H t xs := .of h
theorem at_int {l : List Int} {i : Nat} {x : V} (h : (l.map V.int)[i]? = some x) : ∃ n, l[i]? = some n ∧ x = .int n := by
  rw [List.getElem?_map] at h
  cases e : l[i]? with
  | none => rw [e] at h; cases h
  | some n => rw [e] at h; exact ⟨n, rfl, (Option.some.inj h).symm⟩
theorem int_at {l : List Int} {i : Nat} {n : Int} (h : l[i]? = some n) : (l.map V.int)[i]? = some (.int n) := by rw [List.getElem?_map, h]; rfl
/-! ### short rules -/
section
variable {X : Cx}
theorem ty_int {p : Pos} (hm : X.mg "int" = none) (hg : Gl X "int" := by rfl) : PE X (.Name "int" p) (tC (.ty "int")) := pe_bltn hg hm (by decide +kernel) (u := .type "int") rfl
theorem ty_bool {p : Pos} (hm : X.mg "bool" = none) (hg : Gl X "bool" := by rfl) : PE X (.Name "bool" p) (tC (.ty "bool")) := pe_bltn hg hm (by decide +kernel) (u := .type "bool") rfl
theorem ty_tuple {p : Pos} (hm : X.mg "tuple" = none) (hg : Gl X "tuple" := by rfl) : PE X (.Name "tuple" p) (tC (.ty "tuple")) := pe_bltn hg hm (by decide +kernel) (u := .type "tuple") rfl
theorem ty_list {p : Pos} (hm : X.mg "list" = none) (hg : Gl X "list" := by rfl) : PE X (.Name "list" p) (tC (.ty "list")) := pe_bltn hg hm (by decide +kernel) (u := .type "list") rfl
end
section
variable {K : PySem.W.Frag}
theorem kit_ii : PySem.W.kitOne K (.type "int") (.type "int") = some true := kit_ty (by decide +kernel)
theorem kit_ib : PySem.W.kitOne K (.type "int") (.type "bool") = some false := kit_ty (by decide +kernel)
theorem kit_tt : PySem.W.kitOne K (.type "tuple") (.type "tuple") = some true := kit_ty (by decide +kernel)
end
/-! ### rules whose reading speaks of K, for the blocks of comprehensions -/
section
variable {X : Cx} {K : PySem.W.Frag}
theorem ixT (h : X.K = K) : IxR X (rIxT K) := h ▸ ix_tup
theorem ixL (h : X.K = K) : IxR X (rIxL K) := h ▸ ix_list
theorem inS (h : X.K = K) : OpR X (compareOp .In) (rIn K false) := h ▸ op_in_seq
theorem ninS (h : X.K = K) : OpR X (compareOp .NotIn) (rIn K true) := h ▸ op_notIn_seq
theorem lenS (h : X.K = K) : CallR X (.builtin "len") (fun xs H Q => ∃ p ys, xs = [.ref p] ∧ (SqL K H p ys ∨ SqT K H p ys) ∧ Q (.int ys.length) H) := h ▸ call_len_seq
theorem isiS (h : X.K = K) : CallR X (.builtin "isinstance") (rIsi K) := h ▸ call_isi
theorem piT {tg l : Expr} {tl : TE} (hh : X.K = K) (hl : PI X tg l (iTup X.K tl)) : PI X tg l (iTup K tl) := hh ▸ hl
theorem pgT {es : List Expr} {k : Nat} {t : TGs} {n : Nat} {pos : Pos} (hh : X.K = K) (hc : X.calm = true) (h : PGs X es t) (hn : (assignEach es X.env).length = n := by rfl) (hst : (assignEach es X.env).findIdx? (·.1) = none := by rfl) : PG X (.Tuple es k pos) (gTup K n t) := hh ▸ pg_tup hc h hn hst
theorem fldK {o : Expr} {ta : TE} {f : Str} {pos : Pos} (he : PE X o ta) (hh : X.K = K) (hb : attributeBase o f X.env (eval o X.env) = eval o X.env) : PE X (.Attribute o f pos) (tFld K ta f) := hh ▸ pe_fld he hb
theorem tupS (h : X.K = K) : CallR X (.type "tuple") (fun xs H Q => ∃ p ys, xs = [.ref p] ∧ ((SqL K H p ys ∧ ∀ l, H l = none → Q (.ref l) (upd H l (.tup ys))) ∨ (SqT K H p ys ∧ Q (.ref p) H))) := h ▸ call_tuple_of
end
/-! ### comprehensions -/
section
variable {J : It} {n : Nat} {G : Hp → Prop} {Y : Nat → Hp → V → Hp → Prop} {g : TG} {tt : TT} {te : TE} {vs : List Nat} {σ : St} {H1 : Hp} {D : Addr} {Qd : Hp → Prop} {α : Type}
theorem range_fm {f : Nat → Option α} {i : Nat} : (List.range (i + 1)).filterMap f = (List.range i).filterMap f ++ (f i).toList := by
  rw [List.range_succ, List.filterMap_append]
  congr 1
theorem fm_len {f : Nat → Option α} {i : Nat} : ((List.range i).filterMap f).length ≤ i := by
  have := List.length_filterMap_le f (List.range i)
  rw [List.length_range] at this
  exact this
/-- the list at D holds what f tells of the turns so far, all else stays -/
def PvFm (R : Rp α) (f : Nat → Option α) (D : Addr) (H1 : Hp) (i : Nat) (H : Hp) : Prop := Same H1 H ∧ ∃ xs, H D = some (.lst xs) ∧ Paired (R H) xs ((List.range i).filterMap f)
theorem fm_keep {R : Rp α} (m : Mono R) {f : Nat → Option α} {i : Nat} {H H4 : Hp} {y : V} {a : α} (p : PvFm R f D H1 i H) (hD : H1 D = none) (hi : i ≤ 100000) (s4 : Same H H4) (ea : f i = some a) (ra : R H4 y a) :
    ∃ acc, H4 D = some (.lst acc) ∧ acc.length < sizeLine ∧ PvFm R f D H1 (i + 1) (upd H4 D (.lst (acc ++ [y]))) := by
  obtain ⟨s, xs, h1, h2⟩ := p
  have hl : xs.length ≤ i := by rw [paired_len h2]; exact fm_len
  have hD4 : H4 D = some (.lst xs) := s4 _ _ h1
  have k5 : Keep H4 (upd H4 D (.lst (xs ++ [y]))) := keep_lst hD4
  refine ⟨xs, hD4, Nat.lt_of_le_of_lt (Nat.le_trans hl hi) (by decide), same_own (s.trans s4) hD, xs ++ [y], upd_same, ?_⟩
  rw [range_fm, ea]
  exact paired_app (paired_mono m k5 (paired_mono m s4.keep h2)) (.cons (m _ _ _ _ k5 ra) .nil)
theorem fm_skip {R : Rp α} (m : Mono R) {f : Nat → Option α} {i : Nat} {H H3 : Hp} (p : PvFm R f D H1 i H) (s3 : Same H H3) (e : f i = none) : PvFm R f D H1 (i + 1) H3 := by
  obtain ⟨s, xs, h1, h2⟩ := p
  refine ⟨s.trans s3, xs, s3 _ _ h1, ?_⟩
  rw [range_fm, e]
  simpa using paired_mono m s3.keep h2
/-- a comprehension that makes a list of what f tells, all else staying -/
theorem lc_fm (w : Walk J n G Y) (R : Rp α) (f : Nat → Option α) (hD : H1 D = none) (hG : ∀ H, Same H1 H → G H)
    (hs : ∀ i x H H', i < n → PvFm R f D H1 i H → Y i H x H' → g x (wipe σ vs) H' fun σ2 H2 => wipe σ2 vs = wipe σ vs ∧ tt σ2 H2 fun b H3 =>
      if b = true then te σ2 H3 fun y H4 => ∃ acc, H4 D = some (.lst acc) ∧ acc.length < sizeLine ∧ PvFm R f D H1 (i + 1) (upd H4 D (.lst (acc ++ [y]))) else PvFm R f D H1 (i + 1) H3)
    (hd : ∀ H xs, Same H1 H → H D = some (.lst xs) → Paired (R H) xs ((List.range n).filterMap f) → Qd H) :
    ∃ W : Nat → Nat → Hp → Prop, (∃ m, W 0 m (upd H1 D (.lst []))) ∧ ∀ i m H, W i m H →
      (J.stop i H ∧ Qd H) ∨ (J.go i H ∧ ∃ Nx : Hp → Prop, (∀ H', Nx H' → ∃ m', m' < m ∧ W (i + 1) m' H') ∧ ∀ x H', J.yld i H x H' → g x (wipe σ vs) H' fun σ2 H2 => wipe σ2 vs = wipe σ vs ∧ tt σ2 H2 fun b H3 =>
        if b = true then te σ2 H3 fun y H4 => ∃ acc, H4 D = some (.lst acc) ∧ acc.length < sizeLine ∧ Nx (upd H4 D (.lst (acc ++ [y]))) else Nx H3) :=
  lc_it w (PvFm R f D H1) ⟨same_new hD, [], upd_same, .nil⟩ (fun i H _ h => hG H h.1) hs (fun H ⟨s, xs, h1, h2⟩ => hd H xs s h1 h2)
theorem fm_all {β : Type} (h : Nat → β) : ∀ n : Nat, (List.range n).filterMap (fun i => some (h i)) = (List.range n).map h := fun n => by rw [List.filterMap_eq_map']
theorem fm_list {β : Type} (l : List α) (h : α → Option β) : (List.range l.length).filterMap (fun i => l[i]?.bind h) = l.filterMap h := by
  have e : ∀ (m : Nat), m ≤ l.length → (List.range m).filterMap (fun i => l[i]?.bind h) = (l.take m).filterMap h := by
    intro m
    induction m with
    | zero => intro _; rfl
    | succ m ih =>
      intro hm
      rw [range_fm, ih (by omega), List.take_succ, List.filterMap_append]
      congr 1
      have hl : l[m]? = some l[m] := List.getElem?_eq_getElem (by omega)
      rw [hl]
      show (h l[m]).toList = List.filterMap h [l[m]]
      rw [List.filterMap_cons]
      cases h l[m] <;> rfl
  have := e l.length (Nat.le_refl _)
  rwa [List.take_length] at this
end
/-! ### sorted(a list of pairs of ints), by what the pairs are -/
def lxLt (a b : Int × Int) : Prop := a.1 < b.1 ∨ (a.1 = b.1 ∧ a.2 < b.2)
instance (a b : Int × Int) : Decidable (lxLt a b) := by unfold lxLt; infer_instance
def lxLe (a b : Int × Int) : Prop := ¬ lxLt b a
noncomputable def kOf (H : Hp) (v : V) : Int × Int := open Classical in if h : ∃ z, rPI H v z then h.choose else (0, 0)
theorem kOf_eq {H : Hp} {v : V} {z : Int × Int} (h : rPI H v z) : kOf H v = z := by
  have hx : ∃ z, rPI H v z := ⟨z, h⟩
  have e : kOf H v = hx.choose := by unfold kOf; rw [dif_pos hx]
  rw [e]
  obtain ⟨t, e1, h1⟩ := hx.choose_spec
  obtain ⟨t', e2, h2⟩ := h
  rw [e1] at e2
  cases e2
  rw [h1] at h2
  have h3 := Option.some.inj h2
  injection h3 with h3
  injection h3 with a b
  injection b with b _
  exact Prod.ext (V.int.inj a) (V.int.inj b)
theorem kOf_map {H : Hp} : ∀ {xs : List V} {l : List (Int × Int)}, Paired (rPI H) xs l → xs.map (kOf H) = l
  | _, _, .nil => rfl
  | _, _, .cons r t => by rw [List.map_cons, kOf_eq r, kOf_map t]
theorem paired_kOf {H : Hp} : ∀ {ys : List V}, (∀ y ∈ ys, rPI H y (kOf H y)) → Paired (rPI H) ys (ys.map (kOf H))
  | [], _ => .nil
  | y :: ys, h => .cons (h y (by simp)) (paired_kOf fun z hz => h z (by simp [hz]))
theorem paired_mem {α β : Type} {F : α → β → Prop} : ∀ {xs : List α} {l : List β} {x : α}, Paired F xs l → x ∈ xs → ∃ y ∈ l, F x y
  | _, _, _, .nil, h => by simp at h
  | _, _, _, .cons r t, h => by
    rcases List.mem_cons.mp h with rfl | h
    · exact ⟨_, by simp, r⟩
    · obtain ⟨y, hy, f⟩ := paired_mem t h
      exact ⟨y, by simp [hy], f⟩
def rSortedPD (K : PySem.W.Frag) : List V → Hp → VK → Prop := fun vs H Q => ∃ (a : Addr) (xs : List V) (l : List (Int × Int)), vs = [V.ref a] ∧ SqL K H a xs ∧ Paired (rPI H) xs l ∧
  ∀ ys m p, Paired (rPI H) ys m → m.Perm l → m.Pairwise lxLe → H p = none → Q (.ref p) (upd H p (.lst ys))
theorem cr_sortedPD {X : Cx} : CallR X (.builtin "sorted") (rSortedPD X.K) := by
  intro pins s σ H vs us Q I r h
  obtain ⟨a, xs, l, rfl, hs, hp, q⟩ := h
  refine cr_sortedPO pins s σ H _ us Q I r ⟨a, xs, kOf H, rfl, hs, fun x hx => ?_, fun ys p h1 h2 np => ?_⟩
  · obtain ⟨z, _, hz⟩ := paired_mem hp hx
    rw [kOf_eq hz]
    exact hz
  · refine q ys (ys.map (kOf H)) p (paired_kOf fun y hy => ?_) ?_ ?_ np
    · obtain ⟨z, _, hz⟩ := paired_mem hp (h2.perm.mem_iff.mp hy)
      rw [kOf_eq hz]
      exact hz
    · rw [← kOf_map hp]
      exact h2.perm.map _
    · rw [List.pairwise_map]
      exact h1.imp fun {a b} h q => by
        have := SrtO.lexB_iff.mpr q
        rw [show ltP (kOf H) b a = true from this] at h
        cases h
theorem lxLt_tri (a b : Int × Int) : lxLt a b ∨ a = b ∨ lxLt b a := by
  unfold lxLt
  by_cases h1 : a.1 = b.1
  · by_cases h2 : a.2 = b.2
    · exact .inr (.inl (Prod.ext h1 h2))
    · omega
  · omega
theorem lxLe_antisymm {a b : Int × Int} (h1 : lxLe a b) (h2 : lxLe b a) : a = b := by
  rcases lxLt_tri a b with h | h | h
  · exact absurd h h2
  · exact h
  · exact absurd h h1
theorem lxLe_trans {a b c : Int × Int} (h1 : lxLe a b) (h2 : lxLe b c) : lxLe a c := by
  unfold lxLe lxLt at *
  omega
/-- two ascending lists of the same pairs are one -/
theorem lex_same : ∀ {l m : List (Int × Int)}, l.Perm m → l.Pairwise lxLe → m.Pairwise lxLe → l = m := fun {l m} h h1 h2 =>
  h.eq_of_pairwise (fun a b _ _ p q => lxLe_antisymm p q) h1 h2
theorem up_same : ∀ {l m : List Int}, l.Perm m → l.Pairwise (· ≤ ·) → m.Pairwise (· ≤ ·) → l = m := fun {l m} h h1 h2 =>
  h.eq_of_pairwise (fun a b _ _ p q => Int.le_antisymm p q) h1 h2
/-- ascending, none twice -/
theorem lex_strict {l : List (Int × Int)} (h1 : l.Pairwise lxLe) (h2 : l.Nodup) : l.Pairwise lxLt := by
  have := List.pairwise_and_iff.mpr ⟨h1, h2⟩
  exact this.imp fun {a b} ⟨p, q⟩ => by
    rcases lxLt_tri a b with h | h | h
    · exact h
    · exact absurd h q
    · exact absurd h p
/-! ### a walk, whatever its turn asks; comprehensions with two loops -/
section
variable {J : It} {n : Nat} {G : Hp → Prop} {Y : Nat → Hp → V → Hp → Prop} {H0 H1 : Hp} {D : Addr} {Qd : Hp → Prop} {α : Type}
theorem walk_W (w : Walk J n G Y) (B : (Hp → Prop) → V → Hp → Prop) (Pv : Nat → Hp → Prop) (h0 : Pv 0 H0) (hG : ∀ i H, i ≤ n → Pv i H → G H)
    (hs : ∀ i x H H', i < n → Pv i H → Y i H x H' → B (Pv (i + 1)) x H') (hd : ∀ H, Pv n H → Qd H) :
    ∃ W : Nat → Nat → Hp → Prop, (∃ m, W 0 m H0) ∧ ∀ i m H, W i m H →
      (J.stop i H ∧ Qd H) ∨ (J.go i H ∧ ∃ Nx : Hp → Prop, (∀ H', Nx H' → ∃ m', m' < m ∧ W (i + 1) m' H') ∧ ∀ x H', J.yld i H x H' → B Nx x H') := by
  refine ⟨fun i m H => m = n - i ∧ i ≤ n ∧ Pv i H, ⟨n, by simp, Nat.zero_le _, h0⟩, ?_⟩
  rintro i m H ⟨rfl, hi, p⟩
  have q := hG i H hi p
  by_cases hlt : i < n
  · exact .inr ⟨w.goes i H hlt q, Pv (i + 1), fun H' p' => ⟨n - (i + 1), by omega, rfl, hlt, p'⟩, fun x H' y => hs i x H H' hlt p (w.yields i H x H' hlt q y)⟩
  · have e : i = n := by omega
    subst e
    exact .inl ⟨w.stops H q, hd H p⟩
/-- the list at D holds what the turns of the outer loop have told -/
def PvFl (R : Rp α) (F : Nat → List α) (D : Addr) (H1 : Hp) (i : Nat) (H : Hp) : Prop := Same H1 H ∧ ∃ xs, H D = some (.lst xs) ∧ Paired (R H) xs ((List.range i).flatMap F)
/-- within a turn: the first j of l have come -/
def PvIn (R : Rp α) (pre l : List α) (D : Addr) (H1 Hb : Hp) (j : Nat) (H : Hp) : Prop := Same H1 H ∧ Keep Hb H ∧ ∃ xs, H D = some (.lst xs) ∧ Paired (R H) xs (pre ++ l.take j)
theorem fl_start {R : Rp α} {F : Nat → List α} (hD : H1 D = none) : PvFl R F D H1 0 (upd H1 D (.lst [])) := ⟨same_new hD, [], upd_same, .nil⟩
theorem fl_in {R : Rp α} (m : Mono R) {F : Nat → List α} {i : Nat} {H H4 : Hp} (p : PvFl R F D H1 i H) (s : Same H H4) : PvIn R ((List.range i).flatMap F) (F i) D H1 H4 0 H4 := by
  obtain ⟨s1, xs, h1, h2⟩ := p
  refine ⟨s1.trans s, .refl _, xs, s _ _ h1, ?_⟩
  rw [List.take_zero, List.append_nil]
  exact paired_mono m s.keep h2
theorem in_keep {R : Rp α} (m : Mono R) {pre l : List α} {j : Nat} {H H4 Hb : Hp} {y : V} {a : α} (p : PvIn R pre l D H1 Hb j H) (hD : H1 D = none) (hz : pre.length + j ≤ 100000) (s4 : Same H H4) (ea : l[j]? = some a) (ra : R H4 y a) :
    ∃ acc, H4 D = some (.lst acc) ∧ acc.length < sizeLine ∧ PvIn R pre l D H1 Hb (j + 1) (upd H4 D (.lst (acc ++ [y]))) := by
  obtain ⟨s, kb, xs, h1, h2⟩ := p
  have hl : xs.length ≤ pre.length + j := by rw [paired_len h2, List.length_append, List.length_take]; omega
  have hD4 : H4 D = some (.lst xs) := s4 _ _ h1
  have k5 : Keep H4 (upd H4 D (.lst (xs ++ [y]))) := keep_lst hD4
  refine ⟨xs, hD4, Nat.lt_of_le_of_lt (Nat.le_trans hl hz) (by decide), same_own (s.trans s4) hD, (kb.trans s4.keep).trans k5, xs ++ [y], upd_same, ?_⟩
  rw [List.take_succ, ea, ← List.append_assoc]
  exact paired_app (paired_mono m k5 (paired_mono m s4.keep h2)) (.cons (m _ _ _ _ k5 ra) .nil)
theorem in_fl {R : Rp α} {F : Nat → List α} {i n : Nat} {H Hb : Hp} (hn : n = (F i).length) (p : PvIn R ((List.range i).flatMap F) (F i) D H1 Hb n H) : PvFl R F D H1 (i + 1) H := by
  obtain ⟨s, _, xs, h1, h2⟩ := p
  refine ⟨s, xs, h1, ?_⟩
  rw [hn, List.take_length] at h2
  rw [List.range_succ, List.flatMap_append, List.flatMap_singleton]
  exact h2
theorem fl_list {β : Type} (l : List β) (h : β → List α) : (List.range l.length).flatMap (fun i => (l[i]?.map h).getD []) = l.flatMap h := by
  have e : ∀ (m : Nat), m ≤ l.length → (List.range m).flatMap (fun i => (l[i]?.map h).getD []) = (l.take m).flatMap h := by
    intro m
    induction m with
    | zero => intro _; rfl
    | succ m ih =>
      intro hm
      have hl : l[m]? = some l[m] := List.getElem?_eq_getElem (by omega)
      rw [List.range_succ, List.flatMap_append, ih (by omega), List.take_succ, List.flatMap_append, hl, List.flatMap_singleton, hl]
      simp
  have := e l.length (Nat.le_refl _)
  rwa [List.take_length] at this
end
theorem rgV_int (a b : Int) : rgV a b = ((List.range (b - a).toNat).map fun (i : Nat) => a + (i : Int)).map V.int := by
  unfold rgV
  rw [List.map_map]
  rfl
theorem cutV_upto (xs : List V) (k : Nat) : cutV xs none (some (k : Int)) = xs.take k := by
  unfold cutV
  rw [HT.sIx_none, HT.sIx_nat, List.drop_zero, Nat.sub_zero]
  by_cases h : k ≤ xs.length
  · rw [Nat.min_eq_left h]
  · rw [Nat.min_eq_right (by omega), List.take_of_length_le (Nat.le_refl _), List.take_of_length_le (by omega)]
/-- t[:k] -/
theorem slice_upto {K : PySem.W.Frag} {H : Hp} {a : Addr} {xs : List V} {k : Nat} {Q : VK} (h : H a = some (.tup xs)) (q : ∀ H' p, Same H H' → H' p = some (.tup (xs.take k)) → Q (.ref p) H') : rSlA K (.ref a) none (some (k : Int)) H Q := by
  refine ⟨a, xs, rfl, .of h, fun e => q H a (.refl _) ?_, fun _ p np => ?_⟩
  · rw [HT.sIx_nat] at e
    rw [List.take_of_length_le (by omega)]
    exact h
  · rw [cutV_upto]
    exact q _ p (same_new np) upd_same
end TT

namespace S4
open PySem L2 TT
/-! ### the text by places -/
def top (i : Nat) : Stmt := PySem.Challenge.pw_sametolls_k24_whole_openings_tick_by_tic.main.body.getD i (.Pass ⟨0, 0, 0, 0⟩)
abbrev s_is_integer : Stmt := top 7
abbrev s_is_below : Stmt := top 8
abbrev s_is_pair : Stmt := top 9
abbrev s_are_openings : Stmt := top 16
abbrev s_is_opening : Stmt := top 17
abbrev s_are_turns : Stmt := top 18
abbrev s_even_timing : Stmt := top 19
abbrev s_check_breadth : Stmt := top 20
abbrev s_places : Stmt := top 21
abbrev s_carried : Stmt := top 22
abbrev s_opening_at : Stmt := top 23
abbrev s_are_neighbours : Stmt := top 24
abbrev s_law_whole : Stmt := top 26
abbrev s_law_draw : Stmt := top 27
abbrev s_law_deep : Stmt := top 28
abbrev s_law_is : Stmt := top 29
abbrev s_law_hand : Stmt := top 30
abbrev s_law_opening : Stmt := top 31
abbrev s_law_timing_parts : Stmt := top 32
abbrev s_law_places : Stmt := top 33
abbrev s_law_is_opening : Stmt := top 34
abbrev s_law_due : Stmt := top 35
abbrev s_law_tried : Stmt := top 36
abbrev s_law_bent : Stmt := top 37
abbrev s_law_carried : Stmt := top 38
abbrev s_law_word : Stmt := top 39
abbrev s_law_refused_right : Stmt := top 40
abbrev s_law_even_right : Stmt := top 41
abbrev s_law : Stmt := top 42
abbrev s_BadTiming : Stmt := inClass (top 5) 0
abbrev s_Timing : Stmt := inClass (top 15) 0
abbrev s_Timing_eq : Stmt := inClass (top 15) 1
abbrev N_is_integer : List Str := ["thing"]
theorem sc_is_integer : FnScope N_is_integer ["thing"] (defScope s_is_integer) := ⟨rfl, rfl, rfl, by decide +kernel, rfl, by decide +kernel, by decide +kernel⟩
abbrev N_is_below : List Str := ["thing", "end"]
theorem sc_is_below : FnScope N_is_below ["thing", "end"] (defScope s_is_below) := ⟨rfl, rfl, rfl, by decide +kernel, rfl, by decide +kernel, by decide +kernel⟩
abbrev N_is_pair : List Str := ["thing"]
theorem sc_is_pair : FnScope N_is_pair ["thing"] (defScope s_is_pair) := ⟨rfl, rfl, rfl, by decide +kernel, rfl, by decide +kernel, by decide +kernel⟩
abbrev N_are_openings : List Str := ["things", "thing"]
theorem sc_are_openings : FnScope N_are_openings ["things"] (defScope s_are_openings) := ⟨rfl, rfl, rfl, by decide +kernel, rfl, by decide +kernel, by decide +kernel⟩
abbrev N_is_opening : List Str := ["thing"]
theorem sc_is_opening : FnScope N_is_opening ["thing"] (defScope s_is_opening) := ⟨rfl, rfl, rfl, by decide +kernel, rfl, by decide +kernel, by decide +kernel⟩
abbrev N_are_turns : List Str := ["thing", "places_then"]
theorem sc_are_turns : FnScope N_are_turns ["thing"] (defScope s_are_turns) := ⟨rfl, rfl, rfl, by decide +kernel, rfl, by decide +kernel, by decide +kernel⟩
abbrev N_even_timing : List Str := ["ties", "breadth", "openings"]
theorem sc_even_timing : FnScope N_even_timing ["ties", "breadth"] (defScope s_even_timing) := ⟨rfl, rfl, rfl, by decide +kernel, rfl, by decide +kernel, by decide +kernel⟩
abbrev N_check_breadth : List Str := ["breadth"]
theorem sc_check_breadth : FnScope N_check_breadth ["breadth"] (defScope s_check_breadth) := ⟨rfl, rfl, rfl, by decide +kernel, rfl, by decide +kernel, by decide +kernel⟩
abbrev N_places : List Str := ["timing", "way", "tick", "begin", "turns"]
theorem sc_places : FnScope N_places ["timing", "way", "tick"] (defScope s_places) := ⟨rfl, rfl, rfl, by decide +kernel, rfl, by decide +kernel, by decide +kernel⟩
abbrev N_carried : List Str := ["timing", "way", "tick", "begin", "turns", "whole", "more"]
theorem sc_carried : FnScope N_carried ["timing", "way", "tick"] (defScope s_carried) := ⟨rfl, rfl, rfl, by decide +kernel, rfl, by decide +kernel, by decide +kernel⟩
abbrev N_opening_at : List Str := ["timing", "way", "tick", "here", "there"]
theorem sc_opening_at : FnScope N_opening_at ["timing", "way", "tick"] (defScope s_opening_at) := ⟨rfl, rfl, rfl, by decide +kernel, rfl, by decide +kernel, by decide +kernel⟩
abbrev N_are_neighbours : List Str := ["posts", "thing", "post"]
theorem sc_are_neighbours : FnScope N_are_neighbours ["posts", "thing"] (defScope s_are_neighbours) := ⟨rfl, rfl, rfl, by decide +kernel, rfl, by decide +kernel, by decide +kernel⟩
abbrev N_law_whole : List Str := ["thing", "least", "most"]
theorem sc_law_whole : FnScope N_law_whole ["thing", "least", "most"] (defScope s_law_whole) := ⟨rfl, rfl, rfl, by decide +kernel, rfl, by decide +kernel, by decide +kernel⟩
abbrev N_law_draw : List Str := ["hand", "many", "cell", "digit", "number"]
theorem sc_law_draw : FnScope N_law_draw ["hand", "many"] (defScope s_law_draw) := ⟨rfl, rfl, rfl, by decide +kernel, rfl, by decide +kernel, by decide +kernel⟩
abbrev N_law_deep : List Str := ["hand", "found", "turn"]
theorem sc_law_deep : FnScope N_law_deep ["hand"] (defScope s_law_deep) := ⟨rfl, rfl, rfl, by decide +kernel, rfl, by decide +kernel, by decide +kernel⟩
abbrev N_law_is : List Str := ["told", "due", "one", "two"]
theorem sc_law_is : FnScope N_law_is ["told", "due"] (defScope s_law_is) := ⟨rfl, rfl, rfl, by decide +kernel, rfl, by decide +kernel, by decide +kernel⟩
abbrev N_law_hand : List Str := ["script", "cells", "cell"]
theorem sc_law_hand : FnScope N_law_hand ["script"] (defScope s_law_hand) := ⟨rfl, rfl, rfl, by decide +kernel, rfl, by decide +kernel, by decide +kernel⟩
abbrev N_law_opening : List Str := ["hand", "begin", "kind", "turn"]
theorem sc_law_opening : FnScope N_law_opening ["hand"] (defScope s_law_opening) := ⟨rfl, rfl, rfl, by decide +kernel, rfl, by decide +kernel, by decide +kernel⟩
abbrev N_law_timing_parts : List Str := ["hand", "ties", "right", "tie"]
theorem sc_law_timing_parts : FnScope N_law_timing_parts ["hand", "ties"] (defScope s_law_timing_parts) := ⟨rfl, rfl, rfl, by decide +kernel, rfl, by decide +kernel, by decide +kernel⟩
abbrev N_law_places : List Str := ["opening", "tick", "begin", "later"]
theorem sc_law_places : FnScope N_law_places ["opening", "tick"] (defScope s_law_places) := ⟨rfl, rfl, rfl, by decide +kernel, rfl, by decide +kernel, by decide +kernel⟩
abbrev N_law_is_opening : List Str := ["thing", "some", "number"]
theorem sc_law_is_opening : FnScope N_law_is_opening ["thing"] (defScope s_law_is_opening) := ⟨rfl, rfl, rfl, by decide +kernel, rfl, by decide +kernel, by decide +kernel⟩
abbrev N_law_due : List Str := ["right", "left", "one"]
theorem sc_law_due : FnScope N_law_due ["right", "left"] (defScope s_law_due) := ⟨rfl, rfl, rfl, by decide +kernel, rfl, by decide +kernel, by decide +kernel⟩
abbrev N_law_tried : List Str := ["right", "left", "found", "made", "e"]
theorem sc_law_tried : FnScope N_law_tried ["right", "left"] (defScope s_law_tried) := ⟨rfl, rfl, rfl, by decide +kernel, rfl, by decide +kernel, by decide +kernel⟩
abbrev N_law_bent : List Str := ["hand", "some", "at", "number", "odd", "bent"]
theorem sc_law_bent : FnScope N_law_bent ["hand", "some"] (defScope s_law_bent) := ⟨rfl, rfl, rfl, by decide +kernel, rfl, by decide +kernel, by decide +kernel⟩
abbrev N_law_carried : List Str := ["opening", "tick", "begin", "later", "left"]
theorem sc_law_carried : FnScope N_law_carried ["opening", "tick"] (defScope s_law_carried) := ⟨rfl, rfl, rfl, by decide +kernel, rfl, by decide +kernel, by decide +kernel⟩
abbrev N_law_word : List Str := ["which", "timing", "way", "tick", "word", "e", "flags"]
theorem sc_law_word : FnScope N_law_word ["which", "timing", "way", "tick"] (defScope s_law_word) := ⟨rfl, rfl, rfl, by decide +kernel, rfl, by decide +kernel, by decide +kernel⟩
abbrev N_law_refused_right : List Str := ["hand", "timing", "ties", "way", "tick", "fine", "due", "post", "which"]
theorem sc_law_refused_right : FnScope N_law_refused_right ["hand", "timing", "ties"] (defScope s_law_refused_right) := ⟨rfl, rfl, rfl, by decide +kernel, rfl, by decide +kernel, by decide +kernel⟩
abbrev N_law_even_right : List Str := ["hand", "ties", "breadth", "fine", "told", "e", "tick", "tie", "way"]
theorem sc_law_even_right : FnScope N_law_even_right ["hand"] (defScope s_law_even_right) := ⟨rfl, rfl, rfl, by decide +kernel, rfl, by decide +kernel, by decide +kernel⟩
abbrev N_law : List Str := ["script", "hand", "kept", "turn", "ties", "right", "left", "timing", "tie", "way", "opening", "total", "tick", "far", "bent", "one", "first", "other", "second"]
theorem sc_law : FnScope N_law ["script"] (defScope s_law) := ⟨rfl, rfl, rfl, by decide +kernel, rfl, by decide +kernel, by decide +kernel⟩
abbrev N_BadTiming : List Str := ["self", "part"]
theorem sc_BadTiming : FnScope N_BadTiming ["self", "part"] (defScope s_BadTiming) := ⟨rfl, rfl, rfl, by decide +kernel, rfl, by decide +kernel, by decide +kernel⟩
abbrev N_Timing : List Str := ["self", "right", "left"]
theorem sc_Timing : FnScope N_Timing ["self", "right", "left"] (defScope s_Timing) := ⟨rfl, rfl, rfl, by decide +kernel, rfl, by decide +kernel, by decide +kernel⟩
abbrev N_Timing_eq : List Str := ["self", "other"]
theorem sc_Timing_eq : FnScope N_Timing_eq ["self", "other"] (defScope s_Timing_eq) := ⟨rfl, rfl, rfl, by decide +kernel, rfl, by decide +kernel, by decide +kernel⟩
/-! ### the facts of the top -/
structure D (K : PySem.W.Frag) (mg : Str → Option Value) (x : Str) (st : Stmt) (ps : List Str) (f : Addr) (fd : FuncData) : Prop where
  F : Fun K x x st f fd
  b : Binds K fd ps []
  m : mg x = some (.ref f)
abbrev DE (K : PySem.W.Frag) (mg : Str → Option Value) (x : Str) (st : Stmt) (ps : List Str) : Prop := ∃ f fd, D K mg x st ps f fd
theorem DE.mk {K : PySem.W.Frag} {h : Heap} {mg : Str → Option Value} {x : Str} {st : Stmt} {ps : List Str} {f : Addr} {oc : Value} {od an : Option Addr} {osl : Array (Option Value)} {kV doc pm cdv ct : Value} (X : K.In h) (G : h.Ns mainGlobals mg)
    (hb : ∀ (kV doc pm : Value) (an : Option Addr) (cdv ct : Value) (us : List Value), us.length = ps.length → bindArgs (PySem.W.fnOf x x (defArgs st) (defBody st) (defScope st) .none kV doc pm an cdv ct) ⟨us, []⟩ = pure (ps.zip us))
    (a : PySem.W.nsIn K mainGlobals x = some (some (.ref f)))
    (l : K.lookup f = some ⟨oc, od, .func (PySem.W.fnOf x x (defArgs st) (defBody st) (defScope st) .none kV doc pm an cdv ct), osl⟩) (c : PySem.W.codeIn K cdv x = true) (k : PySem.W.keepIn K (.ref f) = true) : DE K mg x st ps :=
  ⟨f, _, fun_mk l c k, (fun_mk l c k).binds hb, PySem.W.mg_of X G a⟩
/-- a class with its __init__ -/
structure DC (K : PySem.W.Frag) (mg : Str → Option Value) (x : Str) (q : Str) (st : Stmt) (ps : List Str) (fl : List Str) (C f : Addr) (fd : FuncData) : Prop where
  F : Fun K "__init__" q st f fd
  b : Binds K fd ps []
  m : mg x = some (.ref C)
  mkf : Mk K C f
  cl : Cls K C
  na : ∀ y ∈ fl, NoAttr K C y
/-- the address of a class by its name -/
def adr (mg : Str → Option Value) (x : Str) : Addr := match mg x with
  | some (.ref a) => a
  | _ => 0
theorem adr_of {mg : Str → Option Value} {x : Str} {a : Addr} (h : mg x = some (.ref a)) : adr mg x = a := by unfold adr; rw [h]
/-- a method m of the class at C -/
structure DM (K : PySem.W.Frag) (m : Str) (q : Str) (st : Stmt) (ps : List Str) (C f : Addr) (fd : FuncData) : Prop where
  F : Fun K m q st f fd
  b : Binds K fd ps []
  fi : PySem.W.findIn K (.ref C) m = some (some (.ref f))
  fn : PySem.W.isFn K (.ref f) = true
/-- an exception class -/
structure EX (K : PySem.W.Frag) (mg : Str → Option Value) (x : Str) (C : Addr) : Prop where
  m : mg x = some (.ref C)
  kp : PySem.W.keepIn K (.ref C) = true
  ty : PySem.W.typeIn K (.ref C) = some (.type "type")
  ec : ExcC K C
  ve : PySem.W.kitOne K (.ref C) (.type "ValueError") = some true
/-- .. without an own __init__ -/
def EPl (K : PySem.W.Frag) (C : Addr) : Prop := PySem.W.excIn K C [.type "ValueError", .type "Exception", .type "BaseException", .type "object"] "ValueError.__new__" = true
/-- .. with one -/
structure EI (K : PySem.W.Frag) (q : Str) (st : Stmt) (ps : List Str) (fl : List Str) (C f : Addr) (fd : FuncData) : Prop where
  F : Fun K "__init__" q st f fd
  b : Binds K fd ps []
  oc : OexC K C
  iC : PySem.W.findIn K (.ref C) "__init__" = some (some (.ref f))
  tI : PySem.W.typeIn K (.ref f) = some (.type "function")
  no : ∀ y ∈ fl, PySem.W.findIn K (.ref C) y = some none
structure Tx (K : PySem.W.Frag) (mg : Str → Option Value) (cT cS : Addr) : Prop where
  b_abs : mg "abs" = none
  b_all : mg "all" = none
  b_bool : mg "bool" = none
  b_divmod : mg "divmod" = none
  b_int : mg "int" = none
  b_isinstance : mg "isinstance" = none
  b_len : mg "len" = none
  b_list : mg "list" = none
  b_range : mg "range" = none
  b_sum : mg "sum" = none
  b_tuple : mg "tuple" = none
  b_zip : mg "zip" = none
  c_MOST_TIES : ∃ t, mg "MOST_TIES" = some (.int 23 t)
  c_MOST_TURNS : ∃ t, mg "MOST_TURNS" = some (.int 40 t)
  c_MOST_PLACES : ∃ t, mg "MOST_PLACES" = some (.int 8 t)
  c_LAST_TICK : ∃ t, mg "LAST_TICK" = some (.int 1000000000 t)
  d_is_integer : DE K mg "is_integer" s_is_integer ["thing"]
  d_is_below : DE K mg "is_below" s_is_below ["thing", "end"]
  d_is_pair : DE K mg "is_pair" s_is_pair ["thing"]
  d_are_openings : DE K mg "are_openings" s_are_openings ["things"]
  d_is_opening : DE K mg "is_opening" s_is_opening ["thing"]
  d_are_turns : DE K mg "are_turns" s_are_turns ["thing"]
  d_even_timing : DE K mg "even_timing" s_even_timing ["ties", "breadth"]
  d_check_breadth : DE K mg "check_breadth" s_check_breadth ["breadth"]
  d_places : DE K mg "places" s_places ["timing", "way", "tick"]
  d_carried : DE K mg "carried" s_carried ["timing", "way", "tick"]
  d_opening_at : DE K mg "opening_at" s_opening_at ["timing", "way", "tick"]
  d_are_neighbours : DE K mg "are_neighbours" s_are_neighbours ["posts", "thing"]
  d_law_whole : DE K mg "_law_whole" s_law_whole ["thing", "least", "most"]
  d_law_draw : DE K mg "_law_draw" s_law_draw ["hand", "many"]
  d_law_deep : DE K mg "_law_deep" s_law_deep ["hand"]
  d_law_is : DE K mg "_law_is" s_law_is ["told", "due"]
  d_law_hand : DE K mg "_law_hand" s_law_hand ["script"]
  d_law_opening : DE K mg "_law_opening" s_law_opening ["hand"]
  d_law_timing_parts : DE K mg "_law_timing_parts" s_law_timing_parts ["hand", "ties"]
  d_law_places : DE K mg "_law_places" s_law_places ["opening", "tick"]
  d_law_is_opening : DE K mg "_law_is_opening" s_law_is_opening ["thing"]
  d_law_due : DE K mg "_law_due" s_law_due ["right", "left"]
  d_law_tried : DE K mg "_law_tried" s_law_tried ["right", "left"]
  d_law_bent : DE K mg "_law_bent" s_law_bent ["hand", "some"]
  d_law_carried : DE K mg "_law_carried" s_law_carried ["opening", "tick"]
  d_law_word : DE K mg "_law_word" s_law_word ["which", "timing", "way", "tick"]
  d_law_refused_right : DE K mg "_law_refused_right" s_law_refused_right ["hand", "timing", "ties"]
  d_law_even_right : DE K mg "_law_even_right" s_law_even_right ["hand"]
  d_law : DE K mg "law" s_law ["script"]
  k_Timing : ∃ f fd, DC K mg "Timing" "Timing.__init__" s_Timing ["self", "right", "left"] ["right", "left"] (adr mg "Timing") f fd
  i_Timing : C8.InsC K (adr mg "Timing")
  t_Timing : PySem.W.typeIn K (.ref (adr mg "Timing")) = some (.type "type")
  m_Timing_eq : ∃ f fd, DM K "__eq__" "Timing.__eq__" s_Timing_eq ["self", "other"] (adr mg "Timing") f fd
  e_TollError : EX K mg "TollError" (adr mg "TollError")
  p_TollError : EPl K (adr mg "TollError")
  e_NoNumber : EX K mg "NoNumber" (adr mg "NoNumber")
  p_NoNumber : EPl K (adr mg "NoNumber")
  e_NoWay : EX K mg "NoWay" (adr mg "NoWay")
  p_NoWay : EPl K (adr mg "NoWay")
  e_NoTick : EX K mg "NoTick" (adr mg "NoTick")
  p_NoTick : EPl K (adr mg "NoTick")
  e_BadTiming : EX K mg "BadTiming" (adr mg "BadTiming")
  n_BadTiming : ∃ f fd, EI K "BadTiming.__init__" s_BadTiming ["self", "part"] ["part"] (adr mg "BadTiming") f fd
  u_TollError_TollError : PySem.W.subIn K (.ref (adr mg "TollError")) (.ref (adr mg "TollError")) = some true
  u_TollError_NoNumber : PySem.W.subIn K (.ref (adr mg "TollError")) (.ref (adr mg "NoNumber")) = some false
  u_TollError_NoWay : PySem.W.subIn K (.ref (adr mg "TollError")) (.ref (adr mg "NoWay")) = some false
  u_TollError_NoTick : PySem.W.subIn K (.ref (adr mg "TollError")) (.ref (adr mg "NoTick")) = some false
  u_TollError_BadTiming : PySem.W.subIn K (.ref (adr mg "TollError")) (.ref (adr mg "BadTiming")) = some false
  u_NoNumber_TollError : PySem.W.subIn K (.ref (adr mg "NoNumber")) (.ref (adr mg "TollError")) = some true
  u_NoNumber_NoNumber : PySem.W.subIn K (.ref (adr mg "NoNumber")) (.ref (adr mg "NoNumber")) = some true
  u_NoNumber_NoWay : PySem.W.subIn K (.ref (adr mg "NoNumber")) (.ref (adr mg "NoWay")) = some false
  u_NoNumber_NoTick : PySem.W.subIn K (.ref (adr mg "NoNumber")) (.ref (adr mg "NoTick")) = some false
  u_NoNumber_BadTiming : PySem.W.subIn K (.ref (adr mg "NoNumber")) (.ref (adr mg "BadTiming")) = some false
  u_NoWay_TollError : PySem.W.subIn K (.ref (adr mg "NoWay")) (.ref (adr mg "TollError")) = some true
  u_NoWay_NoNumber : PySem.W.subIn K (.ref (adr mg "NoWay")) (.ref (adr mg "NoNumber")) = some false
  u_NoWay_NoWay : PySem.W.subIn K (.ref (adr mg "NoWay")) (.ref (adr mg "NoWay")) = some true
  u_NoWay_NoTick : PySem.W.subIn K (.ref (adr mg "NoWay")) (.ref (adr mg "NoTick")) = some false
  u_NoWay_BadTiming : PySem.W.subIn K (.ref (adr mg "NoWay")) (.ref (adr mg "BadTiming")) = some false
  u_NoTick_TollError : PySem.W.subIn K (.ref (adr mg "NoTick")) (.ref (adr mg "TollError")) = some true
  u_NoTick_NoNumber : PySem.W.subIn K (.ref (adr mg "NoTick")) (.ref (adr mg "NoNumber")) = some false
  u_NoTick_NoWay : PySem.W.subIn K (.ref (adr mg "NoTick")) (.ref (adr mg "NoWay")) = some false
  u_NoTick_NoTick : PySem.W.subIn K (.ref (adr mg "NoTick")) (.ref (adr mg "NoTick")) = some true
  u_NoTick_BadTiming : PySem.W.subIn K (.ref (adr mg "NoTick")) (.ref (adr mg "BadTiming")) = some false
  u_BadTiming_TollError : PySem.W.subIn K (.ref (adr mg "BadTiming")) (.ref (adr mg "TollError")) = some true
  u_BadTiming_NoNumber : PySem.W.subIn K (.ref (adr mg "BadTiming")) (.ref (adr mg "NoNumber")) = some false
  u_BadTiming_NoWay : PySem.W.subIn K (.ref (adr mg "BadTiming")) (.ref (adr mg "NoWay")) = some false
  u_BadTiming_NoTick : PySem.W.subIn K (.ref (adr mg "BadTiming")) (.ref (adr mg "NoTick")) = some false
  u_BadTiming_BadTiming : PySem.W.subIn K (.ref (adr mg "BadTiming")) (.ref (adr mg "BadTiming")) = some true
  b_ValueError : mg "ValueError" = none
end S4

/-! rules of exceptions and own == that the library lacks -/
namespace EE
open PySem PySem.Spec PyProof.Rows L2
section
variable {X : Cx} {C : Addr} {bmB : List Value} {B newId initId : String}
/-- X() -/
theorem pmk_own0 {x : Str} {p pos : Pos} (F : ExcBaseFacts B newId initId bmB) (q : PySem.W.excIn X.K C bmB newId = true) (gC : X.mg x = some (.ref C)) (kC : PySem.W.keepIn X.K (.ref C) = true) (r : Raises X (.ref C)) (hg : Gl X x)
    (hdb : (x == ("__debug__" : Str)) = false := by decide) : PMk X (.Call (.Name x p) [] [] pos) (fun _ H Q => Q (.ref C) none H) := by
  intro pins s σ H Q I h
  refine wpAny_Call_Name_kw (ld_glob I hg gC ?_ hdb)
  obtain ⟨bm, N, nm, qn, bs, hdct, sn, sub, ab, col, dd, k0, k1, k2, k3, k5, mN, hC, hN, hni, T⟩ := exc_obj I.kIn q
  refine PySem.W.callWith_K0 I.kIn kC ?_
  refine wpAny_call_exc_subT F T hC hN hni (fun h' e hm => ?_) (Nat.zero_le _)
  exact mk_of I hm r h (I.hok.gone hm.new)
end
/-! ### isinstance of a caught error, whatever its own dict -/
end EE
namespace PySem.W
open PySem PySem.Spec PySem.Calls PyProof.Rows
section
variable {prog : Program} {w : World} {A : Around} {E : Value → Shared → Prop} {s : Shared} {K : Frag} {x D : Addr} {ox : Obj} {od : Option Obj}
theorem findObj_dataG {C : Addr} {name : Str} {a g : Value} (hc : (clsIn K C).isSome = true) (ha : findIn K (.ref C) name = some (some a)) (hg : specialIn K a "__get__" = some (some g)) (ht : takesIn K a = some true) : findObj K C od name = some (.bind g a) := by
  obtain ⟨cd, hc⟩ := Option.isSome_iff_exists.mp hc
  unfold findObj
  rw [hc, Option.bind_some, ha, Option.bind_some]
  simp [hg, ht]
theorem kin_classG {Q : Option Value → Shared → Prop} (hga : findIn K (.ref D) "__getattribute__" = some (some (.builtin "BaseException.__getattribute__"))) (hgt : findIn K (.ref D) "__getattr__" = some none) (hsub : subIn K (.ref D) (.type "BaseException") = some true)
    (hdct : hasDictIn K D = true) (ha : findIn K (.ref D) "__class__" = some (some (.builtin "object.__class__")))
    (hn : specialIn K (.builtin "object.__class__") "__get__" = some (some (.builtin "getset_descriptor.__get__"))) (htk : takesIn K (.builtin "object.__class__") = some true) (hm : mroIn K D (.type "object") = some true)
    (X : K.In s.heap) (I : InstAt s.heap x ox D od) (h : Q (some (.ref D)) { s with toks := s.toks + 1 }) : wpAny (model prog w) A (getAttr? (.ref x) "__class__") Q E s := by
  have hf : findObj K D od "__class__" = some (.bind (.builtin "getset_descriptor.__get__") (.builtin "object.__class__")) := findObj_dataG (by obtain ⟨cd, hc, _⟩ := any_some hdct; rw [hc]; rfl) ha hn htk
  obtain ⟨hp, g, d, t, os⟩ := s
  have L0 := I.type (M := model prog w)
  have L1 := looks_findIn (M := model prog w) X hga
  have L2 := looks_findIn (M := model prog w) X hgt
  have L3 := looks_find (M := model prog w) X I hf
  have sub : Looks (model prog w) hp (isInstance (.ref x) (.type "BaseException")) true := L0.andThen (looks_subIn X hsub)
  have hx0 : (false && onTheHeap (Value.builtin "BaseException.__getattribute__")) = false := rfl
  have hx2 : (Value.builtin "BaseException.__getattribute__" == Value.builtin "object.__getattribute__") = false := by decide +kernel
  have hx1 : (onTheHeap (Value.ref D) && Value.builtin "BaseException.__getattribute__" == Value.builtin "object.__getattribute__") = false := by rw [hx2]; rfl
  unfold getAttr? getAttrBy? getAttrBy
  refine wpAny_bind (wpAny_mkText (wpAny_bind (wpAny_attempt (wpAny_holding (wpAny_bind (L0.at (wpAny_bind (L1.at ?_))))))))
  show wpAny _ _ (if (onTheHeap (Value.ref D) && Value.builtin "BaseException.__getattribute__" == Value.builtin "object.__getattribute__") = true then _ else _) _ _ _
  rw [hx1, if_neg Bool.false_ne_true]
  unfold getAttrByItsOwn hookBefore
  refine wpAny_bind ?_
  rw [if_pos (show onTheHeap (Value.ref D) = true from rfl)]
  refine L2.at ?_
  refine wpAny_bind (wpAny_attempt (wpAny_holding ?_))
  unfold callGetattribute
  rw [hx0, if_neg Bool.false_ne_true]
  unfold boundAndCalled
  rw [PySem.F.excAttr_ValueError.ga.bind (.ref x)]
  refine wpAny_bind (wpAny_pure ?_)
  show wpAny _ _ (call (.builtin "BaseException.__getattribute__") [.ref x, .str "__class__" t]) _ _ _
  refine wpAny_call (codeAny_call_builtin PySem.F.excAttr_ValueError.ga.plain PySem.F.entry_bexc_ga ?_)
  refine @check_slot (model prog w) _ _ ⟨hp, g, d, t + 1, os⟩ "BaseException.__getattribute__" "BaseException" "__getattribute__" (.ref x) [.str "__class__" t] [] _ (by decide +kernel) (by decide +kernel) sub (PySem.F.args_bexc_ga (.ref x) (.str "__class__" t)) ?_
  unfold Builtin.«object.__getattribute__»
  refine wpAny_bind (wpAny_of_eq (a := ((Value.ref x : Value), [Value.str "__class__" t])) (by first | rfl | (simp only [slotArgs]; rfl)) ?_)
  refine wpAny_bind (wpAny_pure (wpAny_bind (L0.at (wpAny_bind (L3.at ?_)))))
  show wpAny _ _ (holding [Value.builtin "object.__class__"] (call (.builtin "getset_descriptor.__get__") [.builtin "object.__class__", .ref x, .ref D]) >>= ret) _ _ _
  refine wpAny_bind (wpAny_holding (wpAny_call (class_get (s := ⟨hp, g, d, t + 1, os⟩) (ox := ox) (od := od) X I hm ?_)))
  refine wpAny_pure ?_
  show wpAny _ _ (handedOut (.ref D)) _ _ _
  rw [handedOut_of (v := .ref D) rfl]
  first
    | exact wpAny_pure (wpAny_pure h)
    | exact wpAny_pure h
    | exact wpAny_pure (wpAny_bind (wpAny_pure (wpAny_pure h)))
theorem kitx_excG (hga : findIn K (.ref D) "__getattribute__" = some (some (.builtin "BaseException.__getattribute__"))) (hgt : findIn K (.ref D) "__getattr__" = some none) (hsub : subIn K (.ref D) (.type "BaseException") = some true) (hdct : hasDictIn K D = true) (ha : findIn K (.ref D) "__class__" = some (some (.builtin "object.__class__")))
    (hn : specialIn K (.builtin "object.__class__") "__get__" = some (some (.builtin "getset_descriptor.__get__"))) (htk : takesIn K (.builtin "object.__class__") = some true) (hm : mroIn K D (.type "object") = some true) :
    KitX K (.ref x) (.ref D) (fun h => InstAt h x ox D od) where
  ty := fun _ _ _ I => I.type
  it := fun _ _ X _ => by
    obtain ⟨cdD, hcD, _⟩ := any_some hdct
    unfold clsIn at hcD
    split at hcD
    · rename_i c' d' cd' sl' ho
      intro A' Q' E' s' k q
      unfold isType loadHead
      exact wpAny_bind (wpAny_loadPart (k _ _ (X _ _ ho)) (wpAny_pure q))
    · cases hcD
  ne := fun h tp dd its n sl X htp => by
    obtain ⟨cdD, hcD, _⟩ := any_some hdct
    refine Bool.eq_false_iff.mpr fun q => ?_
    have e : D = tp := Value.ref.inj (beq_iff_eq.mp q)
    subst e
    unfold clsIn at hcD
    split at hcD
    · rename_i c' d' cd' sl' ho
      have z := (X _ _ ho).symm.trans htp
      cases z
    · cases hcD
  ca := fun X I k => kin_classG hga hgt hsub hdct ha hn htk hm X I k
end
end PySem.W
namespace EE
open PySem PySem.Spec PyProof.Rows L2
/-- isinstance(e, c), e the exception that the suite holds, at a; cls its class, d its dict -/
def rIsG (K : PySem.W.Frag) (cls : Value) (d : Option Addr) (a : Addr) : List V → Hp → VK → Prop := fun xs H Q => ∃ (D : Addr) (c : V) (cv : Value) (b : Bool), xs = [.ref a, c] ∧ cls = .ref D ∧ ExcC K D ∧ (d = none ∨ ∃ dd fs, d = some dd ∧ H dd = some (.xd fs)) ∧
  (∀ u, RelV c u → u = cv) ∧ PySem.W.kitOne K (.ref D) cv = some b ∧ Q (.bl b) H
theorem call_isG {X : Cx} {a : Addr} {cls : Value} {d : Option Addr} {oe : Obj} {pn : List (Addr × Obj)} (hz : Zc cls d oe) (hf : ∃ vs, oe.data = .fields vs) : CallR (X.suite a ((a, oe) :: pn)) (.builtin "isinstance") (rIsG X.K cls d a) := by
  intro pins s σ H xs us Q I r h
  obtain ⟨D, c, cv, b, rfl, rfl, C, hd, hcv, e, q⟩ := h
  cases r with
  | cons rx rr =>
    cases rr with
    | cons rt rr =>
      cases rr
      cases rx
      have ec := hcv _ rt
      subst ec
      obtain ⟨hget, _⟩ := I.pin (a, oe) (List.mem_append.mpr (.inl List.mem_cons_self))
      obtain ⟨vs, hv⟩ := hf
      have hno : PySem.W.notCls oe = true := by unfold PySem.W.notCls; rw [hv] <;> rfl
      have J : ∃ od, PySem.W.InstAt s.heap a oe D od := by
        rcases hd with rfl | ⟨dd, fs, rfl, hdd⟩
        · refine ⟨none, hget, hz.1, hno, ?_⟩
          rw [hz.2]
          trivial
        · have hx : ObjOk X.prog X.w H s.heap dd (.xd fs) := I.hok dd _ hdd
          obtain ⟨mA, hns, hr⟩ := hx
          obtain ⟨od, ho, hl⟩ := lookIn_ns hns
          refine ⟨some od, hget, hz.1, hno, ?_⟩
          rw [hz.2]
          exact ho
      obtain ⟨od, J⟩ := J
      exact PySem.W.kia_one (PySem.W.kitx_excG C.hg C.hk C.hs C.hd C.ha C.hn C.ht C.hm) I.kIn J e (fun z => nomatch z) fun tk => ⟨.bl b, H, I.kept (t' := tk) fun _ _ z => z, rfl, q⟩
theorem ref_cls {C : Addr} : ∀ u, RelV (.ref C) u → u = .ref C := fun _ h => h
theorem ty_cls {n : String} : ∀ u, RelV (.ty n) u → u = .type n := fun _ h => h
/-- own classes of exceptions against one another -/
theorem kit_sub {K : PySem.W.Frag} {A C : Addr} {b : Bool} (hC : PySem.W.hasDictIn K C = true) (ht : PySem.W.typeIn K (.ref C) = some (.type "type")) (hs : PySem.W.subIn K (.ref C) (.ref C) = some true) (h : PySem.W.subIn K (.ref A) (.ref C) = some b) : PySem.W.kitOne K (.ref A) (.ref C) = some b := by
  obtain ⟨cd, hc, _⟩ := PySem.W.any_some hC
  unfold PySem.W.kitOne
  by_cases e : A = C
  · subst e
    rw [hs] at h
    rw [if_pos (beq_self_eq_true _)]
    exact h
  · rw [if_neg (by rw [beq_iff_eq]; exact fun z => e (Value.ref.inj z))]
    have e2 : ((PySem.W.clsIn K C).isSome && PySem.W.typeIn K (.ref C) == some (.type "type")) = true := by rw [hc, ht] <;> rfl
    show (if ((PySem.W.clsIn K C).isSome && PySem.W.typeIn K (.ref C) == some (.type "type")) = true then PySem.W.subIn K (.ref A) (.ref C) else none) = some b
    rw [if_pos e2]
    exact h
/-! ### a new object whose __init__ may raise, in a try -/
def tMakeS (C : Addr) (sp : Sp) (E : L2.St → XK) (t : TA) : TE := fun σ H Q => t σ H fun vs H1 => ∀ x dx, H1 x = none → H1 dx = none → dx ≠ x →
  sp (.ref x :: vs) (upd (upd H1 dx (.own x)) x (.ins C dx [])) (fun v H2 => v = .non ∧ Q (.ref x) H2) (E σ)
section
variable {X : Cx} {CX : CXT} {k : Nat} {f C : Addr} {fd : FuncData} {ps : List Str} {sp : Sp} {E : L2.St → XK} {x m : Str} {p pos apos : Pos} {e o fe : Expr} {es : List Expr} {ta tf : TE} {t : TA}
theorem run_makeS {pins : List (Addr × Obj)} {σ : L2.St} {H : Hp} {s : Shared} {Q : VK} {us : List Value} {vs : List V} (M : Mk X.K C f) (F : FnOk X.prog X.w X.K X.mg X.base CX k f fd ps sp) (hr : Room (k + 1) X.A) (hb : Binds X.K fd ps [])
    (hx : PassesAt CX X σ (E σ)) (I : Inv X pins σ H s) (r : Vals vs us)
    (h : ∀ x dx, H x = none → H dx = none → dx ≠ x → sp (.ref x :: vs) (upd (upd H dx (.own x)) x (.ins C dx [])) (fun v H2 => v = .non ∧ Q (.ref x) H2) (E σ)) :
    wpAny (model X.prog X.w) X.A (call (.ref C) us) (EP X pins σ Q) X.xe s := by
  have hq := h (s.heap.objs.size + 1) s.heap.objs.size (I.hok.fresh (Nat.le_succ _)) (I.hok.fresh (Nat.le_refl _)) (Nat.ne_of_lt (Nat.lt_succ_self _))
  have I2 := Inv.made (C := C) I
  have r2 : Vals (V.ref (s.heap.objs.size + 1) :: vs) (Value.ref (s.heap.objs.size + 1) :: us) := .cons rfl r
  have hl : (Value.ref (s.heap.objs.size + 1) :: us).length = ps.length := by
    have e := r2.length
    rw [F.len _ _ _ _ hq] at e
    exact e.symm
  have hbb := hb _ (Value.ref (s.heap.objs.size + 1) :: us) I2.kIn (by rw [List.append_nil]; exact hl)
  rw [List.append_nil] at hbb
  refine wpAny_call (make_map (f := f) I.kIn M.makes M.init (beq_iff_eq.mp M.fn) (codeAny_mono (F.run _ X.stack _ _ ⟨Value.ref (s.heap.objs.size + 1) :: us, []⟩ (Value.ref (s.heap.objs.size + 1) :: us) _ _ (E σ) (hr.make C us [])
    (I2.env0.make C us []) hbb r2 hq) fun r s' hq' => ?_))
  cases r with
  | error e => exact hx pins _ _ e s' I2 hq'
  | ok fl =>
    cases fl with
    | ret u =>
      obtain ⟨v, H', I3, rv, ev, q3⟩ := I2.after hq'
      subst ev
      exact ⟨rv, ⟨V.ref (s.heap.objs.size + 1), H', I3, rfl, q3⟩⟩
    | next => exact False.elim hq'
    | brk => exact False.elim hq'
    | cont => exact False.elim hq'
theorem pe_makeS (M : Mk X.K C f) (F : FnOk X.prog X.w X.K X.mg X.base CX k f fd ps sp) (hr : Room (k + 1) X.A) (hg : Gl X x) (hm : X.mg x = some (.ref C)) (hb : Binds X.K fd ps []) (hx : ∀ σ, PassesAt CX X σ (E σ))
    (ha : PA X (e :: es) t) (hdb : (x == ("__debug__" : Str)) = false := by decide) (he : starEach (e :: es) X.env = (false, eval e X.env) :: starEach es X.env := by rfl) (hpl : (backTo pos (starEach es X.env)).any (·.1) = false := by rfl) :
    PE X (.Call (.Name x p) (e :: es) [] pos) (tMakeS C sp E t) := by
  refine ⟨fun pins s σ H Q I h => ?_⟩
  refine wpAny_Call_Name_kw (ld_glob I hg hm ?_ hdb)
  refine PySem.W.callWith_K (h₀ := X.base) I.ok.mod.kin M.kp (thn (ha.run pos pins s σ H _ I h) fun us s1 ⟨vs, H1, I1, r, q⟩ => ⟨I1.kIn, ?_⟩) he hpl
  exact run_makeS M F hr hb (hx σ) I1 r q
/-- a call of what an expression tells: one of some defs, each with its promise -/
structure HeldS (X : Cx) (CX : CXT) (k : Nat) (f : Addr) (sp : Sp) : Prop where
  ex : ∃ (fd : FuncData) (ps : List Str), FnOk X.prog X.w X.K X.mg X.base CX k f fd ps sp ∧ PySem.W.keepIn X.K (.ref f) = true ∧ Binds X.K fd ps []
def tCallF (S : Addr → Option Sp) (E : L2.St → XK) (tf : TE) (t : TA) : TE := fun σ H Q => tf σ H fun y H0 => ∃ f sp, y = .ref f ∧ S f = some sp ∧ t σ H0 fun vs H1 => sp vs H1 Q (E σ)
end
/-! ### one == other, an own __eq__ -/
/-- the one an instance of the class at C, the other anything that has a class -/
def rEqO (K : PySem.W.Frag) (C : Addr) (sp : Sp) (E : XK) : R2 := fun x y H Q => ∃ a dx fs, x = .ref a ∧ H a = some (.ins C dx fs) ∧ (∃ t, TyX K H y t ∧ PySem.W.notFirst K C t = true) ∧ sp [x, y] H (fun v H' => (∃ b, v = .bl b) ∧ Q v H') E
theorem op_eqO {X : Cx} {CX : CXT} {k : Nat} {C f : Addr} {fd : FuncData} {ps : List Str} {sp : Sp} {E : XK} (F : FnOk X.prog X.w X.K X.mg X.base CX k f fd ps sp) (hr : Room k X.A)
    (hs : PySem.W.findIn X.K (.ref C) "__eq__" = some (some (.ref f))) (hf : PySem.W.isFn X.K (.ref f) = true) (hb : Binds X.K fd ps []) (hx : Passes CX X E) : OpR X (compareOp .Eq) (rEqO X.K C sp E) := by
  intro pins s σ H x y v u Q I rx ry hq
  obtain ⟨a, dx, fs, rfl, ha, ⟨t, ty, nf⟩, q⟩ := hq
  cases rx
  show wpAny (model X.prog X.w) X.A (richCompare .Eq (.ref a) u) (EP X pins σ Q) X.xe s
  obtain ⟨mA, J, _⟩ := ins_get I.hok ha
  obtain ⟨od, J, _⟩ := J.look
  obtain ⟨m, hF⟩ := I.fr
  obtain ⟨Pk, Z, p, hne⟩ := kit_of I ry ty
  refine PySem.W.cmp_K (op := .Eq) (tb := t) hr.units0 hF I.ok.mod.kin J (Z.ty _ _ I.kIn p) nf hs hf ?_
  refine run_fn (dvs := []) (ds := []) (us := [.ref a, u]) (vs := [.ref a, y]) (Q := fun v H' => (∃ b, v = .bl b) ∧ Q v H') F hr hb .nil hx I (.cons rfl (.cons ry .nil)) q |> fun h => wpAny_mono h (fun v' s' hv => ?_) fun _ _ z => z
  obtain ⟨z, H', I', rz, ⟨b, rfl⟩, q'⟩ := hv
  cases rz
  exact ⟨.bl b, H', I', rfl, q'⟩
/-! ### list.count of flat things -/
section
variable {X : Cx}
def rCntF (K : PySem.W.Frag) : V → List V → Hp → VK → Prop := fun x xs H Q => ∃ (p : Addr) (ys : List V) (y : V), x = .ref p ∧ xs = [y] ∧ SqL K H p ys ∧ flatV y = true ∧ ys.all flatV = true ∧ Q (.int ((ys.countP fun z => eqV z y : Nat) : Int)) H
theorem countU {y : V} : ∀ {ys : List V} {its : List Value}, Vals ys its → ys.all flatV = true → its.countP (eqU y) = ys.countP fun z => eqV z y
  | _, _, .nil, _ => rfl
  | z :: ys, _, .cons r t, h => by
    rw [List.all_cons, Bool.and_eq_true] at h
    rw [List.countP_cons, List.countP_cons, countU t h.2, eqU_of r h.1]
theorem mt_countF : MtR X "list.count" (rCntF X.K) := by
  intro pins s σ H x xs v us Q I rx rxs h
  obtain ⟨p, ys, y, rfl, rfl, hs, fy, fys, q⟩ := h
  cases rx
  obtain ⟨u, rfl, ru⟩ := rxs.one
  obtain ⟨its, rv, ⟨⟨cls, dd, data, sl⟩, n, ho, hc, hdn, hd⟩, hlen⟩ := I.list hs
  simp only at hc hd
  subst hc hd
  refine call_meets PySem.F.slot_list_count ⟨_, ho, rfl⟩ PySem.F.entry_list_count (PySem.F.args_list_count_2 _ _)
    (SeqAt.list_countAt p its.toArray n dd sl u (eqU y)) ⟨ho, fun u' hu' => mem_eqAt ru fy rv fys u' (by simpa using hu'), ?_⟩
  refine ⟨.int ((ys.countP fun z => eqV z y : Nat) : Int), H, I.tok _, ⟨s.toks, ?_⟩, q⟩
  show Value.int ((its.toArray.toList.countP (eqU y) : Nat) : Int) s.toks = _
  rw [show its.toArray.toList = its from rfl, countU rv fys]
end
end EE

namespace S4
open PySem L2 TT EE
/-! ### any things -/
def Flat : V → Prop
  | .non => True
  | .bl _ => True
  | .int _ => True
  | .str _ => True
  | _ => False
/-- a thing of which is known what it is, n deep -/
def Th0 (g : Addr) (H : Hp) (v : V) : Prop := Flat v ∨ ∃ a, v = .ref a ∧ a ≠ g ∧ ((∃ xs, H a = some (.tup xs) ∧ xs.length ≤ 1000) ∨ (∃ xs, H a = some (.lst xs)) ∨ ∃ kvs, H a = some (.dK kvs))
def Th (g : Addr) (H : Hp) : Nat → V → Prop
  | 0, v => Th0 g H v
  | n + 1, v => Th0 g H v ∧ ∀ a xs, v = .ref a → H a = some (.tup xs) → ∀ x ∈ xs, Th g H n x
theorem Th.zero {g : Addr} {H : Hp} : ∀ {n : Nat} {v : V}, Th g H n v → Th g H 0 v
  | 0, _, h => h
  | _ + 1, _, h => h.1
def tupOf (H : Hp) : V → Option (List V)
  | .ref a => match H a with
    | some (.tup xs) => some xs
    | _ => none
  | _ => none
theorem tupOf_at {H : Hp} {a : Addr} {xs : List V} (h : H a = some (.tup xs)) : tupOf H (.ref a) = some xs := by unfold tupOf; simp only [h]
theorem tupOf_some {H : Hp} {v : V} {xs : List V} (h : tupOf H v = some xs) : ∃ a, v = .ref a ∧ H a = some (.tup xs) := by
  unfold tupOf at h
  cases v with
  | ref a =>
    refine ⟨a, rfl, ?_⟩
    simp only at h
    cases e : H a with
    | none => rw [e] at h; cases h
    | some o =>
      rw [e] at h
      cases o <;> first | (cases h; rfl) | cases h
  | _ => cases h
theorem Th.tupOf {g : Addr} {H H' : Hp} {n : Nat} {v : V} (t : Th g H n v) (b : But g H H') : tupOf H' v = S4.tupOf H v := by
  rcases t.zero with f | ⟨a, rfl, na, ⟨xs, h, _⟩ | ⟨xs, h⟩ | ⟨kvs, h⟩⟩
  · cases v <;> first | rfl | exact f.elim
  · rw [tupOf_at h, tupOf_at (b _ _ na h)]
  · unfold S4.tupOf; simp only [h, b _ _ na h]
  · unfold S4.tupOf; simp only [h, b _ _ na h]
theorem Th.but {g : Addr} {H H' : Hp} (b : But g H H') : ∀ {n : Nat} {v : V}, Th g H n v → Th g H' n v
  | 0, v, h => by
    rcases h with f | ⟨a, rfl, na, h⟩
    · exact .inl f
    · refine .inr ⟨a, rfl, na, ?_⟩
      rcases h with ⟨xs, h, l⟩ | ⟨xs, h⟩ | ⟨kvs, h⟩
      · exact .inl ⟨xs, b _ _ na h, l⟩
      · exact .inr (.inl ⟨xs, b _ _ na h⟩)
      · exact .inr (.inr ⟨kvs, b _ _ na h⟩)
  | n + 1, v, h => by
    refine ⟨Th.but (n := 0) b h.1, fun a xs e hx x hm => ?_⟩
    have e1 := Th.tupOf h b
    subst e
    rw [tupOf_at hx] at e1
    obtain ⟨a', e2, h2⟩ := tupOf_some e1.symm
    cases e2
    exact Th.but b (h.2 a xs rfl h2 x hm)
theorem Th.same {g : Addr} {H H' : Hp} {n : Nat} {v : V} (s : Same H H') (h : Th g H n v) : Th g H' n v := h.but (s.but g)
theorem Th.mem {g : Addr} {H : Hp} {n : Nat} {v : V} {xs : List V} (h : Th g H (n + 1) v) (e : S4.tupOf H v = some xs) : ∀ x ∈ xs, Th g H n x := by
  obtain ⟨a, rfl, ha⟩ := tupOf_some e
  exact h.2 a xs rfl ha
theorem Th.len {g : Addr} {H : Hp} {n : Nat} {v : V} {xs : List V} (h : Th g H n v) (e : S4.tupOf H v = some xs) : xs.length ≤ 1000 := by
  obtain ⟨a, rfl, ha⟩ := tupOf_some e
  rcases h.zero with f | ⟨a', e', _, ⟨ys, h, l⟩ | ⟨ys, h⟩ | ⟨kvs, h⟩⟩
  · exact f.elim
  · cases e'; rw [h] at ha; cases ha; exact l
  · cases e'; rw [h] at ha; cases ha
  · cases e'; rw [h] at ha; cases ha
theorem Th.less {g : Addr} {H : Hp} : ∀ {n : Nat} {v : V}, Th g H (n + 1) v → Th g H n v
  | 0, _, h => h.1
  | _ + 1, _, h => ⟨h.1, fun a xs e hx x hm => (h.2 a xs e hx x hm).less⟩
theorem Th.flat {g : Addr} {H : Hp} {v : V} (h : Flat v) : ∀ n : Nat, Th g H n v
  | 0 => .inl h
  | n + 1 => ⟨.inl h, fun a xs e => by subst e; exact h.elim⟩
theorem Th.tup {g : Addr} {H : Hp} {a : Addr} {xs : List V} {n : Nat} (h : H a = some (.tup xs)) (na : a ≠ g) (hl : xs.length ≤ 1000) (hx : ∀ x ∈ xs, Th g H n x) : Th g H (n + 1) (.ref a) :=
  ⟨.inr ⟨a, rfl, na, .inl ⟨xs, h, hl⟩⟩, fun a' ys e hy => by cases e; rw [h] at hy; cases hy; exact hx⟩
theorem Th.tup0 {g : Addr} {H : Hp} {a : Addr} {xs : List V} (h : H a = some (.tup xs)) (na : a ≠ g) (hl : xs.length ≤ 1000) : Th g H 0 (.ref a) := .inr ⟨a, rfl, na, .inl ⟨xs, h, hl⟩⟩
theorem Th.lst {g : Addr} {H : Hp} {a : Addr} {xs : List V} (h : H a = some (.lst xs)) (na : a ≠ g) : ∀ n : Nat, Th g H n (.ref a)
  | 0 => .inr ⟨a, rfl, na, .inr (.inl ⟨xs, h⟩)⟩
  | n + 1 => ⟨.inr ⟨a, rfl, na, .inr (.inl ⟨xs, h⟩)⟩, fun a' ys e hy => by cases e; rw [h] at hy; cases hy⟩
theorem Th.dct {g : Addr} {H : Hp} {a : Addr} {xs : List (Key × V)} (h : H a = some (.dK xs)) (na : a ≠ g) : ∀ n : Nat, Th g H n (.ref a)
  | 0 => .inr ⟨a, rfl, na, .inr (.inr ⟨xs, h⟩)⟩
  | n + 1 => ⟨.inr ⟨a, rfl, na, .inr (.inr ⟨xs, h⟩)⟩, fun a' ys e hy => by cases e; rw [h] at hy; cases hy⟩
/-! its kind -/
def isTupB (H : Hp) (v : V) : Bool := (tupOf H v).isSome
def isLstB (H : Hp) : V → Bool
  | .ref a => match H a with
    | some (.lst _) => true
    | _ => false
  | _ => false
def isIntB : V → Bool
  | .int _ => true
  | .bl _ => true
  | _ => false
def isBlB : V → Bool
  | .bl _ => true
  | _ => false
theorem Th.kind {g : Addr} {H : Hp} {n : Nat} {v : V} (h : Th g H n v) (K : PySem.W.Frag) : ∃ t, TyX K H v t ∧ PySem.W.kitOne K t (.type "tuple") = some (isTupB H v) ∧ PySem.W.kitOne K t (.type "int") = some (isIntB v) ∧ PySem.W.kitOne K t (.type "bool") = some (isBlB v) ∧
    PySem.W.kitOne K t (.type "list") = some (isLstB H v) := by
  rcases h.zero with f | ⟨a, rfl, na, ⟨xs, h, _⟩ | ⟨xs, h⟩ | ⟨kvs, h⟩⟩
  · cases v with
    | non => exact ⟨_, .base .non, kit_ty (r := false) (by decide +kernel), kit_ty (r := false) (by decide +kernel), kit_ty (r := false) (by decide +kernel), kit_ty (r := false) (by decide +kernel)⟩
    | bl b => exact ⟨_, .base (.bl b), kit_ty (r := false) (by decide +kernel), kit_ty (r := true) (by decide +kernel), kit_ty (r := true) (by decide +kernel), kit_ty (r := false) (by decide +kernel)⟩
    | int b => exact ⟨_, .base (.int b), kit_ty (r := false) (by decide +kernel), kit_ty (r := true) (by decide +kernel), kit_ty (r := false) (by decide +kernel), kit_ty (r := false) (by decide +kernel)⟩
    | str b => exact ⟨_, .base (.str b), kit_ty (r := false) (by decide +kernel), kit_ty (r := false) (by decide +kernel), kit_ty (r := false) (by decide +kernel), kit_ty (r := false) (by decide +kernel)⟩
    | _ => exact f.elim
  · have e1 : isTupB H (.ref a) = true := by unfold isTupB; rw [tupOf_at h]; rfl
    have e2 : isLstB H (.ref a) = false := by unfold isLstB; simp only [h]
    rw [e1, e2]
    exact ⟨_, .base (.tup h), kit_ty (r := true) (by decide +kernel), kit_ty (r := false) (by decide +kernel), kit_ty (r := false) (by decide +kernel), kit_ty (r := false) (by decide +kernel)⟩
  · have e1 : isTupB H (.ref a) = false := by unfold isTupB S4.tupOf; simp only [h]; rfl
    have e2 : isLstB H (.ref a) = true := by unfold isLstB; simp only [h]
    rw [e1, e2]
    exact ⟨_, .base (.lst h), kit_ty (r := false) (by decide +kernel), kit_ty (r := false) (by decide +kernel), kit_ty (r := false) (by decide +kernel), kit_ty (r := true) (by decide +kernel)⟩
  · have e1 : isTupB H (.ref a) = false := by unfold isTupB S4.tupOf; simp only [h]; rfl
    have e2 : isLstB H (.ref a) = false := by unfold isLstB; simp only [h]
    rw [e1, e2]
    exact ⟨_, .base (.dK h), kit_ty (r := false) (by decide +kernel), kit_ty (r := false) (by decide +kernel), kit_ty (r := false) (by decide +kernel), kit_ty (r := false) (by decide +kernel)⟩
/-! what the checks tell -/
def isI : V → Bool
  | .int _ => true
  | _ => false
def below (v : V) (e : Int) : Bool := match v with
  | .int n => decide (0 ≤ n ∧ n < e)
  | _ => false
theorem below_int {v : V} {e : Int} (h : below v e = true) : ∃ n, v = .int n ∧ 0 ≤ n ∧ n < e := by
  cases v with
  | int n => exact ⟨n, rfl, (of_decide_eq_true h).1, (of_decide_eq_true h).2⟩
  | _ => cases h
def pairB (H : Hp) (v : V) : Bool := match tupOf H v with
  | some xs => decide (xs.length = 2)
  | none => false
def turnsB (H : Hp) (v : V) : Bool := match tupOf H v with
  | some xs => decide (xs.length ≤ 40) && xs.all fun x => below x 9
  | none => false
def lenT (H : Hp) (v : V) : Nat := match tupOf H v with
  | some xs => xs.length
  | none => 0
def openB (H : Hp) (v : V) : Bool := match tupOf H v with
  | some [x, y] => turnsB H x && turnsB H y && decide (0 < lenT H y)
  | _ => false
theorem isI_eq (v : V) : isI v = (isIntB v && !isBlB v) := by cases v <;> rfl
theorem turnsB_but {g : Addr} {H H' : Hp} (b : But g H H') {n : Nat} {v : V} (h : Th g H n v) : turnsB H' v = turnsB H v := by unfold turnsB; rw [h.tupOf b]
theorem lenT_but {g : Addr} {H H' : Hp} (b : But g H H') {n : Nat} {v : V} (h : Th g H n v) : lenT H' v = lenT H v := by unfold lenT; rw [h.tupOf b]
theorem openB_but {g : Addr} {H H' : Hp} (b : But g H H') {n : Nat} {v : V} (h : Th g H (n + 1) v) : openB H' v = openB H v := by
  unfold openB
  rw [h.tupOf b]
  cases e : tupOf H v with
  | none => rfl
  | some xs =>
    have hm := h.mem e
    rcases xs with _ | ⟨x, _ | ⟨y, _ | ⟨z, r⟩⟩⟩
    · rfl
    · rfl
    · simp only
      rw [turnsB_but b (hm x (by simp)), turnsB_but b (hm y (by simp)), lenT_but b (hm y (by simp))]
    · rfl
/-- all of some, told by a list of flags -/
theorem all_fm {α : Type} {l : List α} {f : α → Bool} : ((List.range l.length).filterMap fun i => l[i]?.bind fun x => some (f x)).all id = l.all f := by
  rw [fm_list]
  induction l with
  | nil => rfl
  | cons a l ih => rw [List.filterMap_cons]; simp only; rw [List.all_cons, List.all_cons, ih]; rfl
section
variable {P : Program} {w : World} {K : PySem.W.Frag} {mg : Str → Option Value} {base : Heap} {cT cS : Addr}
def rBl : Rp Bool := fun _ v b => v = .bl b
theorem mono_bl : Mono rBl := fun _ _ _ _ _ h => h
theorem paired_bl {H : Hp} : ∀ {xs : List V} {l : List Bool}, Paired (rBl H) xs l → xs = l.map V.bl
  | _, _, .nil => rfl
  | _, _, .cons r t => by cases r; rw [List.map_cons, paired_bl t]
def spIsInteger : Sp := fun vs H Q _ => ∃ (g : Addr) (v : V), vs = [v] ∧ Th g H 0 v ∧ Q (.bl (isI v)) H
theorem ok_is_integer (T : Tx K mg cT cS) {f : Addr} {fd : FuncData} (d : D K mg "is_integer" s_is_integer ["thing"] f fd) : FnOk P w K mg base CX0 1 f fd ["thing"] spIsInteger := by
  refine d.F.ok sc_is_integer (fun vs H Q E h => ?_) (fun cdv A outer s H vs Q E hr h => ?_)
  · obtain ⟨g, n, rfl, _⟩ := h
    rfl
  · obtain ⟨g, v, rfl, th, q⟩ := h
    obtain ⟨t, ty, _, k1, k2, _⟩ := th.kind K
    refine ⟨_, pss_one (ps_ret (pe_and (pe_callB call_isi (by rfl) T.b_isinstance (by decide +kernel) (pa_cons (pv 0) (pa_cons (ty_int T.b_int) pa_nil)))
      (pe_one (pe_not (pe_callB call_isi (by rfl) T.b_isinstance (by decide +kernel) (pa_cons (pv 0) (pa_cons (ty_bool T.b_bool) pa_nil))))))), ?_⟩
    rw [isI_eq] at q
    refine ⟨_, rfl, _, _, _, _, _, rfl, .ty _, ty, k1, _, rfl, ?_⟩
    cases e : isIntB v with
    | false => rw [e] at q; exact iteF q
    | true => rw [e] at q; exact iteT ⟨_, rfl, _, _, _, _, _, rfl, .ty _, ty, k2, _, rfl, q⟩
def spIsBelow : Sp := fun vs H Q _ => ∃ (g : Addr) (v : V) (e : Int), vs = [v, .int e] ∧ Th g H 0 v ∧ Q (.bl (below v e)) H
theorem ok_is_below (T : Tx K mg cT cS) {f : Addr} {fd : FuncData} (d : D K mg "is_below" s_is_below ["thing", "end"] f fd) : FnOk P w K mg base CX0 2 f fd ["thing", "end"] spIsBelow := by
  obtain ⟨f1, fd1, d1⟩ := T.d_is_integer
  have G1 : FnOk P w K mg base CX0 1 f1 fd1 ["thing"] spIsInteger := ok_is_integer T d1
  refine d.F.ok sc_is_below (fun vs H Q E h => ?_) (fun cdv A outer s H vs Q E hr h => ?_)
  · obtain ⟨g, n, e, rfl, _⟩ := h
    rfl
  · obtain ⟨g, v, e, rfl, th, q⟩ := h
    refine ⟨_, pss_one (ps_ret (pe_and (pe_call G1 hr rfl d1.m d1.F.kp d1.b .nil pass0 (pa_cons (pv 0) pa_nil)) (pe_one (pe_chain op_le op_lt pe_int (pv 0) (pv 1))))), ?_⟩
    refine ⟨_, rfl, g, v, rfl, th, _, rfl, ?_⟩
    cases hv : isI v with
    | false =>
      have : below v e = false := by cases v <;> first | rfl | cases hv
      rw [this] at q
      exact iteF q
    | true =>
      obtain ⟨n, rfl⟩ : ∃ n, v = .int n := by cases v <;> first | exact ⟨_, rfl⟩ | cases hv
      refine iteT ⟨_, rfl, _, _, rfl, rfl, _, rfl, ?_⟩
      by_cases h0 : 0 ≤ n
      · rw [decide_eq_true h0]
        refine iteT ⟨_, rfl, _, _, rfl, rfl, ?_⟩
        have : below (.int n) e = decide (n < e) := by unfold below; simp [h0]
        rw [this] at q
        exact q
      · rw [decide_eq_false h0]
        have : below (.int n) e = false := by unfold below; simp [h0]
        rw [this] at q
        exact iteF q
def spIsPair : Sp := fun vs H Q _ => ∃ (g : Addr) (v : V), vs = [v] ∧ Th g H 0 v ∧ Q (.bl (pairB H v)) H
theorem ok_is_pair (T : Tx K mg cT cS) {f : Addr} {fd : FuncData} (d : D K mg "is_pair" s_is_pair ["thing"] f fd) : FnOk P w K mg base CX0 1 f fd ["thing"] spIsPair := by
  refine d.F.ok sc_is_pair (fun vs H Q E h => ?_) (fun cdv A outer s H vs Q E hr h => ?_)
  · obtain ⟨g, v, rfl, _⟩ := h
    rfl
  · obtain ⟨g, v, rfl, th, q⟩ := h
    obtain ⟨t, ty, k0, _, _, _⟩ := th.kind K
    refine ⟨_, pss_one (ps_ret (pe_and (pe_callB call_isi (by rfl) T.b_isinstance (by decide +kernel) (pa_cons (pv 0) (pa_cons (ty_tuple T.b_tuple) pa_nil)))
      (pe_one (pe_cmpR op_eq (pe_callB call_len_seq (by rfl) T.b_len PySem.boot_len (pa_cons (pv 0) pa_nil)) pe_int (nomark _))))), ?_⟩
    refine ⟨_, rfl, _, _, _, _, _, rfl, .ty _, ty, k0, _, rfl, ?_⟩
    unfold pairB at q
    unfold isTupB
    cases e : tupOf H v with
    | none => rw [e] at q; exact iteF q
    | some xs =>
      rw [e] at q
      obtain ⟨a, rfl, ha⟩ := tupOf_some e
      refine iteT ⟨_, rfl, _, _, rfl, .inr (.of ha), rfl, ?_⟩
      have : decide (V.int ((xs.length : Nat) : Int) = V.int 2) = decide (xs.length = 2) := by
        by_cases h2 : xs.length = 2
        · rw [decide_eq_true h2, decide_eq_true (by rw [h2]; rfl)]
        · rw [decide_eq_false h2, decide_eq_false (fun z => h2 (by have := V.int.inj z; omega))]
      rw [this]
      exact q
def spTurns : Sp := fun vs H Q _ => ∃ (g : Addr) (v : V), vs = [v] ∧ Th g H 1 v ∧ ∀ H', Same H H' → Q (.bl (turnsB H v)) H'
theorem ok_are_turns (T : Tx K mg cT cS) {f : Addr} {fd : FuncData} (d : D K mg "are_turns" s_are_turns ["thing"] f fd) : FnOk P w K mg base CX0 3 f fd ["thing"] spTurns := by
  obtain ⟨f1, fd1, d1⟩ := T.d_is_below
  have G1 : FnOk P w K mg base CX0 2 f1 fd1 ["thing", "end"] spIsBelow := ok_is_below T d1
  obtain ⟨tk1, hM1⟩ := T.c_MOST_TURNS
  obtain ⟨tk2, hM2⟩ := T.c_MOST_PLACES
  refine d.F.ok sc_are_turns (fun vs H Q E h => ?_) (fun cdv A outer s H vs Q E hr h => ?_)
  · obtain ⟨g, v, rfl, _⟩ := h
    rfl
  · obtain ⟨g, v, rfl, th, q⟩ := h
    obtain ⟨t, ty, k0, _, _, _⟩ := th.kind K
    refine ⟨_, pss_cons (ps_if (PW.pt (pw_or (pt_not (pt_val (pe_callB call_isi (by rfl) T.b_isinstance (by decide +kernel) (pa_cons (pv 0) (pa_cons (ty_tuple T.b_tuple) pa_nil)))))
        (pw_or1 (pt_cmpR op_gt (pe_callB call_len_seq (by rfl) T.b_len PySem.boot_len (pa_cons (pv 0) pa_nil)) (pe_glob (v := .int 40) rfl hM1 ⟨_, rfl⟩) (nomark _))))) (pss_one (ps_ret pe_bl)) pss_nil)
      (pss_one (ps_ret (pe_callB (cr_all rfl) (by rfl) T.b_all (by decide +kernel) (pa_cons
        (pe_lc (own := [("places_then", 1)]) (g := gName 1) (tt := tYes) rfl sc_are_turns.nd (pi_tup (pv 0)) (blkOk_by (N := N_are_turns) (sc := defScope s_are_turns) (by decide +kernel)) (fun _ _ _ _ _ => pg_name (i := 1) sc_are_turns.nd rfl (Or.inl rfl)) (fun _ _ _ _ _ => pts_nil)
          (fun _ _ _ _ _ => pe_call G1 hr rfl d1.m d1.F.kp d1.b .nil pass0 (pa_cons (pv 1) (pa_cons (pe_op op_add (pe_glob (v := .int 8) rfl hM2 ⟨_, rfl⟩) pe_int) pa_nil)))) pa_nil)))), ?_⟩
    refine ⟨_, rfl, _, _, _, _, _, rfl, .ty _, ty, k0, _, rfl, ?_⟩
    unfold turnsB at q
    unfold isTupB
    cases e : tupOf H v with
    | none => rw [e] at q; exact iteT (q _ (.refl _))
    | some xs =>
      rw [e] at q
      have hm := th.mem e
      have hl := th.len e
      obtain ⟨a, rfl, ha⟩ := tupOf_some e
      refine iteF ⟨_, rfl, _, _, rfl, .inr (.of ha), _, _, rfl, rfl, _, rfl, ?_⟩
      by_cases h40 : xs.length ≤ 40
      · rw [decide_eq_false (by omega)]
        simp only [decide_eq_true h40, Bool.true_and] at q
        refine iteF ⟨_, rfl, a, rfl, ⟨_, .of ha⟩, fun D hD => ?_⟩
        refine lc_fm (walk_tup (xs := xs)) rBl (fun i => xs[i]?.bind fun x => some (below x 9)) hD (fun H' s' => .of (s'.keep.tup ha)) ?_ ?_
        · rintro i x H2 H3 hi pv ⟨rfl, hx⟩
          have hxm := List.mem_of_getElem? hx
          refine ⟨rfl, _, rfl, _, _, rfl, rfl, g, x, _, rfl, (hm x hxm).same pv.1, ?_⟩
          exact fm_keep mono_bl pv hD (by omega) (Same.refl _) (by rw [hx]; rfl) rfl
        · intro H2 ys s2 hD2 hp
          have := paired_bl hp
          subst this
          refine ⟨_, _, rfl, .of hD2, ?_⟩
          rw [all_fm]
          exact q _ s2
      · rw [decide_eq_true (by omega)]
        simp only [decide_eq_false h40, Bool.false_and] at q
        exact iteT (q _ (.refl _))
def spOpening : Sp := fun vs H Q _ => ∃ (g : Addr) (v : V), vs = [v] ∧ Th g H 2 v ∧ ∀ H', Same H H' → Q (.bl (openB H v)) H'
theorem ok_is_opening (T : Tx K mg cT cS) {f : Addr} {fd : FuncData} (d : D K mg "is_opening" s_is_opening ["thing"] f fd) : FnOk P w K mg base CX0 4 f fd ["thing"] spOpening := by
  obtain ⟨f1, fd1, d1⟩ := T.d_is_pair
  have G1 : FnOk P w K mg base CX0 1 f1 fd1 ["thing"] spIsPair := ok_is_pair T d1
  obtain ⟨f2, fd2, d2⟩ := T.d_are_turns
  have G2 : FnOk P w K mg base CX0 3 f2 fd2 ["thing"] spTurns := ok_are_turns T d2
  refine d.F.ok sc_is_opening (fun vs H Q E h => ?_) (fun cdv A outer s H vs Q E hr h => ?_)
  · obtain ⟨g, v, rfl, _⟩ := h
    rfl
  · obtain ⟨g, v, rfl, th, q⟩ := h
    refine ⟨_, pss_one (ps_ret (pe_and (pe_call G1 (hr.mono (by decide)) rfl d1.m d1.F.kp d1.b .nil pass0 (pa_cons (pv 0) pa_nil))
      (pe_and (pe_call G2 hr rfl d2.m d2.F.kp d2.b .nil pass0 (pa_cons (pe_ix ix_tup (pv 0) pe_int (fun _ _ => rfl)) pa_nil))
      (pe_and (pe_call G2 hr rfl d2.m d2.F.kp d2.b .nil pass0 (pa_cons (pe_ix ix_tup (pv 0) pe_int (fun _ _ => rfl)) pa_nil))
      (pe_one (pe_cmpR op_gt (pe_callB call_len_seq (by rfl) T.b_len PySem.boot_len (pa_cons (pe_ix ix_tup (pv 0) pe_int (fun _ _ => rfl)) pa_nil)) pe_int (nomark _))))))), ?_⟩
    refine ⟨_, rfl, g, v, rfl, th.zero, _, rfl, ?_⟩
    unfold openB at q
    unfold pairB
    cases e : tupOf H v with
    | none => rw [e] at q; exact iteF (q _ (.refl _))
    | some xs =>
      rw [e] at q
      have hm := th.mem e
      obtain ⟨a, rfl, ha⟩ := tupOf_some e
      rcases xs with _ | ⟨x, _ | ⟨y, _ | ⟨z, r⟩⟩⟩
      · exact iteF (q _ (.refl _))
      · exact iteF (q _ (.refl _))
      · have hx := hm x (by simp)
        have hy := hm y (by simp)
        simp only at q
        refine iteT ⟨_, rfl, a, _, _, _, rfl, rfl, .of ha, at_of (j := 0) rfl rfl, g, x, rfl, hx, fun H2 s2 => ⟨_, rfl, ?_⟩⟩
        cases e1 : turnsB H x with
        | false => rw [e1] at q; exact iteF (q _ s2)
        | true =>
          rw [e1] at q
          simp only [Bool.true_and] at q
          refine iteT ⟨_, rfl, a, _, _, _, rfl, rfl, .of (s2 _ _ ha), at_of (j := 1) rfl rfl, g, y, rfl, hy.same s2, fun H3 s3 => ⟨_, rfl, ?_⟩⟩
          rw [turnsB_but (s2.but g) hy]
          cases e2 : turnsB H y with
          | false => rw [e2] at q; exact iteF (q _ (s2.trans s3))
          | true =>
            rw [e2] at q
            simp only [Bool.true_and] at q
            have s23 := s2.trans s3
            unfold lenT at q
            cases ey : tupOf H y with
            | none => unfold turnsB at e2; rw [ey] at e2; cases e2
            | some ys =>
              rw [ey] at q
              obtain ⟨b, rfl, hb⟩ := tupOf_some ey
              refine iteT ⟨_, rfl, a, _, _, _, rfl, rfl, .of (s23 _ _ ha), at_of (j := 1) rfl rfl, _, _, rfl, .inr (.of (s23 _ _ hb)), _, _, rfl, rfl, ?_⟩
              have : decide ((0 : Int) < ((ys.length : Nat) : Int)) = decide (0 < ys.length) := by
                by_cases h0 : 0 < ys.length
                · rw [decide_eq_true h0, decide_eq_true (by omega)]
                · rw [decide_eq_false h0, decide_eq_false (by omega)]
              show Q (.bl (decide ((0 : Int) < ((ys.length : Nat) : Int)))) H3
              rw [this]
              exact q _ s23
      · exact iteF (q _ (.refl _))
def spOpens : Sp := fun vs H Q _ => ∃ (g a : Addr) (xs : List V), vs = [.ref a] ∧ H a = some (.tup xs) ∧ xs.length ≤ 1000 ∧ (∀ x ∈ xs, Th g H 2 x) ∧ ∀ H', Same H H' → Q (.bl (xs.all (openB H))) H'
theorem ok_are_openings (T : Tx K mg cT cS) {f : Addr} {fd : FuncData} (d : D K mg "are_openings" s_are_openings ["things"] f fd) : FnOk P w K mg base CX0 5 f fd ["things"] spOpens := by
  obtain ⟨f1, fd1, d1⟩ := T.d_is_opening
  have G1 : FnOk P w K mg base CX0 4 f1 fd1 ["thing"] spOpening := ok_is_opening T d1
  refine d.F.ok sc_are_openings (fun vs H Q E h => ?_) (fun cdv A outer s H vs Q E hr h => ?_)
  · obtain ⟨g, a, xs, rfl, _⟩ := h
    rfl
  · obtain ⟨g, a, xs, rfl, ha, hl, hm, q⟩ := h
    refine ⟨_, pss_one (ps_ret (pe_callB (cr_all rfl) (by rfl) T.b_all (by decide +kernel) (pa_cons
        (pe_lc (own := [("thing", 1)]) (g := gName 1) (tt := tYes) rfl sc_are_openings.nd (pi_tup (pv 0)) (blkOk_by (N := N_are_openings) (sc := defScope s_are_openings) (by decide +kernel)) (fun _ _ _ _ _ => pg_name (i := 1) sc_are_openings.nd rfl (Or.inl rfl)) (fun _ _ _ _ _ => pts_nil)
          (fun _ _ _ _ _ => pe_call G1 hr rfl d1.m d1.F.kp d1.b .nil pass0 (pa_cons (pv 1) pa_nil))) pa_nil))), ?_⟩
    refine ⟨_, rfl, a, rfl, ⟨_, .of ha⟩, fun D hD => ?_⟩
    refine lc_fm (walk_tup (xs := xs)) rBl (fun i => xs[i]?.bind fun x => some (openB H x)) hD (fun H' s' => .of (s'.keep.tup ha)) ?_ ?_
    · rintro i x H2 H3 hi pv ⟨rfl, hx⟩
      have hxm := hm x (List.mem_of_getElem? hx)
      refine ⟨rfl, _, rfl, g, x, rfl, hxm.same pv.1, fun H4 s4 => ?_⟩
      rw [openB_but (pv.1.but g) hxm]
      exact fm_keep mono_bl pv hD (by omega) s4 (by rw [hx]; rfl) rfl
    · intro H2 ys s2 hD2 hp
      have := paired_bl hp
      subst this
      refine ⟨_, _, rfl, .of hD2, ?_⟩
      rw [all_fm]
      exact q _ s2
end
end S4

namespace S4
open PySem L2 TT EE
/-! ### timings -/
def rightB (H : Hp) (r : V) : Bool := match tupOf H r with
  | some xs => decide (xs.length ≤ 23) && xs.all (openB H)
  | none => false
def leftB (H : Hp) (r l : V) : Bool := match tupOf H l with
  | some ys => decide (ys.length = lenT H r) && ys.all (openB H)
  | none => false
def partV (H : Hp) (r l : V) : V := if rightB H r = true then (if leftB H r l = true then .non else .str "left") else .str "right"
theorem all_openB {g : Addr} {H H' : Hp} (b : But g H H') {n : Nat} : ∀ {xs : List V}, (∀ x ∈ xs, Th g H (n + 1) x) → xs.all (openB H') = xs.all (openB H)
  | [], _ => rfl
  | x :: xs, h => by rw [List.all_cons, List.all_cons, openB_but b (h x (by simp)), all_openB b fun y hy => h y (by simp [hy])]
theorem rightB_but {g : Addr} {H H' : Hp} (b : But g H H') {n : Nat} {v : V} (h : Th g H (n + 2) v) : rightB H' v = rightB H v := by
  unfold rightB
  rw [h.tupOf b]
  cases e : tupOf H v with
  | none => rfl
  | some xs => simp only; rw [all_openB b (h.mem e)]
theorem leftB_but {g : Addr} {H H' : Hp} (b : But g H H') {n m : Nat} {r v : V} (h : Th g H (n + 2) v) (hr : Th g H m r) : leftB H' r v = leftB H r v := by
  unfold leftB
  rw [h.tupOf b, lenT_but b hr]
  cases e : tupOf H v with
  | none => rfl
  | some xs => simp only; rw [all_openB b (h.mem e)]
section
variable {P : Program} {w : World} {K : PySem.W.Frag} {mg : Str → Option Value} {base : Heap} {cT cS : Addr}
/-! ### an error with its part -/
def spBadInit (C : Addr) : Sp := fun vs H Q _ => ∃ (a : Addr) (y : V), vs = [.ref a, y] ∧ H a = some (exo a C none) ∧ ∀ d, H d = none → d ≠ a → Q .non (upd (upd H d (exd d [("part", y)])) a (exo a C (some d)))
theorem ok_BadTiming {C f : Addr} {fd : FuncData} (d : EI K "BadTiming.__init__" s_BadTiming ["self", "part"] ["part"] C f fd) : FnOk P w K mg base CX0 1 f fd ["self", "part"] (spBadInit C) := by
  refine d.F.ok sc_BadTiming (fun vs H Q E h => ?_) (fun cdv A outer s H vs Q E hr h => ?_)
  · obtain ⟨a, y, rfl, _⟩ := h
    rfl
  · obtain ⟨a, y, rfl, ha, q⟩ := h
    refine ⟨_, pss_one (ps_ost (pv 0) (pv 1)), ?_⟩
    exact ⟨_, rfl, _, rfl, a, C, rfl, d.oc, d.no _ (by simp), .inl ⟨ha, fun dx n ne => q dx n ne⟩⟩
theorem mk_bad {C : Addr} {H : Hp} {y : V} {Q : XK} (q : ∀ H' d, Same H H' → H d = none → H' d = some (.xd [("part", y)]) → Q (.ref C) (some d) H') (a : Addr) (ha : H a = none) :
    spBadInit C [.ref a, y] (upd H a (exo a C none)) (fun v H2 => v = .non ∧ ∃ (d : Addr) (fs : List (Str × V)), H2 a = some (exo a C (some d)) ∧ H2 d = some (exd d fs) ∧ H d = none ∧ Q (.ref C) (some d) (upd (del H2 a) d (.xd fs))) (fun _ _ _ => False) := by
  refine ⟨a, y, rfl, upd_same, fun d hd hda => ⟨rfl, d, [("part", y)], upd_same, ?_, ?_, ?_⟩⟩
  · rw [upd_ne hda, upd_same]
  · rw [upd_ne hda] at hd; exact hd
  · rw [upd_ne hda] at hd
    refine q _ d (fun b o e => ?_) hd upd_same
    have hb : b ≠ d := ne_of_none e hd
    have hba : b ≠ a := ne_of_none e ha
    rw [upd_ne hb, del_ne hba, upd_ne hba, upd_ne hb, upd_ne hba]
    exact e
def tmF (r l : V) : List (Str × V) := putF "left" l (putF "right" r [])
abbrev cBad (mg : Str → Option Value) : Addr := adr mg "BadTiming"
abbrev cTim (mg : Str → Option Value) : Addr := adr mg "Timing"
def spInitTiming (mg : Str → Option Value) : Sp := fun vs H Q E => ∃ (g x dx : Addr) (r l : V), vs = [.ref x, r, l] ∧ H x = some (.ins (cTim mg) dx []) ∧ Th g H 3 r ∧ Th g H 3 l ∧
  (rightB H r = true → leftB H r l = true → ∀ H', (∀ b o, b ≠ x → H b = some o → H' b = some o) → H' x = some (.ins (cTim mg) dx (tmF r l)) → Q .non H') ∧
  (rightB H r = false → ∀ H' d, Same H H' → H d = none → H' d = some (.xd [("part", .str "right")]) → E (.ref (cBad mg)) (some d) H') ∧
  (rightB H r = true → leftB H r l = false → ∀ H' d, Same H H' → H d = none → H' d = some (.xd [("part", .str "left")]) → E (.ref (cBad mg)) (some d) H')
theorem ok_Timing (T : Tx K mg cT cS) {f : Addr} {fd : FuncData} (d : DC K mg "Timing" "Timing.__init__" s_Timing ["self", "right", "left"] ["right", "left"] (cTim mg) f fd) : FnOk P w K mg base (L2.CX P w) 6 f fd ["self", "right", "left"] (spInitTiming mg) := by
  obtain ⟨f1, fd1, d1⟩ := T.d_are_openings
  have G1 : FnOk P w K mg base CX0 5 f1 fd1 ["things"] spOpens := ok_are_openings T d1
  obtain ⟨fB, fdB, eB⟩ := T.n_BadTiming
  have GB : FnOk P w K mg base CX0 1 fB fdB ["self", "part"] (spBadInit (cBad mg)) := ok_BadTiming eB
  have nR : NoAttr K (cTim mg) "right" := d.na _ (by simp)
  have nL : NoAttr K (cTim mg) "left" := d.na _ (by simp)
  obtain ⟨tk, hM⟩ := T.c_MOST_TIES
  refine d.F.okX sc_Timing (fun vs H Q E h => ?_) (fun cdv A outer s H vs Q E hr h => ?_)
  · obtain ⟨g, x, dx, r, l, rfl, _⟩ := h
    rfl
  · obtain ⟨g, x, dx, r, l, rfl, hx, tr, tl, q1, q2, q3⟩ := h
    obtain ⟨t, ty, k0, _, _, _⟩ := tr.kind K
    refine ⟨_, pss_cons (ps_if (PW.pt (pw_or (pt_not (pt_val (pe_callB call_isi (by rfl) T.b_isinstance (by decide +kernel) (pa_cons (pv 1) (pa_cons (ty_tuple T.b_tuple) pa_nil)))))
        (pw_or (pt_cmpR op_gt (pe_callB call_len_seq (by rfl) T.b_len PySem.boot_len (pa_cons (pv 1) pa_nil)) (pe_glob (v := .int 23) rfl hM ⟨_, rfl⟩) (nomark _))
        (pw_or1 (pt_not (pt_val (pe_call G1 hr rfl d1.m d1.F.kp d1.b .nil pass0 (pa_cons (pv 1) pa_nil))))))))
          (pss_one (ps_raise rfl (takes_of rfl rfl rfl rfl) (pmk_oex eB.oc eB.iC eB.tI GB (hr.mono (by decide)) eB.b .nil pass0 rfl T.e_BadTiming.m (pa_cons pe_str pa_nil)))) pss_nil)
      (pss_cons (ps_if (PW.pt (pw_or (pt_not (pt_val (pe_callB call_isi (by rfl) T.b_isinstance (by decide +kernel) (pa_cons (pv 2) (pa_cons (ty_tuple T.b_tuple) pa_nil)))))
        (pw_or (pt_cmpR op_ne (pe_callB call_len_seq (by rfl) T.b_len PySem.boot_len (pa_cons (pv 2) pa_nil)) (pe_callB call_len_seq (by rfl) T.b_len PySem.boot_len (pa_cons (pv 1) pa_nil)) (nomark _))
        (pw_or1 (pt_not (pt_val (pe_call G1 hr rfl d1.m d1.F.kp d1.b .nil pass0 (pa_cons (pv 2) pa_nil))))))))
          (pss_one (ps_raise rfl (takes_of rfl rfl rfl rfl) (pmk_oex eB.oc eB.iC eB.tI GB (hr.mono (by decide)) eB.b .nil pass0 rfl T.e_BadTiming.m (pa_cons pe_str pa_nil)))) pss_nil)
      (pss_cons (ps_fld (pv 0) (pv 1) rfl) (pss_one (ps_fld (pv 0) (pv 2) rfl)))), ?_⟩
    have bad : ∀ {H1 : Hp} {y : Str}, Same H H1 → (∀ H' d, Same H H' → H d = none → H' d = some (.xd [("part", .str y)]) → E (.ref (cBad mg)) (some d) H') → tMkO (cBad mg) (spBadInit (cBad mg)) [] (tCons (tC (.str y)) tNil) (start N_Timing [V.ref x, r, l]) H1 fun cls d H' => E cls d H' := by
      intro H1 y s1 q
      refine ⟨by show 1 ≤ 1000; decide, fun a ha => ?_⟩
      refine mk_bad (fun H' d s' hd hxd => q H' d (s1.trans s') ?_ hxd) a ha
      cases e : H d with
      | none => rfl
      | some o => rw [s1 _ _ e] at hd; cases hd
    refine ⟨_, rfl, _, _, _, _, _, rfl, .ty _, ty, k0, _, rfl, ?_⟩
    unfold rightB at q1 q2 q3
    unfold isTupB
    cases er : tupOf H r with
    | none =>
      rw [er] at q2
      exact iteT (bad (.refl _) (q2 rfl))
    | some xs =>
      rw [er] at q1 q2 q3
      have hmr := tr.mem er
      have hlr := tr.len er
      obtain ⟨a, rfl, ha⟩ := tupOf_some er
      simp only at q1 q2 q3
      refine iteF ⟨_, rfl, _, _, rfl, .inr (.of ha), _, _, rfl, rfl, _, rfl, ?_⟩
      by_cases h23 : xs.length ≤ 23
      · rw [decide_eq_false (by omega)]
        simp only [decide_eq_true h23, Bool.true_and] at q1 q2 q3
        refine iteF ⟨_, rfl, g, a, xs, rfl, ha, hlr, hmr, fun H2 s2 => ⟨_, rfl, ?_⟩⟩
        cases eo : xs.all (openB H) with
        | false => exact iteT (bad s2 (q2 eo))
        | true =>
          refine iteF ?_
          have p1 := q1 eo
          have p3 := q3 eo
          have tl2 := tl.same s2
          obtain ⟨t', ty', k0', _, _, _⟩ := tl2.kind K
          refine ⟨_, rfl, _, _, _, _, _, rfl, .ty _, ty', k0', _, rfl, ?_⟩
          unfold leftB at p1 p3
          unfold isTupB
          rw [tl.tupOf (s2.but g)]
          cases el : tupOf H l with
          | none =>
            rw [el] at p3
            exact iteT (bad s2 (p3 rfl))
          | some ys =>
            rw [el] at p1 p3
            have hml := tl.mem el
            have hll := tl.len el
            obtain ⟨b, rfl, hb⟩ := tupOf_some el
            have el2 : lenT H (.ref a) = xs.length := by unfold lenT; rw [er]
            simp only [el2] at p1 p3
            refine iteF ⟨_, rfl, _, _, rfl, .inr (.of (s2 _ _ hb)), _, rfl, _, _, rfl, .inr (.of (s2 _ _ ha)), rfl, _, rfl, ?_⟩
            by_cases hlen : ys.length = xs.length
            · rw [decide_eq_true hlen, Bool.true_and] at p1 p3
              rw [show (V.int ((ys.length : Nat) : Int)) = V.int ((xs.length : Nat) : Int) by rw [hlen], decide_eq_true rfl]
              refine iteF ⟨_, rfl, g, b, ys, rfl, s2 _ _ hb, hll, fun x hx => (hml x hx).same s2, fun H3 s3 => ⟨_, rfl, ?_⟩⟩
              rw [all_openB (s2.but g) hml]
              have s23 := s2.trans s3
              cases eo2 : ys.all (openB H) with
              | false => exact iteT (bad s23 (p3 eo2))
              | true =>
                refine iteF ?_
                have hx2 := s23 _ _ hx
                refine ⟨_, rfl, _, rfl, x, _, dx, [], rfl, hx2, d.cl, nR, by show 0 < 1000; decide, ?_⟩
                refine ⟨_, rfl, _, rfl, x, _, dx, _, rfl, upd_same, d.cl, nL, by show 1 < 1000; decide, ?_⟩
                rw [upd_upd]
                exact p1 eo2 _ (fun b o hb e => by rw [upd_ne hb]; exact s23 b o e) upd_same
            · rw [decide_eq_false hlen, Bool.false_and] at p3
              rw [decide_eq_false (fun z => hlen (by have := V.int.inj z; omega))]
              exact iteT (bad s2 (p3 rfl))
      · rw [decide_eq_true (by omega)]
        rw [decide_eq_false h23, Bool.false_and] at q2
        exact iteT (bad (.refl _) (q2 rfl))
end
end S4

namespace S4
open PySem L2 TT EE
theorem iteEq {x y : V} {A B : Prop} (h : x = y) (a : A) : if decide (x = y) = true then A else B := by rw [decide_eq_true h]; exact a
theorem iteNe {x y : V} {A B : Prop} (h : x ≠ y) (b : B) : if decide (x = y) = true then A else B := by rw [decide_eq_false h]; exact b
theorem getD_at {α : Type} {l : List α} {k : Nat} {d x : α} (h : l[k]? = some x) : l.getD k d = x := by rw [List.getD_eq_getElem?_getD, h]; rfl
theorem fm_some {α β : Type} (l : List α) (h : α → β) : (List.range l.length).filterMap (fun i => l[i]?.bind fun x => some (h x)) = l.map h := by
  rw [fm_list, List.filterMap_eq_map']
theorem cat_of {K : PySem.W.Frag} {H : Hp} {a b : Addr} {xs ys : List V} {Q : VK} (ha : H a = some (.tup xs)) (hb : H b = some (.tup ys)) (hl : xs.length + ys.length ≤ 10000) (q : ∀ H' p, Same H H' → H' p = some (.tup (xs ++ ys)) → Q (.ref p) H') : rCatA K (.ref a) (.ref b) H Q :=
  ⟨a, b, xs, ys, rfl, rfl, .of ha, .of hb, Nat.le_trans hl (by decide), fun e => q H b (.refl _) (by subst e; exact hb), fun _ e => q H a (.refl _) (by subst e; rw [List.append_nil]; exact ha), fun _ _ p np => q _ p (same_new np) upd_same⟩
theorem slice_from {K : PySem.W.Frag} {H : Hp} {a : Addr} {xs : List V} {k : Nat} {Q : VK} (h : H a = some (.tup xs)) (q : ∀ H' p, Same H H' → H' p = some (.tup (xs.drop k)) → Q (.ref p) H') : rSlA K (.ref a) (some (k : Int)) none H Q := by
  have ec : cutV xs (some (k : Int)) none = xs.drop k := by
    unfold cutV
    rw [HT.sIx_none, HT.sIx_nat]
    by_cases hk : k ≤ xs.length
    · rw [Nat.min_eq_left hk, List.take_of_length_le (by rw [List.length_drop]; omega)]
    · rw [Nat.min_eq_right (by omega), Nat.sub_self, List.take_zero, List.drop_of_length_le (by omega)]
  refine ⟨a, xs, rfl, .of h, fun e => q H a (.refl _) ?_, fun _ p np => ?_⟩
  · rw [HT.sIx_nat] at e
    have e1 := e.1
    by_cases h0 : k = 0
    · rw [h0, List.drop_zero]; exact h
    · have : xs = [] := List.eq_nil_of_length_eq_zero (by omega)
      subst this
      rw [List.drop_nil]
      exact h
  · rw [ec]
    exact q _ p (same_new np) upd_same
/-! ### openings and timings as data -/
abbrev Op := List Int × List Int
def rOp : Rp Op := fun H v p => ∃ t x y, v = .ref t ∧ H t = some (.tup [x, y]) ∧ rRow H x p.1 ∧ rRow H y p.2
theorem mono_op : Mono rOp := fun _ _ _ _ k ⟨t, x, y, e, h, r1, r2⟩ => ⟨t, x, y, e, k.tup h, mono_row _ _ _ _ k r1, mono_row _ _ _ _ k r2⟩
structure OpOk (p : Op) : Prop where
  l1 : p.1.length ≤ 40
  l2 : p.2.length ≤ 40
  v1 : ∀ x ∈ p.1, 0 ≤ x ∧ x < 9
  v2 : ∀ x ∈ p.2, 0 ≤ x ∧ x < 9
  ne : 0 < p.2.length
structure TimOk (R L : List Op) : Prop where
  lr : R.length ≤ 23
  ll : L.length = R.length
  r : ∀ p ∈ R, OpOk p
  l : ∀ p ∈ L, OpOk p
def rTim (mg : Str → Option Value) (H : Hp) (v : V) (R L : List Op) : Prop := ∃ a dx r l, v = .ref a ∧ H a = some (.ins (cTim mg) dx (tmF r l)) ∧ rTup rOp H r R ∧ rTup rOp H l L
theorem mono_tim {mg : Str → Option Value} {H H' : Hp} {v : V} {R L : List Op} (k : Keep H H') (h : rTim mg H v R L) : rTim mg H' v R L := let ⟨a, dx, r, l, e, hi, h1, h2⟩ := h; ⟨a, dx, r, l, e, k.ins hi, mono_tup mono_op _ _ _ _ k h1, mono_tup mono_op _ _ _ _ k h2⟩
def plcL (p : Op) (k : Nat) : Int := if k = 0 then 0 else if k ≤ p.1.length then p.1.getD (k - 1) 0 else p.2.getD ((k - 1 - p.1.length) % p.2.length) 0
def carL (p : Op) (k : Nat) : Int := if k ≤ p.1.length then (p.1.take k).sum else p.1.sum + (((k - p.1.length) / p.2.length : Nat) : Int) * p.2.sum + (p.2.take ((k - p.1.length) % p.2.length)).sum
theorem carL_zero (p : Op) : carL p 0 = 0 := by unfold carL; rw [if_pos (Nat.zero_le _)]; rfl
theorem take_sum_succ {l : List Int} {k : Nat} (h : k < l.length) : (l.take (k + 1)).sum = (l.take k).sum + l.getD k 0 := by
  rw [List.take_succ, List.getElem?_eq_getElem h, List.sum_append, getD_at (List.getElem?_eq_getElem h)]
  simp
theorem carL_succ {p : Op} (hp : 0 < p.2.length) (k : Nat) : carL p (k + 1) = carL p k + plcL p (k + 1) := by
  unfold carL plcL
  rw [if_neg (Nat.succ_ne_zero k)]
  by_cases h : k + 1 ≤ p.1.length
  · rw [if_pos h, if_pos (by omega), if_pos h, Nat.add_sub_cancel]
    exact take_sum_succ (by omega)
  · rw [if_neg h, if_neg h]
    generalize hm : p.2.length = m at *
    have e0 : k + 1 - 1 - p.1.length = k - p.1.length := by omega
    rw [e0]
    generalize hn : k - p.1.length = n
    have e1 : k + 1 - p.1.length = n + 1 := by omega
    rw [e1]
    have base : (if k ≤ p.1.length then (List.take k p.1).sum else p.1.sum + ((n / m : Nat) : Int) * p.2.sum + (List.take (n % m) p.2).sum) = p.1.sum + ((n / m : Nat) : Int) * p.2.sum + (List.take (n % m) p.2).sum := by
      by_cases hk : k ≤ p.1.length
      · have : n = 0 := by omega
        subst this
        rw [if_pos hk, List.take_of_length_le (by omega), Nat.zero_div, Nat.zero_mod]
        simp
      · rw [if_neg hk]
    rw [base]
    have hlt : n % m < m := Nat.mod_lt _ hp
    by_cases hw : n % m + 1 = m
    · have e2 : (n + 1) / m = n / m + 1 := by
        have := Nat.div_add_mod n m
        have e3 : n + 1 = m * (n / m + 1) := by rw [Nat.mul_add]; omega
        rw [e3, Nat.mul_div_cancel_left _ hp]
      have e4 : (n + 1) % m = 0 := by
        have := Nat.div_add_mod n m
        have e3 : n + 1 = m * (n / m + 1) := by rw [Nat.mul_add]; omega
        rw [e3, Nat.mul_mod_right]
      rw [e2, e4, List.take_zero]
      have e5 : p.2.sum = (p.2.take (n % m)).sum + p.2.getD (n % m) 0 := by
        rw [← take_sum_succ (by omega), hw, ← hm, List.take_length]
      have e6 : (((n / m + 1 : Nat) : Int)) * p.2.sum = ((n / m : Nat) : Int) * p.2.sum + p.2.sum := by rw [Int.natCast_add, Int.add_mul]; simp
      rw [e6]
      simp only [List.sum_nil]
      omega
    · have e2 : (n + 1) / m = n / m := by
        have := Nat.div_add_mod n m
        have e3 : n + 1 = (n % m + 1) + m * (n / m) := by omega
        rw [e3, Nat.add_mul_div_left _ _ hp, Nat.div_eq_of_lt (by omega), Nat.zero_add]
      have e4 : (n + 1) % m = n % m + 1 := by
        have := Nat.div_add_mod n m
        have e3 : n + 1 = (n % m + 1) + m * (n / m) := by omega
        rw [e3, Nat.add_mul_mod_self_left, Nat.mod_eq_of_lt (by omega)]
      rw [e2, e4, take_sum_succ (by omega)]
      omega
/-! ### from data to things and back -/
theorem row_turns {H : Hp} {v : V} {l : List Int} (h : rRow H v l) (hl : l.length ≤ 40) (hv : ∀ x ∈ l, 0 ≤ x ∧ x < 9) : turnsB H v = true := by
  obtain ⟨t, rfl, ht⟩ := h
  unfold turnsB
  rw [tupOf_at ht]
  simp only [Bool.and_eq_true, decide_eq_true_eq, List.all_eq_true, List.length_map]
  refine ⟨hl, fun x hx => ?_⟩
  obtain ⟨n, hn, rfl⟩ := List.mem_map.mp hx
  exact decide_eq_true (hv n hn)
theorem op_open {H : Hp} {v : V} {p : Op} (h : rOp H v p) (ok : OpOk p) : openB H v = true := by
  obtain ⟨t, x, y, rfl, ht, r1, r2⟩ := h
  unfold openB
  rw [tupOf_at ht]
  simp only [Bool.and_eq_true, decide_eq_true_eq]
  refine ⟨⟨row_turns r1 ok.l1 ok.v1, row_turns r2 ok.l2 ok.v2⟩, ?_⟩
  obtain ⟨ty, rfl, hty⟩ := r2
  unfold lenT
  rw [tupOf_at hty]
  simp only [List.length_map]
  exact ok.ne
theorem Th.row {g : Addr} {H : Hp} {v : V} {l : List Int} (hg : ∃ ys, H g = some (.lst ys)) (h : rRow H v l) (hl : l.length ≤ 1000) : Th g H 1 v := by
  obtain ⟨t, rfl, ht⟩ := h
  obtain ⟨ys, hg⟩ := hg
  refine .tup (n := 0) ht (ne_of ht hg (fun z => nomatch z)) (by rw [List.length_map]; exact hl) fun x hx => ?_
  obtain ⟨n, _, rfl⟩ := List.mem_map.mp hx
  exact .flat (v := .int n) trivial 0
theorem Th.op {g : Addr} {H : Hp} {v : V} {p : Op} (hg : ∃ ys, H g = some (.lst ys)) (h : rOp H v p) (ok : OpOk p) : Th g H 2 v := by
  obtain ⟨t, x, y, rfl, ht, r1, r2⟩ := h
  obtain ⟨ys, hg'⟩ := id hg
  have h1 := ok.l1
  have h2 := ok.l2
  refine .tup (n := 1) ht (ne_of ht hg' (fun z => nomatch z)) (by show 2 ≤ 1000; decide) fun z hz => ?_
  rcases List.mem_cons.mp hz with rfl | hz
  · exact Th.row hg r1 (by omega)
  · rcases List.mem_cons.mp hz with rfl | hz
    · exact Th.row hg r2 (by omega)
    · cases hz
theorem paired_mem1 {α β : Type} {F : α → β → Prop} : ∀ {xs : List α} {l : List β} {x : α}, Paired F xs l → x ∈ xs → ∃ y ∈ l, F x y
  | _, _, _, .nil, h => by simp at h
  | _, _, _, .cons r t, h => by
    rcases List.mem_cons.mp h with rfl | h
    · exact ⟨_, by simp, r⟩
    · obtain ⟨y, hy, f⟩ := paired_mem1 t h
      exact ⟨y, by simp [hy], f⟩
theorem Th.ops {g : Addr} {H : Hp} {v : V} {R : List Op} (hg : ∃ ys, H g = some (.lst ys)) (h : rTup rOp H v R) (hl : R.length ≤ 1000) (ok : ∀ p ∈ R, OpOk p) : Th g H 3 v := by
  obtain ⟨t, xs, rfl, ht, hp⟩ := h
  obtain ⟨ys, hg'⟩ := id hg
  refine .tup (n := 2) ht (ne_of ht hg' (fun z => nomatch z)) (by rw [paired_len hp]; exact hl) fun z hz => ?_
  obtain ⟨p, hpm, hr⟩ := paired_mem1 hp hz
  exact Th.op hg hr (ok p hpm)
theorem ops_all {H : Hp} {xs : List V} {R : List Op} (hp : Paired (rOp H) xs R) (ok : ∀ p ∈ R, OpOk p) : xs.all (openB H) = true := by
  rw [List.all_eq_true]
  intro x hx
  obtain ⟨p, hpm, hr⟩ := paired_mem1 hp hx
  exact op_open hr (ok p hpm)
theorem tim_right {H : Hp} {r l : V} {R L : List Op} (h1 : rTup rOp H r R) (h2 : rTup rOp H l L) (ok : TimOk R L) : rightB H r = true ∧ leftB H r l = true := by
  obtain ⟨t, xs, rfl, ht, hp⟩ := h1
  obtain ⟨t', ys, rfl, ht', hp'⟩ := h2
  have e1 := paired_len hp
  have e2 := paired_len hp'
  have := ok.lr
  have := ok.ll
  unfold rightB leftB lenT
  rw [tupOf_at ht, tupOf_at ht']
  simp only [Bool.and_eq_true, decide_eq_true_eq]
  exact ⟨⟨by omega, ops_all hp ok.r⟩, ⟨by omega, ops_all hp' ok.l⟩⟩
end S4

namespace S4
open PySem L2 TT EE
def intOf : V → Int
  | .int n => n
  | _ => 0
def nbI (a b : Int) : Bool := decide ((if a - b < 0 then -(a - b) else a - b) = 1)
theorem nbI_iff {a b : Int} : nbI a b = true ↔ a - b = 1 ∨ b - a = 1 := by
  unfold nbI
  rw [decide_eq_true_eq]
  by_cases h : a - b < 0
  · rw [if_pos h]; omega
  · rw [if_neg h]; omega
/-- a way between neighbours of so many posts -/
def nbB (H : Hp) (posts : Int) (v : V) : Bool := match tupOf H v with
  | some [x, y] => (below x posts && below y posts) && nbI (intOf x) (intOf y)
  | _ => false
theorem nbB_but {g : Addr} {H H' : Hp} (b : But g H H') {n : Nat} {v : V} {posts : Int} (h : Th g H n v) : nbB H' posts v = nbB H posts v := by unfold nbB; rw [h.tupOf b]
theorem nbB_some {H : Hp} {posts : Int} {v : V} (h : nbB H posts v = true) : ∃ a b : Int, tupOf H v = some [.int a, .int b] ∧ 0 ≤ a ∧ a < posts ∧ 0 ≤ b ∧ b < posts ∧ (a - b = 1 ∨ b - a = 1) := by
  unfold nbB at h
  cases e : tupOf H v with
  | none => rw [e] at h; cases h
  | some xs =>
    rw [e] at h
    rcases xs with _ | ⟨x, _ | ⟨y, _ | ⟨z, r⟩⟩⟩
    · cases h
    · cases h
    · simp only [Bool.and_eq_true] at h
      obtain ⟨⟨h1, h2⟩, h3⟩ := h
      obtain ⟨a, rfl, a0, a1⟩ := below_int h1
      obtain ⟨b, rfl, b0, b1⟩ := below_int h2
      exact ⟨a, b, rfl, a0, a1, b0, b1, nbI_iff.mp h3⟩
    · cases h
theorem nbB_of {H : Hp} {posts : Int} {v : V} {a b : Int} (e : tupOf H v = some [.int a, .int b]) (a0 : 0 ≤ a) (a1 : a < posts) (b0 : 0 ≤ b) (b1 : b < posts) (h : a - b = 1 ∨ b - a = 1) : nbB H posts v = true := by
  unfold nbB
  rw [e]
  simp only [Bool.and_eq_true]
  exact ⟨⟨decide_eq_true ⟨a0, a1⟩, decide_eq_true ⟨b0, b1⟩⟩, nbI_iff.mpr h⟩
theorem tim_right_fld (r l : V) : (tmF r l).lookup ("right" : Str) = some r := rfl
theorem tim_left_fld (r l : V) : (tmF r l).lookup ("left" : Str) = some l := rfl
section
variable {P : Program} {w : World} {K : PySem.W.Frag} {mg : Str → Option Value} {base : Heap} {cT cS : Addr}
def spNb : Sp := fun vs H Q _ => ∃ (g : Addr) (posts : Int) (v : V), vs = [.int posts, v] ∧ Th g H 1 v ∧ ∀ H', Same H H' → Q (.bl (nbB H posts v)) H'
theorem ok_nb (T : Tx K mg cT cS) {f : Addr} {fd : FuncData} (d : D K mg "are_neighbours" s_are_neighbours ["posts", "thing"] f fd) : FnOk P w K mg base CX0 3 f fd ["posts", "thing"] spNb := by
  obtain ⟨f1, fd1, d1⟩ := T.d_is_pair
  have G1 : FnOk P w K mg base CX0 1 f1 fd1 ["thing"] spIsPair := ok_is_pair T d1
  obtain ⟨f2, fd2, d2⟩ := T.d_is_below
  have G2 : FnOk P w K mg base CX0 2 f2 fd2 ["thing", "end"] spIsBelow := ok_is_below T d2
  refine d.F.ok sc_are_neighbours (fun vs H Q E h => ?_) (fun cdv A outer s H vs Q E hr h => ?_)
  · obtain ⟨g, posts, v, rfl, _⟩ := h
    rfl
  · obtain ⟨g, posts, v, rfl, th, q⟩ := h
    refine ⟨_, pss_cons (ps_if (PW.pt (pw_or (pt_not (pt_val (pe_call G1 (hr.mono (by decide)) rfl d1.m d1.F.kp d1.b .nil pass0 (pa_cons (pv 1) pa_nil))))
        (pw_or1 (pt_not (pt_val (pe_callB (cr_all rfl) (by rfl) T.b_all (by decide +kernel) (pa_cons
          (pe_lc (own := [("post", 2)]) (g := gName 2) (tt := tYes) rfl sc_are_neighbours.nd (pi_tup (pv 1)) (blkOk_by (N := N_are_neighbours) (sc := defScope s_are_neighbours) (by decide +kernel)) (fun _ _ _ _ _ => pg_name (i := 2) sc_are_neighbours.nd rfl (Or.inl rfl)) (fun _ _ _ _ _ => pts_nil)
            (fun _ _ _ _ _ => pe_call G2 hr rfl d2.m d2.F.kp d2.b .nil pass0 (pa_cons (pv 2) (pa_cons (pv 0) pa_nil)))) pa_nil))))))) (pss_one (ps_ret pe_bl)) pss_nil)
      (pss_one (ps_ret (pe_cmpR op_eq (pe_callB call_abs (by rfl) T.b_abs (by decide +kernel) (pa_cons (pe_op op_sub (pe_ix ix_tup (pv 1) pe_int (fun _ _ => rfl)) (pe_ix ix_tup (pv 1) pe_int (fun _ _ => rfl))) pa_nil)) pe_int (nomark _)))), ?_⟩
    refine ⟨_, rfl, g, v, rfl, th.zero, _, rfl, ?_⟩
    unfold nbB at q
    unfold pairB
    cases e : tupOf H v with
    | none => rw [e] at q; exact iteT (q _ (.refl _))
    | some xs =>
      rw [e] at q
      have hm := th.mem e
      have hl := th.len e
      obtain ⟨a, rfl, ha⟩ := tupOf_some e
      by_cases h2 : xs.length = 2
      · simp only [decide_eq_true h2]
        refine iteF ⟨_, rfl, a, rfl, ⟨_, .of ha⟩, fun D hD => ?_⟩
        refine lc_fm (walk_tup (xs := xs)) rBl (fun i => xs[i]?.bind fun x => some (below x posts)) hD (fun H' s' => .of (s'.keep.tup ha)) ?_ ?_
        · rintro i x H2 H3 hi pv ⟨rfl, hx⟩
          have hxm := hm x (List.mem_of_getElem? hx)
          refine ⟨rfl, _, rfl, _, rfl, g, x, _, rfl, hxm.same pv.1, ?_⟩
          exact fm_keep mono_bl pv hD (by omega) (Same.refl _) (by rw [hx]; rfl) rfl
        · intro H2 ys s2 hD2 hp
          have := paired_bl hp
          subst this
          refine ⟨_, _, rfl, .of hD2, _, rfl, ?_⟩
          rw [all_fm]
          rcases xs with _ | ⟨x, _ | ⟨y, _ | ⟨z, r⟩⟩⟩
          · cases h2
          · cases h2
          · simp only [List.all_cons, List.all_nil, Bool.and_true]
            simp only at q
            cases eb : below x posts && below y posts with
            | false =>
              rw [eb] at q
              exact iteT (q _ s2)
            | true =>
              rw [eb] at q
              simp only [Bool.true_and] at q
              rw [Bool.and_eq_true] at eb
              obtain ⟨m, rfl, _, _⟩ := below_int eb.1
              obtain ⟨k, rfl, _, _⟩ := below_int eb.2
              refine iteF ⟨_, rfl, a, _, _, _, rfl, rfl, .of (s2 _ _ ha), at_of (j := 0) rfl rfl, _, rfl, a, _, _, _, rfl, rfl, .of (s2 _ _ ha), at_of (j := 1) rfl rfl, _, _, rfl, rfl, _, rfl, rfl, ?_⟩
              have : decide (V.int (if m - k < 0 then -(m - k) else m - k) = V.int 1) = nbI m k := by
                unfold nbI
                by_cases hz : (if m - k < 0 then -(m - k) else m - k) = 1
                · rw [decide_eq_true hz, decide_eq_true (by rw [hz])]
                · rw [decide_eq_false hz, decide_eq_false (fun z => hz (V.int.inj z))]
              rw [this]
              exact q _ s2
          · cases h2
      · simp only [decide_eq_false h2]
        have : Q (.bl false) H := by
          rcases xs with _ | ⟨x, _ | ⟨y, _ | ⟨z, r⟩⟩⟩
          · exact q _ (.refl _)
          · exact q _ (.refl _)
          · exact absurd rfl h2
          · exact q _ (.refl _)
        exact iteT this
abbrev cWay (mg : Str → Option Value) : Addr := adr mg "NoWay"
abbrev cTick (mg : Str → Option Value) : Addr := adr mg "NoTick"
abbrev cNum (mg : Str → Option Value) : Addr := adr mg "NoNumber"
def opAt (R L : List Op) (a b : Int) : Op := if a < b then R.getD a.toNat ([], []) else L.getD b.toNat ([], [])
/-- what asks for a way and a tick: the errors that are due, else what it tells -/
def spAt (mg : Str → Option Value) (res : Hp → V → Op → Int → Prop) : Sp := fun vs H Q E => ∃ (g : Addr) (u way tick : V) (R L : List Op), vs = [u, way, tick] ∧ rTim mg H u R L ∧ TimOk R L ∧ Th g H 1 way ∧ Th g H 0 tick ∧
  (nbB H ((R.length : Int) + 1) way = false → ∀ H', Same H H' → E (.ref (cWay mg)) none H') ∧
  (nbB H ((R.length : Int) + 1) way = true → below tick 1000000001 = false → ∀ H', Same H H' → E (.ref (cTick mg)) none H') ∧
  (∀ (a b k : Int), tupOf H way = some [.int a, .int b] → tick = .int k → 0 ≤ k → k ≤ 1000000000 → nbB H ((R.length : Int) + 1) way = true → ∀ H' v, Same H H' → res H' v (opAt R L a b) k → Q v H')
theorem opAt_ok {R L : List Op} (ok : TimOk R L) {a b : Int} (a0 : 0 ≤ a) (a1 : a < (R.length : Int) + 1) (b0 : 0 ≤ b) (b1 : b < (R.length : Int) + 1) (h : a - b = 1 ∨ b - a = 1) : OpOk (opAt R L a b) := by
  unfold opAt
  have := ok.ll
  by_cases hlt : a < b
  · rw [if_pos hlt, getD_at (List.getElem?_eq_getElem (show a.toNat < R.length by omega))]
    exact ok.r _ (List.getElem_mem _)
  · rw [if_neg hlt, getD_at (List.getElem?_eq_getElem (show b.toNat < L.length by omega))]
    exact ok.l _ (List.getElem_mem _)
theorem ok_opening_at (T : Tx K mg cT cS) {f : Addr} {fd : FuncData} (d : D K mg "opening_at" s_opening_at ["timing", "way", "tick"] f fd) : FnOk P w K mg base (L2.CX P w) 4 f fd ["timing", "way", "tick"] (spAt mg fun H v p _ => rOp H v p) := by
  obtain ⟨f1, fd1, d1⟩ := T.d_are_neighbours
  have G1 : FnOk P w K mg base CX0 3 f1 fd1 ["posts", "thing"] spNb := ok_nb T d1
  obtain ⟨f2, fd2, d2⟩ := T.d_is_below
  have G2 : FnOk P w K mg base CX0 2 f2 fd2 ["thing", "end"] spIsBelow := ok_is_below T d2
  obtain ⟨fT, fdT, kT⟩ := T.k_Timing
  have nR : NoAttr K (cTim mg) "right" := kT.na _ (by simp)
  have nL : NoAttr K (cTim mg) "left" := kT.na _ (by simp)
  obtain ⟨tk, hM⟩ := T.c_LAST_TICK
  refine d.F.okX sc_opening_at (fun vs H Q E h => ?_) (fun cdv A outer s H vs Q E hr h => ?_)
  · obtain ⟨g, u, way, tick, R, L, rfl, _⟩ := h
    rfl
  · obtain ⟨g, u, way, tick, R, L, rfl, hu, ok, tw, tt, q1, q2, q3⟩ := h
    obtain ⟨x, dx, r, l, rfl, hx, hR, hL⟩ := id hu
    obtain ⟨tr, xs, rfl, htr, hpr⟩ := hR
    obtain ⟨tl, ys, rfl, htl, hpl⟩ := hL
    have er := paired_len hpr
    have el := paired_len hpl
    refine ⟨_, pss_cons (ps_if (pt_not (pt_val (pe_call G1 hr rfl d1.m d1.F.kp d1.b .nil pass0 (pa_cons (pe_op op_add (pe_callB call_len_seq (by rfl) T.b_len PySem.boot_len (pa_cons (pe_fld (pv 0) rfl) pa_nil)) pe_int) (pa_cons (pv 1) pa_nil)))))
          (pss_one (ps_raise rfl (takes_of rfl rfl rfl rfl) (pmk_own0 PySem.F.excBase_ValueError T.p_NoWay T.e_NoWay.m T.e_NoWay.kp (raises_own T.e_NoWay.ec.hs T.e_NoWay.ty) rfl))) pss_nil)
      (pss_cons (ps_if (pt_not (pt_val (pe_call G2 (hr.mono (by decide)) rfl d2.m d2.F.kp d2.b .nil pass0 (pa_cons (pv 2) (pa_cons (pe_op op_add (pe_glob (v := .int 1000000000) rfl hM ⟨_, rfl⟩) pe_int) pa_nil)))))
          (pss_one (ps_raise rfl (takes_of rfl rfl rfl rfl) (pmk_own0 PySem.F.excBase_ValueError T.p_NoTick T.e_NoTick.m T.e_NoTick.kp (raises_own T.e_NoTick.ec.hs T.e_NoTick.ty) rfl))) pss_nil)
      (pss_cons (ps_asg (pv 1) (pg_tup rfl (pgs_cons (pg_name (i := 3) sc_opening_at.nd rfl (.inl rfl)) (pgs_cons (pg_name (i := 4) sc_opening_at.nd rfl (.inl rfl)) pgs_nil))))
      (pss_one (ps_ret (pe_ifExp (pt_cmpR op_lt (pv 3) (pv 4) (nomark _)) (pe_ix ix_tup (pe_fld (pv 0) rfl) (pv 3) (fun _ _ => rfl)) (pe_ix ix_tup (pe_fld (pv 0) rfl) (pv 4) (fun _ _ => rfl))))))), ?_⟩
    refine ⟨_, rfl, x, _, dx, _, _, rfl, hx, kT.cl, nR, tim_right_fld _ _, _, _, rfl, .inr (.of htr), _, _, rfl, rfl, _, rfl, g, _, way, rfl, tw, fun H2 s2 => ⟨_, rfl, ?_⟩⟩
    rw [er]
    cases en : nbB H ((R.length : Int) + 1) way with
    | false => exact iteT (q1 en _ s2)
    | true =>
      refine iteF ⟨_, rfl, _, _, rfl, rfl, g, tick, _, rfl, tt.same s2, _, rfl, ?_⟩
      show if (!below tick 1000000001) = true then _ else _
      cases eb : below tick 1000000001 with
      | false => exact iteT (q2 en eb _ s2)
      | true =>
        obtain ⟨k, rfl, k0, k1⟩ := below_int eb
        obtain ⟨a, b, ew, a0, a1, b0, b1, hab⟩ := nbB_some en
        have q3 := q3 a b k ew rfl k0 (by omega) en
        have hll := ok.ll
        obtain ⟨aw, rfl, haw⟩ := tupOf_some ew
        obtain ⟨i, rfl⟩ : ∃ i : Nat, a = (i : Int) := ⟨a.toNat, by omega⟩
        obtain ⟨j, rfl⟩ : ∃ j : Nat, b = (j : Int) := ⟨b.toNat, by omega⟩
        refine iteF ⟨_, rfl, aw, _, rfl, .of (s2 _ _ haw), rfl, _, _, rfl, _, _, rfl, rfl, ?_⟩
        refine ⟨_, rfl, _, rfl, _, _, rfl, rfl, _, rfl, ?_⟩
        unfold opAt at q3
        by_cases hlt : (i : Int) < (j : Int)
        · rw [decide_eq_true hlt]
          rw [if_pos hlt] at q3
          obtain ⟨y, hy, hry⟩ := paired_get2 hpr (List.getElem?_eq_getElem (show i < R.length by omega))
          refine iteT ⟨_, rfl, x, _, dx, _, _, rfl, s2 _ _ hx, kT.cl, nR, tim_right_fld _ _, _, rfl, tr, _, _, _, rfl, rfl, .of (s2 _ _ htr), atI_nat hy, ?_⟩
          refine q3 _ _ s2 ?_
          rw [Int.toNat_natCast, getD_at (List.getElem?_eq_getElem (show i < R.length by omega))]
          exact mono_op _ _ _ _ s2.keep hry
        · rw [decide_eq_false hlt]
          rw [if_neg hlt] at q3
          obtain ⟨y, hy, hry⟩ := paired_get2 hpl (List.getElem?_eq_getElem (show j < L.length by omega))
          refine iteF ⟨_, rfl, x, _, dx, _, _, rfl, s2 _ _ hx, kT.cl, nL, tim_left_fld _ _, _, rfl, tl, _, _, _, rfl, rfl, .of (s2 _ _ htl), atI_nat hy, ?_⟩
          refine q3 _ _ s2 ?_
          rw [Int.toNat_natCast, getD_at (List.getElem?_eq_getElem (show j < L.length by omega))]
          exact mono_op _ _ _ _ s2.keep hry
end
end S4

namespace S4
open PySem L2 TT EE
theorem sum_bound : ∀ {l : List Int} {b : Int}, (∀ x ∈ l, 0 ≤ x ∧ x < b) → 0 ≤ l.sum ∧ l.sum ≤ b * (l.length : Int)
  | [], b, _ => by simp
  | x :: l, b, h => by
    have h1 := h x (by simp)
    have h2 := sum_bound (l := l) fun y hy => h y (by simp [hy])
    rw [List.sum_cons, List.length_cons]
    have : b * ((l.length + 1 : Nat) : Int) = b * (l.length : Int) + b := by rw [Int.natCast_add, Int.mul_add]; simp
    rw [this]
    omega
section
variable {P : Program} {w : World} {K : PySem.W.Frag} {mg : Str → Option Value} {base : Heap} {cT cS : Addr}
theorem ok_places (T : Tx K mg cT cS) {f : Addr} {fd : FuncData} (d : D K mg "places" s_places ["timing", "way", "tick"] f fd) : FnOk P w K mg base (L2.CX P w) 5 f fd ["timing", "way", "tick"] (spAt mg fun _ v p k => v = .int (plcL p k.toNat)) := by
  obtain ⟨f1, fd1, d1⟩ := T.d_opening_at
  have G1 : FnOk P w K mg base (L2.CX P w) 4 f1 fd1 ["timing", "way", "tick"] (spAt mg fun H v p _ => rOp H v p) := ok_opening_at T d1
  refine d.F.okX sc_places (fun vs H Q E h => ?_) (fun cdv A outer s H vs Q E hr h => ?_)
  · obtain ⟨g, u, way, tick, R, L, rfl, _⟩ := h
    rfl
  · obtain ⟨g, u, way, tick, R, L, rfl, hu, ok, tw, tt, q1, q2, q3⟩ := h
    refine ⟨_, pss_cons (ps_asg (pe_call G1 hr rfl d1.m d1.F.kp d1.b .nil (passes_call (takes_of rfl rfl rfl rfl) (fun _ _ _ _ h => h)) (pa_cons (pv 0) (pa_cons (pv 1) (pa_cons (pv 2) pa_nil))))
        (pg_tup rfl (pgs_cons (pg_name (i := 3) sc_places.nd rfl (.inl rfl)) (pgs_cons (pg_name (i := 4) sc_places.nd rfl (.inl rfl)) pgs_nil))))
      (pss_cons (ps_if (pt_cmpR op_eq (pv 2) pe_int (nomark _)) (pss_one (ps_ret pe_int)) pss_nil)
      (pss_cons (ps_if (pt_cmpR op_le (pv 2) (pe_callB call_len_seq (by rfl) T.b_len PySem.boot_len (pa_cons (pv 3) pa_nil)) (nomark _)) (pss_one (ps_ret (pe_ix ix_tup (pv 3) (pe_op op_sub (pv 2) pe_int) (fun _ _ => rfl)))) pss_nil)
      (pss_one (ps_ret (pe_ix ix_tup (pv 4) (pe_op op_mod (pe_op op_sub (pe_op op_sub (pv 2) (pe_callB call_len_seq (by rfl) T.b_len PySem.boot_len (pa_cons (pv 3) pa_nil))) pe_int) (pe_callB call_len_seq (by rfl) T.b_len PySem.boot_len (pa_cons (pv 4) pa_nil))) (fun _ _ => rfl)))))), ?_⟩
    refine ⟨_, rfl, _, rfl, _, rfl, g, u, way, tick, R, L, rfl, hu, ok, tw, tt, q1, q2, ?_⟩
    rintro a b k ew rfl k0 k1 en H2 v s2 ⟨t, x, y, rfl, ht, ⟨tx, rfl, htx⟩, ⟨ty, rfl, hty⟩⟩
    obtain ⟨a', b', ew', a0, a1, b0, b1, hab⟩ := nbB_some en
    rw [ew] at ew'
    cases ew'
    have oo := opAt_ok ok a0 a1 b0 b1 hab
    have q3 := q3 a b k ew rfl k0 k1 en H2 _ s2 rfl
    generalize opAt R L a b = p at *
    obtain ⟨n, rfl⟩ : ∃ n : Nat, k = (n : Int) := ⟨k.toNat, by omega⟩
    rw [Int.toNat_natCast] at q3
    unfold plcL at q3
    refine ⟨t, _, rfl, .of ht, rfl, _, _, rfl, _, _, rfl, rfl, ?_⟩
    refine ⟨_, rfl, rfl, _, rfl, ?_⟩
    by_cases h0 : n = 0
    · subst h0
      rw [if_pos rfl] at q3
      exact iteEq rfl q3
    · rw [if_neg h0] at q3
      refine iteNe (fun z => h0 (by have := V.int.inj z; omega)) ⟨_, rfl, _, rfl, _, _, rfl, .inr (.of htx), _, _, rfl, rfl, _, rfl, ?_⟩
      rw [List.length_map]
      by_cases h1 : n ≤ p.1.length
      · rw [decide_eq_true (by omega)]
        rw [if_pos h1] at q3
        have e1 : p.1[n - 1]? = some (p.1[n - 1]'(by omega)) := List.getElem?_eq_getElem (by omega)
        refine iteT ⟨_, rfl, _, rfl, _, _, rfl, rfl, tx, _, _, _, rfl, rfl, .of htx, at_of (j := n - 1) (by omega) (int_at e1), ?_⟩
        rw [getD_at e1] at q3
        exact q3
      · rw [decide_eq_false (by omega)]
        rw [if_neg h1] at q3
        have hm := Nat.mod_lt (n - 1 - p.1.length) oo.ne
        have e1 : p.2[(n - 1 - p.1.length) % p.2.length]? = some (p.2[(n - 1 - p.1.length) % p.2.length]'hm) := List.getElem?_eq_getElem hm
        refine iteF ⟨_, rfl, _, rfl, _, rfl, _, _, rfl, .inr (.of htx), _, _, rfl, rfl, _, _, rfl, rfl, _, rfl, _, _, rfl, .inr (.of hty), _, _, rfl, rfl, ?_, ty, _, _, _, rfl, rfl, .of hty, at_of (j := (n - 1 - p.1.length) % p.2.length) ?_ (int_at e1), ?_⟩
        · show (0 : Int) < (((p.2.map V.int).length : Nat) : Int)
          rw [List.length_map]
          have := oo.ne
          omega
        · rw [List.length_map, List.length_map]
          have : (n : Int) - (p.1.length : Int) - 1 = ((n - 1 - p.1.length : Nat) : Int) := by omega
          show ((n : Int) - (p.1.length : Int) - 1) % (p.2.length : Int) = _
          rw [this]
          exact (Int.natCast_emod _ _).symm
        · rw [getD_at e1] at q3
          exact q3
theorem ok_carried (T : Tx K mg cT cS) {f : Addr} {fd : FuncData} (d : D K mg "carried" s_carried ["timing", "way", "tick"] f fd) : FnOk P w K mg base (L2.CX P w) 5 f fd ["timing", "way", "tick"] (spAt mg fun _ v p k => v = .int (carL p k.toNat)) := by
  obtain ⟨f1, fd1, d1⟩ := T.d_opening_at
  have G1 : FnOk P w K mg base (L2.CX P w) 4 f1 fd1 ["timing", "way", "tick"] (spAt mg fun H v p _ => rOp H v p) := ok_opening_at T d1
  refine d.F.okX sc_carried (fun vs H Q E h => ?_) (fun cdv A outer s H vs Q E hr h => ?_)
  · obtain ⟨g, u, way, tick, R, L, rfl, _⟩ := h
    rfl
  · obtain ⟨g, u, way, tick, R, L, rfl, hu, ok, tw, tt, q1, q2, q3⟩ := h
    refine ⟨_, pss_cons (ps_asg (pe_call G1 hr rfl d1.m d1.F.kp d1.b .nil (passes_call (takes_of rfl rfl rfl rfl) (fun _ _ _ _ h => h)) (pa_cons (pv 0) (pa_cons (pv 1) (pa_cons (pv 2) pa_nil))))
        (pg_tup rfl (pgs_cons (pg_name (i := 3) sc_carried.nd rfl (.inl rfl)) (pgs_cons (pg_name (i := 4) sc_carried.nd rfl (.inl rfl)) pgs_nil))))
      (pss_cons (ps_if (pt_cmpR op_le (pv 2) (pe_callB call_len_seq (by rfl) T.b_len PySem.boot_len (pa_cons (pv 3) pa_nil)) (nomark _)) (pss_one (ps_ret (pe_callB (cr_sumT rfl) (by rfl) T.b_sum (by decide +kernel) (pa_cons (pe_slice sl_tupA (pv 3) po_none (po_some (pv 2))) pa_nil)))) pss_nil)
      (pss_cons (ps_asg (pe_callB call_divmod (by rfl) T.b_divmod (by decide +kernel) (pa_cons (pe_op op_sub (pv 2) (pe_callB call_len_seq (by rfl) T.b_len PySem.boot_len (pa_cons (pv 3) pa_nil))) (pa_cons (pe_callB call_len_seq (by rfl) T.b_len PySem.boot_len (pa_cons (pv 4) pa_nil)) pa_nil)))
        (pg_tup rfl (pgs_cons (pg_name (i := 5) sc_carried.nd rfl (.inl rfl)) (pgs_cons (pg_name (i := 6) sc_carried.nd rfl (.inl rfl)) pgs_nil))))
      (pss_one (ps_ret (pe_op op_add (pe_op op_add (pe_callB (cr_sumT rfl) (by rfl) T.b_sum (by decide +kernel) (pa_cons (pv 3) pa_nil)) (pe_op op_mul (pv 5) (pe_callB (cr_sumT rfl) (by rfl) T.b_sum (by decide +kernel) (pa_cons (pv 4) pa_nil))))
        (pe_callB (cr_sumT rfl) (by rfl) T.b_sum (by decide +kernel) (pa_cons (pe_slice sl_tupA (pv 4) po_none (po_some (pv 6))) pa_nil))))))), ?_⟩
    refine ⟨_, rfl, _, rfl, _, rfl, g, u, way, tick, R, L, rfl, hu, ok, tw, tt, q1, q2, ?_⟩
    rintro a b k ew rfl k0 k1 en H2 v s2 ⟨t, x, y, rfl, ht, ⟨tx, rfl, htx⟩, ⟨ty, rfl, hty⟩⟩
    obtain ⟨a', b', ew', a0, a1, b0, b1, hab⟩ := nbB_some en
    rw [ew] at ew'
    cases ew'
    have oo := opAt_ok ok a0 a1 b0 b1 hab
    have q3 := fun H3 (s3 : Same H H3) => q3 a b k ew rfl k0 k1 en H3 _ s3 rfl
    generalize opAt R L a b = p at *
    obtain ⟨n, rfl⟩ : ∃ n : Nat, k = (n : Int) := ⟨k.toNat, by omega⟩
    rw [Int.toNat_natCast] at q3
    unfold carL at q3
    refine ⟨t, _, rfl, .of ht, rfl, _, _, rfl, _, _, rfl, rfl, ?_⟩
    refine ⟨_, rfl, _, rfl, _, _, rfl, .inr (.of htx), _, _, rfl, rfl, _, rfl, ?_⟩
    rw [List.length_map]
    by_cases h1 : n ≤ p.1.length
    · rw [decide_eq_true (by omega)]
      rw [if_pos h1] at q3
      refine iteT ⟨_, rfl, _, rfl, (n : Int), rfl, slice_upto htx fun H3 p3 s3 hp3 => ⟨p3, p.1.take n, rfl, .of (by rw [List.map_take]; exact hp3), q3 _ (s2.trans s3)⟩⟩
    · rw [decide_eq_false (by omega)]
      rw [if_neg h1] at q3
      have e0 : (n : Int) - (p.1.length : Int) = ((n - p.1.length : Nat) : Int) := by omega
      have hne := oo.ne
      refine iteF ⟨_, rfl, _, rfl, _, _, rfl, .inr (.of htx), _, _, rfl, rfl, _, rfl, _, _, rfl, .inr (.of hty), _, _, rfl, ⟨by rw [List.length_map]; omega, by rw [List.length_map]; have := oo.l2; omega⟩, fun pd npd => ?_⟩
      rw [List.length_map, List.length_map, e0]
      have s3 := same_new (o := .tup [.int (((n - p.1.length : Nat) : Int) / (p.2.length : Int)), .int (((n - p.1.length : Nat) : Int) % (p.2.length : Int))]) npd
      have ed : ((n - p.1.length : Nat) : Int) / (p.2.length : Int) = (((n - p.1.length) / p.2.length : Nat) : Int) := (Int.natCast_ediv _ _).symm
      have em : ((n - p.1.length : Nat) : Int) % (p.2.length : Int) = (((n - p.1.length) % p.2.length : Nat) : Int) := (Int.natCast_emod _ _).symm
      refine ⟨pd, _, rfl, .of upd_same, rfl, _, _, rfl, _, _, rfl, rfl, ?_⟩
      have hs := sum_bound oo.v2
      have hl2 := oo.l2
      refine ⟨_, rfl, tx, _, rfl, .of (s3 _ _ htx), _, rfl, _, rfl, ty, _, rfl, .of (s3 _ _ hty), _, _, rfl, rfl, .inr ⟨by omega, by omega⟩, _, _, rfl, rfl, _, rfl, _, rfl, ?_⟩
      rw [em]
      refine ⟨(((n - p.1.length) % p.2.length : Nat) : Int), rfl, slice_upto (s3 _ _ hty) fun H4 p4 s4 hp4 => ⟨p4, p.2.take ((n - p.1.length) % p.2.length), rfl, .of (by rw [List.map_take]; exact hp4), _, _, rfl, rfl, ?_⟩⟩
      rw [ed]
      exact q3 _ ((s2.trans s3).trans s4)
def spCheckB (mg : Str → Option Value) : Sp := fun vs H Q E => ∃ (g : Addr) (b : V), vs = [b] ∧ Th g H 0 b ∧ (below b 9 = true → intOf b ≠ 0 → Q .non H) ∧ (below b 9 = false ∨ intOf b = 0 → E (.ref (cNum mg)) none H)
theorem ok_check_breadth (T : Tx K mg cT cS) {f : Addr} {fd : FuncData} (d : D K mg "check_breadth" s_check_breadth ["breadth"] f fd) : FnOk P w K mg base (L2.CX P w) 3 f fd ["breadth"] (spCheckB mg) := by
  obtain ⟨f2, fd2, d2⟩ := T.d_is_below
  have G2 : FnOk P w K mg base CX0 2 f2 fd2 ["thing", "end"] spIsBelow := ok_is_below T d2
  obtain ⟨tk, hM⟩ := T.c_MOST_PLACES
  refine d.F.okX sc_check_breadth (fun vs H Q E h => ?_) (fun cdv A outer s H vs Q E hr h => ?_)
  · obtain ⟨g, b, rfl, _⟩ := h
    rfl
  · obtain ⟨g, b, rfl, tb, q1, q2⟩ := h
    refine ⟨_, pss_one (ps_if (PW.pt (pw_or (pt_not (pt_val (pe_call G2 hr rfl d2.m d2.F.kp d2.b .nil pass0 (pa_cons (pv 0) (pa_cons (pe_op op_add (pe_glob (v := .int 8) rfl hM ⟨_, rfl⟩) pe_int) pa_nil)))))
        (pw_or1 (pt_cmpR op_eq (pv 0) pe_int (nomark _)))))
          (pss_one (ps_raise rfl (takes_of rfl rfl rfl rfl) (pmk_own0 PySem.F.excBase_ValueError T.p_NoNumber T.e_NoNumber.m T.e_NoNumber.kp (raises_own T.e_NoNumber.ec.hs T.e_NoNumber.ty) rfl))) pss_nil), ?_⟩
    refine ⟨_, rfl, _, _, rfl, rfl, g, b, _, rfl, tb, _, rfl, ?_⟩
    show if (!below b 9) = true then _ else _
    cases eb : below b 9 with
    | false => exact iteT (q2 (.inl eb))
    | true =>
      obtain ⟨n, rfl, n0, n1⟩ := below_int eb
      refine iteF ⟨_, rfl, rfl, _, rfl, ?_⟩
      by_cases h0 : n = 0
      · subst h0
        rw [decide_eq_true rfl]
        exact iteT (q2 (.inr rfl))
      · rw [decide_eq_false (fun z => h0 (V.int.inj z))]
        exact iteF (q1 eb h0)
end
end S4

namespace S4
open PySem L2 TT EE
/-! ### data to compare -/
def Shp (n : Nat) (d : PyData) : Prop := PyData.canLay0 d = true ∧ PyData.depth d ≤ n
theorem Shp.int (i : Int) : Shp 0 (.int i) := ⟨by simp [PyData.canLay0], by simp [PyData.depth]⟩
theorem Shp.str {i : Str} (h : PyData.strOk i = true) : Shp 0 (.str i) := ⟨by simp [PyData.canLay0, h], by simp [PyData.depth]⟩
theorem hu65 {k : Nat} {A : Around} (r : Room k A) : A.units + 65 < cLine := by have := r.un; omega
theorem hu64 {k : Nat} {A : Around} (r : Room k A) : A.units + 64 < cLine := by have := r.un; omega
theorem shp_all {n : Nat} : ∀ {l : List PyData}, (∀ x ∈ l, Shp n x) → PyData.canLayAll0 l = true ∧ PyData.depthAll l ≤ n
  | [], _ => ⟨by simp [PyData.canLayAll0], by simp [PyData.depthAll]⟩
  | x :: l, h => by
    obtain ⟨h1, h2⟩ := shp_all (l := l) fun y hy => h y (by simp [hy])
    obtain ⟨h3, h4⟩ := h x (by simp)
    exact ⟨by simp [PyData.canLayAll0, h1, h3], by simp only [PyData.depthAll]; omega⟩
theorem Shp.tup {n : Nat} {l : List PyData} (h : ∀ x ∈ l, Shp n x) : Shp (n + 1) (.tuple l) := by
  obtain ⟨h1, h2⟩ := shp_all h
  exact ⟨by simp only [PyData.canLay0]; exact h1, by simp only [PyData.depth]; omega⟩
theorem Shp.lst {n : Nat} {l : List PyData} (h : ∀ x ∈ l, Shp n x) : Shp (n + 1) (.list l) := by
  obtain ⟨h1, h2⟩ := shp_all h
  exact ⟨by simp only [PyData.canLay0]; exact h1, by simp only [PyData.depth]; omega⟩
theorem Shp.ok {n : Nat} {d : PyData} (h : Shp n d) (hn : n ≤ 64) : SeqAt.shaped d = true := by
  show (PyData.canLay0 d && decide (PyData.depth d ≤ 64)) = true
  rw [Bool.and_eq_true]
  exact ⟨h.1, decide_eq_true (Nat.le_trans h.2 hn)⟩
def rd (r : List Int) : PyData := .tuple (r.map PyData.int)
def dOp (p : Op) : PyData := .tuple [rd p.1, rd p.2]
def dOps (R : List Op) : PyData := .tuple (R.map dOp)
theorem shp_rd (r : List Int) : Shp 1 (rd r) := .tup fun x hx => by obtain ⟨n, _, rfl⟩ := List.mem_map.mp hx; exact .int n
theorem shp_op (p : Op) : Shp 2 (dOp p) := .tup fun x hx => by
  simp only [List.mem_cons, List.not_mem_nil, or_false] at hx
  rcases hx with rfl | rfl <;> exact shp_rd _
theorem shp_ops (R : List Op) : Shp 3 (dOps R) := .tup fun x hx => by obtain ⟨n, _, rfl⟩ := List.mem_map.mp hx; exact shp_op n
section
variable {K : PySem.W.Frag} {H : Hp}
theorem dp_ints : ∀ l : List Int, DpAll K H (l.map V.int) (l.map PyData.int)
  | [] => .nil
  | _ :: zs => .cons (.int _) (dp_ints zs)
theorem dp_row {v : V} {l : List Int} (h : rRow H v l) : Dp K H v (rd l) := by obtain ⟨t, rfl, ht⟩ := h; exact .tup (.of ht) (dp_ints l)
theorem dp_op {v : V} {p : Op} (h : rOp H v p) : Dp K H v (dOp p) := by obtain ⟨t, x, y, rfl, ht, r1, r2⟩ := h; exact .tup (.of ht) (.cons (dp_row r1) (.cons (dp_row r2) .nil))
theorem dp_opsA : ∀ {xs : List V} {R : List Op}, Paired (rOp H) xs R → DpAll K H xs (R.map dOp)
  | _, _, .nil => .nil
  | _, _, .cons r t => .cons (dp_op r) (dp_opsA t)
theorem dp_ops {v : V} {R : List Op} (h : rTup rOp H v R) : Dp K H v (dOps R) := by obtain ⟨t, xs, rfl, ht, hp⟩ := h; exact .tup (.of ht) (dp_opsA hp)
end
theorem sub_tup {K : PySem.W.Frag} {C : Addr} : PySem.W.subIn K (.type "tuple") (.ref C) = some false := by
  have e : PySem.fastBuiltinMro "tuple" = some [.type "tuple", .type "object"] := by decide +kernel
  show (PySem.fastBuiltinMro "tuple").map (·.contains (.ref C)) = some false
  rw [e]
  rfl
theorem kit_tupC {K : PySem.W.Frag} {C : Addr} (hd : PySem.W.hasDictIn K C = true) (ht : PySem.W.typeIn K (.ref C) = some (.type "type")) : PySem.W.kitOne K (.type "tuple") (.ref C) = some false := by
  obtain ⟨cd, hc, _⟩ := PySem.W.any_some hd
  have e2 : ((PySem.W.clsIn K C).isSome && PySem.W.typeIn K (.ref C) == some (.type "type")) = true := by rw [hc, ht] <;> rfl
  unfold PySem.W.kitOne
  rw [if_neg (by simp)]
  show (if ((PySem.W.clsIn K C).isSome && PySem.W.typeIn K (.ref C) == some (.type "type")) = true then PySem.W.subIn K (.type "tuple") (.ref C) else none) = some false
  rw [if_pos e2]
  exact sub_tup
theorem rep_flat {α : Type} (x : α) : ∀ k : Nat, (List.replicate k [x]).flatten = List.replicate k x
  | 0 => rfl
  | k + 1 => by rw [List.replicate_succ, List.replicate_succ, List.flatten_cons, rep_flat x k]; rfl
theorem rep_of {K : PySem.W.Frag} {H : Hp} {t : Addr} {x : V} {k : Nat} {Q : VK} (ht : H t = some (.tup [x])) (hk : k ≤ 1000) (q : ∀ H' p, Same H H' → H' p = some (.tup (List.replicate k x)) → Q (.ref p) H') : rRepA K (.ref t) (.int (k : Int)) H Q := by
  refine ⟨t, k, [x], rfl, rfl, .of ht, by simp, by omega, by omega, by show 1 ≤ 1000; decide, fun e => ?_, fun e p np => ?_⟩
  · have : k = 1 := by omega
    subst this
    exact q H _ (.refl _) ht
  · refine q _ _ (same_new np) ?_
    rw [upd_same, Int.toNat_natCast, rep_flat]
theorem paired_rep {α β : Type} {F : α → β → Prop} {x : α} {y : β} (h : F x y) : ∀ k : Nat, Paired F (List.replicate k x) (List.replicate k y)
  | 0 => .nil
  | k + 1 => .cons h (paired_rep h k)
section
variable {P : Program} {w : World} {K : PySem.W.Frag} {mg : Str → Option Value} {base : Heap} {cT cS : Addr}
def evenB (t b : V) : Bool := below t 24 && (below b 9 && decide (intOf b ≠ 0))
def evL (n : Nat) (b : Int) : List Op := List.replicate n ([], [b])
theorem evL_ok {n : Nat} {b : Int} (hn : n ≤ 23) (h0 : 0 ≤ b) (h1 : b < 9) : TimOk (evL n b) (evL n b) := by
  have h : ∀ p ∈ evL n b, OpOk p := fun p hp => by
    rw [(List.mem_replicate.mp hp).2]
    refine ⟨by show 0 ≤ 40; decide, by show 1 ≤ 40; decide, fun x hx => ?_, fun x hx => ?_, by show 0 < 1; decide⟩
    · cases hx
    · rw [List.mem_singleton.mp hx]; exact ⟨h0, h1⟩
  exact ⟨by unfold evL; rw [List.length_replicate]; exact hn, rfl, h, h⟩
theorem made_same {H : Hp} {x dx : Addr} {C : Addr} {fs : List (Str × V)} (hx : H x = none) (hd : H dx = none) (hne : dx ≠ x) : Same H (upd (upd H dx (.own x)) x (.ins C dx fs)) := fun b o e => by
  rw [upd_ne (ne_of_none e hx), upd_ne (ne_of_none e hd)]; exact e
/-- Timing(r, l) of right parts -/
theorem make_tim {g : Addr} {H : Hp} {r l : V} {R L : List Op} {Q : VK} {E : XK} (hg : ∃ ys, H g = some (.lst ys)) (h1 : rTup rOp H r R) (h2 : rTup rOp H l L) (ok : TimOk R L) (q : ∀ H' v, Same H H' → rTim mg H' v R L → Q v H') (x dx : Addr) (hx : H x = none) (hd : H dx = none) (hne : dx ≠ x) :
    spInitTiming mg [.ref x, r, l] (upd (upd H dx (.own x)) x (.ins (cTim mg) dx [])) (fun v H2 => v = .non ∧ Q (.ref x) H2) E := by
  have s1 := made_same (C := cTim mg) (fs := []) hx hd hne
  obtain ⟨ys, hg⟩ := hg
  have hg1 : ∃ ys, (upd (upd H dx (.own x)) x (.ins (cTim mg) dx [])) g = some (.lst ys) := ⟨ys, s1 _ _ hg⟩
  have r1 := mono_tup mono_op _ _ _ _ s1.keep h1
  have r2 := mono_tup mono_op _ _ _ _ s1.keep h2
  have := ok.lr
  have := ok.ll
  obtain ⟨b1, b2⟩ := tim_right r1 r2 ok
  refine ⟨g, x, dx, r, l, rfl, upd_same, Th.ops hg1 r1 (by omega) ok.r, Th.ops hg1 r2 (by omega) ok.l, fun _ _ H' k hi => ⟨rfl, ?_⟩, fun e => ?_, fun _ e => ?_⟩
  · have s2 : Same H H' := fun b o e => k b o (ne_of_none e hx) (s1 b o e)
    exact q _ _ s2 ⟨x, dx, r, l, rfl, hi, mono_tup mono_op _ _ _ _ s2.keep h1, mono_tup mono_op _ _ _ _ s2.keep h2⟩
  · rw [b1] at e; cases e
  · rw [b2] at e; cases e
def spEven (mg : Str → Option Value) : Sp := fun vs H Q E => ∃ (g : Addr) (t b : V), vs = [t, b] ∧ Th g H 0 t ∧ Th g H 0 b ∧ (∃ ys, H g = some (.lst ys)) ∧ (evenB t b = false → ∀ H', Same H H' → E (.ref (cNum mg)) none H') ∧
  (∀ (n : Nat) (k : Int), t = .int n → b = .int k → n ≤ 23 → 0 < k → k < 9 → ∀ H' v, Same H H' → rTim mg H' v (evL n k) (evL n k) → Q v H')
theorem ok_even (T : Tx K mg cT cS) {f : Addr} {fd : FuncData} (d : D K mg "even_timing" s_even_timing ["ties", "breadth"] f fd) : FnOk P w K mg base (L2.CX P w) 8 f fd ["ties", "breadth"] (spEven mg) := by
  obtain ⟨f1, fd1, d1⟩ := T.d_check_breadth
  have G1 : FnOk P w K mg base (L2.CX P w) 3 f1 fd1 ["breadth"] (spCheckB mg) := ok_check_breadth T d1
  obtain ⟨f2, fd2, d2⟩ := T.d_is_below
  have G2 : FnOk P w K mg base CX0 2 f2 fd2 ["thing", "end"] spIsBelow := ok_is_below T d2
  obtain ⟨fT, fdT, kT⟩ := T.k_Timing
  have GT : FnOk P w K mg base (L2.CX P w) 6 fT fdT ["self", "right", "left"] (spInitTiming mg) := ok_Timing T kT
  obtain ⟨tk, hM⟩ := T.c_MOST_TIES
  refine d.F.okX sc_even_timing (fun vs H Q E h => ?_) (fun cdv A outer s H vs Q E hr h => ?_)
  · obtain ⟨g, t, b, rfl, _⟩ := h
    rfl
  · obtain ⟨g, t, b, rfl, tt, tb, hg, q1, q2⟩ := h
    refine ⟨_, pss_cons (ps_if (pt_not (pt_val (pe_call G2 (hr.mono (by decide)) rfl d2.m d2.F.kp d2.b .nil pass0 (pa_cons (pv 0) (pa_cons (pe_op op_add (pe_glob (v := .int 23) rfl hM ⟨_, rfl⟩) pe_int) pa_nil)))))
          (pss_one (ps_raise rfl (takes_of rfl rfl rfl rfl) (pmk_own0 PySem.F.excBase_ValueError T.p_NoNumber T.e_NoNumber.m T.e_NoNumber.kp (raises_own T.e_NoNumber.ec.hs T.e_NoNumber.ty) rfl))) pss_nil)
      (pss_cons (ps_expr (pe_call G1 (hr.mono (by decide)) rfl d1.m d1.F.kp d1.b .nil (passes_call (takes_of rfl rfl rfl rfl) (fun _ _ _ _ h => h)) (pa_cons (pv 1) pa_nil)))
      (pss_cons (ps_set (i := 2) sc_even_timing.nd rfl (.inl rfl) (pe_op op_repA (pe_tup (pa_cons (pe_tup (pa_cons (pe_tup pa_nil) (pa_cons (pe_tup (pa_cons (pv 1) pa_nil)) pa_nil))) pa_nil)) (pv 0)))
      (pss_one (ps_ret (pe_make kT.mkf GT hr rfl kT.m kT.b .nil (passes_call (takes_of rfl rfl rfl rfl) (fun _ _ _ _ h => h)) (pa_cons (pv 2) (pa_cons (pv 2) pa_nil))))))), ?_⟩
    refine ⟨_, rfl, _, _, rfl, rfl, g, t, _, rfl, tt, _, rfl, ?_⟩
    show if (!below t 24) = true then _ else _
    unfold evenB at q1
    cases et : below t 24 with
    | false => rw [et] at q1; exact iteT (q1 rfl _ (.refl _))
    | true =>
      rw [et, Bool.true_and] at q1
      refine iteF ⟨_, rfl, g, b, rfl, tb, fun eb h0 => ?_, fun hor => q1 ?_ _ (.refl _)⟩
      · obtain ⟨k, rfl, k0, k1⟩ := below_int eb
        obtain ⟨m, rfl, m0, m1⟩ := below_int et
        obtain ⟨n, rfl⟩ : ∃ n : Nat, m = (n : Int) := ⟨m.toNat, by omega⟩
        have hk : k ≠ 0 := h0
        refine ⟨by show 0 ≤ sizeLine; decide, fun p0 n0 => ⟨_, rfl, by show 1 ≤ sizeLine; decide, fun p1 n1 => ⟨by show 2 ≤ sizeLine; decide, fun p2 n2 => ⟨by show 1 ≤ sizeLine; decide, fun p3 n3 => ⟨_, rfl, ?_⟩⟩⟩⟩⟩
        have s0 := same_new (o := .tup []) n0
        have s1 := same_new (o := .tup [V.int k]) n1
        have s2 := same_new (o := .tup [V.ref p0, V.ref p1]) n2
        have s3 := same_new (o := .tup [V.ref p2]) n3
        refine rep_of upd_same (by omega) fun H4 p4 s4 hp4 => ?_
        dsimp only [gName, tSeq]
        have ho : rOp H4 (.ref p2) ([], [k]) := by
          refine ⟨p2, .ref p0, .ref p1, rfl, s4 _ _ (s3 _ _ upd_same), ⟨p0, rfl, ?_⟩, ⟨p1, rfl, ?_⟩⟩
          · exact s4 _ _ (s3 _ _ (s2 _ _ (s1 _ _ upd_same)))
          · exact s4 _ _ (s3 _ _ (s2 _ _ upd_same))
        have hr4 : rTup rOp H4 (.ref p4) (evL n k) := ⟨p4, _, rfl, hp4, paired_rep ho n⟩
        have s04 := (((s0.trans s1).trans s2).trans s3).trans s4
        obtain ⟨ys, hg⟩ := hg
        refine ⟨_, rfl, _, rfl, fun x dx nx nd ne => make_tim ⟨ys, s04 _ _ hg⟩ hr4 hr4 (evL_ok (by omega) k0 k1) (fun H5 v s5 ht => q2 n k rfl rfl (by omega) (by omega) k1 H5 v (s04.trans s5) ht) x dx nx nd ne⟩
      · rcases hor with h | h
        · rw [h]; rfl
        · rw [decide_eq_false (fun z => z h), Bool.and_false]
/-! ### == of timings -/
def timD (R L R2 L2 : List Op) : Bool := PyData.eqv (dOps R) (dOps R2) && PyData.eqv (dOps L) (dOps L2)
def spEqT (mg : Str → Option Value) : Sp := fun vs H Q _ => ∃ (u v : V) (R L : List Op), vs = [u, v] ∧ rTim mg H u R L ∧
  ((∃ R2 L2, rTim mg H v R2 L2 ∧ Q (.bl (timD R L R2 L2)) H) ∨ (∃ t xs, v = .ref t ∧ H t = some (.tup xs) ∧ Q (.bl false) H))
theorem ok_eqT (T : Tx K mg cT cS) {f : Addr} {fd : FuncData} (d : DM K "__eq__" "Timing.__eq__" s_Timing_eq ["self", "other"] (cTim mg) f fd) : FnOk P w K mg base CX0 1 f fd ["self", "other"] (spEqT mg) := by
  obtain ⟨fT, fdT, kT⟩ := T.k_Timing
  have nR : NoAttr K (cTim mg) "right" := kT.na _ (by simp)
  have nL : NoAttr K (cTim mg) "left" := kT.na _ (by simp)
  have iT := T.i_Timing
  refine d.F.ok sc_Timing_eq (fun vs H Q E h => ?_) (fun cdv A outer s H vs Q E hr h => ?_)
  · obtain ⟨u, v, R, L, rfl, _⟩ := h
    rfl
  · obtain ⟨u, v, R, L, rfl, hu, h⟩ := h
    refine ⟨_, pss_one (ps_ret (pe_and (pe_callB call_isi (by rfl) T.b_isinstance (by decide +kernel) (pa_cons (pv 1) (pa_cons (pe_glob (v := .ref (cTim mg)) rfl kT.m rfl) pa_nil)))
      (pe_and (pe_cmpR (op_eqD (hu64 hr)) (pe_fld (pv 0) rfl) (pe_fld (pv 1) rfl) (nomark _))
      (pe_one (pe_cmpR (op_eqD (hu64 hr)) (pe_fld (pv 0) rfl) (pe_fld (pv 1) rfl) (nomark _)))))), ?_⟩
    obtain ⟨x, dx, r, l, rfl, hx, hR, hL⟩ := hu
    rcases h with ⟨R2, L2, ⟨x2, dx2, r2, l2, rfl, hx2, hR2, hL2⟩, q⟩ | ⟨t, xs, rfl, ht, q⟩
    · refine ⟨_, rfl, _, _, _, _, _, rfl, .own _, .base (.ins hx2 iT.cl iT.ha iT.hn iT.htk iT.hm), iT.me, _, rfl, iteT ?_⟩
      refine ⟨_, rfl, x, _, dx, _, _, rfl, hx, kT.cl, nR, tim_right_fld _ _, _, rfl, x2, _, dx2, _, _, rfl, hx2, kT.cl, nR, tim_right_fld _ _, _, _, dp_ops hR, dp_ops hR2, (shp_ops R).ok (by decide), (shp_ops R2).ok (by decide), _, rfl, ?_⟩
      unfold timD at q
      cases e : PyData.eqv (dOps R) (dOps R2) with
      | false => rw [e] at q; exact iteF q
      | true =>
        rw [e, Bool.true_and] at q
        exact iteT ⟨_, rfl, x, _, dx, _, _, rfl, hx, kT.cl, nL, tim_left_fld _ _, _, rfl, x2, _, dx2, _, _, rfl, hx2, kT.cl, nL, tim_left_fld _ _, _, _, dp_ops hL, dp_ops hL2, (shp_ops L).ok (by decide), (shp_ops L2).ok (by decide), q⟩
    · exact ⟨_, rfl, _, _, _, _, _, rfl, .own _, .base (.tup ht), kit_tupC iT.cl.hd T.t_Timing, _, rfl, iteF q⟩
end
end S4

namespace S4
open PySem L2 TT EE
/-! ### the hand that draws -/
def hl (c : Addr) (i1 i2 i3 i4 : Int) : List V := [.ref c, .int i1, .int i2, .int i3, .int i4]
structure HandW (g c : Addr) (cells : List Int) (i1 i2 i3 i4 : Int) (H : Hp) : Prop where
  h : H g = some (.lst (hl c i1 i2 i3 i4))
  hc : H c = some (.lst (cells.map V.int))
  len : cells.length ≤ 63
  pos : ∀ x ∈ cells, 0 ≤ x
  b1 : 0 ≤ i1 ∧ i1 ≤ (cells.length : Int)
  b2 : 0 ≤ i2
  b3 : 0 ≤ i3 ∧ i3 < 4294967296
  b4 : 0 ≤ i4
def Hand (g c : Addr) (H : Hp) : Prop := ∃ cells i1 i2 i3 i4, HandW g c cells i1 i2 i3 i4 H
theorem HandW.ne {g c : Addr} {cells : List Int} {i1 i2 i3 i4 : Int} {H : Hp} (h : HandW g c cells i1 i2 i3 i4 H) : c ≠ g := ne_of h.hc h.h (fun e => by
  injection e with e
  cases cells with
  | nil => cases e
  | cons a l => rw [List.map_cons] at e; cases e)
theorem Hand.lst {g c : Addr} {H : Hp} (h : Hand g c H) : ∃ ys, H g = some (.lst ys) := let ⟨_, _, _, _, _, w⟩ := h; ⟨_, w.h⟩
theorem Hand.cells {g c : Addr} {H : Hp} (h : Hand g c H) : ∃ ys, H c = some (.lst ys) := let ⟨_, _, _, _, _, w⟩ := h; ⟨_, w.hc⟩
theorem Hand.setD {g c D : Addr} {H : Hp} {o : HO} (h : Hand g c H) (h1 : D ≠ g) (h2 : D ≠ c) : Hand g c (upd H D o) := let ⟨cells, i1, i2, i3, i4, w⟩ := h; ⟨cells, i1, i2, i3, i4, by rw [upd_ne h1.symm]; exact w.h, by rw [upd_ne h2.symm]; exact w.hc, w.len, w.pos, w.b1, w.b2, w.b3, w.b4⟩
theorem Hand.same {g c : Addr} {H H' : Hp} (h : Hand g c H) (s : Same H H') : Hand g c H' := by
  obtain ⟨cells, i1, i2, i3, i4, w⟩ := h
  exact ⟨cells, i1, i2, i3, i4, s _ _ w.h, s _ _ w.hc, w.len, w.pos, w.b1, w.b2, w.b3, w.b4⟩
/-- a list apart from the hand stays apart -/
theorem _root_.TT.But.lst {g : Addr} {H H' : Hp} (k : But g H H') {b : Addr} (hb : b ≠ g) {xs : List V} (h : H b = some (.lst xs)) : H' b = some (.lst xs) := k b _ hb h
theorem Hand.keep {g c : Addr} {H H' : Hp} (h : Hand g c H) (k : But g H H') : Keep H H' := let ⟨_, e⟩ := h.lst; k.keep e
section
variable {P : Program} {w : World} {K : PySem.W.Frag} {mg : Str → Option Value} {base : Heap} {cT cS : Addr}
def spHand (K : PySem.W.Frag) : Sp := fun vs H Q _ => ∃ (a : Addr) (ns : List Int), vs = [.ref a] ∧ SqL K H a (ns.map V.int) ∧ ns.length ≤ 63 ∧ ∀ H' g c, Same H H' → H g = none → Hand g c H' → Q (.ref g) H'
theorem ok_hand (T : Tx K mg cT cS) {f : Addr} {fd : FuncData} (d : D K mg "_law_hand" s_law_hand ["script"] f fd) : FnOk P w K mg base CX0 1 f fd ["script"] (spHand K) := by
  refine d.F.ok sc_law_hand (fun vs H Q E h => ?_) (fun cdv A outer s H vs Q E hr h => ?_)
  · obtain ⟨a, ns, rfl, _⟩ := h
    rfl
  · obtain ⟨a, ns, rfl, hS, hl63, q⟩ := h
    refine ⟨_, pss_cons (ps_setLc (i := 1) (own := [("cell", 2)]) (g := gName 2) (tt := tYes) rfl sc_law_hand.nd rfl rfl (sw_true rfl rfl rfl (by decide +kernel)) (pi_list (pe_slice sl_list (pv 0) po_none (po_some pe_int))) (blkOk_by (N := N_law_hand) (sc := defScope s_law_hand) (by decide +kernel))
          (fun _ _ _ _ _ => pg_name (i := 2) sc_law_hand.nd rfl (Or.inl rfl)) (fun _ _ _ _ _ => pts_nil)
          (fun _ _ _ _ _ => pe_callB call_abs (by rfl) T.b_abs (by decide +kernel) (pa_cons (pe_callTy call_int1 (by rfl) T.b_int (by decide +kernel) (pa_cons (pv 2) pa_nil)) pa_nil)))
      (pss_one (ps_ret (pe_lst (pa_cons (pv 1) (pa_cons pe_int (pa_cons pe_int (pa_cons (pe_op op_add pe_int (pe_callB call_len_seq (by rfl) T.b_len PySem.boot_len (pa_cons (pv 1) pa_nil))) (pa_cons pe_int pa_nil)))))))), ?_⟩
    refine ⟨_, rfl, 63, rfl, a, _, rfl, hS, fun p np => ?_⟩
    have e63 : cutV (ns.map V.int) none (some 63) = ns.map V.int := by
      have := cutV_upto (ns.map V.int) 63
      rw [List.take_of_length_le (by rw [List.length_map]; exact hl63)] at this
      exact this
    rw [e63]
    have s1 := same_new (o := .lst (ns.map V.int)) np
    refine ⟨p, rfl, ⟨_, .of upd_same⟩, fun D hD => ?_⟩
    refine lc_fm (walk_list (xs := ns.map V.int)) rInt (fun i => ns[i]?.bind fun x => some (if x < 0 then -x else x)) hD (fun H' s' => .of (s' _ _ upd_same)) ?_ ?_
    · rintro i x H2 H3 hi pv ⟨rfl, hx⟩
      obtain ⟨k, hk, rfl⟩ := at_int hx
      rw [List.length_map] at hi
      refine ⟨rfl, _, rfl, .inl ⟨k, rfl, k, rfl, ?_⟩⟩
      exact fm_keep mono_int pv hD (by omega) (Same.refl _) (by rw [hk]; rfl) rfl
    · intro H2 ys s2 hD2 hp2
      rw [List.length_map, fm_some] at hp2
      have := paired_int hp2
      subst this
      refine ⟨_, rfl, _, rfl, _, _, rfl, .inl (.of hD2), _, _, rfl, rfl, by show 5 ≤ sizeLine; decide, fun g ng => ?_⟩
      have s3 := same_new (o := .lst (hl D 0 0 (1 + ((((ns.map fun x => if x < 0 then -x else x).map V.int).length : Nat) : Int)) 0)) ng
      refine q _ g D ((s1.trans s2).trans s3) ((s1.trans s2).free ng) ⟨ns.map fun x => if x < 0 then -x else x, 0, 0, _, 0, upd_same, s3 _ _ hD2, by rw [List.length_map]; exact hl63, fun x hx => ?_, ⟨by omega, by omega⟩, by omega, ?_, by omega⟩
      · obtain ⟨y, _, rfl⟩ := List.mem_map.mp hx
        split <;> omega
      · rw [List.length_map, List.length_map]
        omega
def spDraw : Sp := fun vs H Q _ => ∃ (g c : Addr) (m : Int), vs = [.ref g, .int m] ∧ 0 < m ∧ m < 1073741824 ∧ Hand g c H ∧ ∀ H' n, But g H H' → Hand g c H' → 0 ≤ n → n < m → Q (.int n) H'
theorem mod_b {a m : Int} (h : 0 < m) : 0 ≤ a % m ∧ a % m < m := ⟨Int.emod_nonneg _ (by omega), Int.emod_lt_of_pos _ h⟩
theorem ok_draw (T : Tx K mg cT cS) {f : Addr} {fd : FuncData} (d : D K mg "_law_draw" s_law_draw ["hand", "many"] f fd) : FnOk P w K mg base CX0 1 f fd ["hand", "many"] spDraw := by
  refine d.F.ok sc_law_draw (fun vs H Q E h => ?_) (fun cdv A outer s H vs Q E hr h => ?_)
  · obtain ⟨g, c, m, rfl, _⟩ := h
    rfl
  · obtain ⟨g, c, m, rfl, m0, m1, ⟨cells, i1, i2, i3, i4, W⟩, q⟩ := h
    refine ⟨_, C8.pss_cut (ps_if (PW.pt (pw_and (pt_cmpR op_eq (pe_ix ix_list (pv 0) pe_int (fun _ _ => rfl)) pe_int (nomark _)) (pw_and1 (pt_cmpR op_lt (pe_ix ix_list (pv 0) pe_int (fun _ _ => rfl)) (pe_callB call_len_seq (by rfl) T.b_len PySem.boot_len (pa_cons (pe_ix ix_list (pv 0) pe_int (fun _ _ => rfl)) pa_nil)) (nomark _)))))
        (pss_cons (ps_set (i := 2) sc_law_draw.nd rfl (.inl rfl) (pe_ix ix_list (pe_ix ix_list (pv 0) pe_int (fun _ _ => rfl)) (pe_ix ix_list (pv 0) pe_int (fun _ _ => rfl)) (fun _ _ => rfl)))
          (pss_cons (ps_asg (pe_op op_add (pe_ix ix_list (pv 0) pe_int (fun _ _ => rfl)) pe_int) (pg_sub (pv 0) pe_int set_list))
          (pss_cons (ps_asg (pe_op op_mod (pe_callTy call_int1 (by rfl) T.b_int (by decide +kernel) (pa_cons (pe_op op_add (pe_op op_add (pe_op op_mul (pe_ix ix_list (pv 0) pe_int (fun _ _ => rfl)) pe_int) (pv 2)) pe_int) pa_nil)) pe_int) (pg_sub (pv 0) pe_int set_list))
          (pss_one (ps_if (pt_cmpR op_ge (pv 2) (pe_op op_pow pe_int pe_int) (nomark _)) (pss_one (ps_asg (pv 2) (pg_sub (pv 0) pe_int set_list))) pss_nil))))) pss_nil)
      (pss_cons (ps_if (pt_cmpR op_gt (pe_ix ix_list (pv 0) pe_int (fun _ _ => rfl)) pe_int (nomark _))
        (pss_cons (ps_set (i := 3) sc_law_draw.nd rfl (.inl rfl) (pe_op op_mod (pe_callTy call_int1 (by rfl) T.b_int (by decide +kernel) (pa_cons (pe_ix ix_list (pv 0) pe_int (fun _ _ => rfl)) pa_nil)) (pv 1)))
          (pss_cons (ps_asg (pe_op op_fdivN (pe_ix ix_list (pv 0) pe_int (fun _ _ => rfl)) (pv 1)) (pg_sub (pv 0) pe_int set_list)) (pss_one (ps_ret (pv 3))))) pss_nil)
      (pss_cons (ps_asg (pe_op op_add (pe_ix ix_list (pv 0) pe_int (fun _ _ => rfl)) pe_int) (pg_sub (pv 0) pe_int set_list))
      (pss_cons (ps_set (i := 4) sc_law_draw.nd rfl (.inl rfl) (pe_op op_mod (pe_callTy call_int1 (by rfl) T.b_int (by decide +kernel) (pa_cons (pe_op op_mul (pe_callTy call_int1 (by rfl) T.b_int (by decide +kernel) (pa_cons (pe_op op_add (pe_ix ix_list (pv 0) pe_int (fun _ _ => rfl)) (pe_op op_mul pe_int (pe_ix ix_list (pv 0) pe_int (fun _ _ => rfl)))) pa_nil)) pe_int) pa_nil)) pe_int))
      (pss_cons (ps_set (i := 4) sc_law_draw.nd rfl (.inl rfl) (pe_op op_mod (pe_callTy call_int1 (by rfl) T.b_int (by decide +kernel) (pa_cons (pe_op op_mul (pv 4) (pe_op op_add (pe_op op_fdiv (pv 4) pe_int) pe_int)) pa_nil)) pe_int))
      (pss_cons (ps_set (i := 4) sc_law_draw.nd rfl (.inl rfl) (pe_op op_mod (pe_callTy call_int1 (by rfl) T.b_int (by decide +kernel) (pa_cons (pe_op op_mul (pv 4) (pe_op op_add (pe_op op_fdiv (pv 4) pe_int) pe_int)) pa_nil)) pe_int))
      (pss_one (ps_ret (pe_op op_mod (pe_callTy call_int1 (by rfl) T.b_int (by decide +kernel) (pa_cons (pe_op op_fdiv (pv 4) pe_int) pa_nil)) (pv 1))))))))), ?_⟩
    refine ⟨fun σ H' => ∃ (x : Option V) (j1 j2 j3 j4 : Int), σ = [some (.ref g), some (.int m), x, none, none] ∧ But g H H' ∧ HandW g c cells j1 j2 j3 j4 H', ?_, ?_⟩
    · refine ⟨_, rfl, g, _, _, _, rfl, rfl, .of W.h, at_of (j := 2) rfl rfl, rfl, _, rfl, ?_⟩
      by_cases h2 : i2 = 0
      · rw [decide_eq_true (by rw [h2])]
        refine iteT ⟨_, rfl, g, _, _, _, rfl, rfl, .of W.h, at_of (j := 1) rfl rfl, _, rfl, g, _, _, _, rfl, rfl, .of W.h, at_of (j := 0) rfl rfl, _, _, rfl, .inl (.of W.hc), _, _, rfl, rfl, _, rfl, ?_⟩
        by_cases h1 : i1 < (((cells.map V.int).length : Nat) : Int)
        · rw [decide_eq_true h1]
          rw [List.length_map] at h1
          have hb1 := W.b1.1
          obtain ⟨k, rfl⟩ : ∃ k : Nat, i1 = (k : Int) := ⟨i1.toNat, by omega⟩
          have hk : cells[k]? = some (cells[k]'(by omega)) := List.getElem?_eq_getElem (by omega)
          have hpos := W.pos _ (List.getElem_mem (h := by omega) (l := cells) (n := k))
          refine iteT ⟨_, rfl, g, _, _, _, rfl, rfl, .of W.h, at_of (j := 0) rfl rfl, _, rfl, g, _, _, _, rfl, rfl, .of W.h, at_of (j := 1) rfl rfl, c, _, _, _, rfl, rfl, .of W.hc, atI_nat (int_at hk), ?_⟩
          dsimp only [gName, tSeq]
          refine ⟨_, rfl, g, _, _, _, rfl, rfl, .of W.h, at_of (j := 1) rfl rfl, _, _, rfl, rfl, _, rfl, g, _, _, _, rfl, rfl, W.h, rfl, ?_⟩
          refine ⟨_, rfl, g, _, _, _, rfl, rfl, .of upd_same, at_of (j := 3) rfl rfl, _, _, rfl, rfl, .inl ⟨by have := W.b3.1; omega, by have := W.b3.2; omega⟩, _, rfl, _, _, rfl, rfl, _, _, rfl, rfl, .inl ⟨_, rfl, _, _, rfl, rfl, (by dsimp only; decide), _, rfl, g, _, _, _, rfl, rfl, upd_same, rfl, ?_⟩⟩
          rw [upd_upd]
          have hm := mod_b (a := i3 * 69621 + cells[k]'(by omega) + 11) (m := 2147483629) (by decide)
          have W2 : HandW g c cells ((k : Int) + 1) i2 ((i3 * 69621 + cells[k]'(by omega) + 11) % 2147483629) i4 (upd H g (.lst (hl c ((k : Int) + 1) i2 ((i3 * 69621 + cells[k]'(by omega) + 11) % 2147483629) i4))) :=
            ⟨upd_same, by rw [upd_ne W.ne]; exact W.hc, W.len, W.pos, ⟨by omega, by omega⟩, W.b2, ⟨by omega, by omega⟩, W.b4⟩
          refine ⟨_, rfl, _, _, rfl, rfl, ⟨by decide, by decide, by decide⟩, _, _, rfl, rfl, _, rfl, ?_⟩
          refine ite2 (fun hc => ?_) (fun hc => ?_)
          · refine ⟨_, rfl, _, rfl, g, _, _, _, rfl, rfl, upd_same, rfl, ?_⟩
            rw [upd_upd]
            exact ⟨_, _, _, _, _, rfl, but_upd, upd_same, by rw [upd_ne W.ne]; exact W.hc, W.len, W.pos, W2.b1, hpos, W2.b3, W2.b4⟩
          · exact ⟨_, _, _, _, _, rfl, but_upd, W2⟩
        · rw [decide_eq_false h1]
          exact iteF ⟨_, _, _, _, _, rfl, .refl _ _, W⟩
      · rw [decide_eq_false (fun e => h2 (V.int.inj e))]
        exact iteF ⟨_, _, _, _, _, rfl, .refl _ _, W⟩
    · rintro σ H2 ⟨x, j1, j2, j3, j4, rfl, bt, W2⟩
      refine ⟨_, rfl, g, _, _, _, rfl, rfl, .of W2.h, at_of (j := 2) rfl rfl, _, _, rfl, rfl, _, rfl, ?_⟩
      refine ite2 (fun hc => ?_) (fun hc => ?_)
      · refine ⟨_, rfl, g, _, _, _, rfl, rfl, .of W2.h, at_of (j := 2) rfl rfl, .inl ⟨_, rfl, _, rfl, _, _, rfl, rfl, m0, ?_⟩⟩
        dsimp only [gName, tSeq]
        refine ⟨_, rfl, g, _, _, _, rfl, rfl, .of W2.h, at_of (j := 2) rfl rfl, _, rfl, _, _, rfl, rfl, ⟨by omega, by omega⟩, _, rfl, g, _, _, _, rfl, rfl, W2.h, rfl, _, rfl, ?_⟩
        have hm := mod_b (a := j2) m0
        refine q _ _ (bt.trans but_upd) ⟨cells, _, _, _, _, upd_same, by rw [upd_ne W2.ne]; exact W2.hc, W2.len, W2.pos, W2.b1, ?_, W2.b3, W2.b4⟩ hm.1 hm.2
        rw [Int.fdiv_eq_ediv_of_nonneg _ (by omega)]
        exact Int.ediv_nonneg W2.b2 (by omega)
      · refine ⟨_, rfl, g, _, _, _, rfl, rfl, .of W2.h, at_of (j := 4) rfl rfl, _, _, rfl, rfl, _, rfl, g, _, _, _, rfl, rfl, W2.h, rfl, ?_⟩
        have W3 : HandW g c cells j1 j2 j3 (j4 + 1) (upd H2 g (.lst (hl c j1 j2 j3 (j4 + 1)))) := ⟨upd_same, by rw [upd_ne W2.ne]; exact W2.hc, W2.len, W2.pos, W2.b1, W2.b2, W2.b3, by have := W2.b4; omega⟩
        refine ⟨_, rfl, g, _, _, _, rfl, rfl, .of upd_same, at_of (j := 3) rfl rfl, _, rfl, g, _, _, _, rfl, rfl, .of upd_same, at_of (j := 4) rfl rfl, _, _, rfl, rfl, .inl ⟨by decide, by decide⟩, _, _, rfl, rfl, .inl ⟨_, rfl, _, _, rfl, rfl, .inr ⟨by decide, by decide⟩, .inl ⟨_, rfl, _, _, rfl, rfl, (by dsimp only; decide), ?_⟩⟩⟩
        dsimp only [gName, tSeq]
        generalize hn1 : (j3 + 7919 * (j4 + 1)) * 48271 % 2147483647 = n1
        have a1 := mod_b (a := (j3 + 7919 * (j4 + 1)) * 48271) (m := 2147483647) (by decide)
        rw [hn1] at a1
        refine ⟨_, rfl, _, rfl, _, _, rfl, rfl, ⟨by decide, by decide⟩, _, _, rfl, rfl, _, _, rfl, rfl, .inl ⟨by omega, by omega⟩, .inl ⟨_, rfl, _, _, rfl, rfl, (by dsimp only; decide), ?_⟩⟩
        dsimp only [gName, tSeq]
        generalize hn2 : n1 * (n1 / 1009 + 69621) % 2147483647 = n2
        have a2 := mod_b (a := n1 * (n1 / 1009 + 69621)) (m := 2147483647) (by decide)
        rw [hn2] at a2
        refine ⟨_, rfl, _, rfl, _, _, rfl, rfl, ⟨by decide, by decide⟩, _, _, rfl, rfl, _, _, rfl, rfl, .inl ⟨by omega, by omega⟩, .inl ⟨_, rfl, _, _, rfl, rfl, (by dsimp only; decide), ?_⟩⟩
        dsimp only [gName, tSeq]
        generalize hn3 : n2 * (n2 / 2003 + 40692) % 2147483399 = n3
        refine ⟨_, rfl, _, _, rfl, rfl, ⟨by decide, by decide⟩, .inl ⟨_, rfl, _, rfl, _, _, rfl, rfl, m0, ?_⟩⟩
        have hm := mod_b (a := n3 / 16) m0
        exact q _ _ (bt.trans but_upd) ⟨cells, _, _, _, _, W3⟩ hm.1 hm.2
end
/-! ### comprehensions that draw -/
section
variable {J : It} {n : Nat} {G : Hp → Prop} {Y : Nat → Hp → V → Hp → Prop} {H1 : Hp} {g c D : Addr} {α : Type}
def PvDr (R : Rp α) (F : α → Prop) (g c D : Addr) (H1 : Hp) (i : Nat) (H : Hp) : Prop := But g H1 H ∧ Hand g c H ∧ ∃ xs l, H D = some (.lst xs) ∧ Paired (R H) xs l ∧ l.length = i ∧ ∀ a ∈ l, F a
theorem dr_ne (h : Hand g c H1) (hD : H1 D = none) : D ≠ g ∧ D ≠ c := by
  obtain ⟨_, e⟩ := h.lst
  obtain ⟨_, e2⟩ := h.cells
  exact ⟨fun q => (by rw [q, e] at hD; cases hD), fun q => (by rw [q, e2] at hD; cases hD)⟩
theorem dr_start {R : Rp α} {F : α → Prop} (h : Hand g c H1) (hD : H1 D = none) : PvDr R F g c D H1 0 (upd H1 D (.lst [])) :=
  ⟨(same_new hD).but g, h.same (same_new hD), [], [], upd_same, .nil, rfl, fun _ h => nomatch h⟩
theorem dr_keep {R : Rp α} (m : Mono R) {F : α → Prop} {i : Nat} {H H4 : Hp} {y : V} {a : α} (h : Hand g c H1) (p : PvDr R F g c D H1 i H) (hD : H1 D = none) (hi : i ≤ 100000) (b4 : But g H H4) (h4 : Hand g c H4) (ra : R H4 y a) (fa : F a) :
    ∃ acc, H4 D = some (.lst acc) ∧ acc.length < sizeLine ∧ PvDr R F g c D H1 (i + 1) (upd H4 D (.lst (acc ++ [y]))) := by
  obtain ⟨b, hh, xs, l, h1, h2, h3, hf⟩ := p
  obtain ⟨d1, d2⟩ := dr_ne h hD
  have hD4 : H4 D = some (.lst xs) := b4.lst d1 h1
  have k5 : Keep H4 (upd H4 D (.lst (xs ++ [y]))) := keep_lst hD4
  have hlen := paired_len h2
  refine ⟨xs, hD4, Nat.lt_of_le_of_lt (Nat.le_trans (by omega) hi) (by decide), fun x o hx e => ?_, h4.setD d1 d2, xs ++ [y], l ++ [a], upd_same, ?_, by rw [List.length_append, h3]; rfl, fun z hz => ?_⟩
  · have hxD : x ≠ D := fun q => by subst q; rw [hD] at e; cases e
    rw [upd_ne hxD]
    exact (b.trans b4) x o hx e
  · exact paired_app (paired_mono m k5 (paired_mono m (hh.keep b4) h2)) (.cons (m _ _ _ _ k5 ra) .nil)
  · rcases List.mem_append.mp hz with hz | hz
    · exact hf z hz
    · rw [List.mem_singleton.mp hz]
      exact fa
end
theorem hand_new {g c p : Addr} {H : Hp} (h : Hand g c H) (hp : H p = none) : p ≠ g ∧ p ≠ c := dr_ne h hp
end S4

namespace S4
open PySem L2 TT EE
def whole (v : V) (a b : Int) : Bool := match v with
  | .int n => decide (a ≤ n ∧ n ≤ b)
  | _ => false
theorem whole_below (v : V) (b : Int) : whole v 0 b = below v (b + 1) := by
  cases v with
  | int n => show decide (0 ≤ n ∧ n ≤ b) = decide (0 ≤ n ∧ n < b + 1); rw [decide_eq_decide]; omega
  | _ => rfl
section
variable {P : Program} {w : World} {K : PySem.W.Frag} {mg : Str → Option Value} {base : Heap} {cT cS : Addr}
def spWhole : Sp := fun vs H Q _ => ∃ (g : Addr) (v : V) (a b : Int), vs = [v, .int a, .int b] ∧ Th g H 0 v ∧ Q (.bl (whole v a b)) H
theorem ok_whole (T : Tx K mg cT cS) {f : Addr} {fd : FuncData} (d : D K mg "_law_whole" s_law_whole ["thing", "least", "most"] f fd) : FnOk P w K mg base CX0 1 f fd ["thing", "least", "most"] spWhole := by
  refine d.F.ok sc_law_whole (fun vs H Q E h => ?_) (fun cdv A outer s H vs Q E hr h => ?_)
  · obtain ⟨g, v, a, b, rfl, _⟩ := h
    rfl
  · obtain ⟨g, v, a, b, rfl, th, q⟩ := h
    obtain ⟨t, ty, _, k1, k2, _⟩ := th.kind K
    refine ⟨_, pss_one (ps_ret (pe_and (pe_callB call_isi (by rfl) T.b_isinstance (by decide +kernel) (pa_cons (pv 0) (pa_cons (ty_int T.b_int) pa_nil)))
      (pe_and (pe_not (pe_callB call_isi (by rfl) T.b_isinstance (by decide +kernel) (pa_cons (pv 0) (pa_cons (ty_bool T.b_bool) pa_nil))))
      (pe_one (pe_chain op_le op_le (pv 1) (pv 0) (pv 2)))))), ?_⟩
    refine ⟨_, rfl, _, _, _, _, _, rfl, .ty _, ty, k1, _, rfl, ?_⟩
    cases e : isIntB v with
    | false =>
      have : whole v a b = false := by cases v <;> first | rfl | cases e
      rw [this] at q
      exact iteF q
    | true =>
      refine iteT ⟨_, rfl, _, _, _, _, _, rfl, .ty _, ty, k2, _, rfl, ?_⟩
      cases e2 : isBlB v with
      | true =>
        have : whole v a b = false := by cases v <;> first | rfl | cases e2
        rw [this] at q
        exact ⟨_, rfl, iteF q⟩
      | false =>
        obtain ⟨n, rfl⟩ : ∃ n, v = .int n := by cases v <;> first | exact ⟨_, rfl⟩ | (simp [isIntB] at e; done) | (simp [isBlB] at e2; done)
        refine ⟨_, rfl, iteT ⟨_, rfl, _, rfl, _, _, rfl, rfl, _, rfl, ?_⟩⟩
        by_cases h0 : a ≤ n
        · rw [decide_eq_true h0]
          refine iteT ⟨_, rfl, _, _, rfl, rfl, ?_⟩
          have : whole (.int n) a b = decide (n ≤ b) := by unfold whole; simp [h0]
          rw [this] at q
          exact q
        · rw [decide_eq_false h0]
          have : whole (.int n) a b = false := by unfold whole; simp [h0]
          rw [this] at q
          exact iteF q
theorem ok_law_places (T : Tx K mg cT cS) {f : Addr} {fd : FuncData} (d : D K mg "_law_places" s_law_places ["opening", "tick"] f fd) : FnOk P w K mg base CX0 1 f fd ["opening", "tick"] (fun vs H Q _ => ∃ (v : V) (p : Op) (n : Nat), vs = [v, .int (n : Int)] ∧ rOp H v p ∧ OpOk p ∧ Q (.int (plcL p n)) H) := by
  refine d.F.ok sc_law_places (fun vs H Q E h => ?_) (fun cdv A outer s H vs Q E hr h => ?_)
  · obtain ⟨v, p, n, rfl, _⟩ := h
    rfl
  · obtain ⟨v, p, n, rfl, ⟨t, x, y, rfl, ht, ⟨tx, rfl, htx⟩, ⟨ty, rfl, hty⟩⟩, oo, q⟩ := h
    refine ⟨_, pss_cons (ps_asg (pv 0) (pg_tup rfl (pgs_cons (pg_name (i := 2) sc_law_places.nd rfl (.inl rfl)) (pgs_cons (pg_name (i := 3) sc_law_places.nd rfl (.inl rfl)) pgs_nil))))
      (pss_cons (ps_if (pt_cmpR op_lt (pv 1) pe_int (nomark _)) (pss_one (ps_ret pe_int)) pss_nil)
      (pss_cons (ps_if (pt_cmpR op_le (pv 1) (pe_callB call_len_seq (by rfl) T.b_len PySem.boot_len (pa_cons (pv 2) pa_nil)) (nomark _)) (pss_one (ps_ret (pe_ix ix_tup (pv 2) (pe_op op_sub (pv 1) pe_int) (fun _ _ => rfl)))) pss_nil)
      (pss_one (ps_ret (pe_ix ix_tup (pv 3) (pe_op op_mod (pe_callTy call_int1 (by rfl) T.b_int (by decide +kernel) (pa_cons (pe_op op_sub (pe_op op_sub (pv 1) pe_int) (pe_callB call_len_seq (by rfl) T.b_len PySem.boot_len (pa_cons (pv 2) pa_nil))) pa_nil)) (pe_callB call_len_seq (by rfl) T.b_len PySem.boot_len (pa_cons (pv 3) pa_nil))) (fun _ _ => rfl)))))), ?_⟩
    unfold plcL at q
    refine ⟨_, rfl, t, _, rfl, .of ht, rfl, _, _, rfl, _, _, rfl, rfl, ?_⟩
    refine ⟨_, rfl, _, _, rfl, rfl, _, rfl, ?_⟩
    by_cases h0 : n = 0
    · subst h0
      rw [if_pos rfl] at q
      rw [decide_eq_true (by decide)]
      exact iteT q
    · rw [if_neg h0] at q
      rw [decide_eq_false (by omega)]
      refine iteF ⟨_, rfl, _, rfl, _, _, rfl, .inr (.of htx), _, _, rfl, rfl, _, rfl, ?_⟩
      rw [List.length_map]
      by_cases h1 : n ≤ p.1.length
      · rw [decide_eq_true (by omega)]
        rw [if_pos h1] at q
        have e1 : p.1[n - 1]? = some (p.1[n - 1]'(by omega)) := List.getElem?_eq_getElem (by omega)
        refine iteT ⟨_, rfl, _, rfl, _, _, rfl, rfl, tx, _, _, _, rfl, rfl, .of htx, at_of (j := n - 1) (by omega) (int_at e1), ?_⟩
        rw [getD_at e1] at q
        exact q
      · rw [decide_eq_false (by omega)]
        rw [if_neg h1] at q
        have hm := Nat.mod_lt (n - 1 - p.1.length) oo.ne
        have e1 : p.2[(n - 1 - p.1.length) % p.2.length]? = some (p.2[(n - 1 - p.1.length) % p.2.length]'hm) := List.getElem?_eq_getElem hm
        refine iteF ⟨_, rfl, _, rfl, _, _, rfl, rfl, _, rfl, _, _, rfl, .inr (.of htx), _, _, rfl, rfl, .inl ⟨_, rfl, _, rfl, _, _, rfl, .inr (.of hty), _, _, rfl, rfl, ?_, ty, _, _, _, rfl, rfl, .of hty, at_of (j := (n - 1 - p.1.length) % p.2.length) ?_ (int_at e1), ?_⟩⟩
        · show (0 : Int) < (((p.2.map V.int).length : Nat) : Int)
          rw [List.length_map]
          have := oo.ne
          omega
        · rw [List.length_map, List.length_map]
          have : (n : Int) - 1 - (p.1.length : Int) = ((n - 1 - p.1.length : Nat) : Int) := by omega
          show ((n : Int) - 1 - (p.1.length : Int)) % (p.2.length : Int) = _
          rw [this]
          exact (Int.natCast_emod _ _).symm
        · rw [getD_at e1] at q
          exact q
theorem ok_law_carried (T : Tx K mg cT cS) {f : Addr} {fd : FuncData} (d : D K mg "_law_carried" s_law_carried ["opening", "tick"] f fd) : FnOk P w K mg base CX0 1 f fd ["opening", "tick"] (fun vs H Q _ => ∃ (v : V) (p : Op) (n : Nat), vs = [v, .int (n : Int)] ∧ rOp H v p ∧ OpOk p ∧ ∀ H', Same H H' → Q (.int (carL p n)) H') := by
  refine d.F.ok sc_law_carried (fun vs H Q E h => ?_) (fun cdv A outer s H vs Q E hr h => ?_)
  · obtain ⟨v, p, n, rfl, _⟩ := h
    rfl
  · obtain ⟨v, p, n, rfl, ⟨t, x, y, rfl, ht, ⟨tx, rfl, htx⟩, ⟨ty, rfl, hty⟩⟩, oo, q⟩ := h
    refine ⟨_, pss_cons (ps_asg (pv 0) (pg_tup rfl (pgs_cons (pg_name (i := 2) sc_law_carried.nd rfl (.inl rfl)) (pgs_cons (pg_name (i := 3) sc_law_carried.nd rfl (.inl rfl)) pgs_nil))))
      (pss_cons (ps_if (pt_cmpR op_le (pv 1) (pe_callB call_len_seq (by rfl) T.b_len PySem.boot_len (pa_cons (pv 2) pa_nil)) (nomark _)) (pss_one (ps_ret (pe_callB (cr_sumT rfl) (by rfl) T.b_sum (by decide +kernel) (pa_cons (pe_slice sl_tupA (pv 2) po_none (po_some (pv 1))) pa_nil)))) pss_nil)
      (pss_cons (ps_set (i := 4) sc_law_carried.nd rfl (.inl rfl) (pe_op op_sub (pv 1) (pe_callB call_len_seq (by rfl) T.b_len PySem.boot_len (pa_cons (pv 2) pa_nil))))
      (pss_one (ps_ret (pe_op op_add (pe_op op_add (pe_callB (cr_sumT rfl) (by rfl) T.b_sum (by decide +kernel) (pa_cons (pv 2) pa_nil))
          (pe_op op_mul (pe_callB (cr_sumT rfl) (by rfl) T.b_sum (by decide +kernel) (pa_cons (pv 3) pa_nil)) (pe_op op_fdiv (pv 4) (pe_callB call_len_seq (by rfl) T.b_len PySem.boot_len (pa_cons (pv 3) pa_nil)))))
        (pe_callB (cr_sumT rfl) (by rfl) T.b_sum (by decide +kernel) (pa_cons (pe_slice sl_tupA (pv 3) po_none (po_some (pe_op op_mod (pe_callTy call_int1 (by rfl) T.b_int (by decide +kernel) (pa_cons (pv 4) pa_nil)) (pe_callB call_len_seq (by rfl) T.b_len PySem.boot_len (pa_cons (pv 3) pa_nil))))) pa_nil))))))), ?_⟩
    unfold carL at q
    refine ⟨_, rfl, t, _, rfl, .of ht, rfl, _, _, rfl, _, _, rfl, rfl, ?_⟩
    refine ⟨_, rfl, _, rfl, _, _, rfl, .inr (.of htx), _, _, rfl, rfl, _, rfl, ?_⟩
    rw [List.length_map]
    by_cases h1 : n ≤ p.1.length
    · rw [decide_eq_true (by omega)]
      rw [if_pos h1] at q
      refine iteT ⟨_, rfl, _, rfl, (n : Int), rfl, slice_upto htx fun H3 p3 s3 hp3 => ⟨p3, p.1.take n, rfl, .of (by rw [List.map_take]; exact hp3), q _ s3⟩⟩
    · rw [decide_eq_false (by omega)]
      rw [if_neg h1] at q
      have e0 : (n : Int) - (p.1.length : Int) = ((n - p.1.length : Nat) : Int) := by omega
      have hne := oo.ne
      have ed : ((n - p.1.length : Nat) : Int) / (p.2.length : Int) = (((n - p.1.length) / p.2.length : Nat) : Int) := (Int.natCast_ediv _ _).symm
      have em : ((n - p.1.length : Nat) : Int) % (p.2.length : Int) = (((n - p.1.length) % p.2.length : Nat) : Int) := (Int.natCast_emod _ _).symm
      refine iteF ⟨_, rfl, _, rfl, _, _, rfl, .inr (.of htx), _, _, rfl, rfl, ?_⟩
      dsimp only [gName, tSeq]
      rw [List.length_map, e0]
      have hs := sum_bound oo.v2
      have hl2 := oo.l2
      refine ⟨_, rfl, tx, _, rfl, .of htx, _, rfl, ty, _, rfl, .of hty, _, rfl, _, rfl, _, _, rfl, .inr (.of hty), _, _, rfl, rfl, ⟨by rw [List.length_map]; omega, by rw [List.length_map]; omega⟩, _, _, rfl, rfl, .inl ⟨by omega, by omega⟩, _, _, rfl, rfl, _, rfl, _, rfl, .inl ⟨_, rfl, _, rfl, _, _, rfl, .inr (.of hty), _, _, rfl, rfl, ?_, ?_⟩⟩
      · show (0 : Int) < (((p.2.map V.int).length : Nat) : Int)
        rw [List.length_map]
        omega
      · refine ⟨(((n - p.1.length) % p.2.length : Nat) : Int), ?_, slice_upto hty fun H4 p4 s4 hp4 => ⟨p4, p.2.take ((n - p.1.length) % p.2.length), rfl, .of (by rw [List.map_take]; exact hp4), _, _, rfl, rfl, ?_⟩⟩
        · rw [List.length_map]
          exact congrArg V.int em
        · rw [List.length_map]
          show Q (.int (p.1.sum + p.2.sum * (((n - p.1.length : Nat) : Int) / (p.2.length : Int)) + _)) H4
          rw [ed, Int.mul_comm p.2.sum]
          exact q _ s4
end
end S4

namespace S4
open PySem L2 TT EE
section
variable {P : Program} {w : World} {K : PySem.W.Frag} {mg : Str → Option Value} {base : Heap} {cT cS : Addr}
theorem ok_law_is_opening (T : Tx K mg cT cS) {f : Addr} {fd : FuncData} (d : D K mg "_law_is_opening" s_law_is_opening ["thing"] f fd) : FnOk P w K mg base CX0 2 f fd ["thing"] spOpening := by
  obtain ⟨f1, fd1, d1⟩ := T.d_law_whole
  have G1 : FnOk P w K mg base CX0 1 f1 fd1 ["thing", "least", "most"] spWhole := ok_whole T d1
  refine d.F.ok sc_law_is_opening (fun vs H Q E h => ?_) (fun cdv A outer s H vs Q E hr h => ?_)
  · obtain ⟨g, v, rfl, _⟩ := h
    rfl
  · obtain ⟨g, v, rfl, th, q⟩ := h
    obtain ⟨t, ty, k0, _, _, _⟩ := th.kind K
    refine ⟨_, pss_cons (ps_if (PW.pt (pw_or (pt_not (pt_val (pe_callB call_isi (by rfl) T.b_isinstance (by decide +kernel) (pa_cons (pv 0) (pa_cons (ty_tuple T.b_tuple) pa_nil)))))
        (pw_or1 (pt_cmpR op_ne (pe_callB call_len_seq (by rfl) T.b_len PySem.boot_len (pa_cons (pv 0) pa_nil)) pe_int (nomark _))))) (pss_one (ps_ret pe_bl)) pss_nil)
      (pss_cons (ps_for PassesOwn.never rfl (pi_tup (pv 0)) (pg_name (i := 1) sc_law_is_opening.nd rfl (Or.inl rfl))
        (pss_one (ps_if (PW.pt (pw_or (pt_not (pt_val (pe_callB call_isi (by rfl) T.b_isinstance (by decide +kernel) (pa_cons (pv 1) (pa_cons (ty_tuple T.b_tuple) pa_nil)))))
          (pw_or (pt_cmpR op_gt (pe_callB call_len_seq (by rfl) T.b_len PySem.boot_len (pa_cons (pv 1) pa_nil)) pe_int (nomark _))
          (pw_or1 (pt_not (pt_val (pe_callB (cr_all rfl) (by rfl) T.b_all (by decide +kernel) (pa_cons
            (pe_lc (own := [("number", 2)]) (g := gName 2) (tt := tYes) rfl sc_law_is_opening.nd (pi_tup (pv 1)) (blkOk_by (N := N_law_is_opening) (sc := defScope s_law_is_opening) (by decide +kernel)) (fun _ _ _ _ _ => pg_name (i := 2) sc_law_is_opening.nd rfl (Or.inl rfl)) (fun _ _ _ _ _ => pts_nil)
              (fun _ _ _ _ _ => pe_call G1 hr rfl d1.m d1.F.kp d1.b .nil pass0 (pa_cons (pv 2) (pa_cons pe_int (pa_cons pe_int pa_nil))))) pa_nil)))))))) (pss_one (ps_ret pe_bl)) pss_nil)))
      (pss_one (ps_ret (pe_cmpR op_gt (pe_callB call_len_seq (by rfl) T.b_len PySem.boot_len (pa_cons (pe_ix ix_tup (pv 0) pe_int (fun _ _ => rfl)) pa_nil)) pe_int (nomark _))))), ?_⟩
    refine ⟨_, rfl, _, _, _, _, _, rfl, .ty _, ty, k0, _, rfl, ?_⟩
    unfold openB at q
    unfold isTupB
    cases e : tupOf H v with
    | none => rw [e] at q; exact iteT (q _ (.refl _))
    | some xs =>
      rw [e] at q
      have hm := th.mem e
      have hl := th.len e
      obtain ⟨a, rfl, ha⟩ := tupOf_some e
      refine iteF ⟨_, rfl, _, _, rfl, .inr (.of ha), rfl, _, rfl, ?_⟩
      rcases xs with _ | ⟨x, _ | ⟨y, _ | ⟨z, r⟩⟩⟩
      · exact iteT (q _ (.refl _))
      · exact iteT (q _ (.refl _))
      · simp only at q
        refine iteF ⟨_, rfl, a, rfl, ⟨_, .of ha⟩, ?_⟩
        refine for_it (walk_tup (xs := [x, y])) (fun i σ H' => Same H H' ∧ (0 < i → turnsB H x = true) ∧ (1 < i → turnsB H y = true) ∧ ∃ o1, σ = [some (.ref a), o1, none]) ⟨.refl _, by omega, by omega, none, rfl⟩ (fun i σ H' _ h => .of (h.1.keep.tup ha)) ?_ ?_
        · rintro i z σ H2 H3 hi ⟨s2, t1, t2, o1, rfl⟩ ⟨rfl, hz⟩
          have hzm := List.mem_of_getElem? hz
          have tz := hm z hzm
          have tz2 := tz.same s2
          obtain ⟨t', ty', k0', _, _, _⟩ := tz2.kind K
          have bad : turnsB H z = false → ∀ H', Same H H' → Q (.bl false) H' := by
            intro hb H' s'
            have q := q H' s'
            match i, hi, hz, t1 with
            | 0, _, hz, _ => cases (Option.some.inj hz); rw [hb] at q; exact q
            | 1, _, hz, t1 => cases (Option.some.inj hz); rw [t1 (by omega), hb] at q; exact q
          refine ⟨_, rfl, _, _, _, _, _, rfl, .ty _, ty', k0', _, rfl, ?_⟩
          unfold isTupB
          rw [tz.tupOf (s2.but g)]
          cases ez : tupOf H z with
          | none => exact iteT (bad (by unfold turnsB; rw [ez]) _ s2)
          | some zs =>
            have hmz := tz.mem ez
            have hlz := tz.len ez
            obtain ⟨b, rfl, hb⟩ := tupOf_some ez
            have hb2 := s2 _ _ hb
            refine iteF ⟨_, rfl, _, _, rfl, .inr (.of hb2), _, _, rfl, rfl, _, rfl, ?_⟩
            have et : turnsB H (.ref b) = (decide (zs.length ≤ 40) && zs.all fun x => below x 9) := by unfold turnsB; rw [ez]
            by_cases h40 : zs.length ≤ 40
            · rw [decide_eq_false (by omega)]
              rw [decide_eq_true h40, Bool.true_and] at et
              refine iteF ⟨_, rfl, b, rfl, ⟨_, .of hb2⟩, fun D hD => ?_⟩
              refine lc_fm (walk_tup (xs := zs)) rBl (fun i => zs[i]?.bind fun x => some (below x 9)) hD (fun H' s' => .of (s'.keep.tup hb2)) ?_ ?_
              · rintro i x H4 H5 hi pv ⟨rfl, hx⟩
                refine ⟨rfl, _, rfl, g, x, _, _, rfl, ((hmz x (List.mem_of_getElem? hx)).same s2).same pv.1, ?_⟩
                exact fm_keep mono_bl pv hD (by omega) (Same.refl _) (by rw [hx]; rfl) (congrArg V.bl (whole_below x 8))
              · intro H4 ys s4 hD4 hp
                have := paired_bl hp
                subst this
                refine ⟨_, _, rfl, .of hD4, _, rfl, ?_⟩
                rw [all_fm, ← et]
                have s24 := s2.trans s4
                cases ebt : turnsB H (.ref b) with
                | false => exact iteT (bad ebt _ s24)
                | true =>
                  refine iteF ⟨s24, ?_, ?_, _, rfl⟩
                  · match i, hi, hz, t1 with
                    | 0, _, hz, _ => cases (Option.some.inj hz); exact fun _ => ebt
                    | 1, _, hz, t1 => exact fun _ => t1 (by omega)
                  · match i, hi, hz, t1 with
                    | 0, _, hz, _ => intro; omega
                    | 1, _, hz, t1 => cases (Option.some.inj hz); exact fun _ => ebt
            · rw [decide_eq_true (by omega)]
              rw [decide_eq_false h40, Bool.false_and] at et
              exact iteT (bad et _ s2)
        · rintro σ H2 ⟨s2, t1, t2, o1, rfl⟩
          have t1 := t1 (by show 0 < 2; decide)
          have t2 := t2 (by show 1 < 2; decide)
          rw [t1, t2] at q
          simp only [Bool.true_and] at q
          unfold lenT at q
          cases ey : tupOf H y with
          | none => unfold turnsB at t2; rw [ey] at t2; cases t2
          | some ys =>
            rw [ey] at q
            obtain ⟨b, rfl, hb⟩ := tupOf_some ey
            refine ⟨_, rfl, a, _, _, _, rfl, rfl, .of (s2 _ _ ha), at_of (j := 1) rfl rfl, _, _, rfl, .inr (.of (s2 _ _ hb)), _, _, rfl, rfl, ?_⟩
            have : decide ((0 : Int) < ((ys.length : Nat) : Int)) = decide (0 < ys.length) := by
              by_cases h0 : 0 < ys.length
              · rw [decide_eq_true h0, decide_eq_true (by omega)]
              · rw [decide_eq_false h0, decide_eq_false (by omega)]
            show Q (.bl (decide ((0 : Int) < ((ys.length : Nat) : Int)))) H2
            rw [this]
            exact q _ s2
      · have e3 : V.int (((x :: y :: z :: r).length : Nat) : Int) ≠ V.int 2 := fun z => by have := V.int.inj z; simp only [List.length_cons] at this; omega
        rw [decide_eq_false e3]
        exact iteT (q _ (.refl _))
theorem partV_r {H : Hp} {r l : V} (h : rightB H r = false) : partV H r l = .str "right" := by unfold partV; rw [h]; rfl
theorem partV_l {H : Hp} {r l : V} (h : rightB H r = true) (h2 : leftB H r l = false) : partV H r l = .str "left" := by unfold partV; rw [h, h2]; rfl
theorem partV_n {H : Hp} {r l : V} (h : rightB H r = true) (h2 : leftB H r l = true) : partV H r l = .non := by unfold partV; rw [h, h2]; rfl
def spDue : Sp := fun vs H Q _ => ∃ (g : Addr) (r l : V), vs = [r, l] ∧ Th g H 3 r ∧ Th g H 3 l ∧ ∀ H', Same H H' → Q (partV H r l) H'
theorem ok_law_due (T : Tx K mg cT cS) {f : Addr} {fd : FuncData} (d : D K mg "_law_due" s_law_due ["right", "left"] f fd) : FnOk P w K mg base CX0 3 f fd ["right", "left"] spDue := by
  obtain ⟨f1, fd1, d1⟩ := T.d_law_is_opening
  have G1 : FnOk P w K mg base CX0 2 f1 fd1 ["thing"] spOpening := ok_law_is_opening T d1
  refine d.F.ok sc_law_due (fun vs H Q E h => ?_) (fun cdv A outer s H vs Q E hr h => ?_)
  · obtain ⟨g, r, l, rfl, _⟩ := h
    rfl
  · obtain ⟨g, r, l, rfl, tr, tl, q⟩ := h
    obtain ⟨t, ty, k0, _, _, _⟩ := tr.kind K
    refine ⟨_, pss_cons (ps_if (PW.pt (pw_or (pt_not (pt_val (pe_callB call_isi (by rfl) T.b_isinstance (by decide +kernel) (pa_cons (pv 0) (pa_cons (ty_tuple T.b_tuple) pa_nil)))))
        (pw_or (pt_cmpR op_gt (pe_callB call_len_seq (by rfl) T.b_len PySem.boot_len (pa_cons (pv 0) pa_nil)) pe_int (nomark _))
        (pw_or1 (pt_not (pt_val (pe_callB (cr_all rfl) (by rfl) T.b_all (by decide +kernel) (pa_cons
            (pe_lc (own := [("one", 2)]) (g := gName 2) (tt := tYes) rfl sc_law_due.nd (pi_tup (pv 0)) (blkOk_by (N := N_law_due) (sc := defScope s_law_due) (by decide +kernel)) (fun _ _ _ _ _ => pg_name (i := 2) sc_law_due.nd rfl (Or.inl rfl)) (fun _ _ _ _ _ => pts_nil)
              (fun _ _ _ _ _ => pe_call G1 hr rfl d1.m d1.F.kp d1.b .nil pass0 (pa_cons (pv 2) pa_nil))) pa_nil)))))))) (pss_one (ps_ret pe_str)) pss_nil)
      (pss_cons (ps_if (PW.pt (pw_or (pt_not (pt_val (pe_callB call_isi (by rfl) T.b_isinstance (by decide +kernel) (pa_cons (pv 1) (pa_cons (ty_tuple T.b_tuple) pa_nil)))))
        (pw_or (pt_cmpR op_ne (pe_callB call_len_seq (by rfl) T.b_len PySem.boot_len (pa_cons (pv 1) pa_nil)) (pe_callB call_len_seq (by rfl) T.b_len PySem.boot_len (pa_cons (pv 0) pa_nil)) (nomark _))
        (pw_or1 (pt_not (pt_val (pe_callB (cr_all rfl) (by rfl) T.b_all (by decide +kernel) (pa_cons
            (pe_lc (own := [("one", 2)]) (g := gName 2) (tt := tYes) rfl sc_law_due.nd (pi_tup (pv 1)) (blkOk_by (N := N_law_due) (sc := defScope s_law_due) (by decide +kernel)) (fun _ _ _ _ _ => pg_name (i := 2) sc_law_due.nd rfl (Or.inl rfl)) (fun _ _ _ _ _ => pts_nil)
              (fun _ _ _ _ _ => pe_call G1 hr rfl d1.m d1.F.kp d1.b .nil pass0 (pa_cons (pv 2) pa_nil))) pa_nil)))))))) (pss_one (ps_ret pe_str)) pss_nil)
      (pss_one (ps_ret pe_non))), ?_⟩
    refine ⟨_, rfl, _, _, _, _, _, rfl, .ty _, ty, k0, _, rfl, ?_⟩
    unfold isTupB
    cases er : tupOf H r with
    | none =>
      rw [partV_r (by unfold rightB; rw [er])] at q
      exact iteT (q _ (.refl _))
    | some xs =>
      have eR : rightB H r = (decide (xs.length ≤ 23) && xs.all (openB H)) := by unfold rightB; rw [er]
      have hmr := tr.mem er
      have hlr := tr.len er
      obtain ⟨a, rfl, ha⟩ := tupOf_some er
      refine iteF ⟨_, rfl, _, _, rfl, .inr (.of ha), _, _, rfl, rfl, _, rfl, ?_⟩
      by_cases h23 : xs.length ≤ 23
      · rw [decide_eq_false (by omega)]
        rw [decide_eq_true h23, Bool.true_and] at eR
        refine iteF ⟨_, rfl, a, rfl, ⟨_, .of ha⟩, fun D hD => ?_⟩
        refine lc_fm (walk_tup (xs := xs)) rBl (fun i => xs[i]?.bind fun x => some (openB H x)) hD (fun H' s' => .of (s'.keep.tup ha)) ?_ ?_
        · rintro i x H2 H3 hi pv ⟨rfl, hx⟩
          have hxm := hmr x (List.mem_of_getElem? hx)
          refine ⟨rfl, _, rfl, g, x, rfl, hxm.same pv.1, fun H4 s4 => ?_⟩
          rw [openB_but (pv.1.but g) hxm]
          exact fm_keep mono_bl pv hD (by omega) s4 (by rw [hx]; rfl) rfl
        · intro H2 ys s2 hD2 hp
          have := paired_bl hp
          subst this
          refine ⟨_, _, rfl, .of hD2, _, rfl, ?_⟩
          rw [all_fm]
          cases eo : xs.all (openB H) with
          | false =>
            rw [partV_r (eR.trans eo)] at q
            exact iteT (q _ s2)
          | true =>
            have eR := eR.trans eo
            have tl2 := tl.same s2
            obtain ⟨t', ty', k0', _, _, _⟩ := tl2.kind K
            refine iteF ⟨_, rfl, _, _, _, _, _, rfl, .ty _, ty', k0', _, rfl, ?_⟩
            unfold isTupB
            rw [tl.tupOf (s2.but g)]
            cases el : tupOf H l with
            | none =>
              rw [partV_l eR (by unfold leftB; rw [el])] at q
              exact iteT (q _ s2)
            | some ys =>
              have el2 : lenT H (.ref a) = xs.length := by unfold lenT; rw [er]
              have eL : leftB H (.ref a) l = (decide (ys.length = xs.length) && ys.all (openB H)) := by unfold leftB; rw [el, ← el2]
              have hml := tl.mem el
              have hll := tl.len el
              obtain ⟨b, rfl, hb⟩ := tupOf_some el
              refine iteF ⟨_, rfl, _, _, rfl, .inr (.of (s2 _ _ hb)), _, rfl, _, _, rfl, .inr (.of (s2 _ _ ha)), rfl, _, rfl, ?_⟩
              by_cases hlen : ys.length = xs.length
              · rw [decide_eq_true hlen, Bool.true_and] at eL
                rw [show (V.int ((ys.length : Nat) : Int)) = V.int ((xs.length : Nat) : Int) by rw [hlen], decide_eq_true rfl]
                refine iteF ⟨_, rfl, b, rfl, ⟨_, .of (s2 _ _ hb)⟩, fun D hD => ?_⟩
                refine lc_fm (walk_tup (xs := ys)) rBl (fun i => ys[i]?.bind fun x => some (openB H x)) hD (fun H' s' => .of (s'.keep.tup (s2 _ _ hb))) ?_ ?_
                · rintro i x H3 H4 hi pv ⟨rfl, hx⟩
                  have hxm := hml x (List.mem_of_getElem? hx)
                  have s23 := s2.trans pv.1
                  refine ⟨rfl, _, rfl, g, x, rfl, hxm.same s23, fun H5 s5 => ?_⟩
                  rw [openB_but (s23.but g) hxm]
                  exact fm_keep mono_bl pv hD (by omega) s5 (by rw [hx]; rfl) rfl
                · intro H3 zs s3 hD3 hp3
                  have := paired_bl hp3
                  subst this
                  refine ⟨_, _, rfl, .of hD3, _, rfl, ?_⟩
                  rw [all_fm]
                  have s23 := s2.trans s3
                  cases eo2 : ys.all (openB H) with
                  | false => rw [partV_l eR (eL.trans eo2)] at q; exact iteT (q _ s23)
                  | true => rw [partV_n eR (eL.trans eo2)] at q; exact iteF (q _ s23)
              · rw [decide_eq_false hlen, Bool.false_and] at eL
                rw [decide_eq_false (fun z => hlen (by have := V.int.inj z; omega))]
                rw [partV_l eR eL] at q
                exact iteT (q _ s2)
      · rw [decide_eq_true (by omega)]
        rw [decide_eq_false h23, Bool.false_and] at eR
        rw [partV_r eR] at q
        exact iteT (q _ (.refl _))
end
end S4

namespace S4
open PySem L2 TT EE
theorem walk_zipT {K : PySem.W.Frag} {a b : Addr} {xs ys : List V} {n : Nat} (hn : n = min xs.length ys.length) : Walk (RZ.ItzT K a b) n (fun H => SqT K H a xs ∧ SqT K H b ys) (YPair (fun i => xs[i]?) (fun i => ys[i]?)) := by
  subst hn
  refine ⟨fun i _ hi q => ?_, fun _ q => ⟨xs, ys, q.1, q.2, by omega⟩, fun i H v H' _ q y => ?_⟩
  · have h1 : i < xs.length := by omega
    have h2 : i < ys.length := by omega
    exact ⟨xs, ys, xs[i], ys[i], q.1, q.2, by simp [h1], by simp [h2]⟩
  · obtain ⟨T, x, z, h1, h2, h3, h4, h5⟩ := y
    exact ⟨T, x, z, h1, h2, h3, h4 xs q.1, h5 ys q.2⟩
section
variable {K : PySem.W.Frag}
theorem kit_lt : PySem.W.kitOne K (.type "list") (.type "tuple") = some false := kit_ty (by decide +kernel)
theorem kit_ll : PySem.W.kitOne K (.type "list") (.type "list") = some true := kit_ty (by decide +kernel)
theorem kit_it : PySem.W.kitOne K (.type "int") (.type "tuple") = some false := kit_ty (by decide +kernel)
theorem kit_il : PySem.W.kitOne K (.type "int") (.type "list") = some false := kit_ty (by decide +kernel)
theorem kitA_t : PySem.W.kitAny K (.type "tuple") [.type "tuple", .type "list"] = some true := by unfold PySem.W.kitAny; rw [kit_tt]
theorem kitA_l : PySem.W.kitAny K (.type "list") [.type "tuple", .type "list"] = some true := by
  unfold PySem.W.kitAny
  rw [kit_lt]
  show PySem.W.kitAny K (.type "list") [.type "list"] = some true
  unfold PySem.W.kitAny
  rw [kit_ll]
theorem kitA_i : PySem.W.kitAny K (.type "int") [.type "tuple", .type "list"] = some false := by
  unfold PySem.W.kitAny
  rw [kit_it]
  show PySem.W.kitAny K (.type "int") [.type "list"] = some false
  unfold PySem.W.kitAny
  rw [kit_il]
  rfl
theorem kit_st : PySem.W.kitOne K (.type "str") (.type "tuple") = some false := kit_ty (by decide +kernel)
theorem kit_sl : PySem.W.kitOne K (.type "str") (.type "list") = some false := kit_ty (by decide +kernel)
theorem kit_nt : PySem.W.kitOne K (.type "NoneType") (.type "tuple") = some false := kit_ty (by decide +kernel)
theorem kit_nl : PySem.W.kitOne K (.type "NoneType") (.type "list") = some false := kit_ty (by decide +kernel)
theorem kitA_s : PySem.W.kitAny K (.type "str") [.type "tuple", .type "list"] = some false := by
  unfold PySem.W.kitAny
  rw [kit_st]
  show PySem.W.kitAny K (.type "str") [.type "list"] = some false
  unfold PySem.W.kitAny
  rw [kit_sl]
  rfl
theorem kitA_n : PySem.W.kitAny K (.type "NoneType") [.type "tuple", .type "list"] = some false := by
  unfold PySem.W.kitAny
  rw [kit_nt]
  show PySem.W.kitAny K (.type "NoneType") [.type "list"] = some false
  unfold PySem.W.kitAny
  rw [kit_nl]
  rfl
end
/-- an int, a text, None -/
def fl : V → Prop
  | .int _ => True
  | .str _ => True
  | .non => True
  | _ => False
theorem fl_kind {K : PySem.W.Frag} {H : Hp} {v : V} (h : fl v) : ∃ t, TyX K H v t ∧ PySem.W.kitAny K t [.type "tuple", .type "list"] = some false ∧ PySem.W.kitOne K t (.type "bool") = some false ∧ flatV v = true := by
  cases v with
  | int n => exact ⟨_, .base (.int n), kitA_i, kit_ty (by decide +kernel), rfl⟩
  | str n => exact ⟨_, .base (.str n), kitA_s, kit_ty (by decide +kernel), rfl⟩
  | non => exact ⟨_, .base .non, kitA_n, kit_ty (by decide +kernel), rfl⟩
  | _ => exact h.elim
section
variable {P : Program} {w : World} {K : PySem.W.Frag} {mg : Str → Option Value} {base : Heap} {cT cS : Addr}
def spIsF : Sp := fun vs H Q _ => ∃ (v : V), vs = [v, v] ∧ fl v ∧ ∀ H', Same H H' → Q (.bl true) H'
theorem ok_isF (T : Tx K mg cT cS) {f : Addr} {fd : FuncData} (d : D K mg "_law_is" s_law_is ["told", "due"] f fd) : FnOk P w K mg base CX0 1 f fd ["told", "due"] spIsF := by
  refine d.F.ok sc_law_is (fun vs H Q E h => ?_) (fun cdv A outer s H vs Q E hr h => ?_)
  · obtain ⟨v, rfl, _⟩ := h
    rfl
  · obtain ⟨v, rfl, hf, q⟩ := h
    refine ⟨_, pss_cons (ps_if (pt_val (pe_callB call_isiT (by rfl) T.b_isinstance (by decide +kernel) (pa_cons (pv 1) (pa_cons (pe_tup (pa_cons (ty_tuple T.b_tuple) (pa_cons (ty_list T.b_list) pa_nil))) pa_nil)))) pss_never pss_nil)
      (pss_one (ps_ret (pe_and (pe_cmpR op_eq (pe_callB call_isi (by rfl) T.b_isinstance (by decide +kernel) (pa_cons (pv 0) (pa_cons (ty_bool T.b_bool) pa_nil))) (pe_callB call_isi (by rfl) T.b_isinstance (by decide +kernel) (pa_cons (pv 1) (pa_cons (ty_bool T.b_bool) pa_nil))) (nomark _))
        (pe_one (pe_cmpR op_eq (pv 0) (pv 1) (nomark _)))))), ?_⟩
    refine ⟨_, rfl, by show 2 ≤ sizeLine; decide, fun p np => ?_⟩
    obtain ⟨t, ty, kA, kB, fv⟩ := fl_kind (K := K) (H := upd H p (.tup [V.ty "tuple", V.ty "list"])) hf
    refine ⟨_, p, _, _, _, _, rfl, upd_same, .cons (.ty _) (.cons (.ty _) .nil), ty, kA, _, rfl, iteF ?_⟩
    refine ⟨_, rfl, _, _, _, _, _, rfl, .ty _, ty, kB, _, rfl, _, _, _, _, _, rfl, .ty _, ty, kB, rfl, true, rfl, ?_⟩
    refine iteT ⟨_, rfl, _, rfl, ?_, ?_⟩
    · cases v <;> first | rfl | exact hf.elim
    · rw [decide_eq_true rfl]
      exact q _ (same_new np)
def spIsL : Sp := fun vs H Q _ => ∃ (a b : Addr) (xs : List V), vs = [.ref a, .ref b] ∧ H a = some (.lst xs) ∧ H b = some (.lst xs) ∧ xs.length ≤ 100 ∧ (∀ x ∈ xs, fl x) ∧ ∀ H', Same H H' → Q (.bl true) H'
theorem ok_isL (T : Tx K mg cT cS) {f : Addr} {fd : FuncData} (d : D K mg "_law_is" s_law_is ["told", "due"] f fd) : FnOk P w K mg base CX0 2 f fd ["told", "due"] spIsL := by
  have G : FnOk P w K mg base CX0 1 f fd ["told", "due"] spIsF := ok_isF T d
  refine d.F.ok sc_law_is (fun vs H Q E h => ?_) (fun cdv A outer s H vs Q E hr h => ?_)
  · obtain ⟨a, b, xs, rfl, _⟩ := h
    rfl
  · obtain ⟨a, b, xs, rfl, h1, h2, hl, hfl, q⟩ := h
    refine ⟨_, pss_cons (ps_if (pt_val (pe_callB call_isiT (by rfl) T.b_isinstance (by decide +kernel) (pa_cons (pv 1) (pa_cons (pe_tup (pa_cons (ty_tuple T.b_tuple) (pa_cons (ty_list T.b_list) pa_nil))) pa_nil))))
        (pss_cons (ps_if (PW.pt (pw_or (pt_cmpR op_ne (pe_callB call_isi (by rfl) T.b_isinstance (by decide +kernel) (pa_cons (pv 0) (pa_cons (ty_tuple T.b_tuple) pa_nil))) (pe_callB call_isi (by rfl) T.b_isinstance (by decide +kernel) (pa_cons (pv 1) (pa_cons (ty_tuple T.b_tuple) pa_nil))) (nomark _))
            (pw_or1 (pt_not (pt_val (pe_callB call_isiT (by rfl) T.b_isinstance (by decide +kernel) (pa_cons (pv 0) (pa_cons (pe_tup (pa_cons (ty_tuple T.b_tuple) (pa_cons (ty_list T.b_list) pa_nil))) pa_nil)))))))) pss_never pss_nil)
          (pss_one (ps_ret (pe_and (pe_cmpR op_eq (pe_callB call_len_seq (by rfl) T.b_len PySem.boot_len (pa_cons (pv 0) pa_nil)) (pe_callB call_len_seq (by rfl) T.b_len PySem.boot_len (pa_cons (pv 1) pa_nil)) (nomark _))
            (pe_one (pe_callB (cr_all rfl) (by rfl) T.b_all (by decide +kernel) (pa_cons
              (pe_lc (own := [("one", 2), ("two", 3)]) (g := gTup K 2 (gCons (gName 2) (gCons (gName 3) gNil))) (tt := tYes) rfl sc_law_is.nd (RZ.pi_zipA (by rfl) T.b_zip (pa_cons (pv 0) (pa_cons (pv 1) pa_nil))) (blkOk_by (N := N_law_is) (sc := defScope s_law_is) (by decide +kernel))
                (fun _ _ _ _ _ => pgT rfl rfl (pgs_cons (pg_name (i := 2) sc_law_is.nd rfl (Or.inl rfl)) (pgs_cons (pg_name (i := 3) sc_law_is.nd rfl (Or.inl rfl)) pgs_nil))) (fun _ _ _ _ _ => pts_nil)
                (fun _ _ _ _ _ => pe_call G hr rfl d.m d.F.kp d.b .nil pass0 (pa_cons (pv 2) (pa_cons (pv 3) pa_nil)))) pa_nil))))))) pss_nil)
      (pss_one (ps_ret (pe_and (pe_cmpR op_eq (pe_callB call_isi (by rfl) T.b_isinstance (by decide +kernel) (pa_cons (pv 0) (pa_cons (ty_bool T.b_bool) pa_nil))) (pe_callB call_isi (by rfl) T.b_isinstance (by decide +kernel) (pa_cons (pv 1) (pa_cons (ty_bool T.b_bool) pa_nil))) (nomark _))
        (pe_one (pe_cmpR op_eq (pv 0) (pv 1) (nomark _)))))), ?_⟩
    refine ⟨_, rfl, by show 2 ≤ sizeLine; decide, fun p np => ⟨_, p, _, _, _, _, rfl, upd_same, .cons (.ty _) (.cons (.ty _) .nil), .base (.lst ((same_new np) _ _ h2)), kitA_l, _, rfl, iteT ?_⟩⟩
    have s1 := same_new (o := .tup [V.ty "tuple", V.ty "list"]) np
    refine ⟨_, rfl, _, _, _, _, _, rfl, .ty _, .base (.lst (s1 _ _ h1)), kit_lt, _, rfl, _, _, _, _, _, rfl, .ty _, .base (.lst (s1 _ _ h2)), kit_lt, rfl, _, rfl, iteF ?_⟩
    refine ⟨_, rfl, by show 2 ≤ sizeLine; decide, fun p2 np2 => ⟨_, p2, _, _, _, _, rfl, upd_same, .cons (.ty _) (.cons (.ty _) .nil), .base (.lst ((same_new np2) _ _ (s1 _ _ h1))), kitA_l, _, rfl, iteF ?_⟩⟩
    have s2 := s1.trans (same_new (o := .tup [V.ty "tuple", V.ty "list"]) np2)
    refine ⟨_, rfl, _, _, rfl, .inl (.of (s2 _ _ h1)), _, rfl, _, _, rfl, .inl (.of (s2 _ _ h2)), rfl, true, by simp, ?_⟩
    refine iteT ⟨_, rfl, _, rfl, a, b, xs, xs, rfl, .inl ⟨.of (s2 _ _ h1), .of (s2 _ _ h2), fun D hD => ?_⟩⟩
    refine lc_fm (walk_zip (n := xs.length) (by omega)) rBl (fun i => xs[i]?.bind fun _ => some true) hD (fun H' s' => ⟨.of (s' _ _ (s2 _ _ h1)), .of (s' _ _ (s2 _ _ h2))⟩) ?_ ?_
    · rintro i x H2 H3 hi pv ⟨tz, u1, u2, rfl, nz, rfl, e1, e2⟩
      have e1' : xs[i]? = some u1 := e1
      have e2' : xs[i]? = some u2 := e2
      have : u2 = u1 := by rw [e1'] at e2'; exact (Option.some.inj e2').symm
      subst this
      have s3 := same_new (o := .tup [u2, u2]) nz
      refine ⟨tz, _, rfl, .of upd_same, rfl, _, _, rfl, _, _, rfl, rfl, rfl, ?_⟩
      refine ⟨_, rfl, _, rfl, u2, rfl, hfl _ (List.mem_of_getElem? e1'), fun H5 s5 => ?_⟩
      exact fm_keep mono_bl pv hD (by omega) (s3.trans s5) (by rw [e1']; rfl) rfl
    · intro H3 zs s3 hD3 hp3
      have := paired_bl hp3
      subst this
      refine ⟨_, _, rfl, .of hD3, ?_⟩
      rw [all_fm (f := fun _ => true)]
      have : (xs.all fun _ => true) = true := by rw [List.all_eq_true]; intros; rfl
      rw [this]
      exact q _ (s2.trans s3)
end
end S4

namespace S4
open PySem L2 TT EE
theorem Hand.g_lst {g c : Addr} {H : Hp} (h : Hand g c H) : ∃ ys, H g = some (.lst ys) := h.lst
theorem But.at_ {g : Addr} {H H' : Hp} (b : But g H H') {a : Addr} {o : HO} (n : a ≠ g) (h : H a = some o) : H' a = some o := b a o n h
section
variable {P : Program} {w : World} {K : PySem.W.Frag} {mg : Str → Option Value} {base : Heap} {cT cS : Addr}
def spDeep : Sp := fun vs H Q _ => ∃ (g c : Addr), vs = [.ref g] ∧ Hand g c H ∧ ∀ H' v, But g H H' → Hand g c H' → Th g H' 0 v → Q v H'
theorem ok_deep (T : Tx K mg cT cS) {f : Addr} {fd : FuncData} (d : D K mg "_law_deep" s_law_deep ["hand"] f fd) : FnOk P w K mg base CX0 2 f fd ["hand"] spDeep := by
  obtain ⟨f1, fd1, d1⟩ := T.d_law_draw
  have G1 : FnOk P w K mg base CX0 1 f1 fd1 ["hand", "many"] spDraw := ok_draw T d1
  refine d.F.ok sc_law_deep (fun vs H Q E h => ?_) (fun cdv A outer s H vs Q E hr h => ?_)
  · obtain ⟨g, c, rfl, _⟩ := h
    rfl
  · obtain ⟨g, c, rfl, hh, q⟩ := h
    refine ⟨_, pss_cons (ps_set (i := 1) sc_law_deep.nd rfl (.inl rfl) (pe_ix ix_list (pe_lst (pa_cons pe_non (pa_cons pe_str (pa_cons (pe_un un_neg pe_int) (pa_cons pe_dnewK pa_nil))))) (pe_call G1 hr rfl d1.m d1.F.kp d1.b .nil pass0 (pa_cons (pv 0) (pa_cons pe_int pa_nil))) (fun _ _ => rfl)))
      (pss_cons (ps_for PassesOwn.never rfl (pi_range1 rfl T.b_range (pa_cons (pe_op op_add pe_int (pe_call G1 hr rfl d1.m d1.F.kp d1.b .nil pass0 (pa_cons (pv 0) (pa_cons pe_int pa_nil)))) pa_nil)) (pg_name (i := 2) sc_law_deep.nd rfl (Or.inl rfl))
        (pss_one (ps_set (i := 1) sc_law_deep.nd rfl (.inl rfl) (pe_ix ix_list (pe_lst (pa_cons (pe_tup (pa_cons (pv 1) pa_nil)) (pa_cons (pe_lst (pa_cons (pv 1) pa_nil)) (pa_cons (pe_slice sl_tupA (pe_tup (pa_cons (pv 1) (pa_cons (pv 1) pa_nil))) po_none (po_some pe_int))
            (pa_cons (pe_disp (pps_cons pe_int (pv 1) pps_nil) (by rfl) (by rfl) (fun z => by cases z) (by decide)) pa_nil))))) (pe_call G1 hr rfl d1.m d1.F.kp d1.b .nil pass0 (pa_cons (pv 0) (pa_cons pe_int pa_nil))) (fun _ _ => rfl)))))
      (pss_one (ps_ret (pv 1)))), ?_⟩
    refine ⟨_, rfl, fun d0 nd0 => ⟨by show 4 ≤ sizeLine; decide, fun l nl => ?_⟩⟩
    have s0 := same_new (o := .dK []) nd0
    have s1 := same_new (o := .lst [V.non, V.str "a", V.int (-1), V.ref d0]) nl
    have hh1 := hh.same (s0.trans s1)
    obtain ⟨lg, lc⟩ := hand_new (hh.same s0) nl
    obtain ⟨dg, dc⟩ := hand_new hh nd0
    refine ⟨_, rfl, g, c, 4, rfl, by decide, by decide, hh1, fun H2 k b2 hh2 k0 k1 => ?_⟩
    obtain ⟨j, rfl⟩ : ∃ j : Nat, k = (j : Int) := ⟨k.toNat, by omega⟩
    have b02 := ((s0.trans s1).but g).trans b2
    have hl2 : H2 l = some (.lst [V.non, V.str "a", V.int (-1), V.ref d0]) := b2.lst lg upd_same
    have hd2 : H2 d0 = some (.dK []) := b2 _ _ dg (s1 _ _ upd_same)
    have hx : ∃ x, [V.non, V.str "a", V.int (-1), V.ref d0][j]? = some x ∧ Th g H2 0 x := by
      match j, k1 with
      | 0, _ => exact ⟨_, rfl, .inl trivial⟩
      | 1, _ => exact ⟨_, rfl, .inl trivial⟩
      | 2, _ => exact ⟨_, rfl, .inl trivial⟩
      | 3, _ => exact ⟨_, rfl, Th.dct hd2 dg 0⟩
      | n + 4, h => omega
    obtain ⟨x, hx, tx⟩ := hx
    refine ⟨l, _, _, _, rfl, rfl, .of hl2, atI_nat hx, ?_⟩
    dsimp only [gName, tSeq]
    refine ⟨_, rfl, g, c, 30, rfl, by decide, by decide, hh2, fun H3 m b3 hh3 m0 m1 => ⟨_, _, rfl, rfl, ?_⟩⟩
    refine ⟨_, rfl, by omega, by omega, ?_⟩
    refine for_it (walk_range (lo := 0) (n := (1 + m).toNat)) (fun i σ H' => But g H H' ∧ Hand g c H' ∧ ∃ v o2, σ = [some (.ref g), some v, o2] ∧ Th g H' 0 v) ⟨b02.trans b3, hh3, x, none, rfl, tx.but b3⟩ (fun _ _ _ _ _ => trivial) ?_ ?_
    · rintro i x σ H4 H5 hi ⟨b4, hh4, v, o2, rfl, tv⟩ ⟨rfl, rfl⟩
      refine ⟨_, rfl, by show 1 ≤ sizeLine; decide, fun p1 n1 => ⟨_, rfl, by show 1 ≤ sizeLine; decide, fun p2 n2 => ⟨_, rfl, _, rfl, by show 2 ≤ sizeLine; decide, fun p3 n3 => ?_⟩⟩⟩
      have s1 := same_new (o := .tup [v]) n1
      have s2 := same_new (o := .lst [v]) n2
      have s3 := same_new (o := .tup [v, v]) n3
      refine ⟨1, rfl, slice_upto upd_same fun H6 p6 s6 hp6 => ?_⟩
      intro p7 n7
      have s7 := same_new (o := .dK []) n7
      refine ⟨_, rfl, upd_same, [(Sum.inl 0, v)], rfl, by show 1 ≤ 15; decide, ?_⟩
      rw [upd_upd]
      refine ⟨by show 4 ≤ sizeLine; decide, fun p8 n8 => ?_⟩
      have s7' := same_new (o := .dK (mergeK [] [(Sum.inl 0, v)])) n7
      have s8 := same_new (o := .lst [V.ref p1, V.ref p2, V.ref p6, V.ref p7]) n8
      have sA := ((s1.trans s2).trans s3).trans s6
      have sB := (sA.trans s7').trans s8
      have hh8 := hh4.same sB
      obtain ⟨g8, _⟩ := hand_new (hh4.same (sA.trans s7')) n8
      obtain ⟨g7, _⟩ := hand_new (hh4.same sA) n7
      obtain ⟨g1, _⟩ := hand_new hh4 n1
      obtain ⟨g2, _⟩ := hand_new (hh4.same s1) n2
      refine ⟨_, rfl, g, c, 4, rfl, by decide, by decide, hh8, fun H9 k b9 hh9 k0 k1 => ?_⟩
      obtain ⟨j, rfl⟩ : ∃ j : Nat, k = (j : Int) := ⟨k.toNat, by omega⟩
      have hl9 : H9 p8 = some (.lst [V.ref p1, V.ref p2, V.ref p6, V.ref p7]) := b9.lst g8 upd_same
      obtain ⟨ys, hg9⟩ := hh9.lst
      have h1 : H9 p1 = some (.tup [v]) := b9 _ _ g1 (s8 _ _ (s7' _ _ (s6 _ _ (s3 _ _ (s2 _ _ upd_same)))))
      have h2 : H9 p2 = some (.lst [v]) := b9 _ _ g2 (s8 _ _ (s7' _ _ (s6 _ _ (s3 _ _ upd_same))))
      have g6 : p6 ≠ g := by
        obtain ⟨zs, hg6⟩ := (hh4.same sA).lst
        exact ne_of hp6 hg6 (fun z => nomatch z)
      have h6 : H9 p6 = some (.tup ([v, v].take 1)) := b9 _ _ g6 (s8 _ _ (s7' _ _ hp6))
      have h7 : H9 p7 = some (.dK (mergeK [] [(Sum.inl 0, v)])) := b9 _ _ g7 (s8 _ _ upd_same)
      have hx : ∃ x, [V.ref p1, V.ref p2, V.ref p6, V.ref p7][j]? = some x ∧ Th g H9 0 x := by
        match j, k1 with
        | 0, _ => exact ⟨_, rfl, Th.tup0 h1 g1 (by show 1 ≤ 1000; decide)⟩
        | 1, _ => exact ⟨_, rfl, Th.lst h2 g2 0⟩
        | 2, _ => exact ⟨_, rfl, Th.tup0 h6 g6 (by show 1 ≤ 1000; decide)⟩
        | 3, _ => exact ⟨_, rfl, Th.dct h7 g7 0⟩
        | n + 4, h => omega
      obtain ⟨x, hx, tx⟩ := hx
      exact ⟨p8, _, _, _, rfl, rfl, .of hl9, atI_nat hx, (b4.trans (sB.but g)).trans b9, hh9, x, _, rfl, tx⟩
    · rintro σ H4 ⟨b4, hh4, v, o2, rfl, tv⟩
      exact ⟨_, rfl, q H4 v b4 hh4 tv⟩
def spLOpening : Sp := fun vs H Q _ => ∃ (g c : Addr), vs = [.ref g] ∧ Hand g c H ∧ ∀ H' v p, But g H H' → Hand g c H' → rOp H' v p → OpOk p → Q v H'
theorem ok_law_opening (T : Tx K mg cT cS) {f : Addr} {fd : FuncData} (d : D K mg "_law_opening" s_law_opening ["hand"] f fd) : FnOk P w K mg base CX0 2 f fd ["hand"] spLOpening := by
  obtain ⟨f1, fd1, d1⟩ := T.d_law_draw
  have G1 : FnOk P w K mg base CX0 1 f1 fd1 ["hand", "many"] spDraw := ok_draw T d1
  refine d.F.ok sc_law_opening (fun vs H Q E h => ?_) (fun cdv A outer s H vs Q E hr h => ?_)
  · obtain ⟨g, c, rfl, _⟩ := h
    rfl
  · obtain ⟨g, c, rfl, hh, q⟩ := h
    refine ⟨_, pss_cons (ps_if (pt_cmpR op_eq (pe_call G1 hr rfl d1.m d1.F.kp d1.b .nil pass0 (pa_cons (pv 0) (pa_cons pe_int pa_nil))) pe_int (nomark _))
        (pss_cons (ps_set (i := 1) sc_law_opening.nd rfl (.inl rfl) (pe_callTy call_tuple_of (by rfl) T.b_tuple (by decide +kernel) (pa_cons
            (pe_lc (own := [("turn", 3)]) (g := gName 3) (tt := tYes) rfl sc_law_opening.nd (pi_range1 rfl T.b_range (pa_cons (pe_call G1 hr rfl d1.m d1.F.kp d1.b .nil pass0 (pa_cons (pv 0) (pa_cons pe_int pa_nil))) pa_nil)) (blkOk_by (N := N_law_opening) (sc := defScope s_law_opening) (by decide +kernel))
              (fun _ _ _ _ _ => pg_name (i := 3) sc_law_opening.nd rfl (Or.inl rfl)) (fun _ _ _ _ _ => pts_nil)
              (fun _ _ _ _ _ => pe_call G1 hr rfl d1.m d1.F.kp d1.b .nil pass0 (pa_cons (pv 0) (pa_cons pe_int pa_nil)))) pa_nil)))
        (pss_one (ps_ret (pe_tup (pa_cons (pv 1) (pa_cons (pe_callTy call_tuple_of (by rfl) T.b_tuple (by decide +kernel) (pa_cons
            (pe_lc (own := [("turn", 3)]) (g := gName 3) (tt := tYes) rfl sc_law_opening.nd (pi_range1 rfl T.b_range (pa_cons (pe_op op_add pe_int (pe_call G1 hr rfl d1.m d1.F.kp d1.b .nil pass0 (pa_cons (pv 0) (pa_cons pe_int pa_nil)))) pa_nil)) (blkOk_by (N := N_law_opening) (sc := defScope s_law_opening) (by decide +kernel))
              (fun _ _ _ _ _ => pg_name (i := 3) sc_law_opening.nd rfl (Or.inl rfl)) (fun _ _ _ _ _ => pts_nil)
              (fun _ _ _ _ _ => pe_call G1 hr rfl d1.m d1.F.kp d1.b .nil pass0 (pa_cons (pv 0) (pa_cons pe_int pa_nil)))) pa_nil)) pa_nil)))))) pss_nil)
      (pss_cons (ps_set (i := 1) sc_law_opening.nd rfl (.inl rfl) (pe_callTy call_tuple_of (by rfl) T.b_tuple (by decide +kernel) (pa_cons
            (pe_lc (own := [("turn", 3)]) (g := gName 3) (tt := tYes) rfl sc_law_opening.nd (pi_range1 rfl T.b_range (pa_cons (pe_call G1 hr rfl d1.m d1.F.kp d1.b .nil pass0 (pa_cons (pv 0) (pa_cons pe_int pa_nil))) pa_nil)) (blkOk_by (N := N_law_opening) (sc := defScope s_law_opening) (by decide +kernel))
              (fun _ _ _ _ _ => pg_name (i := 3) sc_law_opening.nd rfl (Or.inl rfl)) (fun _ _ _ _ _ => pts_nil)
              (fun _ _ _ _ _ => pe_call G1 hr rfl d1.m d1.F.kp d1.b .nil pass0 (pa_cons (pv 0) (pa_cons pe_int pa_nil)))) pa_nil)))
      (pss_cons (ps_set (i := 2) sc_law_opening.nd rfl (.inl rfl) (pe_call G1 hr rfl d1.m d1.F.kp d1.b .nil pass0 (pa_cons (pv 0) (pa_cons pe_int pa_nil))))
      (pss_cons (ps_if (pt_cmpR op_eq (pv 2) pe_int (nomark _)) (pss_one (ps_ret (pe_tup (pa_cons (pe_op op_catA (pe_op op_repA (pe_tup (pa_cons pe_int pa_nil)) (pe_call G1 hr rfl d1.m d1.F.kp d1.b .nil pass0 (pa_cons (pv 0) (pa_cons pe_int pa_nil)))) (pv 1)) (pa_cons (pe_tup (pa_cons pe_int pa_nil)) pa_nil))))) pss_nil)
      (pss_cons (ps_if (pt_cmpR op_lt (pv 2) pe_int (nomark _)) (pss_one (ps_ret (pe_tup (pa_cons (pv 1) (pa_cons (pe_tup (pa_cons pe_int pa_nil)) pa_nil))))) pss_nil)
      (pss_one (ps_ret (pe_tup (pa_cons (pv 1) (pa_cons (pe_callTy call_tuple_of (by rfl) T.b_tuple (by decide +kernel) (pa_cons
            (pe_lc (own := [("turn", 3)]) (g := gName 3) (tt := tYes) rfl sc_law_opening.nd (pi_range1 rfl T.b_range (pa_cons (pe_op op_add pe_int (pe_call G1 hr rfl d1.m d1.F.kp d1.b .nil pass0 (pa_cons (pv 0) (pa_cons pe_int pa_nil)))) pa_nil)) (blkOk_by (N := N_law_opening) (sc := defScope s_law_opening) (by decide +kernel))
              (fun _ _ _ _ _ => pg_name (i := 3) sc_law_opening.nd rfl (Or.inl rfl)) (fun _ _ _ _ _ => pts_nil)
              (fun _ _ _ _ _ => pe_call G1 hr rfl d1.m d1.F.kp d1.b .nil pass0 (pa_cons (pv 0) (pa_cons pe_int pa_nil)))) pa_nil)) pa_nil))))))))), ?_⟩
    refine ⟨_, rfl, g, c, 8, rfl, by decide, by decide, hh, fun H1 k1 b1 hh1 k10 k11 => ⟨rfl, _, rfl, ?_⟩⟩
    -- a row that is drawn
    have pair : ∀ {H' : Hp} {t1 t2 t : Addr} {l1 l2 : List Int}, But g H H' → Hand g c H' → H' t1 = some (.tup (l1.map V.int)) → H' t2 = some (.tup (l2.map V.int)) → l1.length ≤ 40 → l2.length ≤ 40 → 0 < l2.length → (∀ x ∈ l1, 0 ≤ x ∧ x < 9) → (∀ x ∈ l2, 0 ≤ x ∧ x < 9) → H' t = none → Q (.ref t) (upd H' t (.tup [.ref t1, .ref t2])) := by
      intro H' t1 t2 t l1 l2 b hh' h1 h2 n1 n2 n3 v1 v2 nt
      have s := same_new (o := .tup [V.ref t1, V.ref t2]) nt
      exact q _ _ (l1, l2) (b.trans (s.but g)) (hh'.same s) ⟨t, .ref t1, .ref t2, rfl, upd_same, ⟨t1, rfl, s _ _ h1⟩, ⟨t2, rfl, s _ _ h2⟩⟩ ⟨n1, n2, v1, v2, n3⟩
    by_cases hk : k1 = 0
    · refine iteEq (congrArg V.int hk) ⟨_, rfl, g, c, 9, rfl, by decide, by decide, hh1, fun H2 n2 b2 hh2 n20 n21 => ⟨_, rfl, by omega, by omega, fun D hD => ?_⟩⟩
      refine walk_W (walk_range (lo := 0) (n := n2.toNat)) _ (PvDr rInt (fun x => 0 ≤ x ∧ x < 9) g c D H2) (dr_start hh2 hD) (fun i H' _ h => trivial) ?_ ?_
      · rintro i x H4 H5 hi pv ⟨rfl, rfl⟩
        refine ⟨rfl, _, rfl, g, c, 9, rfl, by decide, by decide, pv.2.1, fun H6 n b6 hh6 n0 n1 => ?_⟩
        exact dr_keep mono_int hh2 pv hD (by omega) b6 hh6 rfl ⟨n0, n1⟩
      · intro H4 pv
        obtain ⟨b4, hh4, ys, l, hD4, hp4, hl4, hf4⟩ := pv
        have := paired_int hp4
        subst this
        refine ⟨D, _, rfl, .inl ⟨.of hD4, fun t nt => ?_⟩⟩
        have s5 := same_new (o := .tup (l.map V.int)) nt
        obtain ⟨tg, _⟩ := hand_new hh4 nt
        dsimp only [gName, tSeq]
        refine ⟨_, rfl, _, rfl, g, c, 9, rfl, by decide, by decide, hh4.same s5, fun H6 n6 b6 hh6 n60 n61 => ⟨_, _, rfl, rfl, _, rfl, by omega, by omega, fun D2 hD2 => ?_⟩⟩
        refine walk_W (walk_range (lo := 0) (n := (1 + n6).toNat)) _ (PvDr rInt (fun x => 0 ≤ x ∧ x < 9) g c D2 H6) (dr_start hh6 hD2) (fun i H' _ h => trivial) ?_ ?_
        · rintro i x H7 H8 hi pv ⟨rfl, rfl⟩
          refine ⟨rfl, _, rfl, g, c, 9, rfl, by decide, by decide, pv.2.1, fun H9 n b9 hh9 n0 n1 => ?_⟩
          exact dr_keep mono_int hh6 pv hD2 (by omega) b9 hh9 rfl ⟨n0, n1⟩
        · intro H7 pv
          obtain ⟨b7, hh7, ys, l2, hD7, hp7, hl7, hf7⟩ := pv
          have := paired_int hp7
          subst this
          refine ⟨D2, _, rfl, .inl ⟨.of hD7, fun t2 nt2 => ⟨by show 2 ≤ sizeLine; decide, fun t3 nt3 => ?_⟩⟩⟩
          have s8 := same_new (o := .tup (l2.map V.int)) nt2
          have b8 := ((((b1.trans b2).trans b4).trans (s5.but g)).trans b6).trans b7
          exact pair (b8.trans (s8.but g)) (hh7.same s8) (s8 _ _ (b7 _ _ tg (b6 _ _ tg upd_same))) upd_same (by omega) (by omega) (by omega) hf4 hf7 nt3
    · refine iteNe (fun z => hk (V.int.inj z)) ⟨_, rfl, g, c, 4, rfl, by decide, by decide, hh1, fun H2 n2 b2 hh2 n20 n21 => ⟨_, rfl, by omega, by omega, fun D hD => ?_⟩⟩
      refine walk_W (walk_range (lo := 0) (n := n2.toNat)) _ (PvDr rInt (fun x => 0 ≤ x ∧ x < 9) g c D H2) (dr_start hh2 hD) (fun i H' _ h => trivial) ?_ ?_
      · rintro i x H4 H5 hi pv ⟨rfl, rfl⟩
        refine ⟨rfl, _, rfl, g, c, 3, rfl, by decide, by decide, pv.2.1, fun H6 n b6 hh6 n0 n1 => ?_⟩
        exact dr_keep mono_int hh2 pv hD (by omega) b6 hh6 rfl ⟨n0, by omega⟩
      · intro H4 pv
        obtain ⟨b4, hh4, ys, l, hD4, hp4, hl4, hf4⟩ := pv
        have := paired_int hp4
        subst this
        refine ⟨D, _, rfl, .inl ⟨.of hD4, fun t nt => ?_⟩⟩
        have s5 := same_new (o := .tup (l.map V.int)) nt
        obtain ⟨tg, _⟩ := hand_new hh4 nt
        dsimp only [gName, tSeq]
        refine ⟨_, rfl, g, c, 6, rfl, by decide, by decide, hh4.same s5, fun H6 kd b6 hh6 kd0 kd1 => ?_⟩
        have b06 := (((b1.trans b2).trans b4).trans (s5.but g)).trans b6
        have ht6 : H6 t = some (.tup (l.map V.int)) := b6 _ _ tg upd_same
        dsimp only [gName, tSeq]
        refine ⟨_, rfl, rfl, _, rfl, ?_⟩
        by_cases hkd : kd = 0
        · refine iteEq (congrArg V.int hkd) ⟨by show 1 ≤ sizeLine; decide, fun z1 nz1 => ⟨_, rfl, g, c, 6, rfl, by decide, by decide, hh6.same (same_new nz1), fun H7 m b7 hh7 m0 m1 => ?_⟩⟩
          obtain ⟨z1g, _⟩ := hand_new hh6 nz1
          obtain ⟨mm, rfl⟩ : ∃ mm : Nat, m = (mm : Int) := ⟨m.toNat, by omega⟩
          refine rep_of (b7 _ _ z1g upd_same) (by omega) fun H8 p8 s8 hp8 => ?_
          have ht8 := s8 _ _ (b7 _ _ tg (same_new nz1 _ _ ht6))
          refine ⟨_, rfl, cat_of hp8 ht8 (by rw [List.length_replicate, List.length_map]; omega) fun H9 p9 s9 hp9 => ⟨by show 1 ≤ sizeLine; decide, fun z2 nz2 => ⟨by show 2 ≤ sizeLine; decide, fun z3 nz3 => ?_⟩⟩⟩
          have s10 := same_new (o := .tup [V.int 0]) nz2
          have e9 : List.replicate mm (V.int 0) ++ l.map V.int = (List.replicate mm (0 : Int) ++ l).map V.int := by rw [List.map_append, List.map_replicate]
          rw [e9] at hp9
          refine pair (l2 := [0]) ((((b06.trans ((same_new nz1).but g)).trans b7).trans ((s8.trans s9).but g)).trans (s10.but g)) ((hh7.same (s8.trans s9)).same s10) (s10 _ _ hp9) upd_same (by rw [List.length_append, List.length_replicate]; omega) (by decide) (by decide) (fun x hx => ?_) (fun x hx => ?_) nz3
          · rcases List.mem_append.mp hx with hx | hx
            · rw [(List.mem_replicate.mp hx).2]; omega
            · exact hf4 x hx
          · rw [List.mem_singleton.mp hx]; omega
        · refine iteNe (fun z => hkd (V.int.inj z)) ⟨_, rfl, _, _, rfl, rfl, _, rfl, ?_⟩
          by_cases hk3 : kd < 3
          · rw [decide_eq_true hk3]
            refine iteT ⟨_, rfl, by show 1 ≤ sizeLine; decide, fun z2 nz2 => ⟨by show 2 ≤ sizeLine; decide, fun z3 nz3 => ?_⟩⟩
            have s10 := same_new (o := .tup [V.int 1]) nz2
            refine pair (l2 := [1]) (b06.trans (s10.but g)) (hh6.same s10) (s10 _ _ ht6) upd_same (by omega) (by decide) (by decide) hf4 (fun x hx => ?_) nz3
            rw [List.mem_singleton.mp hx]; omega
          · rw [decide_eq_false hk3]
            refine iteF ⟨_, rfl, _, rfl, g, c, 3, rfl, by decide, by decide, hh6, fun H7 n7 b7 hh7 n70 n71 => ⟨_, _, rfl, rfl, _, rfl, by omega, by omega, fun D2 hD2 => ?_⟩⟩
            refine walk_W (walk_range (lo := 0) (n := (1 + n7).toNat)) _ (PvDr rInt (fun x => 0 ≤ x ∧ x < 9) g c D2 H7) (dr_start hh7 hD2) (fun i H' _ h => trivial) ?_ ?_
            · rintro i x H8 H9 hi pv ⟨rfl, rfl⟩
              refine ⟨rfl, _, rfl, g, c, 3, rfl, by decide, by decide, pv.2.1, fun H9 n b9 hh9 n0 n1 => ?_⟩
              exact dr_keep mono_int hh7 pv hD2 (by omega) b9 hh9 rfl ⟨n0, by omega⟩
            · intro H8 pv
              obtain ⟨b8, hh8, ys, l2, hD8, hp8, hl8, hf8⟩ := pv
              have := paired_int hp8
              subst this
              refine ⟨D2, _, rfl, .inl ⟨.of hD8, fun t2 nt2 => ⟨by show 2 ≤ sizeLine; decide, fun t3 nt3 => ?_⟩⟩⟩
              have s9 := same_new (o := .tup (l2.map V.int)) nt2
              exact pair ((b06.trans b7).trans b8 |>.trans (s9.but g)) (hh8.same s9) (s9 _ _ (b8 _ _ tg (b7 _ _ tg ht6))) upd_same (by omega) (by omega) (by omega) hf4 hf8 nt3
end
end S4

namespace S4
open PySem L2 TT EE
theorem Th.ups {g : Addr} {H : Hp} {a : Addr} {xs : List V} {n : Nat} (h : H a = some (.tup xs)) (na : a ≠ g) (hl : xs.length ≤ 1000) (hx : ∀ x ∈ xs, Th g H n x) : Th g H (n + 1) (.ref a) := .tup h na hl hx
theorem upd_at {H : Hp} {p : Addr} {o : HO} (_ : Same H (upd H p o)) : (upd H p o) p = some o := upd_same
theorem keepTup {g : Addr} {H H' : Hp} (b : But g H H') {ys : List V} (hg : H g = some (.lst ys)) (a : Addr) (o : List V) (h : H a = some (.tup o)) : H' a = some (.tup o) := b _ _ (ne_of h hg (fun z => nomatch z)) h
theorem ths12 {g : Addr} {H : Hp} {o0 o1 o2 o3 o4 o5 o6 o7 o8 o9 o10 o11 : V} (h0 : Th g H 2 o0) (h1 : Th g H 2 o1) (h2 : Th g H 2 o2) (h3 : Th g H 2 o3) (h4 : Th g H 2 o4) (h5 : Th g H 2 o5) (h6 : Th g H 2 o6) (h7 : Th g H 2 o7) (h8 : Th g H 2 o8) (h9 : Th g H 2 o9) (h10 : Th g H 2 o10) (h11 : Th g H 2 o11) :
    ∀ k : Nat, k < 12 → ∃ o, ([o0, o1, o2, o3, o4, o5, o6] ++ [o7, o8, o9, o10, o11])[k]? = some o ∧ Th g H 2 o
  | 0, _ => ⟨_, rfl, h0⟩
  | 1, _ => ⟨_, rfl, h1⟩
  | 2, _ => ⟨_, rfl, h2⟩
  | 3, _ => ⟨_, rfl, h3⟩
  | 4, _ => ⟨_, rfl, h4⟩
  | 5, _ => ⟨_, rfl, h5⟩
  | 6, _ => ⟨_, rfl, h6⟩
  | 7, _ => ⟨_, rfl, h7⟩
  | 8, _ => ⟨_, rfl, h8⟩
  | 9, _ => ⟨_, rfl, h9⟩
  | 10, _ => ⟨_, rfl, h10⟩
  | 11, _ => ⟨_, rfl, h11⟩
  | n + 12, h => by omega
theorem rep_ofI {K : PySem.W.Frag} {H : Hp} {t : Addr} {x : V} {k : Int} {n : Nat} {Q : VK} (e : k = (n : Int)) (ht : H t = some (.tup [x])) (hk : n ≤ 1000) (q : ∀ H' p, Same H H' → H' p = some (.tup (List.replicate n x)) → Q (.ref p) H') : rRepA K (.ref t) (.int k) H Q := by
  subst e
  exact rep_of ht hk q
theorem mem1 {P : V → Prop} {x : V} (h : P x) : ∀ y ∈ [x], P y := fun y hy => by rw [List.mem_singleton.mp hy]; exact h
theorem mem2 {P : V → Prop} {x y : V} (h : P x) (h2 : P y) : ∀ z ∈ [x, y], P z := fun z hz => by
  simp only [List.mem_cons, List.not_mem_nil, or_false] at hz
  rcases hz with rfl | rfl
  · exact h
  · exact h2
theorem mem3 {P : V → Prop} {x y z : V} (h : P x) (h2 : P y) (h3 : P z) : ∀ t ∈ [x, y, z], P t := fun t hz => by
  simp only [List.mem_cons, List.not_mem_nil, or_false] at hz
  rcases hz with rfl | rfl | rfl
  · exact h
  · exact h2
  · exact h3
theorem mem0 {P : V → Prop} : ∀ t ∈ ([] : List V), P t := fun t h => nomatch h
theorem memR {P : V → Prop} {x : V} {k : Nat} (h : P x) : ∀ t ∈ List.replicate k x, P t := fun t ht => by rw [(List.mem_replicate.mp ht).2]; exact h
theorem Th.int {g : Addr} {H : Hp} (n : Int) (k : Nat) : Th g H k (.int n) := .flat (v := .int n) trivial k
section
variable {P : Program} {w : World} {K : PySem.W.Frag} {mg : Str → Option Value} {base : Heap} {cT cS : Addr}
def spParts : Sp := fun vs H Q _ => ∃ (g c : Addr) (n : Nat), vs = [.ref g, .int (n : Int)] ∧ n ≤ 23 ∧ Hand g c H ∧ ∀ H' t r l R L, But g H H' → Hand g c H' → H' t = some (.tup [r, l]) → rTup rOp H' r R → rTup rOp H' l L → TimOk R L → R.length = n → Q (.ref t) H'
theorem ok_parts (T : Tx K mg cT cS) {f : Addr} {fd : FuncData} (d : D K mg "_law_timing_parts" s_law_timing_parts ["hand", "ties"] f fd) : FnOk P w K mg base CX0 3 f fd ["hand", "ties"] spParts := by
  obtain ⟨f1, fd1, d1⟩ := T.d_law_opening
  have G1 : FnOk P w K mg base CX0 2 f1 fd1 ["hand"] spLOpening := ok_law_opening T d1
  refine d.F.ok sc_law_timing_parts (fun vs H Q E h => ?_) (fun cdv A outer s H vs Q E hr h => ?_)
  · obtain ⟨g, c, n, rfl, _⟩ := h
    rfl
  · obtain ⟨g, c, n, rfl, hn, hh, q⟩ := h
    refine ⟨_, pss_cons (ps_set (i := 2) sc_law_timing_parts.nd rfl (.inl rfl) (pe_callTy call_tuple_of (by rfl) T.b_tuple (by decide +kernel) (pa_cons
            (pe_lc (own := [("tie", 3)]) (g := gName 3) (tt := tYes) rfl sc_law_timing_parts.nd (pi_range1 rfl T.b_range (pa_cons (pv 1) pa_nil)) (blkOk_by (N := N_law_timing_parts) (sc := defScope s_law_timing_parts) (by decide +kernel))
              (fun _ _ _ _ _ => pg_name (i := 3) sc_law_timing_parts.nd rfl (Or.inl rfl)) (fun _ _ _ _ _ => pts_nil)
              (fun _ _ _ _ _ => pe_call G1 hr rfl d1.m d1.F.kp d1.b .nil pass0 (pa_cons (pv 0) pa_nil))) pa_nil)))
      (pss_one (ps_ret (pe_tup (pa_cons (pv 2) (pa_cons (pe_callTy call_tuple_of (by rfl) T.b_tuple (by decide +kernel) (pa_cons
            (pe_lc (own := [("tie", 3)]) (g := gName 3) (tt := tYes) rfl sc_law_timing_parts.nd (pi_range1 rfl T.b_range (pa_cons (pv 1) pa_nil)) (blkOk_by (N := N_law_timing_parts) (sc := defScope s_law_timing_parts) (by decide +kernel))
              (fun _ _ _ _ _ => pg_name (i := 3) sc_law_timing_parts.nd rfl (Or.inl rfl)) (fun _ _ _ _ _ => pts_nil)
              (fun _ _ _ _ _ => pe_call G1 hr rfl d1.m d1.F.kp d1.b .nil pass0 (pa_cons (pv 0) pa_nil))) pa_nil)) pa_nil))))), ?_⟩
    refine ⟨_, rfl, _, rfl, by omega, by omega, fun D hD => ?_⟩
    refine walk_W (walk_range (lo := 0) (n := ((n : Nat) : Int).toNat)) _ (PvDr rOp OpOk g c D H) (dr_start hh hD) (fun i H' _ h => trivial) ?_ ?_
    · rintro i x H4 H5 hi pv ⟨rfl, rfl⟩
      refine ⟨rfl, _, rfl, g, c, rfl, pv.2.1, fun H6 v p b6 hh6 hv ov => ?_⟩
      exact dr_keep mono_op hh pv hD (by omega) b6 hh6 hv ov
    · intro H4 pv
      obtain ⟨b4, hh4, ys, R, hD4, hp4, hl4, hf4⟩ := pv
      refine ⟨D, _, rfl, .inl ⟨.of hD4, fun t nt => ?_⟩⟩
      have s5 := same_new (o := .tup ys) nt
      obtain ⟨tg, _⟩ := hand_new hh4 nt
      have hh5 := hh4.same s5
      have hr5 : rTup rOp (upd H4 t (.tup ys)) (.ref t) R := ⟨t, ys, rfl, upd_same, paired_mono mono_op s5.keep hp4⟩
      dsimp only [gName, tSeq]
      refine ⟨_, rfl, _, rfl, _, rfl, by omega, by omega, fun D2 hD2 => ?_⟩
      refine walk_W (walk_range (lo := 0) (n := ((n : Nat) : Int).toNat)) _ (PvDr rOp OpOk g c D2 (upd H4 t (.tup ys))) (dr_start hh5 hD2) (fun i H' _ h => trivial) ?_ ?_
      · rintro i x H6 H7 hi pv ⟨rfl, rfl⟩
        refine ⟨rfl, _, rfl, g, c, rfl, pv.2.1, fun H8 v p b8 hh8 hv ov => ?_⟩
        exact dr_keep mono_op hh5 pv hD2 (by omega) b8 hh8 hv ov
      · intro H6 pv
        obtain ⟨b6, hh6, zs, L, hD6, hp6, hl6, hf6⟩ := pv
        refine ⟨D2, _, rfl, .inl ⟨.of hD6, fun t2 nt2 => ⟨by show 2 ≤ sizeLine; decide, fun t3 nt3 => ?_⟩⟩⟩
        have s7 := same_new (o := .tup zs) nt2
        have s8 := same_new (o := .tup [V.ref t, V.ref t2]) nt3
        have s78 := s7.trans s8
        refine q _ t3 (.ref t) (.ref t2) R L (((b4.trans (s5.but g)).trans b6).trans (s78.but g)) (hh6.same s78) upd_same (mono_tup mono_op _ _ _ _ s78.keep (mono_tup mono_op _ _ _ _ (hh5.keep b6) hr5)) ?_ ⟨by omega, by omega, hf4, hf6⟩ (by omega)
        exact mono_tup mono_op _ _ _ _ s8.keep ⟨t2, zs, rfl, upd_same, paired_mono mono_op s7.keep hp6⟩
def spBent : Sp := fun vs H Q _ => ∃ (g c : Addr) (v : V) (R : List Op), vs = [.ref g, v] ∧ rTup rOp H v R ∧ R.length ≤ 23 ∧ (∀ p ∈ R, OpOk p) ∧ Hand g c H ∧ ∀ H' v', But g H H' → Hand g c H' → Th g H' 3 v' → Q v' H'
theorem ok_bent (T : Tx K mg cT cS) {f : Addr} {fd : FuncData} (d : D K mg "_law_bent" s_law_bent ["hand", "some"] f fd) : FnOk P w K mg base CX0 3 f fd ["hand", "some"] spBent := by
  obtain ⟨f1, fd1, d1⟩ := T.d_law_draw
  have G1 : FnOk P w K mg base CX0 1 f1 fd1 ["hand", "many"] spDraw := ok_draw T d1
  obtain ⟨f2, fd2, d2⟩ := T.d_law_deep
  have G2 : FnOk P w K mg base CX0 2 f2 fd2 ["hand"] spDeep := ok_deep T d2
  refine d.F.ok sc_law_bent (fun vs H Q E h => ?_) (fun cdv A outer s H vs Q E hr h => ?_)
  · obtain ⟨g, c, v, R, rfl, _⟩ := h
    rfl
  · obtain ⟨g, c, v, R, rfl, hR, hRl, hRo, hh, q⟩ := h
    obtain ⟨tv, xs, rfl, htv, hpv⟩ := id hR
    have hxl := paired_len hpv
    refine ⟨_, pss_cons (ps_set (i := 2) sc_law_bent.nd rfl (.inl rfl) (pe_call G1 (hr.mono (by decide)) rfl d1.m d1.F.kp d1.b .nil pass0 (pa_cons (pv 0) (pa_cons (pe_op op_add (pe_callB call_len_seq (by rfl) T.b_len PySem.boot_len (pa_cons (pv 1) pa_nil)) pe_int) pa_nil))))
      (pss_cons (ps_set (i := 3) sc_law_bent.nd rfl (.inl rfl) (pe_ix ix_list (pe_lst (pa_cons pe_int (pa_cons pe_int (pa_cons (pe_un un_neg pe_int) (pa_cons pe_bl (pa_cons pe_non (pa_cons pe_str (pa_cons (pe_tup (pa_cons pe_int pa_nil)) (pa_cons (pe_call G2 hr rfl d2.m d2.F.kp d2.b .nil pass0 (pa_cons (pv 0) pa_nil)) pa_nil)))))))))
          (pe_call G1 (hr.mono (by decide)) rfl d1.m d1.F.kp d1.b .nil pass0 (pa_cons (pv 0) (pa_cons pe_int pa_nil))) (fun _ _ => rfl)))
      (pss_cons (ps_set (i := 4) sc_law_bent.nd rfl (.inl rfl) (pe_lst (pa_cons (pe_tup (pa_cons (pe_tup (pa_cons (pv 3) pa_nil)) (pa_cons (pe_tup (pa_cons pe_int pa_nil)) pa_nil)))
          (pa_cons (pe_tup (pa_cons (pe_tup pa_nil) (pa_cons (pe_tup (pa_cons (pv 3) pa_nil)) pa_nil)))
          (pa_cons (pe_tup (pa_cons (pe_tup pa_nil) (pa_cons (pe_tup pa_nil) pa_nil)))
          (pa_cons (pe_tup (pa_cons (pe_op op_repA (pe_tup (pa_cons pe_int pa_nil)) pe_int) (pa_cons (pe_tup (pa_cons pe_int pa_nil)) pa_nil)))
          (pa_cons (pe_tup (pa_cons (pe_op op_repA (pe_tup (pa_cons pe_int pa_nil)) pe_int) (pa_cons (pe_tup (pa_cons pe_int pa_nil)) pa_nil)))
          (pa_cons (pe_tup (pa_cons (pe_tup (pa_cons pe_int pa_nil)) pa_nil))
          (pa_cons (pe_lst (pa_cons (pe_tup (pa_cons pe_int pa_nil)) (pa_cons (pe_tup (pa_cons pe_int pa_nil)) pa_nil))) pa_nil)))))))))
      (pss_cons (ps_set (i := 4) sc_law_bent.nd rfl (.inl rfl) (pe_op op_cat (pv 4) (pe_lst (pa_cons (pe_tup (pa_cons (pe_lst (pa_cons pe_int pa_nil)) (pa_cons (pe_tup (pa_cons pe_int pa_nil)) pa_nil)))
          (pa_cons pe_non (pa_cons (pe_tup pa_nil) (pa_cons (pe_tup (pa_cons (pe_tup pa_nil) (pa_cons (pe_tup (pa_cons pe_int pa_nil)) (pa_cons (pe_tup pa_nil) pa_nil)))) (pa_cons pe_dnewK pa_nil))))))))
      (pss_cons (ps_set (i := 5) sc_law_bent.nd rfl (.inl rfl) (pe_lst
          (pa_cons (pe_op op_catA (pe_op op_catA (pe_slice sl_tupA (pv 1) po_none (po_some (pv 2))) (pe_tup (pa_cons (pe_ix ix_list (pv 4) (pe_call G1 (hr.mono (by decide)) rfl d1.m d1.F.kp d1.b .nil pass0 (pa_cons (pv 0) (pa_cons pe_int pa_nil))) (fun _ _ => rfl)) pa_nil))) (pe_slice sl_tupA (pv 1) (po_some (pe_op op_add (pv 2) pe_int)) po_none))
          (pa_cons (pe_op op_catA (pe_op op_catA (pe_slice sl_tupA (pv 1) po_none (po_some (pv 2))) (pe_tup (pa_cons (pe_ix ix_list (pv 4) (pe_call G1 (hr.mono (by decide)) rfl d1.m d1.F.kp d1.b .nil pass0 (pa_cons (pv 0) (pa_cons pe_int pa_nil))) (fun _ _ => rfl)) pa_nil))) (pe_slice sl_tupA (pv 1) (po_some (pe_op op_add (pv 2) pe_int)) po_none)) pa_nil))))
      (pss_cons (ps_set (i := 5) sc_law_bent.nd rfl (.inl rfl) (pe_op op_cat (pv 5) (pe_lst (pa_cons (pe_callTy call_list_of (by rfl) T.b_list (by decide +kernel) (pa_cons (pv 1) pa_nil)) (pa_cons (pe_slice sl_tupA (pv 1) (po_some pe_int) po_none)
          (pa_cons (pe_op op_catA (pv 1) (pe_tup (pa_cons (pe_tup (pa_cons (pe_tup pa_nil) (pa_cons (pe_tup (pa_cons pe_int pa_nil)) pa_nil))) pa_nil)))
          (pa_cons (pe_op op_repA (pe_tup (pa_cons (pe_tup (pa_cons (pe_tup pa_nil) (pa_cons (pe_tup (pa_cons pe_int pa_nil)) pa_nil))) pa_nil)) pe_int) (pa_cons pe_non (pa_cons pe_str pa_nil)))))))))
      (pss_one (ps_ret (pe_ix ix_list (pv 5) (pe_call G1 (hr.mono (by decide)) rfl d1.m d1.F.kp d1.b .nil pass0 (pa_cons (pv 0) (pa_cons pe_int pa_nil))) (fun _ _ => rfl))))))))), ?_⟩
    refine ⟨_, rfl, _, rfl, _, _, rfl, .inr (.of htv), _, _, rfl, rfl, g, c, _, rfl, by omega, by omega, hh, fun H1 at_ b1 hh1 at0 at1 => ?_⟩
    dsimp only [gName, tSeq]
    refine ⟨_, rfl, by show 1 ≤ sizeLine; decide, fun q1 nq1 => ⟨_, rfl, g, c, rfl, hh1.same (same_new nq1), fun H2 dv b2 hh2 tdv => ⟨by show 8 ≤ sizeLine; decide, fun l nl => ?_⟩⟩⟩
    obtain ⟨q1g, _⟩ := hand_new hh1 nq1
    obtain ⟨lg, _⟩ := hand_new hh2 nl
    have sl := same_new (o := .lst [V.int 9, V.int 8, V.int (-1), V.bl true, V.non, V.str "1", V.ref q1, dv]) nl
    refine ⟨_, rfl, g, c, 8, rfl, by decide, by decide, hh2.same sl, fun H3 k b3 hh3 k0 k1 => ?_⟩
    obtain ⟨j, rfl⟩ : ∃ j : Nat, k = (j : Int) := ⟨k.toNat, by omega⟩
    have hl3 : H3 l = some (.lst [V.int 9, V.int 8, V.int (-1), V.bl true, V.non, V.str "1", V.ref q1, dv]) := b3.lst lg upd_same
    have hq3 : H3 q1 = some (.tup [V.int 1]) := b3 _ _ q1g (sl _ _ (b2 _ _ q1g upd_same))
    have hx : ∃ x, [V.int 9, V.int 8, V.int (-1), V.bl true, V.non, V.str "1", V.ref q1, dv][j]? = some x ∧ Th g H3 0 x := by
      match j, k1 with
      | 0, _ => exact ⟨_, rfl, .inl trivial⟩
      | 1, _ => exact ⟨_, rfl, .inl trivial⟩
      | 2, _ => exact ⟨_, rfl, .inl trivial⟩
      | 3, _ => exact ⟨_, rfl, .inl trivial⟩
      | 4, _ => exact ⟨_, rfl, .inl trivial⟩
      | 5, _ => exact ⟨_, rfl, .inl trivial⟩
      | 6, _ => exact ⟨_, rfl, Th.tup0 hq3 q1g (by show 1 ≤ 1000; decide)⟩
      | 7, _ => exact ⟨_, rfl, (tdv.same sl).but b3⟩
      | n + 8, h => omega
    obtain ⟨nb, hx, tnb⟩ := hx
    have b03 : But g H H3 := (((b1.trans ((same_new nq1).but g)).trans b2).trans (sl.but g)).trans b3
    clear hq3 tdv
    refine ⟨l, _, _, _, rfl, rfl, .of hl3, atI_nat hx, ?_⟩
    clear hl3 hx
    dsimp only [gName, tSeq]
    refine ⟨_, rfl, by show 1 ≤ sizeLine; decide, fun a1 n_a1 => ?_⟩
    have s_a1 := same_new (o := .tup [nb]) n_a1
    have P_a1 := s_a1
    refine ⟨by show 1 ≤ sizeLine; decide, fun a2 n_a2 => ?_⟩
    have s_a2 := same_new (o := .tup [V.int 1]) n_a2
    have P_a2 := P_a1.trans s_a2
    refine ⟨by show 2 ≤ sizeLine; decide, fun a3 n_a3 => ?_⟩
    have s_a3 := same_new (o := .tup [V.ref a1, V.ref a2]) n_a3
    have P_a3 := P_a2.trans s_a3
    refine ⟨by show 0 ≤ sizeLine; decide, fun b1 n_b1 => ?_⟩
    have s_b1 := same_new (o := .tup []) n_b1
    have P_b1 := P_a3.trans s_b1
    refine ⟨_, rfl, by show 1 ≤ sizeLine; decide, fun b2 n_b2 => ?_⟩
    have s_b2 := same_new (o := .tup [nb]) n_b2
    have P_b2 := P_b1.trans s_b2
    refine ⟨by show 2 ≤ sizeLine; decide, fun b3 n_b3 => ?_⟩
    have s_b3 := same_new (o := .tup [V.ref b1, V.ref b2]) n_b3
    have P_b3 := P_b2.trans s_b3
    refine ⟨by show 0 ≤ sizeLine; decide, fun c1 n_c1 => ?_⟩
    have s_c1 := same_new (o := .tup []) n_c1
    have P_c1 := P_b3.trans s_c1
    refine ⟨by show 0 ≤ sizeLine; decide, fun c2 n_c2 => ?_⟩
    have s_c2 := same_new (o := .tup []) n_c2
    have P_c2 := P_c1.trans s_c2
    refine ⟨by show 2 ≤ sizeLine; decide, fun c3 n_c3 => ?_⟩
    have s_c3 := same_new (o := .tup [V.ref c1, V.ref c2]) n_c3
    have P_c3 := P_c2.trans s_c3
    refine ⟨by show 1 ≤ sizeLine; decide, fun d1 n_d1 => ?_⟩
    have s_d1 := same_new (o := .tup [V.int 0]) n_d1
    have P_d1 := P_c3.trans s_d1
    dsimp only [tC]
    refine rep_ofI (n := 41) rfl upd_same (by decide) fun H_d2 d2 s_d2 t_d2 => ?_
    have P_d2 := P_d1.trans s_d2
    refine ⟨by show 1 ≤ sizeLine; decide, fun d3 n_d3 => ?_⟩
    have s_d3 := same_new (o := .tup [V.int 1]) n_d3
    have P_d3 := P_d2.trans s_d3
    refine ⟨by show 2 ≤ sizeLine; decide, fun d4 n_d4 => ?_⟩
    have s_d4 := same_new (o := .tup [V.ref d2, V.ref d3]) n_d4
    have P_d4 := P_d3.trans s_d4
    refine ⟨by show 1 ≤ sizeLine; decide, fun e1 n_e1 => ?_⟩
    have s_e1 := same_new (o := .tup [V.int 0]) n_e1
    have P_e1 := P_d4.trans s_e1
    dsimp only [tC]
    refine rep_ofI (n := 40) rfl upd_same (by decide) fun H_e2 e2 s_e2 t_e2 => ?_
    have P_e2 := P_e1.trans s_e2
    refine ⟨by show 1 ≤ sizeLine; decide, fun e3 n_e3 => ?_⟩
    have s_e3 := same_new (o := .tup [V.int 1]) n_e3
    have P_e3 := P_e2.trans s_e3
    refine ⟨by show 2 ≤ sizeLine; decide, fun e4 n_e4 => ?_⟩
    have s_e4 := same_new (o := .tup [V.ref e2, V.ref e3]) n_e4
    have P_e4 := P_e3.trans s_e4
    refine ⟨by show 1 ≤ sizeLine; decide, fun f1 n_f1 => ?_⟩
    have s_f1 := same_new (o := .tup [V.int 1]) n_f1
    have P_f1 := P_e4.trans s_f1
    refine ⟨by show 1 ≤ sizeLine; decide, fun f2 n_f2 => ?_⟩
    have s_f2 := same_new (o := .tup [V.ref f1]) n_f2
    have P_f2 := P_f1.trans s_f2
    refine ⟨by show 1 ≤ sizeLine; decide, fun g1 n_g1 => ?_⟩
    have s_g1 := same_new (o := .tup [V.int 1]) n_g1
    have P_g1 := P_f2.trans s_g1
    refine ⟨by show 1 ≤ sizeLine; decide, fun g2 n_g2 => ?_⟩
    have s_g2 := same_new (o := .tup [V.int 1]) n_g2
    have P_g2 := P_g1.trans s_g2
    refine ⟨by show 2 ≤ sizeLine; decide, fun g3 n_g3 => ?_⟩
    have s_g3 := same_new (o := .lst [V.ref g1, V.ref g2]) n_g3
    have P_g3 := P_g2.trans s_g3
    refine ⟨by show 7 ≤ sizeLine; decide, fun la n_la => ?_⟩
    have s_la := same_new (o := .lst [V.ref a3, V.ref b3, V.ref c3, V.ref d4, V.ref e4, V.ref f2, V.ref g3]) n_la
    have P_la := P_g3.trans s_la
    dsimp only [gName, tSeq]
    refine ⟨_, rfl, by show 1 ≤ sizeLine; decide, fun h1 n_h1 => ?_⟩
    have s_h1 := same_new (o := .lst [V.int 1]) n_h1
    have P_h1 := P_la.trans s_h1
    refine ⟨by show 1 ≤ sizeLine; decide, fun h2 n_h2 => ?_⟩
    have s_h2 := same_new (o := .tup [V.int 1]) n_h2
    have P_h2 := P_h1.trans s_h2
    refine ⟨by show 2 ≤ sizeLine; decide, fun h3 n_h3 => ?_⟩
    have s_h3 := same_new (o := .tup [V.ref h1, V.ref h2]) n_h3
    have P_h3 := P_h2.trans s_h3
    refine ⟨by show 0 ≤ sizeLine; decide, fun i1 n_i1 => ?_⟩
    have s_i1 := same_new (o := .tup []) n_i1
    have P_i1 := P_h3.trans s_i1
    refine ⟨by show 0 ≤ sizeLine; decide, fun j1 n_j1 => ?_⟩
    have s_j1 := same_new (o := .tup []) n_j1
    have P_j1 := P_i1.trans s_j1
    refine ⟨by show 1 ≤ sizeLine; decide, fun j2 n_j2 => ?_⟩
    have s_j2 := same_new (o := .tup [V.int 1]) n_j2
    have P_j2 := P_j1.trans s_j2
    refine ⟨by show 0 ≤ sizeLine; decide, fun j3 n_j3 => ?_⟩
    have s_j3 := same_new (o := .tup []) n_j3
    have P_j3 := P_j2.trans s_j3
    refine ⟨by show 3 ≤ sizeLine; decide, fun j4 n_j4 => ?_⟩
    have s_j4 := same_new (o := .tup [V.ref j1, V.ref j2, V.ref j3]) n_j4
    have P_j4 := P_j3.trans s_j4
    refine fun k1 n_k1 => ?_
    have s_k1 := same_new (o := .dK []) n_k1
    have P_k1 := P_j4.trans s_k1
    refine ⟨by show 5 ≤ sizeLine; decide, fun lb n_lb => ?_⟩
    have s_lb := same_new (o := .lst [V.ref h3, V.non, V.ref i1, V.ref j4, V.ref k1]) n_lb
    have P_lb := P_k1.trans s_lb
    have Z_k1 := s_lb
    have Z_j4 := s_k1.trans Z_k1
    have Z_j3 := s_j4.trans Z_j4
    have Z_j2 := s_j3.trans Z_j3
    have Z_j1 := s_j2.trans Z_j2
    have Z_i1 := s_j1.trans Z_j1
    have Z_h3 := s_i1.trans Z_i1
    have Z_h2 := s_h3.trans Z_h3
    have Z_h1 := s_h2.trans Z_h2
    have Z_la := s_h1.trans Z_h1
    have Z_g3 := s_la.trans Z_la
    have Z_g2 := s_g3.trans Z_g3
    have Z_g1 := s_g2.trans Z_g2
    have Z_f2 := s_g1.trans Z_g1
    have Z_f1 := s_f2.trans Z_f2
    have Z_e4 := s_f1.trans Z_f1
    have Z_e3 := s_e4.trans Z_e4
    have Z_e2 := s_e3.trans Z_e3
    have Z_e1 := s_e2.trans Z_e2
    have Z_d4 := s_e1.trans Z_e1
    have Z_d3 := s_d4.trans Z_d4
    have Z_d2 := s_d3.trans Z_d3
    have Z_d1 := s_d2.trans Z_d2
    have Z_c3 := s_d1.trans Z_d1
    have Z_c2 := s_c3.trans Z_c3
    have Z_c1 := s_c2.trans Z_c2
    have Z_b3 := s_c1.trans Z_c1
    have Z_b2 := s_b3.trans Z_b3
    have Z_b1 := s_b2.trans Z_b2
    have Z_a3 := s_b1.trans Z_b1
    have Z_a2 := s_a3.trans Z_a3
    have Z_a1 := s_a2.trans Z_a2
    have f_a1 := Z_a1 a1 (.tup [nb]) upd_same
    have f_a2 := Z_a2 a2 (.tup [V.int 1]) upd_same
    have f_a3 := Z_a3 a3 (.tup [V.ref a1, V.ref a2]) upd_same
    have f_b1 := Z_b1 b1 (.tup []) upd_same
    have f_b2 := Z_b2 b2 (.tup [nb]) upd_same
    have f_b3 := Z_b3 b3 (.tup [V.ref b1, V.ref b2]) upd_same
    have f_c1 := Z_c1 c1 (.tup []) upd_same
    have f_c2 := Z_c2 c2 (.tup []) upd_same
    have f_c3 := Z_c3 c3 (.tup [V.ref c1, V.ref c2]) upd_same
    have f_d1 := Z_d1 d1 (.tup [V.int 0]) upd_same
    have f_d2 := Z_d2 d2 (.tup (List.replicate 41 (V.int 0))) t_d2
    have f_d3 := Z_d3 d3 (.tup [V.int 1]) upd_same
    have f_d4 := Z_d4 d4 (.tup [V.ref d2, V.ref d3]) upd_same
    have f_e1 := Z_e1 e1 (.tup [V.int 0]) upd_same
    have f_e2 := Z_e2 e2 (.tup (List.replicate 40 (V.int 0))) t_e2
    have f_e3 := Z_e3 e3 (.tup [V.int 1]) upd_same
    have f_e4 := Z_e4 e4 (.tup [V.ref e2, V.ref e3]) upd_same
    have f_f1 := Z_f1 f1 (.tup [V.int 1]) upd_same
    have f_f2 := Z_f2 f2 (.tup [V.ref f1]) upd_same
    have f_g1 := Z_g1 g1 (.tup [V.int 1]) upd_same
    have f_g2 := Z_g2 g2 (.tup [V.int 1]) upd_same
    have f_g3 := Z_g3 g3 (.lst [V.ref g1, V.ref g2]) upd_same
    have f_la := Z_la la (.lst [V.ref a3, V.ref b3, V.ref c3, V.ref d4, V.ref e4, V.ref f2, V.ref g3]) upd_same
    have f_h1 := Z_h1 h1 (.lst [V.int 1]) upd_same
    have f_h2 := Z_h2 h2 (.tup [V.int 1]) upd_same
    have f_h3 := Z_h3 h3 (.tup [V.ref h1, V.ref h2]) upd_same
    have f_i1 := Z_i1 i1 (.tup []) upd_same
    have f_j1 := Z_j1 j1 (.tup []) upd_same
    have f_j2 := Z_j2 j2 (.tup [V.int 1]) upd_same
    have f_j3 := Z_j3 j3 (.tup []) upd_same
    have f_j4 := Z_j4 j4 (.tup [V.ref j1, V.ref j2, V.ref j3]) upd_same
    have f_k1 := Z_k1 k1 (.dK []) upd_same
    obtain ⟨ysg, hgF⟩ := (hh3.same P_lb).lst
    have x_a1 : a1 ≠ g := ne_of f_a1 hgF (fun z => nomatch z)
    have x_a2 : a2 ≠ g := ne_of f_a2 hgF (fun z => nomatch z)
    have x_a3 : a3 ≠ g := ne_of f_a3 hgF (fun z => nomatch z)
    have x_b1 : b1 ≠ g := ne_of f_b1 hgF (fun z => nomatch z)
    have x_b2 : b2 ≠ g := ne_of f_b2 hgF (fun z => nomatch z)
    have x_b3 : b3 ≠ g := ne_of f_b3 hgF (fun z => nomatch z)
    have x_c1 : c1 ≠ g := ne_of f_c1 hgF (fun z => nomatch z)
    have x_c2 : c2 ≠ g := ne_of f_c2 hgF (fun z => nomatch z)
    have x_c3 : c3 ≠ g := ne_of f_c3 hgF (fun z => nomatch z)
    have x_d1 : d1 ≠ g := ne_of f_d1 hgF (fun z => nomatch z)
    have x_d2 : d2 ≠ g := ne_of f_d2 hgF (fun z => nomatch z)
    have x_d3 : d3 ≠ g := ne_of f_d3 hgF (fun z => nomatch z)
    have x_d4 : d4 ≠ g := ne_of f_d4 hgF (fun z => nomatch z)
    have x_e1 : e1 ≠ g := ne_of f_e1 hgF (fun z => nomatch z)
    have x_e2 : e2 ≠ g := ne_of f_e2 hgF (fun z => nomatch z)
    have x_e3 : e3 ≠ g := ne_of f_e3 hgF (fun z => nomatch z)
    have x_e4 : e4 ≠ g := ne_of f_e4 hgF (fun z => nomatch z)
    have x_f1 : f1 ≠ g := ne_of f_f1 hgF (fun z => nomatch z)
    have x_f2 : f2 ≠ g := ne_of f_f2 hgF (fun z => nomatch z)
    have x_g1 : g1 ≠ g := ne_of f_g1 hgF (fun z => nomatch z)
    have x_g2 : g2 ≠ g := ne_of f_g2 hgF (fun z => nomatch z)
    have x_g3 := (hand_new (hh3.same P_g2) n_g3).1
    have x_la := (hand_new (hh3.same P_g3) n_la).1
    have x_h1 := (hand_new (hh3.same P_la) n_h1).1
    have x_h2 : h2 ≠ g := ne_of f_h2 hgF (fun z => nomatch z)
    have x_h3 : h3 ≠ g := ne_of f_h3 hgF (fun z => nomatch z)
    have x_i1 : i1 ≠ g := ne_of f_i1 hgF (fun z => nomatch z)
    have x_j1 : j1 ≠ g := ne_of f_j1 hgF (fun z => nomatch z)
    have x_j2 : j2 ≠ g := ne_of f_j2 hgF (fun z => nomatch z)
    have x_j3 : j3 ≠ g := ne_of f_j3 hgF (fun z => nomatch z)
    have x_j4 : j4 ≠ g := ne_of f_j4 hgF (fun z => nomatch z)
    have x_k1 : k1 ≠ g := ne_of f_k1 hgF (fun z => nomatch z)
    have x_lb := (hand_new (hh3.same P_k1) n_lb).1
    have tnF := tnb.same P_lb
    have t_a3 : Th g _ 2 (.ref a3) := (Th.ups f_a3 x_a3 (by show 2 ≤ 1000; decide) (mem2 (Th.ups f_a1 x_a1 (by show 1 ≤ 1000; decide) (mem1 tnF)) (Th.ups f_a2 x_a2 (by show 1 ≤ 1000; decide) (mem1 (Th.int 1 0)))))
    have t_b3 : Th g _ 2 (.ref b3) := (Th.ups f_b3 x_b3 (by show 2 ≤ 1000; decide) (mem2 (Th.ups f_b1 x_b1 (by show 0 ≤ 1000; decide) mem0) (Th.ups f_b2 x_b2 (by show 1 ≤ 1000; decide) (mem1 tnF))))
    have t_c3 : Th g _ 2 (.ref c3) := (Th.ups f_c3 x_c3 (by show 2 ≤ 1000; decide) (mem2 (Th.ups f_c1 x_c1 (by show 0 ≤ 1000; decide) mem0) (Th.ups f_c2 x_c2 (by show 0 ≤ 1000; decide) mem0)))
    have t_d4 : Th g _ 2 (.ref d4) := (Th.ups f_d4 x_d4 (by show 2 ≤ 1000; decide) (mem2 (Th.ups f_d2 x_d2 (by rw [List.length_replicate]; decide) (memR (Th.int 0 0))) (Th.ups f_d3 x_d3 (by show 1 ≤ 1000; decide) (mem1 (Th.int 1 0)))))
    have t_e4 : Th g _ 2 (.ref e4) := (Th.ups f_e4 x_e4 (by show 2 ≤ 1000; decide) (mem2 (Th.ups f_e2 x_e2 (by rw [List.length_replicate]; decide) (memR (Th.int 0 0))) (Th.ups f_e3 x_e3 (by show 1 ≤ 1000; decide) (mem1 (Th.int 1 0)))))
    have t_f2 : Th g _ 2 (.ref f2) := (Th.ups f_f2 x_f2 (by show 1 ≤ 1000; decide) (mem1 (Th.ups f_f1 x_f1 (by show 1 ≤ 1000; decide) (mem1 (Th.int 1 0)))))
    have t_g3 : Th g _ 2 (.ref g3) := Th.lst f_g3 x_g3 2
    have t_h3 : Th g _ 2 (.ref h3) := (Th.ups f_h3 x_h3 (by show 2 ≤ 1000; decide) (mem2 (Th.lst f_h1 x_h1 1) (Th.ups f_h2 x_h2 (by show 1 ≤ 1000; decide) (mem1 (Th.int 1 0)))))
    have t_i1 : Th g _ 2 (.ref i1) := (Th.ups f_i1 x_i1 (by show 0 ≤ 1000; decide) mem0)
    have t_j4 : Th g _ 2 (.ref j4) := (Th.ups f_j4 x_j4 (by show 3 ≤ 1000; decide) (mem3 (Th.ups f_j1 x_j1 (by show 0 ≤ 1000; decide) mem0) (Th.ups f_j2 x_j2 (by show 1 ≤ 1000; decide) (mem1 (Th.int 1 0))) (Th.ups f_j3 x_j3 (by show 0 ≤ 1000; decide) mem0)))
    have t_k1 : Th g _ 2 (.ref k1) := Th.dct f_k1 x_k1 2
    refine ⟨la, lb, _, _, rfl, rfl, f_la, upd_same, by show 12 ≤ sizeLine; decide, fun lo nlo => ?_⟩
    have s_lo := same_new (o := .lst ([V.ref a3, V.ref b3, V.ref c3, V.ref d4, V.ref e4, V.ref f2, V.ref g3] ++ [V.ref h3, V.non, V.ref i1, V.ref j4, V.ref k1])) nlo
    have P5 := P_lb.trans s_lo
    have hh5 := hh3.same P5
    have log := (hand_new (hh3.same P_lb) nlo).1
    have tos := ths12 (t_a3.same s_lo) (t_b3.same s_lo) (t_c3.same s_lo) (t_d4.same s_lo) (t_e4.same s_lo) (t_f2.same s_lo) (t_g3.same s_lo) (t_h3.same s_lo) (.flat (v := .non) trivial 2) (t_i1.same s_lo) (t_j4.same s_lo) (t_k1.same s_lo)
    have hlo := upd_at s_lo
    dsimp only [gName, tSeq]
    have b05 := b03.trans (P5.but g)
    obtain ⟨n, rfl⟩ : ∃ n : Nat, at_ = (n : Int) := ⟨at_.toNat, by omega⟩
    obtain ⟨ys0, hg0⟩ := hh.lst
    have tvg : tv ≠ g := ne_of htv hg0 (fun z => nomatch z)
    have txs : ∀ x ∈ xs, Th g H 2 x := fun x hx => by
      obtain ⟨p, hp1, hp2⟩ := paired_mem1 hpv hx
      exact Th.op ⟨ys0, hg0⟩ hp2 (hRo p hp1)
    have join : ∀ {H' : Hp} {p : Addr} {o : V}, But g H H' → Hand g c H' → Th g H' 2 o → H' p = some (.tup ((xs.take n ++ [o]) ++ xs.drop (n + 1))) → Th g H' 3 (.ref p) := by
      intro H' p o b h' to hp
      obtain ⟨zs, hg'⟩ := h'.lst
      refine Th.ups hp (ne_of hp hg' (fun z => nomatch z)) ?_ fun x hx => ?_
      · rw [List.length_append, List.length_append, List.length_take, List.length_drop]
        simp only [List.length_cons, List.length_nil]
        omega
      · rcases List.mem_append.mp hx with hx | hx
        · rcases List.mem_append.mp hx with hx | hx
          · exact (txs x (List.mem_of_mem_take hx)).but b
          · rw [List.mem_singleton.mp hx]; exact to
        · exact (txs x (List.mem_of_mem_drop hx)).but b
    refine ⟨_, rfl, _, rfl, (n : Int), rfl, slice_upto (b05 _ _ tvg htv) fun HAu pAu sAu hpAu => ?_⟩
    refine ⟨_, rfl, _, rfl, g, c, 12, rfl, by decide, by decide, hh5.same sAu, fun HBu ku bBu hhBu k0u k1u => ?_⟩
    obtain ⟨iu, rfl⟩ : ∃ i : Nat, ku = (i : Int) := ⟨ku.toNat, by omega⟩
    obtain ⟨ou, hou, tou⟩ := tos iu (by omega)
    have bABu : But g _ HBu := (But.refl _ _).trans ((sAu.but g).trans bBu)
    have tou := tou.but bABu
    have hlou := bABu _ _ log hlo
    refine ⟨lo, _, _, _, rfl, rfl, .of hlou, atI_nat hou, by show 1 ≤ sizeLine; decide, fun ptu ntu => ?_⟩
    have stu := same_new (o := .tup [ou]) ntu
    have bHu := b05.trans bABu
    obtain ⟨zsAu, hgAu⟩ := (hh5.same sAu).lst
    have hpAu := bBu _ _ (ne_of hpAu hgAu (fun z => nomatch z)) hpAu
    refine cat_of (stu _ _ hpAu) upd_same (by rw [List.length_take]; show _ + 1 ≤ 10000; omega) fun HCu pCu sCu hpCu => ?_
    have bCu := (bHu.trans (stu.but g)).trans (sCu.but g)
    refine ⟨_, rfl, _, rfl, _, _, rfl, rfl, ((n + 1 : Nat) : Int), rfl, ?_⟩
    dsimp only [tNoPart]
    refine slice_from (bCu _ _ tvg htv) fun HDu pDu sDu hpDu => ?_
    refine cat_of (sDu _ _ hpCu) hpDu (by rw [List.length_append, List.length_take, List.length_drop]; show _ + 1 + _ ≤ 10000; omega) fun HEu pEu sEu hpEu => ?_
    have sBEu := ((stu.trans sCu).trans sDu).trans sEu
    have bEu := bHu.trans (sBEu.but g)
    have hhEu := hhBu.same sBEu
    have tEu := join bEu hhEu (tou.same sBEu) hpEu
    have b5E : But g _ HEu := bABu.trans (sBEu.but g)
    refine ⟨_, rfl, _, rfl, (n : Int), rfl, slice_upto (bEu _ _ tvg htv) fun HAv pAv sAv hpAv => ?_⟩
    refine ⟨_, rfl, _, rfl, g, c, 12, rfl, by decide, by decide, hhEu.same sAv, fun HBv kv bBv hhBv k0v k1v => ?_⟩
    obtain ⟨iv, rfl⟩ : ∃ i : Nat, kv = (i : Int) := ⟨kv.toNat, by omega⟩
    obtain ⟨ov, hov, tov⟩ := tos iv (by omega)
    have bABv : But g _ HBv := (b5E).trans ((sAv.but g).trans bBv)
    have tov := tov.but bABv
    have hlov := bABv _ _ log hlo
    refine ⟨lo, _, _, _, rfl, rfl, .of hlov, atI_nat hov, by show 1 ≤ sizeLine; decide, fun ptv ntv => ?_⟩
    have stv := same_new (o := .tup [ov]) ntv
    have bHv := b05.trans bABv
    obtain ⟨zsAv, hgAv⟩ := (hhEu.same sAv).lst
    have hpAv := bBv _ _ (ne_of hpAv hgAv (fun z => nomatch z)) hpAv
    refine cat_of (stv _ _ hpAv) upd_same (by rw [List.length_take]; show _ + 1 ≤ 10000; omega) fun HCv pCv sCv hpCv => ?_
    have bCv := (bHv.trans (stv.but g)).trans (sCv.but g)
    refine ⟨_, rfl, _, rfl, _, _, rfl, rfl, ((n + 1 : Nat) : Int), rfl, ?_⟩
    dsimp only [tNoPart]
    refine slice_from (bCv _ _ tvg htv) fun HDv pDv sDv hpDv => ?_
    refine cat_of (sDv _ _ hpCv) hpDv (by rw [List.length_append, List.length_take, List.length_drop]; show _ + 1 + _ ≤ 10000; omega) fun HEv pEv sEv hpEv => ?_
    have sBEv := ((stv.trans sCv).trans sDv).trans sEv
    have bEv := bHv.trans (sBEv.but g)
    have hhEv := hhBv.same sBEv
    have tEv := join bEv hhEv (tov.same sBEv) hpEv
    have bEE : But g HEu HEv := ((sAv.but g).trans bBv).trans (sBEv.but g)
    have tEu2 := tEu.but bEE
    refine ⟨by show 2 ≤ sizeLine; decide, fun l5 nl5 => ?_⟩
    have s_l5 := same_new (o := .lst [V.ref pEu, V.ref pEv]) nl5
    dsimp only [gName, tSeq]
    have b6 := bEv.trans (s_l5.but g)
    have hh6 := hhEv.same s_l5
    refine ⟨_, rfl, _, rfl, tv, _, rfl, .inr (.of (b6 _ _ tvg htv)), fun y1 ny1 => ?_⟩
    have s_y1 := same_new (o := .lst xs) ny1
    have b7 := b6.trans (s_y1.but g)
    refine ⟨_, rfl, ((1 : Nat) : Int), rfl, ?_⟩
    dsimp only [tNoPart]
    refine slice_from (b7 _ _ tvg htv) fun HF y2 s_y2 hy2 => ?_
    refine ⟨_, rfl, by show 0 ≤ sizeLine; decide, fun m1 nm1 => ⟨by show 1 ≤ sizeLine; decide, fun m2 nm2 => ⟨by show 2 ≤ sizeLine; decide, fun m3 nm3 => ⟨by show 1 ≤ sizeLine; decide, fun m4 nm4 => ?_⟩⟩⟩⟩
    have s_m1 := same_new (o := .tup []) nm1
    have s_m2 := same_new (o := .tup [V.int 1]) nm2
    have s_m3 := same_new (o := .tup [V.ref m1, V.ref m2]) nm3
    have s_m4 := same_new (o := .tup [V.ref m3]) nm4
    have s_m := ((s_m1.trans s_m2).trans s_m3).trans s_m4
    have b8 := (b7.trans (s_y2.but g)).trans (s_m.but g)
    refine cat_of (b8 _ _ tvg htv) upd_same (by show _ + 1 ≤ 10000; omega) fun HG y3 s_y3 hy3 => ?_
    refine ⟨by show 0 ≤ sizeLine; decide, fun r1 nr1 => ⟨by show 1 ≤ sizeLine; decide, fun r2 nr2 => ⟨by show 2 ≤ sizeLine; decide, fun r3 nr3 => ⟨by show 1 ≤ sizeLine; decide, fun r4 nr4 => ?_⟩⟩⟩⟩
    have s_r1 := same_new (o := .tup []) nr1
    have s_r2 := same_new (o := .tup [V.int 1]) nr2
    have s_r3 := same_new (o := .tup [V.ref r1, V.ref r2]) nr3
    have s_r4 := same_new (o := .tup [V.ref r3]) nr4
    dsimp only [tC]
    refine rep_ofI (n := 24) rfl upd_same (by decide) fun HI y4 s_y4 hy4 => ?_
    refine ⟨by show 6 ≤ sizeLine; decide, fun l6 nl6 => ?_⟩
    have s_l6 := same_new (o := .lst [V.ref y1, V.ref y2, V.ref y3, V.ref y4, V.non, V.str "right"]) nl6
    have s_r := (((s_r1.trans s_r2).trans s_r3).trans s_r4).trans s_y4
    have s_2 := (((s_y2.trans s_m).trans s_y3).trans s_r).trans s_l6
    have s_1 := s_y1.trans s_2
    refine ⟨l5, l6, _, _, rfl, rfl, s_1 _ _ upd_same, upd_same, by show 8 ≤ sizeLine; decide, fun l7 nl7 => ?_⟩
    have s_l7 := same_new (o := .lst ([V.ref pEu, V.ref pEv] ++ [V.ref y1, V.ref y2, V.ref y3, V.ref y4, V.non, V.str "right"])) nl7
    have s_z := s_1.trans s_l7
    have hhZ := hh6.same s_z
    have b9 := b6.trans (s_z.but g)
    have l7g := (hand_new (hh6.same s_1) nl7).1
    dsimp only [gName, tSeq]
    refine ⟨_, rfl, _, rfl, g, c, 8, rfl, by decide, by decide, hhZ, fun HZ kz bZ hhz kz0 kz1 => ?_⟩
    obtain ⟨jz, rfl⟩ : ∃ j : Nat, kz = (j : Int) := ⟨kz.toNat, by omega⟩
    have hl7 := bZ _ _ l7g upd_same
    have bF := b9.trans bZ
    have txF : ∀ x ∈ xs, Th g HZ 2 x := fun x hx => (txs x hx).but bF
    obtain ⟨zsZ, hgZ⟩ := hhz.lst
    obtain ⟨zsY, hgY⟩ := hhZ.lst
    have y1g := (hand_new hh6 ny1).1
    have fy1 := bZ _ _ y1g (s_l7 _ _ (s_2 _ _ upd_same))
    have keepT := keepTup bZ hgY
    have s_2b := ((s_m.trans s_y3).trans s_r).trans (s_l6.trans s_l7)
    have fy2 := keepT _ _ (s_2b _ _ hy2)
    have fy3 := keepT _ _ (s_l7 _ _ (s_l6 _ _ (s_r _ _ hy3)))
    have fy4 := keepT _ _ (s_l7 _ _ (s_l6 _ _ hy4))
    have s_3b := (s_y3.trans s_r).trans (s_l6.trans s_l7)
    have fm1 := keepT _ _ (s_3b _ _ (s_m4 _ _ (s_m3 _ _ (s_m2 _ _ upd_same))))
    have fm2 := keepT _ _ (s_3b _ _ (s_m4 _ _ (s_m3 _ _ upd_same)))
    have fm3 := keepT _ _ (s_3b _ _ (s_m4 _ _ upd_same))
    have s_4b := s_y4.trans (s_l6.trans s_l7)
    have fr1 := keepT _ _ (s_4b _ _ (s_r4 _ _ (s_r3 _ _ (s_r2 _ _ upd_same))))
    have fr2 := keepT _ _ (s_4b _ _ (s_r4 _ _ (s_r3 _ _ upd_same)))
    have fr3 := keepT _ _ (s_4b _ _ (s_r4 _ _ upd_same))
    have nz : ∀ {a : Addr} {o : List V}, HZ a = some (.tup o) → a ≠ g := fun h => ne_of h hgZ (fun z => nomatch z)
    have tm3 : Th g HZ 2 (.ref m3) := Th.ups fm3 (nz fm3) (by show 2 ≤ 1000; decide) (mem2 (Th.ups fm1 (nz fm1) (by show 0 ≤ 1000; decide) mem0) (Th.ups fm2 (nz fm2) (by show 1 ≤ 1000; decide) (mem1 (Th.int 1 0))))
    have tr3 : Th g HZ 2 (.ref r3) := Th.ups fr3 (nz fr3) (by show 2 ≤ 1000; decide) (mem2 (Th.ups fr1 (nz fr1) (by show 0 ≤ 1000; decide) mem0) (Th.ups fr2 (nz fr2) (by show 1 ≤ 1000; decide) (mem1 (Th.int 1 0))))
    have fin : ∃ x, ([V.ref pEu, V.ref pEv] ++ [V.ref y1, V.ref y2, V.ref y3, V.ref y4, V.non, V.str "right"])[jz]? = some x ∧ Th g HZ 3 x := by
      match jz, kz1 with
      | 0, _ => exact ⟨_, rfl, ((tEu2.same s_l5).same s_z).but bZ⟩
      | 1, _ => exact ⟨_, rfl, ((tEv.same s_l5).same s_z).but bZ⟩
      | 2, _ => exact ⟨_, rfl, Th.lst fy1 y1g 3⟩
      | 3, _ => exact ⟨_, rfl, Th.ups fy2 (nz fy2) (by rw [List.length_drop]; omega) fun x hx => txF x (List.mem_of_mem_drop hx)⟩
      | 4, _ => exact ⟨_, rfl, Th.ups fy3 (nz fy3) (by rw [List.length_append]; show _ + 1 ≤ 1000; omega) fun x hx => by
          rcases List.mem_append.mp hx with hx | hx
          · exact txF x hx
          · rw [List.mem_singleton.mp hx]; exact tm3⟩
      | 5, _ => exact ⟨_, rfl, Th.ups fy4 (nz fy4) (by rw [List.length_replicate]; decide) (memR tr3)⟩
      | 6, _ => exact ⟨_, rfl, .flat (v := .non) trivial 3⟩
      | 7, _ => exact ⟨_, rfl, .flat (v := .str "right") trivial 3⟩
      | n + 8, h => omega
    obtain ⟨x, hx, tx⟩ := fin
    exact ⟨l7, _, _, _, rfl, rfl, .of hl7, atI_nat hx, q HZ x bF hhz tx⟩
end
end S4

/-! calls of what an expression tells; == of the same objects -/
namespace EE
open PySem PySem.Spec PyProof.Rows L2
section
variable {X : Cx} {CX : CXT} {k : Nat} {S : Addr → Option Sp} {E : L2.St → XK} {pos : Pos} {e fe : Expr} {es : List Expr} {tf : TE} {t : TA}
theorem pe_callF (hf : PE X fe tf) (A : ∀ f sp, S f = some sp → HeldS X CX k f sp) (hr : Room k X.A) (hx : ∀ σ, PassesAt CX X σ (E σ)) (ha : PA X (e :: es) t)
    (ht : eval (.Call fe (e :: es) [] pos) X.env = (do callWith pos (← eval fe X.env) [] (backTo pos (starEach (e :: es) X.env)) (backToKw pos (keywordEach [] X.env))) := by rfl)
    (he : starEach (e :: es) X.env = (false, eval e X.env) :: starEach es X.env := by rfl) (hpl : (backTo pos (starEach es X.env)).any (·.1) = false := by rfl) : PE X (.Call fe (e :: es) [] pos) (tCallF S E tf t) := by
  refine ⟨fun pins s σ H Q I h => ?_⟩
  refine Call_ (thn (hf.run pins s σ H _ I h) fun u s1 ⟨y, H1, I1, ry, f, sp, ey, hS, q⟩ => ?_) ht
  subst ey
  obtain rfl : u = Value.ref f := ry
  obtain ⟨fd, ps, F, hk, hb⟩ := (A f sp hS).ex
  refine PySem.W.callWith_K (h₀ := X.base) I.ok.mod.kin hk (thn (ha.run pos pins s1 σ H1 _ I1 q) fun us s2 ⟨vs, H2, I2, r, q2⟩ => ⟨I2.kIn, ?_⟩) he hpl
  exact run_fnS F hr hb (hx σ) I2 r q2
end
def DSame : Eqv := fun x y _ => ∃ a, x = .ref a ∧ y = .ref a
theorem mon_same : Mon DSame := fun _ _ _ _ _ d => d
theorem eqG_same {X : Cx} : EqG X 0 DSame := by
  intro A pins s σ H x y u v sb I rx ry d
  obtain ⟨a, rfl, rfl⟩ := d
  cases rx
  cases ry
  exact SeqAt.EqAt.same (A := A) (s := s) (.ref a) X.prog X.w X.xe _ ⟨rfl, H, I, Ext.rfl'⟩
theorem op_eqSame {X : Cx} (hr : Room 1 X.A) : OpR X (compareOp .Eq) (rEqG (DTup X.K DSame)) := op_eqG (rcG_tup mon_same eqG_same) hr
theorem XfC.of {K : PySem.W.Frag} {C : Addr} (e : ExcC K C) : XfC K C := ⟨e.hg, e.hk, e.hs, e.hd⟩
end EE

namespace S4
open PySem L2 TT EE
section
variable {P : Program} {w : World} {K : PySem.W.Frag} {mg : Str → Option Value} {base : Heap} {cT cS : Addr}
theorem EX.ex {x : Str} {C : Addr} (e : EX K mg x C) {A : Addr} {b : Bool} (h : PySem.W.subIn K (.ref A) (.ref C) = some b) : PySem.W.exmOne K (.ref A) (.ref C) = some b := PySem.W.exm_ref e.ec.hs e.ec.hd e.ty h
theorem partV_ref {H : Hp} {r l : V} (h1 : rightB H r = true) (h2 : leftB H r l = true) : (∃ a, r = .ref a) ∧ ∃ b, l = .ref b := by
  constructor
  · unfold rightB at h1
    cases e : tupOf H r with
    | none => rw [e] at h1; cases h1
    | some xs => obtain ⟨a, rfl, _⟩ := tupOf_some e; exact ⟨a, rfl⟩
  · unfold leftB at h2
    cases e : tupOf H l with
    | none => rw [e] at h2; cases h2
    | some xs => obtain ⟨a, rfl, _⟩ := tupOf_some e; exact ⟨a, rfl⟩
def tbTried (K : PySem.W.Frag) (mg : Str → Option Value) (W : WX) : TS := tSeq (tAsg (tMakeS (cTim mg) (spInitTiming mg) (WE W) (tCons (tVar 0) (tCons (tVar 1) tNil))) (gName 3))
  (tAsg (tIf (tTest (tOp (rEqG (DTup K DSame)) (tTup (tCons (tFld K (tVar 3) "right") (tCons (tFld K (tVar 3) "left") tNil))) (tTup (tCons (tVar 0) (tCons (tVar 1) tNil))))) (tC .non) (tC (.str "unlike"))) (gName 2))
def tsTried (K : PySem.W.Frag) (mg : Str → Option Value) (a : Addr) (cls : Value) (d : Option Addr) : TS := tAsg (tIf (tB (tCB (rIsG K cls d a) (tCons (tVar 4) (tCons (tC (.ref (adr mg "TollError"))) tNil)))) (tXf a cls d (cBad mg) "part" (tVar 4)) (tVar 2)) (gName 2)
theorem ok_tried (T : Tx K mg cT cS) {f : Addr} {fd : FuncData} (d : D K mg "_law_tried" s_law_tried ["right", "left"] f fd) : FnOk P w K mg base CX0 8 f fd ["right", "left"] spDue := by
  obtain ⟨fT, fdT, kT⟩ := T.k_Timing
  have GT : FnOk P w K mg base (L2.CX P w) 6 fT fdT ["self", "right", "left"] (spInitTiming mg) := ok_Timing T kT
  have nR : NoAttr K (cTim mg) "right" := kT.na _ (by simp)
  have nL : NoAttr K (cTim mg) "left" := kT.na _ (by simp)
  obtain ⟨fB, fdB, eB⟩ := T.n_BadTiming
  refine d.F.ok sc_law_tried (fun vs H Q E h => ?_) (fun cdv A outer s H vs Q E hr h => ?_)
  · obtain ⟨g, r, l, rfl, _⟩ := h
    rfl
  · obtain ⟨g, r, l, rfl, tr, tl, q⟩ := h
    refine ⟨_, pss_cons (ps_set (i := 2) sc_law_tried.nd rfl (.inl rfl) pe_str)
      (pss_cons (ps_try_as (i := 4) (tb := tbTried K mg) (ts := tsTried K mg) (Wout := fun _ _ _ _ => False) rfl rfl sc_law_tried.nd rfl rfl ⟨rfl, by decide, .inl T.e_BadTiming.m⟩ takes0
          (fun W pn xe tk _ => pss_cons (ps_set (i := 3) sc_law_tried.nd rfl (.inl rfl) (pe_makeS kT.mkf GT hr rfl kT.m kT.b (fun σ => passAt tk σ) (pa_cons (pv 0) (pa_cons (pv 1) pa_nil))))
            (pss_one (ps_set (i := 2) sc_law_tried.nd rfl (.inl rfl) (pe_ifExp (pt_cmpR (op_eqSame (hr.mono (j := 1) (by decide))) (pe_tup (pa_cons (pe_fld (pv 3) rfl) (pa_cons (pe_fld (pv 3) rfl) pa_nil))) (pe_tup (pa_cons (pv 0) (pa_cons (pv 1) pa_nil))) (nomark _)) pe_non pe_str))))
          (fun a oe cls dd pn hz hf => pss_one (ps_set (i := 2) sc_law_tried.nd rfl (.inl rfl) (pe_ifExp (pt_val (pe_callB (call_isG hz hf) (by rfl) T.b_isinstance (by decide +kernel) (pa_cons (pv 4) (pa_cons (pe_glob (v := .ref (adr mg "TollError")) rfl T.e_TollError.m rfl) pa_nil))))
            (pe_xf (XfC.of T.e_BadTiming.ec) (eB.no "part" (by simp)) hz hf (pv 4)) (pv 2)))))
      (pss_one (ps_ret (pv 2)))), ?_⟩
    dsimp only [gName, tSeq]
    refine ⟨_, rfl, _, rfl, fun x dx nx ndx ne => ?_⟩
    have s1 := made_same (C := cTim mg) (fs := []) nx ndx ne
    have bad : ∀ {y : Str} {H' : Hp} {dd : Addr}, Same (upd (upd H dx (.own x)) x (.ins (cTim mg) dx [])) H' → H' dd = some (.xd [("part", .str y)]) → partV H r l = .str y →
        WE (wAs K (.ref (cBad mg)) 4 (tsTried K mg) (fun _ _ _ _ => False) { nx := tRet (tVar 2) { nx := fun x H' => Q .non H', rt := Q }, rt := Q })
          ((start N_law_tried [r, l]).set 2 (some (.str "other"))) (.ref (cBad mg)) (some dd) H' := by
      intro y H' dd s' hdd hp
      refine ⟨true, T.e_BadTiming.ex T.u_BadTiming_BadTiming, fun _ a ha => ?_, fun z => nomatch z⟩
      refine ⟨_, rfl, cBad mg, _, _, true, rfl, rfl, T.e_BadTiming.ec, .inr ⟨dd, _, rfl, hdd⟩, ref_cls, kit_sub T.e_TollError.ec.hd T.e_TollError.ty T.u_TollError_TollError T.u_BadTiming_TollError, _, rfl, ?_⟩
      refine iteT ⟨_, rfl, rfl, rfl, dd, _, _, rfl, hdd, rfl, ?_⟩
      dsimp only [gName, tSeq]
      rw [hp] at q
      exact ⟨_, rfl, q _ (s1.trans s')⟩
    have e1 : rightB (upd (upd H dx (.own x)) x (.ins (cTim mg) dx [])) r = rightB H r := rightB_but (s1.but g) tr
    have e2 : leftB (upd (upd H dx (.own x)) x (.ins (cTim mg) dx [])) r l = leftB H r l := leftB_but (s1.but g) tl tr
    refine ⟨g, x, dx, r, l, rfl, upd_same, tr.same s1, tl.same s1, fun h1 h2 H' k hi => ⟨rfl, ?_⟩, fun h1 H' dd s' _ hdd => bad s' hdd (partV_r (e1.symm.trans h1)), fun h1 h2 H' dd s' _ hdd => bad s' hdd (partV_l (e1.symm.trans h1) (e2.symm.trans h2))⟩
    obtain ⟨⟨a, rfl⟩, ⟨b, rfl⟩⟩ := partV_ref h1 h2
    have s2 : Same H H' := fun c o e => k c o (ne_of_none e nx) (s1 c o e)
    dsimp only [gName, tSeq]
    refine ⟨_, rfl, x, _, dx, _, _, rfl, hi, kT.cl, nR, tim_right_fld _ _, _, rfl, x, _, dx, _, _, rfl, hi, kT.cl, nL, tim_left_fld _ _, by show 2 ≤ sizeLine; decide, fun p1 n1 => ⟨_, rfl, _, rfl, by show 2 ≤ sizeLine; decide, fun p2 n2 => ?_⟩⟩
    have s3 := same_new (o := .tup [V.ref a, V.ref b]) n1
    have s4 := same_new (o := .tup [V.ref a, V.ref b]) n2
    refine ⟨⟨p1, p2, [.ref a, .ref b], [.ref a, .ref b], rfl, rfl, .of (s4 _ _ upd_same), .of upd_same, .cons ⟨a, rfl, rfl⟩ (.cons ⟨b, rfl, rfl⟩ .nil)⟩, fun H5 x5 => ⟨_, rfl, iteT ?_⟩⟩
    dsimp only [gName, tSeq]
    rw [partV_n (e1.symm.trans h1) (e2.symm.trans h2)] at q
    exact ⟨_, rfl, q _ ((s2.trans (s3.trans s4)).trans x5)⟩
end
end S4

namespace S4
open PySem L2 TT EE
def wordS (nb tk : Bool) : Str := if nb = true then (if tk = true then "let" else "tick") else "way"
theorem wordS_way (tk : Bool) : wordS false tk = "way" := rfl
def sPl (mg : Str → Option Value) : Sp := spAt mg fun _ v p k => v = .int (plcL p k.toNat)
def sCa (mg : Str → Option Value) : Sp := spAt mg fun _ v p k => v = .int (carL p k.toNat)
noncomputable def selS (mg : Str → Option Value) (fP : Addr) : Addr → Option Sp := fun f => if f = fP then some (sPl mg) else if f = adr mg "carried" then some (sCa mg) else none
section
variable {P : Program} {w : World} {K : PySem.W.Frag} {mg : Str → Option Value} {base : Heap} {cT cS : Addr}
def tbWord (K : PySem.W.Frag) (mg : Str → Option Value) (fP fC : Addr) (W : WX) : TS := tDrop (tCallF (selS mg fP) (WE W) (tOp (rIxL K) (tLst (tCons (tC (.ref fP)) (tCons (tC (.ref fC)) tNil))) (tVar 0)) (tCons (tVar 1) (tCons (tVar 2) (tCons (tVar 3) tNil))))
def tIsE (K : PySem.W.Frag) (a : Addr) (cls : Value) (d : Option Addr) (i : Nat) (v : V) : TE := tCB (rIsG K cls d a) (tCons (tVar i) (tCons (tC v) tNil))
def tsWord (K : PySem.W.Frag) (mg : Str → Option Value) (a : Addr) (cls : Value) (d : Option Addr) : TS :=
  tSeq (tAsg (tLst (tCons (tIsE K a cls d 5 (.ref (cWay mg))) (tCons (tIsE K a cls d 5 (.ref (cTick mg))) tNil))) (gName 6))
    (tAsg (tIf (tAnd (tTest (tOp rEq (tBM K "list" (rCntF K) (tVar 6) (tCons (tC (.bl true)) tNil)) (tC (.int 1)))) (tB (tIsE K a cls d 5 (.ty "ValueError"))))
      (tOp (rIxL K) (tLst (tCons (tC (.str "way")) (tCons (tC (.str "tick")) tNil))) (tBM K "list" (rIndex K) (tVar 6) (tCons (tC (.bl true)) tNil))) (tC (.str "odd"))) (gName 4))
def spWord (mg : Str → Option Value) : Sp := fun vs H Q _ => ∃ (g : Addr) (n : Nat) (u way tick : V) (R L : List Op), vs = [.int (n : Int), u, way, tick] ∧ n < 2 ∧ rTim mg H u R L ∧ TimOk R L ∧ Th g H 1 way ∧ Th g H 0 tick ∧
  ∀ H', Same H H' → Q (.str (wordS (nbB H ((R.length : Int) + 1) way) (below tick 1000000001))) H'
theorem ok_word (T : Tx K mg cT cS) {f : Addr} {fd : FuncData} (d : D K mg "_law_word" s_law_word ["which", "timing", "way", "tick"] f fd) : FnOk P w K mg base CX0 6 f fd ["which", "timing", "way", "tick"] (spWord mg) := by
  obtain ⟨f1, fd1, d1⟩ := T.d_places
  have G1 : FnOk P w K mg base (L2.CX P w) 5 f1 fd1 ["timing", "way", "tick"] (sPl mg) := ok_places T d1
  obtain ⟨f2, fd2, d2⟩ := T.d_carried
  have G2 : FnOk P w K mg base (L2.CX P w) 5 f2 fd2 ["timing", "way", "tick"] (sCa mg) := ok_carried T d2
  have ea2 : adr mg "carried" = f2 := adr_of d2.m
  refine d.F.ok sc_law_word (fun vs H Q E h => ?_) (fun cdv A outer s H vs Q E hr h => ?_)
  · obtain ⟨g, n, u, way, tick, R, L, rfl, _⟩ := h
    rfl
  · obtain ⟨g, n, u, way, tick, R, L, rfl, hn, hu, ok, tw, tt, q⟩ := h
    refine ⟨_, pss_cons (ps_set (i := 4) sc_law_word.nd rfl (.inl rfl) pe_str)
      (pss_cons (ps_try_as (i := 5) (tb := tbWord K mg f1 f2) (ts := tsWord K mg) (Wout := fun _ _ _ _ => False) rfl rfl sc_law_word.nd rfl rfl ⟨rfl, by decide, .inl T.e_TollError.m⟩ takes0
          (fun W pn xe tk _ => pss_one (ps_expr (pe_callF (pe_ix ix_list (pe_lst (pa_cons (pe_glob (v := .ref f1) rfl d1.m rfl) (pa_cons (pe_glob (v := .ref f2) rfl d2.m rfl) pa_nil))) (pv 0) (fun _ _ => rfl))
            (fun f' sp hS => by
              unfold selS at hS
              by_cases e1 : f' = f1
              · rw [if_pos e1] at hS
                cases hS
                subst e1
                exact ⟨_, _, G1, d1.F.kp, d1.b⟩
              · rw [if_neg e1, ea2] at hS
                by_cases e2 : f' = f2
                · rw [if_pos e2] at hS
                  cases hS
                  subst e2
                  exact ⟨_, _, G2, d2.F.kp, d2.b⟩
                · rw [if_neg e2] at hS
                  cases hS) hr (fun σ => passAt tk σ) (pa_cons (pv 1) (pa_cons (pv 2) (pa_cons (pv 3) pa_nil))))))
          (fun a oe cls dd pn hz hf => pss_cons (ps_set (i := 6) sc_law_word.nd rfl (.inl rfl) (pe_lst
                (pa_cons (pe_callB (call_isG hz hf) (by rfl) T.b_isinstance (by decide +kernel) (pa_cons (pv 5) (pa_cons (pe_glob (v := .ref (cWay mg)) rfl T.e_NoWay.m rfl) pa_nil)))
                (pa_cons (pe_callB (call_isG hz hf) (by rfl) T.b_isinstance (by decide +kernel) (pa_cons (pv 5) (pa_cons (pe_glob (v := .ref (cTick mg)) rfl T.e_NoTick.m rfl) pa_nil))) pa_nil))))
            (pss_one (ps_set (i := 4) sc_law_word.nd rfl (.inl rfl) (pe_ifExp (PW.pt (pw_and (pt_cmpR op_eq (pe_bm PySem.F.plainAttrs_list PySem.F.slot_list_count PySem.F.type_list_count mt_countF (pv 6) (pa_cons pe_bl pa_nil)) pe_int (nomark _))
                (pw_and1 (pt_val (pe_callB (call_isG hz hf) (by rfl) T.b_isinstance (by decide +kernel) (pa_cons (pv 5) (pa_cons (pe_bltn (v := .ty "ValueError") (by rfl) T.b_ValueError (by decide +kernel) (u := .type "ValueError") rfl) pa_nil)))))))
              (pe_ix ix_list (pe_lst (pa_cons pe_str (pa_cons pe_str pa_nil))) (pe_bm PySem.F.plainAttrs_list PySem.F.slot_list_index PySem.F.type_list_index mt_index (pv 6) (pa_cons pe_bl pa_nil)) (fun _ _ => rfl)) pe_str)))))
      (pss_one (ps_ret (pv 4)))), ?_⟩
    dsimp only [gName, tSeq]
    have suite : ∀ {C : Addr} {b : Bool} {H' : Hp} {σ : List (Option V)}, Same H H' → EX K mg (if b = true then "NoWay" else "NoTick") C → PySem.W.subIn K (.ref C) (.ref (adr mg "TollError")) = some true → PySem.W.subIn K (.ref C) (.ref (cWay mg)) = some b → PySem.W.subIn K (.ref C) (.ref (cTick mg)) = some (!b) → σ = (start N_law_word [.int (n : Int), u, way, tick]).set 4 (some (.str "let")) →
        wordS (nbB H ((R.length : Int) + 1) way) (below tick 1000000001) = (if b = true then "way" else "tick") →
        WE (wAs K (.ref (adr mg "TollError")) 5 (tsWord K mg) (fun _ _ _ _ => False) { nx := tRet (tVar 4) { nx := fun x H' => Q .non H', rt := Q }, rt := Q }) σ (.ref C) none H' := by
      intro C b H' σ s' eC u1 u2 u3 hσ hw
      subst hσ
      rw [hw] at q
      refine ⟨true, T.e_TollError.ex u1, fun _ a ha => ?_, fun z => nomatch z⟩
      refine ⟨_, rfl, C, _, _, b, rfl, rfl, eC.ec, .inl rfl, ref_cls, kit_sub T.e_NoWay.ec.hd T.e_NoWay.ty T.u_NoWay_NoWay u2, ?_⟩
      refine ⟨_, rfl, C, _, _, !b, rfl, rfl, eC.ec, .inl rfl, ref_cls, kit_sub T.e_NoTick.ec.hd T.e_NoTick.ty T.u_NoTick_NoTick u3, by show 2 ≤ sizeLine; decide, fun l nl => ?_⟩
      have s1 := same_new (o := .lst [V.bl b, V.bl (!b)]) nl
      dsimp only [gName, tSeq]
      refine ⟨_, rfl, .inl ⟨rfl, _, .of upd_same⟩, l, _, _, rfl, rfl, .of upd_same, rfl, rfl, ?_⟩
      refine ⟨by rfl, true, ?_, iteT ?_⟩
      · cases b <;> rfl
      refine ⟨_, rfl, C, _, _, true, rfl, rfl, eC.ec, .inl rfl, ty_cls, eC.ve, true, rfl, iteT ?_⟩
      refine ⟨by show 2 ≤ sizeLine; decide, fun l2 nl2 => ?_⟩
      have s2 := same_new (o := .lst [V.str "way", V.str "tick"]) nl2
      have hq : ∀ H'', Same H' H'' → Q (.str (Str.ofString (if b = true then "way" else "tick"))) H'' := fun H'' s'' => q H'' (s'.trans s'')
      cases b with
      | true =>
        refine ⟨_, rfl, .inl ⟨rfl, _, .of (s2 _ _ upd_same)⟩, l, _, _, 0, .bl true, rfl, rfl, .of (s2 _ _ upd_same), rfl, rfl, rfl, rfl, fun m z' hm _ => by omega, ?_⟩
        refine ⟨l2, _, _, _, rfl, rfl, .of upd_same, at_of (j := 0) rfl rfl, ?_⟩
        exact ⟨_, rfl, hq _ (s1.trans s2)⟩
      | false =>
        refine ⟨_, rfl, .inl ⟨rfl, _, .of (s2 _ _ upd_same)⟩, l, _, _, 1, .bl true, rfl, rfl, .of (s2 _ _ upd_same), rfl, rfl, rfl, rfl, fun m z' hm hz => ?_, ?_⟩
        · have : m = 0 := by omega
          subst this
          cases hz
          rfl
        · refine ⟨l2, _, _, _, rfl, rfl, .of upd_same, at_of (j := 1) rfl rfl, ?_⟩
          exact ⟨_, rfl, hq _ (s1.trans s2)⟩
    refine ⟨by show 2 ≤ sizeLine; decide, fun l nl => ?_⟩
    have s1 := same_new (o := .lst [V.ref f1, V.ref f2]) nl
    have hu1 := mono_tim s1.keep hu
    have w1 : nbB H ((R.length : Int) + 1) way = false → ∀ H', Same (upd H l (.lst [V.ref f1, V.ref f2])) H' → WE (wAs K (.ref (adr mg "TollError")) 5 (tsWord K mg) (fun _ _ _ _ => False) { nx := tRet (tVar 4) { nx := fun x H' => Q .non H', rt := Q }, rt := Q }) ((start N_law_word [.int (n : Int), u, way, tick]).set 4 (some (.str "let"))) (.ref (cWay mg)) none H' := fun e H' s' =>
      suite (b := true) (s1.trans s') T.e_NoWay T.u_NoWay_TollError T.u_NoWay_NoWay T.u_NoWay_NoTick rfl (by rw [e]; rfl)
    have w2 : nbB H ((R.length : Int) + 1) way = true → below tick 1000000001 = false → ∀ H', Same (upd H l (.lst [V.ref f1, V.ref f2])) H' → WE (wAs K (.ref (adr mg "TollError")) 5 (tsWord K mg) (fun _ _ _ _ => False) { nx := tRet (tVar 4) { nx := fun x H' => Q .non H', rt := Q }, rt := Q }) ((start N_law_word [.int (n : Int), u, way, tick]).set 4 (some (.str "let"))) (.ref (cTick mg)) none H' := fun e e2 H' s' =>
      suite (b := false) (s1.trans s') T.e_NoTick T.u_NoTick_TollError T.u_NoTick_NoWay T.u_NoTick_NoTick rfl (by rw [e, e2]; rfl)
    have e1 : nbB (upd H l (.lst [V.ref f1, V.ref f2])) ((R.length : Int) + 1) way = nbB H ((R.length : Int) + 1) way := nbB_but (s1.but g) tw
    have fin : nbB H ((R.length : Int) + 1) way = true → below tick 1000000001 = true → ∀ H', Same (upd H l (.lst [V.ref f1, V.ref f2])) H' → Q (.str "let") H' := fun e2 e3 H' s' => by
      have := q H' (s1.trans s')
      rw [e2, e3] at this
      exact this
    match n, hn with
    | 0, _ =>
      refine ⟨_, rfl, l, _, _, _, rfl, rfl, .of upd_same, at_of (j := 0) rfl rfl, f1, sPl mg, rfl, ?_, ?_⟩
      · unfold selS; rw [if_pos rfl]
      · refine ⟨_, rfl, _, rfl, _, rfl, g, u, way, tick, R, L, rfl, hu1, ok, tw.same s1, tt.same s1, fun e => w1 (e1.symm.trans e), fun e e2 => w2 (e1.symm.trans e) e2, fun a b k ew et k0 k1 en H' v s' hv => ?_⟩
        subst et
        exact ⟨_, rfl, fin (e1.symm.trans en) (decide_eq_true ⟨k0, by omega⟩) H' s'⟩
    | 1, _ =>
      by_cases e : f2 = f1
      · refine ⟨_, rfl, l, _, _, _, rfl, rfl, .of upd_same, at_of (j := 1) rfl rfl, f2, sPl mg, rfl, ?_, ?_⟩
        · unfold selS; rw [if_pos e]
        · refine ⟨_, rfl, _, rfl, _, rfl, g, u, way, tick, R, L, rfl, hu1, ok, tw.same s1, tt.same s1, fun e => w1 (e1.symm.trans e), fun e e2 => w2 (e1.symm.trans e) e2, fun a b k ew et k0 k1 en H' v s' hv => ?_⟩
          subst et
          exact ⟨_, rfl, fin (e1.symm.trans en) (decide_eq_true ⟨k0, by omega⟩) H' s'⟩
      · refine ⟨_, rfl, l, _, _, _, rfl, rfl, .of upd_same, at_of (j := 1) rfl rfl, f2, sCa mg, rfl, ?_, ?_⟩
        · unfold selS; rw [if_neg e, if_pos ea2.symm]
        · refine ⟨_, rfl, _, rfl, _, rfl, g, u, way, tick, R, L, rfl, hu1, ok, tw.same s1, tt.same s1, fun e => w1 (e1.symm.trans e), fun e e2 => w2 (e1.symm.trans e) e2, fun a b k ew et k0 k1 en H' v s' hv => ?_⟩
          subst et
          exact ⟨_, rfl, fin (e1.symm.trans en) (decide_eq_true ⟨k0, by omega⟩) H' s'⟩
end
end S4

namespace S4
open PySem L2 TT EE
/-- what a list of things tells at a drawn place -/
theorem pick_list {g : Addr} {H' : Hp} {n : Nat} {xs : List V} {k : Int} (h0 : 0 ≤ k) (h1 : k < (xs.length : Int)) (h : ∀ x ∈ xs, Th g H' n x) : ∃ x, atI xs k = some x ∧ Th g H' n x ∧ x ∈ xs := by
  obtain ⟨j, rfl⟩ : ∃ j : Nat, k = (j : Int) := ⟨k.toNat, by omega⟩
  have hj : xs[j]? = some (xs[j]'(by omega)) := List.getElem?_eq_getElem (by omega)
  exact ⟨_, atI_nat hj, h _ (List.getElem_mem _), List.getElem_mem _⟩
theorem strOk_word (a b : Bool) : PyData.strOk (wordS a b) = true := by cases a <;> cases b <;> decide +kernel
def fineB (H : Hp) (posts : Int) (v : V) : Bool := match tupOf H v with
  | some [x, y] => below x posts && below y posts
  | _ => false
theorem nbB_fine {H : Hp} {posts : Int} {v : V} : nbB H posts v = (fineB H posts v && match tupOf H v with
  | some [x, y] => nbI (intOf x) (intOf y)
  | _ => false) := by
  unfold nbB fineB
  cases e : tupOf H v with
  | none => rfl
  | some xs => rcases xs with _ | ⟨x, _ | ⟨y, _ | ⟨z, r⟩⟩⟩ <;> rfl
def rV : Rp V := fun _ v x => v = x
theorem mono_V : Mono rV := fun _ _ _ _ _ h => h
theorem paired_V : ∀ {H : Hp} {xs l : List V}, Paired (rV H) xs l → xs = l
  | _, _, _, .nil => rfl
  | _, _, _, .cons r t => by rw [show _ = _ from r, paired_V t]
section
variable {P : Program} {w : World} {K : PySem.W.Frag} {mg : Str → Option Value} {base : Heap} {cT cS : Addr}
def spRefR (mg : Str → Option Value) : Sp := fun vs H Q _ => ∃ (g c : Addr) (u : V) (R L : List Op), vs = [.ref g, u, .int (R.length : Int)] ∧ rTim mg H u R L ∧ TimOk R L ∧ Hand g c H ∧ ∀ H', But g H H' → Hand g c H' → Q (.bl true) H'
theorem ok_refused (T : Tx K mg cT cS) {f : Addr} {fd : FuncData} (d : D K mg "_law_refused_right" s_law_refused_right ["hand", "timing", "ties"] f fd) : FnOk P w K mg base CX0 7 f fd ["hand", "timing", "ties"] (spRefR mg) := by
  obtain ⟨f1, fd1, d1⟩ := T.d_law_draw
  have G1 : FnOk P w K mg base CX0 1 f1 fd1 ["hand", "many"] spDraw := ok_draw T d1
  obtain ⟨f2, fd2, d2⟩ := T.d_law_deep
  have G2 : FnOk P w K mg base CX0 2 f2 fd2 ["hand"] spDeep := ok_deep T d2
  obtain ⟨f3, fd3, d3⟩ := T.d_law_whole
  have G3 : FnOk P w K mg base CX0 1 f3 fd3 ["thing", "least", "most"] spWhole := ok_whole T d3
  obtain ⟨f4, fd4, d4⟩ := T.d_law_word
  have G4 : FnOk P w K mg base CX0 6 f4 fd4 ["which", "timing", "way", "tick"] (spWord mg) := ok_word T d4
  refine d.F.ok sc_law_refused_right (fun vs H Q E h => ?_) (fun cdv A outer s H vs Q E hr h => ?_)
  · obtain ⟨g, c, u, R, L, rfl, _⟩ := h
    rfl
  · obtain ⟨g, c, u, R, L, rfl, hu, ok, hh, q⟩ := h
    have hRl := ok.lr
    refine ⟨_, pss_cons (ps_set (i := 3) sc_law_refused_right.nd rfl (.inr rfl) (pe_ix ix_list (pe_lst (pa_cons (pe_tup (pa_cons pe_int (pa_cons pe_int pa_nil))) (pa_cons (pe_tup (pa_cons pe_int (pa_cons pe_int pa_nil))) (pa_cons (pe_tup (pa_cons pe_int (pa_cons pe_int pa_nil))) (pa_cons (pe_tup (pa_cons pe_int (pa_cons pe_int pa_nil)))
          (pa_cons (pe_lst (pa_cons pe_int (pa_cons pe_int pa_nil))) (pa_cons (pe_tup (pa_cons (pv 2) (pa_cons (pe_op op_add (pv 2) pe_int) pa_nil))) (pa_cons (pe_tup (pa_cons pe_bl (pa_cons pe_int pa_nil))) (pa_cons pe_non (pa_cons (pe_tup (pa_cons pe_int (pa_cons pe_int (pa_cons pe_int pa_nil)))) (pa_cons pe_str pa_nil)))))))))))
          (pe_call G1 (hr.mono (by decide)) rfl d1.m d1.F.kp d1.b .nil pass0 (pa_cons (pv 0) (pa_cons pe_int pa_nil))) (fun _ _ => rfl)))
      (pss_cons (ps_set (i := 4) sc_law_refused_right.nd rfl (.inr rfl) (pe_ix ix_list (pe_lst (pa_cons pe_int (pa_cons pe_int (pa_cons (pe_op op_pow pe_int pe_int) (pa_cons (pe_op op_add (pe_op op_pow pe_int pe_int) pe_int) (pa_cons (pe_un un_neg pe_int) (pa_cons pe_bl (pa_cons pe_non (pa_cons pe_str (pa_cons (pe_tup (pa_cons pe_int pa_nil)) (pa_cons (pe_call G2 (hr.mono (by decide)) rfl d2.m d2.F.kp d2.b .nil pass0 (pa_cons (pv 0) pa_nil)) pa_nil)))))))))))
          (pe_call G1 (hr.mono (by decide)) rfl d1.m d1.F.kp d1.b .nil pass0 (pa_cons (pv 0) (pa_cons pe_int pa_nil))) (fun _ _ => rfl)))
      (C8.pss_cut (ps_set (i := 5) sc_law_refused_right.nd rfl (.inl rfl) (pe_and (pe_callB call_isi (by rfl) T.b_isinstance (by decide +kernel) (pa_cons (pv 3) (pa_cons (ty_tuple T.b_tuple) pa_nil))) (pe_and (pe_cmpR op_eq (pe_callB call_len_seq (by rfl) T.b_len PySem.boot_len (pa_cons (pv 3) pa_nil)) pe_int (nomark _))
          (pe_one (pe_callB (cr_all rfl) (by rfl) T.b_all (by decide +kernel) (pa_cons
            (pe_lc (own := [("post", 7)]) (g := gName 7) (tt := tYes) rfl sc_law_refused_right.nd (pi_tup (pv 3)) (blkOk_by (N := N_law_refused_right) (sc := defScope s_law_refused_right) (by decide +kernel)) (fun _ _ _ _ _ => pg_name (i := 7) sc_law_refused_right.nd rfl (Or.inl rfl)) (fun _ _ _ _ _ => pts_nil)
              (fun _ _ _ _ _ => pe_call G3 (hr.mono (by decide)) rfl d3.m d3.F.kp d3.b .nil pass0 (pa_cons (pv 7) (pa_cons pe_int (pa_cons (pv 2) pa_nil))))) pa_nil))))))
      (pss_cons (ps_set (i := 6) sc_law_refused_right.nd rfl (.inl rfl) pe_str)
      (C8.pss_cut (ps_if (PW.pt (pw_and (pt_val (pv 5)) (pw_and1 (pt_cmpR op_eq (pe_callB call_abs (by rfl) T.b_abs (by decide +kernel) (pa_cons (pe_op op_sub (pe_ix ix_tup (pv 3) pe_int (fun _ _ => rfl)) (pe_ix ix_tup (pv 3) pe_int (fun _ _ => rfl))) pa_nil)) pe_int (nomark _)))))
          (pss_one (ps_set (i := 6) sc_law_refused_right.nd rfl (.inl rfl) (pe_ifExp (pt_val (pe_call G3 (hr.mono (by decide)) rfl d3.m d3.F.kp d3.b .nil pass0 (pa_cons (pv 4) (pa_cons pe_int (pa_cons (pe_op op_pow pe_int pe_int) pa_nil))))) pe_str pe_str))) pss_nil)
      (pss_one (ps_ret (pe_cmpR (op_eqD (hu64 hr)) (pe_lc (own := [("which", 8)]) (g := gName 8) (tt := tYes) rfl sc_law_refused_right.nd (pi_tup (pe_tup (pa_cons pe_int (pa_cons pe_int pa_nil)))) (blkOk_by (N := N_law_refused_right) (sc := defScope s_law_refused_right) (by decide +kernel)) (fun _ _ _ _ _ => pg_name (i := 8) sc_law_refused_right.nd rfl (Or.inl rfl)) (fun _ _ _ _ _ => pts_nil)
              (fun _ _ _ _ _ => pe_call G4 hr rfl d4.m d4.F.kp d4.b .nil pass0 (pa_cons (pv 8) (pa_cons (pv 1) (pa_cons (pv 3) (pa_cons (pv 4) pa_nil))))))
          (pe_lst (pa_cons (pv 6) (pa_cons (pv 6) pa_nil))) (nomark _)))))))), ?_⟩
    -- the way
    refine ⟨by show 2 ≤ sizeLine; decide, fun a1 n1 => ⟨by show 2 ≤ sizeLine; decide, fun a2 n2 => ⟨by show 2 ≤ sizeLine; decide, fun a3 n3 => ⟨by show 2 ≤ sizeLine; decide, fun a4 n4 => ⟨by show 2 ≤ sizeLine; decide, fun a5 n5 => ⟨_, rfl, _, rfl, _, _, rfl, rfl, by show 2 ≤ sizeLine; decide, fun a6 n6 => ⟨by show 2 ≤ sizeLine; decide, fun a7 n7 => ⟨by show 3 ≤ sizeLine; decide, fun a8 n8 => ⟨by show 10 ≤ sizeLine; decide, fun l nl => ?_⟩⟩⟩⟩⟩⟩⟩⟩⟩
    have s1 := same_new (o := .tup [V.int 0, V.int 1]) n1
    have s2 := same_new (o := .tup [V.int 1, V.int 0]) n2
    have s3 := same_new (o := .tup [V.int 0, V.int 2]) n3
    have s4 := same_new (o := .tup [V.int 0, V.int 0]) n4
    have s5 := same_new (o := .lst [V.int 0, V.int 1]) n5
    have s6 := same_new (o := .tup [V.int (R.length : Int), V.int ((R.length : Int) + 1)]) n6
    have s7 := same_new (o := .tup [V.bl true, V.int 0]) n7
    have s8 := same_new (o := .tup [V.int 0, V.int 1, V.int 2]) n8
    have sl := same_new (o := .lst [V.ref a1, V.ref a2, V.ref a3, V.ref a4, V.ref a5, V.ref a6, V.ref a7, V.non, V.ref a8, V.str "01"]) nl
    have z8 := sl
    have z7 := s8.trans z8
    have z6 := s7.trans z7
    have z5 := s6.trans z6
    have z4 := s5.trans z5
    have z3 := s4.trans z4
    have z2 := s3.trans z3
    have z1 := s2.trans z2
    have z0 := s1.trans z1
    have hh1 := hh.same z0
    have lg := (hand_new (hh.same (s1.trans (s2.trans (s3.trans (s4.trans (s5.trans (s6.trans (s7.trans s8)))))))) nl).1
    have x5 := (hand_new (hh.same (s1.trans (s2.trans (s3.trans s4)))) n5).1
    obtain ⟨ysg, hg⟩ := hh1.lst
    have ne : ∀ {a : Addr} {o : List V} {H' : Hp} {ys : List V}, H' a = some (.tup o) → H' g = some (.lst ys) → a ≠ g := fun h1 h2 => ne_of h1 h2 (fun z => nomatch z)
    refine ⟨_, rfl, g, c, 10, rfl, by decide, by decide, hh1, fun H2 k b2 hh2 k0 k1 => ?_⟩
    have hl2 := b2 _ _ lg upd_same
    have fx : ∀ {a : Addr} {x y : V}, _ → Flat x → Flat y → Th g H2 1 (.ref a) := fun {a x y} (h : _ = some (HO.tup [x, y])) fx fy => (Th.ups (n := 0) h (ne h hg) (by show 2 ≤ 1000; decide) (mem2 (P := Th g _ 0) (.inl fx) (.inl fy))).but b2
    have t8 : Th g H2 1 (.ref a8) := (Th.ups (n := 0) (z8 _ _ upd_same) (ne (z8 _ _ upd_same) hg) (by show 3 ≤ 1000; decide) (mem3 (P := Th g _ 0) (.inl trivial) (.inl trivial) (.inl trivial))).but b2
    have t5 : Th g H2 1 (.ref a5) := (Th.lst (z5 _ _ upd_same) x5 1).but b2
    obtain ⟨way, hway, tway, _⟩ := pick_list (g := g) (n := 1) (H' := H2) (xs := [V.ref a1, V.ref a2, V.ref a3, V.ref a4, V.ref a5, V.ref a6, V.ref a7, V.non, V.ref a8, V.str "01"]) k0 k1 (fun x hx => by
      simp only [List.mem_cons, List.not_mem_nil, or_false] at hx
      rcases hx with rfl | rfl | rfl | rfl | rfl | rfl | rfl | rfl | rfl | rfl
      · exact fx (z1 _ _ upd_same) trivial trivial
      · exact fx (z2 _ _ upd_same) trivial trivial
      · exact fx (z3 _ _ upd_same) trivial trivial
      · exact fx (z4 _ _ upd_same) trivial trivial
      · exact t5
      · exact fx (z6 _ _ upd_same) trivial trivial
      · exact fx (z7 _ _ upd_same) trivial trivial
      · exact .flat (v := .non) trivial 1
      · exact t8
      · exact .flat (v := .str "01") trivial 1)
    refine ⟨l, _, _, _, rfl, rfl, .of hl2, hway, ?_⟩
    have b02 := (z0.but g).trans b2
    clear hl2 fx t8 t5
    dsimp only [gName, tSeq]
    -- the tick
    refine ⟨_, _, rfl, rfl, ⟨by decide, by decide, by decide⟩, _, _, rfl, rfl, ⟨by decide, by decide, by decide⟩, _, _, rfl, rfl, _, rfl, by show 1 ≤ sizeLine; decide, fun a9 n9 => ?_⟩
    have s9 := same_new (o := .tup [V.int 1]) n9
    refine ⟨_, rfl, g, c, rfl, hh2.same s9, fun H3 dv b3 hh3 tdv => ⟨by show 10 ≤ sizeLine; decide, fun l2 nl2 => ?_⟩⟩
    have sl2 := same_new (o := .lst [V.int 0, V.int 1, V.int (10 ^ 9), V.int (10 ^ 9 + 1), V.int (-1), V.bl true, V.non, V.str "1", V.ref a9, dv]) nl2
    have l2g := (hand_new hh3 nl2).1
    have x9 := (hand_new hh2 n9).1
    refine ⟨_, rfl, g, c, 10, rfl, by decide, by decide, hh3.same sl2, fun H4 k' b4 hh4 k0' k1' => ?_⟩
    have hl4 := b4 _ _ l2g upd_same
    have h94 := b4 _ _ x9 (sl2 _ _ (b3 _ _ x9 upd_same))
    obtain ⟨tick, htick, ttick, _⟩ := pick_list (g := g) (n := 0) (H' := H4) (xs := [V.int 0, V.int 1, V.int (10 ^ 9), V.int (10 ^ 9 + 1), V.int (-1), V.bl true, V.non, V.str "1", V.ref a9, dv]) k0' k1' (fun x hx => by
      simp only [List.mem_cons, List.not_mem_nil, or_false] at hx
      rcases hx with rfl | rfl | rfl | rfl | rfl | rfl | rfl | rfl | rfl | rfl
      · exact .inl trivial
      · exact .inl trivial
      · exact .inl trivial
      · exact .inl trivial
      · exact .inl trivial
      · exact .inl trivial
      · exact .inl trivial
      · exact .inl trivial
      · exact Th.tup0 h94 x9 (by show 1 ≤ 1000; decide)
      · exact (tdv.same sl2).but b4)
    refine ⟨l2, _, _, _, rfl, rfl, .of hl4, htick, ?_⟩
    have b24 := (((s9.but g).trans b3).trans (sl2.but g)).trans b4
    have b04 := b02.trans b24
    have tw4 := tway.but b24
    have hu4 := mono_tim (hh.keep b04) hu
    clear hl4 h94 hway htick
    dsimp only [gName, tSeq]
    obtain ⟨t, ty, kk, _, _, _⟩ := tw4.kind K
    have hR1 : ((R.length : Int) + 1) = (R.length : Int) + 1 := rfl
    refine ⟨fun σ H' => Same H4 H' ∧ σ = [some (.ref g), some u, some (.int (R.length : Int)), some way, some tick, some (.bl (fineB H4 ((R.length : Int) + 1) way)), none, none, none], ?_, ?_⟩
    · refine ⟨_, rfl, _, _, _, _, _, rfl, .ty _, ty, kk, _, rfl, ?_⟩
      unfold isTupB fineB
      cases e : tupOf H4 way with
      | none => exact iteF ⟨.refl _, rfl⟩
      | some xs =>
        have hm := tw4.mem e
        have hl := tw4.len e
        obtain ⟨a, rfl, ha⟩ := tupOf_some e
        refine iteT ⟨_, rfl, _, _, rfl, .inr (.of ha), rfl, _, rfl, ?_⟩
        by_cases h2 : xs.length = 2
        · rw [show V.int ((xs.length : Nat) : Int) = V.int 2 by rw [h2]; rfl, decide_eq_true rfl]
          refine iteT ⟨_, rfl, a, rfl, ⟨_, .of ha⟩, fun D hD => ?_⟩
          refine lc_fm (walk_tup (xs := xs)) rBl (fun i => xs[i]?.bind fun x => some (below x ((R.length : Int) + 1))) hD (fun H' s' => .of (s'.keep.tup ha)) ?_ ?_
          · rintro i x H5 H6 hi pv ⟨rfl, hx⟩
            refine ⟨rfl, _, rfl, _, rfl, g, x, _, _, rfl, (hm x (List.mem_of_getElem? hx)).same pv.1, ?_⟩
            exact fm_keep mono_bl pv hD (by omega) (Same.refl _) (by rw [hx]; rfl) (congrArg V.bl (whole_below x _))
          · intro H5 ys s5 hD5 hp
            have := paired_bl hp
            subst this
            refine ⟨_, _, rfl, .of hD5, ?_⟩
            rw [all_fm]
            rcases xs with _ | ⟨x, _ | ⟨y, _ | ⟨z, r⟩⟩⟩
            · cases h2
            · cases h2
            · simp only [List.all_cons, List.all_nil, Bool.and_true]
              exact ⟨s5, rfl⟩
            · cases h2
        · rw [decide_eq_false (fun z => h2 (by have := V.int.inj z; omega))]
          refine iteF ?_
          rcases xs with _ | ⟨x, _ | ⟨y, _ | ⟨z, r⟩⟩⟩
          · exact ⟨.refl _, rfl⟩
          · exact ⟨.refl _, rfl⟩
          · exact absurd rfl h2
          · exact ⟨.refl _, rfl⟩
    rintro σ H5 ⟨s5, rfl⟩
    dsimp only [gName, tSeq]
    refine ⟨fun σ H' => Same H4 H' ∧ ∃ o5, σ = [some (.ref g), some u, some (.int (R.length : Int)), some way, some tick, o5, some (.str (wordS (nbB H4 ((R.length : Int) + 1) way) (below tick 1000000001))), none, none], ?_, ?_⟩
    · refine ⟨_, rfl, _, rfl, ?_⟩
      rw [nbB_fine]
      unfold fineB
      cases e : tupOf H4 way with
      | none => exact iteF ⟨s5, _, rfl⟩
      | some xs =>
        obtain ⟨a, rfl, ha⟩ := tupOf_some e
        rcases xs with _ | ⟨x, _ | ⟨y, _ | ⟨z, r⟩⟩⟩
        · exact iteF ⟨s5, _, rfl⟩
        · exact iteF ⟨s5, _, rfl⟩
        · simp only
          cases eb : below x ((R.length : Int) + 1) && below y ((R.length : Int) + 1) with
          | false => exact iteF ⟨s5, _, rfl⟩
          | true =>
            rw [Bool.and_eq_true] at eb
            obtain ⟨m, rfl, _, _⟩ := below_int eb.1
            obtain ⟨k, rfl, _, _⟩ := below_int eb.2
            refine iteT ⟨_, rfl, a, _, _, _, rfl, rfl, .of (s5 _ _ ha), at_of (j := 0) rfl rfl, _, rfl, a, _, _, _, rfl, rfl, .of (s5 _ _ ha), at_of (j := 1) rfl rfl, _, _, rfl, rfl, _, rfl, rfl, _, rfl, ?_⟩
            have : decide (V.int (if m - k < 0 then -(m - k) else m - k) = V.int 1) = nbI m k := by
              unfold nbI
              by_cases hz : (if m - k < 0 then -(m - k) else m - k) = 1
              · rw [decide_eq_true hz, decide_eq_true (by rw [hz])]
              · rw [decide_eq_false hz, decide_eq_false (fun z => hz (V.int.inj z))]
            rw [this]
            simp only [intOf, Bool.true_and]
            cases nbI m k with
            | false => exact iteF ⟨s5, _, rfl⟩
            | true =>
              refine iteT ⟨_, rfl, _, _, rfl, rfl, ⟨by decide, by decide, by decide⟩, g, tick, _, _, rfl, ttick.same s5, _, rfl, ?_⟩
              rw [whole_below]
              show if below tick 1000000001 = true then _ else _
              cases below tick 1000000001 with
              | false => exact iteF ⟨s5, _, rfl⟩
              | true => exact iteT ⟨s5, _, rfl⟩
        · exact iteF ⟨s5, _, rfl⟩
    rintro σ H6 ⟨s6, o5, rfl⟩
    refine ⟨by show 2 ≤ sizeLine; decide, fun p0 np0 => ⟨p0, rfl, ⟨_, .of upd_same⟩, fun D hD => ?_⟩⟩
    have sp0 := same_new (o := .tup [V.int 0, V.int 1]) np0
    have s46 := s6.trans sp0
    refine lc_fm (walk_tup (xs := [V.int 0, V.int 1])) rV (fun _ => some (.str (wordS (nbB H4 ((R.length : Int) + 1) way) (below tick 1000000001)))) hD (fun H' s' => .of (s' _ _ upd_same)) ?_ ?_
    · rintro i x H7 H8 hi pv ⟨rfl, hx⟩
      have s7 := s46.trans pv.1
      have hxi : ∃ n : Nat, n < 2 ∧ x = .int (n : Int) := by
        match i, hi, hx with
        | 0, _, hx => cases hx; exact ⟨0, by decide, rfl⟩
        | 1, _, hx => cases hx; exact ⟨1, by decide, rfl⟩
      obtain ⟨n, hn, rfl⟩ := hxi
      refine ⟨rfl, _, rfl, _, rfl, _, rfl, _, rfl, g, n, u, way, tick, R, L, rfl, hn, mono_tim s7.keep hu4, ok, tw4.same s7, ttick.same s7, fun H9 s9 => ?_⟩
      rw [nbB_but (s7.but g) tw4]
      exact fm_keep mono_V pv hD (by have : i < 2 := hi; omega) s9 rfl rfl
    · intro H7 ys s7 hD7 hp7
      have := paired_V hp7
      subst this
      refine ⟨_, rfl, _, rfl, by show 2 ≤ sizeLine; decide, fun l9 nl9 => ?_⟩
      have s9 := same_new (o := .lst [V.str (wordS (nbB H4 ((R.length : Int) + 1) way) (below tick 1000000001)), V.str (wordS (nbB H4 ((R.length : Int) + 1) way) (below tick 1000000001))]) nl9
      have sh : ∀ a b : Bool, SeqAt.shaped (.list [.str (wordS a b), .str (wordS a b)]) = true := fun a b => (Shp.lst (n := 0) fun x hx => by
        simp only [List.mem_cons, List.not_mem_nil, or_false] at hx
        rcases hx with rfl | rfl <;> exact .str (strOk_word a b)).ok (by decide)
      have se : ∀ z : Str, PyData.eqv (.list [.str z, .str z]) (.list [.str z, .str z]) = true := fun z => by simp [PyData.eqv, PyData.eqvAll]
      refine ⟨_, _, .lst (.of (s9 _ _ hD7)) (.cons (.str _) (.cons (.str _) .nil)), .lst (.of upd_same) (.cons (.str _) (.cons (.str _) .nil)), sh _ _, sh _ _, ?_⟩
      rw [se]
      have sz := (s46.trans s7).trans s9
      exact q _ (b04.trans (sz.but g)) (hh4.same sz)
end
end S4

namespace S4
open PySem L2 TT EE
theorem even_whole (t b : V) : (whole t 0 23 && whole b 1 8) = evenB t b := by
  unfold evenB
  rw [whole_below]
  show (below t 24 && _) = _
  congr 1
  cases b with
  | int n =>
    show decide (1 ≤ n ∧ n ≤ 8) = (decide (0 ≤ n ∧ n < 9) && decide (n ≠ 0))
    by_cases h : 1 ≤ n ∧ n ≤ 8
    · rw [decide_eq_true h, decide_eq_true (by omega), decide_eq_true (by omega)]; rfl
    · rw [decide_eq_false h]
      by_cases h2 : 0 ≤ n ∧ n < 9
      · rw [decide_eq_true h2, decide_eq_false (by omega)]; rfl
      · rw [decide_eq_false h2]; rfl
  | _ => rfl
theorem evenB_some {t b : V} (h : evenB t b = true) : ∃ (n : Nat) (k : Int), t = .int n ∧ b = .int k ∧ n ≤ 23 ∧ 0 < k ∧ k < 9 := by
  unfold evenB at h
  simp only [Bool.and_eq_true] at h
  obtain ⟨h1, h2, h3⟩ := h
  obtain ⟨m, rfl, m0, m1⟩ := below_int h1
  obtain ⟨k, rfl, k0, k1⟩ := below_int h2
  have h3 := of_decide_eq_true h3
  simp only [intOf] at h3
  exact ⟨m.toNat, k, by rw [Int.toNat_of_nonneg m0], rfl, by omega, by omega, k1⟩
theorem evL_at {n : Nat} {k : Int} {i : Nat} (h : i < n) : (evL n k).getD i ([], []) = ([], [k]) := by
  unfold evL
  rw [getD_at (List.getElem?_replicate_of_lt h)]
theorem plc_one (k : Int) {m : Nat} (h : 0 < m) : plcL ([], [k]) m = k := by
  unfold plcL
  rw [if_neg (by omega), if_neg (by show ¬ m ≤ 0; omega)]
  show [k].getD ((m - 1 - 0) % 1) 0 = k
  rw [Nat.mod_one]
  rfl
theorem car_one (k : Int) {m : Nat} (h : 0 < m) : carL ([], [k]) m = (m : Int) * k := by
  unfold carL
  rw [if_neg (by show ¬ m ≤ 0; omega)]
  show (0 : Int) + (((m - 0) / 1 : Nat) : Int) * [k].sum + ([k].take ((m - 0) % 1)).sum = _
  rw [Nat.mod_one, Nat.div_one, Nat.sub_zero]
  simp
theorem opAt_ev {n : Nat} {k : Int} {i : Nat} (h : i < n) : opAt (evL n k) (evL n k) (i : Int) ((i : Int) + 1) = ([], [k]) ∧ opAt (evL n k) (evL n k) ((i : Int) + 1) (i : Int) = ([], [k]) := by
  constructor
  · unfold opAt; rw [if_pos (by omega), Int.toNat_natCast, evL_at h]
  · unfold opAt; rw [if_neg (by omega), Int.toNat_natCast, evL_at h]
section
variable {P : Program} {w : World} {K : PySem.W.Frag} {mg : Str → Option Value} {base : Heap} {cT cS : Addr}
def tbEven (mg : Str → Option Value) (W : WX) : TS := tAsg (tCallS (spEven mg) (WE W) (tCons (tVar 1) (tCons (tVar 2) tNil))) (gName 4)
def tsEven (K : PySem.W.Frag) (mg : Str → Option Value) (a : Addr) (cls : Value) (d : Option Addr) : TS := tAsg (tIf (tAnd (tB (tIsE K a cls d 5 (.ref (adr mg "TollError")))) (tB (tIsE K a cls d 5 (.ty "ValueError")))) (tC (.str "number")) (tC (.str "odd"))) (gName 4)
def spEvR (mg : Str → Option Value) : Sp := fun vs H Q _ => ∃ (g c : Addr), vs = [.ref g] ∧ Hand g c H ∧ ∀ H', But g H H' → Hand g c H' → Q (.bl true) H'
theorem way_pair {g p : Addr} {H : Hp} {a b : Int} (hp : H p = some (.tup [.int a, .int b])) (hg : ∃ ys, H g = some (.lst ys)) : Th g H 1 (.ref p) := by
  obtain ⟨ys, hg⟩ := hg
  exact Th.ups hp (ne_of hp hg (fun z => nomatch z)) (by show 2 ≤ 1000; decide) (mem2 (Th.int a 0) (Th.int b 0))
theorem ok_evR (T : Tx K mg cT cS) {f : Addr} {fd : FuncData} (d : D K mg "_law_even_right" s_law_even_right ["hand"] f fd) : FnOk P w K mg base CX0 9 f fd ["hand"] (spEvR mg) := by
  obtain ⟨f1, fd1, d1⟩ := T.d_law_draw
  have G1 : FnOk P w K mg base CX0 1 f1 fd1 ["hand", "many"] spDraw := ok_draw T d1
  obtain ⟨f2, fd2, d2⟩ := T.d_law_is
  have G2 : FnOk P w K mg base CX0 2 f2 fd2 ["told", "due"] spIsL := ok_isL T d2
  obtain ⟨f3, fd3, d3⟩ := T.d_law_whole
  have G3 : FnOk P w K mg base CX0 1 f3 fd3 ["thing", "least", "most"] spWhole := ok_whole T d3
  obtain ⟨f4, fd4, d4⟩ := T.d_even_timing
  have G4 : FnOk P w K mg base (L2.CX P w) 8 f4 fd4 ["ties", "breadth"] (spEven mg) := ok_even T d4
  obtain ⟨f5, fd5, d5⟩ := T.d_places
  have G5 : FnOk P w K mg base (L2.CX P w) 5 f5 fd5 ["timing", "way", "tick"] (spAt mg fun _ v p k => v = .int (plcL p k.toNat)) := ok_places T d5
  obtain ⟨f6, fd6, d6⟩ := T.d_carried
  have G6 : FnOk P w K mg base (L2.CX P w) 5 f6 fd6 ["timing", "way", "tick"] (spAt mg fun _ v p k => v = .int (carL p k.toNat)) := ok_carried T d6
  obtain ⟨fT, fdT, kT⟩ := T.k_Timing
  have nR : NoAttr K (cTim mg) "right" := kT.na _ (by simp)
  have nL : NoAttr K (cTim mg) "left" := kT.na _ (by simp)
  have iT := T.i_Timing
  refine d.F.ok sc_law_even_right (fun vs H Q E h => ?_) (fun cdv A outer s H vs Q E hr h => ?_)
  · obtain ⟨g, c, rfl, _⟩ := h
    rfl
  · obtain ⟨g, c, rfl, hh, q⟩ := h
    refine ⟨_, pss_cons (ps_set (i := 1) sc_law_even_right.nd rfl (.inl rfl) (pe_ix ix_list (pe_lst (pa_cons pe_int (pa_cons pe_int (pa_cons pe_int (pa_cons pe_int (pa_cons (pe_un un_neg pe_int) (pa_cons pe_bl (pa_cons pe_non (pa_cons pe_str (pa_cons (pe_call G1 (hr.mono (by decide)) rfl d1.m d1.F.kp d1.b .nil pass0 (pa_cons (pv 0) (pa_cons pe_int pa_nil))) pa_nil))))))))))
          (pe_call G1 (hr.mono (by decide)) rfl d1.m d1.F.kp d1.b .nil pass0 (pa_cons (pv 0) (pa_cons pe_int pa_nil))) (fun _ _ => rfl)))
      (pss_cons (ps_set (i := 2) sc_law_even_right.nd rfl (.inl rfl) (pe_ix ix_list (pe_lst (pa_cons pe_int (pa_cons pe_int (pa_cons pe_int (pa_cons pe_int (pa_cons pe_bl (pa_cons pe_non (pa_cons (pe_lst (pa_cons pe_int pa_nil)) (pa_cons (pe_op op_add pe_int (pe_call G1 (hr.mono (by decide)) rfl d1.m d1.F.kp d1.b .nil pass0 (pa_cons (pv 0) (pa_cons pe_int pa_nil)))) pa_nil)))))))))
          (pe_call G1 (hr.mono (by decide)) rfl d1.m d1.F.kp d1.b .nil pass0 (pa_cons (pv 0) (pa_cons pe_int pa_nil))) (fun _ _ => rfl)))
      (C8.pss_cut (ps_set (i := 3) sc_law_even_right.nd rfl (.inl rfl) (pe_and (pe_call G3 (hr.mono (by decide)) rfl d3.m d3.F.kp d3.b .nil pass0 (pa_cons (pv 1) (pa_cons pe_int (pa_cons pe_int pa_nil)))) (pe_one (pe_call G3 (hr.mono (by decide)) rfl d3.m d3.F.kp d3.b .nil pass0 (pa_cons (pv 2) (pa_cons pe_int (pa_cons pe_int pa_nil)))))))
      (pss_cons (ps_set (i := 4) sc_law_even_right.nd rfl (.inl rfl) pe_str)
      (C8.pss_cut (ps_try_as (i := 5) (tb := tbEven mg) (ts := tsEven K mg) (Wout := fun _ _ _ _ => False) rfl rfl sc_law_even_right.nd rfl rfl ⟨rfl, by decide, .inl T.e_NoNumber.m⟩ takes0
          (fun W pn xe tk _ => pss_one (ps_set (i := 4) sc_law_even_right.nd rfl (.inl rfl) (pe_callS G4 hr rfl d4.m d4.F.kp d4.b (fun σ => passAt tk σ) (pa_cons (pv 1) (pa_cons (pv 2) pa_nil)))))
          (fun a oe cls dd pn hz hf => pss_one (ps_set (i := 4) sc_law_even_right.nd rfl (.inl rfl) (pe_ifExp (PW.pt (pw_and (pt_val (pe_callB (call_isG hz hf) (by rfl) T.b_isinstance (by decide +kernel) (pa_cons (pv 5) (pa_cons (pe_glob (v := .ref (adr mg "TollError")) rfl T.e_TollError.m rfl) pa_nil))))
                (pw_and1 (pt_val (pe_callB (call_isG hz hf) (by rfl) T.b_isinstance (by decide +kernel) (pa_cons (pv 5) (pa_cons (pe_bltn (v := .ty "ValueError") (by rfl) T.b_ValueError (by decide +kernel) (u := .type "ValueError") rfl) pa_nil))))))) pe_str pe_str))))
      (pss_cons (ps_if (pt_not (pt_val (pv 3))) (pss_one (ps_ret (pe_cmpR op_eq (pv 4) pe_str (nomark _)))) pss_nil)
      (pss_cons (ps_if (PW.pt (pw_or (pt_not (pt_val (pe_callB call_isi (by rfl) T.b_isinstance (by decide +kernel) (pa_cons (pv 4) (pa_cons (pe_glob (v := .ref (cTim mg)) rfl kT.m rfl) pa_nil)))))
          (pw_or (pt_cmpR op_ne (pe_callB call_len_seq (by rfl) T.b_len PySem.boot_len (pa_cons (pe_fld (pv 4) rfl) pa_nil)) (pv 1) (nomark _))
          (pw_or1 (pt_cmpR op_ne (pe_callB call_len_seq (by rfl) T.b_len PySem.boot_len (pa_cons (pe_fld (pv 4) rfl) pa_nil)) (pv 1) (nomark _)))))) pss_never pss_nil)
      (pss_cons (ps_set (i := 6) sc_law_even_right.nd rfl (.inl rfl) (pe_op op_add pe_int (pe_call G1 (hr.mono (by decide)) rfl d1.m d1.F.kp d1.b .nil pass0 (pa_cons (pv 0) (pa_cons pe_int pa_nil)))))
      (pss_cons (ps_for PassesOwn.never rfl (pi_range1 rfl T.b_range (pa_cons (pv 1) pa_nil)) (pg_name (i := 7) sc_law_even_right.nd rfl (Or.inl rfl))
        (pss_one (ps_for PassesOwn.never rfl (pi_tup (pe_tup (pa_cons (pe_tup (pa_cons (pv 7) (pa_cons (pe_op op_add (pv 7) pe_int) pa_nil))) (pa_cons (pe_tup (pa_cons (pe_op op_add (pv 7) pe_int) (pa_cons (pv 7) pa_nil))) pa_nil)))) (pg_name (i := 8) sc_law_even_right.nd rfl (Or.inl rfl))
          (pss_one (ps_if (pt_not (pt_val (pe_call G2 (hr.mono (by decide)) rfl d2.m d2.F.kp d2.b .nil pass0 (pa_cons (pe_lst (pa_cons (pe_call G5 (hr.mono (by decide)) rfl d5.m d5.F.kp d5.b .nil (passes_call takes0 (fun _ _ _ _ h => h)) (pa_cons (pv 4) (pa_cons (pv 8) (pa_cons (pv 6) pa_nil))))
              (pa_cons (pe_call G6 (hr.mono (by decide)) rfl d6.m d6.F.kp d6.b .nil (passes_call takes0 (fun _ _ _ _ h => h)) (pa_cons (pv 4) (pa_cons (pv 8) (pa_cons (pv 6) pa_nil)))) pa_nil)))
              (pa_cons (pe_lst (pa_cons (pv 2) (pa_cons (pe_op op_mul (pv 6) (pv 2)) pa_nil))) pa_nil))))) pss_never pss_nil)))))
      (pss_one (ps_ret pe_bl)))))))))), ?_⟩
    refine ⟨_, rfl, _, rfl, g, c, 24, rfl, by decide, by decide, hh, fun H1 m1 b1 hh1 m10 m11 => ⟨by show 9 ≤ sizeLine; decide, fun l1 nl1 => ?_⟩⟩
    have sl1 := same_new (o := .lst [V.int 0, V.int 1, V.int 23, V.int 24, V.int (-1), V.bl true, V.non, V.str "1", V.int m1]) nl1
    have l1g := (hand_new hh1 nl1).1
    refine ⟨_, rfl, g, c, 9, rfl, by decide, by decide, hh1.same sl1, fun H2 k2 b2 hh2 k20 k21 => ?_⟩
    have hl2 := b2 _ _ l1g upd_same
    obtain ⟨t, ht, tt, tmem⟩ := pick_list (g := g) (n := 0) (H' := H2) (xs := [V.int 0, V.int 1, V.int 23, V.int 24, V.int (-1), V.bl true, V.non, V.str "1", V.int m1]) k20 k21 (fun x hx => by
      simp only [List.mem_cons, List.not_mem_nil, or_false] at hx
      rcases hx with rfl | rfl | rfl | rfl | rfl | rfl | rfl | rfl | rfl <;> exact .inl trivial)
    refine ⟨l1, _, _, _, rfl, rfl, .of hl2, ht, ?_⟩
    have b02 := (b1.trans (sl1.but g)).trans b2
    clear hl2 ht
    dsimp only [gName, tSeq]
    refine ⟨by show 1 ≤ sizeLine; decide, fun p1 np1 => ⟨_, rfl, g, c, 8, rfl, by decide, by decide, hh2.same (same_new np1), fun H3 m3 b3 hh3 m30 m31 => ⟨_, _, rfl, rfl, by show 8 ≤ sizeLine; decide, fun l3 nl3 => ?_⟩⟩⟩
    have sp1 := same_new (o := .lst [V.int 1]) np1
    have p1g := (hand_new hh2 np1).1
    have sl3 := same_new (o := .lst [V.int 1, V.int 8, V.int 0, V.int 9, V.bl false, V.non, V.ref p1, V.int (1 + m3)]) nl3
    have l3g := (hand_new hh3 nl3).1
    refine ⟨_, rfl, g, c, 8, rfl, by decide, by decide, hh3.same sl3, fun H4 k4 b4 hh4 k40 k41 => ?_⟩
    have hl4 := b4 _ _ l3g upd_same
    have hp4 := b4 _ _ p1g (sl3 _ _ (b3 _ _ p1g upd_same))
    obtain ⟨b, hb, tb, bmem⟩ := pick_list (g := g) (n := 0) (H' := H4) (xs := [V.int 1, V.int 8, V.int 0, V.int 9, V.bl false, V.non, V.ref p1, V.int (1 + m3)]) k40 k41 (fun x hx => by
      simp only [List.mem_cons, List.not_mem_nil, or_false] at hx
      rcases hx with rfl | rfl | rfl | rfl | rfl | rfl | rfl | rfl
      · exact .inl trivial
      · exact .inl trivial
      · exact .inl trivial
      · exact .inl trivial
      · exact .inl trivial
      · exact .inl trivial
      · exact Th.lst hp4 p1g 0
      · exact .inl trivial)
    refine ⟨l3, _, _, _, rfl, rfl, .of hl4, hb, ?_⟩
    have b24 := (((sp1.but g).trans b3).trans (sl3.but g)).trans b4
    have b04 := b02.trans b24
    have tt4 := tt.but b24
    clear hl4 hp4 hb
    dsimp only [gName, tSeq]
    refine ⟨fun σ H' => H' = H4 ∧ σ = [some (.ref g), some t, some b, some (.bl (evenB t b)), none, none, none, none, none], ?_, ?_⟩
    · refine ⟨_, rfl, g, t, _, _, rfl, tt4, _, rfl, ?_⟩
      rw [← even_whole]
      cases whole t 0 23 with
      | false => exact iteF ⟨rfl, rfl⟩
      | true => exact iteT ⟨_, rfl, g, b, _, _, rfl, tb, rfl, rfl⟩
    rintro σ H5 ⟨rfl, rfl⟩
    dsimp only [gName, tSeq]
    refine ⟨fun σ H' => Same H5 H' ∧ ∃ v, σ = [some (.ref g), some t, some b, some (.bl (evenB t b)), some v, none, none, none, none] ∧ (evenB t b = false → v = .str "number") ∧ (∀ (n : Nat) (k : Int), t = .int n → b = .int k → n ≤ 23 → 0 < k → k < 9 → rTim mg H' v (evL n k) (evL n k)), ?_, ?_⟩
    · refine ⟨_, rfl, _, rfl, g, t, b, rfl, tt4, tb, hh4.lst, fun ef H' s' => ?_, fun n k et eb hn k0 k1 H' v s' hv => ?_⟩
      · refine ⟨true, T.e_NoNumber.ex T.u_NoNumber_NoNumber, fun _ a ha => ?_, fun z => nomatch z⟩
        refine ⟨_, rfl, cNum mg, _, _, true, rfl, rfl, T.e_NoNumber.ec, .inl rfl, ref_cls, kit_sub T.e_TollError.ec.hd T.e_TollError.ty T.u_TollError_TollError T.u_NoNumber_TollError, _, rfl, iteT ?_⟩
        refine ⟨_, rfl, cNum mg, _, _, true, rfl, rfl, T.e_NoNumber.ec, .inl rfl, ty_cls, T.e_NoNumber.ve, _, rfl, iteT ?_⟩
        refine ⟨s', .str "number", rfl, fun _ => rfl, fun n k et eb hn k0 k1 => ?_⟩
        subst et eb
        have : evenB (.int n) (.int k) = true := by
          unfold evenB
          rw [show below (.int n) 24 = true from decide_eq_true ⟨by omega, by omega⟩, show below (.int k) 9 = true from decide_eq_true ⟨by omega, by omega⟩, show decide (intOf (.int k) ≠ 0) = true from decide_eq_true (by show k ≠ 0; omega)]
          rfl
        rw [this] at ef
        cases ef
      · refine ⟨s', v, rfl, fun ef => ?_, fun n' k' et' eb' _ _ _ => ?_⟩
        · subst et eb
          have : evenB (.int n) (.int k) = true := by
            unfold evenB
            rw [show below (.int n) 24 = true from decide_eq_true ⟨by omega, by omega⟩, show below (.int k) 9 = true from decide_eq_true ⟨by omega, by omega⟩, show decide (intOf (.int k) ≠ 0) = true from decide_eq_true (by show k ≠ 0; omega)]
            rfl
          rw [this] at ef
          cases ef
        · rw [et] at et'
          rw [eb] at eb'
          have e1 : n = n' := by have := V.int.inj et'; omega
          have e2 : k = k' := V.int.inj eb'
          subst e1 e2
          exact hv
    rintro σ H6 ⟨s6, v, rfl, v1, v2⟩
    have hh6 := hh4.same s6
    have b06 := b04.trans (s6.but g)
    refine ⟨_, rfl, _, rfl, ?_⟩
    cases ev : evenB t b with
    | false =>
      have := v1 ev
      subst this
      refine iteT ⟨_, rfl, rfl, ?_⟩
      exact q _ b06 hh6
    | true =>
      obtain ⟨n, k, rfl, rfl, hn, k0, k1⟩ := evenB_some ev
      have hv := v2 n k rfl rfl hn k0 k1
      obtain ⟨x, dx, r, l, rfl, hx, hRr, hLl⟩ := id hv
      obtain ⟨tr, xs, rfl, htr, hpr⟩ := id hRr
      obtain ⟨tl, ys, rfl, htl, hpl⟩ := id hLl
      have lr : xs.length = n := by rw [paired_len hpr]; unfold evL; rw [List.length_replicate]
      have ll : ys.length = n := by rw [paired_len hpl]; unfold evL; rw [List.length_replicate]
      refine iteF ⟨_, rfl, _, _, _, _, _, rfl, .own _, .base (.ins hx iT.cl iT.ha iT.hn iT.htk iT.hm), iT.me, _, rfl, iteF ?_⟩
      refine ⟨_, rfl, x, _, dx, _, _, rfl, hx, kT.cl, nR, tim_right_fld _ _, _, _, rfl, .inr (.of htr), _, rfl, rfl, _, rfl, ?_⟩
      rw [lr, decide_eq_true rfl]
      refine iteF ⟨_, rfl, x, _, dx, _, _, rfl, hx, kT.cl, nL, tim_left_fld _ _, _, _, rfl, .inr (.of htl), _, rfl, rfl, _, rfl, ?_⟩
      rw [ll, decide_eq_true rfl]
      refine iteF ⟨_, rfl, g, c, 99, rfl, by decide, by decide, hh6, fun H7 dk b7 hh7 dk0 dk1 => ⟨_, _, rfl, rfl, ?_⟩⟩
      dsimp only [gName, tSeq]
      have hv7 := mono_tim (hh6.keep b7) hv
      have b07 := b06.trans b7
      have ok := evL_ok hn (by omega) k1
      have evlen : (evL n k).length = n := by unfold evL; rw [List.length_replicate]
      refine ⟨_, rfl, _, rfl, by omega, by omega, ?_⟩
      refine for_it (walk_range (lo := 0) (n := ((n : Nat) : Int).toNat)) (fun i σ H' => Same H7 H' ∧ ∃ o7 o8, σ = [some (.ref g), some (.int (n : Nat)), some (.int k), some (.bl true), some (.ref x), none, some (.int (1 + dk)), o7, o8]) ⟨.refl _, none, none, rfl⟩ (fun _ _ _ _ _ => trivial) ?_ ?_
      · rintro i z σ H8 H9 hi ⟨s8, o7, o8, rfl⟩ ⟨rfl, rfl⟩
        rw [Int.toNat_natCast] at hi
        refine ⟨_, rfl, _, rfl, _, _, rfl, rfl, by show 2 ≤ sizeLine; decide, fun w1 nw1 => ⟨_, rfl, _, _, rfl, rfl, _, rfl, by show 2 ≤ sizeLine; decide, fun w2 nw2 => ⟨by show 2 ≤ sizeLine; decide, fun w3 nw3 => ⟨w3, rfl, ⟨_, .of upd_same⟩, ?_⟩⟩⟩⟩
        have sw1 := same_new (o := .tup [V.int (0 + (i : Int)), V.int (0 + (i : Int) + 1)]) nw1
        have sw2 := same_new (o := .tup [V.int (0 + (i : Int) + 1), V.int (0 + (i : Int))]) nw2
        have sw3 := same_new (o := .tup [V.ref w1, V.ref w2]) nw3
        have s79 := s8.trans ((sw1.trans sw2).trans sw3)
        refine for_it (walk_tup (xs := [V.ref w1, V.ref w2])) (fun j σ H' => Same H7 H' ∧ H' w1 = some (.tup [V.int (0 + (i : Int)), V.int (0 + (i : Int) + 1)]) ∧ H' w2 = some (.tup [V.int (0 + (i : Int) + 1), V.int (0 + (i : Int))]) ∧ H' w3 = some (.tup [V.ref w1, V.ref w2]) ∧ ∃ o8, σ = [some (.ref g), some (.int (n : Nat)), some (.int k), some (.bl true), some (.ref x), none, some (.int (1 + dk)), some (.int (0 + (i : Int))), o8])
          ⟨s79, sw3 _ _ (sw2 _ _ upd_same), sw3 _ _ upd_same, upd_same, o8, rfl⟩ (fun _ _ _ _ h => .of h.2.2.2.1) ?_ ?_
        · rintro j z σ H10 H11 hj ⟨s10, h1, h2, h3, o8', rfl⟩ ⟨rfl, hz⟩
          have hway : ∃ (p : Addr) (a e : Int), z = .ref p ∧ H11 p = some (.tup [.int a, .int e]) ∧ 0 ≤ a ∧ a < ((evL n k).length : Int) + 1 ∧ 0 ≤ e ∧ e < ((evL n k).length : Int) + 1 ∧ (a - e = 1 ∨ e - a = 1) ∧ opAt (evL n k) (evL n k) a e = ([], [k]) := by
            rw [evlen]
            have e0 : (0 : Int) + (i : Int) = (i : Int) := by omega
            obtain ⟨o1, o2⟩ := opAt_ev (k := k) hi
            rw [e0] at h1 h2
            match j, hj, hz with
            | 0, _, hz => cases hz; exact ⟨w1, _, _, rfl, h1, by omega, by omega, by omega, by omega, by omega, o1⟩
            | 1, _, hz => cases hz; exact ⟨w2, _, _, rfl, h2, by omega, by omega, by omega, by omega, by omega, o2⟩
          obtain ⟨p, a, e, rfl, hp, a0, a1, e0, e1, hae, hop⟩ := hway
          have tk0 : 0 < (1 + dk).toNat := by omega
          have hh10 := hh7.same s10
          have en := nbB_of (posts := ((evL n k).length : Int) + 1) (tupOf_at hp) a0 a1 e0 e1 hae
          have hbt : below (.int (1 + dk)) 1000000001 = true := decide_eq_true ⟨by omega, by omega⟩
          refine ⟨_, rfl, _, rfl, _, rfl, g, _, _, _, _, _, rfl, mono_tim s10.keep hv7, ok, way_pair hp hh10.lst, .inl trivial, fun e' => absurd (en.symm.trans e') (by decide), fun _ e' => absurd (hbt.symm.trans e') (by decide), fun a' b' k' ew ek _ _ _ H12 v12 s12 hv12 => ?_⟩
          rw [tupOf_at hp] at ew
          cases ew
          cases ek
          subst hv12
          rw [hop, plc_one k tk0]
          have hh12 := hh10.same s12
          have en2 := nbB_of (posts := ((evL n k).length : Int) + 1) (tupOf_at (s12 _ _ hp)) a0 a1 e0 e1 hae
          refine ⟨_, rfl, _, rfl, _, rfl, g, _, _, _, _, _, rfl, mono_tim (s10.trans s12).keep hv7, ok, way_pair (s12 _ _ hp) hh12.lst, .inl trivial, fun e' => absurd (en2.symm.trans e') (by decide), fun _ e' => absurd (hbt.symm.trans e') (by decide), fun a' b' k' ew ek _ _ _ H13 v13 s13 hv13 => ?_⟩
          rw [tupOf_at (s12 _ _ hp)] at ew
          cases ew
          cases ek
          subst hv13
          rw [hop, car_one k tk0]
          have etk : ((1 + dk).toNat : Int) = 1 + dk := Int.toNat_of_nonneg (by omega)
          rw [etk]
          refine ⟨by show 2 ≤ sizeLine; decide, fun la nla => ⟨_, rfl, _, rfl, _, rfl, _, _, rfl, rfl, .inl ⟨by omega, by omega⟩, by show 2 ≤ sizeLine; decide, fun lb nlb => ?_⟩⟩
          have sla := same_new (o := .lst [V.int k, V.int ((1 + dk) * k)]) nla
          have slb := same_new (o := .lst [V.int k, V.int ((1 + dk) * k)]) nlb
          refine ⟨la, lb, [.int k, .int ((1 + dk) * k)], rfl, slb _ _ upd_same, upd_same, by show 2 ≤ 100; decide, mem2 (P := fl) trivial trivial, fun H14 s14 => ⟨_, rfl, iteF ?_⟩⟩
          have sz := (((s12.trans s13).trans sla).trans slb).trans s14
          exact ⟨s10.trans sz, sz _ _ h1, sz _ _ h2, sz _ _ h3, _, rfl⟩
        · rintro σ H10 ⟨s10, _, _, _, o8', rfl⟩
          exact ⟨s10, _, _, rfl⟩
      · rintro σ H8 ⟨s8, o7, o8, rfl⟩
        exact q _ (b07.trans (s8.but g)) (hh7.same s8)
end
end S4

namespace S4
open PySem L2 TT EE
/-- what is kept of a turn: a timing and its parts -/
def rEnt (mg : Str → Option Value) : Rp (List Op × List Op) := fun H v z => ∃ e tv pr r l, v = .ref e ∧ H e = some (.tup [tv, .ref pr]) ∧ H pr = some (.tup [r, l]) ∧ rTim mg H tv z.1 z.2 ∧ rTup rOp H r z.1 ∧ rTup rOp H l z.2
theorem mono_ent (mg : Str → Option Value) : Mono (rEnt mg) := fun H H' v z k ⟨e, tv, pr, r, l, h0, h1, h2, h3, h4, h5⟩ => ⟨e, tv, pr, r, l, h0, k.tup h1, k.tup h2, mono_tim k h3, mono_tup mono_op _ _ _ _ k h4, mono_tup mono_op _ _ _ _ k h5⟩
theorem eqv_pair (a b c d : PyData) : PyData.eqv (.tuple [a, b]) (.tuple [c, d]) = (PyData.eqv a c && PyData.eqv b d) := by simp [PyData.eqv, PyData.eqvAll]
theorem shp_pair (R L : List Op) : Shp 4 (.tuple [dOps R, dOps L]) := .tup fun x hx => by
  simp only [List.mem_cons, List.not_mem_nil, or_false] at hx
  rcases hx with rfl | rfl <;> exact shp_ops _
theorem below_of {n e : Int} (h0 : 0 ≤ n) (h1 : n < e) : below (.int n) e = true := decide_eq_true ⟨h0, h1⟩
theorem partV_but {g : Addr} {H H' : Hp} (b : But g H H') {r l : V} (hr : Th g H 3 r) (hl : Th g H 3 l) : partV H' r l = partV H r l := by unfold partV; rw [rightB_but b hr, leftB_but b hl hr]
theorem fl_part (H : Hp) (r l : V) : fl (partV H r l) := by
  unfold partV
  cases rightB H r with
  | false => exact trivial
  | true =>
    cases leftB H r l with
    | false => exact trivial
    | true => exact trivial
section
variable {P : Program} {w : World} {K : PySem.W.Frag} {mg : Str → Option Value} {base : Heap} {cT cS : Addr}
def spLaw (K : PySem.W.Frag) : Sp := fun vs H Q _ => ∃ (a : Addr) (ns : List Int), vs = [.ref a] ∧ SqL K H a (ns.map V.int) ∧ ns.length ≤ 63 ∧ ∀ H', Q (.bl true) H'
theorem ok_law (T : Tx K mg cT cS) {f : Addr} {fd : FuncData} (d : D K mg "law" s_law ["script"] f fd) : FnOk P w K mg base CX0 10 f fd ["script"] (spLaw K) := by
  obtain ⟨f0, fd0, d0⟩ := T.d_law_hand
  have G0 : FnOk P w K mg base CX0 1 f0 fd0 ["script"] (spHand K) := ok_hand T d0
  obtain ⟨f1, fd1, d1⟩ := T.d_law_draw
  have G1 : FnOk P w K mg base CX0 1 f1 fd1 ["hand", "many"] spDraw := ok_draw T d1
  obtain ⟨f2, fd2, d2⟩ := T.d_law_is
  have G2 : FnOk P w K mg base CX0 2 f2 fd2 ["told", "due"] spIsL := ok_isL T d2
  obtain ⟨f3, fd3, d3⟩ := T.d_law_timing_parts
  have G3 : FnOk P w K mg base CX0 3 f3 fd3 ["hand", "ties"] spParts := ok_parts T d3
  obtain ⟨f4, fd4, d4⟩ := T.d_law_tried
  have G4 : FnOk P w K mg base CX0 8 f4 fd4 ["right", "left"] spDue := ok_tried T d4
  obtain ⟨f5, fd5, d5⟩ := T.d_places
  have G5 : FnOk P w K mg base (L2.CX P w) 5 f5 fd5 ["timing", "way", "tick"] (spAt mg fun _ v p k => v = .int (plcL p k.toNat)) := ok_places T d5
  obtain ⟨f6, fd6, d6⟩ := T.d_carried
  have G6 : FnOk P w K mg base (L2.CX P w) 5 f6 fd6 ["timing", "way", "tick"] (spAt mg fun _ v p k => v = .int (carL p k.toNat)) := ok_carried T d6
  obtain ⟨f7, fd7, d7⟩ := T.d_law_places
  have G7 := ok_law_places (P := P) (w := w) (base := base) T d7
  obtain ⟨f8, fd8, d8⟩ := T.d_law_carried
  have G8 := ok_law_carried (P := P) (w := w) (base := base) T d8
  obtain ⟨f9, fd9, d9⟩ := T.d_law_bent
  have G9 : FnOk P w K mg base CX0 3 f9 fd9 ["hand", "some"] spBent := ok_bent T d9
  obtain ⟨fa, fda, da⟩ := T.d_law_due
  have Ga : FnOk P w K mg base CX0 3 fa fda ["right", "left"] spDue := ok_law_due T da
  obtain ⟨fb, fdb, db⟩ := T.d_law_refused_right
  have Gb : FnOk P w K mg base CX0 7 fb fdb ["hand", "timing", "ties"] (spRefR mg) := ok_refused T db
  obtain ⟨fc, fdc, dc⟩ := T.d_law_even_right
  have Gc : FnOk P w K mg base CX0 9 fc fdc ["hand"] (spEvR mg) := ok_evR T dc
  obtain ⟨fT, fdT, kT⟩ := T.k_Timing
  have GT : FnOk P w K mg base (L2.CX P w) 6 fT fdT ["self", "right", "left"] (spInitTiming mg) := ok_Timing T kT
  obtain ⟨fE, fdE, dE⟩ := T.m_Timing_eq
  have GE : FnOk P w K mg base CX0 1 fE fdE ["self", "other"] (spEqT mg) := ok_eqT T dE
  have iT := T.i_Timing
  refine d.F.ok sc_law (fun vs H Q E h => ?_) (fun cdv A outer s H vs Q E hr h => ?_)
  · obtain ⟨a, ns, rfl, _⟩ := h
    rfl
  · obtain ⟨a, ns, rfl, hS, hl, q⟩ := h
    refine ⟨_, pss_cons (ps_set (i := 1) sc_law.nd rfl (.inl rfl) (pe_call G0 (hr.mono (by decide)) rfl d0.m d0.F.kp d0.b .nil pass0 (pa_cons (pv 0) pa_nil)))
      (pss_cons (ps_set (i := 2) sc_law.nd rfl (.inl rfl) (pe_lst pa_nil))
      (pss_cons (ps_for PassesOwn.never rfl (pi_range1 rfl T.b_range (pa_cons pe_int pa_nil)) (pg_name (i := 3) sc_law.nd rfl (Or.inl rfl))
        (pss_cons (ps_set (i := 4) sc_law.nd rfl (.inl rfl) (pe_op op_add pe_int (pe_call G1 (hr.mono (by decide)) rfl d1.m d1.F.kp d1.b .nil pass0 (pa_cons (pv 1) (pa_cons pe_int pa_nil)))))
        (pss_cons (ps_asg (pe_call G3 (hr.mono (by decide)) rfl d3.m d3.F.kp d3.b .nil pass0 (pa_cons (pv 1) (pa_cons (pv 4) pa_nil))) (pg_tup rfl (pgs_cons (pg_name (i := 5) sc_law.nd rfl (.inl rfl)) (pgs_cons (pg_name (i := 6) sc_law.nd rfl (.inl rfl)) pgs_nil))))
        (pss_cons (ps_if (pt_cmp (pc_notN (pe_call G4 (hr.mono (by decide)) rfl d4.m d4.F.kp d4.b .nil pass0 (pa_cons (pv 5) (pa_cons (pv 6) pa_nil))))) pss_never pss_nil)
        (pss_cons (ps_set (i := 7) sc_law.nd rfl (.inl rfl) (pe_make kT.mkf GT (hr.mono (by decide)) rfl kT.m kT.b .nil (passes_call takes0 (fun _ _ _ _ h => h)) (pa_cons (pv 5) (pa_cons (pv 6) pa_nil))))
        (pss_cons (ps_expr (pe_bm PySem.F.plainAttrs_list PySem.F.slot_list_append PySem.F.type_list_append mt_append (pv 2) (pa_cons (pe_tup (pa_cons (pv 7) (pa_cons (pe_tup (pa_cons (pv 5) (pa_cons (pv 6) pa_nil))) pa_nil))) pa_nil)))
        (pss_cons (ps_set (i := 8) sc_law.nd rfl (.inl rfl) (pe_call G1 (hr.mono (by decide)) rfl d1.m d1.F.kp d1.b .nil pass0 (pa_cons (pv 1) (pa_cons (pv 4) pa_nil))))
        (pss_cons (ps_for PassesOwn.never rfl (pi_tup (pe_tup (pa_cons (pe_tup (pa_cons (pe_tup (pa_cons (pv 8) (pa_cons (pe_op op_add (pv 8) pe_int) pa_nil))) (pa_cons (pe_ix ix_tup (pv 5) (pv 8) (fun _ _ => rfl)) pa_nil)))
              (pa_cons (pe_tup (pa_cons (pe_tup (pa_cons (pe_op op_add (pv 8) pe_int) (pa_cons (pv 8) pa_nil))) (pa_cons (pe_ix ix_tup (pv 6) (pv 8) (fun _ _ => rfl)) pa_nil))) pa_nil))))
            (pg_tup rfl (pgs_cons (pg_name (i := 9) sc_law.nd rfl (.inl rfl)) (pgs_cons (pg_name (i := 10) sc_law.nd rfl (.inl rfl)) pgs_nil)))
          (pss_cons (ps_set (i := 11) sc_law.nd rfl (.inl rfl) pe_int)
          (pss_cons (ps_for PassesOwn.never rfl (pi_range1 rfl T.b_range (pa_cons (pe_call G1 (hr.mono (by decide)) rfl d1.m d1.F.kp d1.b .nil pass0 (pa_cons (pv 1) (pa_cons pe_int pa_nil))) pa_nil)) (pg_name (i := 12) sc_law.nd rfl (Or.inl rfl))
            (pss_cons (ps_set (i := 11) sc_law.nd rfl (.inl rfl) (pe_op op_add (pv 11) (pe_call G7 (hr.mono (by decide)) rfl d7.m d7.F.kp d7.b .nil pass0 (pa_cons (pv 10) (pa_cons (pv 12) pa_nil)))))
            (pss_one (ps_if (pt_not (pt_val (pe_call G2 (hr.mono (by decide)) rfl d2.m d2.F.kp d2.b .nil pass0 (pa_cons (pe_lst (pa_cons (pe_call G5 (hr.mono (by decide)) rfl d5.m d5.F.kp d5.b .nil (passes_call takes0 (fun _ _ _ _ h => h)) (pa_cons (pv 7) (pa_cons (pv 9) (pa_cons (pv 12) pa_nil))))
                (pa_cons (pe_call G6 (hr.mono (by decide)) rfl d6.m d6.F.kp d6.b .nil (passes_call takes0 (fun _ _ _ _ h => h)) (pa_cons (pv 7) (pa_cons (pv 9) (pa_cons (pv 12) pa_nil)))) pa_nil)))
                (pa_cons (pe_lst (pa_cons (pe_call G7 (hr.mono (by decide)) rfl d7.m d7.F.kp d7.b .nil pass0 (pa_cons (pv 10) (pa_cons (pv 12) pa_nil))) (pa_cons (pv 11) pa_nil))) pa_nil))))) pss_never pss_nil))))
          (pss_cons (ps_set (i := 13) sc_law.nd rfl (.inl rfl) (pe_call G1 (hr.mono (by decide)) rfl d1.m d1.F.kp d1.b .nil pass0 (pa_cons (pv 1) (pa_cons (pe_op op_pow pe_int pe_int) pa_nil))))
          (pss_one (ps_if (pt_not (pt_val (pe_call G2 (hr.mono (by decide)) rfl d2.m d2.F.kp d2.b .nil pass0 (pa_cons (pe_lst (pa_cons (pe_call G5 (hr.mono (by decide)) rfl d5.m d5.F.kp d5.b .nil (passes_call takes0 (fun _ _ _ _ h => h)) (pa_cons (pv 7) (pa_cons (pv 9) (pa_cons (pv 13) pa_nil))))
                (pa_cons (pe_call G6 (hr.mono (by decide)) rfl d6.m d6.F.kp d6.b .nil (passes_call takes0 (fun _ _ _ _ h => h)) (pa_cons (pv 7) (pa_cons (pv 9) (pa_cons (pv 13) pa_nil)))) pa_nil)))
                (pa_cons (pe_lst (pa_cons (pe_call G7 (hr.mono (by decide)) rfl d7.m d7.F.kp d7.b .nil pass0 (pa_cons (pv 10) (pa_cons (pv 13) pa_nil))) (pa_cons (pe_call G8 (hr.mono (by decide)) rfl d8.m d8.F.kp d8.b .nil pass0 (pa_cons (pv 10) (pa_cons (pv 13) pa_nil))) pa_nil))) pa_nil))))) pss_never pss_nil))))))
        (pss_cons (ps_set (i := 14) sc_law.nd rfl (.inl rfl) (pe_ix ix_list (pe_lst (pa_cons (pe_tup (pa_cons (pe_call G9 (hr.mono (by decide)) rfl d9.m d9.F.kp d9.b .nil pass0 (pa_cons (pv 1) (pa_cons (pv 5) pa_nil))) (pa_cons (pv 6) pa_nil)))
              (pa_cons (pe_tup (pa_cons (pv 5) (pa_cons (pe_call G9 (hr.mono (by decide)) rfl d9.m d9.F.kp d9.b .nil pass0 (pa_cons (pv 1) (pa_cons (pv 6) pa_nil))) pa_nil))) pa_nil))) (pe_call G1 (hr.mono (by decide)) rfl d1.m d1.F.kp d1.b .nil pass0 (pa_cons (pv 1) (pa_cons pe_int pa_nil))) (fun _ _ => rfl)))
        (pss_cons (ps_if (pt_not (pt_val (pe_call G2 (hr.mono (by decide)) rfl d2.m d2.F.kp d2.b .nil pass0 (pa_cons (pe_lst (pa_cons (pe_call G4 (hr.mono (by decide)) rfl d4.m d4.F.kp d4.b .nil pass0 (pa_cons (pe_ix ix_tup (pv 14) pe_int (fun _ _ => rfl)) (pa_cons (pe_ix ix_tup (pv 14) pe_int (fun _ _ => rfl)) pa_nil))) pa_nil))
              (pa_cons (pe_lst (pa_cons (pe_call Ga (hr.mono (by decide)) rfl da.m da.F.kp da.b .nil pass0 (pa_cons (pe_ix ix_tup (pv 14) pe_int (fun _ _ => rfl)) (pa_cons (pe_ix ix_tup (pv 14) pe_int (fun _ _ => rfl)) pa_nil))) pa_nil)) pa_nil))))) pss_never pss_nil)
        (pss_one (ps_if (PW.pt (pw_or (pt_not (pt_val (pe_call Gb (hr.mono (by decide)) rfl db.m db.F.kp db.b .nil pass0 (pa_cons (pv 1) (pa_cons (pv 7) (pa_cons (pv 4) pa_nil)))))) (pw_or1 (pt_not (pt_val (pe_call Gc hr rfl dc.m dc.F.kp dc.b .nil pass0 (pa_cons (pv 1) pa_nil))))))) pss_never pss_nil))))))))))))
      (pss_cons (ps_for PassesOwn.never rfl (pi_list (pv 2)) (pg_tup rfl (pgs_cons (pg_name (i := 15) sc_law.nd rfl (.inl rfl)) (pgs_cons (pg_name (i := 16) sc_law.nd rfl (.inl rfl)) pgs_nil)))
        (pss_one (ps_for PassesOwn.never rfl (pi_list (pv 2)) (pg_tup rfl (pgs_cons (pg_name (i := 17) sc_law.nd rfl (.inl rfl)) (pgs_cons (pg_name (i := 18) sc_law.nd rfl (.inl rfl)) pgs_nil)))
          (pss_one (ps_if (PW.pt (pw_or (pt_cmpR op_ne (pe_cmpR (op_eqO GE (hr.mono (by decide)) dE.fi dE.fn dE.b pass0) (pv 15) (pv 17) (nomark _)) (pe_cmpR (op_eqD (hu64 hr)) (pv 16) (pv 18) (nomark _)) (nomark _))
            (pw_or1 (pt_cmpR (op_eqO GE (hr.mono (by decide)) dE.fi dE.fn dE.b pass0) (pv 15) (pv 18) (nomark _))))) pss_never pss_nil)))))
      (pss_one (ps_ret pe_bl))))), ?_⟩
    refine ⟨_, rfl, a, ns, rfl, hS, hl, fun H1 g c s1 ng hh1 => ?_⟩
    dsimp only [gName, tSeq]
    refine ⟨Nat.zero_le _, fun kp nkp => ?_⟩
    have skp := same_new (o := .lst []) nkp
    obtain ⟨kg, kc⟩ := hand_new hh1 nkp
    dsimp only [gName, tSeq]
    refine ⟨3, rfl, by decide, by decide, ?_⟩
    refine for_range (lo := 0) (n := 3) (fun i σ H' => Hand g c H' ∧ ∃ es D, H' kp = some (.lst es) ∧ Paired (rEnt mg H') es D ∧ (∀ z ∈ D, TimOk z.1 z.2) ∧ es.length ≤ i ∧ ∃ o3 o4 o5 o6 o7 o8 o9 o10 o11 o12 o13 o14, σ = [some (.ref a), some (.ref g), some (.ref kp), o3, o4, o5, o6, o7, o8, o9, o10, o11, o12, o13, o14, none, none, none, none])
      ⟨hh1.same skp, [], [], upd_same, .nil, (fun _ h => nomatch h), Nat.le_refl _, none, none, none, none, none, none, none, none, none, none, none, none, rfl⟩ ?_ ?_
    · rintro i σ H2 hi ⟨hh2, es, D, hkp, hpD, okD, hlen, o3, o4, o5, o6, o7, o8, o9, o10, o11, o12, o13, o14, rfl⟩
      refine ⟨_, rfl, g, c, 6, rfl, by decide, by decide, hh2, fun H3 m b3 hh3 m0 m1 => ⟨_, _, rfl, rfl, ?_⟩⟩
      dsimp only [gName, tSeq]
      obtain ⟨n, en⟩ : ∃ n : Nat, 1 + m = (n : Int) := ⟨(1 + m).toNat, by omega⟩
      refine ⟨_, rfl, _, rfl, g, c, n, by rw [en]; rfl, by omega, hh3, fun H4 tp r l R L b4 hh4 htp hR hL ok hRn => ?_⟩
      refine ⟨tp, _, rfl, .of htp, rfl, _, _, rfl, _, _, rfl, rfl, ?_⟩
      have lrr := ok.lr
      have lll := ok.ll
      have tR := Th.ops hh4.lst hR (by omega) ok.r
      have tL := Th.ops hh4.lst hL (by omega) ok.l
      obtain ⟨rb, lb⟩ := tim_right hR hL ok
      refine ⟨_, rfl, _, rfl, g, r, l, rfl, tR, tL, fun H5 s5 => ?_⟩
      rw [partV_n rb lb]
      refine ⟨_, rfl, ?_⟩
      rw [decide_eq_true rfl]
      refine iteF ?_
      dsimp only [gName, tSeq]
      have hh5 := hh4.same s5
      have hR5 := mono_tup mono_op _ _ _ _ s5.keep hR
      have hL5 := mono_tup mono_op _ _ _ _ s5.keep hL
      refine ⟨_, rfl, _, rfl, fun x dx nx nd ne => ?_⟩
      have sm := made_same (C := cTim mg) (fs := []) nx nd ne
      have hhm := hh5.same sm
      have hRm := mono_tup mono_op _ _ _ _ sm.keep hR5
      have hLm := mono_tup mono_op _ _ _ _ sm.keep hL5
      obtain ⟨rm, lm⟩ := tim_right hRm hLm ok
      refine ⟨g, x, dx, r, l, rfl, upd_same, Th.ops hhm.lst hRm (by omega) ok.r, Th.ops hhm.lst hLm (by omega) ok.l, fun _ _ H6 k6 hi6 => ⟨rfl, ?_⟩, fun e' => absurd (rm.symm.trans e') (by decide), fun _ e' => absurd (lm.symm.trans e') (by decide)⟩
      have s6 : Same H5 H6 := fun b o e => k6 b o (ne_of_none e nx) (sm b o e)
      have hu6 : rTim mg H6 (.ref x) R L := ⟨x, dx, r, l, rfl, hi6, mono_tup mono_op _ _ _ _ s6.keep hR5, mono_tup mono_op _ _ _ _ s6.keep hL5⟩
      clear k6 hi6 rm lm hRm hLm hhm sm ne nd nx
      generalize V.ref x = u at hu6 ⊢
      dsimp only [gName, tSeq]
      have hh6 := hh5.same s6
      have b26 := (b3.trans b4).trans ((s5.trans s6).but g)
      have hk6 := b26.lst kg hkp
      have hp6 := paired_mono (mono_ent mg) (hh2.keep b26) hpD
      refine ⟨_, rfl, .inl ⟨rfl, _, .of hk6⟩, _, rfl, _, rfl, _, rfl, by show 2 ≤ sizeLine; decide, fun p1 np1 => ⟨by show 2 ≤ sizeLine; decide, fun p2 np2 => ?_⟩⟩
      have sp1 := same_new (o := .tup [r, l]) np1
      have sp2 := same_new (o := .tup [u, V.ref p1]) np2
      have sp := sp1.trans sp2
      refine ⟨kp, _, _, rfl, rfl, sp _ _ hk6, Nat.lt_of_le_of_lt (by omega : es.length ≤ 3) (by decide), ?_⟩
      have hk8 := sp _ _ hk6
      have k9 : Keep (upd (upd H6 p1 (.tup [r, l])) p2 (.tup [u, V.ref p1])) (upd (upd (upd H6 p1 (.tup [r, l])) p2 (.tup [u, V.ref p1])) kp (.lst (es ++ [V.ref p2]))) := keep_lst hk8
      have hh9 := (hh6.same sp).setD (o := .lst (es ++ [V.ref p2])) kg kc
      have k69 := sp.keep.trans k9
      have hR9 := mono_tup mono_op _ _ _ _ k69 (mono_tup mono_op _ _ _ _ s6.keep hR5)
      have hL9 := mono_tup mono_op _ _ _ _ k69 (mono_tup mono_op _ _ _ _ s6.keep hL5)
      have hu9 := mono_tim k69 hu6
      have hk9 := upd_same (H := upd (upd H6 p1 (.tup [r, l])) p2 (.tup [u, V.ref p1])) (a := kp) (o := .lst (es ++ [V.ref p2]))
      have hp9 : Paired (rEnt mg (upd (upd (upd H6 p1 (.tup [r, l])) p2 (.tup [u, V.ref p1])) kp (.lst (es ++ [V.ref p2])))) (es ++ [V.ref p2]) (D ++ [(R, L)]) :=
        paired_app (paired_mono (mono_ent mg) k69 hp6) (.cons ⟨p2, u, p1, r, l, rfl, k9.tup upd_same, k9.tup (sp2 _ _ upd_same), hu9, hR9, hL9⟩ .nil)
      generalize upd (upd (upd H6 p1 (.tup [r, l])) p2 (.tup [u, V.ref p1])) kp (.lst (es ++ [V.ref p2])) = H9 at hh9 hR9 hL9 hu9 hk9 hp9 ⊢
      clear k9 k69 hk8 sp sp1 sp2 hk6 hp6 b26 hh6 hu6 hR5 hL5 hh5 tR tL rb lb htp hR hL
      have okD9 : ∀ z ∈ D ++ [(R, L)], TimOk z.1 z.2 := fun z hz => by
        rcases List.mem_append.mp hz with hz | hz
        · exact okD z hz
        · rw [List.mem_singleton.mp hz]; exact ok
      have hlen9 : (es ++ [V.ref p2]).length ≤ i + 1 := by rw [List.length_append]; show _ + 1 ≤ _; omega
      generalize es ++ [V.ref p2] = es9 at hk9 hp9 hlen9
      generalize D ++ [(R, L)] = D9 at hp9 okD9
      clear hkp hpD okD
      dsimp only [gName, tSeq]
      refine ⟨_, rfl, _, rfl, g, c, (n : Int), by rw [en]; rfl, by omega, by omega, hh9, fun H10 ti b10 hh10 ti0 ti1 => ?_⟩
      dsimp only [gName, tSeq]
      obtain ⟨j, rfl⟩ : ∃ j : Nat, ti = (j : Int) := ⟨ti.toNat, by omega⟩
      obtain ⟨tr, xr, rfl, htr, hpr⟩ := id hR9
      obtain ⟨tl, xl, rfl, htl, hpl⟩ := id hL9
      have kb10 := hh9.keep b10
      have hu10 := mono_tim kb10 hu9
      have hjR : R[j]? = some (R[j]'(by omega)) := List.getElem?_eq_getElem (by omega)
      have hjL : L[j]? = some (L[j]'(by omega)) := List.getElem?_eq_getElem (by omega)
      obtain ⟨vr, hvr, hor⟩ := paired_get2 hpr hjR
      obtain ⟨vl, hvl, hol⟩ := paired_get2 hpl hjL
      have oor := ok.r _ (List.getElem_mem (h := by omega) (l := R) (n := j))
      have ool := ok.l _ (List.getElem_mem (h := by omega) (l := L) (n := j))
      have opR : opAt R L (j : Int) ((j : Int) + 1) = R[j]'(by omega) := by unfold opAt; rw [if_pos (by omega), Int.toNat_natCast, getD_at hjR]
      have opL : opAt R L ((j : Int) + 1) (j : Int) = L[j]'(by omega) := by unfold opAt; rw [if_neg (by omega), Int.toNat_natCast, getD_at hjL]
      generalize R[j]'(by omega) = pR at hor oor opR
      generalize L[j]'(by omega) = pL at hol ool opL
      refine ⟨_, rfl, _, rfl, _, _, rfl, rfl, by show 2 ≤ sizeLine; decide, fun w1 nw1 => ⟨_, rfl, _, rfl, tr, _, _, _, rfl, rfl, .of ((same_new nw1).keep.tup (kb10.tup htr)), atI_nat hvr, by show 2 ≤ sizeLine; decide, fun w2 nw2 => ?_⟩⟩
      have sw1 := same_new (o := .tup [V.int (j : Int), V.int ((j : Int) + 1)]) nw1
      have sw2 := same_new (o := .tup [V.ref w1, vr]) nw2
      refine ⟨_, rfl, _, _, rfl, rfl, _, rfl, by show 2 ≤ sizeLine; decide, fun w3 nw3 => ?_⟩
      have sw3 := same_new (o := .tup [V.int ((j : Int) + 1), V.int (j : Int)]) nw3
      refine ⟨_, rfl, _, rfl, tl, _, _, _, rfl, rfl, .of (((sw1.trans sw2).trans sw3).keep.tup (kb10.tup htl)), atI_nat hvl, by show 2 ≤ sizeLine; decide, fun w4 nw4 => ⟨by show 2 ≤ sizeLine; decide, fun w5 nw5 => ?_⟩⟩
      have sw4 := same_new (o := .tup [V.ref w3, vl]) nw4
      have sw5 := same_new (o := .tup [V.ref w2, V.ref w4]) nw5
      have sw := (((sw1.trans sw2).trans sw3).trans sw4).trans sw5
      have hw1 := sw5 _ _ (sw4 _ _ (sw3 _ _ (sw2 _ _ upd_same)))
      have hw2 := sw5 _ _ (sw4 _ _ (sw3 _ _ upd_same))
      have hw3 := sw5 _ _ (sw4 _ _ upd_same)
      have hw4 := sw5 _ _ upd_same
      have hw5 := upd_at sw5
      refine ⟨w5, rfl, ⟨_, .of hw5⟩, ?_⟩
      have b0 := b10.trans (sw.but g)
      have hh11 := hh10.same sw
      have or11 := mono_op _ _ _ _ sw.keep (mono_op _ _ _ _ kb10 hor)
      have ol11 := mono_op _ _ _ _ sw.keep (mono_op _ _ _ _ kb10 hol)
      have hu11 := mono_tim sw.keep hu10
      generalize upd (upd (upd (upd (upd H10 w1 _) w2 _) w3 _) w4 _) w5 _ = H11 at hw1 hw2 hw3 hw4 hw5 b0 hh11 or11 ol11 hu11 ⊢
      clear sw sw1 sw2 sw3 sw4 sw5 hor hol
      have b11 := b0
      refine for_it (walk_tup (xs := [V.ref w2, V.ref w4])) (fun z σ H' => But g H11 H' ∧ Hand g c H' ∧ ∃ o9 o10 o11 o12 o13, σ = [some (.ref a), some (.ref g), some (.ref kp), some (.int (0 + (i : Int))), some (.int (1 + m)), some (.ref tr), some (.ref tl), some u, some (.int (j : Int)), o9, o10, o11, o12, o13, o14, none, none, none, none])
        ⟨.refl _ _, hh11, o9, o10, o11, o12, o13, rfl⟩ (fun z σ H' _ h => .of ((hh11.keep h.1).tup hw5)) ?_ ?_
      · rintro z vz σ H12 H13 hz ⟨b12, hh12, o9, o10, o11, o12, o13, rfl⟩ ⟨rfl, hvz⟩
        have kb12 := hh11.keep b12
        have hsel : ∃ (wp wq : Addr) (vo : V) (x y : Int) (p : Op), vz = .ref wp ∧ H13 wp = some (.tup [.ref wq, vo]) ∧ H13 wq = some (.tup [.int x, .int y]) ∧ 0 ≤ x ∧ x < (R.length : Int) + 1 ∧ 0 ≤ y ∧ y < (R.length : Int) + 1 ∧ (x - y = 1 ∨ y - x = 1) ∧ opAt R L x y = p ∧ rOp H13 vo p ∧ OpOk p := by
          match z, hz, hvz with
          | 0, _, hvz => cases hvz; exact ⟨w2, w1, vr, _, _, pR, rfl, kb12.tup hw2, kb12.tup hw1, by omega, by omega, by omega, by omega, by omega, opR, mono_op _ _ _ _ kb12 or11, oor⟩
          | 1, _, hvz => cases hvz; exact ⟨w4, w3, vl, _, _, pL, rfl, kb12.tup hw4, kb12.tup hw3, by omega, by omega, by omega, by omega, by omega, opL, mono_op _ _ _ _ kb12 ol11, ool⟩
        obtain ⟨wp, wq, vo, x', y', p, rfl, hwp, hwq, x0, x1, y0, y1, hxy, hop, hvo, oo⟩ := hsel
        have hu13 := mono_tim kb12 hu11
        refine ⟨wp, _, rfl, .of hwp, rfl, _, _, rfl, _, _, rfl, rfl, ?_⟩
        dsimp only [gName, tSeq]
        refine ⟨_, rfl, g, c, 60, rfl, by decide, by decide, hh12, fun H14 nt b14 hh14 nt0 nt1 => ⟨_, rfl, by omega, by omega, ?_⟩⟩
        have b14' := b12.trans b14
        have step : ∀ {H' : Hp} (k : Nat), But g H13 H' → Hand g c H' → (k : Int) ≤ 1000000000 → nbB H' ((R.length : Int) + 1) (.ref wq) = true ∧ Th g H' 1 (.ref wq) ∧ tupOf H' (.ref wq) = some [.int x', .int y'] ∧ rTim mg H' u R L ∧ rOp H' vo p ∧ below (.int (k : Int)) 1000000001 = true := by
          intro H' k b h hk
          have kk := hh12.keep b
          have hq := kk.tup hwq
          exact ⟨nbB_of (tupOf_at hq) x0 x1 y0 y1 hxy, way_pair hq h.lst, tupOf_at hq, mono_tim kk hu13, mono_op _ _ _ _ kk hvo, below_of (by omega) (by omega)⟩
        refine for_it (walk_range (lo := 0) (n := nt.toNat)) (fun k σ H' => But g H13 H' ∧ Hand g c H' ∧ ∃ o12 tot, tot = (if k = 0 then 0 else carL p (k - 1)) ∧ σ = [some (.ref a), some (.ref g), some (.ref kp), some (.int (0 + (i : Int))), some (.int (1 + m)), some (.ref tr), some (.ref tl), some u, some (.int (j : Int)), some (.ref wq), some vo, some (.int tot), o12, o13, o14, none, none, none, none])
          ⟨b14, hh14, o12, 0, (if_pos rfl).symm, rfl⟩ (fun _ _ _ _ _ => trivial) ?_ ?_
        · rintro k vk σ H15 H16 hk ⟨b15, hh15, o12, tot, htot, rfl⟩ ⟨rfl, rfl⟩
          obtain ⟨e1, e2, e3, e4, e5, e6⟩ := step k b15 hh15 (by omega)
          have ek : (0 : Int) + (k : Int) = (k : Int) := by omega
          rw [show ((fun i : Nat => V.int (0 + (i : Int))) k) = V.int (k : Int) from congrArg V.int ek]
          refine ⟨_, rfl, _, rfl, _, rfl, vo, p, k, rfl, e5, oo, _, _, rfl, rfl, ?_⟩
          have etot : tot + plcL p k = carL p k := by
            rw [htot]
            by_cases hk0 : k = 0
            · subst hk0; rw [if_pos rfl, carL_zero]; rfl
            · obtain ⟨k', rfl⟩ : ∃ k', k = k' + 1 := ⟨k - 1, by omega⟩
              rw [if_neg (by omega), Nat.add_sub_cancel, carL_succ oo.ne]
          rw [show ((fun i j : Int => V.int (i + j)) tot (plcL p k)) = V.int (carL p k) from congrArg V.int etot]
          dsimp only [gName, tSeq]
          refine ⟨_, rfl, _, rfl, _, rfl, g, _, _, _, _, _, rfl, e4, ok, e2, .inl trivial, fun e' => absurd (e1.symm.trans e') (by decide), fun _ e' => absurd (e6.symm.trans e') (by decide), fun a' b' k' ew ek' _ _ _ H17 v17 s17 hv17 => ?_⟩
          rw [e3] at ew
          cases ew
          cases ek'
          subst hv17
          rw [hop, Int.toNat_natCast]
          obtain ⟨f1, f2, f3, f4, f5, f6⟩ := step k (b15.trans (s17.but g)) (hh15.same s17) (by omega)
          refine ⟨_, rfl, _, rfl, _, rfl, g, _, _, _, _, _, rfl, f4, ok, f2, .inl trivial, fun e' => absurd (f1.symm.trans e') (by decide), fun _ e' => absurd (f6.symm.trans e') (by decide), fun a' b' k' ew ek' _ _ _ H18 v18 s18 hv18 => ?_⟩
          rw [f3] at ew
          cases ew
          cases ek'
          subst hv18
          rw [hop, Int.toNat_natCast]
          refine ⟨by show 2 ≤ sizeLine; decide, fun la nla => ?_⟩
          have sla := same_new (o := .lst [V.int (plcL p k), V.int (carL p k)]) nla
          have s19 := (s17.trans s18).trans sla
          obtain ⟨g1, g2, g3, g4, g5, g6⟩ := step k (b15.trans (s19.but g)) (hh15.same s19) (by omega)
          refine ⟨_, rfl, _, rfl, vo, p, k, rfl, g5, oo, _, rfl, by show 2 ≤ sizeLine; decide, fun lb nlb => ?_⟩
          have slb := same_new (o := .lst [V.int (plcL p k), V.int (carL p k)]) nlb
          refine ⟨la, lb, [.int (plcL p k), .int (carL p k)], rfl, slb _ _ upd_same, upd_same, by show 2 ≤ 100; decide, mem2 (P := fl) trivial trivial, fun H20 s20 => ⟨_, rfl, iteF ?_⟩⟩
          have sz := (s19.trans slb).trans s20
          exact ⟨b15.trans (sz.but g), hh15.same sz, _, carL p k, by rw [if_neg (Nat.succ_ne_zero k), Nat.add_sub_cancel], rfl⟩
        · rintro σ H15 ⟨b15, hh15, o12, tot, htot, rfl⟩
          refine ⟨_, rfl, _, _, rfl, rfl, ⟨by decide, by decide, by decide⟩, g, c, _, rfl, by decide, by decide, hh15, fun H16 far b16 hh16 far0 far1 => ?_⟩
          dsimp only [gName, tSeq]
          obtain ⟨k, rfl⟩ : ∃ k : Nat, far = (k : Int) := ⟨far.toNat, by omega⟩
          have hk9 : (k : Int) ≤ 1000000000 := by
            have : (10 : Int) ^ (9 : Int).toNat = 1000000000 := by decide
            omega
          have b1316 := b15.trans b16
          obtain ⟨e1, e2, e3, e4, e5, e6⟩ := step k b1316 hh16 hk9
          refine ⟨_, rfl, _, rfl, _, rfl, g, _, _, _, _, _, rfl, e4, ok, e2, .inl trivial, fun e' => absurd (e1.symm.trans e') (by decide), fun _ e' => absurd (e6.symm.trans e') (by decide), fun a' b' k' ew ek' _ _ _ H17 v17 s17 hv17 => ?_⟩
          rw [e3] at ew
          cases ew
          cases ek'
          subst hv17
          rw [hop, Int.toNat_natCast]
          obtain ⟨f1, f2, f3, f4, f5, f6⟩ := step k (b1316.trans (s17.but g)) (hh16.same s17) hk9
          refine ⟨_, rfl, _, rfl, _, rfl, g, _, _, _, _, _, rfl, f4, ok, f2, .inl trivial, fun e' => absurd (f1.symm.trans e') (by decide), fun _ e' => absurd (f6.symm.trans e') (by decide), fun a' b' k' ew ek' _ _ _ H18 v18 s18 hv18 => ?_⟩
          rw [f3] at ew
          cases ew
          cases ek'
          subst hv18
          rw [hop, Int.toNat_natCast]
          refine ⟨by show 2 ≤ sizeLine; decide, fun la nla => ?_⟩
          have sla := same_new (o := .lst [V.int (plcL p k), V.int (carL p k)]) nla
          have s19 := (s17.trans s18).trans sla
          obtain ⟨g1, g2, g3, g4, g5, g6⟩ := step k (b1316.trans (s19.but g)) (hh16.same s19) hk9
          refine ⟨_, rfl, _, rfl, vo, p, k, rfl, g5, oo, _, rfl, _, rfl, vo, p, k, rfl, g5, oo, fun H20 s20 => ⟨by show 2 ≤ sizeLine; decide, fun lb nlb => ?_⟩⟩
          have slb := same_new (o := .lst [V.int (plcL p k), V.int (carL p k)]) nlb
          refine ⟨la, lb, [.int (plcL p k), .int (carL p k)], rfl, slb _ _ (s20 _ _ upd_same), upd_same, by show 2 ≤ 100; decide, mem2 (P := fl) trivial trivial, fun H21 s21 => ⟨_, rfl, iteF ?_⟩⟩
          have sz := ((s19.trans s20).trans slb).trans s21
          exact ⟨(b12.trans b1316).trans (sz.but g), hh16.same sz, _, _, _, _, _, rfl⟩
      · rintro σ H12 ⟨b12, hh12, o9, o10, o11, o12, o13, rfl⟩
        have b912 := b11.trans b12
        have kb912 := hh9.keep b912
        have hR12 := mono_tup mono_op _ _ _ _ kb912 hR9
        have hL12 := mono_tup mono_op _ _ _ _ kb912 hL9
        refine ⟨_, rfl, _, rfl, g, c, .ref tr, R, rfl, hR12, by omega, ok.r, hh12, fun H13 v1 b13 hh13 t1 => ⟨_, rfl, by show 2 ≤ sizeLine; decide, fun q1 nq1 => ?_⟩⟩
        have sq1 := same_new (o := .tup [v1, V.ref tl]) nq1
        have q1g := (hand_new hh13 nq1).1
        have hh13' := hh13.same sq1
        have b1213 := b13.trans (sq1.but g)
        have kb13 := hh12.keep b1213
        have hR13 := mono_tup mono_op _ _ _ _ kb13 hR12
        have hL13 := mono_tup mono_op _ _ _ _ kb13 hL12
        refine ⟨_, rfl, _, rfl, _, rfl, g, c, .ref tl, L, rfl, hL13, by omega, ok.l, hh13', fun H14 v2 b14 hh14 t2 => ⟨by show 2 ≤ sizeLine; decide, fun q2 nq2 => ⟨by show 2 ≤ sizeLine; decide, fun lq nlq => ?_⟩⟩⟩
        have sq2 := same_new (o := .tup [V.ref tr, v2]) nq2
        have slq := same_new (o := .lst [V.ref q1, V.ref q2]) nlq
        have lqg := (hand_new (hh14.same sq2) nlq).1
        have q2g := (hand_new hh14 nq2).1
        have s1415 := sq2.trans slq
        refine ⟨_, rfl, g, c, 2, rfl, by decide, by decide, hh14.same s1415, fun H15 kz b15 hh15 kz0 kz1 => ?_⟩
        have b1415 := (s1415.but g).trans b15
        have hlq := b15 _ _ lqg upd_same
        have b1215 := (b1213.trans b14).trans b1415
        have kb15 := hh12.keep b1215
        have hR15 := mono_tup mono_op _ _ _ _ kb15 hR12
        have hL15 := mono_tup mono_op _ _ _ _ kb15 hL12
        have f1 : H15 q1 = some (.tup [v1, V.ref tl]) := b1415 _ _ q1g (b14 _ _ q1g upd_same)
        have f2 : H15 q2 = some (.tup [V.ref tr, v2]) := b15 _ _ q2g (slq _ _ upd_same)
        have u1 : Th g H15 3 v1 := ((t1.same sq1).but b14).but b1415
        have u2 : Th g H15 3 v2 := t2.but b1415
        have w1 : Th g H15 3 (.ref tr) := Th.ops hh15.lst hR15 (by omega) ok.r
        have w2 : Th g H15 3 (.ref tl) := Th.ops hh15.lst hL15 (by omega) ok.l
        have hz : ∃ (qq : Addr) (x y : V), atI [V.ref q1, V.ref q2] kz = some (.ref qq) ∧ H15 qq = some (.tup [x, y]) ∧ Th g H15 3 x ∧ Th g H15 3 y := by
          obtain ⟨jz, rfl⟩ : ∃ jz : Nat, kz = (jz : Int) := ⟨kz.toNat, by omega⟩
          match jz, kz1 with
          | 0, _ => exact ⟨q1, _, _, atI_nat rfl, f1, u1, w2⟩
          | 1, _ => exact ⟨q2, _, _, atI_nat rfl, f2, w1, u2⟩
          | n + 2, h => omega
        obtain ⟨qq, x, y, hat, hqq, tx, ty⟩ := hz
        refine ⟨lq, _, _, _, rfl, rfl, .of hlq, hat, ?_⟩
        dsimp only [gName, tSeq]
        refine ⟨_, rfl, qq, _, _, _, rfl, rfl, .of hqq, at_of (j := 0) rfl rfl, _, rfl, qq, _, _, _, rfl, rfl, .of hqq, at_of (j := 1) rfl rfl, g, x, y, rfl, tx, ty, fun H16 s16 => ⟨by show 1 ≤ sizeLine; decide, fun la nla => ?_⟩⟩
        have sla := same_new (o := .lst [partV H15 x y]) nla
        have s17 := s16.trans sla
        refine ⟨_, rfl, qq, _, _, _, rfl, rfl, .of (s17 _ _ hqq), at_of (j := 0) rfl rfl, _, rfl, qq, _, _, _, rfl, rfl, .of (s17 _ _ hqq), at_of (j := 1) rfl rfl, g, x, y, rfl, tx.same s17, ty.same s17, fun H18 s18 => ?_⟩
        rw [show partV _ x y = partV H15 x y from partV_but (s17.but g) tx ty]
        refine ⟨by show 1 ≤ sizeLine; decide, fun lb nlb => ?_⟩
        have slb := same_new (o := .lst [partV H15 x y]) nlb
        refine ⟨la, lb, [partV H15 x y], rfl, slb _ _ (s18 _ _ upd_same), upd_same, by show 1 ≤ 100; decide, mem1 (P := fl) (fl_part _ _ _), fun H19 s19 => ⟨_, rfl, iteF ?_⟩⟩
        have sz := ((s17.trans s18).trans slb).trans s19
        have b1219 := b1215.trans (sz.but g)
        have hh19 := hh15.same sz
        have hu19 := mono_tim (hh9.keep (b912.trans b1219)) hu9
        refine ⟨_, rfl, _, rfl, _, rfl, g, c, u, R, L, by rw [hRn, en]; rfl, hu19, ok, hh19, fun H20 b20 hh20 => ⟨_, rfl, iteF ?_⟩⟩
        refine ⟨_, rfl, g, c, rfl, hh20, fun H21 b21 hh21 => ⟨_, rfl, iteF ?_⟩⟩
        have bz := ((b912.trans b1219).trans b20).trans b21
        exact ⟨hh21, es9, D9, bz.lst kg hk9, paired_mono (mono_ent mg) (hh9.keep bz) hp9, okD9, hlen9, _, _, _, _, _, _, _, _, _, _, _, _, rfl⟩
    · rintro σ H2 ⟨hh2, es, D, hkp, hpD, okD, hlen, o3, o4, o5, o6, o7, o8, o9, o10, o11, o12, o13, o14, rfl⟩
      refine ⟨_, rfl, kp, rfl, ⟨_, .of hkp⟩, ?_⟩
      refine for_it (walk_list (xs := es)) (fun i σ H' => Same H2 H' ∧ ∃ o15 o16 o17 o18, σ = [some (.ref a), some (.ref g), some (.ref kp), o3, o4, o5, o6, o7, o8, o9, o10, o11, o12, o13, o14, o15, o16, o17, o18]) ⟨.refl _, none, none, none, none, rfl⟩ (fun i σ H' _ h => .of (h.1 _ _ hkp)) ?_ ?_
      · rintro i x σ H3 H4 hi ⟨s3, o15, o16, o17, o18, rfl⟩ ⟨rfl, hx⟩
        obtain ⟨z1, hz1, e1, tv1, pr1, r1, l1, rfl, h10, h11, h12, h13, h14⟩ := paired_get (paired_mono (mono_ent mg) s3.keep hpD) hx
        have ok1 := okD _ (List.mem_of_getElem? hz1)
        refine ⟨e1, _, rfl, .of h10, rfl, _, _, rfl, _, _, rfl, rfl, ?_⟩
        refine ⟨_, rfl, kp, rfl, ⟨_, .of (s3 _ _ hkp)⟩, ?_⟩
        refine for_it (walk_list (xs := es)) (fun i σ H' => Same H4 H' ∧ ∃ o17 o18, σ = [some (.ref a), some (.ref g), some (.ref kp), o3, o4, o5, o6, o7, o8, o9, o10, o11, o12, o13, o14, some tv1, some (.ref pr1), o17, o18]) ⟨.refl _, o17, o18, rfl⟩ (fun i σ H' _ h => .of (h.1 _ _ (s3 _ _ hkp))) ?_ ?_
        · rintro k x σ H5 H6 hk ⟨s5, o17, o18, rfl⟩ ⟨rfl, hx2⟩
          have s35 := s3.trans s5
          obtain ⟨z2, hz2, e2, tv2, pr2, r2, l2, rfl, h20, h21, h22, h23, h24⟩ := paired_get (paired_mono (mono_ent mg) s35.keep hpD) hx2
          refine ⟨e2, _, rfl, .of h20, rfl, _, _, rfl, _, _, rfl, rfl, ?_⟩
          have k5 := s5.keep
          have g12 := mono_tim k5 h12
          obtain ⟨a1, da1, ra1, la1, rfl, hi1, hR1, hL1⟩ := id g12
          obtain ⟨a2, da2, ra2, la2, rfl, hi2, hR2, hL2⟩ := id h22
          refine ⟨_, rfl, _, rfl, a1, da1, _, rfl, hi1, ⟨_, .base (.ins hi2 iT.cl iT.ha iT.hn iT.htk iT.hm), by simp [PySem.W.notFirst]⟩, .ref a1, .ref a2, z1.1, z1.2, rfl, g12, .inl ⟨z2.1, z2.2, h22, ⟨_, rfl⟩, ?_⟩⟩
          have hp1 : Dp K H6 (.ref pr1) (.tuple [dOps z1.1, dOps z1.2]) := .tup (.of (k5.tup h11)) (.cons (dp_ops (mono_tup mono_op _ _ _ _ k5 h13)) (.cons (dp_ops (mono_tup mono_op _ _ _ _ k5 h14)) .nil))
          have hp2 : Dp K H6 (.ref pr2) (.tuple [dOps z2.1, dOps z2.2]) := .tup (.of h21) (.cons (dp_ops h23) (.cons (dp_ops h24) .nil))
          refine ⟨_, rfl, _, rfl, _, _, hp1, hp2, (shp_pair _ _).ok (by decide), (shp_pair _ _).ok (by decide), rfl, _, rfl, ?_⟩
          rw [eqv_pair]
          unfold timD
          rw [decide_eq_true rfl]
          refine iteF ?_
          refine ⟨_, rfl, _, rfl, a1, da1, _, rfl, hi1, ⟨_, .base (.tup h21), ?_⟩, .ref a1, .ref pr2, z1.1, z1.2, rfl, g12, .inr ⟨pr2, _, rfl, h21, ⟨_, rfl⟩, _, rfl, iteF ⟨s5, _, _, rfl⟩⟩⟩
          show (Value.type "tuple" == Value.ref (cTim mg) || PySem.W.subIn K (.type "tuple") (.ref (cTim mg)) == some false) = true
          rw [sub_tup]
          simp
        · rintro σ H5 ⟨s5, o17, o18, rfl⟩
          exact ⟨s3.trans s5, _, _, _, _, rfl⟩
      · rintro σ H3 ⟨s3, o15, o16, o17, o18, rfl⟩
        exact q _
end
end S4

namespace S4
open PySem L2 TT EE
theorem dc_mk {K : PySem.W.Frag} {h : Heap} {mg : Str → Option Value} {x q : Str} {st : Stmt} {ps fl : List Str} {C f : Addr} {oc : Value} {od an : Option Addr} {osl : Array (Option Value)} {kV doc pm cdv ct : Value} (X : K.In h) (G : h.Ns mainGlobals mg)
    (hb : ∀ (kV doc pm : Value) (an : Option Addr) (cdv ct : Value) (us : List Value), us.length = ps.length → bindArgs (PySem.W.fnOf "__init__" q (defArgs st) (defBody st) (defScope st) .none kV doc pm an cdv ct) ⟨us, []⟩ = pure (ps.zip us))
    (aC : mg x = some (.ref C))
    (a : PySem.W.findIn K (.ref C) "__init__" = some (some (.ref f))) (i : PySem.W.isFn K (.ref f) = true)
    (l : K.lookup f = some ⟨oc, od, .func (PySem.W.fnOf "__init__" q (defArgs st) (defBody st) (defScope st) .none kV doc pm an cdv ct), osl⟩) (c : PySem.W.codeIn K cdv q = true) (k : PySem.W.keepIn K (.ref f) = true)
    (mk : PySem.W.makesIn K C = true) (kc : PySem.W.keepIn K (.ref C) = true)
    (pg : PySem.W.plainGet K C Str.empty = true) (hd : PySem.W.hasDictIn K C = true) (po : PySem.W.plainOver K C = true) (sa : PySem.W.findIn K (.ref C) "__setattr__" = some (some (.builtin "object.__setattr__")))
    (na : ∀ y ∈ fl, NoAttr K C y) : ∃ f fd, DC K mg x q st ps fl C f fd :=
  ⟨f, _, fun_mk l c k, (fun_mk l c k).binds hb, aC, ⟨mk, a, i, kc⟩, ⟨pg, hd, po, sa⟩, na⟩
theorem dm_mk {K : PySem.W.Frag} {m q : Str} {st : Stmt} {ps : List Str} {C f : Addr} {oc : Value} {od an : Option Addr} {osl : Array (Option Value)} {kV doc pm cdv ct : Value}
    (hb : ∀ (kV doc pm : Value) (an : Option Addr) (cdv ct : Value) (us : List Value), us.length = ps.length → bindArgs (PySem.W.fnOf m q (defArgs st) (defBody st) (defScope st) .none kV doc pm an cdv ct) ⟨us, []⟩ = pure (ps.zip us))
    (a : PySem.W.findIn K (.ref C) m = some (some (.ref f))) (i : PySem.W.isFn K (.ref f) = true)
    (l : K.lookup f = some ⟨oc, od, .func (PySem.W.fnOf m q (defArgs st) (defBody st) (defScope st) .none kV doc pm an cdv ct), osl⟩) (c : PySem.W.codeIn K cdv q = true) (k : PySem.W.keepIn K (.ref f) = true) : ∃ f fd, DM K m q st ps C f fd :=
  ⟨f, _, fun_mk l c k, (fun_mk l c k).binds hb, a, i⟩
theorem ei_mk {K : PySem.W.Frag} {q : Str} {st : Stmt} {ps fl : List Str} {C f : Addr} {oc : Value} {od an : Option Addr} {osl : Array (Option Value)} {kV doc pm cdv ct : Value}
    {nm qn : Str} {N : Addr} {bs bm : List Value} {sn : List Str} {sub : List Value} {ab : Bool} {col : Option Bool} {dd : Option Addr} {m0 m1 m2 m3 m5 : Option Value}
    (hb : ∀ (kV doc pm : Value) (an : Option Addr) (cdv ct : Value) (us : List Value), us.length = ps.length → bindArgs (PySem.W.fnOf "__init__" q (defArgs st) (defBody st) (defScope st) .none kV doc pm an cdv ct) ⟨us, []⟩ = pure (ps.zip us))
    (xL : K.lookup C = some (PySem.excClassObj nm qn C N bs bm true sn sub ab col dd m0 m1 m2 m3 m5 "ValueError.__new__")) (rv : PySem.HandSPX.refsVE bm = true)
    (sa : PySem.W.findIn K (.ref C) "__setattr__" = some (some (.builtin "object.__setattr__"))) (eC : PySem.W.subIn K (.ref C) (.type "BaseException") = some true) (tC : PySem.W.typeIn K (.ref C) = some (.type "type")) (kC : PySem.W.keepIn K (.ref C) = true)
    (a : PySem.W.findIn K (.ref C) "__init__" = some (some (.ref f))) (t1 : PySem.W.typeIn K (.ref f) = some (.type "function"))
    (l : K.lookup f = some ⟨oc, od, .func (PySem.W.fnOf "__init__" q (defArgs st) (defBody st) (defScope st) .none kV doc pm an cdv ct), osl⟩) (c : PySem.W.codeIn K cdv q = true) (k : PySem.W.keepIn K (.ref f) = true)
    (no : ∀ y ∈ fl, PySem.W.findIn K (.ref C) y = some none) : ∃ f fd, EI K q st ps fl C f fd :=
  ⟨f, _, fun_mk l c k, (fun_mk l c k).binds hb, ⟨⟨nm, qn, N, bs, bm, sn, sub, ab, col, dd, m0, m1, m2, m3, m5, xL, rv⟩, sa, eC, tC, kC⟩, a, t1, no⟩
theorem cls_of {K : PySem.W.Frag} {h : Heap} {mg : Str → Option Value} {x : Str} {C : Addr} (X : K.In h) (G : h.Ns mainGlobals mg) (a : PySem.W.nsIn K mainGlobals x = some (some (.ref C))) : mg x = some (.ref C) := PySem.W.mg_of X G a
theorem kit_ve {K : PySem.W.Frag} {C : Addr} (h : PySem.W.subIn K (.ref C) (.type "ValueError") = some true) : PySem.W.kitOne K (.ref C) (.type "ValueError") = some true := by
  unfold PySem.W.kitOne
  rw [if_neg (by simp)]
  show (if PySem.W.kitMeta "ValueError" = true then PySem.W.subIn K (.ref C) (.type "ValueError") else none) = some true
  rw [if_pos (by decide +kernel)]
  exact h
theorem kit_self (K : PySem.W.Frag) (C : Addr) : PySem.W.kitOne K (.ref C) (.ref C) = some true := if_pos (beq_self_eq_true _)
theorem use {a b : Prop} (h : a) (f : a → b) : b := f h
theorem int_mk {mg : Str → Option Value} {x : Str} {v : Value} {n : Int} (h : mg x = some v) (e : ∃ t, v = .int n t) : ∃ t, mg x = some (.int n t) := by
  obtain ⟨t, rfl⟩ := e
  exact ⟨t, h⟩
theorem all_mk {l : PySem.W.OpenLaw} {w : World} {K : PySem.W.Frag} {mg : Str → Option Value} {fa : Addr} {cT cS : Addr} (hfa : mg "law" = some (.ref fa)) (T : Tx K mg cT cS) :
    ∃ fd : FuncData, (∀ (s : Shared) (v : Value), BindsTo s fd ⟨[v], []⟩ [("script", v)]) ∧ ∀ base : Heap, K.In base → base.Ns mainGlobals mg → FnOk l.prog w K mg base CX0 10 fa fd ["script"] (spLaw K) := by
  obtain ⟨f, fd, d⟩ := T.d_law
  have e := hfa.symm.trans d.m
  cases e
  refine ⟨fd, ?_, fun base _ _ => ok_law T d⟩
  obtain ⟨oc, od, kV, doc, pm, an, cdv, ct, osl, rfl, lk, hcd⟩ := d.F.ex
  exact fun s v => .of_eq rfl
theorem walk {l : PySem.W.OpenLaw} {q : Program} {loose : List Str} {XP : (Str → Option Value) → Heap → Prop} {YP : World → Heap → Prop} {d : DefRec} {K : Params → PySem.W.Frag} (hn : l.most = some 63) (hdf : d.params.defaults = [])
    (hY : ∀ (w : World) (h : Heap), YP w h → (K w.params).In h)
    (F : ∀ (w : World) (mg : Str → Option Value) (fa : Addr) (h : Heap), (K w.params).In h → h.Ns mainGlobals mg → mg d.name = some (.ref fa) →
      ∃ fd : FuncData, (∀ (s : Shared) (u : Value), BindsTo s fd ⟨[u], []⟩ [("script", u)]) ∧ ∀ base : Heap, (K w.params).In base → base.Ns mainGlobals mg → FnOk l.prog w (K w.params) mg base CX0 10 fa fd ["script"] (spLaw (K w.params))) :
    PySem.W.WalkO q loose XP YP l.row.toRowW d [] (fun f vs => PySem.call f vs) :=
  L2.walk_of (n := 63) (k := 10) (x := "script") (CX := fun _ => CX0) (sp := fun w => spLaw (K w.params)) hn (by decide) hdf ⟨rfl, by decide, by decide⟩ hY F (fun _ _ a ns hl _ hS => ⟨a, ns, rfl, hS, hl, fun _ => rfl⟩) fun _ _ _ _ _ z => z
end S4

open PySem PySem.W PyProof.Rows in
set_option maxRecDepth 100000 in
set_option maxHeartbeats 0 in
theorem PySem.Challenge.cw_sametolls_k24_whole_openings_tick_by_tic_holds : PySem.Challenge.rw_sametolls_k24_whole_openings_tick_by_tic.Holds := by
  w_on; o_law; k_head; (case hw => w_witness2)
  k_fill
  refine S4.walk (l := PySem.Challenge.rw_sametolls_k24_whole_openings_tick_by_tic) rfl rfl (fun w h Y => PySem.W.kIn_of Y) ?F
  case F =>
    intro w mg fa h KX G hmg
    refine' S4.use (S4.cls_of (x := "Timing") KX G ?a) (fun m_Timing => ?_)
    (case a => k_is)
    refine' S4.use (S4.cls_of (x := "TollError") KX G ?a) (fun m_TollError => ?_)
    (case a => k_is)
    refine' S4.use (S4.cls_of (x := "NoNumber") KX G ?a) (fun m_NoNumber => ?_)
    (case a => k_is)
    refine' S4.use (S4.cls_of (x := "NoWay") KX G ?a) (fun m_NoWay => ?_)
    (case a => k_is)
    refine' S4.use (S4.cls_of (x := "NoTick") KX G ?a) (fun m_NoTick => ?_)
    (case a => k_is)
    refine' S4.use (S4.cls_of (x := "BadTiming") KX G ?a) (fun m_BadTiming => ?_)
    (case a => k_is)
    have b_abs : mg "abs" = none := PySem.W.mg_none_of KX G (by k_is)
    have b_all : mg "all" = none := PySem.W.mg_none_of KX G (by k_is)
    have b_bool : mg "bool" = none := PySem.W.mg_none_of KX G (by k_is)
    have b_divmod : mg "divmod" = none := PySem.W.mg_none_of KX G (by k_is)
    have b_int : mg "int" = none := PySem.W.mg_none_of KX G (by k_is)
    have b_isinstance : mg "isinstance" = none := PySem.W.mg_none_of KX G (by k_is)
    have b_len : mg "len" = none := PySem.W.mg_none_of KX G (by k_is)
    have b_list : mg "list" = none := PySem.W.mg_none_of KX G (by k_is)
    have b_range : mg "range" = none := PySem.W.mg_none_of KX G (by k_is)
    have b_sum : mg "sum" = none := PySem.W.mg_none_of KX G (by k_is)
    have b_tuple : mg "tuple" = none := PySem.W.mg_none_of KX G (by k_is)
    have b_zip : mg "zip" = none := PySem.W.mg_none_of KX G (by k_is)
    have c_MOST_TIES : ∃ t, mg "MOST_TIES" = some (.int 23 t) := by
      refine' S4.int_mk (PySem.W.mg_of KX G ?a) ?e
      (case a => k_is)
      (case e => exact ⟨_, rfl⟩)
    have c_MOST_TURNS : ∃ t, mg "MOST_TURNS" = some (.int 40 t) := by
      refine' S4.int_mk (PySem.W.mg_of KX G ?a) ?e
      (case a => k_is)
      (case e => exact ⟨_, rfl⟩)
    have c_MOST_PLACES : ∃ t, mg "MOST_PLACES" = some (.int 8 t) := by
      refine' S4.int_mk (PySem.W.mg_of KX G ?a) ?e
      (case a => k_is)
      (case e => exact ⟨_, rfl⟩)
    have c_LAST_TICK : ∃ t, mg "LAST_TICK" = some (.int 1000000000 t) := by
      refine' S4.int_mk (PySem.W.mg_of KX G ?a) ?e
      (case a => k_is)
      (case e => exact ⟨_, rfl⟩)
    refine' S4.use (S4.DE.mk (x := "is_integer") (st := S4.s_is_integer) (ps := ["thing"]) KX G (fun _ _ _ _ _ _ us hl => match us, hl with | [_], _ => rfl) ?a ?l ?c ?k) (fun d_is_integer => ?_)
    (case a => k_is)
    (case l => k_is)
    (case c => k_is)
    (case k => k_is)
    refine' S4.use (S4.DE.mk (x := "is_below") (st := S4.s_is_below) (ps := ["thing", "end"]) KX G (fun _ _ _ _ _ _ us hl => match us, hl with | [_, _], _ => rfl) ?a ?l ?c ?k) (fun d_is_below => ?_)
    (case a => k_is)
    (case l => k_is)
    (case c => k_is)
    (case k => k_is)
    refine' S4.use (S4.DE.mk (x := "is_pair") (st := S4.s_is_pair) (ps := ["thing"]) KX G (fun _ _ _ _ _ _ us hl => match us, hl with | [_], _ => rfl) ?a ?l ?c ?k) (fun d_is_pair => ?_)
    (case a => k_is)
    (case l => k_is)
    (case c => k_is)
    (case k => k_is)
    refine' S4.use (S4.DE.mk (x := "are_openings") (st := S4.s_are_openings) (ps := ["things"]) KX G (fun _ _ _ _ _ _ us hl => match us, hl with | [_], _ => rfl) ?a ?l ?c ?k) (fun d_are_openings => ?_)
    (case a => k_is)
    (case l => k_is)
    (case c => k_is)
    (case k => k_is)
    refine' S4.use (S4.DE.mk (x := "is_opening") (st := S4.s_is_opening) (ps := ["thing"]) KX G (fun _ _ _ _ _ _ us hl => match us, hl with | [_], _ => rfl) ?a ?l ?c ?k) (fun d_is_opening => ?_)
    (case a => k_is)
    (case l => k_is)
    (case c => k_is)
    (case k => k_is)
    refine' S4.use (S4.DE.mk (x := "are_turns") (st := S4.s_are_turns) (ps := ["thing"]) KX G (fun _ _ _ _ _ _ us hl => match us, hl with | [_], _ => rfl) ?a ?l ?c ?k) (fun d_are_turns => ?_)
    (case a => k_is)
    (case l => k_is)
    (case c => k_is)
    (case k => k_is)
    refine' S4.use (S4.DE.mk (x := "even_timing") (st := S4.s_even_timing) (ps := ["ties", "breadth"]) KX G (fun _ _ _ _ _ _ us hl => match us, hl with | [_, _], _ => rfl) ?a ?l ?c ?k) (fun d_even_timing => ?_)
    (case a => k_is)
    (case l => k_is)
    (case c => k_is)
    (case k => k_is)
    refine' S4.use (S4.DE.mk (x := "check_breadth") (st := S4.s_check_breadth) (ps := ["breadth"]) KX G (fun _ _ _ _ _ _ us hl => match us, hl with | [_], _ => rfl) ?a ?l ?c ?k) (fun d_check_breadth => ?_)
    (case a => k_is)
    (case l => k_is)
    (case c => k_is)
    (case k => k_is)
    refine' S4.use (S4.DE.mk (x := "places") (st := S4.s_places) (ps := ["timing", "way", "tick"]) KX G (fun _ _ _ _ _ _ us hl => match us, hl with | [_, _, _], _ => rfl) ?a ?l ?c ?k) (fun d_places => ?_)
    (case a => k_is)
    (case l => k_is)
    (case c => k_is)
    (case k => k_is)
    refine' S4.use (S4.DE.mk (x := "carried") (st := S4.s_carried) (ps := ["timing", "way", "tick"]) KX G (fun _ _ _ _ _ _ us hl => match us, hl with | [_, _, _], _ => rfl) ?a ?l ?c ?k) (fun d_carried => ?_)
    (case a => k_is)
    (case l => k_is)
    (case c => k_is)
    (case k => k_is)
    refine' S4.use (S4.DE.mk (x := "opening_at") (st := S4.s_opening_at) (ps := ["timing", "way", "tick"]) KX G (fun _ _ _ _ _ _ us hl => match us, hl with | [_, _, _], _ => rfl) ?a ?l ?c ?k) (fun d_opening_at => ?_)
    (case a => k_is)
    (case l => k_is)
    (case c => k_is)
    (case k => k_is)
    refine' S4.use (S4.DE.mk (x := "are_neighbours") (st := S4.s_are_neighbours) (ps := ["posts", "thing"]) KX G (fun _ _ _ _ _ _ us hl => match us, hl with | [_, _], _ => rfl) ?a ?l ?c ?k) (fun d_are_neighbours => ?_)
    (case a => k_is)
    (case l => k_is)
    (case c => k_is)
    (case k => k_is)
    refine' S4.use (S4.DE.mk (x := "_law_whole") (st := S4.s_law_whole) (ps := ["thing", "least", "most"]) KX G (fun _ _ _ _ _ _ us hl => match us, hl with | [_, _, _], _ => rfl) ?a ?l ?c ?k) (fun d_law_whole => ?_)
    (case a => k_is)
    (case l => k_is)
    (case c => k_is)
    (case k => k_is)
    refine' S4.use (S4.DE.mk (x := "_law_draw") (st := S4.s_law_draw) (ps := ["hand", "many"]) KX G (fun _ _ _ _ _ _ us hl => match us, hl with | [_, _], _ => rfl) ?a ?l ?c ?k) (fun d_law_draw => ?_)
    (case a => k_is)
    (case l => k_is)
    (case c => k_is)
    (case k => k_is)
    refine' S4.use (S4.DE.mk (x := "_law_deep") (st := S4.s_law_deep) (ps := ["hand"]) KX G (fun _ _ _ _ _ _ us hl => match us, hl with | [_], _ => rfl) ?a ?l ?c ?k) (fun d_law_deep => ?_)
    (case a => k_is)
    (case l => k_is)
    (case c => k_is)
    (case k => k_is)
    refine' S4.use (S4.DE.mk (x := "_law_is") (st := S4.s_law_is) (ps := ["told", "due"]) KX G (fun _ _ _ _ _ _ us hl => match us, hl with | [_, _], _ => rfl) ?a ?l ?c ?k) (fun d_law_is => ?_)
    (case a => k_is)
    (case l => k_is)
    (case c => k_is)
    (case k => k_is)
    refine' S4.use (S4.DE.mk (x := "_law_hand") (st := S4.s_law_hand) (ps := ["script"]) KX G (fun _ _ _ _ _ _ us hl => match us, hl with | [_], _ => rfl) ?a ?l ?c ?k) (fun d_law_hand => ?_)
    (case a => k_is)
    (case l => k_is)
    (case c => k_is)
    (case k => k_is)
    refine' S4.use (S4.DE.mk (x := "_law_opening") (st := S4.s_law_opening) (ps := ["hand"]) KX G (fun _ _ _ _ _ _ us hl => match us, hl with | [_], _ => rfl) ?a ?l ?c ?k) (fun d_law_opening => ?_)
    (case a => k_is)
    (case l => k_is)
    (case c => k_is)
    (case k => k_is)
    refine' S4.use (S4.DE.mk (x := "_law_timing_parts") (st := S4.s_law_timing_parts) (ps := ["hand", "ties"]) KX G (fun _ _ _ _ _ _ us hl => match us, hl with | [_, _], _ => rfl) ?a ?l ?c ?k) (fun d_law_timing_parts => ?_)
    (case a => k_is)
    (case l => k_is)
    (case c => k_is)
    (case k => k_is)
    refine' S4.use (S4.DE.mk (x := "_law_places") (st := S4.s_law_places) (ps := ["opening", "tick"]) KX G (fun _ _ _ _ _ _ us hl => match us, hl with | [_, _], _ => rfl) ?a ?l ?c ?k) (fun d_law_places => ?_)
    (case a => k_is)
    (case l => k_is)
    (case c => k_is)
    (case k => k_is)
    refine' S4.use (S4.DE.mk (x := "_law_is_opening") (st := S4.s_law_is_opening) (ps := ["thing"]) KX G (fun _ _ _ _ _ _ us hl => match us, hl with | [_], _ => rfl) ?a ?l ?c ?k) (fun d_law_is_opening => ?_)
    (case a => k_is)
    (case l => k_is)
    (case c => k_is)
    (case k => k_is)
    refine' S4.use (S4.DE.mk (x := "_law_due") (st := S4.s_law_due) (ps := ["right", "left"]) KX G (fun _ _ _ _ _ _ us hl => match us, hl with | [_, _], _ => rfl) ?a ?l ?c ?k) (fun d_law_due => ?_)
    (case a => k_is)
    (case l => k_is)
    (case c => k_is)
    (case k => k_is)
    refine' S4.use (S4.DE.mk (x := "_law_tried") (st := S4.s_law_tried) (ps := ["right", "left"]) KX G (fun _ _ _ _ _ _ us hl => match us, hl with | [_, _], _ => rfl) ?a ?l ?c ?k) (fun d_law_tried => ?_)
    (case a => k_is)
    (case l => k_is)
    (case c => k_is)
    (case k => k_is)
    refine' S4.use (S4.DE.mk (x := "_law_bent") (st := S4.s_law_bent) (ps := ["hand", "some"]) KX G (fun _ _ _ _ _ _ us hl => match us, hl with | [_, _], _ => rfl) ?a ?l ?c ?k) (fun d_law_bent => ?_)
    (case a => k_is)
    (case l => k_is)
    (case c => k_is)
    (case k => k_is)
    refine' S4.use (S4.DE.mk (x := "_law_carried") (st := S4.s_law_carried) (ps := ["opening", "tick"]) KX G (fun _ _ _ _ _ _ us hl => match us, hl with | [_, _], _ => rfl) ?a ?l ?c ?k) (fun d_law_carried => ?_)
    (case a => k_is)
    (case l => k_is)
    (case c => k_is)
    (case k => k_is)
    refine' S4.use (S4.DE.mk (x := "_law_word") (st := S4.s_law_word) (ps := ["which", "timing", "way", "tick"]) KX G (fun _ _ _ _ _ _ us hl => match us, hl with | [_, _, _, _], _ => rfl) ?a ?l ?c ?k) (fun d_law_word => ?_)
    (case a => k_is)
    (case l => k_is)
    (case c => k_is)
    (case k => k_is)
    refine' S4.use (S4.DE.mk (x := "_law_refused_right") (st := S4.s_law_refused_right) (ps := ["hand", "timing", "ties"]) KX G (fun _ _ _ _ _ _ us hl => match us, hl with | [_, _, _], _ => rfl) ?a ?l ?c ?k) (fun d_law_refused_right => ?_)
    (case a => k_is)
    (case l => k_is)
    (case c => k_is)
    (case k => k_is)
    refine' S4.use (S4.DE.mk (x := "_law_even_right") (st := S4.s_law_even_right) (ps := ["hand"]) KX G (fun _ _ _ _ _ _ us hl => match us, hl with | [_], _ => rfl) ?a ?l ?c ?k) (fun d_law_even_right => ?_)
    (case a => k_is)
    (case l => k_is)
    (case c => k_is)
    (case k => k_is)
    refine' S4.use (S4.DE.mk (x := "law") (st := S4.s_law) (ps := ["script"]) KX G (fun _ _ _ _ _ _ us hl => match us, hl with | [_], _ => rfl) ?a ?l ?c ?k) (fun d_law => ?_)
    (case a => k_is)
    (case l => k_is)
    (case c => k_is)
    (case k => k_is)
    have b_ValueError : mg "ValueError" = none := PySem.W.mg_none_of KX G (by k_is)
    refine' S4.all_mk (cT := 0) (cS := 0) hmg (S4.Tx.mk b_abs b_all b_bool b_divmod b_int b_isinstance b_len b_list b_range b_sum b_tuple b_zip c_MOST_TIES c_MOST_TURNS c_MOST_PLACES c_LAST_TICK d_is_integer d_is_below d_is_pair d_are_openings d_is_opening d_are_turns d_even_timing d_check_breadth d_places d_carried d_opening_at d_are_neighbours d_law_whole d_law_draw d_law_deep d_law_is d_law_hand d_law_opening d_law_timing_parts d_law_places d_law_is_opening d_law_due d_law_tried d_law_bent d_law_carried d_law_word d_law_refused_right d_law_even_right d_law ?h0 ?h1 ?h2 ?h3 ?h4 ?h5 ?h6 ?h7 ?h8 ?h9 ?h10 ?h11 ?h12 ?h13 ?h14 ?h15 ?h16 ?h17 ?h18 ?h19 ?h20 ?h21 ?h22 ?h23 ?h24 ?h25 ?h26 ?h27 ?h28 ?h29 ?h30 ?h31 ?h32 ?h33 ?h34 ?h35 ?h36 ?h37 ?h38 b_ValueError)
    case h0 =>
      rw [S4.adr_of m_Timing]
      refine' S4.dc_mk KX G (fun _ _ _ _ _ _ us hl => match us, hl with | [_, _, _], _ => rfl) m_Timing ?a ?i ?l ?c ?k ?mk ?kc ?pg ?hd ?po ?sa ?na
      (case a => k_is)
      (case i => k_is)
      (case l => k_is)
      (case c => k_is)
      (case k => k_is)
      (case mk => k_is)
      (case kc => k_is)
      (case pg => k_is)
      (case hd => k_is)
      (case po => k_is)
      (case sa => k_is)
      case na =>
        intro y hy
        simp only [List.mem_cons, List.not_mem_nil, or_false] at hy
        rcases hy with rfl | rfl
        · show PySem.W.findIn _ _ _ = some none
          k_is
        · show PySem.W.findIn _ _ _ = some none
          k_is
    case h1 =>
      rw [S4.adr_of m_Timing]
      refine' ⟨⟨?pg, ?hd, ?po, ?sa⟩, ?ha, ?hn, ?htk, ?hm, S4.kit_self _ _⟩
      (case pg => k_is)
      (case hd => k_is)
      (case po => k_is)
      (case sa => k_is)
      (case ha => k_is)
      (case hn => k_is)
      (case htk => k_is)
      (case hm => k_is)
    case h2 =>
      rw [S4.adr_of m_Timing]
      k_is
    case h3 =>
      rw [S4.adr_of m_Timing]
      refine' S4.dm_mk (fun _ _ _ _ _ _ us hl => match us, hl with | [_, _], _ => rfl) ?a ?i ?l ?c ?k
      (case a => k_is)
      (case i => k_is)
      (case l => k_is)
      (case c => k_is)
      (case k => k_is)
    case h4 =>
      rw [S4.adr_of m_TollError]
      refine' ⟨m_TollError, ?kp, ?ty, ⟨?hg, ?hk, ?hs, ?hd, ?ha, ?hn, ?ht, ?hm⟩, ?ve⟩
      (case kp => k_is)
      (case ty => k_is)
      (case hg => k_is)
      (case hk => k_is)
      (case hs => k_is)
      (case hd => k_is)
      (case ha => k_is)
      (case hn => k_is)
      (case ht => k_is)
      (case hm => k_is)
      (case ve => first | (refine' S4.kit_ve ?w; done) | (refine' S4.kit_ve ?vw; k_is))
    case h5 =>
      rw [S4.adr_of m_TollError]
      show PySem.W.excIn _ _ _ _ = true
      k_exc
    case h6 =>
      rw [S4.adr_of m_NoNumber]
      refine' ⟨m_NoNumber, ?kp, ?ty, ⟨?hg, ?hk, ?hs, ?hd, ?ha, ?hn, ?ht, ?hm⟩, ?ve⟩
      (case kp => k_is)
      (case ty => k_is)
      (case hg => k_is)
      (case hk => k_is)
      (case hs => k_is)
      (case hd => k_is)
      (case ha => k_is)
      (case hn => k_is)
      (case ht => k_is)
      (case hm => k_is)
      (case ve => refine' S4.kit_ve ?_; exact (by k_is))
    case h7 =>
      rw [S4.adr_of m_NoNumber]
      show PySem.W.excIn _ _ _ _ = true
      k_exc
    case h8 =>
      rw [S4.adr_of m_NoWay]
      refine' ⟨m_NoWay, ?kp, ?ty, ⟨?hg, ?hk, ?hs, ?hd, ?ha, ?hn, ?ht, ?hm⟩, ?ve⟩
      (case kp => k_is)
      (case ty => k_is)
      (case hg => k_is)
      (case hk => k_is)
      (case hs => k_is)
      (case hd => k_is)
      (case ha => k_is)
      (case hn => k_is)
      (case ht => k_is)
      (case hm => k_is)
      (case ve => refine' S4.kit_ve ?_; exact (by k_is))
    case h9 =>
      rw [S4.adr_of m_NoWay]
      show PySem.W.excIn _ _ _ _ = true
      k_exc
    case h10 =>
      rw [S4.adr_of m_NoTick]
      refine' ⟨m_NoTick, ?kp, ?ty, ⟨?hg, ?hk, ?hs, ?hd, ?ha, ?hn, ?ht, ?hm⟩, ?ve⟩
      (case kp => k_is)
      (case ty => k_is)
      (case hg => k_is)
      (case hk => k_is)
      (case hs => k_is)
      (case hd => k_is)
      (case ha => k_is)
      (case hn => k_is)
      (case ht => k_is)
      (case hm => k_is)
      (case ve => refine' S4.kit_ve ?_; exact (by k_is))
    case h11 =>
      rw [S4.adr_of m_NoTick]
      show PySem.W.excIn _ _ _ _ = true
      k_exc
    case h12 =>
      rw [S4.adr_of m_BadTiming]
      refine' ⟨m_BadTiming, ?kp, ?ty, ⟨?hg, ?hk, ?hs, ?hd, ?ha, ?hn, ?ht, ?hm⟩, ?ve⟩
      (case kp => k_is)
      (case ty => k_is)
      (case hg => k_is)
      (case hk => k_is)
      (case hs => k_is)
      (case hd => k_is)
      (case ha => k_is)
      (case hn => k_is)
      (case ht => k_is)
      (case hm => k_is)
      (case ve => refine' S4.kit_ve ?_; exact (by k_is))
    case h13 =>
      rw [S4.adr_of m_BadTiming]
      refine' S4.ei_mk (fun _ _ _ _ _ _ us hl => match us, hl with | [_, _], _ => rfl) ?xL ?rv ?sa ?eC ?tC ?kC ?a ?t1 ?l ?c ?k ?no
      (case xL => k_is)
      (case rv => first | rfl | decide +kernel)
      (case sa => k_is)
      (case eC => k_is)
      (case tC => k_is)
      (case kC => k_is)
      (case a => k_is)
      (case t1 => k_is)
      (case l => k_is)
      (case c => k_is)
      (case k => k_is)
      case no =>
        intro y hy
        simp only [List.mem_cons, List.not_mem_nil, or_false] at hy
        rcases hy with rfl
        · k_is
    case h14 =>
      rw [S4.adr_of m_TollError]
      k_is
    case h15 =>
      rw [S4.adr_of m_TollError, S4.adr_of m_NoNumber]
      k_is
    case h16 =>
      rw [S4.adr_of m_TollError, S4.adr_of m_NoWay]
      k_is
    case h17 =>
      rw [S4.adr_of m_TollError, S4.adr_of m_NoTick]
      k_is
    case h18 =>
      rw [S4.adr_of m_TollError, S4.adr_of m_BadTiming]
      k_is
    case h19 =>
      rw [S4.adr_of m_NoNumber, S4.adr_of m_TollError]
      k_is
    case h20 =>
      rw [S4.adr_of m_NoNumber]
      k_is
    case h21 =>
      rw [S4.adr_of m_NoNumber, S4.adr_of m_NoWay]
      k_is
    case h22 =>
      rw [S4.adr_of m_NoNumber, S4.adr_of m_NoTick]
      k_is
    case h23 =>
      rw [S4.adr_of m_NoNumber, S4.adr_of m_BadTiming]
      k_is
    case h24 =>
      rw [S4.adr_of m_NoWay, S4.adr_of m_TollError]
      k_is
    case h25 =>
      rw [S4.adr_of m_NoWay, S4.adr_of m_NoNumber]
      k_is
    case h26 =>
      rw [S4.adr_of m_NoWay]
      k_is
    case h27 =>
      rw [S4.adr_of m_NoWay, S4.adr_of m_NoTick]
      k_is
    case h28 =>
      rw [S4.adr_of m_NoWay, S4.adr_of m_BadTiming]
      k_is
    case h29 =>
      rw [S4.adr_of m_NoTick, S4.adr_of m_TollError]
      k_is
    case h30 =>
      rw [S4.adr_of m_NoTick, S4.adr_of m_NoNumber]
      k_is
    case h31 =>
      rw [S4.adr_of m_NoTick, S4.adr_of m_NoWay]
      k_is
    case h32 =>
      rw [S4.adr_of m_NoTick]
      k_is
    case h33 =>
      rw [S4.adr_of m_NoTick, S4.adr_of m_BadTiming]
      k_is
    case h34 =>
      rw [S4.adr_of m_BadTiming, S4.adr_of m_TollError]
      k_is
    case h35 =>
      rw [S4.adr_of m_BadTiming, S4.adr_of m_NoNumber]
      k_is
    case h36 =>
      rw [S4.adr_of m_BadTiming, S4.adr_of m_NoWay]
      k_is
    case h37 =>
      rw [S4.adr_of m_BadTiming, S4.adr_of m_NoTick]
      k_is
    case h38 =>
      rw [S4.adr_of m_BadTiming]
      k_is
