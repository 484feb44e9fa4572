import PyProof.Rows.All
import Wide.All
import OpenK.AllK
import Wide.FinOn
import HandS.ForMost
import HandS.Sort
import HandS.SortRule
import HandS.SortInts
import HandS.Conv
import HandS.Codes
import HandS.Deep
import HandS.TupLe
import HandS.TupAny
import HandS.TupMul
import HandS.Style
import HandS.Zip
import HandS.More
import HandS.Flow
import HandS.Walk
import HandS.IsInst
import KE.KTupSum
import PyProof.TupleOfSeq
import PyProof.Draws
import PyProof.EnumMake
import KE.GoesMore
import KE.GoesEnum
import PySem.Challenge.RW_sametolls_k04_whole_ways_sides_blocks
set_option Elab.async false
set_option autoImplicit false
set_option linter.all false
set_option maxRecDepth 100000
set_option maxHeartbeats 4000000
/-! rules that the hand layer lacks: sum, sorted, enumerate, in, [::-1], * of tuples -/
namespace TT
open PySem PySem.Spec PyProof.Rows L2
section
variable {X : Cx}
/-! ### sum(t), t a tuple of ints -/
def rSumT (K : PySem.W.Frag) : List V → Hp → VK → Prop := fun vs H Q => ∃ (a : Addr) (ns : List Int), vs = [V.ref a] ∧ SqT K H a (ns.map V.int) ∧ Q (.int ns.sum) H
theorem cr_sumT (hc : X.calm = true) : CallR X (.builtin "sum") (rSumT X.K) := by
  intro pins s σ H vs us Q I r h
  obtain ⟨a, ns, rfl, hs, q⟩ := h
  obtain ⟨its, rv, hl, _⟩ := I.tuple hs
  rw [Vals.ref1 r]
  have hi : IntsAre its ns := rv.ints
  obtain ⟨xs, e⟩ := hi.allInts.items
  have hn : numsOf (intItems xs).toList = ns := by rw [← e]; exact hi.numsOf
  rw [nums_intItems] at hn
  obtain ⟨o, ho, hc', n, hd⟩ := id hl
  have hl2 : s.heap.IsTuple a (intItems xs) := by
    rw [← e]
    exact ⟨o, ho, hc', n, hd⟩
  refine PySem.W.ktm_sumG (I.ok.hd hc) hl2 fun h' tk t' hk => ?_
  rw [preSum_eq, List.take_of_length_le (by simp), hn]
  exact ⟨.int _, H, I.kept hk, ⟨_, rfl⟩, q⟩
/-! ### x in t, t a tuple of data -/
def rInT (K : PySem.W.Frag) : R2 := fun x y H Q => ∃ d ds, Dp K H x d ∧ Dp K H y (.tuple ds) ∧ SeqAt.shaped d = true ∧ SeqAt.shaped (.tuple ds) = true ∧ Q (.bl (ds.any fun z => PyData.eqv z d)) H
theorem op_inT (hu : X.A.units + 65 < cLine) : OpR X (compareOp .In) (rInT X.K) := by
  intro pins s σ H x y v u Q I rx ry h
  obtain ⟨d, ds, hd, he, sd, se, q⟩ := h
  obtain ⟨as, r1⟩ := Dp.reads I d x v hd rx
  obtain ⟨bs, r2⟩ := Dp.reads I (.tuple ds) y u he ry
  exact SeqAt.in_tuple_reads r2 r1 (SeqAt.canLay_of_shaped se) (SeqAt.canLay_of_shaped sd) (room_in_shaped sd hu) ⟨.bl _, H, I, rfl, q⟩
end
/-! ### t[::-1] -/
section
variable {prog : Program} {w : World} {A : Around} {E : Value → Shared → Prop} {s : Shared}
theorem adjust_rev (n : Nat) : Builtin.Slice.sliceAdjust none none (-1) (n : Int) = ((n : Int) - 1, -1) := rfl
theorem places_rev (n : Nat) : Builtin.Slice.slicePlaces ((n : Int) - 1) (-1) (-1) = n := by
  unfold Builtin.Slice.slicePlaces
  rw [if_neg (by decide)]
  have e : (-(-1 : Int)) = 1 := by decide
  rw [e, Int.ediv_one]
  split <;> omega
theorem pick_rev (xs : Array Value) : ((List.range xs.size).filterMap fun (k : Nat) => xs[(((xs.size : Int) - 1) + (k : Int) * (-1)).toNat]?).toArray = xs.toList.reverse.toArray := by
  have e : (List.range xs.size).filterMap (fun (k : Nat) => xs[(((xs.size : Int) - 1) + (k : Int) * (-1)).toNat]?) = xs.toList.reverse := by
    have h : ∀ (n : Nat), n ≤ xs.size → (List.range n).filterMap (fun (k : Nat) => xs[(((xs.size : Int) - 1) + (k : Int) * (-1)).toNat]?) = xs.toList.reverse.take n := by
      intro n
      induction n with
      | zero => intro _; simp
      | succ n ih =>
        intro hn
        rw [List.range_succ, List.filterMap_append, ih (by omega), List.take_succ]
        congr 1
        have e1 : (((xs.size : Int) - 1) + (n : Int) * (-1)).toNat = xs.size - 1 - n := by omega
        rw [List.filterMap_cons, e1, List.getElem?_reverse (by rw [Array.length_toList]; omega), Array.length_toList, Array.getElem?_toList]
        cases xs[xs.size - 1 - n]? <;> rfl
    have := h xs.size (Nat.le_refl _)
    rw [this, List.take_of_length_le (by rw [List.length_reverse, Array.length_toList]; exact Nat.le_refl _)]
  rw [e]
theorem getItem_tuple_rev {t sl : Addr} {items : Array Value} {u : Tok} {Q : Value → Shared → Prop} (ht : IsTup s.heap t items) (hs : s.heap.IsSliceOf sl .none .none (.int (-1) u))
    (h : Q (.ref s.heap.objs.size) { s with heap := s.heap.push { cls := .type "tuple", data := .seq items.toList.reverse.toArray } })
    (hsz : items.size ≤ sizeLine) : wpAny (model prog w) A (getItem (.ref t) (.ref sl)) Q E s := by
  have htake : sizeOk (.seq items.toList.reverse.toArray) := by
    show items.toList.reverse.toArray.size ≤ sizeLine
    rw [List.size_toArray, List.length_reverse, Array.length_toList]
    exact hsz
  obtain ⟨os, hos, hcs, hds⟩ := id hs
  have hTs : s.TypeIs (.ref sl) "slice" := ⟨os, hos, hcs⟩
  unfold getItem
  try with_reducible refine wpAny_holding ?_
  first | refine wpAny_bind (wpAny_pure ?_) | skip
  refine wpAny_bind (wpAny_sequenceKey ht.typeIs (by decide) ?_)
  refine wpAny_bind (wpAny_callSpecial?_slot (name := Str.ofString "__getitem__") ht.typeIs PyProof.Rows.slot_tuple_getitem
    (wpAny_call_entry PyProof.Rows.slot_tuple_getitem ht.typeIs entry_tuple_getitem ?_ (args_tuple_getitem _ _)))
  show wpAny _ _ (Builtin.Tuple.tupleItemsOf (.ref t) >>= _) _ _ s
  refine wpAny_bind (tupleItemsOf_ ht ?_)
  refine wpAny_bind (wpAny_typeOf hTs ?_)
  rw [if_pos (by decide)]
  refine wpAny_bind ?_
  unfold Builtin.Slice.sliceApplied Builtin.Slice.sliceFields
  refine wpAny_bind (wpAny_bind (wpAny_field hos hds (x := .none) rfl (wpAny_bind (wpAny_field hos hds (x := .none) rfl (wpAny_bind (wpAny_field hos hds (x := .int (-1) u) rfl (wpAny_pure ?_)))))))
  refine wpAny_bind (slicePart_int ?_)
  show wpAny _ _ (if ((-1 : Int) == 0) = true then _ else _) _ _ s
  rw [if_neg (by decide)]
  refine wpAny_bind (slicePart_none (wpAny_bind (slicePart_none (wpAny_bind (wpAny_pure ?_)))))
  show wpAny _ _ (match Builtin.Slice.sliceAdjust none none (-1) (items.size : Int) with | (lo, hi) => pure (lo, (-1 : Int), Builtin.Slice.slicePlaces lo hi (-1))) _ _ s
  rw [adjust_rev]
  show wpAny _ _ (pure (((items.size : Int) - 1), (-1 : Int), Builtin.Slice.slicePlaces ((items.size : Int) - 1) (-1) (-1))) _ _ s
  rw [places_rev]
  refine wpAny_pure ?_
  have hno : ¬ ((((items.size : Int) - 1) == 0 && (-1 : Int) == 1 && (items.size == items.size)) = true) := by
    rw [show ((-1 : Int) == 1) = false from by decide, Bool.and_false, Bool.false_and]
    exact Bool.false_ne_true
  show wpAny _ _ (if (((items.size : Int) - 1) == 0 && (-1 : Int) == 1 && (items.size == items.size)) = true then _ else _) _ _ s
  rw [if_neg hno, pick_rev]
  first
    | exact wpAny_bind (m := Builtin.Tuple.tupleExact _) (wpAny_newObj_type (wpAny_pure ⟨_, rfl, wpAny_pure h⟩) htake)
    | exact wpAny_bind (m := Builtin.Tuple.tupleExact _) (wpAny_newObj_type (wpAny_bind (wpAny_pure (wpAny_pure ⟨_, rfl, wpAny_pure h⟩))) htake)
    | exact wpAny_bind (wpAny_bind (m := Builtin.Tuple.tupleExact _) (wpAny_newObj_type (wpAny_pure (wpAny_pure ⟨_, rfl, wpAny_pure h⟩)) htake))
    | exact wpAny_bind (wpAny_bind (m := Builtin.Tuple.tupleExact _) (wpAny_newObj_type (wpAny_pure ⟨_, rfl, wpAny_pure h⟩) htake))
end
section
variable {X : Cx}
def tRevT (K : PySem.W.Frag) (te : TE) : TE := fun σ H Q => te σ H fun x H1 => ∃ a xs, x = .ref a ∧ SqT K H1 a xs ∧ ∀ p, H1 p = none → Q (.ref p) (upd H1 p (.tup xs.reverse))
theorem pe_revT {e : Expr} {te : TE} {k : Nat} {p1 p2 p3 pos : Pos} (he : PE X e te) : PE X (.Subscript e (.Slice none none (some (.UnaryOp .USub (.Constant (.int 1) k p1) p2)) p3) pos) (tRevT X.K te) := by
  refine ⟨fun pins s σ H Q I h => ?_⟩
  refine Subscript_ (thn (he.run pins s σ H _ I h) fun v s1 ⟨x, H1, I1, r1, q1⟩ => ?_)
  obtain ⟨a, xs, ex, hx, q⟩ := q1
  subst ex
  cases r1
  have hst : PO X (some (.UnaryOp .USub (.Constant (.int 1) k p1) p2)) (tPart (tUn (rU fun i => .int (-i)) (tC (.int 1)))) := po_some (pe_un un_neg pe_int)
  refine wpAny_Slice (thn (po_none.run pins s1 σ H1 (fun o H2 => o = none ∧ H2 = H1) I1 ⟨rfl, rfl⟩) fun vl s2 ⟨l, H2, I2, pl, el, e2⟩ => ?_)
  subst el e2
  refine thn (po_none.run pins s2 σ H2 (fun o H3 => o = none ∧ H3 = H2) I2 ⟨rfl, rfl⟩) fun vu s3 ⟨u, H3, I3, pu, eu, e3⟩ => ?_
  subst eu e3
  refine thn (hst.run pins s3 σ H3 (fun o H4 => o = some (-1) ∧ H4 = H3) I3 ⟨1, rfl, -1, rfl, rfl, rfl⟩) fun vs s4 ⟨o, H4, I4, ps, eo, e4⟩ => ?_
  subst eo e4
  have I5 : Inv X pins σ H4 { s4 with heap := s4.heap.push { cls := .type "slice", data := .fields #[vl, vu, vs] } } := I4.kept (t' := s4.toks) fun b ob q => Heap.get?_push_of_some _ q
  obtain ⟨its, r, ht, hz⟩ := I5.tuple hx
  have hlen := r.length
  show wpAny (model X.prog X.w) X.A (subscriptTail e (.Slice none none (some (.UnaryOp .USub (.Constant (.int 1) k p1) p2)) p3) (.ref a) (.ref s4.heap.objs.size)) (EP X pins σ Q) X.xe { s4 with heap := s4.heap.push { cls := .type "slice", data := .fields #[vl, vu, vs] } }
  cases pl
  cases pu
  cases ps with
  | int i t =>
    refine tail_any (ops := [.ref a, .ref s4.heap.objs.size]) ht.typeIs (PyProof.Rows.slot_tuple_getitem.lookup) ?_ (by with_unfolding_all rfl)
    refine getItem_tuple_rev ht (Heap.IsSliceOf.new _ .none .none (.int (-1) t)) ?_ (by rw [List.size_toArray]; omega)
    refine ⟨.ref _, _, I5.laid (t' := s4.toks) (o := .tup xs.reverse) (fun b ob q => Heap.get?_push_of_some _ q) (Nat.le_refl _) ?_, rfl, q _ (I5.hok.fresh (Nat.le_refl _))⟩
    exact ⟨by rw [List.length_reverse]; exact hz, _, r.reverse, IsTup.new _ _⟩
end
/-! ### enumerate(t), t a tuple -/
def IteT (K : PySem.W.Frag) (a : Addr) : It :=
  ⟨fun i H => ∃ (xs : List V) (x : V), SqT K H a xs ∧ xs[i]? = some x, fun i H v H' => ∃ T x, v = .ref T ∧ H T = none ∧ H' = upd H T (.tup [.int (i : Nat), x]) ∧ ∀ xs, SqT K H a xs → xs[i]? = some x, fun i H => ∃ xs : List V, SqT K H a xs ∧ i = xs.length⟩
theorem turn_enumT {P : Program} {w : World} {K : PySem.W.Frag} {elts : List Expr} {kk : Nat} {tpos : Pos} (a e it : Addr) (hai : a ≠ it) :
    Turn P w K (.Tuple elts kk tpos) (IteT K a) [e, it] e (fun i h => (∃ old, IsEnum h e it ((i : Nat) : Int) old) ∧ h.IsTupleIter it a i ∧ e ≠ it ∧ e ≠ a) where
  mem := by simp
  obj := fun i h st b hb => by
    obtain ⟨⟨old, he⟩, ⟨o, ho, hc, hd⟩, _⟩ := st
    have e' : b = e ∨ b = it := by simpa using hb
    rcases e' with z | z
    · rw [z]; exact ⟨_, he, fun v q => nomatch q⟩
    · rw [z]; exact ⟨o, ho, fun v q => by rw [hd] at q; cases q⟩
  keep := fun i h h' st k => let ⟨⟨old, he⟩, hi, hne⟩ := st; ⟨⟨old, k e (by simp) _ he⟩, hi.at fun o q => k it (by simp) o q, hne⟩
  item := by
    intro X hP hw hK hc i pins s σ H E I hf st hg
    subst hP hw hK
    obtain ⟨⟨old, he⟩, hit, hne, hnea⟩ := st
    obtain ⟨xs, x, hq, hx⟩ := hg
    obtain ⟨its, rv, p, hz⟩ := I.tuple hq
    obtain ⟨u, hu, ru⟩ := rv.get hx
    have hel : e < s.heap.objs.size := Heap.lt_size he
    have hil : it < s.heap.objs.size := by obtain ⟨_, q, _⟩ := hit; exact Heap.lt_size q
    have hlt : i < its.toArray.size := by
      rw [List.size_toArray]
      exact (List.getElem?_eq_some_iff.mp hu).1
    have p' : s.heap.IsTuple a its.toArray := p
    have D := Draws.tuple (prog := X.prog) (w := X.w) (A := X.A.in1) (I.ok.hd hc) it a hai its.toArray
    refine wpAny_pyNext_enum_itemD D he ⟨hit, p'⟩ hlt hne (by simp [hne, hnea]) fun u' h' tk hP' ho st' hT hsz hk => ?_
    have hu2 : u' = u := by
      have : its.toArray[i]? = some u' := hP'
      rw [show its.toArray[i]? = its[i]? by simp] at this
      rw [hu] at this
      exact (Option.some.inj this).symm
    subst hu2
    have hit' := st'.1
    refine ⟨_, rfl, wpAny_letOwnedTupleGo_enum (s := { s with heap := h', toks := tk + 1 }) ho fun h'' he' sb => ?_⟩
    have hT2 : h''.get? s.heap.objs.size = some { cls := .type "tuple", data := .seq #[.int i tk, u'] } := (sb.2 _ (Nat.ne_of_gt hel)).trans hT
    have new : ObjOk X.prog X.w (upd H s.heap.objs.size (.tup [.int (i : Nat), x])) h'' s.heap.objs.size (.tup [.int (i : Nat), x]) :=
      ⟨by show 2 ≤ sizeLine; decide, [.int i tk, u'], .cons ⟨_, rfl⟩ (.cons ru .nil), ⟨_, hT2, rfl, _, rfl⟩⟩
    have I1 : Inv X pins σ (upd H s.heap.objs.size (.tup [.int (i : Nat), x])) { s with heap := h'', toks := tk + 1 } :=
      I.turnedNew (ch := [e, it]) (fun b ob hb q => (sb.2 b (fun z => hb (by simp [z]))).trans (hk b ob (fun z => hb (by simp [z])) (fun z => hb (by simp [z])) q)) hf (Nat.le_refl _) new
    refine ⟨.ref s.heap.objs.size, _, I1, rfl, ⟨_, x, rfl, I.hok.fresh (Nat.le_refl _), rfl, fun ys hy => by rw [I.tuple_inj hy hq]; exact hx⟩, ⟨⟨u', ?_⟩, hit'.at fun o q => (sb.2 it (Ne.symm hne)).trans q, hne, hnea⟩, fun b hb => ?_⟩
    · have e1 : ((i + 1 : Nat) : Int) = (i : Int) + 1 := by omega
      rw [e1]; exact he'
    · have hb' : b < s.heap.objs.size := by
        have e' : b = e ∨ b = it := by simpa using hb
        rcases e' with z | z
        · rw [z]; exact hel
        · rw [z]; exact hil
      rw [upd_ne (Nat.ne_of_lt hb')]
      exact (hf b hb).1
  done := by
    intro X hP hw hK hc i pins s σ H E I hf st hg
    subst hP hw hK
    obtain ⟨⟨old, he⟩, hit, hne, hnea⟩ := st
    obtain ⟨xs, hq, hx⟩ := hg
    obtain ⟨its, rv, p, hz⟩ := I.tuple hq
    obtain ⟨f0, f1, f2, f3, f4, f5⟩ := hf it (by simp)
    have hl := rv.length
    have p' : s.heap.IsTuple a its.toArray := p
    have D := Draws.tuple (prog := X.prog) (w := X.w) (A := X.A.in1) (I.ok.hd hc) it a hai its.toArray
    have hi : i = its.toArray.size := by rw [List.size_toArray]; omega
    rw [hi] at hit
    exact wpAny_pyNext_enum_endD D he ⟨hit, p'⟩ fun h' eb => ⟨rfl, I.turned (t' := s.toks) (fun b o hb q => eb b o hb q) f0 f1 f3 f4 f5⟩
  self := fun A i s Q E st h => let ⟨⟨_, he⟩, _⟩ := st; wpAny_pyIter_enum he h
def iEnumT (K : PySem.W.Frag) (ta : TA) : TI := fun σ H R => ta σ H fun vs H1 => ∃ a xs, vs = [.ref a] ∧ SqT K H1 a xs ∧ R (IteT K a) H1
theorem meets_enumerate_newT (t : Addr) (items : Array Value) :
    Meets (Builtin.«enumerate.__new__» ⟨[.type "enumerate", .ref t], []⟩) (fun _ R s => s.heap.IsTuple t items ∧
      R (.ok (.ret (.ref (s.heap.push { cls := .type "tuple_iterator", data := .fields #[.ref t, .int 0 0] }).objs.size)))
        { s with heap := (s.heap.push { cls := .type "tuple_iterator", data := .fields #[.ref t, .int 0 0] }).push { cls := .type "enumerate", data := .fields #[.none, .bool false, .ref s.heap.objs.size, rawInt 0, .none, .none] } }) :=
  .of_wp fun prog w A R s h => by
    obtain ⟨hp, g, d, tk, os⟩ := s
    obtain ⟨hL, h⟩ := h
    have hsub := sub_enumerate
    have q1 : ∀ {A' : Around} {E : Value → Shared → Prop} {Q : Value → Shared → Prop}, Q (.ref hp.objs.size) ⟨hp.push { cls := .type "tuple_iterator", data := .fields #[.ref t, .int 0 0] }, g, d, tk, os⟩ → wpAny (model prog w) A' (pyIter (.ref t)) Q E ⟨hp, g, d, tk, os⟩ :=
      fun q => wpAny_pyIter_tuple hL q
    wp_walk using q1
    refine wpAny_stack_any fun st => wpAny_pure ?_
    split
    · rename_i c _ _ _ _ _
      cases (c == Value.type "enumerate")
      · wp_walk using q1
        exact ⟨_, rfl, h⟩
      · wp_walk using q1
        exact ⟨_, rfl, h⟩
    · wp_walk using q1
      exact ⟨_, rfl, h⟩
theorem call_enumerate_tuple {prog : Program} {w : World} {A : Around} {E : Value → Shared → Prop} {s : Shared} {t : Addr} {items : Array Value} {Q : Value → Shared → Prop} (ht : s.heap.IsTuple t items)
    (h : ∀ h', IsEnum h' (s.heap.objs.size + 1) s.heap.objs.size 0 .none → h'.IsTupleIter s.heap.objs.size t 0 → h'.objs.size = s.heap.objs.size + 2 →
      (∀ b o, s.heap.get? b = some o → h'.get? b = some o) → Q (.ref (s.heap.objs.size + 1)) { s with heap := h' }) :
    wpAny (model prog w) A (call (.type "enumerate") [.ref t]) Q E s := by
  refine callType_new F.called_enumerate (by decide) (F.typeCall_enumerate_1 _) (F.newCall_enumerate_1 _) (fun obj => F.args_object_init_2 obj _) F.entry_enumerate_new
    (meets_enumerate_newT t items) ⟨ht, ?_⟩
  have hz : (s.heap.push { cls := .type "tuple_iterator", data := .fields #[.ref t, .int 0 0] }).objs.size = s.heap.objs.size + 1 := Heap.size_push ..
  show _ ∧ _
  rw [hz]
  have he : IsEnum ((s.heap.push { cls := .type "tuple_iterator", data := .fields #[.ref t, .int 0 0] }).push
      { cls := .type "enumerate", data := .fields #[.none, .bool false, .ref s.heap.objs.size, rawInt 0, .none, .none] }) (s.heap.objs.size + 1) s.heap.objs.size 0 .none := by
    have := Heap.get?_push_size (s.heap.push { cls := .type "tuple_iterator", data := .fields #[.ref t, .int 0 0] }) (o := { cls := .type "enumerate", data := .fields #[.none, .bool false, .ref s.heap.objs.size, rawInt 0, .none, .none] }) rfl
    rw [hz] at this; exact this
  have hi : s.heap.push { cls := .type "tuple_iterator", data := .fields #[.ref t, .int 0 0] } |>.IsTupleIter s.heap.objs.size t 0 := ⟨_, Heap.get?_push_size _ rfl, rfl, rfl⟩
  refine ⟨⟨_, he, rfl⟩, h _ he (hi.at fun o e => Heap.get?_push_of_some _ e) (by rw [Heap.size_push, hz]) fun b o x => Heap.get?_push_of_some _ (Heap.get?_push_of_some _ x)⟩
theorem pi_enumT {X : Cx} {e : Expr} {ta : TA} {p pos tpos : Pos} {elts : List Expr} {kk : Nat} (hg : Gl X "enumerate") (hm : X.mg "enumerate" = none) (ha : PA X [e] ta) (hs : starEach [e] X.env = [(false, eval e X.env)] := by rfl) :
    PI X (.Tuple elts kk tpos) (.Call (.Name "enumerate" p) [e] [] pos) (iEnumT X.K ta) := by
  refine ⟨fun pins s σ H R I h => ?_⟩
  refine Call_ (ld_blt I hg hm boot_enumerate (PyProof.Rows.callWith_type1 (thn (ha.run pos pins s σ H _ I h) fun us s1 ⟨vs, H1, I1, r1, q1⟩ => ?_) hs rfl))
  obtain ⟨a, xs, ex, hq, q⟩ := q1
  subst ex
  cases r1 with
  | cons r rr =>
    cases rr
    cases r
    obtain ⟨its, rv, p', hz⟩ := I1.tuple hq
    have hlt : a < s1.heap.objs.size := p'.lt
    refine call_enumerate_tuple p' fun h' he hit hsz hk => wpAny_pyIter_enum he ?_
    have I2 : Inv X pins σ H1 { s1 with heap := h' } := I1.kept (t' := s1.toks) hk
    refine ⟨s1.heap.objs.size + 1, [s1.heap.objs.size + 1, s1.heap.objs.size], _, _, H1, rfl, I2, turn_enumT a (s1.heap.objs.size + 1) s1.heap.objs.size (Nat.ne_of_lt hlt), ⟨⟨.none, he⟩, hit, Nat.succ_ne_self _, Nat.ne_of_gt (Nat.lt_succ_of_lt hlt)⟩, fun b hb => ?_, q⟩
    have e' : b = s1.heap.objs.size + 1 ∨ b = s1.heap.objs.size := by simpa using hb
    have hle : s1.heap.objs.size ≤ b := by
      rcases e' with z | z
      · rw [z]; exact Nat.le_add_right _ _
      · rw [z]; exact Nat.le_refl _
    exact I1.fpOk hle (I1.hok.fresh hle)
theorem walk_enumT {K : PySem.W.Frag} {a : Addr} {xs : List V} : Walk (IteT K a) xs.length (fun H => SqT K H a xs) (YPair (fun i => some (.int (i : Nat))) (fun i => xs[i]?)) := by
  refine ⟨fun i _ hi q => ⟨xs, xs[i], q, by simp [hi]⟩, fun _ q => ⟨xs, q, rfl⟩, fun i H v H' _ q y => ?_⟩
  obtain ⟨T, x, h1, h2, h3, h4⟩ := y
  exact ⟨T, .int (i : Nat), x, h1, h2, h3, rfl, h4 xs q⟩
/-! ### sorted(t), t a tuple of ints -/
section
variable {prog : Program} {w : World} {A : Around} {E : Value → Shared → Prop} {s : Shared}
open SrtO in
theorem sorted_ordT {t : Addr} {vs : List Value} {ltv : Value → Value → Bool} {Q : Value → Shared → Prop} (O : SrtO.Swo ltv) (ht : IsTup s.heap t vs.toArray) (hz : vs.length ≤ sizeLine)
    (hS : 2 ≤ vs.length → ∀ (h₁ : Heap) (a : Addr), h₁.get? a = some (seqObj "list" vs.toArray 0) → (∀ b o, s.heap.get? b = some o → b ≠ a ∧ h₁.get? b = some o) → SrtO.SortableO prog w A.in1.in1 { s with heap := h₁ } a vs ltv)
    (h : ∀ (h' : Heap) (out : List Value), SrtO.Srtd ltv out → SrtO.Stb ltv out vs → (∀ b o, s.heap.get? b = some o → h'.get? b = some o) →
      Q (.ref h'.objs.size) { s with heap := sortedHeap (h'.push (seqObj "list" vs.toArray 0)) h'.objs.size vs out.toArray }) :
    wpAny (model prog w) A (call (.builtin "sorted") [.ref t]) Q E s := by
  obtain ⟨o, ho, hc, n, hd⟩ := id ht
  refine Calls.call_function_entry kind_sorted plain_sorted entry_sorted (args_sorted1 _) ?_
  unfold Builtin.«sorted»
  refine wpAny_bind (m := checkCount "sorted" 1 1 _) (wpAny_pure ?_)
  refine wpAny_bind (wpAny_collect_seq (hsz := by rw [List.size_toArray]; exact hz) t (.inr rfl) ho hc hd fun h' hk => ?_)
  refine wpAny_bind (wpAny_newList ?_ hz)
  have hoL : (h'.push (seqObj "list" vs.toArray 0)).get? h'.objs.size = some (seqObj "list" vs.toArray 0) := Heap.get?_push_size _ rfl
  have keep : ∀ b o, s.heap.get? b = some o → b ≠ h'.objs.size ∧ (h'.push (seqObj "list" vs.toArray 0)).get? b = some o := fun b o q =>
    ⟨Nat.ne_of_lt (Heap.lt_size (hk b o q)), Heap.get?_push_of_some _ (hk b o q)⟩
  show wpAny _ _ _ _ _ { s with heap := h'.push (seqObj "list" vs.toArray 0) }
  refine wpAny_bind (wpAny_holding (wpAny_call_entry slot_list_sort ⟨_, hoL, rfl⟩ entry_list_sort (SrtO.list_sort_ord O hoL hz (fun h2 => hS h2 _ _ hoL keep) fun out hs hb => ⟨_, rfl, ?_⟩) (args_list_sort _)))
  exact wpAny_pure ⟨_, rfl, h h' out hs hb hk⟩
end
section
variable {X : Cx}
def rSortedTI (K : PySem.W.Frag) : List V → Hp → VK → Prop := fun vs H Q => ∃ (a : Addr) (ns : List Int), vs = [V.ref a] ∧ SqT K H a (ns.map V.int) ∧
  ∀ (ns' : List Int) (p : Addr), ns'.Perm ns → ns'.Pairwise (· ≤ ·) → H p = none → Q (.ref p) (upd H p (.lst (ns'.map V.int)))
theorem cr_sortedTI : CallR X (.builtin "sorted") (rSortedTI X.K) := by
  intro pins s σ H vs us Q I r h
  obtain ⟨a, ns, rfl, hs, q⟩ := h
  obtain ⟨its, rv, hl, hz⟩ := I.tuple hs
  rw [Vals.ref1 r]
  have hi := rv.ints
  refine sorted_ordT SrtO.swo_int hl (by rw [← rv.length]; exact hz) (fun h2 h₁ a' _ _ => SrtO.ints_sortable hi h2) fun h' out h1 h2 hk => ?_
  obtain ⟨k1, k2, k3⟩ := SrtO.ints_out hi h1 h2
  obtain ⟨ep, he'⟩ := PyProof.Rows.sortedHeap_at (h := h'.push (seqObj "list" its.toArray 0)) (a := h'.objs.size) (vs := its) (out := out.toArray) (Heap.get?_push_size _ rfl)
  have hlen : ((out.map SrtO.iv).map V.int).length ≤ sizeLine := by
    rw [List.length_map, k2.length_eq]
    rw [List.length_map] at hz
    exact hz
  have I1 : Inv X pins σ H { s with heap := h' } := I.kept (t' := s.toks) hk
  refine ⟨.ref _, upd H h'.objs.size (.lst ((out.map SrtO.iv).map V.int)), I1.laid (t' := s.toks) (fun b ob e => ?_) (Nat.le_refl _) ⟨hlen, out, ep, vals_of_ints k1, he'⟩, rfl, q _ _ k2 k3 (I1.hok.fresh (Nat.le_refl _))⟩
  have hb : b < h'.objs.size := Heap.lt_size e
  rw [sortedHeap_old (Nat.ne_of_lt hb) (by rw [Heap.size_push]; exact Nat.lt_succ_of_lt hb)]
  exact Heap.get?_push_of_some _ e
end
/-! ### t * k, any small k from 0 on -/
section
variable {X : Cx}
theorem tuple_mul1 (l : Addr) (items : Array Value) (n : Nat) (dd : Option Addr) (sl : Array (Option Value)) (u : Tok) :
    Meets (Builtin.«tuple.__mul__» ⟨[.ref l, .int 1 u], []⟩) (fun _ R s => s.heap.get? l = some { cls := .type "tuple", dict := dd, data := .seq items n, slots := sl } ∧
      R (.ok (.ret (Value.ref l))) s) :=
  .of_wp fun prog w A R s h => by
    obtain ⟨hp, g, d, tk, os⟩ := s
    obtain ⟨hl, h⟩ := h
    have f1 := AutoSeq1.idx_int
    wp_walk using wpAny_loadPart' hl
    exact ⟨_, rfl, h⟩
theorem tuple_mul0 (l : Addr) (items : Array Value) (n : Nat) (dd : Option Addr) (sl : Array (Option Value)) (u : Tok) (c1 : items.isEmpty = false) :
    Meets (Builtin.«tuple.__mul__» ⟨[.ref l, .int 0 u], []⟩) (fun _ R s => s.heap.get? l = some { cls := .type "tuple", dict := dd, data := .seq items n, slots := sl } ∧
      R (.ok (.ret (Value.ref s.heap.objs.size))) { s with heap := s.heap.push { cls := Value.type "tuple", data := Data.seq #[] } }) :=
  .of_wp fun prog w A R s h => by
    obtain ⟨hp, g, d, tk, os⟩ := s
    obtain ⟨hl, h⟩ := h
    have f1 := AutoSeq1.idx_int
    wp_walk using wpAny_loadPart' hl
    repeat (first
      | (refine wpAny_ite_false (decide_eq_false (by rw [c1]; decide)) ?_; wp_walk using wpAny_loadPart' hl)
      | (refine wpAny_ite_true (decide_eq_true (by rw [c1]; decide)) ?_; wp_walk using wpAny_loadPart' hl))
    exact ⟨_, rfl, h⟩
def rRepA (K : PySem.W.Frag) : R2 := fun x y H Q => ∃ l k xs, x = .ref l ∧ y = .int k ∧ SqT K H l xs ∧ xs ≠ [] ∧ 0 ≤ k ∧ k ≤ 1000 ∧ xs.length ≤ 1000 ∧
  (k = 1 → Q (.ref l) H) ∧ (k ≠ 1 → ∀ p, H p = none → Q (.ref p) (upd H p (.tup (List.replicate k.toNat xs).flatten)))
theorem op_repA : OpR X (binaryOp .Mult) (rRepA X.K) := by
  intro pins s σ H x y v u Q I rx ry h
  obtain ⟨l, k, xs, rfl, rfl, hT, hne, h1, h2, hz, q1, q2⟩ := h
  by_cases hk : 2 ≤ k
  · exact op_repT pins s σ H _ _ v u Q I rx ry ⟨l, k, xs, rfl, rfl, hT, hne, hk, h2, hz, q2 (by omega)⟩
  cases rx
  obtain ⟨t, rfl⟩ := ry
  obtain ⟨its, r, ⟨⟨cls, dd, data, sl⟩, ho, hc, n, hd⟩, hs⟩ := I.tuple hT
  simp only at hc hd
  subst hc hd
  have hle : its.length = xs.length := r.length.symm
  have hn : its ≠ [] := fun e => hne (by
    rw [e] at hle
    exact List.eq_nil_of_length_eq_zero hle.symm)
  have hi : its.toArray.isEmpty = false := by
    cases its with
    | nil => exact absurd rfl hn
    | cons a b => rfl
  rcases (show k = 0 ∨ k = 1 by omega) with rfl | rfl
  · refine wpAny_binaryOp_repeat_ref (T := "tuple") (U := "int") (by decide) ⟨_, ho, rfl⟩ (fun s' => typeIs_int s' 0 t) noFill_tuple_mul F.fills_int_mul F.slot_int_rmul repeat_tuple F.slot_int_index.lookup
      (call_meets F.slot_int_rmul (typeIs_int s 0 t) F.entry_int_rmul (F.args_int_rmul_2 _ _) (int_rmul_tuple 0 t l its.toArray n dd sl)
        ⟨ho, rfl, ⟨_, ho, rfl⟩, call_meets F.slot_tuple_mul ⟨_, ho, rfl⟩ F.entry_tuple_mul (F.args_tuple_mul_2 _ _) (tuple_mul0 l its.toArray n dd sl t hi) ⟨ho, ?_⟩⟩)
    refine ⟨.ref s.heap.objs.size, _, I.laid (t' := s.toks) (o := .tup (List.replicate (0 : Int).toNat xs).flatten) (fun b ob q => Heap.get?_push_of_some _ q) (Nat.le_refl _) ?_, rfl, q2 (by decide) _ (I.hok.fresh (Nat.le_refl _))⟩
    exact ⟨Nat.zero_le _, [], .nil, IsTup.new _ _⟩
  · refine wpAny_binaryOp_repeat_ref (T := "tuple") (U := "int") (by decide) ⟨_, ho, rfl⟩ (fun s' => typeIs_int s' 1 t) noFill_tuple_mul F.fills_int_mul F.slot_int_rmul repeat_tuple F.slot_int_index.lookup
      (call_meets F.slot_int_rmul (typeIs_int s 1 t) F.entry_int_rmul (F.args_int_rmul_2 _ _) (int_rmul_tuple 1 t l its.toArray n dd sl)
        ⟨ho, rfl, ⟨_, ho, rfl⟩, call_meets F.slot_tuple_mul ⟨_, ho, rfl⟩ F.entry_tuple_mul (F.args_tuple_mul_2 _ _) (tuple_mul1 l its.toArray n dd sl t) ⟨ho, ?_⟩⟩)
    exact ⟨.ref l, H, I, rfl, q1 rfl⟩
end
end TT

/-! what stands for data in the heap; short rules -/
namespace TT
open PySem L2
/-! ### what stays: every object but lists -/
def Keep (H H' : Hp) : Prop := ∀ b o, (∀ xs, o ≠ .lst xs) → H b = some o → H' b = some o
theorem Keep.refl (H : Hp) : Keep H H := fun _ _ _ h => h
theorem Keep.trans {H H1 H2 : Hp} (a : Keep H H1) (b : Keep H1 H2) : Keep H H2 := fun c o n h => b c o n (a c o n h)
theorem _root_.L2.Same.keep {H H' : Hp} (s : Same H H') : Keep H H' := fun b o _ h => s b o h
theorem Keep.tup {H H' : Hp} (k : Keep H H') {t : Addr} {xs : List V} (h : H t = some (.tup xs)) : H' t = some (.tup xs) := k t _ (fun _ q => nomatch q) h
theorem Keep.ins {H H' : Hp} (k : Keep H H') {t C dx : Addr} {xs : List (Str × V)} (h : H t = some (.ins C dx xs)) : H' t = some (.ins C dx xs) := k t _ (fun _ q => nomatch q) h
theorem same_new {H : Hp} {p : Addr} {o : HO} (h : H p = none) : Same H (upd H p o) := fun b u e => by rw [upd_ne (ne_of_none e h)]; exact e
theorem same_own {H0 H : Hp} {p : Addr} {o : HO} (s : Same H0 H) (h : H0 p = none) : Same H0 (upd H p o) := fun b u e => by rw [upd_ne (ne_of_none e h)]; exact s b u e
theorem keep_lst {H : Hp} {p : Addr} {xs : List V} {o : HO} (h : H p = some (.lst xs)) : Keep H (upd H p o) := fun b u n e => by
  have : b ≠ p := fun q => by subst q; rw [h] at e; cases e; exact n _ rfl
  rw [upd_ne this]; exact e
/-- all but the list at g -/
def But (g : Addr) (H H' : Hp) : Prop := ∀ b o, b ≠ g → H b = some o → H' b = some o
theorem But.refl (g : Addr) (H : Hp) : But g H H := fun _ _ _ h => h
theorem But.trans {g : Addr} {H H1 H2 : Hp} (a : But g H H1) (b : But g H1 H2) : But g H H2 := fun c o n h => b c o n (a c o n h)
theorem _root_.L2.Same.but {H H' : Hp} (s : Same H H') (g : Addr) : But g H H' := fun b o _ h => s b o h
theorem But.keep {g : Addr} {H H' : Hp} (k : But g H H') {ys : List V} (hg : H g = some (.lst ys)) : Keep H H' := fun b o n h => by
  by_cases e : b = g
  · subst e; rw [hg] at h; cases h; exact absurd rfl (n _)
  · exact k b o e h
theorem But.free {g : Addr} {H H' : Hp} (k : But g H H') {p : Addr} (hp : H' p = none) (h : p ≠ g) : H p = none := by
  cases q : H p with
  | none => rfl
  | some o => rw [k p o h q] at hp; cases hp
theorem but_upd {g : Addr} {H : Hp} {o : HO} : But g H (upd H g o) := fun b u n e => by rw [upd_ne n]; exact e
/-! ### data -/
abbrev Rp (α : Type) := Hp → V → α → Prop
def Mono {α : Type} (R : Rp α) : Prop := ∀ H H' v x, Keep H H' → R H v x → R H' v x
def rInt : Rp Int := fun _ v n => v = .int n
def rRow : Rp (List Int) := fun H v l => ∃ t, v = .ref t ∧ H t = some (.tup (l.map V.int))
def rPI : Rp (Int × Int) := fun H v p => ∃ t, v = .ref t ∧ H t = some (.tup [.int p.1, .int p.2])
def rTup {α : Type} (R : Rp α) : Rp (List α) := fun H v l => ∃ t xs, v = .ref t ∧ H t = some (.tup xs) ∧ Paired (R H) xs l
theorem mono_int : Mono rInt := fun _ _ _ _ _ h => h
theorem mono_row : Mono rRow := fun _ _ _ _ k ⟨t, e, h⟩ => ⟨t, e, k.tup h⟩
theorem mono_pi : Mono rPI := fun _ _ _ _ k ⟨t, e, h⟩ => ⟨t, e, k.tup h⟩
theorem paired_mono {α : Type} {R : Rp α} (m : Mono R) {H H' : Hp} (k : Keep H H') {xs : List V} {l : List α} (p : Paired (R H) xs l) : Paired (R H') xs l := Paired.mapP p fun _ _ h => m _ _ _ _ k h
theorem mono_tup {α : Type} {R : Rp α} (m : Mono R) : Mono (rTup R) := fun _ _ _ _ k ⟨t, xs, e, h, p⟩ => ⟨t, xs, e, k.tup h, paired_mono m k p⟩
theorem paired_len {α β : Type} {F : α → β → Prop} : ∀ {xs : List α} {l : List β}, Paired F xs l → xs.length = l.length := Paired.length
theorem paired_get2 {α β : Type} {F : α → β → Prop} : ∀ {xs : List α} {l : List β} {i : Nat} {y : β}, Paired F xs l → l[i]? = some y → ∃ x, xs[i]? = some x ∧ F x y
  | _, _, _, _, .nil, e => by simp at e
  | _, _, 0, _, .cons r _, e => by simp at e; subst e; exact ⟨_, rfl, r⟩
  | _, _, i + 1, x, .cons _ t, e => by
    obtain ⟨u, h1, h2⟩ := paired_get2 (i := i) (y := x) t (by simpa using e)
    exact ⟨u, by simpa using h1, h2⟩
theorem paired_int : ∀ {xs : List V} {l : List Int} {H : Hp}, Paired (rInt H) xs l → xs = l.map V.int
  | _, _, _, .nil => rfl
  | _, _, _, .cons r t => by cases r; rw [List.map_cons, paired_int t]
theorem paired_ints {H : Hp} : ∀ (l : List Int), Paired (rInt H) (l.map V.int) l
  | [] => .nil
  | _ :: r => .cons rfl (paired_ints r)
theorem paired_app {α β : Type} {F : α → β → Prop} : ∀ {xs : List α} {l : List β} {ys : List α} {m : List β}, Paired F xs l → Paired F ys m → Paired F (xs ++ ys) (l ++ m)
  | _, _, _, _, .nil, q => q
  | _, _, _, _, .cons r t, q => .cons r (paired_app t q)
theorem paired_perm {α β : Type} {F : α → β → Prop} : ∀ {ys xs : List α}, ys.Perm xs → ∀ {l : List β}, Paired F xs l → ∃ m, m.Perm l ∧ Paired F ys m := by
  intro ys xs h
  induction h with
  | nil => intro l p; cases p; exact ⟨[], .refl _, .nil⟩
  | cons x h ih => intro l p; cases p with | cons r t => obtain ⟨m, h1, h2⟩ := ih t; exact ⟨_ :: m, .cons _ h1, .cons r h2⟩
  | swap x y t => intro l p; cases p with | cons r1 p => cases p with | cons r2 p => exact ⟨_ :: _ :: _, .swap _ _ _, .cons r2 (.cons r1 p)⟩
  | trans h1 h2 ih1 ih2 => intro l p; obtain ⟨m, a, b⟩ := ih2 p; obtain ⟨m', c, d⟩ := ih1 b; exact ⟨m', c.trans a, d⟩
theorem seqt_row {K : PySem.W.Frag} {H : Hp} {t : Addr} {xs : List V} (h : H t = some (.tup xs)) : SqT K H t xs := .of h
theorem at_int {l : List Int} {i : Nat} {x : V} (h : (l.map V.int)[i]? = some x) : ∃ n, l[i]? = some n ∧ x = .int n := by
  rw [List.getElem?_map] at h
  cases e : l[i]? with
  | none => rw [e] at h; cases h
  | some n => rw [e] at h; exact ⟨n, rfl, (Option.some.inj h).symm⟩
theorem int_at {l : List Int} {i : Nat} {n : Int} (h : l[i]? = some n) : (l.map V.int)[i]? = some (.int n) := by rw [List.getElem?_map, h]; rfl
/-! ### short rules -/
section
variable {X : Cx}
theorem ty_int {p : Pos} (hm : X.mg "int" = none) (hg : Gl X "int" := by rfl) : PE X (.Name "int" p) (tC (.ty "int")) := pe_bltn hg hm (by decide +kernel) (u := .type "int") rfl
theorem ty_bool {p : Pos} (hm : X.mg "bool" = none) (hg : Gl X "bool" := by rfl) : PE X (.Name "bool" p) (tC (.ty "bool")) := pe_bltn hg hm (by decide +kernel) (u := .type "bool") rfl
theorem ty_tuple {p : Pos} (hm : X.mg "tuple" = none) (hg : Gl X "tuple" := by rfl) : PE X (.Name "tuple" p) (tC (.ty "tuple")) := pe_bltn hg hm (by decide +kernel) (u := .type "tuple") rfl
theorem ty_list {p : Pos} (hm : X.mg "list" = none) (hg : Gl X "list" := by rfl) : PE X (.Name "list" p) (tC (.ty "list")) := pe_bltn hg hm (by decide +kernel) (u := .type "list") rfl
end
section
variable {K : PySem.W.Frag}
theorem kit_ii : PySem.W.kitOne K (.type "int") (.type "int") = some true := kit_ty (by decide +kernel)
theorem kit_ib : PySem.W.kitOne K (.type "int") (.type "bool") = some false := kit_ty (by decide +kernel)
theorem kit_tt : PySem.W.kitOne K (.type "tuple") (.type "tuple") = some true := kit_ty (by decide +kernel)
end
/-! ### rules whose reading speaks of K, for the blocks of comprehensions -/
section
variable {X : Cx} {K : PySem.W.Frag}
theorem ixT (h : X.K = K) : IxR X (rIxT K) := h ▸ ix_tup
theorem ixL (h : X.K = K) : IxR X (rIxL K) := h ▸ ix_list
theorem inS (h : X.K = K) : OpR X (compareOp .In) (rIn K false) := h ▸ op_in_seq
theorem ninS (h : X.K = K) : OpR X (compareOp .NotIn) (rIn K true) := h ▸ op_notIn_seq
theorem lenS (h : X.K = K) : CallR X (.builtin "len") (fun xs H Q => ∃ p ys, xs = [.ref p] ∧ (SqL K H p ys ∨ SqT K H p ys) ∧ Q (.int ys.length) H) := h ▸ call_len_seq
theorem isiS (h : X.K = K) : CallR X (.builtin "isinstance") (rIsi K) := h ▸ call_isi
theorem piT {tg l : Expr} {tl : TE} (hh : X.K = K) (hl : PI X tg l (iTup X.K tl)) : PI X tg l (iTup K tl) := hh ▸ hl
theorem pgT {es : List Expr} {k : Nat} {t : TGs} {n : Nat} {pos : Pos} (hh : X.K = K) (hc : X.calm = true) (h : PGs X es t) (hn : (assignEach es X.env).length = n := by rfl) (hst : (assignEach es X.env).findIdx? (·.1) = none := by rfl) : PG X (.Tuple es k pos) (gTup K n t) := hh ▸ pg_tup hc h hn hst
theorem fldK {o : Expr} {ta : TE} {f : Str} {pos : Pos} (he : PE X o ta) (hh : X.K = K) (hb : attributeBase o f X.env (eval o X.env) = eval o X.env) : PE X (.Attribute o f pos) (tFld K ta f) := hh ▸ pe_fld he hb
theorem tupS (h : X.K = K) : CallR X (.type "tuple") (fun xs H Q => ∃ p ys, xs = [.ref p] ∧ ((SqL K H p ys ∧ ∀ l, H l = none → Q (.ref l) (upd H l (.tup ys))) ∨ (SqT K H p ys ∧ Q (.ref p) H))) := h ▸ call_tuple_of
end
/-! ### comprehensions -/
section
variable {J : It} {n : Nat} {G : Hp → Prop} {Y : Nat → Hp → V → Hp → Prop} {g : TG} {tt : TT} {te : TE} {vs : List Nat} {σ : St} {H1 : Hp} {D : Addr} {Qd : Hp → Prop} {α : Type}
theorem range_fm {f : Nat → Option α} {i : Nat} : (List.range (i + 1)).filterMap f = (List.range i).filterMap f ++ (f i).toList := by
  rw [List.range_succ, List.filterMap_append]
  congr 1
theorem fm_len {f : Nat → Option α} {i : Nat} : ((List.range i).filterMap f).length ≤ i := by
  have := List.length_filterMap_le f (List.range i)
  rw [List.length_range] at this
  exact this
/-- the list at D holds what f tells of the turns so far, all else stays -/
def PvFm (R : Rp α) (f : Nat → Option α) (D : Addr) (H1 : Hp) (i : Nat) (H : Hp) : Prop := Same H1 H ∧ ∃ xs, H D = some (.lst xs) ∧ Paired (R H) xs ((List.range i).filterMap f)
theorem fm_keep {R : Rp α} (m : Mono R) {f : Nat → Option α} {i : Nat} {H H4 : Hp} {y : V} {a : α} (p : PvFm R f D H1 i H) (hD : H1 D = none) (hi : i ≤ 100000) (s4 : Same H H4) (ea : f i = some a) (ra : R H4 y a) :
    ∃ acc, H4 D = some (.lst acc) ∧ acc.length < sizeLine ∧ PvFm R f D H1 (i + 1) (upd H4 D (.lst (acc ++ [y]))) := by
  obtain ⟨s, xs, h1, h2⟩ := p
  have hl : xs.length ≤ i := by rw [paired_len h2]; exact fm_len
  have hD4 : H4 D = some (.lst xs) := s4 _ _ h1
  have k5 : Keep H4 (upd H4 D (.lst (xs ++ [y]))) := keep_lst hD4
  refine ⟨xs, hD4, Nat.lt_of_le_of_lt (Nat.le_trans hl hi) (by decide), same_own (s.trans s4) hD, xs ++ [y], upd_same, ?_⟩
  rw [range_fm, ea]
  exact paired_app (paired_mono m k5 (paired_mono m s4.keep h2)) (.cons (m _ _ _ _ k5 ra) .nil)
theorem fm_skip {R : Rp α} (m : Mono R) {f : Nat → Option α} {i : Nat} {H H3 : Hp} (p : PvFm R f D H1 i H) (s3 : Same H H3) (e : f i = none) : PvFm R f D H1 (i + 1) H3 := by
  obtain ⟨s, xs, h1, h2⟩ := p
  refine ⟨s.trans s3, xs, s3 _ _ h1, ?_⟩
  rw [range_fm, e]
  simpa using paired_mono m s3.keep h2
/-- a comprehension that makes a list of what f tells, all else staying -/
theorem lc_fm (w : Walk J n G Y) (R : Rp α) (f : Nat → Option α) (hD : H1 D = none) (hG : ∀ H, Same H1 H → G H)
    (hs : ∀ i x H H', i < n → PvFm R f D H1 i H → Y i H x H' → g x (wipe σ vs) H' fun σ2 H2 => wipe σ2 vs = wipe σ vs ∧ tt σ2 H2 fun b H3 =>
      if b = true then te σ2 H3 fun y H4 => ∃ acc, H4 D = some (.lst acc) ∧ acc.length < sizeLine ∧ PvFm R f D H1 (i + 1) (upd H4 D (.lst (acc ++ [y]))) else PvFm R f D H1 (i + 1) H3)
    (hd : ∀ H xs, Same H1 H → H D = some (.lst xs) → Paired (R H) xs ((List.range n).filterMap f) → Qd H) :
    ∃ W : Nat → Nat → Hp → Prop, (∃ m, W 0 m (upd H1 D (.lst []))) ∧ ∀ i m H, W i m H →
      (J.stop i H ∧ Qd H) ∨ (J.go i H ∧ ∃ Nx : Hp → Prop, (∀ H', Nx H' → ∃ m', m' < m ∧ W (i + 1) m' H') ∧ ∀ x H', J.yld i H x H' → g x (wipe σ vs) H' fun σ2 H2 => wipe σ2 vs = wipe σ vs ∧ tt σ2 H2 fun b H3 =>
        if b = true then te σ2 H3 fun y H4 => ∃ acc, H4 D = some (.lst acc) ∧ acc.length < sizeLine ∧ Nx (upd H4 D (.lst (acc ++ [y]))) else Nx H3) :=
  lc_it w (PvFm R f D H1) ⟨same_new hD, [], upd_same, .nil⟩ (fun i H _ h => hG H h.1) hs (fun H ⟨s, xs, h1, h2⟩ => hd H xs s h1 h2)
theorem fm_all {β : Type} (h : Nat → β) : ∀ n : Nat, (List.range n).filterMap (fun i => some (h i)) = (List.range n).map h := fun n => by rw [List.filterMap_eq_map']
theorem fm_list {β : Type} (l : List α) (h : α → Option β) : (List.range l.length).filterMap (fun i => l[i]?.bind h) = l.filterMap h := by
  have e : ∀ (m : Nat), m ≤ l.length → (List.range m).filterMap (fun i => l[i]?.bind h) = (l.take m).filterMap h := by
    intro m
    induction m with
    | zero => intro _; rfl
    | succ m ih =>
      intro hm
      rw [range_fm, ih (by omega), List.take_succ, List.filterMap_append]
      congr 1
      have hl : l[m]? = some l[m] := List.getElem?_eq_getElem (by omega)
      rw [hl]
      show (h l[m]).toList = List.filterMap h [l[m]]
      rw [List.filterMap_cons]
      cases h l[m] <;> rfl
  have := e l.length (Nat.le_refl _)
  rwa [List.take_length] at this
end
/-! ### sorted(a list of pairs of ints), by what the pairs are -/
def lxLt (a b : Int × Int) : Prop := a.1 < b.1 ∨ (a.1 = b.1 ∧ a.2 < b.2)
instance (a b : Int × Int) : Decidable (lxLt a b) := by unfold lxLt; infer_instance
def lxLe (a b : Int × Int) : Prop := ¬ lxLt b a
noncomputable def kOf (H : Hp) (v : V) : Int × Int := open Classical in if h : ∃ z, rPI H v z then h.choose else (0, 0)
theorem kOf_eq {H : Hp} {v : V} {z : Int × Int} (h : rPI H v z) : kOf H v = z := by
  have hx : ∃ z, rPI H v z := ⟨z, h⟩
  have e : kOf H v = hx.choose := by unfold kOf; rw [dif_pos hx]
  rw [e]
  obtain ⟨t, e1, h1⟩ := hx.choose_spec
  obtain ⟨t', e2, h2⟩ := h
  rw [e1] at e2
  cases e2
  rw [h1] at h2
  have h3 := Option.some.inj h2
  injection h3 with h3
  injection h3 with a b
  injection b with b _
  exact Prod.ext (V.int.inj a) (V.int.inj b)
theorem kOf_map {H : Hp} : ∀ {xs : List V} {l : List (Int × Int)}, Paired (rPI H) xs l → xs.map (kOf H) = l
  | _, _, .nil => rfl
  | _, _, .cons r t => by rw [List.map_cons, kOf_eq r, kOf_map t]
theorem paired_kOf {H : Hp} : ∀ {ys : List V}, (∀ y ∈ ys, rPI H y (kOf H y)) → Paired (rPI H) ys (ys.map (kOf H))
  | [], _ => .nil
  | y :: ys, h => .cons (h y (by simp)) (paired_kOf fun z hz => h z (by simp [hz]))
theorem paired_mem {α β : Type} {F : α → β → Prop} : ∀ {xs : List α} {l : List β} {x : α}, Paired F xs l → x ∈ xs → ∃ y ∈ l, F x y
  | _, _, _, .nil, h => by simp at h
  | _, _, _, .cons r t, h => by
    rcases List.mem_cons.mp h with rfl | h
    · exact ⟨_, by simp, r⟩
    · obtain ⟨y, hy, f⟩ := paired_mem t h
      exact ⟨y, by simp [hy], f⟩
def rSortedPD (K : PySem.W.Frag) : List V → Hp → VK → Prop := fun vs H Q => ∃ (a : Addr) (xs : List V) (l : List (Int × Int)), vs = [V.ref a] ∧ SqL K H a xs ∧ Paired (rPI H) xs l ∧
  ∀ ys m p, Paired (rPI H) ys m → m.Perm l → m.Pairwise lxLe → H p = none → Q (.ref p) (upd H p (.lst ys))
theorem cr_sortedPD {X : Cx} : CallR X (.builtin "sorted") (rSortedPD X.K) := by
  intro pins s σ H vs us Q I r h
  obtain ⟨a, xs, l, rfl, hs, hp, q⟩ := h
  refine cr_sortedPO pins s σ H _ us Q I r ⟨a, xs, kOf H, rfl, hs, fun x hx => ?_, fun ys p h1 h2 np => ?_⟩
  · obtain ⟨z, _, hz⟩ := paired_mem hp hx
    rw [kOf_eq hz]
    exact hz
  · refine q ys (ys.map (kOf H)) p (paired_kOf fun y hy => ?_) ?_ ?_ np
    · obtain ⟨z, _, hz⟩ := paired_mem hp (h2.perm.mem_iff.mp hy)
      rw [kOf_eq hz]
      exact hz
    · rw [← kOf_map hp]
      exact h2.perm.map _
    · rw [List.pairwise_map]
      exact h1.imp fun {a b} h q => by
        have := SrtO.lexB_iff.mpr q
        rw [show ltP (kOf H) b a = true from this] at h
        cases h
theorem lxLt_tri (a b : Int × Int) : lxLt a b ∨ a = b ∨ lxLt b a := by
  unfold lxLt
  by_cases h1 : a.1 = b.1
  · by_cases h2 : a.2 = b.2
    · exact .inr (.inl (Prod.ext h1 h2))
    · omega
  · omega
theorem lxLe_antisymm {a b : Int × Int} (h1 : lxLe a b) (h2 : lxLe b a) : a = b := by
  rcases lxLt_tri a b with h | h | h
  · exact absurd h h2
  · exact h
  · exact absurd h h1
theorem lxLe_trans {a b c : Int × Int} (h1 : lxLe a b) (h2 : lxLe b c) : lxLe a c := by
  unfold lxLe lxLt at *
  omega
/-- two ascending lists of the same pairs are one -/
theorem lex_same : ∀ {l m : List (Int × Int)}, l.Perm m → l.Pairwise lxLe → m.Pairwise lxLe → l = m := fun {l m} h h1 h2 =>
  h.eq_of_pairwise (fun a b _ _ p q => lxLe_antisymm p q) h1 h2
theorem up_same : ∀ {l m : List Int}, l.Perm m → l.Pairwise (· ≤ ·) → m.Pairwise (· ≤ ·) → l = m := fun {l m} h h1 h2 =>
  h.eq_of_pairwise (fun a b _ _ p q => Int.le_antisymm p q) h1 h2
/-- ascending, none twice -/
theorem lex_strict {l : List (Int × Int)} (h1 : l.Pairwise lxLe) (h2 : l.Nodup) : l.Pairwise lxLt := by
  have := List.pairwise_and_iff.mpr ⟨h1, h2⟩
  exact this.imp fun {a b} ⟨p, q⟩ => by
    rcases lxLt_tri a b with h | h | h
    · exact h
    · exact absurd h q
    · exact absurd h p
/-! ### a walk, whatever its turn asks; comprehensions with two loops -/
section
variable {J : It} {n : Nat} {G : Hp → Prop} {Y : Nat → Hp → V → Hp → Prop} {H0 H1 : Hp} {D : Addr} {Qd : Hp → Prop} {α : Type}
theorem walk_W (w : Walk J n G Y) (B : (Hp → Prop) → V → Hp → Prop) (Pv : Nat → Hp → Prop) (h0 : Pv 0 H0) (hG : ∀ i H, i ≤ n → Pv i H → G H)
    (hs : ∀ i x H H', i < n → Pv i H → Y i H x H' → B (Pv (i + 1)) x H') (hd : ∀ H, Pv n H → Qd H) :
    ∃ W : Nat → Nat → Hp → Prop, (∃ m, W 0 m H0) ∧ ∀ i m H, W i m H →
      (J.stop i H ∧ Qd H) ∨ (J.go i H ∧ ∃ Nx : Hp → Prop, (∀ H', Nx H' → ∃ m', m' < m ∧ W (i + 1) m' H') ∧ ∀ x H', J.yld i H x H' → B Nx x H') := by
  refine ⟨fun i m H => m = n - i ∧ i ≤ n ∧ Pv i H, ⟨n, by simp, Nat.zero_le _, h0⟩, ?_⟩
  rintro i m H ⟨rfl, hi, p⟩
  have q := hG i H hi p
  by_cases hlt : i < n
  · exact .inr ⟨w.goes i H hlt q, Pv (i + 1), fun H' p' => ⟨n - (i + 1), by omega, rfl, hlt, p'⟩, fun x H' y => hs i x H H' hlt p (w.yields i H x H' hlt q y)⟩
  · have e : i = n := by omega
    subst e
    exact .inl ⟨w.stops H q, hd H p⟩
/-- the list at D holds what the turns of the outer loop have told -/
def PvFl (R : Rp α) (F : Nat → List α) (D : Addr) (H1 : Hp) (i : Nat) (H : Hp) : Prop := Same H1 H ∧ ∃ xs, H D = some (.lst xs) ∧ Paired (R H) xs ((List.range i).flatMap F)
/-- within a turn: the first j of l have come -/
def PvIn (R : Rp α) (pre l : List α) (D : Addr) (H1 Hb : Hp) (j : Nat) (H : Hp) : Prop := Same H1 H ∧ Keep Hb H ∧ ∃ xs, H D = some (.lst xs) ∧ Paired (R H) xs (pre ++ l.take j)
theorem fl_start {R : Rp α} {F : Nat → List α} (hD : H1 D = none) : PvFl R F D H1 0 (upd H1 D (.lst [])) := ⟨same_new hD, [], upd_same, .nil⟩
theorem fl_in {R : Rp α} (m : Mono R) {F : Nat → List α} {i : Nat} {H H4 : Hp} (p : PvFl R F D H1 i H) (s : Same H H4) : PvIn R ((List.range i).flatMap F) (F i) D H1 H4 0 H4 := by
  obtain ⟨s1, xs, h1, h2⟩ := p
  refine ⟨s1.trans s, .refl _, xs, s _ _ h1, ?_⟩
  rw [List.take_zero, List.append_nil]
  exact paired_mono m s.keep h2
theorem in_keep {R : Rp α} (m : Mono R) {pre l : List α} {j : Nat} {H H4 Hb : Hp} {y : V} {a : α} (p : PvIn R pre l D H1 Hb j H) (hD : H1 D = none) (hz : pre.length + j ≤ 100000) (s4 : Same H H4) (ea : l[j]? = some a) (ra : R H4 y a) :
    ∃ acc, H4 D = some (.lst acc) ∧ acc.length < sizeLine ∧ PvIn R pre l D H1 Hb (j + 1) (upd H4 D (.lst (acc ++ [y]))) := by
  obtain ⟨s, kb, xs, h1, h2⟩ := p
  have hl : xs.length ≤ pre.length + j := by rw [paired_len h2, List.length_append, List.length_take]; omega
  have hD4 : H4 D = some (.lst xs) := s4 _ _ h1
  have k5 : Keep H4 (upd H4 D (.lst (xs ++ [y]))) := keep_lst hD4
  refine ⟨xs, hD4, Nat.lt_of_le_of_lt (Nat.le_trans hl hz) (by decide), same_own (s.trans s4) hD, (kb.trans s4.keep).trans k5, xs ++ [y], upd_same, ?_⟩
  rw [List.take_succ, ea, ← List.append_assoc]
  exact paired_app (paired_mono m k5 (paired_mono m s4.keep h2)) (.cons (m _ _ _ _ k5 ra) .nil)
theorem in_fl {R : Rp α} {F : Nat → List α} {i n : Nat} {H Hb : Hp} (hn : n = (F i).length) (p : PvIn R ((List.range i).flatMap F) (F i) D H1 Hb n H) : PvFl R F D H1 (i + 1) H := by
  obtain ⟨s, _, xs, h1, h2⟩ := p
  refine ⟨s, xs, h1, ?_⟩
  rw [hn, List.take_length] at h2
  rw [List.range_succ, List.flatMap_append, List.flatMap_singleton]
  exact h2
theorem fl_list {β : Type} (l : List β) (h : β → List α) : (List.range l.length).flatMap (fun i => (l[i]?.map h).getD []) = l.flatMap h := by
  have e : ∀ (m : Nat), m ≤ l.length → (List.range m).flatMap (fun i => (l[i]?.map h).getD []) = (l.take m).flatMap h := by
    intro m
    induction m with
    | zero => intro _; rfl
    | succ m ih =>
      intro hm
      have hl : l[m]? = some l[m] := List.getElem?_eq_getElem (by omega)
      rw [List.range_succ, List.flatMap_append, ih (by omega), List.take_succ, List.flatMap_append, hl, List.flatMap_singleton, hl]
      simp
  have := e l.length (Nat.le_refl _)
  rwa [List.take_length] at this
end
theorem rgV_int (a b : Int) : rgV a b = ((List.range (b - a).toNat).map fun (i : Nat) => a + (i : Int)).map V.int := by
  unfold rgV
  rw [List.map_map]
  rfl
theorem cutV_upto (xs : List V) (k : Nat) : cutV xs none (some (k : Int)) = xs.take k := by
  unfold cutV
  rw [HT.sIx_none, HT.sIx_nat, List.drop_zero, Nat.sub_zero]
  by_cases h : k ≤ xs.length
  · rw [Nat.min_eq_left h]
  · rw [Nat.min_eq_right (by omega), List.take_of_length_le (Nat.le_refl _), List.take_of_length_le (by omega)]
/-- t[:k] -/
theorem slice_upto {K : PySem.W.Frag} {H : Hp} {a : Addr} {xs : List V} {k : Nat} {Q : VK} (h : H a = some (.tup xs)) (q : ∀ H' p, Same H H' → H' p = some (.tup (xs.take k)) → Q (.ref p) H') : rSlA K (.ref a) none (some (k : Int)) H Q := by
  refine ⟨a, xs, rfl, .of h, fun e => q H a (.refl _) ?_, fun _ p np => ?_⟩
  · rw [HT.sIx_nat] at e
    rw [List.take_of_length_le (by omega)]
    exact h
  · rw [cutV_upto]
    exact q _ p (same_new np) upd_same
end TT

namespace S4
open PySem L2 TT
/-! ### the text by places -/
def top (i : Nat) : Stmt := PySem.Challenge.pw_sametolls_k04_whole_ways_sides_blocks.main.body.getD i (.Pass ⟨0, 0, 0, 0⟩)
abbrev s_is_integer : Stmt := top 7
abbrev s_is_below : Stmt := top 8
abbrev s_is_pair : Stmt := top 9
abbrev s_is_row : Stmt := top 10
abbrev s_is_clock : Stmt := top 13
abbrev s_check_ties : Stmt := top 17
abbrev s_is_tie : Stmt := top 18
abbrev s_tied : Stmt := top 19
abbrev s_ways : Stmt := top 20
abbrev s_beyond : Stmt := top 21
abbrev s_this_side : Stmt := top 22
abbrev s_neighbours : Stmt := top 23
abbrev s_reached : Stmt := top 24
abbrev s_is_way : Stmt := top 25
abbrev s_are_counts : Stmt := top 30
abbrev s_check_wants : Stmt := top 31
abbrev s_held : Stmt := top 32
abbrev s_own_places : Stmt := top 33
abbrev s_block : Stmt := top 34
abbrev s_near_numbers : Stmt := top 35
abbrev s_far_wants : Stmt := top 36
abbrev s_cut : Stmt := top 37
abbrev s_narrowed : Stmt := top 38
abbrev s_law_hand : Stmt := top 40
abbrev s_law_draw : Stmt := top 41
abbrev s_law_any : Stmt := top 42
abbrev s_law_is : Stmt := top 43
abbrev s_law_mixed : Stmt := top 44
abbrev s_law_less : Stmt := top 45
abbrev s_law_summed : Stmt := top 46
abbrev s_law_clock : Stmt := top 47
abbrev s_law_some_row : Stmt := top 48
abbrev s_law_ties : Stmt := top 49
abbrev s_law_near : Stmt := top 50
abbrev s_law_all_ways : Stmt := top 51
abbrev s_law_this : Stmt := top 52
abbrev s_law_numbers : Stmt := top 53
abbrev s_law_full : Stmt := top 54
abbrev s_law_cut : Stmt := top 55
abbrev s_law_spec : Stmt := top 56
abbrev s_law_sheet : Stmt := top 57
abbrev s_law : Stmt := top 58
abbrev s_Tree : Stmt := inClass (top 16) 0
abbrev s_Sheet : Stmt := inClass (top 29) 0
abbrev N_is_integer : List Str := ["thing"]
theorem sc_is_integer : FnScope N_is_integer ["thing"] (defScope s_is_integer) := ⟨rfl, rfl, rfl, by decide +kernel, rfl, by decide +kernel, by decide +kernel⟩
abbrev N_is_below : List Str := ["thing", "end"]
theorem sc_is_below : FnScope N_is_below ["thing", "end"] (defScope s_is_below) := ⟨rfl, rfl, rfl, by decide +kernel, rfl, by decide +kernel, by decide +kernel⟩
abbrev N_is_pair : List Str := ["thing"]
theorem sc_is_pair : FnScope N_is_pair ["thing"] (defScope s_is_pair) := ⟨rfl, rfl, rfl, by decide +kernel, rfl, by decide +kernel, by decide +kernel⟩
abbrev N_is_row : List Str := ["thing", "p", "wide", "value"]
theorem sc_is_row : FnScope N_is_row ["thing", "p", "wide"] (defScope s_is_row) := ⟨rfl, rfl, rfl, by decide +kernel, rfl, by decide +kernel, by decide +kernel⟩
abbrev N_is_clock : List Str := ["thing", "factor"]
theorem sc_is_clock : FnScope N_is_clock ["thing"] (defScope s_is_clock) := ⟨rfl, rfl, rfl, by decide +kernel, rfl, by decide +kernel, by decide +kernel⟩
abbrev N_check_ties : List Str := ["ties", "posts", "number", "tie"]
theorem sc_check_ties : FnScope N_check_ties ["ties"] (defScope s_check_ties) := ⟨rfl, rfl, rfl, by decide +kernel, rfl, by decide +kernel, by decide +kernel⟩
abbrev N_is_tie : List Str := ["thing", "posts", "post"]
theorem sc_is_tie : FnScope N_is_tie ["thing", "posts"] (defScope s_is_tie) := ⟨rfl, rfl, rfl, by decide +kernel, rfl, by decide +kernel, by decide +kernel⟩
abbrev N_tied : List Str := ["tree", "post"]
theorem sc_tied : FnScope N_tied ["tree", "post"] (defScope s_tied) := ⟨rfl, rfl, rfl, by decide +kernel, rfl, by decide +kernel, by decide +kernel⟩
abbrev N_ways : List Str := ["tree", "one", "other"]
theorem sc_ways : FnScope N_ways ["tree"] (defScope s_ways) := ⟨rfl, rfl, rfl, by decide +kernel, rfl, by decide +kernel, by decide +kernel⟩
abbrev N_beyond : List Str := ["tree", "way", "here", "there"]
theorem sc_beyond : FnScope N_beyond ["tree", "way"] (defScope s_beyond) := ⟨rfl, rfl, rfl, by decide +kernel, rfl, by decide +kernel, by decide +kernel⟩
abbrev N_this_side : List Str := ["tree", "way", "here", "there"]
theorem sc_this_side : FnScope N_this_side ["tree", "way"] (defScope s_this_side) := ⟨rfl, rfl, rfl, by decide +kernel, rfl, by decide +kernel, by decide +kernel⟩
abbrev N_neighbours : List Str := ["ties", "post", "tie"]
theorem sc_neighbours : FnScope N_neighbours ["ties", "post"] (defScope s_neighbours) := ⟨rfl, rfl, rfl, by decide +kernel, rfl, by decide +kernel, by decide +kernel⟩
abbrev N_reached : List Str := ["ties", "start", "barred", "found", "waiting", "here", "post"]
theorem sc_reached : FnScope N_reached ["ties", "start", "barred"] (defScope s_reached) := ⟨rfl, rfl, rfl, by decide +kernel, rfl, by decide +kernel, by decide +kernel⟩
abbrev N_is_way : List Str := ["tree", "thing", "post"]
theorem sc_is_way : FnScope N_is_way ["tree", "thing"] (defScope s_is_way) := ⟨rfl, rfl, rfl, by decide +kernel, rfl, by decide +kernel, by decide +kernel⟩
abbrev N_are_counts : List Str := ["tree", "thing", "count"]
theorem sc_are_counts : FnScope N_are_counts ["tree", "thing"] (defScope s_are_counts) := ⟨rfl, rfl, rfl, by decide +kernel, rfl, by decide +kernel, by decide +kernel⟩
abbrev N_check_wants : List Str := ["p", "tree", "numbers", "wants", "rows", "post", "want", "row"]
theorem sc_check_wants : FnScope N_check_wants ["p", "tree", "numbers", "wants"] (defScope s_check_wants) := ⟨rfl, rfl, rfl, by decide +kernel, rfl, by decide +kernel, by decide +kernel⟩
abbrev N_held : List Str := ["sheet", "post"]
theorem sc_held : FnScope N_held ["sheet", "post"] (defScope s_held) := ⟨rfl, rfl, rfl, by decide +kernel, rfl, by decide +kernel, by decide +kernel⟩
abbrev N_own_places : List Str := ["counts", "post", "start"]
theorem sc_own_places : FnScope N_own_places ["counts", "post"] (defScope s_own_places) := ⟨rfl, rfl, rfl, by decide +kernel, rfl, by decide +kernel, by decide +kernel⟩
abbrev N_block : List Str := ["sheet", "way", "rows", "post", "want"]
theorem sc_block : FnScope N_block ["sheet", "way"] (defScope s_block) := ⟨rfl, rfl, rfl, by decide +kernel, rfl, by decide +kernel, by decide +kernel⟩
abbrev N_near_numbers : List Str := ["sheet", "way", "post", "number"]
theorem sc_near_numbers : FnScope N_near_numbers ["sheet", "way"] (defScope s_near_numbers) := ⟨rfl, rfl, rfl, by decide +kernel, rfl, by decide +kernel, by decide +kernel⟩
abbrev N_far_wants : List Str := ["sheet", "way", "posts", "post", "want"]
theorem sc_far_wants : FnScope N_far_wants ["sheet", "way"] (defScope s_far_wants) := ⟨rfl, rfl, rfl, by decide +kernel, rfl, by decide +kernel, by decide +kernel⟩
abbrev N_cut : List Str := ["row", "lot", "place"]
theorem sc_cut : FnScope N_cut ["row", "lot"] (defScope s_cut) := ⟨rfl, rfl, rfl, by decide +kernel, rfl, by decide +kernel, by decide +kernel⟩
abbrev N_narrowed : List Str := ["rows", "lot", "row"]
theorem sc_narrowed : FnScope N_narrowed ["rows", "lot"] (defScope s_narrowed) := ⟨rfl, rfl, rfl, by decide +kernel, rfl, by decide +kernel, by decide +kernel⟩
abbrev N_law_hand : List Str := ["script", "cells", "cell"]
theorem sc_law_hand : FnScope N_law_hand ["script"] (defScope s_law_hand) := ⟨rfl, rfl, rfl, by decide +kernel, rfl, by decide +kernel, by decide +kernel⟩
abbrev N_law_draw : List Str := ["hand", "many", "cell", "digit", "number"]
theorem sc_law_draw : FnScope N_law_draw ["hand", "many"] (defScope s_law_draw) := ⟨rfl, rfl, rfl, by decide +kernel, rfl, by decide +kernel, by decide +kernel⟩
abbrev N_law_any : List Str := ["hand", "items"]
theorem sc_law_any : FnScope N_law_any ["hand", "items"] (defScope s_law_any) := ⟨rfl, rfl, rfl, by decide +kernel, rfl, by decide +kernel, by decide +kernel⟩
abbrev N_law_is : List Str := ["told", "due", "one", "two"]
theorem sc_law_is : FnScope N_law_is ["told", "due"] (defScope s_law_is) := ⟨rfl, rfl, rfl, by decide +kernel, rfl, by decide +kernel, by decide +kernel⟩
abbrev N_law_mixed : List Str := ["hand", "items", "left", "found", "turn"]
theorem sc_law_mixed : FnScope N_law_mixed ["hand", "items"] (defScope s_law_mixed) := ⟨rfl, rfl, rfl, by decide +kernel, rfl, by decide +kernel, by decide +kernel⟩
abbrev N_law_less : List Str := ["p", "row", "other", "many", "one", "two"]
theorem sc_law_less : FnScope N_law_less ["p", "row", "other", "many"] (defScope s_law_less) := ⟨rfl, rfl, rfl, by decide +kernel, rfl, by decide +kernel, by decide +kernel⟩
abbrev N_law_summed : List Str := ["p", "wide", "rows", "many", "found", "row", "value"]
theorem sc_law_summed : FnScope N_law_summed ["p", "wide", "rows", "many"] (defScope s_law_summed) := ⟨rfl, rfl, rfl, by decide +kernel, rfl, by decide +kernel, by decide +kernel⟩
abbrev N_law_clock : List Str := ["hand"]
theorem sc_law_clock : FnScope N_law_clock ["hand"] (defScope s_law_clock) := ⟨rfl, rfl, rfl, by decide +kernel, rfl, by decide +kernel, by decide +kernel⟩
abbrev N_law_some_row : List Str := ["hand", "p", "wide", "rows", "kind", "at", "many", "place", "row"]
theorem sc_law_some_row : FnScope N_law_some_row ["hand", "p", "wide", "rows"] (defScope s_law_some_row) := ⟨rfl, rfl, rfl, by decide +kernel, rfl, by decide +kernel, by decide +kernel⟩
abbrev N_law_ties : List Str := ["hand", "posts", "names", "kind", "found", "at", "other"]
theorem sc_law_ties : FnScope N_law_ties ["hand", "posts"] (defScope s_law_ties) := ⟨rfl, rfl, rfl, by decide +kernel, rfl, by decide +kernel, by decide +kernel⟩
abbrev N_law_near : List Str := ["ties", "post", "one", "other"]
theorem sc_law_near : FnScope N_law_near ["ties", "post"] (defScope s_law_near) := ⟨rfl, rfl, rfl, by decide +kernel, rfl, by decide +kernel, by decide +kernel⟩
abbrev N_law_all_ways : List Str := ["ties", "one", "other"]
theorem sc_law_all_ways : FnScope N_law_all_ways ["ties"] (defScope s_law_all_ways) := ⟨rfl, rfl, rfl, by decide +kernel, rfl, by decide +kernel, by decide +kernel⟩
abbrev N_law_this : List Str := ["ties", "way", "found", "waiting", "here", "other"]
theorem sc_law_this : FnScope N_law_this ["ties", "way"] (defScope s_law_this) := ⟨rfl, rfl, rfl, by decide +kernel, rfl, by decide +kernel, by decide +kernel⟩
abbrev N_law_numbers : List Str := ["holds", "posts", "found", "post"]
theorem sc_law_numbers : FnScope N_law_numbers ["holds", "posts"] (defScope s_law_numbers) := ⟨rfl, rfl, rfl, by decide +kernel, rfl, by decide +kernel, by decide +kernel⟩
abbrev N_law_full : List Str := ["spec", "way", "p", "ties", "holds", "wants", "mine", "found", "post", "row", "at", "value"]
theorem sc_law_full : FnScope N_law_full ["spec", "way"] (defScope s_law_full) := ⟨rfl, rfl, rfl, by decide +kernel, rfl, by decide +kernel, by decide +kernel⟩
abbrev N_law_cut : List Str := ["spec", "way", "p", "ties", "holds", "wants", "mine", "at", "row"]
theorem sc_law_cut : FnScope N_law_cut ["spec", "way"] (defScope s_law_cut) := ⟨rfl, rfl, rfl, by decide +kernel, rfl, by decide +kernel, by decide +kernel⟩
abbrev N_law_spec : List Str := ["hand", "posts", "most", "p", "ties", "post", "holds", "wide", "seen", "wants", "rows", "want"]
theorem sc_law_spec : FnScope N_law_spec ["hand", "posts", "most"] (defScope s_law_spec) := ⟨rfl, rfl, rfl, by decide +kernel, rfl, by decide +kernel, by decide +kernel⟩
abbrev N_law_sheet : List Str := ["spec"]
theorem sc_law_sheet : FnScope N_law_sheet ["spec"] (defScope s_law_sheet) := ⟨rfl, rfl, rfl, by decide +kernel, rfl, by decide +kernel, by decide +kernel⟩
abbrev N_law : List Str := ["script", "hand", "turn", "posts", "ties", "tree", "every", "post", "way", "there", "here", "spec", "sheet"]
theorem sc_law : FnScope N_law ["script"] (defScope s_law) := ⟨rfl, rfl, rfl, by decide +kernel, rfl, by decide +kernel, by decide +kernel⟩
abbrev N_Tree : List Str := ["self", "ties"]
theorem sc_Tree : FnScope N_Tree ["self", "ties"] (defScope s_Tree) := ⟨rfl, rfl, rfl, by decide +kernel, rfl, by decide +kernel, by decide +kernel⟩
abbrev N_Sheet : List Str := ["self", "p", "tree", "holds", "wants"]
theorem sc_Sheet : FnScope N_Sheet ["self", "p", "tree", "holds", "wants"] (defScope s_Sheet) := ⟨rfl, rfl, rfl, by decide +kernel, rfl, by decide +kernel, by decide +kernel⟩
/-! ### the facts of the top -/
structure D (K : PySem.W.Frag) (mg : Str → Option Value) (x : Str) (st : Stmt) (ps : List Str) (f : Addr) (fd : FuncData) : Prop where
  F : Fun K x x st f fd
  b : Binds K fd ps []
  m : mg x = some (.ref f)
abbrev DE (K : PySem.W.Frag) (mg : Str → Option Value) (x : Str) (st : Stmt) (ps : List Str) : Prop := ∃ f fd, D K mg x st ps f fd
theorem DE.mk {K : PySem.W.Frag} {h : Heap} {mg : Str → Option Value} {x : Str} {st : Stmt} {ps : List Str} {f : Addr} {oc : Value} {od an : Option Addr} {osl : Array (Option Value)} {kV doc pm cdv ct : Value} (X : K.In h) (G : h.Ns mainGlobals mg)
    (hb : ∀ (kV doc pm : Value) (an : Option Addr) (cdv ct : Value) (us : List Value), us.length = ps.length → bindArgs (PySem.W.fnOf x x (defArgs st) (defBody st) (defScope st) .none kV doc pm an cdv ct) ⟨us, []⟩ = pure (ps.zip us))
    (a : PySem.W.nsIn K mainGlobals x = some (some (.ref f)))
    (l : K.lookup f = some ⟨oc, od, .func (PySem.W.fnOf x x (defArgs st) (defBody st) (defScope st) .none kV doc pm an cdv ct), osl⟩) (c : PySem.W.codeIn K cdv x = true) (k : PySem.W.keepIn K (.ref f) = true) : DE K mg x st ps :=
  ⟨f, _, fun_mk l c k, (fun_mk l c k).binds hb, PySem.W.mg_of X G a⟩
/-- a class with its __init__ -/
structure DC (K : PySem.W.Frag) (mg : Str → Option Value) (x : Str) (q : Str) (st : Stmt) (ps : List Str) (fl : List Str) (C f : Addr) (fd : FuncData) : Prop where
  F : Fun K "__init__" q st f fd
  b : Binds K fd ps []
  m : mg x = some (.ref C)
  mkf : Mk K C f
  cl : Cls K C
  na : ∀ y ∈ fl, NoAttr K C y
structure Tx (K : PySem.W.Frag) (mg : Str → Option Value) (cT cS : Addr) : Prop where
  b_abs : mg "abs" = none
  b_all : mg "all" = none
  b_bool : mg "bool" = none
  b_enumerate : mg "enumerate" = none
  b_int : mg "int" = none
  b_isinstance : mg "isinstance" = none
  b_len : mg "len" = none
  b_list : mg "list" = none
  b_max : mg "max" = none
  b_range : mg "range" = none
  b_sorted : mg "sorted" = none
  b_sum : mg "sum" = none
  b_tuple : mg "tuple" = none
  b_zip : mg "zip" = none
  c_MOST_HOURS : ∃ t, mg "MOST_HOURS" = some (.int 1000000 t)
  c_MOST_TIES : ∃ t, mg "MOST_TIES" = some (.int 23 t)
  c_MOST_AT_POST : ∃ t, mg "MOST_AT_POST" = some (.int 8 t)
  c_MOST_IN_ALL : ∃ t, mg "MOST_IN_ALL" = some (.int 60 t)
  d_is_integer : DE K mg "is_integer" s_is_integer ["thing"]
  d_is_below : DE K mg "is_below" s_is_below ["thing", "end"]
  d_is_pair : DE K mg "is_pair" s_is_pair ["thing"]
  d_is_row : DE K mg "is_row" s_is_row ["thing", "p", "wide"]
  d_is_clock : DE K mg "is_clock" s_is_clock ["thing"]
  d_check_ties : DE K mg "check_ties" s_check_ties ["ties"]
  d_is_tie : DE K mg "is_tie" s_is_tie ["thing", "posts"]
  d_tied : DE K mg "tied" s_tied ["tree", "post"]
  d_ways : DE K mg "ways" s_ways ["tree"]
  d_beyond : DE K mg "beyond" s_beyond ["tree", "way"]
  d_this_side : DE K mg "this_side" s_this_side ["tree", "way"]
  d_neighbours : DE K mg "neighbours" s_neighbours ["ties", "post"]
  d_reached : DE K mg "reached" s_reached ["ties", "start", "barred"]
  d_is_way : DE K mg "is_way" s_is_way ["tree", "thing"]
  d_are_counts : DE K mg "are_counts" s_are_counts ["tree", "thing"]
  d_check_wants : DE K mg "check_wants" s_check_wants ["p", "tree", "numbers", "wants"]
  d_held : DE K mg "held" s_held ["sheet", "post"]
  d_own_places : DE K mg "own_places" s_own_places ["counts", "post"]
  d_block : DE K mg "block" s_block ["sheet", "way"]
  d_near_numbers : DE K mg "near_numbers" s_near_numbers ["sheet", "way"]
  d_far_wants : DE K mg "far_wants" s_far_wants ["sheet", "way"]
  d_cut : DE K mg "cut" s_cut ["row", "lot"]
  d_narrowed : DE K mg "narrowed" s_narrowed ["rows", "lot"]
  d_law_hand : DE K mg "_law_hand" s_law_hand ["script"]
  d_law_draw : DE K mg "_law_draw" s_law_draw ["hand", "many"]
  d_law_any : DE K mg "_law_any" s_law_any ["hand", "items"]
  d_law_is : DE K mg "_law_is" s_law_is ["told", "due"]
  d_law_mixed : DE K mg "_law_mixed" s_law_mixed ["hand", "items"]
  d_law_less : DE K mg "_law_less" s_law_less ["p", "row", "other", "many"]
  d_law_summed : DE K mg "_law_summed" s_law_summed ["p", "wide", "rows", "many"]
  d_law_clock : DE K mg "_law_clock" s_law_clock ["hand"]
  d_law_some_row : DE K mg "_law_some_row" s_law_some_row ["hand", "p", "wide", "rows"]
  d_law_ties : DE K mg "_law_ties" s_law_ties ["hand", "posts"]
  d_law_near : DE K mg "_law_near" s_law_near ["ties", "post"]
  d_law_all_ways : DE K mg "_law_all_ways" s_law_all_ways ["ties"]
  d_law_this : DE K mg "_law_this" s_law_this ["ties", "way"]
  d_law_numbers : DE K mg "_law_numbers" s_law_numbers ["holds", "posts"]
  d_law_full : DE K mg "_law_full" s_law_full ["spec", "way"]
  d_law_cut : DE K mg "_law_cut" s_law_cut ["spec", "way"]
  d_law_spec : DE K mg "_law_spec" s_law_spec ["hand", "posts", "most"]
  d_law_sheet : DE K mg "_law_sheet" s_law_sheet ["spec"]
  d_law : DE K mg "law" s_law ["script"]
  k_Tree : ∃ f fd, DC K mg "Tree" "Tree.__init__" s_Tree ["self", "ties"] ["ties", "posts"] cT f fd
  k_Sheet : ∃ f fd, DC K mg "Sheet" "Sheet.__init__" s_Sheet ["self", "p", "tree", "holds", "wants"] ["p", "tree", "holds", "wants", "numbers"] cS f fd
  i_Tree : C8.InsC K cT
end S4

namespace S4
open PySem L2 TT
section
variable {P : Program} {w : World} {K : PySem.W.Frag} {mg : Str → Option Value} {base : Heap} {cT cS : Addr}
/-! ### kinds -/
def spIsInteger : Sp := fun vs H Q _ => ∃ (n : Int), vs = [.int n] ∧ Q (.bl true) H
theorem ok_is_integer (T : Tx K mg cT cS) {f : Addr} {fd : FuncData} (d : D K mg "is_integer" s_is_integer ["thing"] f fd) : FnOk P w K mg base CX0 1 f fd ["thing"] spIsInteger := by
  refine d.F.ok sc_is_integer (fun vs H Q E h => ?_) (fun cdv A outer s H vs Q E hr h => ?_)
  · obtain ⟨n, rfl, _⟩ := h
    rfl
  · obtain ⟨n, rfl, q⟩ := h
    refine ⟨_, pss_one (ps_ret (pe_and (pe_callB call_isi (by rfl) T.b_isinstance (by decide +kernel) (pa_cons (pv 0) (pa_cons (ty_int T.b_int) pa_nil)))
      (pe_one (pe_not (pe_callB call_isi (by rfl) T.b_isinstance (by decide +kernel) (pa_cons (pv 0) (pa_cons (ty_bool T.b_bool) pa_nil))))))), ?_⟩
    exact ⟨_, rfl, _, _, _, _, _, rfl, .ty _, .base (.int _), kit_ii, _, rfl, iteT ⟨_, rfl, _, _, _, _, _, rfl, .ty _, .base (.int _), kit_ib, _, rfl, q⟩⟩
def spIsBelow : Sp := fun vs H Q _ => ∃ (n e : Int), vs = [.int n, .int e] ∧ Q (.bl (decide (0 ≤ n ∧ n < e))) H
theorem ok_is_below (T : Tx K mg cT cS) {f : Addr} {fd : FuncData} (d : D K mg "is_below" s_is_below ["thing", "end"] f fd) : FnOk P w K mg base CX0 2 f fd ["thing", "end"] spIsBelow := by
  obtain ⟨f1, fd1, d1⟩ := T.d_is_integer
  have G1 : FnOk P w K mg base CX0 1 f1 fd1 ["thing"] spIsInteger := ok_is_integer T d1
  refine d.F.ok sc_is_below (fun vs H Q E h => ?_) (fun cdv A outer s H vs Q E hr h => ?_)
  · obtain ⟨n, e, rfl, _⟩ := h
    rfl
  · obtain ⟨n, e, rfl, q⟩ := h
    refine ⟨_, pss_one (ps_ret (pe_and (pe_call G1 hr rfl d1.m d1.F.kp d1.b .nil pass0 (pa_cons (pv 0) pa_nil)) (pe_one (pe_chain op_le op_lt pe_int (pv 0) (pv 1))))), ?_⟩
    refine ⟨_, rfl, n, rfl, _, rfl, iteT ⟨_, rfl, _, _, rfl, rfl, _, rfl, ?_⟩⟩
    by_cases h0 : 0 ≤ n
    · rw [decide_eq_true h0]
      refine iteT ⟨_, rfl, _, _, rfl, rfl, ?_⟩
      simpa [h0] using q
    · rw [decide_eq_false h0]
      refine iteF ?_
      simpa [h0] using q
def spIsPair : Sp := fun vs H Q _ => ∃ t x y, vs = [.ref t] ∧ H t = some (.tup [x, y]) ∧ Q (.bl true) H
theorem ok_is_pair (T : Tx K mg cT cS) {f : Addr} {fd : FuncData} (d : D K mg "is_pair" s_is_pair ["thing"] f fd) : FnOk P w K mg base CX0 1 f fd ["thing"] spIsPair := by
  refine d.F.ok sc_is_pair (fun vs H Q E h => ?_) (fun cdv A outer s H vs Q E hr h => ?_)
  · obtain ⟨t, x, y, rfl, _⟩ := h
    rfl
  · obtain ⟨t, x, y, rfl, ht, q⟩ := h
    refine ⟨_, pss_one (ps_ret (pe_and (pe_callB call_isi (by rfl) T.b_isinstance (by decide +kernel) (pa_cons (pv 0) (pa_cons (ty_tuple T.b_tuple) pa_nil)))
      (pe_one (pe_cmpR op_eq (pe_callB call_len_seq (by rfl) T.b_len PySem.boot_len (pa_cons (pv 0) pa_nil)) pe_int (nomark _))))), ?_⟩
    exact ⟨_, rfl, _, _, _, _, _, rfl, .ty _, .base (.tup ht), kit_tt, _, rfl, iteT ⟨_, rfl, _, _, rfl, .inr (.of ht), rfl, q⟩⟩
end
end S4

namespace S4
open PySem L2 TT
section
variable {P : Program} {w : World} {K : PySem.W.Frag} {mg : Str → Option Value} {base : Heap} {cT cS : Addr}
def isRow (l : List Int) (p : Int) (wd : Int) : Prop := (l.length : Int) = wd ∧ ∀ v ∈ l, 0 ≤ v ∧ v < p
/-- a row that is right -/
def spIsRow : Sp := fun vs H Q _ => ∃ (v : V) (l : List Int) (p wd : Int), vs = [v, .int p, .int wd] ∧ rRow H v l ∧ l.length ≤ 100000 ∧ isRow l p wd ∧ ∀ H', Same H H' → Q (.bl true) H'
theorem all_true : ∀ {bs : List Bool}, (∀ b ∈ bs, b = true) → bs.all id = true := fun {bs} h => by
  rw [List.all_eq_true]
  exact fun x hx => h x hx
def rBl : Rp Bool := fun _ v b => v = .bl b
theorem mono_bl : Mono rBl := fun _ _ _ _ _ h => h
theorem paired_bl {H : Hp} : ∀ {xs : List V} {l : List Bool}, Paired (rBl H) xs l → xs = l.map V.bl
  | _, _, .nil => rfl
  | _, _, .cons r t => by cases r; rw [List.map_cons, paired_bl t]
theorem ok_is_row (T : Tx K mg cT cS) {f : Addr} {fd : FuncData} (d : D K mg "is_row" s_is_row ["thing", "p", "wide"] f fd) : FnOk P w K mg base CX0 3 f fd ["thing", "p", "wide"] spIsRow := by
  obtain ⟨f1, fd1, d1⟩ := T.d_is_below
  have G1 : FnOk P w K mg base CX0 2 f1 fd1 ["thing", "end"] spIsBelow := ok_is_below T d1
  refine d.F.ok sc_is_row (fun vs H Q E h => ?_) (fun cdv A outer s H vs Q E hr h => ?_)
  · obtain ⟨v, l, p, wd, rfl, _⟩ := h
    rfl
  · obtain ⟨v, l, p, wd, rfl, ⟨t, rfl, ht⟩, hl, ⟨hw, hv⟩, q⟩ := h
    refine ⟨_, pss_cons (ps_if (PW.pt (pw_or (pt_not (pt_val (pe_callB call_isi (by rfl) T.b_isinstance (by decide +kernel) (pa_cons (pv 0) (pa_cons (ty_tuple T.b_tuple) pa_nil)))))
        (pw_or1 (pt_cmpR op_ne (pe_callB call_len_seq (by rfl) T.b_len PySem.boot_len (pa_cons (pv 0) pa_nil)) (pv 2) (nomark _))))) (pss_one (ps_ret pe_bl)) pss_nil)
      (pss_one (ps_ret (pe_callB (cr_all rfl) (by rfl) T.b_all (by decide +kernel) (pa_cons
        (pe_lc (own := [("value", 3)]) (g := gName 3) (tt := tYes) rfl sc_is_row.nd (pi_tup (pv 0)) (blkOk_by (N := N_is_row) (sc := defScope s_is_row) (by decide +kernel)) (fun _ _ _ _ _ => pg_name (i := 3) sc_is_row.nd rfl (Or.inl rfl)) (fun _ _ _ _ _ => pts_nil)
          (fun _ _ _ _ _ => pe_call G1 hr rfl d1.m d1.F.kp d1.b .nil pass0 (pa_cons (pv 3) (pa_cons (pv 1) pa_nil)))) pa_nil)))), ?_⟩
    refine ⟨_, rfl, _, _, _, _, _, rfl, .ty _, .base (.tup ht), kit_tt, _, rfl, iteF ?_⟩
    refine ⟨_, rfl, _, _, rfl, .inr (.of ht), _, rfl, rfl, _, rfl, ?_⟩
    have e1 : V.int (((l.map V.int).length : Nat) : Int) = V.int wd := by rw [List.length_map, hw]
    rw [e1, decide_eq_true rfl]
    refine iteF ⟨_, rfl, t, rfl, ⟨_, .of ht⟩, fun D hD => ?_⟩
    refine lc_fm (walk_tup (xs := l.map V.int)) rBl (fun _ => some true) hD (fun H' s' => .of (s'.keep.tup ht)) ?_ ?_
    · rintro i x H2 H3 hi pv ⟨rfl, hx⟩
      obtain ⟨n, hn, rfl⟩ := at_int hx
      rw [List.length_map] at hi
      obtain ⟨g1, g2⟩ := hv n (List.mem_of_getElem? hn)
      refine ⟨rfl, _, rfl, _, rfl, n, p, rfl, ?_⟩
      rw [decide_eq_true ⟨g1, g2⟩]
      exact fm_keep mono_bl pv hD (by omega) (Same.refl _) rfl rfl
    · intro H2 xs s2 hD2 hp
      have := paired_bl hp
      subst this
      refine ⟨_, _, rfl, .of hD2, ?_⟩
      rw [all_true fun b hb => by
        obtain ⟨_, _, e⟩ := List.mem_filterMap.mp hb
        exact (Option.some.inj e).symm]
      exact q _ s2
end
end S4

namespace S4
open PySem L2 TT
section
variable {P : Program} {w : World} {K : PySem.W.Frag} {mg : Str → Option Value} {base : Heap} {cT cS : Addr}
def NoDiv (n : Int) : Prop := 2 ≤ n ∧ n ≤ 1000000 ∧ ∀ k : Int, 2 ≤ k → k * k ≤ n → n % k ≠ 0
def spIsClock : Sp := fun vs H Q _ => ∃ (n : Int), vs = [.int n] ∧ NoDiv n ∧ Q (.bl true) H
theorem sq_small {f : Int} (h : 2 ≤ f) (h2 : f * f ≤ 1000000) : f ≤ 1000 := by
  by_cases q : f ≤ 1000
  · exact q
  · have a : 1001 * 1001 ≤ f * f := Int.mul_le_mul (by omega) (by omega) (by decide) (by omega)
    omega
theorem ok_is_clock (T : Tx K mg cT cS) {f : Addr} {fd : FuncData} (d : D K mg "is_clock" s_is_clock ["thing"] f fd) : FnOk P w K mg base CX0 2 f fd ["thing"] spIsClock := by
  obtain ⟨f1, fd1, d1⟩ := T.d_is_integer
  have G1 : FnOk P w K mg base CX0 1 f1 fd1 ["thing"] spIsInteger := ok_is_integer T d1
  obtain ⟨tk, hM⟩ := T.c_MOST_HOURS
  refine d.F.ok sc_is_clock (fun vs H Q E h => ?_) (fun cdv A outer s H vs Q E hr h => ?_)
  · obtain ⟨n, rfl, _⟩ := h
    rfl
  · obtain ⟨n, rfl, ⟨n2, n6, nd⟩, q⟩ := h
    refine ⟨_, pss_cons (ps_if (PW.pt (pw_or (pt_not (pt_val (pe_call G1 hr rfl d1.m d1.F.kp d1.b .nil pass0 (pa_cons (pv 0) pa_nil))))
        (pw_or1 (pt_not (pt_chain op_le op_le pe_int (pv 0) (pe_glob (v := .int 1000000) rfl hM ⟨_, rfl⟩)))))) (pss_one (ps_ret pe_bl)) pss_nil)
      (pss_cons (ps_set (i := 1) sc_is_clock.nd rfl (.inl rfl) pe_int)
      (pss_cons (ps_while PassesOwn.never (pt_cmpR op_le (pe_op op_mul (pv 1) (pv 1)) (pv 0) (nomark _))
        (pss_cons (ps_if (pt_cmpR op_eq (pe_op op_mod (pv 0) (pv 1)) pe_int (nomark _)) (pss_one (ps_ret pe_bl)) pss_nil)
          (pss_one (ps_aug (i := 1) sc_is_clock.nd rfl (.inl rfl) pe_int ip_add))))
      (pss_one (ps_ret pe_bl)))), ?_⟩
    refine ⟨_, rfl, n, rfl, _, rfl, iteF ?_⟩
    refine ⟨_, rfl, _, _, rfl, rfl, _, rfl, ?_⟩
    rw [decide_eq_true n2]
    refine iteT ⟨_, _, rfl, rfl, _, rfl, ?_⟩
    rw [decide_eq_true n6]
    refine iteF ?_
    refine while_by (fun σ H' => H' = H ∧ ∃ k : Int, σ = [some (.int n), some (.int k)] ∧ 2 ≤ k ∧ k ≤ 1001) (fun σ _ => match σ with | [_, some (.int k)] => (2000 - k).toNat | _ => 0) ⟨rfl, 2, rfl, by decide, by decide⟩ ?_ ?_
    · rintro σ H' ⟨rfl, k, rfl, k2, k3⟩
      refine ⟨_, rfl, _, rfl, _, _, rfl, rfl, .inl ⟨by omega, by omega⟩, _, rfl, _, _, rfl, rfl, _, rfl, ?_⟩
      by_cases hk : k * k ≤ n
      · rw [decide_eq_true hk]
        refine iteT ?_
        refine ⟨_, rfl, _, rfl, _, _, rfl, rfl, by omega, rfl, _, rfl, ?_⟩
        have hne : ¬ V.int (n % k) = V.int 0 := fun e => nd k k2 hk (V.int.inj e)
        rw [decide_eq_false hne]
        refine iteF ⟨_, rfl, _, _, rfl, rfl, ⟨rfl, k + 1, rfl, by omega, ?_⟩, ?_⟩
        · have := sq_small k2 (Int.le_trans hk n6)
          omega
        · show (2000 - (k + 1)).toNat < (2000 - k).toNat
          omega
      · rw [decide_eq_false hk]
        exact iteF q
    · rintro σ H' Q1 Q2 i ⟨v, e1, v2, e2, a, b, e3, e4, c, v3, e5, a1, b1, e6, e7, k, e8, h⟩
      exact ⟨v, e1, v2, e2, a, b, e3, e4, c, v3, e5, a1, b1, e6, e7, k, e8, i _ _ h⟩
end
end S4

/-! posts, ties, what is reached: plain mathematics -/
namespace MM
def nbOf (post : Int) (t : Int × Int) : Option Int := if t.1 = post ∨ t.2 = post then some (if t.1 = post then t.2 else t.1) else none
def nb (ties : List (Int × Int)) (post : Int) : List Int := ties.filterMap (nbOf post)
def Up (ns : List Int) : Prop := ns.Pairwise (· ≤ ·)
/-- reached from s without the barred one -/
inductive Rch (ties : List (Int × Int)) (bar : Option Int) (s : Int) : Int → Prop
  | refl : Rch ties bar s s
  | step {u v : Int} : Rch ties bar s u → v ∈ nb ties u → bar ≠ some v → Rch ties bar s v
/-- the walk's word: found and waiting, ex the one whose neighbours are being looked at -/
structure RI (ties : List (Int × Int)) (bar : Option Int) (s : Int) (ex : Option Int) (fnd wt : List Int) : Prop where
  nd : fnd.Nodup
  st : s ∈ fnd
  ok : ∀ v ∈ fnd, Rch ties bar s v
  sub : ∀ v ∈ wt, v ∈ fnd
  cl : ∀ u ∈ fnd, u ∉ wt → ex ≠ some u → ∀ v ∈ nb ties u, bar ≠ some v → v ∈ fnd
  exf : ∀ h, ex = some h → h ∈ fnd
  wl : wt.length ≤ fnd.length
variable {ties : List (Int × Int)} {bar : Option Int} {s : Int}
theorem RI.start : RI ties bar s none [s] [s] :=
  ⟨by simp, by simp, fun v h => by rw [List.mem_singleton.mp h]; exact .refl, fun v h => h, fun u h h' => absurd h h', fun _ h => (nomatch h), Nat.le_refl _⟩
theorem RI.pop {fnd wt : List Int} {h : Int} (r : RI ties bar s none fnd wt) (hl : wt[wt.length - 1]? = some h) : RI ties bar s (some h) fnd wt.dropLast := by
  have hm : wt = wt.dropLast ++ [h] := by
    have hne : wt ≠ [] := by intro e; subst e; simp at hl
    have e1 := List.dropLast_concat_getLast hne
    have e2 : wt.getLast hne = h := by
      have := List.getLast?_eq_getElem? (l := wt)
      rw [hl, List.getLast?_eq_some_getLast hne] at this
      exact Option.some.inj this
    rw [e2] at e1
    exact e1.symm
  refine ⟨r.nd, r.st, r.ok, fun v hv => r.sub v ?_, fun u hu hn he v hv hb => r.cl u hu ?_ (fun q => nomatch q) v hv hb, fun q e => ?_, by rw [List.length_dropLast]; have := r.wl; omega⟩
  · rw [hm]; exact List.mem_append_left _ hv
  · intro hw
    rw [hm] at hw
    rcases List.mem_append.mp hw with hw | hw
    · exact hn hw
    · rw [List.mem_singleton.mp hw] at he
      exact he rfl
  · cases e
    exact r.sub h (by rw [hm]; simp)
theorem RI.add {fnd wt : List Int} {h v : Int} (r : RI ties bar s (some h) fnd wt) (hv : v ∈ nb ties h) (hb : bar ≠ some v) (hn : v ∉ fnd) : RI ties bar s (some h) (fnd ++ [v]) (wt ++ [v]) := by
  refine ⟨?_, List.mem_append_left _ r.st, fun u hu => ?_, fun u hu => ?_, fun u hu hw he x hx hbx => ?_, fun q e => List.mem_append_left _ (r.exf q e), by rw [List.length_append, List.length_append]; have := r.wl; omega⟩
  · rw [List.nodup_append]
    exact ⟨r.nd, by simp, fun a ha b hb => by rw [List.mem_singleton.mp hb]; intro e; subst e; exact hn ha⟩
  · rcases List.mem_append.mp hu with hu | hu
    · exact r.ok u hu
    · rw [List.mem_singleton.mp hu]
      exact .step (r.ok h (r.exf h rfl)) hv hb
  · rcases List.mem_append.mp hu with hu | hu
    · exact List.mem_append_left _ (r.sub u hu)
    · exact List.mem_append_right _ hu
  · rcases List.mem_append.mp hu with hu | hu
    · exact List.mem_append_left _ (r.cl u hu (fun q => hw (List.mem_append_left _ q)) he x hx hbx)
    · exact absurd (List.mem_append_right _ hu) hw
theorem RI.close {fnd wt : List Int} {h : Int} (r : RI ties bar s (some h) fnd wt) (hc : ∀ v ∈ nb ties h, bar ≠ some v → v ∈ fnd) : RI ties bar s none fnd wt :=
  ⟨r.nd, r.st, r.ok, r.sub, fun u hu hw _ v hv hb => by
    by_cases e : u = h
    · subst e; exact hc v hv hb
    · exact r.cl u hu hw (fun q => e (Option.some.inj q).symm) v hv hb, fun _ h => (nomatch h), r.wl⟩
theorem RI.done {fnd : List Int} (r : RI ties bar s none fnd []) : ∀ v, v ∈ fnd ↔ Rch ties bar s v := fun v => by
  refine ⟨r.ok v, fun h => ?_⟩
  induction h with
  | refl => exact r.st
  | step _ hv hb ih => exact r.cl _ ih (by simp) (fun q => nomatch q) _ hv hb
/-- bounded by a list that the neighbours stay in -/
theorem nodup_len : ∀ {l V : List Int}, l.Nodup → (∀ v ∈ l, v ∈ V) → l.length ≤ V.length
  | [], _, _, _ => Nat.zero_le _
  | a :: l, V, h, hs => by
    have ha : a ∈ V := hs a (by simp)
    obtain ⟨h1, h2⟩ := List.nodup_cons.mp h
    have : l.length ≤ (V.erase a).length := nodup_len h2 fun v hv => by
      have : v ≠ a := fun e => h1 (e ▸ hv)
      exact (List.mem_erase_of_ne this).mpr (hs v (by simp [hv]))
    rw [List.length_erase_of_mem ha] at this
    have := List.length_pos_of_mem ha
    rw [List.length_cons]
    omega
structure Shut (ties : List (Int × Int)) (V : List Int) : Prop where
  cl : ∀ u ∈ V, ∀ v ∈ nb ties u, v ∈ V
theorem Rch.inV {V : List Int} (hs : Shut ties V) (h0 : s ∈ V) {v : Int} (h : Rch ties bar s v) : v ∈ V := by
  induction h with
  | refl => exact h0
  | step _ hv _ ih => exact hs.cl _ ih _ hv
theorem RI.len {fnd wt : List Int} {ex : Option Int} {V : List Int} (r : RI ties bar s ex fnd wt) (hs : Shut ties V) (h0 : s ∈ V) : fnd.length ≤ V.length := nodup_len r.nd fun v hv => (r.ok v hv).inV hs h0
end MM

namespace S4
open PySem L2 TT MM
/-! ### ties as data -/
theorem hu65 {k : Nat} {A : Around} (r : Room k A) : A.units + 65 < cLine := by have := r.un; omega
def pd (z : Int × Int) : PyData := .tuple [.int z.1, .int z.2]
theorem pd_lay (z : Int × Int) : (pd z).canLay0 = true := by simp [pd, PyData.canLay0, PyData.canLayAll0]
theorem pd_depth (z : Int × Int) : (pd z).depth = 1 := by simp [pd, PyData.depth, PyData.depthAll]
theorem pds_lay : ∀ zs : List (Int × Int), PyData.canLayAll0 (zs.map pd) = true
  | [] => by simp [PyData.canLayAll0]
  | z :: zs => by simp [PyData.canLayAll0, pd_lay z, pds_lay zs]
theorem pds_depth : ∀ zs : List (Int × Int), PyData.depthAll (zs.map pd) ≤ 1
  | [] => by simp [PyData.depthAll]
  | z :: zs => by
    have h1 := pds_depth zs
    have h2 := pd_depth z
    simp only [List.map_cons, PyData.depthAll]
    omega
theorem pd_shaped (z : Int × Int) : SeqAt.shaped (pd z) = true := by
  have h := pd_depth z
  show ((pd z).canLay0 && decide ((pd z).depth ≤ 64)) = true
  rw [Bool.and_eq_true]
  exact ⟨pd_lay z, decide_eq_true (by omega)⟩
theorem pdt_shaped (zs : List (Int × Int)) : SeqAt.shaped (.tuple (zs.map pd)) = true := by
  have h1 := pds_depth zs
  have h2 : PyData.depth (.tuple (zs.map pd)) ≤ 64 := by
    simp only [PyData.depth]
    omega
  show (PyData.canLay0 (.tuple (zs.map pd)) && decide (PyData.depth (.tuple (zs.map pd)) ≤ 64)) = true
  rw [Bool.and_eq_true]
  exact ⟨by simp only [PyData.canLay0]; exact pds_lay zs, decide_eq_true h2⟩
theorem pdl_shaped (zs : List (Int × Int)) : SeqAt.shaped (.list (zs.map pd)) = true := by
  have h1 := pds_depth zs
  have h2 : PyData.depth (.list (zs.map pd)) ≤ 64 := by
    simp only [PyData.depth]
    omega
  show (PyData.canLay0 (.list (zs.map pd)) && decide (PyData.depth (.list (zs.map pd)) ≤ 64)) = true
  rw [Bool.and_eq_true]
  exact ⟨by simp only [PyData.canLay0]; exact pds_lay zs, decide_eq_true h2⟩
theorem pd_eqv (z w : Int × Int) : PyData.eqv (pd z) (pd w) = decide (z = w) := by
  obtain ⟨a, b⟩ := z
  obtain ⟨c, e⟩ := w
  have q : PyData.eqv (pd (a, b)) (pd (c, e)) = ((a == c) && ((b == e) && true)) := by simp only [pd, PyData.eqv, PyData.eqvAll]
  rw [q]
  by_cases h1 : a = c
  · by_cases h2 : b = e
    · subst h1 h2; simp
    · rw [decide_eq_false (fun x => h2 (Prod.mk.inj x).2), beq_eq_false_iff_ne.mpr h2, Bool.false_and, Bool.and_false]
  · rw [decide_eq_false (fun x => h1 (Prod.mk.inj x).1), beq_eq_false_iff_ne.mpr h1, Bool.false_and]
theorem any_pd (zs : List (Int × Int)) (w : Int × Int) : ((zs.map pd).any fun z => PyData.eqv z (pd w)) = decide (w ∈ zs) := by
  induction zs with
  | nil => simp
  | cons z zs ih =>
    rw [List.map_cons, List.any_cons, ih, pd_eqv]
    by_cases h : z = w
    · subst h; simp
    · have h' : ¬ w = z := fun e => h e.symm
      simp [h, h']
section
variable {K : PySem.W.Frag} {H : Hp}
theorem dp_pi {v : V} {z : Int × Int} (h : rPI H v z) : Dp K H v (pd z) := by
  obtain ⟨t, rfl, ht⟩ := h
  exact .tup (.of ht) (.cons (.int _) (.cons (.int _) .nil))
theorem dp_all : ∀ {xs : List V} {zs : List (Int × Int)}, Paired (rPI H) xs zs → DpAll K H xs (zs.map pd)
  | _, _, .nil => .nil
  | _, _, .cons r t => .cons (dp_pi r) (dp_all t)
theorem dp_ties {v : V} {zs : List (Int × Int)} (h : rTup rPI H v zs) : Dp K H v (.tuple (zs.map pd)) := by
  obtain ⟨t, xs, rfl, ht, p⟩ := h
  exact .tup (.of ht) (dp_all p)
end
/-! ### posts tied -/
theorem inV2 (a b post : Int) : inV (.int post) [.int a, .int b] = decide (a = post ∨ b = post) := by
  show ((a == post) || ((b == post) || false)) = _
  by_cases h1 : a = post
  · subst h1; simp
  · by_cases h2 : b = post
    · subst h2; simp
    · simp [h1, h2]
section
variable {P : Program} {w : World} {K : PySem.W.Frag} {mg : Str → Option Value} {base : Heap} {cT cS : Addr}
def spNbr : Sp := fun vs H Q _ => ∃ (v : V) (ties : List (Int × Int)) (post : Int), vs = [v, .int post] ∧ rTup rPI H v ties ∧ ties.length ≤ 1000 ∧
  ∀ H' v' ns, Same H H' → rRow H' v' ns → ns.Perm (nb ties post) → Up ns → Q v' H'
theorem ok_neighbours (T : Tx K mg cT cS) {f : Addr} {fd : FuncData} (d : D K mg "neighbours" s_neighbours ["ties", "post"] f fd) : FnOk P w K mg base CX0 1 f fd ["ties", "post"] spNbr := by
  refine d.F.ok sc_neighbours (fun vs H Q E h => ?_) (fun cdv A outer s H vs Q E hr h => ?_)
  · obtain ⟨v, ties, post, rfl, _⟩ := h
    rfl
  · obtain ⟨v, ties, post, rfl, ⟨t, xs, rfl, ht, hp⟩, hl, q⟩ := h
    refine ⟨_, pss_one (ps_ret (pe_callTy call_tuple_of (by rfl) T.b_tuple (by decide +kernel) (pa_cons (pe_callB cr_sortedI (by rfl) T.b_sorted (by decide +kernel) (pa_cons
        (pe_lc (own := [("tie", 2)]) (g := gName 2) rfl sc_neighbours.nd (pi_tup (pv 0)) (blkOk_by (N := N_neighbours) (sc := defScope s_neighbours) (by decide +kernel)) (fun _ _ _ _ _ => pg_name (i := 2) sc_neighbours.nd rfl (Or.inl rfl))
          (fun _ _ _ _ _ => pts_one (pt_cmpR (inS (K := K) rfl) (pv 1) (pv 2) (by rfl)))
          (fun _ _ _ _ _ => pe_ifExp (pt_cmpR op_eq (pe_ix (ixT (K := K) rfl) (pv 2) pe_int (fun _ _ => rfl)) (pv 1) (nomark _)) (pe_ix (ixT (K := K) rfl) (pv 2) pe_int (fun _ _ => rfl)) (pe_ix (ixT (K := K) rfl) (pv 2) pe_int (fun _ _ => rfl)))) pa_nil)) pa_nil))), ?_⟩
    refine ⟨_, rfl, t, rfl, ⟨_, .of ht⟩, fun D hD => ?_⟩
    refine lc_fm (walk_tup (xs := xs)) rInt (fun i => ties[i]?.bind (nbOf post)) hD (fun H' s' => .of (s'.keep.tup ht)) ?_ ?_
    · rintro i x H2 H3 hi pv ⟨rfl, hx⟩
      obtain ⟨z, hz, t2, rfl, ht2⟩ := paired_get (paired_mono mono_pi pv.1.keep hp) hx
      have hlen := paired_len hp
      refine ⟨rfl, _, rfl, _, rfl, t2, _, rfl, .inr (.of ht2), rfl, rfl, _, rfl, ?_⟩
      rw [if_neg Bool.false_ne_true, inV2]
      by_cases hc : z.1 = post ∨ z.2 = post
      · rw [decide_eq_true hc]
        refine iteT ?_
        refine ⟨_, rfl, t2, _, _, _, rfl, rfl, .of ht2, at_of (j := 0) rfl rfl, _, rfl, rfl, _, rfl, ?_⟩
        have hf : ties[i]?.bind (nbOf post) = some (if z.1 = post then z.2 else z.1) := by
          rw [hz]
          show nbOf post z = _
          unfold nbOf
          rw [if_pos hc]
        by_cases h1 : z.1 = post
        · have e1 : V.int z.1 = V.int post := by rw [h1]
          rw [decide_eq_true e1]
          refine iteT ⟨_, rfl, t2, _, _, _, rfl, rfl, .of ht2, at_of (j := 1) rfl rfl, ?_⟩
          exact fm_keep mono_int pv hD (by omega) (Same.refl _) hf (by rw [if_pos h1]; rfl)
        · have e1 : ¬ V.int z.1 = V.int post := fun e => h1 (V.int.inj e)
          rw [decide_eq_false e1]
          refine iteF ⟨_, rfl, t2, _, _, _, rfl, rfl, .of ht2, at_of (j := 0) rfl rfl, ?_⟩
          exact fm_keep mono_int pv hD (by omega) (Same.refl _) hf (by rw [if_neg h1]; rfl)
      · rw [decide_eq_false hc]
        refine iteF (fm_skip mono_int pv (Same.refl _) ?_)
        rw [hz]
        show nbOf post z = _
        unfold nbOf
        rw [if_neg hc]
    · intro H2 ys s2 hD2 hp2
      have e := paired_int hp2
      subst e
      rw [paired_len hp, fm_list] at hD2
      refine ⟨D, _, rfl, .of hD2, fun ns' p hperm hup np => ?_⟩
      refine ⟨p, _, rfl, .inl ⟨.of upd_same, fun l hl2 => ?_⟩⟩
      have s3 : Same H (upd H2 p (.lst (ns'.map V.int))) := s2.trans (same_new np)
      exact q _ _ ns' (s3.trans (same_new hl2)) ⟨l, rfl, upd_same⟩ hperm hup
end
end S4

namespace S4
open PySem L2 TT MM
/-! ### reached -/
def kf (l : List Int) : List (L2.Key × V) := l.map fun k => (Sum.inl k, V.bl true)
theorem kf_look : ∀ (l : List Int) (n : Int), valV (kf l) (Sum.inl n) = if n ∈ l then some (V.bl true) else none
  | [], n => by simp [kf, valV_nil]
  | a :: l, n => by
    show valV ((Sum.inl a, V.bl true) :: kf l) (Sum.inl n) = _
    by_cases e : a = n
    · subst e
      rw [valV_pos rfl, if_pos (by simp)]
    · have e' : ¬ (Sum.inl a : L2.Key) = Sum.inl n := fun q => e (Sum.inl.inj q)
      rw [valV_neg e', kf_look l n]
      by_cases h : n ∈ l
      · rw [if_pos h, if_pos (by simp [h])]
      · rw [if_neg h, if_neg (by simp [h]; exact fun q => e q.symm)]
theorem kf_put {l : List Int} {n : Int} (h : n ∉ l) : putK (kf l) (Sum.inl n) (V.bl true) = kf (l ++ [n]) := by
  rw [putK_new _ (by rw [kf_look, if_neg h])]
  simp [kf]
theorem kf_len (l : List Int) : (kf l).length = l.length := by simp [kf]
theorem kf_keys (l : List Int) : (kf l).map (·.1) = l.map Sum.inl := by simp [kf]
def optV : Option Int → V
  | none => .non
  | some b => .int b
section
variable {P : Program} {w : World} {K : PySem.W.Frag} {mg : Str → Option Value} {base : Heap} {cT cS : Addr}
def spReached : Sp := fun vs H Q _ => ∃ (v : V) (ties : List (Int × Int)) (st : Int) (bar : Option Int) (U : List Int), vs = [v, .int st, optV bar] ∧ rTup rPI H v ties ∧ ties.length ≤ 1000 ∧ Shut ties U ∧ st ∈ U ∧ U.length < 64 ∧
  ∀ H' v' ns, Same H H' → rRow H' v' ns → Up ns → ns.Nodup → (∀ x, x ∈ ns ↔ Rch ties bar st x) → Q v' H'
/-- the two that stand in the walk -/
structure RS (H0 : Hp) (df dw : Addr) (fnd wt : List Int) (H : Hp) : Prop where
  same : Same H0 H
  f0 : H0 df = none
  w0 : H0 dw = none
  fd : H df = some (.dK (kf fnd))
  wd : H dw = some (.lst (wt.map V.int))
theorem RS.ne {H0 : Hp} {df dw : Addr} {fnd wt : List Int} {H : Hp} (r : RS H0 df dw fnd wt H) : df ≠ dw := ne_of r.fd r.wd (fun q => nomatch q)
theorem RS.more {H0 : Hp} {df dw : Addr} {fnd wt : List Int} {H H' : Hp} (r : RS H0 df dw fnd wt H) (s : Same H H') : RS H0 df dw fnd wt H' := ⟨r.same.trans s, r.f0, r.w0, s _ _ r.fd, s _ _ r.wd⟩
theorem RS.setW {H0 : Hp} {df dw : Addr} {fnd wt : List Int} {H : Hp} (r : RS H0 df dw fnd wt H) (wt' : List Int) : RS H0 df dw fnd wt' (upd H dw (.lst (wt'.map V.int))) :=
  ⟨same_own r.same r.w0, r.f0, r.w0, by rw [upd_ne r.ne]; exact r.fd, upd_same⟩
theorem RS.setF {H0 : Hp} {df dw : Addr} {fnd wt : List Int} {H : Hp} (r : RS H0 df dw fnd wt H) (fnd' : List Int) : RS H0 df dw fnd' wt (upd H df (.dK (kf fnd'))) :=
  ⟨same_own r.same r.f0, r.f0, r.w0, upd_same, by rw [upd_ne r.ne.symm]; exact r.wd⟩
theorem ok_reached (T : Tx K mg cT cS) {f : Addr} {fd : FuncData} (d : D K mg "reached" s_reached ["ties", "start", "barred"] f fd) : FnOk P w K mg base CX0 2 f fd ["ties", "start", "barred"] spReached := by
  obtain ⟨f1, fd1, d1⟩ := T.d_neighbours
  have G1 : FnOk P w K mg base CX0 1 f1 fd1 ["ties", "post"] spNbr := ok_neighbours T d1
  refine d.F.ok sc_reached (fun vs H Q E h => ?_) (fun cdv A outer s H vs Q E hr h => ?_)
  · obtain ⟨v, ties, st, bar, U, rfl, _⟩ := h
    rfl
  · obtain ⟨v, ties, st, bar, U, rfl, hties, hl, hU, hst, hU64, q⟩ := h
    refine ⟨_, pss_cons (ps_set (i := 3) sc_reached.nd rfl (.inl rfl) (pe_disp (pps_cons (pv 1) pe_bl pps_nil) (by rfl) (by rfl) (fun z => by cases z) (by decide)))
      (pss_cons (ps_set (i := 4) sc_reached.nd rfl (.inl rfl) (pe_lst (pa_cons (pv 1) pa_nil)))
      (pss_cons (ps_while PassesOwn.never (pt_truth (pv 4) (by intro _; rfl))
        (pss_cons (ps_set (i := 5) sc_reached.nd rfl (.inl rfl) (pe_bm0 PySem.F.plainAttrs_list PySem.F.slot_list_pop PySem.F.type_list_pop mt_pop (pv 4)))
          (pss_one (ps_for PassesOwn.never rfl (pi_tup (pe_call G1 hr rfl d1.m d1.F.kp d1.b .nil pass0 (pa_cons (pv 0) (pa_cons (pv 5) pa_nil)))) (pg_name (i := 6) sc_reached.nd rfl (Or.inl rfl))
            (pss_one (ps_if (PW.pt (pw_and (pt_cmpR op_ne (pv 6) (pv 2) (nomark _)) (pw_and1 (pt_cmp (pc_dnotin (hu_of hr) (pv 6) (pv 3))))))
              (pss_cons (ps_dput (hu_of hr) (pv 3) (pv 6) pe_bl rfl)
                (pss_one (ps_expr (pe_bm PySem.F.plainAttrs_list PySem.F.slot_list_append PySem.F.type_list_append mt_append (pv 4) (pa_cons (pv 6) pa_nil))))) pss_nil))))))
      (pss_one (ps_ret (pe_callTy call_tuple_of (by rfl) T.b_tuple (by decide +kernel) (pa_cons (pe_callB (call_sortedDI rfl) (by rfl) T.b_sorted (by decide +kernel) (pa_cons (pv 3) pa_nil)) pa_nil)))))), ?_⟩
    obtain ⟨t, xs, rfl, ht, hp⟩ := id hties
    intro df hdf
    refine ⟨_, rfl, upd_same, [(Sum.inl st, V.bl true)], rfl, by show 1 ≤ 15; decide, ?_⟩
    rw [upd_upd]
    refine ⟨_, rfl, by show 1 ≤ sizeLine; decide, fun dw hdw => ?_⟩
    have hne : dw ≠ df := fun e => by subst e; rw [upd_same] at hdw; cases hdw
    have hdw0 : H dw = none := by rw [upd_ne hne] at hdw; exact hdw
    have R0 : RS H df dw [st] [st] (upd (upd H df (.dK (mergeK [] [(Sum.inl st, V.bl true)]))) dw (.lst [V.int st])) :=
      ⟨same_own (same_new hdf) hdw0, hdf, hdw0, by rw [upd_ne hne.symm, upd_same]; rfl, upd_same⟩
    dsimp only [gName, tSeq]
    refine while_by (fun σ H' => ∃ (fnd wt : List Int) (h p : Option V), σ = [some (.ref t), some (.int st), some (optV bar), some (.ref df), some (.ref dw), h, p] ∧ RS H df dw fnd wt H' ∧ RI ties bar st none fnd wt)
      (fun σ H' => match H' df, H' dw with | some (.dK a), some (.lst b) => 2 * (64 - a.length) + b.length | _, _ => 0) ⟨[st], [st], none, none, rfl, R0, .start⟩ ?_ ?_
    · rintro σ H1 ⟨fnd, wt, h0, p0, rfl, R, I⟩
      refine ⟨_, rfl, _, .inl ⟨_, .of R.wd, rfl⟩, ?_⟩
      have hmu : (match H1 df, H1 dw with | some (.dK a), some (.lst b) => 2 * (64 - a.length) + b.length | _, _ => 0) = 2 * (64 - fnd.length) + wt.length := by
        rw [R.fd, R.wd]
        show 2 * (64 - (kf fnd).length) + (wt.map V.int).length = _
        rw [kf_len, List.length_map]
      rw [hmu]
      cases hw : wt with
      | nil =>
        subst hw
        refine iteF ?_
        have hlen := I.len hU hst
        refine ⟨_, rfl, df, _, fnd, rfl, .of R.fd, kf_keys fnd, by omega, fun ys p hperm hup np => ?_⟩
        refine ⟨p, _, rfl, .inl ⟨.of upd_same, fun l hl2 => ?_⟩⟩
        refine q _ _ ys ((R.same.trans (same_new np)).trans (same_new hl2)) ⟨l, rfl, upd_same⟩ hup (hperm.symm.nodup I.nd) fun x => ?_
        rw [hperm.mem_iff]
        exact I.done x
      | cons w0 wr =>
        rw [← hw]
        have hpos : 0 < wt.length := by rw [hw]; simp
        have hemp : (!(wt.map V.int).isEmpty) = true := by rw [hw]; rfl
        rw [hemp]
        refine iteT ?_
        have hlast : wt[wt.length - 1]? = some wt[wt.length - 1] := List.getElem?_eq_getElem (by omega)
        obtain ⟨h, hh⟩ : ∃ h, wt[wt.length - 1]? = some h := ⟨_, hlast⟩
        refine ⟨_, rfl, .inl ⟨rfl, _, .of R.wd⟩, dw, _, V.int h, rfl, rfl, R.wd, by rw [List.length_map]; exact int_at hh, ?_⟩
        have I1 := I.pop hh
        have R1 : RS H df dw fnd wt.dropLast (upd H1 dw (.lst (wt.map V.int).dropLast)) := by
          have := R.setW wt.dropLast
          rw [List.map_dropLast] at this
          exact this
        have hdl : wt.dropLast.length = wt.length - 1 := List.length_dropLast
        refine ⟨_, rfl, _, rfl, .ref t, ties, h, rfl, ⟨t, xs, rfl, R1.same _ _ ht, paired_mono mono_pi R1.same.keep hp⟩, hl, fun H2 v2 ns s2 hrow hperm hup => ?_⟩
        obtain ⟨t2, rfl, ht2⟩ := hrow
        have R2 := R1.more s2
        refine ⟨t2, rfl, ⟨_, .of ht2⟩, ?_⟩
        refine for_tup (K := K) (a := t2) (xs := ns.map V.int) (fun i σ H' => ∃ (fnd' wt' : List Int) (p : Option V), σ = [some (.ref t), some (.int st), some (optV bar), some (.ref df), some (.ref dw), some (.int h), p] ∧ RS H df dw fnd' wt' H' ∧ H' t2 = some (.tup (ns.map V.int)) ∧
          RI ties bar st (some h) fnd' wt' ∧ (∀ j v, j < i → ns[j]? = some v → bar ≠ some v → v ∈ fnd') ∧ 2 * (64 - fnd'.length) + wt'.length ≤ 2 * (64 - fnd.length) + (wt.length - 1))
          ⟨fnd, wt.dropLast, p0, rfl, R2, ht2, I1, fun j v hj => absurd hj (Nat.not_lt_zero _), by rw [hdl]; exact Nat.le_refl _⟩ (fun i σ H' _ ⟨_, _, _, _, _, e, _⟩ => .of e) ?_ ?_
        · rintro i x σ H3 hx ⟨fnd', wt', p, rfl, R3, ht3, I3, hc, hm⟩
          obtain ⟨n, hn, rfl⟩ := at_int hx
          have hsc : scal (V.int n) (optV bar) = true := by cases bar <;> rfl
          have hdec : (!decide (V.int n = optV bar)) = decide (bar ≠ some n) := by
            cases bar with
            | none => simp [optV]
            | some b =>
              by_cases e : n = b
              · subst e; simp [optV]
              · have e' : ¬ b = n := fun q => e q.symm
                simp [optV, e, e']
          refine ⟨_, rfl, _, rfl, hsc, _, rfl, ?_⟩
          rw [hdec]
          by_cases hb : bar ≠ some n
          · rw [decide_eq_true hb]
            refine iteT ⟨_, rfl, _, rfl, df, _, rfl, .k (k := Sum.inl n) R3.fd, _, rfl, ?_⟩
            rw [kf_look]
            by_cases hin : n ∈ fnd'
            · rw [if_pos hin]
              refine iteF ⟨fnd', wt', _, rfl, R3, ht3, I3, fun j v hj hv hbv => ?_, hm⟩
              by_cases ej : j = i
              · subst ej
                rw [hn] at hv
                cases hv
                exact hin
              · exact hc j v (by omega) hv hbv
            · rw [if_neg hin]
              refine iteT ?_
              have hnb : n ∈ nb ties h := hperm.mem_iff.mp (List.mem_of_getElem? hn)
              have I4 := I3.add hnb hb hin
              have l4 := I4.len hU hst
              have l3 := I3.len hU hst
              have lw : wt'.length ≤ 2 * 64 + wt.length := by omega
              have lw2 : wt.length ≤ 100000 ∨ True := .inr trivial
              refine ⟨_, rfl, _, rfl, df, _, rfl, .k (k := Sum.inl n) R3.fd (by rw [kf_len]; exact Nat.lt_of_le_of_lt (Nat.le_trans l3 (Nat.le_of_lt hU64)) (by decide)), ?_⟩
              rw [kf_put hin]
              have R4 := R3.setF (fnd' ++ [n])
              refine ⟨_, rfl, .inl ⟨rfl, _, .of R4.wd⟩, _, rfl, dw, _, _, rfl, rfl, R4.wd, ?_, ?_⟩
              · have := I3.wl
                rw [List.length_map]
                exact Nat.lt_of_le_of_lt (Nat.le_trans this (Nat.le_trans l3 (Nat.le_of_lt hU64))) (by decide)
              have R5 := R4.setW (wt' ++ [n])
              rw [List.map_append] at R5
              refine ⟨fnd' ++ [n], wt' ++ [n], _, rfl, R5, ?_, I4, fun j v hj hv hbv => ?_, ?_⟩
              · rw [upd_ne (ne_of ht3 R3.wd (fun z => nomatch z)), upd_ne (ne_of ht3 R3.fd (fun z => nomatch z))]
                exact ht3
              · by_cases ej : j = i
                · subst ej
                  rw [hn] at hv
                  cases hv
                  simp
                · exact List.mem_append_left _ (hc j v (by omega) hv hbv)
              · rw [List.length_append, List.length_append, List.length_singleton]
                rw [List.length_append, List.length_singleton] at l4
                omega
          · rw [decide_eq_false hb]
            refine iteF (iteF ⟨fnd', wt', _, rfl, R3, ht3, I3, fun j v hj hv hbv => ?_, hm⟩)
            by_cases ej : j = i
            · subst ej
              rw [hn] at hv
              cases hv
              exact absurd hbv hb
            · exact hc j v (by omega) hv hbv
        · rintro σ H3 ⟨fnd', wt', p, rfl, R3, ht3, I3, hc, hm⟩
          refine ⟨⟨fnd', wt', _, _, rfl, R3, I3.close fun v hv hb => ?_⟩, ?_⟩
          · have hv' := hperm.mem_iff.mpr hv
            obtain ⟨j, hj⟩ := List.getElem?_of_mem hv'
            exact hc j v (by rw [List.length_map]; exact (List.getElem?_eq_some_iff.mp hj).1) hj hb
          · rw [R3.fd, R3.wd]
            show 2 * (64 - (kf fnd').length) + (wt'.map V.int).length < _
            rw [kf_len, List.length_map]
            omega
    · rintro σ H' Q1 Q2 i ⟨v, e1, k, e2, h⟩
      exact ⟨v, e1, k, e2, i _ _ h⟩
end
end S4

namespace S4
open PySem L2 TT MM
/-! ### a tree in the heap -/
def tfs (t : Addr) (n : Int) : List (Str × V) := putF "posts" (.int n) (putF "ties" (.ref t) [])
theorem tfs_ties (t : Addr) (n : Int) : (tfs t n).lookup ("ties" : Str) = some (.ref t) := by
  unfold tfs
  rw [lookup_putF, if_neg (by decide +kernel), lookup_putF, if_pos rfl]
theorem tfs_posts (t : Addr) (n : Int) : (tfs t n).lookup ("posts" : Str) = some (.int n) := by
  unfold tfs
  rw [lookup_putF, if_pos rfl]
def rTree (cT : Addr) : Rp (List (Int × Int)) := fun H v ties => ∃ a dx t xs, v = .ref a ∧ H a = some (.ins cT dx (tfs t ((ties.length : Int) + 1))) ∧ H t = some (.tup xs) ∧ Paired (rPI H) xs ties
theorem mono_tree (cT : Addr) : Mono (rTree cT) := fun _ _ _ _ k ⟨a, dx, t, xs, e, h1, h2, h3⟩ => ⟨a, dx, t, xs, e, k.ins h1, k.tup h2, paired_mono mono_pi k h3⟩
theorem mem_ties {K : PySem.W.Frag} {H : Hp} {v u : V} {z : Int × Int} {ties : List (Int × Int)} (h : rPI H v z) (h2 : rTup rPI H u ties) {Q : V → Hp → Prop} (q : Q (.bl (decide (z ∈ ties))) H) : rInT K v u H Q :=
  ⟨pd z, ties.map pd, dp_pi h, dp_ties h2, pd_shaped z, pdt_shaped ties, by rw [any_pd]; exact q⟩
section
variable {P : Program} {w : World} {K : PySem.W.Frag} {mg : Str → Option Value} {base : Heap} {cT cS : Addr}
def spIsTie : Sp := fun vs H Q _ => ∃ (v : V) (z : Int × Int) (n : Int), vs = [v, .int n] ∧ rPI H v z ∧ 0 ≤ z.1 ∧ z.1 < z.2 ∧ z.2 < n ∧ ∀ H', Same H H' → Q (.bl true) H'
theorem two_at {a b : Int} {i : Nat} {x : V} (h : [V.int a, V.int b][i]? = some x) : x = .int a ∨ x = .int b := by
  match i, h with
  | 0, h => exact .inl (Option.some.inj h).symm
  | 1, h => exact .inr (Option.some.inj h).symm
theorem all_true_fm {n : Nat} {bs : List Bool} (h : bs = (List.range n).filterMap fun _ => some true) : bs.all id = true := all_true fun b hb => by
  rw [h] at hb
  obtain ⟨_, _, e⟩ := List.mem_filterMap.mp hb
  exact (Option.some.inj e).symm
theorem ok_is_tie (T : Tx K mg cT cS) {f : Addr} {fd : FuncData} (d : D K mg "is_tie" s_is_tie ["thing", "posts"] f fd) : FnOk P w K mg base CX0 3 f fd ["thing", "posts"] spIsTie := by
  obtain ⟨f1, fd1, d1⟩ := T.d_is_below
  have G1 : FnOk P w K mg base CX0 2 f1 fd1 ["thing", "end"] spIsBelow := ok_is_below T d1
  obtain ⟨f2, fd2, d2⟩ := T.d_is_pair
  have G2 : FnOk P w K mg base CX0 1 f2 fd2 ["thing"] spIsPair := ok_is_pair T d2
  refine d.F.ok sc_is_tie (fun vs H Q E h => ?_) (fun cdv A outer s H vs Q E hr h => ?_)
  · obtain ⟨v, z, n, rfl, _⟩ := h
    rfl
  · obtain ⟨v, ⟨a, b⟩, n, rfl, ⟨t, rfl, ht⟩, h0, h1, h2, q⟩ := h
    simp only at h0 h1 h2 ht
    refine ⟨_, pss_cons (ps_if (PW.pt (pw_or (pt_not (pt_val (pe_call G2 (hr.mono (by decide)) rfl d2.m d2.F.kp d2.b .nil pass0 (pa_cons (pv 0) pa_nil))))
        (pw_or1 (pt_not (pt_val (pe_callB (cr_all rfl) (by rfl) T.b_all (by decide +kernel) (pa_cons
        (pe_lc (own := [("post", 2)]) (g := gName 2) (tt := tYes) rfl sc_is_tie.nd (pi_tup (pv 0)) (blkOk_by (N := N_is_tie) (sc := defScope s_is_tie) (by decide +kernel)) (fun _ _ _ _ _ => pg_name (i := 2) sc_is_tie.nd rfl (Or.inl rfl)) (fun _ _ _ _ _ => pts_nil)
          (fun _ _ _ _ _ => pe_call G1 hr rfl d1.m d1.F.kp d1.b .nil pass0 (pa_cons (pv 2) (pa_cons (pv 1) pa_nil)))) pa_nil))))))) (pss_one (ps_ret pe_bl)) pss_nil)
      (pss_one (ps_ret (pe_cmpR op_lt (pe_ix ix_tup (pv 0) pe_int (fun _ _ => rfl)) (pe_ix ix_tup (pv 0) pe_int (fun _ _ => rfl)) (nomark _)))), ?_⟩
    refine ⟨_, rfl, t, _, _, rfl, ht, _, rfl, iteF ⟨_, rfl, t, rfl, ⟨_, .of ht⟩, fun D hD => ?_⟩⟩
    refine lc_fm (walk_tup (xs := [V.int a, V.int b])) rBl (fun _ => some true) hD (fun H' s' => .of (s'.keep.tup ht)) ?_ ?_
    · rintro i x H2 H3 hi pv ⟨rfl, hx⟩
      have hi2 : i < 2 := hi
      rcases two_at hx with rfl | rfl
      · refine ⟨rfl, _, rfl, _, rfl, a, n, rfl, ?_⟩
        rw [decide_eq_true ⟨h0, by omega⟩]
        exact fm_keep mono_bl pv hD (by omega) (Same.refl _) rfl rfl
      · refine ⟨rfl, _, rfl, _, rfl, b, n, rfl, ?_⟩
        rw [decide_eq_true ⟨by omega, h2⟩]
        exact fm_keep mono_bl pv hD (by omega) (Same.refl _) rfl rfl
    · intro H2 xs s2 hD2 hp
      have := paired_bl hp
      subst this
      refine ⟨_, _, rfl, .of hD2, _, rfl, ?_⟩
      rw [all_true_fm rfl]
      have ht2 := s2.keep.tup ht
      refine iteF ⟨_, rfl, t, _, _, _, rfl, rfl, .of ht2, at_of (j := 0) rfl rfl, _, rfl, t, _, _, _, rfl, rfl, .of ht2, at_of (j := 1) rfl rfl, _, _, rfl, rfl, ?_⟩
      show Q (V.bl (decide (a < b))) H2
      rw [decide_eq_true h1]
      exact q _ s2
def spIsWay (cT : Addr) : Sp := fun vs H Q _ => ∃ (u v : V) (ties : List (Int × Int)) (z : Int × Int), vs = [u, v] ∧ rTree cT H u ties ∧ rPI H v z ∧ 0 ≤ z.1 ∧ 0 ≤ z.2 ∧ z.1 < (ties.length : Int) + 1 ∧ z.2 < (ties.length : Int) + 1 ∧ (z ∈ ties ∨ z.swap ∈ ties) ∧
  ∀ H', Same H H' → Q (.bl true) H'
theorem ok_is_way (T : Tx K mg cT cS) {f : Addr} {fd : FuncData} (d : D K mg "is_way" s_is_way ["tree", "thing"] f fd) : FnOk P w K mg base CX0 3 f fd ["tree", "thing"] (spIsWay cT) := by
  obtain ⟨f1, fd1, d1⟩ := T.d_is_below
  have G1 : FnOk P w K mg base CX0 2 f1 fd1 ["thing", "end"] spIsBelow := ok_is_below T d1
  obtain ⟨f2, fd2, d2⟩ := T.d_is_pair
  have G2 : FnOk P w K mg base CX0 1 f2 fd2 ["thing"] spIsPair := ok_is_pair T d2
  obtain ⟨fT, fdT, kT⟩ := T.k_Tree
  have nP : NoAttr K cT "posts" := kT.na _ (by simp)
  have nT : NoAttr K cT "ties" := kT.na _ (by simp)
  refine d.F.ok sc_is_way (fun vs H Q E h => ?_) (fun cdv A outer s H vs Q E hr h => ?_)
  · obtain ⟨u, v, ties, z, rfl, _⟩ := h
    rfl
  · obtain ⟨u, v, ties, ⟨a, b⟩, rfl, ⟨tr, dx, t, xs, rfl, hI, ht, hp⟩, ⟨tz, rfl, hz⟩, h0, h1, h2, h3, hm, q⟩ := h
    simp only at h0 h1 h2 h3 hz
    refine ⟨_, pss_cons (ps_if (PW.pt (pw_or (pt_not (pt_val (pe_call G2 (hr.mono (by decide)) rfl d2.m d2.F.kp d2.b .nil pass0 (pa_cons (pv 1) pa_nil))))
        (pw_or1 (pt_not (pt_val (pe_callB (cr_all rfl) (by rfl) T.b_all (by decide +kernel) (pa_cons
        (pe_lc (own := [("post", 2)]) (g := gName 2) (tt := tYes) rfl sc_is_way.nd (pi_tup (pv 1)) (blkOk_by (N := N_is_way) (sc := defScope s_is_way) (by decide +kernel)) (fun _ _ _ _ _ => pg_name (i := 2) sc_is_way.nd rfl (Or.inl rfl)) (fun _ _ _ _ _ => pts_nil)
          (fun _ _ _ _ _ => pe_call G1 hr rfl d1.m d1.F.kp d1.b .nil pass0 (pa_cons (pv 2) (pa_cons (fldK (K := K) (pv 0) rfl rfl) pa_nil)))) pa_nil))))))) (pss_one (ps_ret pe_bl)) pss_nil)
      (pss_one (ps_ret (pe_or (pe_cmpR (op_inT (hu65 hr)) (pv 1) (pe_fld (pv 0) rfl) (by rfl))
        (pe_one (pe_cmpR (op_inT (hu65 hr)) (pe_tup (pa_cons (pe_ix ix_tup (pv 1) pe_int (fun _ _ => rfl)) (pa_cons (pe_ix ix_tup (pv 1) pe_int (fun _ _ => rfl)) pa_nil))) (pe_fld (pv 0) rfl) (by rfl)))))), ?_⟩
    refine ⟨_, rfl, tz, _, _, rfl, hz, _, rfl, iteF ⟨_, rfl, tz, rfl, ⟨_, .of hz⟩, fun D hD => ?_⟩⟩
    refine lc_fm (walk_tup (xs := [V.int a, V.int b])) rBl (fun _ => some true) hD (fun H' s' => .of (s'.keep.tup hz)) ?_ ?_
    · rintro i x H2 H3 hi pv ⟨rfl, hx⟩
      have hi2 : i < 2 := hi
      have hI3 := pv.1.keep.ins hI
      rcases two_at hx with rfl | rfl
      · refine ⟨rfl, _, rfl, _, rfl, tr, cT, dx, _, _, rfl, hI3, kT.cl, nP, tfs_posts _ _, a, _, rfl, ?_⟩
        rw [decide_eq_true ⟨h0, h2⟩]
        exact fm_keep mono_bl pv hD (by omega) (Same.refl _) rfl rfl
      · refine ⟨rfl, _, rfl, _, rfl, tr, cT, dx, _, _, rfl, hI3, kT.cl, nP, tfs_posts _ _, b, _, rfl, ?_⟩
        rw [decide_eq_true ⟨h1, h3⟩]
        exact fm_keep mono_bl pv hD (by omega) (Same.refl _) rfl rfl
    · intro H2 ys s2 hD2 hp2
      have := paired_bl hp2
      subst this
      refine ⟨_, _, rfl, .of hD2, _, rfl, ?_⟩
      rw [all_true_fm rfl]
      have hz2 := s2.keep.tup hz
      have hI2 := s2.keep.ins hI
      have ht2 := s2.keep.tup ht
      have hp3 := paired_mono mono_pi s2.keep hp
      refine iteF ⟨_, rfl, _, rfl, tr, cT, dx, _, _, rfl, hI2, kT.cl, nT, tfs_ties _ _, mem_ties (z := (a, b)) ⟨tz, rfl, hz2⟩ ⟨t, xs, rfl, ht2, hp3⟩ ?_⟩
      refine ⟨_, rfl, ?_⟩
      by_cases hc : (a, b) ∈ ties
      · rw [decide_eq_true hc]
        exact iteT (q _ s2)
      · rw [decide_eq_false hc]
        have hc2 : (b, a) ∈ ties := hm.resolve_left hc
        refine iteF ⟨_, rfl, tz, _, _, _, rfl, rfl, .of hz2, at_of (j := 1) rfl rfl, _, rfl, tz, _, _, _, rfl, rfl, .of hz2, at_of (j := 0) rfl rfl, by show 2 ≤ sizeLine; decide, fun p np => ?_⟩
        have s3 := same_new (o := .tup [V.int b, V.int a]) np
        refine ⟨_, rfl, tr, cT, dx, _, _, rfl, s3.keep.ins hI2, kT.cl, nT, tfs_ties _ _, mem_ties (z := (b, a)) ⟨p, rfl, upd_same⟩ ⟨t, xs, rfl, s3.keep.tup ht2, paired_mono mono_pi s3.keep hp3⟩ ?_⟩
        rw [decide_eq_true hc2]
        exact q _ (s2.trans s3)
end
end S4

namespace S4
open PySem L2 TT MM
section
variable {P : Program} {w : World} {K : PySem.W.Frag} {mg : Str → Option Value} {base : Heap} {cT cS : Addr}
def spTied (cT : Addr) : Sp := fun vs H Q _ => ∃ (u : V) (ties : List (Int × Int)) (post : Int), vs = [u, .int post] ∧ rTree cT H u ties ∧ ties.length ≤ 1000 ∧ 0 ≤ post ∧ post < (ties.length : Int) + 1 ∧
  ∀ H' v' ns, Same H H' → rRow H' v' ns → ns.Perm (nb ties post) → Up ns → Q v' H'
theorem ok_tied (T : Tx K mg cT cS) {f : Addr} {fd : FuncData} (d : D K mg "tied" s_tied ["tree", "post"] f fd) : FnOk P w K mg base CX0 3 f fd ["tree", "post"] (spTied cT) := by
  obtain ⟨f1, fd1, d1⟩ := T.d_is_below
  have G1 : FnOk P w K mg base CX0 2 f1 fd1 ["thing", "end"] spIsBelow := ok_is_below T d1
  obtain ⟨f2, fd2, d2⟩ := T.d_neighbours
  have G2 : FnOk P w K mg base CX0 1 f2 fd2 ["ties", "post"] spNbr := ok_neighbours T d2
  obtain ⟨fT, fdT, kT⟩ := T.k_Tree
  have nP : NoAttr K cT "posts" := kT.na _ (by simp)
  have nT : NoAttr K cT "ties" := kT.na _ (by simp)
  refine d.F.ok sc_tied (fun vs H Q E h => ?_) (fun cdv A outer s H vs Q E hr h => ?_)
  · obtain ⟨u, ties, post, rfl, _⟩ := h
    rfl
  · obtain ⟨u, ties, post, rfl, ⟨tr, dx, t, xs, rfl, hI, ht, hp⟩, hl, h0, h1, q⟩ := h
    refine ⟨_, pss_cons (ps_if (pt_not (pt_val (pe_call G1 hr rfl d1.m d1.F.kp d1.b .nil pass0 (pa_cons (pv 1) (pa_cons (pe_fld (pv 0) rfl) pa_nil))))) pss_never pss_nil)
      (pss_one (ps_ret (pe_call G2 (hr.mono (by decide)) rfl d2.m d2.F.kp d2.b .nil pass0 (pa_cons (pe_fld (pv 0) rfl) (pa_cons (pv 1) pa_nil))))), ?_⟩
    refine ⟨_, rfl, _, rfl, tr, cT, dx, _, _, rfl, hI, kT.cl, nP, tfs_posts _ _, post, _, rfl, ?_⟩
    rw [decide_eq_true ⟨h0, h1⟩]
    refine ⟨_, rfl, iteF ⟨_, rfl, tr, cT, dx, _, _, rfl, hI, kT.cl, nT, tfs_ties _ _, _, rfl, .ref t, ties, post, rfl, ⟨t, xs, rfl, ht, hp⟩, hl, q⟩⟩
def spThis (cT : Addr) : Sp := fun vs H Q _ => ∃ (u v : V) (ties : List (Int × Int)) (z : Int × Int) (U : List Int), vs = [u, v] ∧ rTree cT H u ties ∧ rPI H v z ∧ ties.length ≤ 1000 ∧ Shut ties U ∧ z.1 ∈ U ∧ U.length < 64 ∧
  ∀ H' v' ns, Same H H' → rRow H' v' ns → Up ns → ns.Nodup → (∀ x, x ∈ ns ↔ Rch ties (some z.2) z.1 x) → Q v' H'
theorem ok_this_side (T : Tx K mg cT cS) {f : Addr} {fd : FuncData} (d : D K mg "this_side" s_this_side ["tree", "way"] f fd) : FnOk P w K mg base CX0 3 f fd ["tree", "way"] (spThis cT) := by
  obtain ⟨f2, fd2, d2⟩ := T.d_reached
  have G2 : FnOk P w K mg base CX0 2 f2 fd2 ["ties", "start", "barred"] spReached := ok_reached T d2
  obtain ⟨fT, fdT, kT⟩ := T.k_Tree
  have nT : NoAttr K cT "ties" := kT.na _ (by simp)
  refine d.F.ok sc_this_side (fun vs H Q E h => ?_) (fun cdv A outer s H vs Q E hr h => ?_)
  · obtain ⟨u, v, ties, z, U, rfl, _⟩ := h
    rfl
  · obtain ⟨u, v, ties, z, U, rfl, ⟨tr, dx, t, xs, rfl, hI, ht, hp⟩, ⟨tz, rfl, hz⟩, hl, hU, h0, h64, q⟩ := h
    refine ⟨_, pss_cons (ps_asg (pv 1) (pg_tup rfl (pgs_cons (pg_name (i := 2) sc_this_side.nd rfl (.inl rfl)) (pgs_cons (pg_name (i := 3) sc_this_side.nd rfl (.inl rfl)) pgs_nil))))
      (pss_one (ps_ret (pe_call G2 hr rfl d2.m d2.F.kp d2.b .nil pass0 (pa_cons (pe_fld (pv 0) rfl) (pa_cons (pv 2) (pa_cons (pv 3) pa_nil)))))), ?_⟩
    exact ⟨_, rfl, tz, _, rfl, .of hz, rfl, _, _, rfl, _, _, rfl, rfl, _, rfl, tr, cT, dx, _, _, rfl, hI, kT.cl, nT, tfs_ties _ _, _, rfl, _, rfl, .ref t, ties, z.1, some z.2, U, rfl, ⟨t, xs, rfl, ht, hp⟩, hl, hU, h0, h64, q⟩
def spBeyond (cT : Addr) : Sp := fun vs H Q _ => ∃ (u v : V) (ties : List (Int × Int)) (z : Int × Int) (U : List Int), vs = [u, v] ∧ rTree cT H u ties ∧ rPI H v z ∧ ties.length ≤ 1000 ∧ Shut ties U ∧ z.2 ∈ U ∧ U.length < 64 ∧
  0 ≤ z.1 ∧ 0 ≤ z.2 ∧ z.1 < (ties.length : Int) + 1 ∧ z.2 < (ties.length : Int) + 1 ∧ (z ∈ ties ∨ z.swap ∈ ties) ∧
  ∀ H' v' ns, Same H H' → rRow H' v' ns → Up ns → ns.Nodup → (∀ x, x ∈ ns ↔ Rch ties (some z.1) z.2 x) → Q v' H'
theorem ok_beyond (T : Tx K mg cT cS) {f : Addr} {fd : FuncData} (d : D K mg "beyond" s_beyond ["tree", "way"] f fd) : FnOk P w K mg base CX0 4 f fd ["tree", "way"] (spBeyond cT) := by
  obtain ⟨f1, fd1, d1⟩ := T.d_is_way
  have G1 : FnOk P w K mg base CX0 3 f1 fd1 ["tree", "thing"] (spIsWay cT) := ok_is_way T d1
  obtain ⟨f2, fd2, d2⟩ := T.d_reached
  have G2 : FnOk P w K mg base CX0 2 f2 fd2 ["ties", "start", "barred"] spReached := ok_reached T d2
  obtain ⟨fT, fdT, kT⟩ := T.k_Tree
  have nT : NoAttr K cT "ties" := kT.na _ (by simp)
  refine d.F.ok sc_beyond (fun vs H Q E h => ?_) (fun cdv A outer s H vs Q E hr h => ?_)
  · obtain ⟨u, v, ties, z, U, rfl, _⟩ := h
    rfl
  · obtain ⟨u, v, ties, z, U, rfl, hu, ⟨tz, rfl, hz⟩, hl, hU, h0, h64, a1, a2, a3, a4, a5, q⟩ := h
    refine ⟨_, pss_cons (ps_if (pt_not (pt_val (pe_call G1 hr rfl d1.m d1.F.kp d1.b .nil pass0 (pa_cons (pv 0) (pa_cons (pv 1) pa_nil))))) pss_never pss_nil)
      (pss_cons (ps_asg (pv 1) (pg_tup rfl (pgs_cons (pg_name (i := 2) sc_beyond.nd rfl (.inl rfl)) (pgs_cons (pg_name (i := 3) sc_beyond.nd rfl (.inl rfl)) pgs_nil))))
      (pss_one (ps_ret (pe_call G2 (hr.mono (by decide)) rfl d2.m d2.F.kp d2.b .nil pass0 (pa_cons (pe_fld (pv 0) rfl) (pa_cons (pv 3) (pa_cons (pv 2) pa_nil))))))), ?_⟩
    refine ⟨_, rfl, _, rfl, _, .ref tz, ties, z, rfl, hu, ⟨tz, rfl, hz⟩, a1, a2, a3, a4, a5, fun H2 s2 => ⟨_, rfl, iteF ?_⟩⟩
    obtain ⟨tr, dx, t, xs, rfl, hI, ht, hp⟩ := mono_tree cT _ _ _ _ s2.keep hu
    have hz2 := s2.keep.tup hz
    exact ⟨_, rfl, tz, _, rfl, .of hz2, rfl, _, _, rfl, _, _, rfl, rfl, _, rfl, tr, cT, dx, _, _, rfl, hI, kT.cl, nT, tfs_ties _ _, _, rfl, _, rfl, .ref t, ties, z.2, some z.1, U, rfl, ⟨t, xs, rfl, ht, hp⟩, hl, hU, h0, h64,
      fun H' v' ns s3 => q H' v' ns (s2.trans s3)⟩
/-! ### all ways -/
def flipAll (ties : List (Int × Int)) : List (Int × Int) := ties.map Prod.swap
/-- a new ascending list of all ways -/
def spWays (cT : Addr) : Sp := fun vs H Q _ => ∃ (u : V) (ties : List (Int × Int)), vs = [u] ∧ rTree cT H u ties ∧ ties.length ≤ 1000 ∧
  ∀ H' p xs m, Same H H' → H p = none → H' p = some (.lst xs) → Paired (rPI H') xs m → m.Perm (ties ++ flipAll ties) → m.Pairwise lxLe → Q (.ref p) H'
theorem fm_some {α β : Type} (l : List α) (h : α → β) : (List.range l.length).filterMap (fun i => l[i]?.bind fun x => some (h x)) = l.map h := by
  rw [fm_list, List.filterMap_eq_map']
theorem ok_ways (T : Tx K mg cT cS) {f : Addr} {fd : FuncData} (d : D K mg "ways" s_ways ["tree"] f fd) : FnOk P w K mg base CX0 1 f fd ["tree"] (spWays cT) := by
  obtain ⟨fT, fdT, kT⟩ := T.k_Tree
  have nT : NoAttr K cT "ties" := kT.na _ (by simp)
  refine d.F.ok sc_ways (fun vs H Q E h => ?_) (fun cdv A outer s H vs Q E hr h => ?_)
  · obtain ⟨u, ties, rfl, _⟩ := h
    rfl
  · obtain ⟨u, ties, rfl, ⟨tr, dx, t, xs, rfl, hI, ht, hp⟩, hl, q⟩ := h
    have hlen := paired_len hp
    refine ⟨_, pss_one (ps_ret (pe_callB cr_sortedPD (by rfl) T.b_sorted (by decide +kernel) (pa_cons (pe_op op_cat
        (pe_lc (own := [("one", 1), ("other", 2)]) (g := gTup K 2 (gCons (gName 1) (gCons (gName 2) gNil))) (tt := tYes) rfl sc_ways.nd (pi_tup (pe_fld (pv 0) rfl)) (blkOk_by (N := N_ways) (sc := defScope s_ways) (by decide +kernel))
          (fun _ _ _ _ _ => pgT rfl rfl (pgs_cons (pg_name (i := 1) sc_ways.nd rfl (Or.inl rfl)) (pgs_cons (pg_name (i := 2) sc_ways.nd rfl (Or.inl rfl)) pgs_nil))) (fun _ _ _ _ _ => pts_nil) (fun _ _ _ _ _ => pe_tup (pa_cons (pv 1) (pa_cons (pv 2) pa_nil))))
        (pe_lc (own := [("one", 1), ("other", 2)]) (g := gTup K 2 (gCons (gName 1) (gCons (gName 2) gNil))) (tt := tYes) rfl sc_ways.nd (pi_tup (pe_fld (pv 0) rfl)) (blkOk_by (N := N_ways) (sc := defScope s_ways) (by decide +kernel))
          (fun _ _ _ _ _ => pgT rfl rfl (pgs_cons (pg_name (i := 1) sc_ways.nd rfl (Or.inl rfl)) (pgs_cons (pg_name (i := 2) sc_ways.nd rfl (Or.inl rfl)) pgs_nil))) (fun _ _ _ _ _ => pts_nil) (fun _ _ _ _ _ => pe_tup (pa_cons (pv 2) (pa_cons (pv 1) pa_nil))))) pa_nil))), ?_⟩
    refine ⟨_, rfl, tr, cT, dx, _, _, rfl, hI, kT.cl, nT, tfs_ties _ _, t, rfl, ⟨_, .of ht⟩, fun D hD => ?_⟩
    refine lc_fm (walk_tup (xs := xs)) rPI (fun i => ties[i]?.bind fun x => some x) hD (fun H' s' => .of (s'.keep.tup ht)) ?_ ?_
    · rintro i x H2 H3 hi pv ⟨rfl, hx⟩
      obtain ⟨z, hz, t2, rfl, ht2⟩ := paired_get (paired_mono mono_pi pv.1.keep hp) hx
      refine ⟨t2, _, rfl, .of ht2, rfl, _, _, rfl, _, _, rfl, rfl, rfl, _, rfl, _, rfl, by show 2 ≤ sizeLine; decide, fun p np => ?_⟩
      exact fm_keep mono_pi pv hD (by omega) (same_new np) (by rw [hz]; rfl) ⟨p, rfl, upd_same⟩
    · intro H2 ys s2 hD2 hp2
      rw [hlen, fm_some, List.map_id'] at hp2
      refine ⟨_, rfl, tr, cT, dx, _, _, rfl, s2.keep.ins hI, kT.cl, nT, tfs_ties _ _, t, rfl, ⟨_, .of (s2.keep.tup ht)⟩, fun D2 hD' => ?_⟩
      refine lc_fm (walk_tup (xs := xs)) rPI (fun i => ties[i]?.bind fun x => some x.swap) hD' (fun H' s' => .of ((s2.trans s').keep.tup ht)) ?_ ?_
      · rintro i x H3 H4 hi pv ⟨rfl, hx⟩
        obtain ⟨z, hz, t2, rfl, ht2⟩ := paired_get (paired_mono mono_pi (s2.trans pv.1).keep hp) hx
        refine ⟨t2, _, rfl, .of ht2, rfl, _, _, rfl, _, _, rfl, rfl, rfl, _, rfl, _, rfl, by show 2 ≤ sizeLine; decide, fun p np => ?_⟩
        exact fm_keep mono_pi pv hD' (by omega) (same_new np) (by rw [hz]; rfl) ⟨p, rfl, upd_same⟩
      · intro H3 zs s3 hD3 hp3
        rw [hlen, fm_some] at hp3
        have hD2' := s3 _ _ hD2
        have l1 := paired_len hp2
        have l2 := paired_len hp3
        rw [List.length_map] at l2
        have l3 : ys.length + zs.length ≤ 2000 := by omega
        refine ⟨D, D2, ys, zs, rfl, rfl, hD2', hD3, Nat.le_trans l3 (by decide), fun p np => ?_⟩
        have s4 := same_new (o := .lst (ys ++ zs)) np
        refine ⟨p, _, ties ++ flipAll ties, rfl, .of upd_same, paired_app (paired_mono mono_pi (s3.trans s4).keep hp2) (paired_mono mono_pi s4.keep hp3), fun ws m r hw hperm hs nr => ?_⟩
        have s5 := same_new (o := .lst ws) nr
        have s6 := ((s2.trans s3).trans s4)
        exact q _ r ws m (s6.trans s5) (s6.free nr) upd_same (paired_mono mono_pi s5.keep hw) hperm hs
end
end S4

namespace S4
open PySem L2 TT MM
/-- ties that make a tree of n posts -/
structure TiesOk (ties : List (Int × Int)) (n : Nat) : Prop where
  len : ties.length + 1 = n
  n24 : n ≤ 24
  b0 : ∀ z ∈ ties, 0 ≤ z.1 ∧ z.1 < z.2 ∧ z.2 < (n : Int)
  asc : ties.Pairwise lxLt
  all : ∀ x : Int, 0 ≤ x → x < (n : Int) → Rch ties none 0 x
theorem nb_mem {ties : List (Int × Int)} {u v : Int} : v ∈ nb ties u ↔ (u, v) ∈ ties ∨ (v, u) ∈ ties := by
  unfold nb
  rw [List.mem_filterMap]
  constructor
  · rintro ⟨⟨a, b⟩, hz, he⟩
    unfold nbOf at he
    by_cases hc : a = u ∨ b = u
    · rw [if_pos hc] at he
      have e := Option.some.inj he
      by_cases h1 : a = u
      · rw [if_pos h1] at e
        subst h1 e
        exact .inl hz
      · rw [if_neg h1] at e
        have h2 : b = u := hc.resolve_left h1
        subst h2 e
        exact .inr hz
    · rw [if_neg hc] at he
      cases he
  · rintro (h | h)
    · refine ⟨(u, v), h, ?_⟩
      unfold nbOf
      rw [if_pos (.inl rfl), if_pos rfl]
    · refine ⟨(v, u), h, ?_⟩
      unfold nbOf
      rw [if_pos (.inr rfl)]
      by_cases e : v = u
      · rw [if_pos e, e]
      · rw [if_neg e]
def rng (n : Nat) : List Int := (List.range n).map fun (i : Nat) => (i : Int)
theorem rng_mem {n : Nat} {x : Int} : x ∈ rng n ↔ 0 ≤ x ∧ x < (n : Int) := by
  unfold rng
  rw [List.mem_map]
  constructor
  · rintro ⟨i, hi, rfl⟩
    have := List.mem_range.mp hi
    omega
  · rintro ⟨h1, h2⟩
    exact ⟨x.toNat, List.mem_range.mpr (by omega), by omega⟩
theorem rng_len (n : Nat) : (rng n).length = n := by simp [rng]
theorem rng_nodup (n : Nat) : (rng n).Nodup := by
  unfold rng
  rw [List.nodup_iff_pairwise_ne, List.pairwise_map]
  exact List.nodup_range.imp fun {a b} h e => h (by omega)
theorem TiesOk.shut {ties : List (Int × Int)} {n : Nat} (o : TiesOk ties n) : Shut ties (rng n) := ⟨fun u hu v hv => by
  rw [rng_mem]
  rcases nb_mem.mp hv with h | h
  · have := o.b0 _ h
    simp only at this
    omega
  · have := o.b0 _ h
    simp only at this
    omega⟩
theorem le_pairs (a b c e : Int) : Ob.lexAt (fun j => decide ([a, b].getD j 0 = [c, e].getD j 0)) (fun j => decide ([a, b].getD j 0 ≤ [c, e].getD j 0)) (decide ([a, b].length ≤ [c, e].length)) 0 (min [a, b].length [c, e].length) = decide (¬ lxLt (c, e) (a, b)) := by
  show (if decide (a = c) = true then (if decide (b = e) = true then decide (2 ≤ 2) else decide (b ≤ e)) else decide (a ≤ c)) = decide (¬ lxLt (c, e) (a, b))
  unfold lxLt
  by_cases h1 : a = c
  · rw [if_pos (decide_eq_true h1)]
    by_cases h2 : b = e
    · rw [if_pos (decide_eq_true h2)]
      subst h1 h2
      rw [decide_eq_true (by omega : (2 : Nat) ≤ 2), decide_eq_true (by omega)]
    · rw [if_neg (by rw [decide_eq_true_eq]; exact h2)]
      subst h1
      by_cases h3 : b ≤ e
      · rw [decide_eq_true h3, decide_eq_true (by omega)]
      · rw [decide_eq_false h3, decide_eq_false (by omega)]
  · rw [if_neg (by rw [decide_eq_true_eq]; exact h1)]
    by_cases h3 : a ≤ c
    · rw [decide_eq_true h3, decide_eq_true (by omega)]
    · rw [decide_eq_false h3, decide_eq_false (by omega)]
section
variable {P : Program} {w : World} {K : PySem.W.Frag} {mg : Str → Option Value} {base : Heap} {cT cS : Addr}
def spCheckTies : Sp := fun vs H Q _ => ∃ (v : V) (ties : List (Int × Int)) (n : Nat), vs = [v] ∧ rTup rPI H v ties ∧ TiesOk ties n ∧ ∀ H', Same H H' → Q .non H'
theorem ok_check_ties (T : Tx K mg cT cS) {f : Addr} {fd : FuncData} (d : D K mg "check_ties" s_check_ties ["ties"] f fd) : FnOk P w K mg base CX0 4 f fd ["ties"] spCheckTies := by
  obtain ⟨f1, fd1, d1⟩ := T.d_is_tie
  have G1 : FnOk P w K mg base CX0 3 f1 fd1 ["thing", "posts"] spIsTie := ok_is_tie T d1
  obtain ⟨f2, fd2, d2⟩ := T.d_reached
  have G2 : FnOk P w K mg base CX0 2 f2 fd2 ["ties", "start", "barred"] spReached := ok_reached T d2
  obtain ⟨tk, hM⟩ := T.c_MOST_TIES
  refine d.F.ok sc_check_ties (fun vs H Q E h => ?_) (fun cdv A outer s H vs Q E hr h => ?_)
  · obtain ⟨v, ties, n, rfl, _⟩ := h
    rfl
  · obtain ⟨v, ties, n, rfl, ⟨t, xs, rfl, ht, hp⟩, ok, q⟩ := h
    have hlen := paired_len hp
    have hn := ok.len
    have hn24 := ok.n24
    refine ⟨_, pss_cons (ps_if (PW.pt (pw_or (pt_not (pt_val (pe_callB call_isi (by rfl) T.b_isinstance (by decide +kernel) (pa_cons (pv 0) (pa_cons (ty_tuple T.b_tuple) pa_nil)))))
        (pw_or1 (pt_cmpR op_gt (pe_callB call_len_seq (by rfl) T.b_len PySem.boot_len (pa_cons (pv 0) pa_nil)) (pe_glob (v := .int 23) rfl hM ⟨_, rfl⟩) (nomark _))))) pss_never pss_nil)
      (pss_cons (ps_set (i := 1) sc_check_ties.nd rfl (.inl rfl) (pe_op op_add (pe_callB call_len_seq (by rfl) T.b_len PySem.boot_len (pa_cons (pv 0) pa_nil)) pe_int))
      (pss_cons (ps_for PassesOwn.never rfl (pi_enumT (by rfl) T.b_enumerate (pa_cons (pv 0) pa_nil)) (pg_tup rfl (pgs_cons (pg_name (i := 2) sc_check_ties.nd rfl (.inl rfl)) (pgs_cons (pg_name (i := 3) sc_check_ties.nd rfl (.inl rfl)) pgs_nil)))
        (pss_one (ps_if (PW.pt (pw_or (pt_not (pt_val (pe_call G1 hr rfl d1.m d1.F.kp d1.b .nil pass0 (pa_cons (pv 3) (pa_cons (pv 1) pa_nil)))))
          (pw_or1 (PW.pt (pw_and (pt_cmpR op_gt (pv 2) pe_int (nomark _)) (pw_and1 (pt_cmpR (op_leT hr.units0) (pv 3) (pe_ix ix_tup (pv 0) (pe_op op_sub (pv 2) pe_int) (fun _ _ => rfl)) (nomark _)))))))) pss_never pss_nil)))
      (pss_one (ps_if (pt_cmpR op_lt (pe_callB call_len_seq (by rfl) T.b_len PySem.boot_len (pa_cons (pe_call G2 (hr.mono (by decide)) rfl d2.m d2.F.kp d2.b .nil pass0 (pa_cons (pv 0) (pa_cons pe_int (pa_cons pe_non pa_nil)))) pa_nil)) (pv 1) (nomark _)) pss_never pss_nil)))), ?_⟩
    refine ⟨_, rfl, _, _, _, _, _, rfl, .ty _, .base (.tup ht), kit_tt, _, rfl, iteF ⟨_, rfl, _, _, rfl, .inr (.of ht), _, _, rfl, rfl, _, rfl, ?_⟩⟩
    rw [decide_eq_false (by rw [hlen]; omega)]
    refine iteF ⟨_, rfl, _, _, rfl, .inr (.of ht), _, _, rfl, rfl, ?_⟩
    dsimp only [gName, tSeq]
    have e1 : ((xs.length : Nat) : Int) + 1 = (n : Int) := by rw [hlen]; omega
    rw [e1]
    refine ⟨_, rfl, t, xs, rfl, .of ht, ?_⟩
    refine for_it (walk_enumT (xs := xs)) (fun i σ H' => Same H H' ∧ ∃ a b, σ = [some (.ref t), some (.int n), a, b]) ⟨.refl _, none, none, rfl⟩ (fun i σ H' _ h => .of (h.1.keep.tup ht)) ?_ ?_
    · rintro i x σ H2 H3 hi ⟨s2, a, b, rfl⟩ ⟨tp, x1, x2, rfl, np, rfl, e2, e3⟩
      have s3 := same_new (o := .tup [x1, x2]) np
      cases (Option.some.inj e2)
      obtain ⟨z, hz, t2, rfl, ht2⟩ := paired_get (paired_mono mono_pi (s2.trans s3).keep hp) e3
      have hzm := List.mem_of_getElem? hz
      obtain ⟨b1, b2, b3⟩ := ok.b0 z hzm
      refine ⟨tp, _, rfl, .of upd_same, rfl, _, _, rfl, _, _, rfl, rfl, ?_⟩
      refine ⟨_, rfl, _, rfl, .ref t2, z, n, rfl, ⟨t2, rfl, ht2⟩, b1, b2, b3, fun H4 s4 => ⟨_, rfl, iteF ?_⟩⟩
      have s5 := (s2.trans s3).trans s4
      refine ⟨_, rfl, _, _, rfl, rfl, _, rfl, ?_⟩
      by_cases hi0 : 0 < i
      · rw [decide_eq_true (by omega)]
        have hi1 : i - 1 < ties.length := by omega
        have hz1 : ties[i - 1]? = some ties[i - 1] := List.getElem?_eq_getElem hi1
        obtain ⟨y, hy, t3, rfl, ht3⟩ := paired_get2 (paired_mono mono_pi s5.keep hp) hz1
        refine iteT ⟨_, rfl, _, rfl, _, rfl, _, _, rfl, rfl, t, xs, _, _, rfl, rfl, .of (s5.keep.tup ht), at_of (j := i - 1) (by omega) hy, ?_⟩
        refine ⟨t2, t3, [z.1, z.2], [ties[i - 1].1, ties[i - 1].2], rfl, rfl, .of (s4.keep.tup ht2), .of ht3, _, rfl, ?_⟩
        rw [le_pairs]
        have hlt : lxLt (ties[i - 1].1, ties[i - 1].2) (z.1, z.2) := by
          have hzi : i < ties.length := (List.getElem?_eq_some_iff.mp hz).1
          have hze : ties[i] = z := (List.getElem?_eq_some_iff.mp hz).2
          have := (List.pairwise_iff_getElem.mp ok.asc) (i - 1) i hi1 hzi (by omega)
          rw [hze] at this
          exact this
        rw [decide_eq_false (fun h => h hlt)]
        exact iteF ⟨s5, _, _, rfl⟩
      · rw [decide_eq_false (by omega)]
        exact iteF (iteF ⟨s5, _, _, rfl⟩)
    · rintro σ H2 ⟨s2, a, b, rfl⟩
      refine ⟨_, rfl, .ref t, ties, 0, none, rng n, rfl, ⟨t, xs, rfl, s2.keep.tup ht, paired_mono mono_pi s2.keep hp⟩, by omega, ok.shut, rng_mem.mpr ⟨by omega, by omega⟩, by rw [rng_len]; omega, fun H3 v' ns s3 hrow hup hnd hmem => ?_⟩
      obtain ⟨t4, rfl, ht4⟩ := hrow
      refine ⟨_, _, rfl, .inr (.of ht4), _, rfl, _, _, rfl, rfl, _, rfl, ?_⟩
      have hge : n ≤ ns.length := by
        have := nodup_len (V := ns) (rng_nodup n) fun v hv => by
          obtain ⟨c1, c2⟩ := rng_mem.mp hv
          exact (hmem v).mpr (ok.all v c1 c2)
        rwa [rng_len] at this
      rw [decide_eq_false (by rw [List.length_map]; omega)]
      exact iteF (q _ (s2.trans s3))
def spInitTree (cT : Addr) : Sp := fun vs H Q _ => ∃ (x dx : Addr) (v : V) (ties : List (Int × Int)) (n : Nat), vs = [.ref x, v] ∧ H x = some (.ins cT dx []) ∧ rTup rPI H v ties ∧ TiesOk ties n ∧
  ∀ H', (∀ b o, b ≠ x → H b = some o → H' b = some o) → rTree cT H' (.ref x) ties → Q .non H'
theorem ok_Tree (T : Tx K mg cT cS) {f : Addr} {fd : FuncData} (d : DC K mg "Tree" "Tree.__init__" s_Tree ["self", "ties"] ["ties", "posts"] cT f fd) : FnOk P w K mg base CX0 5 f fd ["self", "ties"] (spInitTree cT) := by
  obtain ⟨f1, fd1, d1⟩ := T.d_check_ties
  have G1 : FnOk P w K mg base CX0 4 f1 fd1 ["ties"] spCheckTies := ok_check_ties T d1
  have nP : NoAttr K cT "posts" := d.na _ (by simp)
  have nT : NoAttr K cT "ties" := d.na _ (by simp)
  refine d.F.ok sc_Tree (fun vs H Q E h => ?_) (fun cdv A outer s H vs Q E hr h => ?_)
  · obtain ⟨x, dx, v, ties, n, rfl, _⟩ := h
    rfl
  · obtain ⟨x, dx, v, ties, n, rfl, hx, hties, ok, q⟩ := h
    refine ⟨_, pss_cons (ps_expr (pe_call G1 hr rfl d1.m d1.F.kp d1.b .nil pass0 (pa_cons (pv 1) pa_nil)))
      (pss_cons (ps_fld (pv 0) (pv 1) rfl) (pss_one (ps_fld (pv 0) (pe_op op_add (pe_callB call_len_seq (by rfl) T.b_len PySem.boot_len (pa_cons (pv 1) pa_nil)) pe_int) rfl))), ?_⟩
    refine ⟨_, rfl, v, ties, n, rfl, hties, ok, fun H2 s2 => ?_⟩
    obtain ⟨t, xs, rfl, ht, hp⟩ := mono_tup mono_pi _ _ _ _ s2.keep hties
    have hx2 := s2.keep.ins hx
    refine ⟨_, rfl, _, rfl, x, cT, dx, [], rfl, hx2, d.cl, nT, by show 0 < 1000; decide, ?_⟩
    have htx : t ≠ x := ne_of ht hx2 (fun z => nomatch z)
    have ht3 : (upd H2 x (.ins cT dx (putF "ties" (.ref t) []))) t = some (.tup xs) := by rw [upd_ne htx]; exact ht
    refine ⟨_, rfl, _, _, rfl, .inr (.of ht3), _, _, rfl, rfl, _, rfl, x, cT, dx, _, rfl, upd_same, d.cl, nP, by show 1 < 1000; decide, ?_⟩
    rw [upd_upd]
    refine q _ (fun b o hb e => by rw [upd_ne hb]; exact s2 b o e) ⟨x, dx, t, xs, rfl, ?_, by rw [upd_ne htx]; exact ht, ?_⟩
    · rw [upd_same, paired_len hp]
      rfl
    · have k : Keep H2 (upd H2 x (.ins cT dx (tfs t ((ties.length : Int) + 1)))) → True := fun _ => trivial
      refine Paired.mapP hp fun a b ⟨t2, e, h2⟩ => ⟨t2, e, ?_⟩
      rw [upd_ne (ne_of h2 hx2 (fun z => nomatch z))]
      exact h2
end
end S4

namespace S4
open PySem L2 TT MM
/-! ### sheets -/
structure SD where
  p : Int
  ties : List (Int × Int)
  holds : List Int
  wants : List (List (List Int))
abbrev rWants : Rp (List (List (List Int))) := rTup (rTup rRow)
structure CountsOk (holds : List Int) (n : Nat) : Prop where
  len : holds.length = n
  b : ∀ h ∈ holds, 0 ≤ h ∧ h < 9
  s : holds.sum ≤ 60
structure WantsOk (p : Int) (wd : Int) (n : Nat) (wants : List (List (List Int))) : Prop where
  len : wants.length = n
  b : ∀ rows ∈ wants, rows.length ≤ 8 ∧ ∀ r ∈ rows, isRow r p wd
  s : (wants.map List.length).sum ≤ 60
structure SheetOk (S : SD) (n : Nat) : Prop where
  ties : TiesOk S.ties n
  clock : NoDiv S.p
  holds : CountsOk S.holds n
  wants : WantsOk S.p S.holds.sum n S.wants
theorem sum_lens : ∀ l : List (List (List Int)), (l.map fun r => ((r.length : Nat) : Int)).sum = (((l.map List.length).sum : Nat) : Int)
  | [] => rfl
  | a :: l => by
    rw [List.map_cons, List.map_cons, List.sum_cons, List.sum_cons, sum_lens l]
    omega
theorem mono_wants : Mono rWants := mono_tup (mono_tup mono_row)
section
variable {P : Program} {w : World} {K : PySem.W.Frag} {mg : Str → Option Value} {base : Heap} {cT cS : Addr}
def spAreCounts (cT : Addr) : Sp := fun vs H Q _ => ∃ (u v : V) (ties : List (Int × Int)) (holds : List Int) (n : Nat), vs = [u, v] ∧ rTree cT H u ties ∧ ties.length + 1 = n ∧ n ≤ 24 ∧ rRow H v holds ∧ CountsOk holds n ∧ ∀ H', Same H H' → Q (.bl true) H'
theorem ok_are_counts (T : Tx K mg cT cS) {f : Addr} {fd : FuncData} (d : D K mg "are_counts" s_are_counts ["tree", "thing"] f fd) : FnOk P w K mg base CX0 3 f fd ["tree", "thing"] (spAreCounts cT) := by
  obtain ⟨f1, fd1, d1⟩ := T.d_is_below
  have G1 : FnOk P w K mg base CX0 2 f1 fd1 ["thing", "end"] spIsBelow := ok_is_below T d1
  obtain ⟨fT, fdT, kT⟩ := T.k_Tree
  have nP : NoAttr K cT "posts" := kT.na _ (by simp)
  obtain ⟨tk1, hM1⟩ := T.c_MOST_AT_POST
  obtain ⟨tk2, hM2⟩ := T.c_MOST_IN_ALL
  refine d.F.ok sc_are_counts (fun vs H Q E h => ?_) (fun cdv A outer s H vs Q E hr h => ?_)
  · obtain ⟨u, v, ties, holds, n, rfl, _⟩ := h
    rfl
  · obtain ⟨u, v, ties, holds, n, rfl, ⟨tr, dx, t, xs, rfl, hI, ht, hp⟩, hn, hn24, ⟨th, rfl, hh⟩, ok, q⟩ := h
    refine ⟨_, pss_cons (ps_if (PW.pt (pw_or (pt_not (pt_val (pe_callB call_isi (by rfl) T.b_isinstance (by decide +kernel) (pa_cons (pv 1) (pa_cons (ty_tuple T.b_tuple) pa_nil)))))
        (pw_or1 (pt_cmpR op_ne (pe_callB call_len_seq (by rfl) T.b_len PySem.boot_len (pa_cons (pv 1) pa_nil)) (pe_fld (pv 0) rfl) (nomark _))))) (pss_one (ps_ret pe_bl)) pss_nil)
      (pss_cons (ps_if (pt_not (pt_val (pe_callB (cr_all rfl) (by rfl) T.b_all (by decide +kernel) (pa_cons
        (pe_lc (own := [("count", 2)]) (g := gName 2) (tt := tYes) rfl sc_are_counts.nd (pi_tup (pv 1)) (blkOk_by (N := N_are_counts) (sc := defScope s_are_counts) (by decide +kernel)) (fun _ _ _ _ _ => pg_name (i := 2) sc_are_counts.nd rfl (Or.inl rfl)) (fun _ _ _ _ _ => pts_nil)
          (fun _ _ _ _ _ => pe_call G1 hr rfl d1.m d1.F.kp d1.b .nil pass0 (pa_cons (pv 2) (pa_cons (pe_op op_add (pe_glob (v := .int 8) rfl hM1 ⟨_, rfl⟩) pe_int) pa_nil)))) pa_nil)))) (pss_one (ps_ret pe_bl)) pss_nil)
      (pss_one (ps_ret (pe_cmpR op_le (pe_callB (cr_sumT rfl) (by rfl) T.b_sum (by decide +kernel) (pa_cons (pv 1) pa_nil)) (pe_glob (v := .int 60) rfl hM2 ⟨_, rfl⟩) (nomark _))))), ?_⟩
    have hl := ok.len
    refine ⟨_, rfl, _, _, _, _, _, rfl, .ty _, .base (.tup hh), kit_tt, _, rfl, iteF ?_⟩
    refine ⟨_, rfl, _, _, rfl, .inr (.of hh), _, rfl, tr, cT, dx, _, _, rfl, hI, kT.cl, nP, tfs_posts _ _, rfl, _, rfl, ?_⟩
    have e1 : V.int (((holds.map V.int).length : Nat) : Int) = V.int ((ties.length : Int) + 1) := by rw [List.length_map]; congr 1; omega
    rw [e1, decide_eq_true rfl]
    refine iteF ⟨_, rfl, th, rfl, ⟨_, .of hh⟩, fun D hD => ?_⟩
    refine lc_fm (walk_tup (xs := holds.map V.int)) rBl (fun _ => some true) hD (fun H' s' => .of (s'.keep.tup hh)) ?_ ?_
    · rintro i x H2 H3 hi pv ⟨rfl, hx⟩
      obtain ⟨k, hk, rfl⟩ := at_int hx
      rw [List.length_map] at hi
      obtain ⟨g1, g2⟩ := ok.b k (List.mem_of_getElem? hk)
      refine ⟨rfl, _, rfl, _, _, rfl, rfl, k, _, rfl, ?_⟩
      rw [decide_eq_true ⟨g1, by omega⟩]
      exact fm_keep mono_bl pv hD (by omega) (Same.refl _) rfl rfl
    · intro H2 ys s2 hD2 hp2
      have := paired_bl hp2
      subst this
      refine ⟨_, _, rfl, .of hD2, _, rfl, ?_⟩
      rw [all_true_fm rfl]
      refine iteF ⟨_, rfl, th, holds, rfl, .of (s2.keep.tup hh), _, _, rfl, rfl, ?_⟩
      show Q (V.bl (decide (holds.sum ≤ 60))) H2
      rw [decide_eq_true ok.s]
      exact q _ s2
def spCheckWants (cT : Addr) : Sp := fun vs H Q _ => ∃ (u v : V) (p wd : Int) (ties : List (Int × Int)) (wants : List (List (List Int))) (n : Nat), vs = [.int p, u, .int wd, v] ∧ rTree cT H u ties ∧ ties.length + 1 = n ∧ n ≤ 24 ∧ rWants H v wants ∧
  WantsOk p wd n wants ∧ wd ≤ 60 ∧ ∀ H', Same H H' → Q .non H'
theorem row_small {l : List Int} {p wd : Int} (h : isRow l p wd) (hw : wd ≤ 60) : l.length ≤ 100000 := by
  have := h.1
  omega
theorem ok_check_wants (T : Tx K mg cT cS) {f : Addr} {fd : FuncData} (d : D K mg "check_wants" s_check_wants ["p", "tree", "numbers", "wants"] f fd) : FnOk P w K mg base CX0 4 f fd ["p", "tree", "numbers", "wants"] (spCheckWants cT) := by
  obtain ⟨f1, fd1, d1⟩ := T.d_is_row
  have G1 : FnOk P w K mg base CX0 3 f1 fd1 ["thing", "p", "wide"] spIsRow := ok_is_row T d1
  obtain ⟨fT, fdT, kT⟩ := T.k_Tree
  have nP : NoAttr K cT "posts" := kT.na _ (by simp)
  obtain ⟨tk1, hM1⟩ := T.c_MOST_AT_POST
  obtain ⟨tk2, hM2⟩ := T.c_MOST_IN_ALL
  refine d.F.ok sc_check_wants (fun vs H Q E h => ?_) (fun cdv A outer s H vs Q E hr h => ?_)
  · obtain ⟨u, v, p, wd, ties, wants, n, rfl, _⟩ := h
    rfl
  · obtain ⟨u, v, p, wd, ties, wants, n, rfl, ⟨tr, dx, t, xs, rfl, hI, ht, hp⟩, hn, hn24, ⟨tw, ws, rfl, hw, hwp⟩, ok, hwd, q⟩ := h
    have hlw := paired_len hwp
    have hl := ok.len
    refine ⟨_, pss_cons (ps_if (PW.pt (pw_or (pt_not (pt_val (pe_callB call_isi (by rfl) T.b_isinstance (by decide +kernel) (pa_cons (pv 3) (pa_cons (ty_tuple T.b_tuple) pa_nil)))))
        (pw_or1 (pt_cmpR op_ne (pe_callB call_len_seq (by rfl) T.b_len PySem.boot_len (pa_cons (pv 3) pa_nil)) (pe_fld (pv 1) rfl) (nomark _))))) pss_never pss_nil)
      (pss_cons (ps_if (pt_not (pt_val (pe_callB (cr_all rfl) (by rfl) T.b_all (by decide +kernel) (pa_cons
        (pe_lc (own := [("rows", 4)]) (g := gName 4) (tt := tYes) rfl sc_check_wants.nd (pi_tup (pv 3)) (blkOk_by (N := N_check_wants) (sc := defScope s_check_wants) (by decide +kernel)) (fun _ _ _ _ _ => pg_name (i := 4) sc_check_wants.nd rfl (Or.inl rfl)) (fun _ _ _ _ _ => pts_nil)
          (fun _ _ _ _ _ => pe_and (pe_callB (isiS (K := K) rfl) (by rfl) T.b_isinstance (by decide +kernel) (pa_cons (pv 4) (pa_cons (ty_tuple T.b_tuple) pa_nil)))
            (pe_one (pe_cmpR op_le (pe_callB (lenS (K := K) rfl) (by rfl) T.b_len PySem.boot_len (pa_cons (pv 4) pa_nil)) (pe_glob (v := .int 8) rfl hM1 ⟨_, rfl⟩) (nomark _))))) pa_nil)))) pss_never pss_nil)
      (pss_cons (ps_for PassesOwn.never rfl (pi_enumT (by rfl) T.b_enumerate (pa_cons (pv 3) pa_nil)) (pg_tup rfl (pgs_cons (pg_name (i := 5) sc_check_wants.nd rfl (.inl rfl)) (pgs_cons (pg_name (i := 4) sc_check_wants.nd rfl (.inl rfl)) pgs_nil)))
        (pss_one (ps_for PassesOwn.never rfl (pi_enumT (by rfl) T.b_enumerate (pa_cons (pv 4) pa_nil)) (pg_tup rfl (pgs_cons (pg_name (i := 6) sc_check_wants.nd rfl (.inl rfl)) (pgs_cons (pg_name (i := 7) sc_check_wants.nd rfl (.inl rfl)) pgs_nil)))
          (pss_one (ps_if (pt_not (pt_val (pe_call G1 hr rfl d1.m d1.F.kp d1.b .nil pass0 (pa_cons (pv 7) (pa_cons (pv 0) (pa_cons (pv 2) pa_nil)))))) pss_never pss_nil)))))
      (pss_one (ps_if (pt_cmpR op_gt (pe_callB (cr_sum rfl) (by rfl) T.b_sum (by decide +kernel) (pa_cons
        (pe_lc (own := [("rows", 4)]) (g := gName 4) (tt := tYes) rfl sc_check_wants.nd (pi_tup (pv 3)) (blkOk_by (N := N_check_wants) (sc := defScope s_check_wants) (by decide +kernel)) (fun _ _ _ _ _ => pg_name (i := 4) sc_check_wants.nd rfl (Or.inl rfl)) (fun _ _ _ _ _ => pts_nil)
          (fun _ _ _ _ _ => pe_callB (lenS (K := K) rfl) (by rfl) T.b_len PySem.boot_len (pa_cons (pv 4) pa_nil))) pa_nil)) (pe_glob (v := .int 60) rfl hM2 ⟨_, rfl⟩) (nomark _)) pss_never pss_nil)))), ?_⟩
    refine ⟨_, rfl, _, _, _, _, _, rfl, .ty _, .base (.tup hw), kit_tt, _, rfl, iteF ?_⟩
    refine ⟨_, rfl, _, _, rfl, .inr (.of hw), _, rfl, tr, cT, dx, _, _, rfl, hI, kT.cl, nP, tfs_posts _ _, rfl, _, rfl, ?_⟩
    have e1 : V.int ((ws.length : Nat) : Int) = V.int ((ties.length : Int) + 1) := by congr 1; omega
    rw [e1, decide_eq_true rfl]
    refine iteF ⟨_, rfl, tw, rfl, ⟨_, .of hw⟩, fun D hD => ?_⟩
    refine lc_fm (walk_tup (xs := ws)) rBl (fun _ => some true) hD (fun H' s' => .of (s'.keep.tup hw)) ?_ ?_
    · rintro i x H2 H3 hi pv ⟨rfl, hx⟩
      obtain ⟨rows, hrows, t2, rs, rfl, ht2, hrp⟩ := paired_get (paired_mono (mono_tup mono_row) pv.1.keep hwp) hx
      obtain ⟨b1, b2⟩ := ok.b rows (List.mem_of_getElem? hrows)
      have hrl := paired_len hrp
      refine ⟨rfl, _, rfl, _, _, _, _, _, rfl, .ty _, .base (.tup ht2), kit_tt, _, rfl, iteT ⟨_, rfl, _, _, rfl, .inr (.of ht2), _, _, rfl, rfl, ?_⟩⟩
      dsimp only
      rw [decide_eq_true (by omega)]
      exact fm_keep mono_bl pv hD (by omega) (Same.refl _) rfl rfl
    · intro H2 ys s2 hD2 hp2
      have := paired_bl hp2
      subst this
      refine ⟨_, _, rfl, .of hD2, _, rfl, ?_⟩
      rw [all_true_fm rfl]
      refine iteF ⟨_, rfl, tw, ws, rfl, .of (s2.keep.tup hw), ?_⟩
      refine for_it (walk_enumT (xs := ws)) (fun i σ H' => Same H H' ∧ ∃ a b c e, σ = [some (.int p), some (.ref tr), some (.int wd), some (.ref tw), a, b, c, e]) ⟨s2, none, none, none, none, rfl⟩ (fun i σ H' _ h => .of (h.1.keep.tup hw)) ?_ ?_
      · rintro i x σ H3 H4 hi ⟨s3, a, b, c, e, rfl⟩ ⟨tp, x1, x2, rfl, np, rfl, e2, e3⟩
        have s4 := same_new (o := .tup [x1, x2]) np
        cases (Option.some.inj e2)
        obtain ⟨rows, hrows, t2, rs, rfl, ht2, hrp⟩ := paired_get (paired_mono (mono_tup mono_row) (s3.trans s4).keep hwp) e3
        obtain ⟨b1, b2⟩ := ok.b rows (List.mem_of_getElem? hrows)
        refine ⟨tp, _, rfl, .of upd_same, rfl, _, _, rfl, _, _, rfl, rfl, ?_⟩
        refine ⟨_, rfl, t2, rs, rfl, .of ht2, ?_⟩
        refine for_it (walk_enumT (xs := rs)) (fun j σ H' => Same (upd H3 tp (.tup [V.int (i : Nat), V.ref t2])) H' ∧ ∃ c e, σ = [some (.int p), some (.ref tr), some (.int wd), some (.ref tw), some (.ref t2), some (.int (i : Nat)), c, e]) ⟨.refl _, _, _, rfl⟩ (fun i σ H' _ h => .of (h.1.keep.tup ht2)) ?_ ?_
        · rintro j y σ H5 H6 hj ⟨s5, c, e, rfl⟩ ⟨tq, y1, y2, rfl, nq, rfl, e4, e5⟩
          have s6 := same_new (o := .tup [y1, y2]) nq
          cases (Option.some.inj e4)
          obtain ⟨r, hr2, hrow⟩ := paired_get (paired_mono mono_row (s5.trans s6).keep hrp) e5
          have hrr := b2 r (List.mem_of_getElem? hr2)
          refine ⟨tq, _, rfl, .of upd_same, rfl, _, _, rfl, _, _, rfl, rfl, ?_⟩
          refine ⟨_, rfl, _, rfl, _, rfl, y2, r, p, wd, rfl, hrow, row_small hrr hwd, hrr, fun H7 s7 => ⟨_, rfl, iteF ⟨(s5.trans s6).trans s7, _, _, rfl⟩⟩⟩
        · rintro σ H5 ⟨s5, c, e, rfl⟩
          exact ⟨(s3.trans s4).trans s5, _, _, _, _, rfl⟩
      · rintro σ H3 ⟨s3, a, b, c, e, rfl⟩
        refine ⟨_, rfl, tw, rfl, ⟨_, .of (s3.keep.tup hw)⟩, fun D3 hD3 => ?_⟩
        refine lc_fm (walk_tup (xs := ws)) rInt (fun i => wants[i]?.bind fun r => some ((r.length : Nat) : Int)) hD3 (fun H' s' => .of ((s3.trans s').keep.tup hw)) ?_ ?_
        · rintro i x H4 H5 hi pv ⟨rfl, hx⟩
          obtain ⟨rows, hrows, t2, rs, rfl, ht2, hrp⟩ := paired_get (paired_mono (mono_tup mono_row) (s3.trans pv.1).keep hwp) hx
          refine ⟨rfl, _, rfl, _, _, rfl, .inr (.of ht2), ?_⟩
          exact fm_keep mono_int pv hD3 (by omega) (Same.refl _) (by rw [hrows]; rfl) (by rw [paired_len hrp]; rfl)
        · intro H4 zs s4 hD4 hp4
          rw [hlw, fm_some] at hp4
          have := paired_int hp4
          subst this
          refine ⟨_, _, rfl, .of hD4, _, _, rfl, rfl, _, rfl, ?_⟩
          rw [sum_lens, decide_eq_false (by have := ok.s; omega)]
          exact iteF (q _ (s3.trans s4))
end
end S4

namespace S4
open PySem L2 TT MM
def sfs (p : Int) (tr th tw : Addr) (m : Int) : List (Str × V) := putF "numbers" (.int m) (putF "wants" (.ref tw) (putF "holds" (.ref th) (putF "tree" (.ref tr) (putF "p" (.int p) []))))
section
variable {p m : Int} {tr th tw : Addr}
theorem sfs_p : (sfs p tr th tw m).lookup ("p" : Str) = some (.int p) := by
  unfold sfs
  rw [lookup_putF, if_neg (by decide +kernel), lookup_putF, if_neg (by decide +kernel), lookup_putF, if_neg (by decide +kernel), lookup_putF, if_neg (by decide +kernel), lookup_putF, if_pos rfl]
theorem sfs_tree : (sfs p tr th tw m).lookup ("tree" : Str) = some (.ref tr) := by
  unfold sfs
  rw [lookup_putF, if_neg (by decide +kernel), lookup_putF, if_neg (by decide +kernel), lookup_putF, if_neg (by decide +kernel), lookup_putF, if_pos rfl]
theorem sfs_holds : (sfs p tr th tw m).lookup ("holds" : Str) = some (.ref th) := by
  unfold sfs
  rw [lookup_putF, if_neg (by decide +kernel), lookup_putF, if_neg (by decide +kernel), lookup_putF, if_pos rfl]
theorem sfs_wants : (sfs p tr th tw m).lookup ("wants" : Str) = some (.ref tw) := by
  unfold sfs
  rw [lookup_putF, if_neg (by decide +kernel), lookup_putF, if_pos rfl]
theorem sfs_numbers : (sfs p tr th tw m).lookup ("numbers" : Str) = some (.int m) := by
  unfold sfs
  rw [lookup_putF, if_pos rfl]
end
/-- a sheet in the heap -/
def rSheet (cT cS : Addr) : Rp SD := fun H v S => ∃ a dx tr th tw, v = .ref a ∧ H a = some (.ins cS dx (sfs S.p tr th tw S.holds.sum)) ∧ rTree cT H (.ref tr) S.ties ∧ rRow H (.ref th) S.holds ∧ rWants H (.ref tw) S.wants
theorem mono_sheet (cT cS : Addr) : Mono (rSheet cT cS) := fun _ _ _ _ k ⟨a, dx, tr, th, tw, e, h1, h2, h3, h4⟩ => ⟨a, dx, tr, th, tw, e, k.ins h1, mono_tree cT _ _ _ _ k h2, mono_row _ _ _ _ k h3, mono_wants _ _ _ _ k h4⟩
/-- carried over a change of one instance -/
theorem keep_at {H H' : Hp} {x : Addr} {C dx : Addr} {fs : List (Str × V)} (hx : H x = some (.ins C dx fs)) (k : ∀ b o, b ≠ x → H b = some o → H' b = some o) {t : Addr} {xs : List V} (h : H t = some (.tup xs)) : H' t = some (.tup xs) := k t _ (ne_of h hx (fun z => nomatch z)) h
section
variable {H H' : Hp} {x : Addr} (kt : ∀ t xs, H t = some (.tup xs) → H' t = some (.tup xs))
include kt
theorem row_kt {v : V} {l : List Int} (h : rRow H v l) : rRow H' v l := let ⟨t, e, h1⟩ := h; ⟨t, e, kt _ _ h1⟩
theorem pi_kt {v : V} {l : Int × Int} (h : rPI H v l) : rPI H' v l := let ⟨t, e, h1⟩ := h; ⟨t, e, kt _ _ h1⟩
theorem rows_kt {v : V} {l : List (List Int)} (h : rTup rRow H v l) : rTup rRow H' v l := let ⟨t, xs, e, h1, h2⟩ := h; ⟨t, xs, e, kt _ _ h1, Paired.mapP h2 fun _ _ q => row_kt kt q⟩
theorem wants_kt {v : V} {l : List (List (List Int))} (h : rWants H v l) : rWants H' v l := let ⟨t, xs, e, h1, h2⟩ := h; ⟨t, xs, e, kt _ _ h1, Paired.mapP h2 fun _ _ q => rows_kt kt q⟩
theorem tree_kt {cT : Addr} {v : V} {l : List (Int × Int)} (h : rTree cT H v l) (ki : ∀ a dx fs, v = .ref a → H a = some (.ins cT dx fs) → H' a = some (.ins cT dx fs)) : rTree cT H' v l :=
  let ⟨a, dx, t, xs, e, h1, h2, h3⟩ := h
  ⟨a, dx, t, xs, e, ki _ _ _ e h1, kt _ _ h2, Paired.mapP h3 fun _ _ q => pi_kt kt q⟩
end
section
variable {P : Program} {w : World} {K : PySem.W.Frag} {mg : Str → Option Value} {base : Heap} {cT cS : Addr}
def spInitSheet (cT cS : Addr) : Sp := fun vs H Q _ => ∃ (x dx : Addr) (u v1 v2 : V) (S : SD) (n : Nat), vs = [.ref x, .int S.p, u, v1, v2] ∧ H x = some (.ins cS dx []) ∧ rTree cT H u S.ties ∧ u ≠ .ref x ∧ rRow H v1 S.holds ∧ rWants H v2 S.wants ∧ SheetOk S n ∧
  ∀ H', (∀ b o, b ≠ x → H b = some o → H' b = some o) → rSheet cT cS H' (.ref x) S → Q .non H'
theorem ok_Sheet (T : Tx K mg cT cS) {f : Addr} {fd : FuncData} (d : DC K mg "Sheet" "Sheet.__init__" s_Sheet ["self", "p", "tree", "holds", "wants"] ["p", "tree", "holds", "wants", "numbers"] cS f fd) :
    FnOk P w K mg base CX0 5 f fd ["self", "p", "tree", "holds", "wants"] (spInitSheet cT cS) := by
  obtain ⟨f1, fd1, d1⟩ := T.d_is_clock
  have G1 : FnOk P w K mg base CX0 2 f1 fd1 ["thing"] spIsClock := ok_is_clock T d1
  obtain ⟨f2, fd2, d2⟩ := T.d_are_counts
  have G2 : FnOk P w K mg base CX0 3 f2 fd2 ["tree", "thing"] (spAreCounts cT) := ok_are_counts T d2
  obtain ⟨f3, fd3, d3⟩ := T.d_check_wants
  have G3 : FnOk P w K mg base CX0 4 f3 fd3 ["p", "tree", "numbers", "wants"] (spCheckWants cT) := ok_check_wants T d3
  obtain ⟨fT, fdT, kT⟩ := T.k_Tree
  have n1 : NoAttr K cS "p" := d.na _ (by simp)
  have n2 : NoAttr K cS "tree" := d.na _ (by simp)
  have n3 : NoAttr K cS "holds" := d.na _ (by simp)
  have n4 : NoAttr K cS "wants" := d.na _ (by simp)
  have n5 : NoAttr K cS "numbers" := d.na _ (by simp)
  refine d.F.ok sc_Sheet (fun vs H Q E h => ?_) (fun cdv A outer s H vs Q E hr h => ?_)
  · obtain ⟨x, dx, u, v1, v2, S, n, rfl, _⟩ := h
    rfl
  · obtain ⟨x, dx, u, v1, v2, S, n, rfl, hx, hu, hne, h1, h2, ok, q⟩ := h
    refine ⟨_, pss_cons (ps_if (pt_not (pt_val (pe_call G1 (hr.mono (by decide)) rfl d1.m d1.F.kp d1.b .nil pass0 (pa_cons (pv 1) pa_nil)))) pss_never pss_nil)
      (pss_cons (ps_if (pt_not (pt_val (pe_callB (C8.call_isC T.i_Tree) (by rfl) T.b_isinstance (by decide +kernel) (pa_cons (pv 2) (pa_cons (pe_glob (v := .ref cT) rfl kT.m rfl) pa_nil))))) pss_never pss_nil)
      (pss_cons (ps_if (pt_not (pt_val (pe_call G2 (hr.mono (by decide)) rfl d2.m d2.F.kp d2.b .nil pass0 (pa_cons (pv 2) (pa_cons (pv 3) pa_nil))))) pss_never pss_nil)
      (pss_cons (ps_expr (pe_call G3 hr rfl d3.m d3.F.kp d3.b .nil pass0 (pa_cons (pv 1) (pa_cons (pv 2) (pa_cons (pe_callB (cr_sumT rfl) (by rfl) T.b_sum (by decide +kernel) (pa_cons (pv 3) pa_nil)) (pa_cons (pv 4) pa_nil))))))
      (pss_cons (ps_fld (pv 0) (pv 1) rfl) (pss_cons (ps_fld (pv 0) (pv 2) rfl) (pss_cons (ps_fld (pv 0) (pv 3) rfl) (pss_cons (ps_fld (pv 0) (pv 4) rfl)
      (pss_one (ps_fld (pv 0) (pe_callB (cr_sumT rfl) (by rfl) T.b_sum (by decide +kernel) (pa_cons (pv 3) pa_nil)) rfl))))))))), ?_⟩
    refine ⟨_, rfl, S.p, rfl, ok.clock, _, rfl, iteF ?_⟩
    obtain ⟨tr, dxt, tt, xst, rfl, hI, htt, hpt⟩ := id hu
    refine ⟨_, rfl, tr, dxt, _, rfl, hI, _, rfl, iteF ?_⟩
    have hn := ok.ties.len
    refine ⟨_, rfl, _, rfl, _, _, S.ties, S.holds, n, rfl, hu, hn, ok.ties.n24, h1, ok.holds, fun H2 s2 => ⟨_, rfl, iteF ?_⟩⟩
    obtain ⟨th, rfl, hth⟩ := mono_row _ _ _ _ s2.keep h1
    refine ⟨_, rfl, _, rfl, _, rfl, th, S.holds, rfl, .of hth, _, rfl, _, _, S.p, _, S.ties, S.wants, n, rfl, mono_tree cT _ _ _ _ s2.keep hu, hn, ok.ties.n24, mono_wants _ _ _ _ s2.keep h2, ok.wants, ok.holds.s, fun H3 s3 => ?_⟩
    have s23 := s2.trans s3
    obtain ⟨tw, ws, rfl, htw, hwp⟩ := mono_wants _ _ _ _ s23.keep h2
    have hx3 := s23.keep.ins hx
    refine ⟨_, rfl, _, rfl, x, cS, dx, [], rfl, hx3, d.cl, n1, by show 0 < 1000; decide, ?_⟩
    refine ⟨_, rfl, _, rfl, x, cS, dx, _, rfl, upd_same, d.cl, n2, by show 1 < 1000; decide, ?_⟩
    rw [upd_upd]
    refine ⟨_, rfl, _, rfl, x, cS, dx, _, rfl, upd_same, d.cl, n3, by show 2 < 1000; decide, ?_⟩
    rw [upd_upd]
    refine ⟨_, rfl, _, rfl, x, cS, dx, _, rfl, upd_same, d.cl, n4, by show 3 < 1000; decide, ?_⟩
    rw [upd_upd]
    have hth3 := s3.keep.tup hth
    have hthx : th ≠ x := ne_of hth3 hx3 (fun z => nomatch z)
    refine ⟨_, rfl, th, S.holds, rfl, .of (by rw [upd_ne hthx]; exact hth3), _, rfl, x, cS, dx, _, rfl, upd_same, d.cl, n5, by show 4 < 1000; decide, ?_⟩
    rw [upd_upd]
    have kt : ∀ t xs, H3 t = some (.tup xs) → (upd H3 x (.ins cS dx (sfs S.p tr th tw S.holds.sum))) t = some (.tup xs) := fun t xs e => by
      rw [upd_ne (ne_of e hx3 (fun z => nomatch z))]
      exact e
    refine q _ (fun b o hb e => by rw [upd_ne hb]; exact s23 b o e) ⟨x, dx, tr, th, tw, rfl, upd_same, ?_, row_kt kt ⟨th, rfl, hth3⟩, wants_kt kt ⟨tw, ws, rfl, htw, hwp⟩⟩
    refine tree_kt kt (mono_tree cT _ _ _ _ s23.keep hu) fun a dx' fs e e2 => ?_
    have hax : a ≠ x := fun z => hne (by rw [e, z])
    exact (upd_ne hax).trans e2
end
end S4

namespace S4
open PySem L2 TT MM
/-! ### numbers held, wants beyond -/
def heldL (holds : List Int) (post : Int) : List Int := (List.range (holds.getD post.toNat 0).toNat).map fun (i : Nat) => (holds.take post.toNat).sum + (i : Int)
def numsL (holds : List Int) (posts : List Int) : List Int := posts.flatMap (heldL holds)
def farL (wants : List (List (List Int))) (posts : List Int) : List (Int × Int) := posts.flatMap fun post => (List.range (wants.getD post.toNat []).length).map fun (k : Nat) => (post, (k : Int))
def cutL (r l : List Int) : List Int := l.map fun i => r.getD i.toNat 0
def blockL (S : SD) (near far : List Int) : List (List Int) := (farL S.wants far).map fun z => cutL ((S.wants.getD z.1.toNat []).getD z.2.toNat []) (numsL S.holds near)
section
variable {P : Program} {w : World} {K : PySem.W.Frag} {mg : Str → Option Value} {base : Heap} {cT cS : Addr}
theorem take_sum_le {holds : List Int} {n : Nat} (ok : CountsOk holds n) (k : Nat) : 0 ≤ (holds.take k).sum ∧ (holds.take k).sum + (holds.getD k 0) ≤ 60 ∧ 0 ≤ holds.getD k 0 := by
  have hs : ∀ l : List Int, (∀ x ∈ l, 0 ≤ x) → 0 ≤ l.sum := by
    intro l
    induction l with
    | nil => intro _; simp
    | cons a l ih => intro h; rw [List.sum_cons]; have := ih fun x hx => h x (by simp [hx]); have := h a (by simp); omega
  have h1 : 0 ≤ (holds.take k).sum := hs _ fun x hx => (ok.b x (List.mem_of_mem_take hx)).1
  have h2 : 0 ≤ (holds.drop (k + 1)).sum := hs _ fun x hx => (ok.b x (List.mem_of_mem_drop hx)).1
  have e : holds.sum = (holds.take k).sum + (holds.drop k).sum := by rw [← List.sum_append, List.take_append_drop]
  by_cases hk : k < holds.length
  · have e2 : holds.drop k = holds[k] :: holds.drop (k + 1) := List.drop_eq_getElem_cons hk
    have e3 : holds.getD k 0 = holds[k] := by rw [List.getD_eq_getElem?_getD, List.getElem?_eq_getElem hk]; rfl
    rw [e2, List.sum_cons] at e
    have := ok.s
    have := (ok.b _ (List.getElem_mem hk)).1
    rw [e3]
    omega
  · have e3 : holds.getD k 0 = 0 := by rw [List.getD_eq_getElem?_getD, List.getElem?_eq_none (by omega)]; rfl
    have := ok.s
    rw [List.take_of_length_le (by omega)]
    rw [List.take_of_length_le (by omega)] at h1
    omega
theorem getD_at {α : Type} {l : List α} {k : Nat} {d x : α} (h : l[k]? = some x) : l.getD k d = x := by rw [List.getD_eq_getElem?_getD, h]; rfl
def spOwn : Sp := fun vs H Q _ => ∃ (v : V) (l : List Int) (post : Int) (n : Nat), vs = [v, .int post] ∧ rRow H v l ∧ n ≤ 24 ∧ CountsOk l n ∧ 0 ≤ post ∧ post < (n : Int) ∧
  ∀ H' v', Same H H' → rRow H' v' (heldL l post) → Q v' H'
theorem ok_own (T : Tx K mg cT cS) {f : Addr} {fd : FuncData} (d : D K mg "own_places" s_own_places ["counts", "post"] f fd) : FnOk P w K mg base CX0 1 f fd ["counts", "post"] spOwn := by
  refine d.F.ok sc_own_places (fun vs H Q E h => ?_) (fun cdv A outer s H vs Q E hr h => ?_)
  · obtain ⟨v, l, post, n, rfl, _⟩ := h
    rfl
  · obtain ⟨v, l, post, n, rfl, ⟨th, rfl, hth⟩, hn, oh, h0, h1, q⟩ := h
    obtain ⟨k, rfl⟩ : ∃ k : Nat, post = (k : Int) := ⟨post.toNat, by omega⟩
    have hk : k < l.length := by have := oh.len; omega
    refine ⟨_, pss_cons (ps_set (i := 2) sc_own_places.nd rfl (.inl rfl) (pe_callB (cr_sumT rfl) (by rfl) T.b_sum (by decide +kernel) (pa_cons (pe_slice sl_tupA (pv 0) po_none (po_some (pv 1))) pa_nil)))
      (pss_one (ps_ret (pe_tupRg rfl (by rfl) T.b_tuple (prg_2 (by rfl) T.b_range (pv 2) (pe_op op_add (pv 2) (pe_ix ix_tup (pv 0) (pv 1) (fun _ _ => rfl))))))), ?_⟩
    refine ⟨_, rfl, _, rfl, (k : Int), rfl, slice_upto hth fun H2 p s2 hp => ⟨p, l.take k, rfl, .of (by rw [List.map_take]; exact hp), ?_⟩⟩
    have hx : l[k]? = some l[k] := List.getElem?_eq_getElem hk
    have e3 : l.getD k 0 = l[k] := getD_at hx
    obtain ⟨b1, b2, b3⟩ := take_sum_le oh k
    rw [e3] at b2 b3
    refine ⟨_, rfl, _, rfl, _, rfl, _, rfl, th, _, _, _, rfl, rfl, .of (s2.keep.tup hth), atI_nat (int_at hx), _, _, rfl, rfl, _, _, rfl, rfl, .of_le b1 (by omega) (by omega) (by omega), fun r nr => ?_⟩
    refine q _ _ (s2.trans (same_new nr)) ⟨r, rfl, ?_⟩
    rw [upd_same, rgV_int]
    unfold heldL
    rw [Int.toNat_natCast, e3]
    have e4 : ((l.take k).sum + l[k] - (l.take k).sum).toNat = l[k].toNat := by omega
    rw [e4]
def spHeld (cT cS : Addr) : Sp := fun vs H Q _ => ∃ (u : V) (S : SD) (post : Int) (n : Nat), vs = [u, .int post] ∧ rSheet cT cS H u S ∧ TiesOk S.ties n ∧ CountsOk S.holds n ∧ 0 ≤ post ∧ post < (n : Int) ∧
  ∀ H' v', Same H H' → rRow H' v' (heldL S.holds post) → Q v' H'
theorem ok_held (T : Tx K mg cT cS) {f : Addr} {fd : FuncData} (d : D K mg "held" s_held ["sheet", "post"] f fd) : FnOk P w K mg base CX0 3 f fd ["sheet", "post"] (spHeld cT cS) := by
  obtain ⟨f1, fd1, d1⟩ := T.d_is_below
  have G1 : FnOk P w K mg base CX0 2 f1 fd1 ["thing", "end"] spIsBelow := ok_is_below T d1
  obtain ⟨f2, fd2, d2⟩ := T.d_own_places
  have G2 : FnOk P w K mg base CX0 1 f2 fd2 ["counts", "post"] spOwn := ok_own T d2
  obtain ⟨fT, fdT, kT⟩ := T.k_Tree
  obtain ⟨fS, fdS, kS⟩ := T.k_Sheet
  have nP : NoAttr K cT "posts" := kT.na _ (by simp)
  have n2 : NoAttr K cS "tree" := kS.na _ (by simp)
  have n3 : NoAttr K cS "holds" := kS.na _ (by simp)
  refine d.F.ok sc_held (fun vs H Q E h => ?_) (fun cdv A outer s H vs Q E hr h => ?_)
  · obtain ⟨u, S, post, n, rfl, _⟩ := h
    rfl
  · obtain ⟨u, S, post, n, rfl, ⟨a, dx, tr, th, tw, rfl, hI, ⟨tr', dxt, tt, xst, et, hIt, htt, hpt⟩, ⟨th', eh, hth⟩, hw⟩, ok, oh, h0, h1, q⟩ := h
    cases et
    cases eh
    have hn := ok.len
    have hn24 := ok.n24
    refine ⟨_, pss_cons (ps_if (pt_not (pt_val (pe_call G1 hr rfl d1.m d1.F.kp d1.b .nil pass0 (pa_cons (pv 1) (pa_cons (pe_fld (pe_fld (pv 0) rfl) rfl) pa_nil))))) pss_never pss_nil)
      (pss_one (ps_ret (pe_call G2 (hr.mono (by decide)) rfl d2.m d2.F.kp d2.b .nil pass0 (pa_cons (pe_fld (pv 0) rfl) (pa_cons (pv 1) pa_nil))))), ?_⟩
    refine ⟨_, rfl, _, rfl, a, cS, dx, _, _, rfl, hI, kS.cl, n2, sfs_tree, tr, cT, dxt, _, _, rfl, hIt, kT.cl, nP, tfs_posts _ _, post, _, rfl, ?_⟩
    rw [decide_eq_true ⟨by omega, by omega⟩]
    exact ⟨_, rfl, iteF ⟨_, rfl, a, cS, dx, _, _, rfl, hI, kS.cl, n3, sfs_holds, _, rfl, _, S.holds, post, n, rfl, ⟨th, rfl, hth⟩, by omega, oh, h0, h1, fun H' v' s' hv => q H' v' s' hv⟩⟩
def spCut : Sp := fun vs H Q _ => ∃ (u v : V) (r l : List Int), vs = [u, v] ∧ rRow H u r ∧ rRow H v l ∧ l.length ≤ 1000 ∧ (∀ i ∈ l, 0 ≤ i ∧ i < (r.length : Int)) ∧ ∀ H' v', Same H H' → rRow H' v' (cutL r l) → Q v' H'
theorem ok_cut (T : Tx K mg cT cS) {f : Addr} {fd : FuncData} (d : D K mg "cut" s_cut ["row", "lot"] f fd) : FnOk P w K mg base CX0 1 f fd ["row", "lot"] spCut := by
  refine d.F.ok sc_cut (fun vs H Q E h => ?_) (fun cdv A outer s H vs Q E hr h => ?_)
  · obtain ⟨u, v, r, l, rfl, _⟩ := h
    rfl
  · obtain ⟨u, v, r, l, rfl, ⟨t1, rfl, h1⟩, ⟨t2, rfl, h2⟩, hl, hb, q⟩ := h
    refine ⟨_, pss_one (ps_ret (pe_callTy call_tuple_of (by rfl) T.b_tuple (by decide +kernel) (pa_cons
        (pe_lc (own := [("place", 2)]) (g := gName 2) (tt := tYes) rfl sc_cut.nd (pi_tup (pv 1)) (blkOk_by (N := N_cut) (sc := defScope s_cut) (by decide +kernel)) (fun _ _ _ _ _ => pg_name (i := 2) sc_cut.nd rfl (Or.inl rfl)) (fun _ _ _ _ _ => pts_nil)
          (fun _ _ _ _ _ => pe_ix (ixT (K := K) rfl) (pv 0) (pv 2) (fun _ _ => rfl))) pa_nil))), ?_⟩
    refine ⟨_, rfl, t2, rfl, ⟨_, .of h2⟩, fun D hD => ?_⟩
    refine lc_fm (walk_tup (xs := l.map V.int)) rInt (fun i => l[i]?.bind fun j => some (r.getD j.toNat 0)) hD (fun H' s' => .of (s'.keep.tup h2)) ?_ ?_
    · rintro i x H2 H3 hi pv ⟨rfl, hx⟩
      obtain ⟨j, hj, rfl⟩ := at_int hx
      rw [List.length_map] at hi
      obtain ⟨g1, g2⟩ := hb j (List.mem_of_getElem? hj)
      obtain ⟨m, rfl⟩ : ∃ m : Nat, j = (m : Int) := ⟨j.toNat, by omega⟩
      have hm : r[m]? = some (r[m]'(by omega)) := List.getElem?_eq_getElem (by omega)
      refine ⟨rfl, _, rfl, _, rfl, t1, _, _, _, rfl, rfl, .of (pv.1.keep.tup h1), atI_nat (int_at hm), ?_⟩
      refine fm_keep mono_int pv hD (by omega) (Same.refl _) (by rw [hj]; rfl) ?_
      rw [Int.toNat_natCast, getD_at hm]
      rfl
    · intro H2 ys s2 hD2 hp2
      rw [List.length_map, fm_some] at hp2
      have := paired_int hp2
      subst this
      refine ⟨D, _, rfl, .inl ⟨.of hD2, fun p np => ?_⟩⟩
      exact q _ _ (s2.trans (same_new np)) ⟨p, rfl, upd_same⟩
end
end S4

namespace S4
open PySem L2 TT MM
theorem numsL_small {holds : List Int} {n : Nat} (ok : CountsOk holds n) {posts : List Int} (hl : posts.length ≤ 64) : (numsL holds posts).length ≤ 60 * 64 := by
  have h : ∀ l : List Int, (numsL holds l).length ≤ 60 * l.length := by
    intro l
    induction l with
    | nil => simp [numsL]
    | cons a l ih =>
      show (heldL holds a ++ numsL holds l).length ≤ _
      rw [List.length_append, List.length_cons]
      have : (heldL holds a).length ≤ 60 := by
        unfold heldL
        rw [List.length_map, List.length_range]
        have := take_sum_le ok a.toNat
        omega
      omega
  have := h posts
  omega
theorem flat_len {F : Nat → List Int} {i : Nat} {b : Nat} (h : ∀ j, j < i → (F j).length ≤ b) : ((List.range i).flatMap F).length ≤ b * i := by
  induction i with
  | zero => simp
  | succ i ih =>
    rw [List.range_succ, List.flatMap_append, List.length_append, List.flatMap_singleton]
    have := ih fun j hj => h j (by omega)
    have := h i (by omega)
    rw [Nat.mul_succ]
    omega
theorem flat_len' {α : Type} {F : Nat → List α} {i : Nat} {b : Nat} (h : ∀ j, j < i → (F j).length ≤ b) : ((List.range i).flatMap F).length ≤ b * i := by
  induction i with
  | zero => simp
  | succ i ih =>
    rw [List.range_succ, List.flatMap_append, List.length_append, List.flatMap_singleton]
    have := ih fun j hj => h j (by omega)
    have := h i (by omega)
    rw [Nat.mul_succ]
    omega
section
variable {P : Program} {w : World} {K : PySem.W.Frag} {mg : Str → Option Value} {base : Heap} {cT cS : Addr}
structure WayOk (S : SD) (n : Nat) (z : Int × Int) : Prop where
  a0 : 0 ≤ z.1
  b0 : 0 ≤ z.2
  a1 : z.1 < (n : Int)
  b1 : z.2 < (n : Int)
  m : z ∈ S.ties ∨ z.swap ∈ S.ties
def spNear (cT cS : Addr) : Sp := fun vs H Q _ => ∃ (u v : V) (S : SD) (z : Int × Int) (n : Nat), vs = [u, v] ∧ rSheet cT cS H u S ∧ rPI H v z ∧ TiesOk S.ties n ∧ CountsOk S.holds n ∧ WayOk S n z ∧
  ∀ H' v' ns, Same H H' → rRow H' v' (numsL S.holds ns) → Up ns → ns.Nodup → (∀ x, x ∈ ns ↔ Rch S.ties (some z.2) z.1 x) → (∀ x ∈ ns, x ∈ rng n) → Q v' H'
theorem ok_near (T : Tx K mg cT cS) {f : Addr} {fd : FuncData} (d : D K mg "near_numbers" s_near_numbers ["sheet", "way"] f fd) : FnOk P w K mg base CX0 4 f fd ["sheet", "way"] (spNear cT cS) := by
  obtain ⟨f1, fd1, d1⟩ := T.d_this_side
  have G1 : FnOk P w K mg base CX0 3 f1 fd1 ["tree", "way"] (spThis cT) := ok_this_side T d1
  obtain ⟨f2, fd2, d2⟩ := T.d_held
  have G2 : FnOk P w K mg base CX0 3 f2 fd2 ["sheet", "post"] (spHeld cT cS) := ok_held T d2
  obtain ⟨fS, fdS, kS⟩ := T.k_Sheet
  have n2 : NoAttr K cS "tree" := kS.na _ (by simp)
  refine d.F.ok sc_near_numbers (fun vs H Q E h => ?_) (fun cdv A outer s H vs Q E hr h => ?_)
  · obtain ⟨u, v, S, z, n, rfl, _⟩ := h
    rfl
  · obtain ⟨u, v, S, z, n, rfl, hS, hz, ok, oh, hw, q⟩ := h
    obtain ⟨a, dx, tr, th, tw, rfl, hI, hT, hth, hwt⟩ := id hS
    have hn := ok.len
    have hn24 := ok.n24
    refine ⟨_, pss_one (ps_ret (pe_callTy call_tuple_of (by rfl) T.b_tuple (by decide +kernel) (pa_cons
        (pe_lc2 (own := [("post", 2), ("number", 3)]) (vs1 := [3]) (wi1 := iTup K (tCall (spHeld cT cS) [] E0 (tCons (tVar 0) (tCons (tVar 2) tNil)))) (g := gName 2) (g1 := gName 3) (tt := tYes) (tt1 := tYes) rfl sc_near_numbers.nd
          (pi_tup (pe_call G1 hr rfl d1.m d1.F.kp d1.b .nil pass0 (pa_cons (pe_fld (pv 0) rfl) (pa_cons (pv 1) pa_nil)))) (blkOk_by (N := N_near_numbers) (sc := defScope s_near_numbers) (by decide +kernel)) (by decide)
          (fun _ _ _ _ _ => pg_name (i := 2) sc_near_numbers.nd rfl (Or.inl rfl)) (fun _ _ _ _ _ => pts_nil)
          (fun _ _ _ _ _ => piT rfl (pi_tup (pe_call G2 hr rfl d2.m d2.F.kp d2.b .nil pass0 (pa_cons (pv 0) (pa_cons (pv 2) pa_nil)))))
          (fun _ _ _ _ _ => pg_name (i := 3) sc_near_numbers.nd rfl (Or.inl rfl)) (fun _ _ _ _ _ => pts_nil)
          (fun _ _ _ _ _ => pv 3)) pa_nil))), ?_⟩
    refine ⟨_, rfl, a, cS, dx, _, _, rfl, hI, kS.cl, n2, sfs_tree, _, rfl, .ref tr, v, S.ties, z, rng n, rfl, hT, hz, by omega, ok.shut, rng_mem.mpr ⟨hw.a0, hw.a1⟩, by rw [rng_len]; omega, fun H2 v2 ns s2 hrow hup hnd hmem => ?_⟩
    obtain ⟨t2, rfl, ht2⟩ := hrow
    have hin : ∀ x ∈ ns, x ∈ rng n := fun x hx => ((hmem x).mp hx).inV ok.shut (rng_mem.mpr ⟨hw.a0, hw.a1⟩)
    have hnl : ns.length ≤ 24 := by
      have := nodup_len hnd hin
      rw [rng_len] at this
      omega
    refine ⟨t2, rfl, ⟨_, .of ht2⟩, fun D hD => ?_⟩
    refine walk_W (walk_tup (xs := ns.map V.int)) _ (PvFl rInt (fun i => (ns[i]?.map (heldL S.holds)).getD []) D H2) (fl_start hD) (fun i H' _ h => .of (h.1.keep.tup ht2)) ?_ ?_
    · rintro i x H3 H4 hi pv ⟨rfl, hx⟩
      obtain ⟨k, hk, rfl⟩ := at_int hx
      rw [List.length_map] at hi
      obtain ⟨g1, g2⟩ := rng_mem.mp (hin k (List.mem_of_getElem? hk))
      refine ⟨rfl, ?_⟩
      refine ⟨_, rfl, _, rfl, .ref a, S, k, n, rfl, mono_sheet cT cS _ _ _ _ (s2.trans pv.1).keep hS, ok, oh, g1, g2, fun H5 v5 s5 hrow5 => ?_⟩
      obtain ⟨t5, rfl, ht5⟩ := hrow5
      refine ⟨t5, rfl, ⟨_, .of ht5⟩, ?_⟩
      have hF : (ns[i]?.map (heldL S.holds)).getD [] = heldL S.holds k := by rw [hk]; rfl
      have hb : ∀ j : Nat, ((ns[j]?.map (heldL S.holds)).getD []).length ≤ 60 := by
        intro j
        cases ns[j]? with
        | none => simp
        | some y =>
          show (heldL S.holds y).length ≤ 60
          unfold heldL
          rw [List.length_map, List.length_range]
          have := take_sum_le oh y.toNat
          omega
      have hpre := flat_len (i := i) (b := 60) fun j _ => hb j
      have hbi := hb i
      refine walk_W (walk_tup (xs := (heldL S.holds k).map V.int)) _ (PvIn rInt _ ((ns[i]?.map (heldL S.holds)).getD []) D H2 H5) (fl_in mono_int pv s5) (fun j H' _ h => .of (h.2.1.tup ht5)) ?_ ?_
      · rintro j y H6 H7 hj pv6 ⟨rfl, hy⟩
        obtain ⟨m, hm, rfl⟩ := at_int hy
        refine ⟨rfl, _, rfl, ?_⟩
        rw [List.length_map] at hj
        rw [hF] at hbi
        exact in_keep mono_int pv6 hD (by omega) (Same.refl _) (by rw [hF]; exact hm) rfl
      · intro H6 pv6
        exact in_fl (by rw [hF, List.length_map]) pv6
    · intro H3 pv
      obtain ⟨s3, ys, hD3, hp3⟩ := pv
      rw [List.length_map, fl_list] at hp3
      have := paired_int hp3
      subst this
      refine ⟨D, _, rfl, .inl ⟨.of hD3, fun p np => ?_⟩⟩
      exact q _ _ ns ((s2.trans s3).trans (same_new np)) ⟨p, rfl, upd_same⟩ hup hnd hmem hin
def rPP : Rp (Int × Int) := rPI
def spFar (cT cS : Addr) : Sp := fun vs H Q _ => ∃ (u v : V) (S : SD) (z : Int × Int) (n : Nat), vs = [u, v] ∧ rSheet cT cS H u S ∧ rPI H v z ∧ TiesOk S.ties n ∧ WantsOk S.p S.holds.sum n S.wants ∧ WayOk S n z ∧
  ∀ H' v' ns, Same H H' → rTup rPI H' v' (farL S.wants ns) → Up ns → ns.Nodup → (∀ x, x ∈ ns ↔ Rch S.ties (some z.1) z.2 x) → (∀ x ∈ ns, x ∈ rng n) → Q v' H'
theorem ok_far (T : Tx K mg cT cS) {f : Addr} {fd : FuncData} (d : D K mg "far_wants" s_far_wants ["sheet", "way"] f fd) : FnOk P w K mg base CX0 5 f fd ["sheet", "way"] (spFar cT cS) := by
  obtain ⟨f1, fd1, d1⟩ := T.d_beyond
  have G1 : FnOk P w K mg base CX0 4 f1 fd1 ["tree", "way"] (spBeyond cT) := ok_beyond T d1
  obtain ⟨fS, fdS, kS⟩ := T.k_Sheet
  have n2 : NoAttr K cS "tree" := kS.na _ (by simp)
  have n4 : NoAttr K cS "wants" := kS.na _ (by simp)
  refine d.F.ok sc_far_wants (fun vs H Q E h => ?_) (fun cdv A outer s H vs Q E hr h => ?_)
  · obtain ⟨u, v, S, z, n, rfl, _⟩ := h
    rfl
  · obtain ⟨u, v, S, z, n, rfl, hS, hz, ok, ow, hw, q⟩ := h
    obtain ⟨a, dx, tr, th, tw, rfl, hI, hT, hth, ⟨tw', ws, ew, htw, hwp⟩⟩ := id hS
    cases ew
    have hn := ok.len
    have hn24 := ok.n24
    refine ⟨_, pss_cons (ps_set (i := 2) sc_far_wants.nd rfl (.inl rfl) (pe_call G1 hr rfl d1.m d1.F.kp d1.b .nil pass0 (pa_cons (pe_fld (pv 0) rfl) (pa_cons (pv 1) pa_nil))))
      (pss_one (ps_ret (pe_callTy call_tuple_of (by rfl) T.b_tuple (by decide +kernel) (pa_cons
        (pe_lc2 (own := [("post", 3), ("want", 4)]) (vs1 := [4]) (g := gName 3) (g1 := gName 4) (tt := tYes) (tt1 := tYes) rfl sc_far_wants.nd
          (pi_tup (pv 2)) (blkOk_by (N := N_far_wants) (sc := defScope s_far_wants) (by decide +kernel)) (by decide)
          (fun _ _ _ _ _ => pg_name (i := 3) sc_far_wants.nd rfl (Or.inl rfl)) (fun _ _ _ _ _ => pts_nil)
          (fun _ _ _ _ _ => pi_range1 rfl T.b_range (pa_cons (pe_callB (lenS (K := K) rfl) (by rfl) T.b_len PySem.boot_len (pa_cons (pe_ix (ixT (K := K) rfl) (fldK (K := K) (pv 0) rfl rfl) (pv 3) (fun _ _ => rfl)) pa_nil)) pa_nil))
          (fun _ _ _ _ _ => pg_name (i := 4) sc_far_wants.nd rfl (Or.inl rfl)) (fun _ _ _ _ _ => pts_nil)
          (fun _ _ _ _ _ => pe_tup (pa_cons (pv 3) (pa_cons (pv 4) pa_nil)))) pa_nil)))), ?_⟩
    refine ⟨_, rfl, a, cS, dx, _, _, rfl, hI, kS.cl, n2, sfs_tree, _, rfl, .ref tr, v, S.ties, z, rng n, rfl, hT, hz, by omega, ok.shut, rng_mem.mpr ⟨hw.b0, hw.b1⟩, by rw [rng_len]; omega, hw.a0, hw.b0, by have := hw.a1; omega, by have := hw.b1; omega, hw.m, fun H2 v2 ns s2 hrow hup hnd hmem => ?_⟩
    obtain ⟨t2, rfl, ht2⟩ := hrow
    have hin : ∀ x ∈ ns, x ∈ rng n := fun x hx => ((hmem x).mp hx).inV ok.shut (rng_mem.mpr ⟨hw.b0, hw.b1⟩)
    have hnl : ns.length ≤ 24 := by
      have := nodup_len hnd hin
      rw [rng_len] at this
      omega
    dsimp only [gName, tSeq]
    refine ⟨_, rfl, t2, rfl, ⟨_, .of ht2⟩, fun D hD => ?_⟩
    refine walk_W (walk_tup (xs := ns.map V.int)) _ (PvFl rPI (fun i => (ns[i]?.map fun (post : Int) => (List.range (S.wants.getD post.toNat []).length).map fun (k : Nat) => (post, (k : Int))).getD []) D H2) (fl_start hD) (fun i H' _ h => .of (h.1.keep.tup ht2)) ?_ ?_
    · rintro i x H3 H4 hi pv ⟨rfl, hx⟩
      obtain ⟨k, hk, rfl⟩ := at_int hx
      rw [List.length_map] at hi
      obtain ⟨g1, g2⟩ := rng_mem.mp (hin k (List.mem_of_getElem? hk))
      obtain ⟨j0, rfl⟩ : ∃ j0 : Nat, k = (j0 : Int) := ⟨k.toNat, by omega⟩
      have hwl := ow.len
      have hj0 : S.wants[j0]? = some (S.wants[j0]'(by omega)) := List.getElem?_eq_getElem (by omega)
      obtain ⟨y, hy, ty, rs, rfl, hty, hrs⟩ := paired_get2 (paired_mono (mono_tup mono_row) (s2.trans pv.1).keep hwp) hj0
      have hrl := paired_len hrs
      have hg0 : S.wants.getD j0 [] = S.wants[j0]'(by omega) := getD_at hj0
      have h8 : (S.wants[j0]'(by omega)).length ≤ 8 := (ow.b _ (List.getElem_mem _)).1
      refine ⟨rfl, ?_⟩
      refine ⟨_, rfl, a, cS, dx, _, _, rfl, (s2.trans pv.1).keep.ins hI, kS.cl, n4, sfs_wants, _, rfl, tw, ws, _, _, rfl, rfl, .of ((s2.trans pv.1).keep.tup htw), atI_nat hy, _, _, rfl, .inr (.of hty), _, rfl, by omega, by omega, ?_⟩
      have hF : (ns[i]?.map fun (post : Int) => (List.range (S.wants.getD post.toNat []).length).map fun (k : Nat) => (post, (k : Int))).getD [] = (List.range rs.length).map fun (k : Nat) => ((j0 : Int), (k : Int)) := by
        rw [hk]
        show (List.range (S.wants.getD (j0 : Int).toNat []).length).map _ = _
        rw [Int.toNat_natCast, hg0, hrl]
      have hb : ∀ j : Nat, ((ns[j]?.map fun (post : Int) => (List.range (S.wants.getD post.toNat []).length).map fun (k : Nat) => (post, (k : Int))).getD []).length ≤ 8 := by
        intro j
        cases ns[j]? with
        | none => simp
        | some y =>
          show ((List.range (S.wants.getD y.toNat []).length).map _).length ≤ 8
          rw [List.length_map, List.length_range, List.getD_eq_getElem?_getD]
          cases e : S.wants[y.toNat]? with
          | none => simp
          | some r => exact (ow.b r (List.mem_of_getElem? e)).1
      have hpre := flat_len' (i := i) (b := 8) fun j _ => hb j
      refine walk_W (walk_range (lo := 0) (n := (((rs.length : Nat) : Int)).toNat)) _ (PvIn rPI _ ((ns[i]?.map fun (post : Int) => (List.range (S.wants.getD post.toNat []).length).map fun (k : Nat) => (post, (k : Int))).getD []) D H2 H4) (fl_in mono_pi pv (.refl _)) (fun j H' _ h => trivial) ?_ ?_
      · rintro j y H6 H7 hj pv6 ⟨rfl, rfl⟩
        rw [Int.toNat_natCast] at hj
        refine ⟨rfl, _, rfl, _, rfl, by show 2 ≤ sizeLine; decide, fun p np => ?_⟩
        refine in_keep mono_pi pv6 hD (by omega) (same_new np) (a := ((j0 : Int), (j : Int))) ?_ ⟨p, rfl, ?_⟩
        · rw [hF, List.getElem?_map, List.getElem?_range hj]
          rfl
        · rw [upd_same]
          show some (HO.tup [V.int (j0 : Int), V.int (0 + (j : Int))]) = _
          rw [Int.zero_add]
      · intro H6 pv6
        exact in_fl (by rw [hF, List.length_map, List.length_range, Int.toNat_natCast]) pv6
    · intro H3 pv
      obtain ⟨s3, ys, hD3, hp3⟩ := pv
      rw [List.length_map, fl_list] at hp3
      refine ⟨D, _, rfl, .inl ⟨.of hD3, fun p np => ?_⟩⟩
      have s4 := same_new (o := .tup ys) np
      exact q _ _ ns ((s2.trans s3).trans s4) ⟨p, ys, rfl, upd_same, paired_mono mono_pi s4.keep hp3⟩ hup hnd hmem hin
end
end S4

namespace S4
open PySem L2 TT MM
theorem heldL_in {holds : List Int} {n : Nat} (ok : CountsOk holds n) {post i : Int} (h : i ∈ heldL holds post) : 0 ≤ i ∧ i < holds.sum := by
  unfold heldL at h
  obtain ⟨j, hj, rfl⟩ := List.mem_map.mp h
  have hj' := List.mem_range.mp hj
  have hs : ∀ l : List Int, (∀ x ∈ l, 0 ≤ x) → 0 ≤ l.sum := by
    intro l
    induction l with
    | nil => intro _; simp
    | cons a l ih => intro h; rw [List.sum_cons]; have := ih fun x hx => h x (by simp [hx]); have := h a (by simp); omega
  have h1 : 0 ≤ (holds.take post.toNat).sum := hs _ fun x hx => (ok.b x (List.mem_of_mem_take hx)).1
  have h2 : 0 ≤ (holds.drop (post.toNat + 1)).sum := hs _ fun x hx => (ok.b x (List.mem_of_mem_drop hx)).1
  have e : holds.sum = (holds.take post.toNat).sum + (holds.drop post.toNat).sum := by rw [← List.sum_append, List.take_append_drop]
  by_cases hk : post.toNat < holds.length
  · have e2 : holds.drop post.toNat = holds[post.toNat] :: holds.drop (post.toNat + 1) := List.drop_eq_getElem_cons hk
    have e3 : holds.getD post.toNat 0 = holds[post.toNat] := getD_at (List.getElem?_eq_getElem hk)
    rw [e2, List.sum_cons] at e
    rw [e3] at hj'
    omega
  · have e3 : holds.getD post.toNat 0 = 0 := by rw [List.getD_eq_getElem?_getD, List.getElem?_eq_none (by omega)]; rfl
    rw [e3] at hj'
    simp at hj'
theorem numsL_in {holds : List Int} {n : Nat} (ok : CountsOk holds n) {posts : List Int} {i : Int} (h : i ∈ numsL holds posts) : 0 ≤ i ∧ i < holds.sum := by
  obtain ⟨p, _, hp⟩ := List.mem_flatMap.mp h
  exact heldL_in ok hp
theorem farL_in {wants : List (List (List Int))} {posts : List Int} {z : Int × Int} (h : z ∈ farL wants posts) : z.1 ∈ posts ∧ 0 ≤ z.2 ∧ z.2 < ((wants.getD z.1.toNat []).length : Int) := by
  obtain ⟨p, hp, h2⟩ := List.mem_flatMap.mp h
  obtain ⟨k, hk, rfl⟩ := List.mem_map.mp h2
  have := List.mem_range.mp hk
  exact ⟨hp, by simp only; omega, by simp only; omega⟩
/-- how many numbers: nodup posts hold all at most -/
theorem numsL_len {holds : List Int} {n : Nat} (ok : CountsOk holds n) {posts : List Int} (hl : posts.length ≤ 24) (hb : ∀ p ∈ posts, 0 ≤ p ∧ p < (n : Int)) : (numsL holds posts).length ≤ 216 := by
  have h : ∀ l : List Int, (∀ p ∈ l, 0 ≤ p ∧ p < (n : Int)) → (numsL holds l).length ≤ 9 * l.length := by
    intro l
    induction l with
    | nil => intro _; simp [numsL]
    | cons a l ih =>
      intro hb
      show (heldL holds a ++ numsL holds l).length ≤ _
      rw [List.length_append, List.length_cons]
      have := ih fun p hp => hb p (by simp [hp])
      have : (heldL holds a).length ≤ 9 := by
        unfold heldL
        rw [List.length_map, List.length_range]
        have hl := ok.len
        have := hb a (by simp)
        have hx : holds[a.toNat]? = some (holds[a.toNat]'(by omega)) := List.getElem?_eq_getElem (by omega)
        rw [getD_at hx]
        have := ok.b _ (List.getElem_mem (h := by omega) (l := holds) (n := a.toNat))
        omega
      omega
  have := h posts hb
  omega
section
variable {P : Program} {w : World} {K : PySem.W.Frag} {mg : Str → Option Value} {base : Heap} {cT cS : Addr}
def spBlock (cT cS : Addr) : Sp := fun vs H Q _ => ∃ (u v : V) (S : SD) (z : Int × Int) (n : Nat), vs = [u, v] ∧ rSheet cT cS H u S ∧ rPI H v z ∧ SheetOk S n ∧ WayOk S n z ∧
  ∀ H' v' near far, Same H H' → rTup rRow H' v' (blockL S near far) → Up near → near.Nodup → (∀ x, x ∈ near ↔ Rch S.ties (some z.2) z.1 x) → Up far → far.Nodup → (∀ x, x ∈ far ↔ Rch S.ties (some z.1) z.2 x) → Q v' H'
def spNarrow : Sp := fun vs H Q _ => ∃ (a : Addr) (v : V) (xs : List V) (rws : List (List Int)) (l : List Int), vs = [.ref a, v] ∧ H a = some (.lst xs) ∧ Paired (rRow H) xs rws ∧ rws.length ≤ 1000 ∧ rRow H v l ∧ l.length ≤ 1000 ∧ (∀ r ∈ rws, ∀ i ∈ l, 0 ≤ i ∧ i < (r.length : Int)) ∧ ∀ H' v', Same H H' → rTup rRow H' v' (rws.map fun r => cutL r l) → Q v' H'
theorem ok_narrowed (T : Tx K mg cT cS) {f : Addr} {fd : FuncData} (d : D K mg "narrowed" s_narrowed ["rows", "lot"] f fd) : FnOk P w K mg base CX0 2 f fd ["rows", "lot"] spNarrow := by
  obtain ⟨f4, fd4, d4⟩ := T.d_cut
  have G4 : FnOk P w K mg base CX0 1 f4 fd4 ["row", "lot"] spCut := ok_cut T d4
  refine d.F.ok sc_narrowed (fun vs H Q E h => ?_) (fun cdv A outer s H vs Q E hr h => ?_)
  · obtain ⟨a, v, xs, rws, l, rfl, _⟩ := h
    rfl
  · obtain ⟨a, v, xs, rws, l, rfl, ha, hp, hl, hv, hll, hin, q⟩ := h
    have hlen := paired_len hp
    refine ⟨_, pss_one (ps_ret (pe_callTy call_tuple_of (by rfl) T.b_tuple (by decide +kernel) (pa_cons
        (pe_lc (own := [("row", 2)]) (g := gName 2) (tt := tYes) rfl sc_narrowed.nd (pi_list (pv 0)) (blkOk_by (N := N_narrowed) (sc := defScope s_narrowed) (by decide +kernel))
          (fun _ _ _ _ _ => pg_name (i := 2) sc_narrowed.nd rfl (Or.inl rfl)) (fun _ _ _ _ _ => pts_nil)
          (fun _ _ _ _ _ => pe_call G4 hr rfl d4.m d4.F.kp d4.b .nil pass0 (pa_cons (pv 2) (pa_cons (pv 1) pa_nil)))) pa_nil))), ?_⟩
    refine ⟨_, rfl, a, rfl, ⟨_, .of ha⟩, fun D hD => ?_⟩
    refine lc_fm (walk_list (xs := xs)) rRow (fun i => rws[i]?.bind fun r => some (cutL r l)) hD (fun H' s' => .of (s' _ _ ha)) ?_ ?_
    · rintro i x H5 H6 hi pv ⟨rfl, hx⟩
      obtain ⟨row, hrow, hrr⟩ := paired_get (paired_mono mono_row pv.1.keep hp) hx
      refine ⟨rfl, ?_⟩
      refine ⟨_, rfl, _, rfl, x, v, row, l, rfl, hrr, mono_row _ _ _ _ pv.1.keep hv, hll, hin row (List.mem_of_getElem? hrow), fun H7 v7 s7 hrow7 => ?_⟩
      exact fm_keep mono_row pv hD (by omega) s7 (by rw [hrow]; rfl) hrow7
    · intro H5 ys s5 hD5 hp5
      rw [hlen, fm_some] at hp5
      refine ⟨D, _, rfl, .inl ⟨.of hD5, fun p np => ?_⟩⟩
      have s6 := same_new (o := .tup ys) np
      exact q _ _ (s5.trans s6) ⟨p, ys, rfl, upd_same, paired_mono mono_row s6.keep hp5⟩
theorem ok_block (T : Tx K mg cT cS) {f : Addr} {fd : FuncData} (d : D K mg "block" s_block ["sheet", "way"] f fd) : FnOk P w K mg base CX0 6 f fd ["sheet", "way"] (spBlock cT cS) := by
  obtain ⟨f1, fd1, d1⟩ := T.d_is_way
  have G1 : FnOk P w K mg base CX0 3 f1 fd1 ["tree", "thing"] (spIsWay cT) := ok_is_way T d1
  obtain ⟨f2, fd2, d2⟩ := T.d_near_numbers
  have G2 : FnOk P w K mg base CX0 4 f2 fd2 ["sheet", "way"] (spNear cT cS) := ok_near T d2
  obtain ⟨f3, fd3, d3⟩ := T.d_far_wants
  have G3 : FnOk P w K mg base CX0 5 f3 fd3 ["sheet", "way"] (spFar cT cS) := ok_far T d3
  obtain ⟨f4, fd4, d4⟩ := T.d_narrowed
  have G4 : FnOk P w K mg base CX0 2 f4 fd4 ["rows", "lot"] spNarrow := ok_narrowed T d4
  obtain ⟨fS, fdS, kS⟩ := T.k_Sheet
  have n2 : NoAttr K cS "tree" := kS.na _ (by simp)
  have n4 : NoAttr K cS "wants" := kS.na _ (by simp)
  refine d.F.ok sc_block (fun vs H Q E h => ?_) (fun cdv A outer s H vs Q E hr h => ?_)
  · obtain ⟨u, v, S, z, n, rfl, _⟩ := h
    rfl
  · obtain ⟨u, v, S, z, n, rfl, hS, hz, ok, hw, q⟩ := h
    obtain ⟨a, dx, tr, th, tw, rfl, hI, hT, hth, hwt⟩ := id hS
    have hn := ok.ties.len
    have hn24 := ok.ties.n24
    refine ⟨_, pss_cons (ps_if (pt_not (pt_val (pe_call G1 (hr.mono (by decide)) rfl d1.m d1.F.kp d1.b .nil pass0 (pa_cons (pe_fld (pv 0) rfl) (pa_cons (pv 1) pa_nil))))) pss_never pss_nil)
      (pss_cons (ps_setLc (i := 2) (own := [("post", 3), ("want", 4)]) (g := gTup K 2 (gCons (gName 3) (gCons (gName 4) gNil))) (tt := tYes) rfl sc_block.nd rfl rfl (sw_true rfl rfl rfl (by decide +kernel)) (pi_tup (pe_call G3 hr rfl d3.m d3.F.kp d3.b .nil pass0 (pa_cons (pv 0) (pa_cons (pv 1) pa_nil)))) (blkOk_by (N := N_block) (sc := defScope s_block) (by decide +kernel))
          (fun _ _ _ _ _ => pgT rfl rfl (pgs_cons (pg_name (i := 3) sc_block.nd rfl (Or.inl rfl)) (pgs_cons (pg_name (i := 4) sc_block.nd rfl (Or.inl rfl)) pgs_nil))) (fun _ _ _ _ _ => pts_nil)
          (fun _ _ _ _ _ => pe_ix (ixT (K := K) rfl) (pe_ix (ixT (K := K) rfl) (fldK (K := K) (pv 0) rfl rfl) (pv 3) (fun _ _ => rfl)) (pv 4) (fun _ _ => rfl)))
      (pss_one (ps_ret (pe_call G4 (hr.mono (by decide)) rfl d4.m d4.F.kp d4.b .nil pass0 (pa_cons (pv 2) (pa_cons (pe_call G2 (hr.mono (by decide)) rfl d2.m d2.F.kp d2.b .nil pass0 (pa_cons (pv 0) (pa_cons (pv 1) pa_nil))) pa_nil)))))), ?_⟩
    refine ⟨_, rfl, a, cS, dx, _, _, rfl, hI, kS.cl, n2, sfs_tree, _, rfl, .ref tr, v, S.ties, z, rfl, hT, hz, hw.a0, hw.b0, by have := hw.a1; omega, by have := hw.b1; omega, hw.m, fun H2 s2 => ⟨_, rfl, iteF ?_⟩⟩
    refine ⟨_, rfl, _, rfl, .ref a, v, S, z, n, rfl, mono_sheet cT cS _ _ _ _ s2.keep hS, mono_pi _ _ _ _ s2.keep hz, ok.ties, ok.wants, hw, fun H4 v4 far s4 hfar fup fnd fmem fin_ => ?_⟩
    have s14 := s2.trans s4
    obtain ⟨tf, fs, rfl, htf, hfp⟩ := hfar
    have hflen := paired_len hfp
    have hfl : far.length ≤ 24 := by
      have := nodup_len fnd fin_
      rw [rng_len] at this
      omega
    have hfll : (farL S.wants far).length ≤ 8 * 24 := by
      have h := flat_len' (F := fun i => (far[i]?.map fun (post : Int) => (List.range (S.wants.getD post.toNat []).length).map fun (k : Nat) => (post, (k : Int))).getD []) (i := far.length) (b := 8) fun j _ => by
        cases far[j]? with
        | none => simp
        | some y =>
          show ((List.range (S.wants.getD y.toNat []).length).map _).length ≤ 8
          rw [List.length_map, List.length_range, List.getD_eq_getElem?_getD]
          cases e : S.wants[y.toNat]? with
          | none => simp
          | some r => exact (ok.wants.b r (List.mem_of_getElem? e)).1
      rw [fl_list] at h
      show (far.flatMap _).length ≤ _
      omega
    refine ⟨tf, rfl, ⟨_, .of htf⟩, fun D hD => ?_⟩
    refine lc_fm (walk_tup (xs := fs)) rRow (fun i => (farL S.wants far)[i]?.bind fun z => some ((S.wants.getD z.1.toNat []).getD z.2.toNat [])) hD (fun H' s' => .of (s'.keep.tup htf)) ?_ ?_
    · rintro i x H5 H6 hi pv ⟨rfl, hx⟩
      have s5 := s14.trans pv.1
      obtain ⟨y, hy, ty, rfl, hty⟩ := paired_get (paired_mono mono_pi pv.1.keep hfp) hx
      obtain ⟨y1, y2, y3⟩ := farL_in (List.mem_of_getElem? hy)
      obtain ⟨g1, g2⟩ := rng_mem.mp (fin_ _ y1)
      obtain ⟨b1, b2⟩ := y
      simp only at y2 y3 g1 g2
      obtain ⟨j0, rfl⟩ : ∃ j0 : Nat, b1 = (j0 : Int) := ⟨b1.toNat, by omega⟩
      obtain ⟨k0, rfl⟩ : ∃ k0 : Nat, b2 = (k0 : Int) := ⟨b2.toNat, by omega⟩
      rw [Int.toNat_natCast] at y3
      have hwl := ok.wants.len
      have hj0 : S.wants[j0]? = some (S.wants[j0]'(by omega)) := List.getElem?_eq_getElem (by omega)
      rw [getD_at hj0] at y3
      obtain ⟨tw', ws, ew, htw, hwp⟩ := mono_wants _ _ _ _ s5.keep hwt
      cases ew
      obtain ⟨u1, hu1, tu, us, rfl, htu, hup⟩ := paired_get2 hwp hj0
      have hk0 : (S.wants[j0]'(by omega))[k0]? = some ((S.wants[j0]'(by omega))[k0]'(by omega)) := List.getElem?_eq_getElem (by omega)
      obtain ⟨u2, hu2, hrow2⟩ := paired_get2 hup hk0
      have hir := (ok.wants.b _ (List.getElem_mem (h := by omega) (l := S.wants) (n := j0))).2 _ (List.getElem_mem (h := by omega) (l := S.wants[j0]'(by omega)) (n := k0))
      refine ⟨ty, _, rfl, .of hty, rfl, _, _, rfl, _, _, rfl, rfl, rfl, ?_⟩
      refine ⟨_, rfl, a, cS, dx, _, _, rfl, s5.keep.ins hI, kS.cl, n4, sfs_wants, _, rfl, tw, ws, _, _, rfl, rfl, .of htw, atI_nat hu1, _, rfl, tu, us, _, _, rfl, rfl, .of htu, atI_nat hu2, ?_⟩
      refine fm_keep mono_row pv hD (by omega) (.refl _) (by rw [hy]; rfl) ?_
      simp only [Int.toNat_natCast]
      rw [getD_at hj0, getD_at hk0]
      exact hrow2
    · intro H5 ys s5 hD5 hp5
      rw [hflen, fm_some] at hp5
      have s15 := s14.trans s5
      refine ⟨_, rfl, _, rfl, _, rfl, .ref a, v, S, z, n, rfl, mono_sheet cT cS _ _ _ _ s15.keep hS, mono_pi _ _ _ _ s15.keep hz, ok.ties, ok.holds, hw, fun H6 v6 near s6 hnear nup nnd nmem nin => ?_⟩
      have hnl : near.length ≤ 24 := by
        have := nodup_len nnd nin
        rw [rng_len] at this
        omega
      have hnum := numsL_len ok.holds hnl (fun p hp => rng_mem.mp (nin p hp))
      refine ⟨D, v6, ys, _, _, rfl, s6 _ _ hD5, paired_mono mono_row s6.keep hp5, by rw [List.length_map]; omega, hnear, by omega, ?_, fun H7 v7 s7 h7 => ?_⟩
      · intro r hr i hi
        obtain ⟨y, hy, rfl⟩ := List.mem_map.mp hr
        obtain ⟨y1, y2, y3⟩ := farL_in hy
        obtain ⟨g1, g2⟩ := rng_mem.mp (fin_ _ y1)
        obtain ⟨b1, b2⟩ := y
        simp only at y2 y3 g1 g2
        obtain ⟨j0, rfl⟩ : ∃ j0 : Nat, b1 = (j0 : Int) := ⟨b1.toNat, by omega⟩
        obtain ⟨k0, rfl⟩ : ∃ k0 : Nat, b2 = (k0 : Int) := ⟨b2.toNat, by omega⟩
        rw [Int.toNat_natCast] at y3
        have hwl := ok.wants.len
        have hj0 : S.wants[j0]? = some (S.wants[j0]'(by omega)) := List.getElem?_eq_getElem (by omega)
        rw [getD_at hj0] at y3
        have hk0 : (S.wants[j0]'(by omega))[k0]? = some ((S.wants[j0]'(by omega))[k0]'(by omega)) := List.getElem?_eq_getElem (by omega)
        have hir := (ok.wants.b _ (List.getElem_mem (h := by omega) (l := S.wants) (n := j0))).2 _ (List.getElem_mem (h := by omega) (l := S.wants[j0]'(by omega)) (n := k0))
        have := numsL_in ok.holds hi
        simp only [Int.toNat_natCast]
        rw [getD_at hj0, getD_at hk0]
        have := hir.1
        omega
      · rw [List.map_map] at h7
        exact q H7 v7 near far ((s15.trans s6).trans s7) h7 nup nnd nmem fup fnd fmem
end
end S4

namespace S4
open PySem L2 TT MM
/-! ### the hand that draws -/
def hl (c : Addr) (i1 i2 i3 i4 : Int) : List V := [.ref c, .int i1, .int i2, .int i3, .int i4]
structure HandW (g c : Addr) (cells : List Int) (i1 i2 i3 i4 : Int) (H : Hp) : Prop where
  h : H g = some (.lst (hl c i1 i2 i3 i4))
  hc : H c = some (.lst (cells.map V.int))
  len : cells.length ≤ 63
  pos : ∀ x ∈ cells, 0 ≤ x
  b1 : 0 ≤ i1 ∧ i1 ≤ (cells.length : Int)
  b2 : 0 ≤ i2
  b3 : 0 ≤ i3 ∧ i3 < 4294967296
  b4 : 0 ≤ i4
def Hand (g c : Addr) (H : Hp) : Prop := ∃ cells i1 i2 i3 i4, HandW g c cells i1 i2 i3 i4 H
theorem HandW.ne {g c : Addr} {cells : List Int} {i1 i2 i3 i4 : Int} {H : Hp} (h : HandW g c cells i1 i2 i3 i4 H) : c ≠ g := ne_of h.hc h.h (fun e => by
  injection e with e
  cases cells with
  | nil => cases e
  | cons a l => rw [List.map_cons] at e; cases e)
theorem Hand.lst {g c : Addr} {H : Hp} (h : Hand g c H) : ∃ ys, H g = some (.lst ys) := let ⟨_, _, _, _, _, w⟩ := h; ⟨_, w.h⟩
theorem Hand.cells {g c : Addr} {H : Hp} (h : Hand g c H) : ∃ ys, H c = some (.lst ys) := let ⟨_, _, _, _, _, w⟩ := h; ⟨_, w.hc⟩
theorem Hand.setD {g c D : Addr} {H : Hp} {o : HO} (h : Hand g c H) (h1 : D ≠ g) (h2 : D ≠ c) : Hand g c (upd H D o) := let ⟨cells, i1, i2, i3, i4, w⟩ := h; ⟨cells, i1, i2, i3, i4, by rw [upd_ne h1.symm]; exact w.h, by rw [upd_ne h2.symm]; exact w.hc, w.len, w.pos, w.b1, w.b2, w.b3, w.b4⟩
theorem Hand.same {g c : Addr} {H H' : Hp} (h : Hand g c H) (s : Same H H') : Hand g c H' := by
  obtain ⟨cells, i1, i2, i3, i4, w⟩ := h
  exact ⟨cells, i1, i2, i3, i4, s _ _ w.h, s _ _ w.hc, w.len, w.pos, w.b1, w.b2, w.b3, w.b4⟩
/-- a list apart from the hand stays apart -/
theorem _root_.TT.But.lst {g : Addr} {H H' : Hp} (k : But g H H') {b : Addr} (hb : b ≠ g) {xs : List V} (h : H b = some (.lst xs)) : H' b = some (.lst xs) := k b _ hb h
theorem Hand.keep {g c : Addr} {H H' : Hp} (h : Hand g c H) (k : But g H H') : Keep H H' := let ⟨_, e⟩ := h.lst; k.keep e
section
variable {P : Program} {w : World} {K : PySem.W.Frag} {mg : Str → Option Value} {base : Heap} {cT cS : Addr}
def spHand (K : PySem.W.Frag) : Sp := fun vs H Q _ => ∃ (a : Addr) (ns : List Int), vs = [.ref a] ∧ SqL K H a (ns.map V.int) ∧ ns.length ≤ 63 ∧ ∀ H' g c, Same H H' → H g = none → Hand g c H' → Q (.ref g) H'
theorem ok_hand (T : Tx K mg cT cS) {f : Addr} {fd : FuncData} (d : D K mg "_law_hand" s_law_hand ["script"] f fd) : FnOk P w K mg base CX0 1 f fd ["script"] (spHand K) := by
  refine d.F.ok sc_law_hand (fun vs H Q E h => ?_) (fun cdv A outer s H vs Q E hr h => ?_)
  · obtain ⟨a, ns, rfl, _⟩ := h
    rfl
  · obtain ⟨a, ns, rfl, hS, hl63, q⟩ := h
    refine ⟨_, pss_cons (ps_setLc (i := 1) (own := [("cell", 2)]) (g := gName 2) (tt := tYes) rfl sc_law_hand.nd rfl rfl (sw_true rfl rfl rfl (by decide +kernel)) (pi_list (pe_slice sl_list (pv 0) po_none (po_some pe_int))) (blkOk_by (N := N_law_hand) (sc := defScope s_law_hand) (by decide +kernel))
          (fun _ _ _ _ _ => pg_name (i := 2) sc_law_hand.nd rfl (Or.inl rfl)) (fun _ _ _ _ _ => pts_nil)
          (fun _ _ _ _ _ => pe_callB call_abs (by rfl) T.b_abs (by decide +kernel) (pa_cons (pe_callTy call_int1 (by rfl) T.b_int (by decide +kernel) (pa_cons (pv 2) pa_nil)) pa_nil)))
      (pss_one (ps_ret (pe_lst (pa_cons (pv 1) (pa_cons pe_int (pa_cons pe_int (pa_cons (pe_op op_add pe_int (pe_callB call_len_seq (by rfl) T.b_len PySem.boot_len (pa_cons (pv 1) pa_nil))) (pa_cons pe_int pa_nil)))))))), ?_⟩
    refine ⟨_, rfl, 63, rfl, a, _, rfl, hS, fun p np => ?_⟩
    have e63 : cutV (ns.map V.int) none (some 63) = ns.map V.int := by
      have := cutV_upto (ns.map V.int) 63
      rw [List.take_of_length_le (by rw [List.length_map]; exact hl63)] at this
      exact this
    rw [e63]
    have s1 := same_new (o := .lst (ns.map V.int)) np
    refine ⟨p, rfl, ⟨_, .of upd_same⟩, fun D hD => ?_⟩
    refine lc_fm (walk_list (xs := ns.map V.int)) rInt (fun i => ns[i]?.bind fun x => some (if x < 0 then -x else x)) hD (fun H' s' => .of (s' _ _ upd_same)) ?_ ?_
    · rintro i x H2 H3 hi pv ⟨rfl, hx⟩
      obtain ⟨k, hk, rfl⟩ := at_int hx
      rw [List.length_map] at hi
      refine ⟨rfl, _, rfl, .inl ⟨k, rfl, k, rfl, ?_⟩⟩
      exact fm_keep mono_int pv hD (by omega) (Same.refl _) (by rw [hk]; rfl) rfl
    · intro H2 ys s2 hD2 hp2
      rw [List.length_map, fm_some] at hp2
      have := paired_int hp2
      subst this
      refine ⟨_, rfl, _, rfl, _, _, rfl, .inl (.of hD2), _, _, rfl, rfl, by show 5 ≤ sizeLine; decide, fun g ng => ?_⟩
      have s3 := same_new (o := .lst (hl D 0 0 (1 + ((((ns.map fun x => if x < 0 then -x else x).map V.int).length : Nat) : Int)) 0)) ng
      refine q _ g D ((s1.trans s2).trans s3) ((s1.trans s2).free ng) ⟨ns.map fun x => if x < 0 then -x else x, 0, 0, _, 0, upd_same, s3 _ _ hD2, by rw [List.length_map]; exact hl63, fun x hx => ?_, ⟨by omega, by omega⟩, by omega, ?_, by omega⟩
      · obtain ⟨y, _, rfl⟩ := List.mem_map.mp hx
        split <;> omega
      · rw [List.length_map, List.length_map]
        omega
def spDraw : Sp := fun vs H Q _ => ∃ (g c : Addr) (m : Int), vs = [.ref g, .int m] ∧ 0 < m ∧ m < 1073741824 ∧ Hand g c H ∧ ∀ H' n, But g H H' → Hand g c H' → 0 ≤ n → n < m → Q (.int n) H'
theorem mod_b {a m : Int} (h : 0 < m) : 0 ≤ a % m ∧ a % m < m := ⟨Int.emod_nonneg _ (by omega), Int.emod_lt_of_pos _ h⟩
theorem ok_draw (T : Tx K mg cT cS) {f : Addr} {fd : FuncData} (d : D K mg "_law_draw" s_law_draw ["hand", "many"] f fd) : FnOk P w K mg base CX0 1 f fd ["hand", "many"] spDraw := by
  refine d.F.ok sc_law_draw (fun vs H Q E h => ?_) (fun cdv A outer s H vs Q E hr h => ?_)
  · obtain ⟨g, c, m, rfl, _⟩ := h
    rfl
  · obtain ⟨g, c, m, rfl, m0, m1, ⟨cells, i1, i2, i3, i4, W⟩, q⟩ := h
    refine ⟨_, C8.pss_cut (ps_if (PW.pt (pw_and (pt_cmpR op_eq (pe_ix ix_list (pv 0) pe_int (fun _ _ => rfl)) pe_int (nomark _)) (pw_and1 (pt_cmpR op_lt (pe_ix ix_list (pv 0) pe_int (fun _ _ => rfl)) (pe_callB call_len_seq (by rfl) T.b_len PySem.boot_len (pa_cons (pe_ix ix_list (pv 0) pe_int (fun _ _ => rfl)) pa_nil)) (nomark _)))))
        (pss_cons (ps_set (i := 2) sc_law_draw.nd rfl (.inl rfl) (pe_ix ix_list (pe_ix ix_list (pv 0) pe_int (fun _ _ => rfl)) (pe_ix ix_list (pv 0) pe_int (fun _ _ => rfl)) (fun _ _ => rfl)))
          (pss_cons (ps_asg (pe_op op_add (pe_ix ix_list (pv 0) pe_int (fun _ _ => rfl)) pe_int) (pg_sub (pv 0) pe_int set_list))
          (pss_cons (ps_asg (pe_op op_mod (pe_callTy call_int1 (by rfl) T.b_int (by decide +kernel) (pa_cons (pe_op op_add (pe_op op_add (pe_op op_mul (pe_ix ix_list (pv 0) pe_int (fun _ _ => rfl)) pe_int) (pv 2)) pe_int) pa_nil)) pe_int) (pg_sub (pv 0) pe_int set_list))
          (pss_one (ps_if (pt_cmpR op_ge (pv 2) (pe_op op_pow pe_int pe_int) (nomark _)) (pss_one (ps_asg (pv 2) (pg_sub (pv 0) pe_int set_list))) pss_nil))))) pss_nil)
      (pss_cons (ps_if (pt_cmpR op_gt (pe_ix ix_list (pv 0) pe_int (fun _ _ => rfl)) pe_int (nomark _))
        (pss_cons (ps_set (i := 3) sc_law_draw.nd rfl (.inl rfl) (pe_op op_mod (pe_callTy call_int1 (by rfl) T.b_int (by decide +kernel) (pa_cons (pe_ix ix_list (pv 0) pe_int (fun _ _ => rfl)) pa_nil)) (pv 1)))
          (pss_cons (ps_asg (pe_op op_fdivN (pe_ix ix_list (pv 0) pe_int (fun _ _ => rfl)) (pv 1)) (pg_sub (pv 0) pe_int set_list)) (pss_one (ps_ret (pv 3))))) pss_nil)
      (pss_cons (ps_asg (pe_op op_add (pe_ix ix_list (pv 0) pe_int (fun _ _ => rfl)) pe_int) (pg_sub (pv 0) pe_int set_list))
      (pss_cons (ps_set (i := 4) sc_law_draw.nd rfl (.inl rfl) (pe_op op_mod (pe_callTy call_int1 (by rfl) T.b_int (by decide +kernel) (pa_cons (pe_op op_mul (pe_callTy call_int1 (by rfl) T.b_int (by decide +kernel) (pa_cons (pe_op op_add (pe_ix ix_list (pv 0) pe_int (fun _ _ => rfl)) (pe_op op_mul pe_int (pe_ix ix_list (pv 0) pe_int (fun _ _ => rfl)))) pa_nil)) pe_int) pa_nil)) pe_int))
      (pss_cons (ps_set (i := 4) sc_law_draw.nd rfl (.inl rfl) (pe_op op_mod (pe_callTy call_int1 (by rfl) T.b_int (by decide +kernel) (pa_cons (pe_op op_mul (pv 4) (pe_op op_add (pe_op op_fdiv (pv 4) pe_int) pe_int)) pa_nil)) pe_int))
      (pss_cons (ps_set (i := 4) sc_law_draw.nd rfl (.inl rfl) (pe_op op_mod (pe_callTy call_int1 (by rfl) T.b_int (by decide +kernel) (pa_cons (pe_op op_mul (pv 4) (pe_op op_add (pe_op op_fdiv (pv 4) pe_int) pe_int)) pa_nil)) pe_int))
      (pss_one (ps_ret (pe_op op_mod (pe_callTy call_int1 (by rfl) T.b_int (by decide +kernel) (pa_cons (pe_op op_fdiv (pv 4) pe_int) pa_nil)) (pv 1))))))))), ?_⟩
    refine ⟨fun σ H' => ∃ (x : Option V) (j1 j2 j3 j4 : Int), σ = [some (.ref g), some (.int m), x, none, none] ∧ But g H H' ∧ HandW g c cells j1 j2 j3 j4 H', ?_, ?_⟩
    · refine ⟨_, rfl, g, _, _, _, rfl, rfl, .of W.h, at_of (j := 2) rfl rfl, rfl, _, rfl, ?_⟩
      by_cases h2 : i2 = 0
      · rw [decide_eq_true (by rw [h2])]
        refine iteT ⟨_, rfl, g, _, _, _, rfl, rfl, .of W.h, at_of (j := 1) rfl rfl, _, rfl, g, _, _, _, rfl, rfl, .of W.h, at_of (j := 0) rfl rfl, _, _, rfl, .inl (.of W.hc), _, _, rfl, rfl, _, rfl, ?_⟩
        by_cases h1 : i1 < (((cells.map V.int).length : Nat) : Int)
        · rw [decide_eq_true h1]
          rw [List.length_map] at h1
          have hb1 := W.b1.1
          obtain ⟨k, rfl⟩ : ∃ k : Nat, i1 = (k : Int) := ⟨i1.toNat, by omega⟩
          have hk : cells[k]? = some (cells[k]'(by omega)) := List.getElem?_eq_getElem (by omega)
          have hpos := W.pos _ (List.getElem_mem (h := by omega) (l := cells) (n := k))
          refine iteT ⟨_, rfl, g, _, _, _, rfl, rfl, .of W.h, at_of (j := 0) rfl rfl, _, rfl, g, _, _, _, rfl, rfl, .of W.h, at_of (j := 1) rfl rfl, c, _, _, _, rfl, rfl, .of W.hc, atI_nat (int_at hk), ?_⟩
          dsimp only [gName, tSeq]
          refine ⟨_, rfl, g, _, _, _, rfl, rfl, .of W.h, at_of (j := 1) rfl rfl, _, _, rfl, rfl, _, rfl, g, _, _, _, rfl, rfl, W.h, rfl, ?_⟩
          refine ⟨_, rfl, g, _, _, _, rfl, rfl, .of upd_same, at_of (j := 3) rfl rfl, _, _, rfl, rfl, .inl ⟨by have := W.b3.1; omega, by have := W.b3.2; omega⟩, _, rfl, _, _, rfl, rfl, _, _, rfl, rfl, .inl ⟨_, rfl, _, _, rfl, rfl, (by dsimp only; decide), _, rfl, g, _, _, _, rfl, rfl, upd_same, rfl, ?_⟩⟩
          rw [upd_upd]
          have hm := mod_b (a := i3 * 69621 + cells[k]'(by omega) + 11) (m := 2147483629) (by decide)
          have W2 : HandW g c cells ((k : Int) + 1) i2 ((i3 * 69621 + cells[k]'(by omega) + 11) % 2147483629) i4 (upd H g (.lst (hl c ((k : Int) + 1) i2 ((i3 * 69621 + cells[k]'(by omega) + 11) % 2147483629) i4))) :=
            ⟨upd_same, by rw [upd_ne W.ne]; exact W.hc, W.len, W.pos, ⟨by omega, by omega⟩, W.b2, ⟨by omega, by omega⟩, W.b4⟩
          refine ⟨_, rfl, _, _, rfl, rfl, ⟨by decide, by decide, by decide⟩, _, _, rfl, rfl, _, rfl, ?_⟩
          refine ite2 (fun hc => ?_) (fun hc => ?_)
          · refine ⟨_, rfl, _, rfl, g, _, _, _, rfl, rfl, upd_same, rfl, ?_⟩
            rw [upd_upd]
            exact ⟨_, _, _, _, _, rfl, but_upd, upd_same, by rw [upd_ne W.ne]; exact W.hc, W.len, W.pos, W2.b1, hpos, W2.b3, W2.b4⟩
          · exact ⟨_, _, _, _, _, rfl, but_upd, W2⟩
        · rw [decide_eq_false h1]
          exact iteF ⟨_, _, _, _, _, rfl, .refl _ _, W⟩
      · rw [decide_eq_false (fun e => h2 (V.int.inj e))]
        exact iteF ⟨_, _, _, _, _, rfl, .refl _ _, W⟩
    · rintro σ H2 ⟨x, j1, j2, j3, j4, rfl, bt, W2⟩
      refine ⟨_, rfl, g, _, _, _, rfl, rfl, .of W2.h, at_of (j := 2) rfl rfl, _, _, rfl, rfl, _, rfl, ?_⟩
      refine ite2 (fun hc => ?_) (fun hc => ?_)
      · refine ⟨_, rfl, g, _, _, _, rfl, rfl, .of W2.h, at_of (j := 2) rfl rfl, .inl ⟨_, rfl, _, rfl, _, _, rfl, rfl, m0, ?_⟩⟩
        dsimp only [gName, tSeq]
        refine ⟨_, rfl, g, _, _, _, rfl, rfl, .of W2.h, at_of (j := 2) rfl rfl, _, rfl, _, _, rfl, rfl, ⟨by omega, by omega⟩, _, rfl, g, _, _, _, rfl, rfl, W2.h, rfl, _, rfl, ?_⟩
        have hm := mod_b (a := j2) m0
        refine q _ _ (bt.trans but_upd) ⟨cells, _, _, _, _, upd_same, by rw [upd_ne W2.ne]; exact W2.hc, W2.len, W2.pos, W2.b1, ?_, W2.b3, W2.b4⟩ hm.1 hm.2
        rw [Int.fdiv_eq_ediv_of_nonneg _ (by omega)]
        exact Int.ediv_nonneg W2.b2 (by omega)
      · refine ⟨_, rfl, g, _, _, _, rfl, rfl, .of W2.h, at_of (j := 4) rfl rfl, _, _, rfl, rfl, _, rfl, g, _, _, _, rfl, rfl, W2.h, rfl, ?_⟩
        have W3 : HandW g c cells j1 j2 j3 (j4 + 1) (upd H2 g (.lst (hl c j1 j2 j3 (j4 + 1)))) := ⟨upd_same, by rw [upd_ne W2.ne]; exact W2.hc, W2.len, W2.pos, W2.b1, W2.b2, W2.b3, by have := W2.b4; omega⟩
        refine ⟨_, rfl, g, _, _, _, rfl, rfl, .of upd_same, at_of (j := 3) rfl rfl, _, rfl, g, _, _, _, rfl, rfl, .of upd_same, at_of (j := 4) rfl rfl, _, _, rfl, rfl, .inl ⟨by decide, by decide⟩, _, _, rfl, rfl, .inl ⟨_, rfl, _, _, rfl, rfl, .inr ⟨by decide, by decide⟩, .inl ⟨_, rfl, _, _, rfl, rfl, (by dsimp only; decide), ?_⟩⟩⟩
        dsimp only [gName, tSeq]
        generalize hn1 : (j3 + 7919 * (j4 + 1)) * 48271 % 2147483647 = n1
        have a1 := mod_b (a := (j3 + 7919 * (j4 + 1)) * 48271) (m := 2147483647) (by decide)
        rw [hn1] at a1
        refine ⟨_, rfl, _, rfl, _, _, rfl, rfl, ⟨by decide, by decide⟩, _, _, rfl, rfl, _, _, rfl, rfl, .inl ⟨by omega, by omega⟩, .inl ⟨_, rfl, _, _, rfl, rfl, (by dsimp only; decide), ?_⟩⟩
        dsimp only [gName, tSeq]
        generalize hn2 : n1 * (n1 / 1009 + 69621) % 2147483647 = n2
        have a2 := mod_b (a := n1 * (n1 / 1009 + 69621)) (m := 2147483647) (by decide)
        rw [hn2] at a2
        refine ⟨_, rfl, _, rfl, _, _, rfl, rfl, ⟨by decide, by decide⟩, _, _, rfl, rfl, _, _, rfl, rfl, .inl ⟨by omega, by omega⟩, .inl ⟨_, rfl, _, _, rfl, rfl, (by dsimp only; decide), ?_⟩⟩
        dsimp only [gName, tSeq]
        generalize hn3 : n2 * (n2 / 2003 + 40692) % 2147483399 = n3
        refine ⟨_, rfl, _, _, rfl, rfl, ⟨by decide, by decide⟩, .inl ⟨_, rfl, _, rfl, _, _, rfl, rfl, m0, ?_⟩⟩
        have hm := mod_b (a := n3 / 16) m0
        exact q _ _ (bt.trans but_upd) ⟨cells, _, _, _, _, W3⟩ hm.1 hm.2
end
end S4

namespace S4
open PySem L2 TT MM
theorem walk_zipT {K : PySem.W.Frag} {a b : Addr} {xs ys : List V} {n : Nat} (hn : n = min xs.length ys.length) : Walk (RZ.ItzT K a b) n (fun H => SqT K H a xs ∧ SqT K H b ys) (YPair (fun i => xs[i]?) (fun i => ys[i]?)) := by
  subst hn
  refine ⟨fun i _ hi q => ?_, fun _ q => ⟨xs, ys, q.1, q.2, by omega⟩, fun i H v H' _ q y => ?_⟩
  · have h1 : i < xs.length := by omega
    have h2 : i < ys.length := by omega
    exact ⟨xs, ys, xs[i], ys[i], q.1, q.2, by simp [h1], by simp [h2]⟩
  · obtain ⟨T, x, z, h1, h2, h3, h4, h5⟩ := y
    exact ⟨T, x, z, h1, h2, h3, h4 xs q.1, h5 ys q.2⟩
/-- two values of the same data, of the same kinds, n deep -/
def Alike (H : Hp) : Nat → V → V → Prop
  | 0, x, y => ∃ k, x = .int k ∧ y = .int k
  | n + 1, x, y => (∃ k, x = .int k ∧ y = .int k) ∨ ∃ a b xs ys, x = .ref a ∧ y = .ref b ∧ ((H a = some (.tup xs) ∧ H b = some (.tup ys)) ∨ (H a = some (.lst xs) ∧ H b = some (.lst ys))) ∧ xs.length ≤ 1000 ∧ Paired (Alike H n) xs ys
theorem alike_same {H H' : Hp} (s : Same H H') : ∀ (n : Nat) {x y : V}, Alike H n x y → Alike H' n x y
  | 0, _, _, h => h
  | n + 1, _, _, h => by
    rcases h with h | ⟨a, b, xs, ys, e1, e2, h, hl, hp⟩
    · exact .inl h
    · refine .inr ⟨a, b, xs, ys, e1, e2, ?_, hl, Paired.mapP hp fun _ _ q => alike_same s n q⟩
      rcases h with ⟨h1, h2⟩ | ⟨h1, h2⟩
      · exact .inl ⟨s _ _ h1, s _ _ h2⟩
      · exact .inr ⟨s _ _ h1, s _ _ h2⟩
section
variable {K : PySem.W.Frag}
theorem kit_lt : PySem.W.kitOne K (.type "list") (.type "tuple") = some false := kit_ty (by decide +kernel)
theorem kit_ll : PySem.W.kitOne K (.type "list") (.type "list") = some true := kit_ty (by decide +kernel)
theorem kit_it : PySem.W.kitOne K (.type "int") (.type "tuple") = some false := kit_ty (by decide +kernel)
theorem kit_il : PySem.W.kitOne K (.type "int") (.type "list") = some false := kit_ty (by decide +kernel)
theorem kitA_t : PySem.W.kitAny K (.type "tuple") [.type "tuple", .type "list"] = some true := by unfold PySem.W.kitAny; rw [kit_tt]
theorem kitA_l : PySem.W.kitAny K (.type "list") [.type "tuple", .type "list"] = some true := by
  unfold PySem.W.kitAny
  rw [kit_lt]
  show PySem.W.kitAny K (.type "list") [.type "list"] = some true
  unfold PySem.W.kitAny
  rw [kit_ll]
theorem kitA_i : PySem.W.kitAny K (.type "int") [.type "tuple", .type "list"] = some false := by
  unfold PySem.W.kitAny
  rw [kit_it]
  show PySem.W.kitAny K (.type "int") [.type "list"] = some false
  unfold PySem.W.kitAny
  rw [kit_il]
  rfl
end
section
variable {P : Program} {w : World} {K : PySem.W.Frag} {mg : Str → Option Value} {base : Heap} {cT cS : Addr}
def spAny : Sp := fun vs H Q _ => ∃ (g c b : Addr) (xs : List V), vs = [.ref g, .ref b] ∧ H b = some (.lst xs) ∧ b ≠ g ∧ 0 < xs.length ∧ xs.length < 1000000 ∧ Hand g c H ∧ ∀ H' (i : Nat) x, But g H H' → Hand g c H' → xs[i]? = some x → Q x H'
theorem ok_any (T : Tx K mg cT cS) {f : Addr} {fd : FuncData} (d : D K mg "_law_any" s_law_any ["hand", "items"] f fd) : FnOk P w K mg base CX0 2 f fd ["hand", "items"] spAny := by
  obtain ⟨f1, fd1, d1⟩ := T.d_law_draw
  have G1 : FnOk P w K mg base CX0 1 f1 fd1 ["hand", "many"] spDraw := ok_draw T d1
  refine d.F.ok sc_law_any (fun vs H Q E h => ?_) (fun cdv A outer s H vs Q E hr h => ?_)
  · obtain ⟨g, c, b, xs, rfl, _⟩ := h
    rfl
  · obtain ⟨g, c, b, xs, rfl, hb, hne, h0, h1, hh, q⟩ := h
    refine ⟨_, pss_one (ps_ret (pe_ix ix_list (pv 1) (pe_call G1 hr rfl d1.m d1.F.kp d1.b .nil pass0 (pa_cons (pv 0) (pa_cons (pe_callB call_len_seq (by rfl) T.b_len PySem.boot_len (pa_cons (pv 1) pa_nil)) pa_nil))) (fun _ _ => rfl))), ?_⟩
    refine ⟨_, rfl, _, rfl, _, rfl, _, _, rfl, .inl (.of hb), g, c, _, rfl, by omega, by omega, hh, fun H2 n bt hh2 n0 n1 => ?_⟩
    obtain ⟨k, rfl⟩ : ∃ k : Nat, n = (k : Int) := ⟨n.toNat, by omega⟩
    have hk : xs[k]? = some (xs[k]'(by omega)) := List.getElem?_eq_getElem (by omega)
    exact ⟨b, xs, _, _, rfl, rfl, .of (bt.lst hne hb), atI_nat hk, q _ k _ bt hh2 hk⟩
def spIs (n : Nat) : Sp := fun vs H Q _ => ∃ (x y : V), vs = [x, y] ∧ Alike H n x y ∧ ∀ H', Same H H' → Q (.bl true) H'
theorem sp_len (n : Nat) : ∀ vs H Q E, spIs n vs H Q E → vs.length = ["told", "due"].length := fun vs H Q E h => by
  obtain ⟨x, y, rfl, _⟩ := h
  rfl
/-- the int's way, at any depth -/
theorem ok_is (T : Tx K mg cT cS) {f : Addr} {fd : FuncData} (d : D K mg "_law_is" s_law_is ["told", "due"] f fd) : ∀ n : Nat, FnOk P w K mg base CX0 (n + 1) f fd ["told", "due"] (spIs n) := by
  intro n
  induction n with
  | zero =>
    refine d.F.ok sc_law_is (sp_len 0) (fun cdv A outer s H vs Q E hr h => ?_)
    obtain ⟨x, y, rfl, ⟨k, rfl, rfl⟩, q⟩ := h
    refine ⟨_, pss_cons (ps_if (pt_val (pe_callB call_isiT (by rfl) T.b_isinstance (by decide +kernel) (pa_cons (pv 1) (pa_cons (pe_tup (pa_cons (ty_tuple T.b_tuple) (pa_cons (ty_list T.b_list) pa_nil))) pa_nil)))) pss_never pss_nil)
      (pss_one (ps_ret (pe_and (pe_cmpR op_eq (pe_callB call_isi (by rfl) T.b_isinstance (by decide +kernel) (pa_cons (pv 0) (pa_cons (ty_bool T.b_bool) pa_nil))) (pe_callB call_isi (by rfl) T.b_isinstance (by decide +kernel) (pa_cons (pv 1) (pa_cons (ty_bool T.b_bool) pa_nil))) (nomark _))
        (pe_one (pe_cmpR op_eq (pv 0) (pv 1) (nomark _)))))), ?_⟩
    refine ⟨_, rfl, by show 2 ≤ sizeLine; decide, fun p np => ⟨_, p, _, _, _, _, rfl, upd_same, .cons (.ty _) (.cons (.ty _) .nil), .base (.int _), kitA_i, _, rfl, iteF ?_⟩⟩
    refine ⟨_, rfl, _, _, _, _, _, rfl, .ty _, .base (.int _), kit_ib, _, rfl, _, _, _, _, _, rfl, .ty _, .base (.int _), kit_ib, rfl, true, rfl, ?_⟩
    refine iteT ⟨_, rfl, _, rfl, rfl, ?_⟩
    rw [decide_eq_true rfl]
    exact q _ (same_new np)
  | succ n G =>
    refine d.F.ok sc_law_is (sp_len (n + 1)) (fun cdv A outer s H vs Q E hr h => ?_)
    obtain ⟨x, y, rfl, h, q⟩ := h
    refine ⟨_, pss_cons (ps_if (pt_val (pe_callB call_isiT (by rfl) T.b_isinstance (by decide +kernel) (pa_cons (pv 1) (pa_cons (pe_tup (pa_cons (ty_tuple T.b_tuple) (pa_cons (ty_list T.b_list) pa_nil))) pa_nil))))
        (pss_cons (ps_if (PW.pt (pw_or (pt_cmpR op_ne (pe_callB call_isi (by rfl) T.b_isinstance (by decide +kernel) (pa_cons (pv 0) (pa_cons (ty_tuple T.b_tuple) pa_nil))) (pe_callB call_isi (by rfl) T.b_isinstance (by decide +kernel) (pa_cons (pv 1) (pa_cons (ty_tuple T.b_tuple) pa_nil))) (nomark _))
            (pw_or1 (pt_not (pt_val (pe_callB call_isiT (by rfl) T.b_isinstance (by decide +kernel) (pa_cons (pv 0) (pa_cons (pe_tup (pa_cons (ty_tuple T.b_tuple) (pa_cons (ty_list T.b_list) pa_nil))) pa_nil)))))))) pss_never pss_nil)
          (pss_one (ps_ret (pe_and (pe_cmpR op_eq (pe_callB call_len_seq (by rfl) T.b_len PySem.boot_len (pa_cons (pv 0) pa_nil)) (pe_callB call_len_seq (by rfl) T.b_len PySem.boot_len (pa_cons (pv 1) pa_nil)) (nomark _))
            (pe_one (pe_callB (cr_all rfl) (by rfl) T.b_all (by decide +kernel) (pa_cons
              (pe_lc (own := [("one", 2), ("two", 3)]) (g := gTup K 2 (gCons (gName 2) (gCons (gName 3) gNil))) (tt := tYes) rfl sc_law_is.nd (RZ.pi_zipA (by rfl) T.b_zip (pa_cons (pv 0) (pa_cons (pv 1) pa_nil))) (blkOk_by (N := N_law_is) (sc := defScope s_law_is) (by decide +kernel))
                (fun _ _ _ _ _ => pgT rfl rfl (pgs_cons (pg_name (i := 2) sc_law_is.nd rfl (Or.inl rfl)) (pgs_cons (pg_name (i := 3) sc_law_is.nd rfl (Or.inl rfl)) pgs_nil))) (fun _ _ _ _ _ => pts_nil)
                (fun _ _ _ _ _ => pe_call G hr rfl d.m d.F.kp d.b .nil pass0 (pa_cons (pv 2) (pa_cons (pv 3) pa_nil)))) pa_nil))))))) pss_nil)
      (pss_one (ps_ret (pe_and (pe_cmpR op_eq (pe_callB call_isi (by rfl) T.b_isinstance (by decide +kernel) (pa_cons (pv 0) (pa_cons (ty_bool T.b_bool) pa_nil))) (pe_callB call_isi (by rfl) T.b_isinstance (by decide +kernel) (pa_cons (pv 1) (pa_cons (ty_bool T.b_bool) pa_nil))) (nomark _))
        (pe_one (pe_cmpR op_eq (pv 0) (pv 1) (nomark _)))))), ?_⟩
    rcases h with ⟨k, rfl, rfl⟩ | ⟨a, b, xs, ys, rfl, rfl, h, hl, hp⟩
    · refine ⟨_, rfl, by show 2 ≤ sizeLine; decide, fun p np => ⟨_, p, _, _, _, _, rfl, upd_same, .cons (.ty _) (.cons (.ty _) .nil), .base (.int _), kitA_i, _, rfl, iteF ?_⟩⟩
      refine ⟨_, rfl, _, _, _, _, _, rfl, .ty _, .base (.int _), kit_ib, _, rfl, _, _, _, _, _, rfl, .ty _, .base (.int _), kit_ib, rfl, true, rfl, ?_⟩
      refine iteT ⟨_, rfl, _, rfl, rfl, ?_⟩
      rw [decide_eq_true rfl]
      exact q _ (same_new np)
    · have hle := paired_len hp
      have turn : ∀ {H1 : Hp} {D : Addr} {i : Nat} {x : V} {H2 H3 : Hp}, Same H H1 → H1 D = none → i < xs.length → PvFm rBl (fun _ => some true) D H1 i H2 → YPair (fun i => xs[i]?) (fun i => ys[i]?) i H2 x H3 →
          gTup K 2 (gCons (gName 2) (gCons (gName 3) gNil)) x (wipe (L2.start N_law_is [V.ref a, V.ref b]) [2, 3]) H3 fun σ2 H2 => wipe σ2 [2, 3] = wipe (L2.start N_law_is [V.ref a, V.ref b]) [2, 3] ∧ tYes σ2 H2 fun b H3 =>
            if b = true then tCall (spIs n) [] E0 (tCons (tVar 2) (tCons (tVar 3) tNil)) σ2 H3 fun y H4 => ∃ acc, H4 D = some (.lst acc) ∧ acc.length < sizeLine ∧ PvFm rBl (fun _ => some true) D H1 (i + 1) (upd H4 D (.lst (acc ++ [y]))) else PvFm rBl (fun _ => some true) D H1 (i + 1) H3 := by
        rintro H1 D i x H2 H3 s1 hD hi pv ⟨tz, u1, u2, rfl, nz, rfl, e1, e2⟩
        obtain ⟨v, hv, hal⟩ := paired_get hp e1
        have : v = u2 := by
          have e2' : ys[i]? = some u2 := e2
          rw [hv] at e2'
          exact Option.some.inj e2'
        subst this
        have s3 := same_new (o := .tup [u1, v]) nz
        refine ⟨tz, _, rfl, .of upd_same, rfl, _, _, rfl, _, _, rfl, rfl, rfl, ?_⟩
        refine ⟨_, rfl, _, rfl, u1, v, rfl, alike_same ((s1.trans pv.1).trans s3) n hal, fun H5 s5 => ?_⟩
        exact fm_keep mono_bl pv hD (by omega) (s3.trans s5) rfl rfl
      rcases h with ⟨h1, h2⟩ | ⟨h1, h2⟩
      · refine ⟨_, rfl, by show 2 ≤ sizeLine; decide, fun p np => ⟨_, p, _, _, _, _, rfl, upd_same, .cons (.ty _) (.cons (.ty _) .nil), .base (.tup ((same_new np).keep.tup h2)), kitA_t, _, rfl, iteT ?_⟩⟩
        have s1 := same_new (o := .tup [V.ty "tuple", V.ty "list"]) np
        refine ⟨_, rfl, _, _, _, _, _, rfl, .ty _, .base (.tup (s1 _ _ h1)), kit_tt, _, rfl, _, _, _, _, _, rfl, .ty _, .base (.tup (s1 _ _ h2)), kit_tt, rfl, _, rfl, iteF ?_⟩
        refine ⟨_, rfl, by show 2 ≤ sizeLine; decide, fun p2 np2 => ⟨_, p2, _, _, _, _, rfl, upd_same, .cons (.ty _) (.cons (.ty _) .nil), .base (.tup ((same_new np2) _ _ (s1 _ _ h1))), kitA_t, _, rfl, iteF ?_⟩⟩
        have s2 := s1.trans (same_new (o := .tup [V.ty "tuple", V.ty "list"]) np2)
        refine ⟨_, rfl, _, _, rfl, .inr (.of (s2 _ _ h1)), _, rfl, _, _, rfl, .inr (.of (s2 _ _ h2)), rfl, true, by rw [hle]; simp, ?_⟩
        refine iteT ⟨_, rfl, _, rfl, a, b, xs, ys, rfl, .inr ⟨.of (s2 _ _ h1), .of (s2 _ _ h2), fun D hD => ?_⟩⟩
        refine lc_fm (walk_zipT (n := xs.length) (by omega)) rBl (fun _ => some true) hD (fun H' s' => ⟨.of (s' _ _ (s2 _ _ h1)), .of (s' _ _ (s2 _ _ h2))⟩) (fun i x H2 H3 hi pv y => turn s2 hD hi pv y) ?_
        intro H3 zs s3 hD3 hp3
        have := paired_bl hp3
        subst this
        refine ⟨_, _, rfl, .of hD3, ?_⟩
        rw [all_true_fm rfl]
        exact q _ (s2.trans s3)
      · refine ⟨_, rfl, by show 2 ≤ sizeLine; decide, fun p np => ⟨_, p, _, _, _, _, rfl, upd_same, .cons (.ty _) (.cons (.ty _) .nil), .base (.lst ((same_new np) _ _ h2)), kitA_l, _, rfl, iteT ?_⟩⟩
        have s1 := same_new (o := .tup [V.ty "tuple", V.ty "list"]) np
        refine ⟨_, rfl, _, _, _, _, _, rfl, .ty _, .base (.lst (s1 _ _ h1)), kit_lt, _, rfl, _, _, _, _, _, rfl, .ty _, .base (.lst (s1 _ _ h2)), kit_lt, rfl, _, rfl, iteF ?_⟩
        refine ⟨_, rfl, by show 2 ≤ sizeLine; decide, fun p2 np2 => ⟨_, p2, _, _, _, _, rfl, upd_same, .cons (.ty _) (.cons (.ty _) .nil), .base (.lst ((same_new np2) _ _ (s1 _ _ h1))), kitA_l, _, rfl, iteF ?_⟩⟩
        have s2 := s1.trans (same_new (o := .tup [V.ty "tuple", V.ty "list"]) np2)
        refine ⟨_, rfl, _, _, rfl, .inl (.of (s2 _ _ h1)), _, rfl, _, _, rfl, .inl (.of (s2 _ _ h2)), rfl, true, by rw [hle]; simp, ?_⟩
        refine iteT ⟨_, rfl, _, rfl, a, b, xs, ys, rfl, .inl ⟨.of (s2 _ _ h1), .of (s2 _ _ h2), fun D hD => ?_⟩⟩
        refine lc_fm (walk_zip (n := xs.length) (by omega)) rBl (fun _ => some true) hD (fun H' s' => ⟨.of (s' _ _ (s2 _ _ h1)), .of (s' _ _ (s2 _ _ h2))⟩) (fun i x H2 H3 hi pv y => turn s2 hD hi pv y) ?_
        intro H3 zs s3 hD3 hp3
        have := paired_bl hp3
        subst this
        refine ⟨_, _, rfl, .of hD3, ?_⟩
        rw [all_true_fm rfl]
        exact q _ (s2.trans s3)
end
end S4

namespace S4
open PySem L2 TT MM
/-! ### comprehensions that draw -/
section
variable {J : It} {n : Nat} {G : Hp → Prop} {Y : Nat → Hp → V → Hp → Prop} {H1 : Hp} {g c D : Addr} {α : Type}
def PvDr (R : Rp α) (F : α → Prop) (g c D : Addr) (H1 : Hp) (i : Nat) (H : Hp) : Prop := But g H1 H ∧ Hand g c H ∧ ∃ xs l, H D = some (.lst xs) ∧ Paired (R H) xs l ∧ l.length = i ∧ ∀ a ∈ l, F a
theorem dr_ne (h : Hand g c H1) (hD : H1 D = none) : D ≠ g ∧ D ≠ c := by
  obtain ⟨_, e⟩ := h.lst
  obtain ⟨_, e2⟩ := h.cells
  exact ⟨fun q => (by rw [q, e] at hD; cases hD), fun q => (by rw [q, e2] at hD; cases hD)⟩
theorem dr_start {R : Rp α} {F : α → Prop} (h : Hand g c H1) (hD : H1 D = none) : PvDr R F g c D H1 0 (upd H1 D (.lst [])) :=
  ⟨(same_new hD).but g, h.same (same_new hD), [], [], upd_same, .nil, rfl, fun _ h => nomatch h⟩
theorem dr_keep {R : Rp α} (m : Mono R) {F : α → Prop} {i : Nat} {H H4 : Hp} {y : V} {a : α} (h : Hand g c H1) (p : PvDr R F g c D H1 i H) (hD : H1 D = none) (hi : i ≤ 100000) (b4 : But g H H4) (h4 : Hand g c H4) (ra : R H4 y a) (fa : F a) :
    ∃ acc, H4 D = some (.lst acc) ∧ acc.length < sizeLine ∧ PvDr R F g c D H1 (i + 1) (upd H4 D (.lst (acc ++ [y]))) := by
  obtain ⟨b, hh, xs, l, h1, h2, h3, hf⟩ := p
  obtain ⟨d1, d2⟩ := dr_ne h hD
  have hD4 : H4 D = some (.lst xs) := b4.lst d1 h1
  have k5 : Keep H4 (upd H4 D (.lst (xs ++ [y]))) := keep_lst hD4
  have hlen := paired_len h2
  refine ⟨xs, hD4, Nat.lt_of_le_of_lt (Nat.le_trans (by omega) hi) (by decide), fun x o hx e => ?_, h4.setD d1 d2, xs ++ [y], l ++ [a], upd_same, ?_, by rw [List.length_append, h3]; rfl, fun z hz => ?_⟩
  · have hxD : x ≠ D := fun q => by subst q; rw [hD] at e; cases e
    rw [upd_ne hxD]
    exact (b.trans b4) x o hx e
  · exact paired_app (paired_mono m k5 (paired_mono m (hh.keep b4) h2)) (.cons (m _ _ _ _ k5 ra) .nil)
  · rcases List.mem_append.mp hz with hz | hz
    · exact hf z hz
    · rw [List.mem_singleton.mp hz]
      exact fa
end
theorem erase_map {α β : Type} (f : α → β) (l : List α) (i : Nat) : (l.map f).eraseIdx i = (l.eraseIdx i).map f := by
  rw [List.eraseIdx_eq_take_drop_succ, List.eraseIdx_eq_take_drop_succ, List.map_append, List.map_take, List.map_drop]
theorem erase_perm {α : Type} {l : List α} {i : Nat} (h : i < l.length) : (l[i] :: l.eraseIdx i).Perm l := by
  rw [List.eraseIdx_eq_take_drop_succ]
  have e : l = l.take i ++ l[i] :: l.drop (i + 1) := by rw [← List.drop_eq_getElem_cons h, List.take_append_drop]
  exact List.perm_middle.symm.trans (.of_eq e.symm)
theorem seqIx_nat {j n : Nat} (h : j < n) : seqIndex? (j : Int) n = some j := by
  unfold seqIndex?
  have e1 : (if (j : Int) < 0 then (j : Int) + (n : Int) else (j : Int)) = j := if_neg (by omega)
  simp only [e1]
  rw [if_pos (by rw [Bool.and_eq_true]; exact ⟨decide_eq_true (by omega), decide_eq_true (by omega)⟩), Int.toNat_natCast]
theorem hand_new {g c p : Addr} {H : Hp} (h : Hand g c H) (hp : H p = none) : p ≠ g ∧ p ≠ c := dr_ne h hp
section
variable {P : Program} {w : World} {K : PySem.W.Frag} {mg : Str → Option Value} {base : Heap} {cT cS : Addr}
/-! ### a mixed list -/
def spMixed : Sp := fun vs H Q _ => ∃ (g c b : Addr) (ns : List Int), vs = [.ref g, .ref b] ∧ H b = some (.lst (ns.map V.int)) ∧ b ≠ g ∧ ns.length ≤ 1000 ∧ Hand g c H ∧
  ∀ H' p (ms : List Int), But g H H' → Hand g c H' → H p = none → H' p = some (.lst (ms.map V.int)) → ms.Perm ns → Q (.ref p) H'
theorem ok_mixed (T : Tx K mg cT cS) {f : Addr} {fd : FuncData} (d : D K mg "_law_mixed" s_law_mixed ["hand", "items"] f fd) : FnOk P w K mg base CX0 2 f fd ["hand", "items"] spMixed := by
  obtain ⟨f1, fd1, d1⟩ := T.d_law_draw
  have G1 : FnOk P w K mg base CX0 1 f1 fd1 ["hand", "many"] spDraw := ok_draw T d1
  refine d.F.ok sc_law_mixed (fun vs H Q E h => ?_) (fun cdv A outer s H vs Q E hr h => ?_)
  · obtain ⟨g, c, b, ns, rfl, _⟩ := h
    rfl
  · obtain ⟨g, c, b, ns, rfl, hb, hne, hl, hh, q⟩ := h
    refine ⟨_, pss_cons (ps_par (i := 2) (j := 3) (by rfl) sc_law_mixed.nd rfl rfl (by decide) rfl rfl (pa_cons (pe_callTy call_list_of (by rfl) T.b_list (by decide +kernel) (pa_cons (pv 1) pa_nil)) (pa_cons (pe_lst pa_nil) pa_nil)) (by rfl))
      (pss_cons (ps_for PassesOwn.never rfl (pi_range1 rfl T.b_range (pa_cons (pe_callB call_len_seq (by rfl) T.b_len PySem.boot_len (pa_cons (pv 2) pa_nil)) pa_nil)) (pg_name (i := 4) sc_law_mixed.nd rfl (Or.inl rfl))
        (pss_one (ps_expr (pe_bm PySem.F.plainAttrs_list PySem.F.slot_list_append PySem.F.type_list_append mt_append (pv 3)
          (pa_cons (pe_bm PySem.F.plainAttrs_list PySem.F.slot_list_pop PySem.F.type_list_pop mt_popAt (pv 2)
            (pa_cons (pe_call G1 hr rfl d1.m d1.F.kp d1.b .nil pass0 (pa_cons (pv 0) (pa_cons (pe_callB call_len_seq (by rfl) T.b_len PySem.boot_len (pa_cons (pv 2) pa_nil)) pa_nil))) pa_nil)) pa_nil)))))
      (pss_one (ps_ret (pv 3)))), ?_⟩
    refine ⟨_, rfl, b, _, rfl, .inl (.of hb), fun l nl => ⟨Nat.zero_le _, fun o no => ⟨_, _, rfl, ?_⟩⟩⟩
    have s1 := same_new (o := .lst (ns.map V.int)) nl
    have s2 := same_new (o := .lst []) no
    have hlo : l ≠ o := fun e => by subst e; rw [upd_same] at no; cases no
    have no0 : H o = none := s1.free no
    obtain ⟨lg, lc⟩ := hand_new hh nl
    obtain ⟨og, oc⟩ := hand_new hh no0
    have hl2 : (upd (upd H l (.lst (ns.map V.int))) o (.lst [])) l = some (.lst (ns.map V.int)) := s2 _ _ upd_same
    dsimp only [gName, tSeq]
    refine ⟨_, rfl, _, _, rfl, .inl (.of hl2), _, rfl, by rw [List.length_map]; omega, by rw [List.length_map]; omega, ?_⟩
    refine for_range (lo := 0) (n := (((ns.map V.int).length : Nat) : Int).toNat) (fun i σ H' => ∃ (ms1 ms2 : List Int) (x : Option V), σ = [some (.ref g), some (.ref b), some (.ref l), some (.ref o), x] ∧ But g H H' ∧ Hand g c H' ∧ H' l = some (.lst (ms1.map V.int)) ∧ H' o = some (.lst (ms2.map V.int)) ∧
      (ms2 ++ ms1).Perm ns ∧ ms2.length = i) ⟨ns, [], none, rfl, ((s1.trans s2).but g), hh.same (s1.trans s2), hl2, upd_same, .refl _, rfl⟩ ?_ ?_
    · rintro i σ H2 hi ⟨ms1, ms2, x, rfl, bt, hh2, h1, h2, hp, hm⟩
      rw [Int.toNat_natCast, List.length_map] at hi
      have hlen := hp.length_eq
      rw [List.length_append] at hlen
      refine ⟨_, rfl, .inl ⟨rfl, _, .of h2⟩, _, rfl, .inl ⟨rfl, _, .of h1⟩, _, rfl, _, rfl, _, _, rfl, .inl (.of h1), g, c, _, rfl, by rw [List.length_map]; omega, by rw [List.length_map]; omega, hh2, fun H3 k b3 hh3 k0 k1 => ?_⟩
      rw [List.length_map] at k1
      obtain ⟨j, rfl⟩ : ∃ j : Nat, k = (j : Int) := ⟨k.toNat, by omega⟩
      have hj : ms1[j]? = some (ms1[j]'(by omega)) := List.getElem?_eq_getElem (by omega)
      have h13 := b3.lst lg h1
      have h23 := b3.lst og h2
      refine ⟨l, _, _, j, _, rfl, rfl, h13, by omega, by omega, ?_, int_at hj, ?_⟩
      · exact seqIx_nat (by rw [List.length_map]; omega)
      refine ⟨o, _, _, rfl, rfl, by rw [upd_ne hlo.symm]; exact h23, by rw [List.length_map]; exact Nat.lt_of_le_of_lt (by omega : ms2.length ≤ 1000) (by decide), ?_⟩
      refine ⟨ms1.eraseIdx j, ms2 ++ [ms1[j]'(by omega)], _, rfl, fun a u ha e => ?_, ?_, ?_, ?_, ?_, by rw [List.length_append, hm]; rfl⟩
      · rw [upd_ne (fun z => by subst z; rw [no0] at e; cases e), upd_ne (fun z => by subst z; rw [nl] at e; cases e)]
        exact (bt.trans b3) a u ha e
      · exact (hh3.setD lg lc).setD og oc
      · rw [upd_ne hlo, upd_same, erase_map]
      · rw [upd_same, List.map_append]
        rfl
      · have e1 := erase_perm (l := ms1) (i := j) (by omega)
        rw [List.append_assoc]
        exact (List.Perm.append_left ms2 e1).trans hp
    · rintro σ H2 ⟨ms1, ms2, x, rfl, bt, hh2, h1, h2, hp, hm⟩
      rw [Int.toNat_natCast, List.length_map] at hm
      have hlen := hp.length_eq
      rw [List.length_append] at hlen
      have : ms1 = [] := List.eq_nil_of_length_eq_zero (by omega)
      subst this
      rw [List.append_nil] at hp
      exact ⟨_, rfl, q _ o ms2 bt hh2 no0 h2 hp⟩
/-! ### rows -/
def spLess : Sp := fun vs H Q _ => ∃ (u v : V) (p m : Int) (r1 r2 : List Int), vs = [.int p, u, v, .int m] ∧ 0 < p ∧ (-(2 ^ 64) < m ∧ m < 2 ^ 64) ∧ rRow H u r1 ∧ rRow H v r2 ∧ r1.length = r2.length ∧ r1.length ≤ 1000 ∧
  ∀ H' v' l, Same H H' → rRow H' v' l → l.length = r1.length → (∀ x ∈ l, 0 ≤ x ∧ x < p) → Q v' H'
theorem ok_less (T : Tx K mg cT cS) {f : Addr} {fd : FuncData} (d : D K mg "_law_less" s_law_less ["p", "row", "other", "many"] f fd) : FnOk P w K mg base CX0 1 f fd ["p", "row", "other", "many"] spLess := by
  refine d.F.ok sc_law_less (fun vs H Q E h => ?_) (fun cdv A outer s H vs Q E hr h => ?_)
  · obtain ⟨u, v, p, m, r1, r2, rfl, _⟩ := h
    rfl
  · obtain ⟨u, v, p, m, r1, r2, rfl, p0, hm, ⟨t1, rfl, h1⟩, ⟨t2, rfl, h2⟩, he, hl, q⟩ := h
    refine ⟨_, pss_one (ps_ret (pe_callTy call_tuple_of (by rfl) T.b_tuple (by decide +kernel) (pa_cons
        (pe_lc (own := [("one", 4), ("two", 5)]) (g := gTup K 2 (gCons (gName 4) (gCons (gName 5) gNil))) (tt := tYes) rfl sc_law_less.nd (RZ.pi_zipA (by rfl) T.b_zip (pa_cons (pv 1) (pa_cons (pv 2) pa_nil))) (blkOk_by (N := N_law_less) (sc := defScope s_law_less) (by decide +kernel))
                (fun _ _ _ _ _ => pgT rfl rfl (pgs_cons (pg_name (i := 4) sc_law_less.nd rfl (Or.inl rfl)) (pgs_cons (pg_name (i := 5) sc_law_less.nd rfl (Or.inl rfl)) pgs_nil))) (fun _ _ _ _ _ => pts_nil)
                (fun _ _ _ _ _ => pe_op op_mod (pe_callTy call_int1 (by rfl) T.b_int (by decide +kernel) (pa_cons (pe_op op_sub (pv 4) (pe_op op_mul (pv 3) (pv 5))) pa_nil)) (pv 0))) pa_nil))), ?_⟩
    refine ⟨_, rfl, _, rfl, t1, t2, _, _, rfl, .inr ⟨.of h1, .of h2, fun D hD => ?_⟩⟩
    refine lc_fm (walk_zipT (n := r1.length) (by rw [List.length_map, List.length_map]; omega)) rInt (fun i => some ((r1.getD i 0 - m * r2.getD i 0) % p)) hD (fun H' s' => ⟨.of (s'.keep.tup h1), .of (s'.keep.tup h2)⟩) ?_ ?_
    · rintro i x H2 H3 hi pv ⟨tz, u1, u2, rfl, nz, rfl, e1, e2⟩
      obtain ⟨a, ha, rfl⟩ := at_int e1
      obtain ⟨b, hb, rfl⟩ := at_int e2
      refine ⟨tz, _, rfl, .of upd_same, rfl, _, _, rfl, _, _, rfl, rfl, rfl, ?_⟩
      refine ⟨_, rfl, _, rfl, _, rfl, _, _, rfl, rfl, .inl hm, _, _, rfl, rfl, .inl ⟨_, rfl, _, rfl, _, _, rfl, rfl, p0, ?_⟩⟩
      exact fm_keep mono_int pv hD (by omega) (same_new nz) rfl (by rw [getD_at ha, getD_at hb]; rfl)
    · intro H2 ys s2 hD2 hp2
      rw [fm_all] at hp2
      have := paired_int hp2
      subst this
      refine ⟨D, _, rfl, .inl ⟨.of hD2, fun t nt => ?_⟩⟩
      refine q _ _ _ (s2.trans (same_new nt)) ⟨t, rfl, upd_same⟩ (by rw [List.length_map, List.length_range]) fun x hx => ?_
      obtain ⟨i, _, rfl⟩ := List.mem_map.mp hx
      exact mod_b p0
def spSummed : Sp := fun vs H Q _ => ∃ (a b : Addr) (p : Int) (wd : Nat) (xs : List V) (rws : List (List Int)) (ms : List Int), vs = [.int p, .int (wd : Int), .ref a, .ref b] ∧ 0 < p ∧ wd ≤ 1000 ∧ H a = some (.lst xs) ∧ Paired (rRow H) xs rws ∧ (∀ r ∈ rws, r.length = wd) ∧
  H b = some (.lst (ms.map V.int)) ∧ (∀ m ∈ ms, -(2 ^ 63) < m ∧ m < 2 ^ 63) ∧ ∀ H' v' l, Same H H' → rRow H' v' l → isRow l p wd → Q v' H'
theorem rep_row (H : Hp) (k : Nat) : (List.replicate k [V.int 0]).flatten = (List.replicate k (0 : Int)).map V.int := by
  induction k with
  | zero => rfl
  | succ k ih => rw [List.replicate_succ, List.replicate_succ, List.flatten_cons, ih, List.map_cons]; rfl
/-- (0,) * k -/
theorem zeros {K : PySem.W.Frag} {H : Hp} {t : Addr} {k : Nat} {Q : V → Hp → Prop} (ht : H t = some (.tup [V.int 0])) (hk : k ≤ 1000) (q : ∀ H' v, Same H H' → rRow H' v (List.replicate k 0) → Q v H') : rRepA K (.ref t) (.int (k : Int)) H Q := by
  refine ⟨t, k, [V.int 0], rfl, rfl, .of ht, by simp, by omega, by omega, by show 1 ≤ 1000; decide, fun e => ?_, fun e p np => ?_⟩
  · have : k = 1 := by omega
    subst this
    exact q H _ (.refl _) ⟨t, rfl, ht⟩
  · refine q _ _ (same_new np) ⟨p, rfl, ?_⟩
    rw [upd_same, Int.toNat_natCast, rep_row H k]
theorem isRow_zeros {p : Int} (p0 : 0 < p) (k : Nat) : isRow (List.replicate k 0) p k := ⟨by rw [List.length_replicate], fun v hv => by rw [(List.mem_replicate.mp hv).2]; omega⟩
theorem ok_summed (T : Tx K mg cT cS) {f : Addr} {fd : FuncData} (d : D K mg "_law_summed" s_law_summed ["p", "wide", "rows", "many"] f fd) : FnOk P w K mg base CX0 2 f fd ["p", "wide", "rows", "many"] spSummed := by
  obtain ⟨f1, fd1, d1⟩ := T.d_law_less
  have G1 : FnOk P w K mg base CX0 1 f1 fd1 ["p", "row", "other", "many"] spLess := ok_less T d1
  refine d.F.ok sc_law_summed (fun vs H Q E h => ?_) (fun cdv A outer s H vs Q E hr h => ?_)
  · obtain ⟨a, b, p, wd, xs, rws, ms, rfl, _⟩ := h
    rfl
  · obtain ⟨a, b, p, wd, xs, rws, ms, rfl, p0, hw, ha, hp, hrw, hb, hms, q⟩ := h
    refine ⟨_, pss_cons (ps_set (i := 4) sc_law_summed.nd rfl (.inl rfl) (pe_op op_repA (pe_tup (pa_cons pe_int pa_nil)) (pv 1)))
      (pss_cons (ps_for PassesOwn.never rfl (pi_zip (by rfl) T.b_zip (pa_cons (pv 2) (pa_cons (pv 3) pa_nil))) (pg_tup rfl (pgs_cons (pg_name (i := 5) sc_law_summed.nd rfl (.inl rfl)) (pgs_cons (pg_name (i := 6) sc_law_summed.nd rfl (.inl rfl)) pgs_nil)))
        (pss_one (ps_set (i := 4) sc_law_summed.nd rfl (.inl rfl) (pe_ifExp (pt_cmpR op_ne (pv 6) pe_int (nomark _)) (pe_call G1 hr rfl d1.m d1.F.kp d1.b .nil pass0 (pa_cons (pv 0) (pa_cons (pv 4) (pa_cons (pv 5) (pa_cons (pe_un un_neg (pv 6)) pa_nil))))) (pv 4)))))
      (pss_one (ps_ret (pv 4)))), ?_⟩
    refine ⟨by show 1 ≤ sizeLine; decide, fun t nt => ⟨_, rfl, ?_⟩⟩
    refine zeros upd_same hw fun H2 v2 s2 hrow2 => ?_
    have s02 := (same_new nt).trans s2
    dsimp only [gName, tSeq]
    refine ⟨_, rfl, _, rfl, a, b, _, _, rfl, .of (s02 _ _ ha), .of (s02 _ _ hb), ?_⟩
    refine for_it (walk_zip (n := min xs.length (ms.map V.int).length) rfl) (fun i σ H' => Same H H' ∧ ∃ (v : V) (l : List Int) (x y : Option V), σ = [some (.int p), some (.int (wd : Int)), some (.ref a), some (.ref b), some v, x, y] ∧ rRow H' v l ∧ isRow l p wd)
      ⟨s02, v2, _, none, none, rfl, hrow2, isRow_zeros p0 wd⟩ (fun i σ H' _ h => ⟨.of (h.1 _ _ ha), .of (h.1 _ _ hb)⟩) ?_ ?_
    · rintro i x σ H3 H4 hi ⟨s3, v, l, x1, x2, rfl, hrow, hir⟩ ⟨tz, u1, u2, rfl, nz, rfl, e1, e2⟩
      have s4 := same_new (o := .tup [u1, u2]) nz
      obtain ⟨r, hr1, hrr⟩ := paired_get (paired_mono mono_row (s3.trans s4).keep hp) e1
      obtain ⟨m, hm, rfl⟩ := at_int e2
      have hmb := hms m (List.mem_of_getElem? hm)
      have hrl := hrw r (List.mem_of_getElem? hr1)
      have hll := hir.1
      refine ⟨tz, _, rfl, .of upd_same, rfl, _, _, rfl, _, _, rfl, rfl, ?_⟩
      refine ⟨_, rfl, rfl, _, rfl, ?_⟩
      by_cases hz : m = 0
      · subst hz
        rw [decide_eq_true rfl]
        exact iteF ⟨_, rfl, s3.trans s4, v, l, _, _, rfl, mono_row _ _ _ _ s4.keep hrow, hir⟩
      · rw [decide_eq_false (fun e => hz (V.int.inj e))]
        refine iteT ⟨_, rfl, _, rfl, _, rfl, _, rfl, m, rfl, v, u1, p, -m, l, r, rfl, p0, ⟨by omega, by omega⟩, mono_row _ _ _ _ s4.keep hrow, hrr, by omega, by omega, fun H5 v5 l5 s5 hrow5 hl5 hb5 => ?_⟩
        exact ⟨(s3.trans s4).trans s5, v5, l5, _, _, rfl, hrow5, by rw [hl5]; omega, hb5⟩
    · rintro σ H3 ⟨s3, v, l, x1, x2, rfl, hrow, hir⟩
      exact ⟨_, rfl, q _ _ l s3 hrow hir⟩
/-! ### clocks -/
def noDivB (n : Nat) : Bool := decide (2 ≤ n) && decide (n ≤ 1000000) && (List.range 1001).all fun k => decide (k < 2) || decide (n < k * k) || decide (n % k ≠ 0)
theorem noDiv_of {n : Nat} (h : noDivB n = true) : NoDiv (n : Int) := by
  unfold noDivB at h
  rw [Bool.and_eq_true, Bool.and_eq_true] at h
  obtain ⟨⟨h1, h2⟩, h3⟩ := h
  have h1 := of_decide_eq_true h1
  have h2 := of_decide_eq_true h2
  refine ⟨by omega, by omega, fun k hk hkk => ?_⟩
  have hk1 := sq_small hk (Int.le_trans hkk (by omega))
  obtain ⟨j, rfl⟩ : ∃ j : Nat, k = (j : Int) := ⟨k.toNat, by omega⟩
  have h4 := List.all_eq_true.mp h3 j (List.mem_range.mpr (by omega))
  rw [Bool.or_eq_true, Bool.or_eq_true] at h4
  rcases h4 with (h4 | h4) | h4
  · have := of_decide_eq_true h4
    omega
  · have := of_decide_eq_true h4
    have e : ((j * j : Nat) : Int) = (j : Int) * (j : Int) := Int.natCast_mul j j
    omega
  · have := of_decide_eq_true h4
    intro e
    apply this
    have e2 : ((n % j : Nat) : Int) = (n : Int) % (j : Int) := Int.natCast_emod n j
    omega
def spClock : Sp := fun vs H Q _ => ∃ (g c : Addr), vs = [.ref g] ∧ Hand g c H ∧ ∀ H' p, But g H H' → Hand g c H' → NoDiv p → p ≤ 999983 → Q (.int p) H'
theorem ok_clock (T : Tx K mg cT cS) {f : Addr} {fd : FuncData} (d : D K mg "_law_clock" s_law_clock ["hand"] f fd) : FnOk P w K mg base CX0 3 f fd ["hand"] spClock := by
  obtain ⟨f1, fd1, d1⟩ := T.d_law_any
  have G1 : FnOk P w K mg base CX0 2 f1 fd1 ["hand", "items"] spAny := ok_any T d1
  refine d.F.ok sc_law_clock (fun vs H Q E h => ?_) (fun cdv A outer s H vs Q E hr h => ?_)
  · obtain ⟨g, c, rfl, _⟩ := h
    rfl
  · obtain ⟨g, c, rfl, hh, q⟩ := h
    refine ⟨_, pss_one (ps_ret (pe_call G1 hr rfl d1.m d1.F.kp d1.b .nil pass0 (pa_cons (pv 0) (pa_cons (pe_lst (pa_cons pe_int (pa_cons pe_int (pa_cons pe_int (pa_cons pe_int (pa_cons pe_int (pa_cons pe_int (pa_cons pe_int (pa_cons pe_int pa_nil))))))))) pa_nil)))), ?_⟩
    refine ⟨_, rfl, by show 8 ≤ sizeLine; decide, fun b nb => ?_⟩
    have s1 := same_new (o := .lst (([2, 3, 5, 7, 2, 11, 101, 999983] : List Int).map V.int)) nb
    refine ⟨g, c, b, ([2, 3, 5, 7, 2, 11, 101, 999983] : List Int).map V.int, rfl, upd_same, (hand_new hh nb).1, by decide, by decide, hh.same s1, fun H2 i x bt hh2 hx => ?_⟩
    obtain ⟨p, hp, rfl⟩ := at_int hx
    have hm := List.mem_of_getElem? hp
    have b2 := (s1.but g).trans bt
    have : (∃ k : Nat, p = (k : Int) ∧ noDivB k = true) ∧ p ≤ 999983 := by
      simp only [List.mem_cons, List.not_mem_nil, or_false] at hm
      rcases hm with rfl | rfl | rfl | rfl | rfl | rfl | rfl | rfl
      · exact ⟨⟨2, rfl, by decide +kernel⟩, by decide⟩
      · exact ⟨⟨3, rfl, by decide +kernel⟩, by decide⟩
      · exact ⟨⟨5, rfl, by decide +kernel⟩, by decide⟩
      · exact ⟨⟨7, rfl, by decide +kernel⟩, by decide⟩
      · exact ⟨⟨2, rfl, by decide +kernel⟩, by decide⟩
      · exact ⟨⟨11, rfl, by decide +kernel⟩, by decide⟩
      · exact ⟨⟨101, rfl, by decide +kernel⟩, by decide⟩
      · exact ⟨⟨999983, rfl, by decide +kernel⟩, by decide⟩
    obtain ⟨⟨k, rfl, hk⟩, hle⟩ := this
    exact q _ _ b2 hh2 (noDiv_of hk) hle
end
end S4

namespace S4
open PySem L2 TT MM
theorem twice {Y G : Prop} (h : Y → G) (y : Y) : G := h y
section
variable {P : Program} {w : World} {K : PySem.W.Frag} {mg : Str → Option Value} {base : Heap} {cT cS : Addr}
def spSomeRow : Sp := fun vs H Q _ => ∃ (g c a : Addr) (p : Int) (wd : Nat) (xs : List V) (rws : List (List Int)), vs = [.ref g, .int p, .int (wd : Int), .ref a] ∧ 2 ≤ p ∧ p ≤ 999983 ∧ wd ≤ 1000 ∧ H a = some (.lst xs) ∧ a ≠ g ∧ Paired (rRow H) xs rws ∧ rws.length ≤ 1000 ∧ (∀ r ∈ rws, isRow r p wd) ∧
  Hand g c H ∧ ∀ H' v l, But g H H' → Hand g c H' → rRow H' v l → isRow l p wd → Q v H'
theorem ok_some_row (T : Tx K mg cT cS) {f : Addr} {fd : FuncData} (d : D K mg "_law_some_row" s_law_some_row ["hand", "p", "wide", "rows"] f fd) : FnOk P w K mg base CX0 3 f fd ["hand", "p", "wide", "rows"] spSomeRow := by
  obtain ⟨f1, fd1, d1⟩ := T.d_law_draw
  have G1 : FnOk P w K mg base CX0 1 f1 fd1 ["hand", "many"] spDraw := ok_draw T d1
  obtain ⟨f2, fd2, d2⟩ := T.d_law_any
  have G2 : FnOk P w K mg base CX0 2 f2 fd2 ["hand", "items"] spAny := ok_any T d2
  obtain ⟨f3, fd3, d3⟩ := T.d_law_summed
  have G3 : FnOk P w K mg base CX0 2 f3 fd3 ["p", "wide", "rows", "many"] spSummed := ok_summed T d3
  refine d.F.ok sc_law_some_row (fun vs H Q E h => ?_) (fun cdv A outer s H vs Q E hr h => ?_)
  · obtain ⟨g, c, a, p, wd, xs, rws, rfl, _⟩ := h
    rfl
  · obtain ⟨g, c, a, p, wd, xs, rws, rfl, p2, pm, hwd, ha, hag, hp, hrl, hrw, hh, q⟩ := h
    refine ⟨_, pss_cons (ps_set (i := 4) sc_law_some_row.nd rfl (.inl rfl) (pe_call G1 (hr.mono (by decide)) rfl d1.m d1.F.kp d1.b .nil pass0 (pa_cons (pv 0) (pa_cons pe_int pa_nil))))
      (pss_cons (ps_if (pt_cmpR op_eq (pv 4) pe_int (nomark _)) (pss_one (ps_ret (pe_op op_repA (pe_tup (pa_cons pe_int pa_nil)) (pv 2)))) pss_nil)
      (pss_cons (ps_if (PW.pt (pw_and (pt_cmpR op_lt (pv 4) pe_int (nomark _)) (pw_and1 (pt_cmpR op_gt (pv 2) pe_int (nomark _)))))
        (pss_cons (ps_set (i := 5) sc_law_some_row.nd rfl (.inr rfl) (pe_call G1 (hr.mono (by decide)) rfl d1.m d1.F.kp d1.b .nil pass0 (pa_cons (pv 0) (pa_cons (pv 2) pa_nil))))
          (pss_one (ps_ret (pe_callTy call_tuple_of (by rfl) T.b_tuple (by decide +kernel) (pa_cons
            (pe_lc (own := [("place", 7)]) (g := gName 7) (tt := tYes) rfl sc_law_some_row.nd (pi_range1 rfl T.b_range (pa_cons (pv 2) pa_nil)) (blkOk_by (N := N_law_some_row) (sc := defScope s_law_some_row) (by decide +kernel))
              (fun _ _ _ _ _ => pg_name (i := 7) sc_law_some_row.nd rfl (Or.inl rfl)) (fun _ _ _ _ _ => pts_nil)
              (fun _ _ _ _ _ => pe_ifExp (pt_cmpR op_eq (pv 7) (pv 5) (nomark _)) (pe_op op_add pe_int (pe_call G1 (hr.mono (by decide)) rfl d1.m d1.F.kp d1.b .nil pass0 (pa_cons (pv 0) (pa_cons (pe_op op_sub (pv 1) pe_int) pa_nil)))) pe_int)) pa_nil))))) pss_nil)
      (pss_cons (ps_if (PW.pt (pw_and (pt_cmpR op_lt (pv 4) pe_int (nomark _)) (pw_and1 (pt_cmpR op_gt (pe_callB call_len_seq (by rfl) T.b_len PySem.boot_len (pa_cons (pv 3) pa_nil)) pe_int (nomark _)))))
        (pss_cons (ps_setLc (i := 6) (own := [("row", 8)]) (g := gName 8) (tt := tYes) rfl sc_law_some_row.nd rfl rfl (sw_true rfl rfl rfl rfl) (pi_list (pv 3)) (blkOk_by (N := N_law_some_row) (sc := defScope s_law_some_row) (by decide +kernel))
              (fun _ _ _ _ _ => pg_name (i := 8) sc_law_some_row.nd rfl (Or.inl rfl)) (fun _ _ _ _ _ => pts_nil)
              (fun _ _ _ _ _ => pe_call G2 hr rfl d2.m d2.F.kp d2.b .nil pass0 (pa_cons (pv 0) (pa_cons (pe_lst (pa_cons pe_int (pa_cons pe_int (pa_cons (pe_op op_sub (pv 1) pe_int) (pa_cons (pe_call G1 (hr.mono (by decide)) rfl d1.m d1.F.kp d1.b .nil pass0 (pa_cons (pv 0) (pa_cons (pv 1) pa_nil))) pa_nil))))) pa_nil))))
          (pss_one (ps_ret (pe_call G3 hr rfl d3.m d3.F.kp d3.b .nil pass0 (pa_cons (pv 1) (pa_cons (pv 2) (pa_cons (pv 3) (pa_cons (pv 6) pa_nil)))))))) pss_nil)
      (pss_cons (ps_if (pt_cmpR op_eq (pv 4) pe_int (nomark _))
        (pss_one (ps_ret (pe_callTy call_tuple_of (by rfl) T.b_tuple (by decide +kernel) (pa_cons
            (pe_lc (own := [("place", 7)]) (g := gName 7) (tt := tYes) rfl sc_law_some_row.nd (pi_range1 rfl T.b_range (pa_cons (pv 2) pa_nil)) (blkOk_by (N := N_law_some_row) (sc := defScope s_law_some_row) (by decide +kernel))
              (fun _ _ _ _ _ => pg_name (i := 7) sc_law_some_row.nd rfl (Or.inl rfl)) (fun _ _ _ _ _ => pts_nil)
              (fun _ _ _ _ _ => pe_ifExp (pt_cmpR op_eq (pe_call G1 (hr.mono (by decide)) rfl d1.m d1.F.kp d1.b .nil pass0 (pa_cons (pv 0) (pa_cons pe_int pa_nil))) pe_int (nomark _)) (pe_call G1 (hr.mono (by decide)) rfl d1.m d1.F.kp d1.b .nil pass0 (pa_cons (pv 0) (pa_cons (pv 1) pa_nil))) pe_int)) pa_nil)))) pss_nil)
      (pss_one (ps_ret (pe_callTy call_tuple_of (by rfl) T.b_tuple (by decide +kernel) (pa_cons
            (pe_lc (own := [("place", 7)]) (g := gName 7) (tt := tYes) rfl sc_law_some_row.nd (pi_range1 rfl T.b_range (pa_cons (pv 2) pa_nil)) (blkOk_by (N := N_law_some_row) (sc := defScope s_law_some_row) (by decide +kernel))
              (fun _ _ _ _ _ => pg_name (i := 7) sc_law_some_row.nd rfl (Or.inl rfl)) (fun _ _ _ _ _ => pts_nil)
              (fun _ _ _ _ _ => pe_call G1 (hr.mono (by decide)) rfl d1.m d1.F.kp d1.b .nil pass0 (pa_cons (pv 0) (pa_cons (pv 1) pa_nil)))) pa_nil)))))))), ?_⟩
    refine ⟨_, rfl, g, c, 8, rfl, by decide, by decide, hh, fun H2 kind b2 hh2 k0 k1 => ?_⟩
    dsimp only [gName, tSeq]
    have ha2 : H2 a = some (.lst xs) := b2.lst hag ha
    have hp2 : Paired (rRow H2) xs rws := paired_mono mono_row (hh.keep b2) hp
    have hlen := paired_len hp
    refine ⟨_, rfl, rfl, _, rfl, ?_⟩
    by_cases hk0 : kind = 0
    · rw [decide_eq_true (congrArg V.int hk0)]
      refine iteT ⟨by show 1 ≤ sizeLine; decide, fun t nt => ⟨_, rfl, zeros upd_same hwd fun H3 v3 s3 hrow3 => ?_⟩⟩
      have s23 := (same_new nt).trans s3
      exact q _ v3 _ (b2.trans (s23.but g)) (hh2.same s23) hrow3 (isRow_zeros (by omega) wd)
    rw [decide_eq_false (fun e => hk0 (V.int.inj e))]
    refine iteF ⟨_, rfl, _, _, rfl, rfl, _, rfl, ?_⟩
    have b02 := b2
    -- the drawn rows, whatever the numbers are
    have fin : ∀ (H3 H4 : Hp) (D : Addr), But g H H3 → PvDr rInt (fun x => 0 ≤ x ∧ x < p) g c D H3 (((wd : Nat) : Int).toNat) H4 → ∃ (l : List Int), H4 D = some (.lst (l.map V.int)) ∧ ∀ t, H4 t = none → Q (.ref t) (upd H4 t (.tup (l.map V.int))) := by
      intro H3 H4 D b3 pv
      obtain ⟨b4, hh4, ys, l, hD4, hp4, hl4, hf4⟩ := pv
      have := paired_int hp4
      subst this
      refine ⟨l, hD4, fun t nt => ?_⟩
      exact q _ _ l ((b3.trans b4).trans ((same_new nt).but g)) (hh4.same (same_new nt)) ⟨t, rfl, upd_same⟩ ⟨by rw [hl4, Int.toNat_natCast], hf4⟩
    apply twice
    · intro rest
      by_cases h3 : kind < 3
      · rw [decide_eq_true h3]
        refine iteT ⟨_, rfl, _, _, rfl, rfl, _, rfl, ?_⟩
        by_cases hw0 : 0 < wd
        · clear rest
          rw [decide_eq_true (by omega)]
          refine iteT ⟨_, rfl, _, rfl, g, c, (wd : Int), rfl, by omega, by omega, hh2, fun H3 at_ b3 hh3 a0 a1 => ?_⟩
          dsimp only [gName, tSeq]
          refine ⟨_, rfl, _, rfl, by omega, by omega, fun D hD => ?_⟩
          refine walk_W (walk_range (lo := 0) (n := ((wd : Nat) : Int).toNat)) _ (PvDr rInt (fun x => 0 ≤ x ∧ x < p) g c D H3) (dr_start hh3 hD) (fun i H' _ h => trivial) ?_ ?_
          · rintro i x H4 H5 hi pv ⟨rfl, rfl⟩
            rw [Int.toNat_natCast] at hi
            refine ⟨rfl, _, rfl, _, rfl, rfl, _, rfl, ?_⟩
            by_cases e : 0 + (i : Int) = at_
            · rw [decide_eq_true (congrArg V.int e)]
              refine iteT ⟨_, rfl, _, rfl, _, _, rfl, rfl, g, c, _, rfl, by omega, by omega, pv.2.1, fun H6 n b6 hh6 n0 n1 => ⟨_, _, rfl, rfl, ?_⟩⟩
              exact dr_keep mono_int hh3 pv hD (by omega) b6 hh6 rfl ⟨by omega, by omega⟩
            · rw [decide_eq_false (fun z => e (V.int.inj z))]
              exact iteF (dr_keep mono_int hh3 pv hD (by omega) (But.refl _ _) pv.2.1 rfl ⟨by omega, by omega⟩)
          · intro H4 pv
            obtain ⟨l, hD4, q4⟩ := fin H3 H4 D (b2.trans b3) pv
            exact ⟨D, _, rfl, .inl ⟨.of hD4, q4⟩⟩
        · rw [decide_eq_false (by clear rest; omega)]
          exact iteF rest
      · rw [decide_eq_false h3]
        exact iteF rest
    refine ⟨_, rfl, _, _, rfl, rfl, _, rfl, ?_⟩
    apply twice
    · intro rest
      by_cases h5 : kind < 5
      · rw [decide_eq_true h5]
        refine iteT ⟨_, rfl, _, _, rfl, .inl (.of ha2), _, _, rfl, rfl, _, rfl, ?_⟩
        by_cases hr0 : 0 < xs.length
        · clear rest
          rw [decide_eq_true (by omega)]
          refine iteT ⟨_, rfl, a, rfl, ⟨_, .of ha2⟩, fun D hD => ?_⟩
          refine walk_W (walk_list (xs := xs)) _ (PvDr rInt (fun x => 0 ≤ x ∧ x < p) g c D H2) (dr_start hh2 hD) (fun i H' _ h => .of (h.1.lst hag ha2)) ?_ ?_
          · rintro i x H4 H5 hi pv ⟨rfl, hx⟩
            refine ⟨rfl, _, rfl, _, rfl, _, _, rfl, rfl, _, rfl, _, rfl, g, c, p, rfl, by omega, by omega, pv.2.1, fun H6 n b6 hh6 n0 n1 => ⟨by show 4 ≤ sizeLine; decide, fun b nb => ?_⟩⟩
            have s7 := same_new (o := .lst (([0, 1, p - 1, n] : List Int).map V.int)) nb
            refine ⟨g, c, b, ([0, 1, p - 1, n] : List Int).map V.int, rfl, upd_same, (hand_new hh6 nb).1, by show 0 < 4; decide, by show 4 < 1000000; decide, hh6.same s7, fun H8 j y b8 hh8 hy => ?_⟩
            obtain ⟨m, hm, rfl⟩ := at_int hy
            have hm2 := List.mem_of_getElem? hm
            simp only [List.mem_cons, List.not_mem_nil, or_false] at hm2
            exact dr_keep mono_int hh2 pv hD (by omega) ((b6.trans (s7.but g)).trans b8) hh8 rfl (by omega)
          · intro H4 pv
            obtain ⟨b4, hh4, ys, l, hD4, hp4, hl4, hf4⟩ := pv
            have := paired_int hp4
            subst this
            dsimp only [gName, tSeq]
            refine ⟨_, rfl, _, rfl, _, rfl, _, rfl, a, D, p, wd, xs, rws, l, rfl, by omega, hwd, b4.lst hag ha2, paired_mono mono_row (hh2.keep b4) hp2, fun r hr => by have := (hrw r hr).1; omega, hD4, fun m hm => by have := hf4 m hm; omega, fun H5 v5 l5 s5 hrow5 hir => ?_⟩
            exact q _ _ _ ((b2.trans b4).trans (s5.but g)) (hh4.same s5) hrow5 hir
        · rw [decide_eq_false (by clear rest; omega)]
          exact iteF rest
      · rw [decide_eq_false h5]
        exact iteF rest
    refine ⟨_, rfl, rfl, _, rfl, ?_⟩
    by_cases hk5 : kind = 5
    · rw [decide_eq_true (congrArg V.int hk5)]
      refine iteT ⟨_, rfl, _, rfl, by omega, by omega, fun D hD => ?_⟩
      refine walk_W (walk_range (lo := 0) (n := ((wd : Nat) : Int).toNat)) _ (PvDr rInt (fun x => 0 ≤ x ∧ x < p) g c D H2) (dr_start hh2 hD) (fun i H' _ h => trivial) ?_ ?_
      · rintro i x H4 H5 hi pv ⟨rfl, rfl⟩
        rw [Int.toNat_natCast] at hi
        refine ⟨rfl, _, rfl, g, c, 3, rfl, by decide, by decide, pv.2.1, fun H6 n b6 hh6 n0 n1 => ⟨rfl, _, rfl, ?_⟩⟩
        by_cases e : n = 0
        · rw [decide_eq_true (congrArg V.int e)]
          refine iteT ⟨_, rfl, _, rfl, g, c, p, rfl, by omega, by omega, hh6, fun H7 m b7 hh7 m0 m1 => ?_⟩
          exact dr_keep mono_int hh2 pv hD (by omega) (b6.trans b7) hh7 rfl ⟨m0, m1⟩
        · rw [decide_eq_false (fun z => e (V.int.inj z))]
          exact iteF (dr_keep mono_int hh2 pv hD (by omega) b6 hh6 rfl ⟨by omega, by omega⟩)
      · intro H4 pv
        obtain ⟨l, hD4, q4⟩ := fin H2 H4 D b2 pv
        exact ⟨D, _, rfl, .inl ⟨.of hD4, q4⟩⟩
    · rw [decide_eq_false (fun e => hk5 (V.int.inj e))]
      refine iteF ⟨_, rfl, _, rfl, by omega, by omega, fun D hD => ?_⟩
      refine walk_W (walk_range (lo := 0) (n := ((wd : Nat) : Int).toNat)) _ (PvDr rInt (fun x => 0 ≤ x ∧ x < p) g c D H2) (dr_start hh2 hD) (fun i H' _ h => trivial) ?_ ?_
      · rintro i x H4 H5 hi pv ⟨rfl, rfl⟩
        rw [Int.toNat_natCast] at hi
        refine ⟨rfl, _, rfl, _, rfl, g, c, p, rfl, by omega, by omega, pv.2.1, fun H6 n b6 hh6 n0 n1 => ?_⟩
        exact dr_keep mono_int hh2 pv hD (by omega) b6 hh6 rfl ⟨n0, n1⟩
      · intro H4 pv
        obtain ⟨l, hD4, q4⟩ := fin H2 H4 D b2 pv
        exact ⟨D, _, rfl, .inl ⟨.of hD4, q4⟩⟩
end
end S4

namespace S4
open PySem L2 TT MM
/-! ### ties looked at -/
def nb1 (post : Int) (z : Int × Int) : Option Int := if z.2 = post then some z.1 else none
def nb2 (post : Int) (z : Int × Int) : Option Int := if z.1 = post then some z.2 else none
theorem near_perm (post : Int) : ∀ ties : List (Int × Int), (∀ z ∈ ties, z.1 ≠ z.2) → (ties.filterMap (nb1 post) ++ ties.filterMap (nb2 post)).Perm (nb ties post)
  | [], _ => .refl _
  | z :: t, h => by
    have ih := near_perm post t fun y hy => h y (by simp [hy])
    have hz := h z (by simp)
    unfold nb at *
    rw [List.filterMap_cons, List.filterMap_cons, List.filterMap_cons]
    by_cases h1 : z.1 = post
    · have h2 : ¬ z.2 = post := fun e => hz (h1.trans e.symm)
      have e1 : nb1 post z = none := if_neg h2
      have e2 : nb2 post z = some z.2 := if_pos h1
      have e3 : nbOf post z = some z.2 := by unfold nbOf; rw [if_pos (.inl h1), if_pos h1]
      rw [e1, e2, e3]
      exact List.perm_middle.trans (ih.cons _)
    · by_cases h2 : z.2 = post
      · have e1 : nb1 post z = some z.1 := if_pos h2
        have e2 : nb2 post z = none := if_neg h1
        have e3 : nbOf post z = some z.1 := by unfold nbOf; rw [if_pos (.inr h2), if_neg h1]
        rw [e1, e2, e3]
        exact ih.cons _
      · have e1 : nb1 post z = none := if_neg h2
        have e2 : nb2 post z = none := if_neg h1
        have e3 : nbOf post z = none := by unfold nbOf; rw [if_neg (fun q => q.elim h1 h2)]
        rw [e1, e2, e3]
        exact ih
section
variable {P : Program} {w : World} {K : PySem.W.Frag} {mg : Str → Option Value} {base : Heap} {cT cS : Addr}
def spLNear : Sp := fun vs H Q _ => ∃ (v : V) (ties : List (Int × Int)) (post : Int), vs = [v, .int post] ∧ rTup rPI H v ties ∧ ties.length ≤ 1000 ∧ (∀ z ∈ ties, z.1 ≠ z.2) ∧
  ∀ H' p ns, Same H H' → H p = none → H' p = some (.lst (ns.map V.int)) → ns.Perm (nb ties post) → Up ns → Q (.ref p) H'
theorem ok_lnear (T : Tx K mg cT cS) {f : Addr} {fd : FuncData} (d : D K mg "_law_near" s_law_near ["ties", "post"] f fd) : FnOk P w K mg base CX0 1 f fd ["ties", "post"] spLNear := by
  refine d.F.ok sc_law_near (fun vs H Q E h => ?_) (fun cdv A outer s H vs Q E hr h => ?_)
  · obtain ⟨v, ties, post, rfl, _⟩ := h
    rfl
  · obtain ⟨v, ties, post, rfl, ⟨t, xs, rfl, ht, hp⟩, hl, hd, q⟩ := h
    have hlen := paired_len hp
    refine ⟨_, pss_one (ps_ret (pe_callB cr_sortedI (by rfl) T.b_sorted (by decide +kernel) (pa_cons (pe_op op_cat
        (pe_lc (own := [("one", 2), ("other", 3)]) (g := gTup K 2 (gCons (gName 2) (gCons (gName 3) gNil))) rfl sc_law_near.nd (pi_tup (pv 0)) (blkOk_by (N := N_law_near) (sc := defScope s_law_near) (by decide +kernel))
          (fun _ _ _ _ _ => pgT rfl rfl (pgs_cons (pg_name (i := 2) sc_law_near.nd rfl (Or.inl rfl)) (pgs_cons (pg_name (i := 3) sc_law_near.nd rfl (Or.inl rfl)) pgs_nil))) (fun _ _ _ _ _ => pts_one (pt_cmpR op_eq (pv 3) (pv 1) (nomark _))) (fun _ _ _ _ _ => pv 2))
        (pe_lc (own := [("one", 2), ("other", 3)]) (g := gTup K 2 (gCons (gName 2) (gCons (gName 3) gNil))) rfl sc_law_near.nd (pi_tup (pv 0)) (blkOk_by (N := N_law_near) (sc := defScope s_law_near) (by decide +kernel))
          (fun _ _ _ _ _ => pgT rfl rfl (pgs_cons (pg_name (i := 2) sc_law_near.nd rfl (Or.inl rfl)) (pgs_cons (pg_name (i := 3) sc_law_near.nd rfl (Or.inl rfl)) pgs_nil))) (fun _ _ _ _ _ => pts_one (pt_cmpR op_eq (pv 2) (pv 1) (nomark _))) (fun _ _ _ _ _ => pv 3))) pa_nil))), ?_⟩
    refine ⟨_, rfl, t, rfl, ⟨_, .of ht⟩, fun D hD => ?_⟩
    refine lc_fm (walk_tup (xs := xs)) rInt (fun i => ties[i]?.bind (nb1 post)) hD (fun H' s' => .of (s'.keep.tup ht)) ?_ ?_
    · rintro i x H2 H3 hi pv ⟨rfl, hx⟩
      obtain ⟨z, hz, t2, rfl, ht2⟩ := paired_get (paired_mono mono_pi pv.1.keep hp) hx
      refine ⟨t2, _, rfl, .of ht2, rfl, _, _, rfl, _, _, rfl, rfl, rfl, _, rfl, _, rfl, rfl, _, rfl, ?_⟩
      by_cases h2 : z.2 = post
      · rw [decide_eq_true (congrArg V.int h2)]
        exact iteT ⟨_, rfl, fm_keep mono_int pv hD (by omega) (Same.refl _) (by rw [hz]; exact if_pos h2) rfl⟩
      · rw [decide_eq_false (fun e => h2 (V.int.inj e))]
        exact iteF (fm_skip mono_int pv (Same.refl _) (by rw [hz]; exact if_neg h2))
    · intro H2 ys s2 hD2 hp2
      have e := paired_int hp2
      subst e
      rw [hlen, fm_list] at hD2
      refine ⟨_, rfl, t, rfl, ⟨_, .of (s2.keep.tup ht)⟩, fun D2 hDn => ?_⟩
      refine lc_fm (walk_tup (xs := xs)) rInt (fun i => ties[i]?.bind (nb2 post)) hDn (fun H' s' => .of ((s2.trans s').keep.tup ht)) ?_ ?_
      · rintro i x H3 H4 hi pv ⟨rfl, hx⟩
        obtain ⟨z, hz, t2, rfl, ht2⟩ := paired_get (paired_mono mono_pi (s2.trans pv.1).keep hp) hx
        refine ⟨t2, _, rfl, .of ht2, rfl, _, _, rfl, _, _, rfl, rfl, rfl, _, rfl, _, rfl, rfl, _, rfl, ?_⟩
        by_cases h2 : z.1 = post
        · rw [decide_eq_true (congrArg V.int h2)]
          exact iteT ⟨_, rfl, fm_keep mono_int pv hDn (by omega) (Same.refl _) (by rw [hz]; exact if_pos h2) rfl⟩
        · rw [decide_eq_false (fun e => h2 (V.int.inj e))]
          exact iteF (fm_skip mono_int pv (Same.refl _) (by rw [hz]; exact if_neg h2))
      · intro H3 zs s3 hD3 hp3
        have e := paired_int hp3
        subst e
        rw [hlen, fm_list] at hD3
        have l1 := List.length_filterMap_le (nb1 post) ties
        have l2 := List.length_filterMap_le (nb2 post) ties
        refine ⟨D, D2, _, _, rfl, rfl, s3 _ _ hD2, hD3, by rw [List.length_map, List.length_map]; exact Nat.le_trans (by omega : _ ≤ 2000) (by decide), fun p np => ?_⟩
        refine ⟨p, ties.filterMap (nb1 post) ++ ties.filterMap (nb2 post), rfl, .of (by rw [upd_same, List.map_append]), fun ns r hperm hup nr => ?_⟩
        have s4 := same_new (o := .lst ((ties.filterMap (nb1 post)).map V.int ++ (ties.filterMap (nb2 post)).map V.int)) np
        have s24 := (s2.trans s3).trans s4
        exact q _ r ns (s24.trans (same_new nr)) (s24.free nr) upd_same (hperm.trans (near_perm post ties hd)) hup
def spLWays : Sp := fun vs H Q _ => ∃ (v : V) (ties : List (Int × Int)), vs = [v] ∧ rTup rPI H v ties ∧ ties.length ≤ 1000 ∧
  ∀ H' p xs m, Same H H' → H p = none → H' p = some (.lst xs) → Paired (rPI H') xs m → m.Perm (ties ++ flipAll ties) → m.Pairwise lxLe → Q (.ref p) H'
theorem ok_lways (T : Tx K mg cT cS) {f : Addr} {fd : FuncData} (d : D K mg "_law_all_ways" s_law_all_ways ["ties"] f fd) : FnOk P w K mg base CX0 1 f fd ["ties"] spLWays := by
  refine d.F.ok sc_law_all_ways (fun vs H Q E h => ?_) (fun cdv A outer s H vs Q E hr h => ?_)
  · obtain ⟨v, ties, rfl, _⟩ := h
    rfl
  · obtain ⟨v, ties, rfl, ⟨t, xs, rfl, ht, hp⟩, hl, q⟩ := h
    have hlen := paired_len hp
    refine ⟨_, pss_one (ps_ret (pe_callB cr_sortedPD (by rfl) T.b_sorted (by decide +kernel) (pa_cons (pe_op op_cat
        (pe_callTy call_list_of (by rfl) T.b_list (by decide +kernel) (pa_cons (pv 0) pa_nil))
        (pe_lc (own := [("one", 1), ("other", 2)]) (g := gTup K 2 (gCons (gName 1) (gCons (gName 2) gNil))) (tt := tYes) rfl sc_law_all_ways.nd (pi_tup (pv 0)) (blkOk_by (N := N_law_all_ways) (sc := defScope s_law_all_ways) (by decide +kernel))
          (fun _ _ _ _ _ => pgT rfl rfl (pgs_cons (pg_name (i := 1) sc_law_all_ways.nd rfl (Or.inl rfl)) (pgs_cons (pg_name (i := 2) sc_law_all_ways.nd rfl (Or.inl rfl)) pgs_nil))) (fun _ _ _ _ _ => pts_nil) (fun _ _ _ _ _ => pe_tup (pa_cons (pv 2) (pa_cons (pv 1) pa_nil))))) pa_nil))), ?_⟩
    refine ⟨_, rfl, t, _, rfl, .inr (.of ht), fun D hD => ?_⟩
    have s2 := same_new (o := .lst xs) hD
    refine ⟨_, rfl, t, rfl, ⟨_, .of (s2.keep.tup ht)⟩, fun D2 hD' => ?_⟩
    refine lc_fm (walk_tup (xs := xs)) rPI (fun i => ties[i]?.bind fun x => some x.swap) hD' (fun H' s' => .of ((s2.trans s').keep.tup ht)) ?_ ?_
    · rintro i x H3 H4 hi pv ⟨rfl, hx⟩
      obtain ⟨z, hz, t2, rfl, ht2⟩ := paired_get (paired_mono mono_pi (s2.trans pv.1).keep hp) hx
      refine ⟨t2, _, rfl, .of ht2, rfl, _, _, rfl, _, _, rfl, rfl, rfl, _, rfl, _, rfl, by show 2 ≤ sizeLine; decide, fun p np => ?_⟩
      exact fm_keep mono_pi pv hD' (by omega) (same_new np) (by rw [hz]; rfl) ⟨p, rfl, upd_same⟩
    · intro H3 zs s3 hD3 hp3
      rw [hlen, fm_some] at hp3
      have l2 := paired_len hp3
      rw [List.length_map] at l2
      have l3 : xs.length + zs.length ≤ 2000 := by omega
      refine ⟨D, D2, xs, zs, rfl, rfl, s3 _ _ upd_same, hD3, Nat.le_trans l3 (by decide), fun p np => ?_⟩
      have s4 := same_new (o := .lst (xs ++ zs)) np
      have s6 := ((s2.trans s3).trans s4)
      refine ⟨p, _, ties ++ flipAll ties, rfl, .of upd_same, paired_app (paired_mono mono_pi s6.keep hp) (paired_mono mono_pi s4.keep hp3), fun ws m r hw hperm hs nr => ?_⟩
      have s5 := same_new (o := .lst ws) nr
      exact q _ r ws m (s6.trans s5) (s6.free nr) upd_same (paired_mono mono_pi s5.keep hw) hperm hs
end
end S4

namespace S4
open PySem L2 TT MM
/-! ### trees built leaf by leaf -/
def Rooted (ties : List (Int × Int)) (s : Int) : Prop := ∃ par : Int → Int, ∀ u v, v ∈ nb ties u → (v = par u ∧ u ≠ s) ∨ (u = par v ∧ v ≠ s)
def tieOf (l q : Int) : Int × Int := if l < q then (l, q) else (q, l)
inductive Tr : List Int → List (Int × Int) → Prop
  | one (a : Int) : Tr [a] []
  | leaf {vs : List Int} {es : List (Int × Int)} {l q : Int} : Tr vs es → q ∈ vs → l ∉ vs → Tr (vs ++ [l]) (es ++ [tieOf l q])
theorem tieOf_mem {l q u v : Int} : ((u, v) = tieOf l q ∨ (v, u) = tieOf l q) ↔ (u = l ∧ v = q) ∨ (u = q ∧ v = l) := by
  unfold tieOf
  split
  · constructor
    · rintro (h | h)
      · cases h; exact .inl ⟨rfl, rfl⟩
      · cases h; exact .inr ⟨rfl, rfl⟩
    · rintro (⟨rfl, rfl⟩ | ⟨rfl, rfl⟩)
      · exact .inl rfl
      · exact .inr rfl
  · constructor
    · rintro (h | h)
      · cases h; exact .inr ⟨rfl, rfl⟩
      · cases h; exact .inl ⟨rfl, rfl⟩
    · rintro (⟨rfl, rfl⟩ | ⟨rfl, rfl⟩)
      · exact .inr rfl
      · exact .inl rfl
theorem nb_app {es : List (Int × Int)} {l q u v : Int} : v ∈ nb (es ++ [tieOf l q]) u ↔ v ∈ nb es u ∨ (u = l ∧ v = q) ∨ (u = q ∧ v = l) := by
  rw [nb_mem, nb_mem, List.mem_append, List.mem_append, List.mem_singleton, List.mem_singleton, ← tieOf_mem]
  constructor
  · rintro ((h | h) | (h | h))
    · exact .inl (.inl h)
    · exact .inr (.inl h)
    · exact .inl (.inr h)
    · exact .inr (.inr h)
  · rintro ((h | h) | (h | h))
    · exact .inl (.inl h)
    · exact .inr (.inl h)
    · exact .inl (.inr h)
    · exact .inr (.inr h)
theorem Tr.len {vs : List Int} {es : List (Int × Int)} (t : Tr vs es) : es.length + 1 = vs.length := by
  induction t with
  | one => rfl
  | leaf t _ _ ih => rw [List.length_append, List.length_append, List.length_singleton, List.length_singleton]; omega
theorem Tr.ends {vs : List Int} {es : List (Int × Int)} (t : Tr vs es) : ∀ z ∈ es, z.1 < z.2 ∧ z.1 ∈ vs ∧ z.2 ∈ vs := by
  induction t with
  | one => intro z h; cases h
  | @leaf vs es l q t hq hl ih =>
    intro z hz
    rcases List.mem_append.mp hz with hz | hz
    · obtain ⟨a, b, c⟩ := ih z hz
      exact ⟨a, List.mem_append_left _ b, List.mem_append_left _ c⟩
    · rw [List.mem_singleton.mp hz]
      have hne : l ≠ q := fun e => hl (e ▸ hq)
      unfold tieOf
      split
      · exact ⟨by assumption, by simp, by simp [hq]⟩
      · exact ⟨by simp only; omega, by simp [hq], by simp⟩
theorem Tr.nbIn {vs : List Int} {es : List (Int × Int)} (t : Tr vs es) {u v : Int} (h : v ∈ nb es u) : u ∈ vs ∧ v ∈ vs := by
  rcases nb_mem.mp h with h | h
  · exact (t.ends _ h).2
  · exact (t.ends _ h).2.symm
theorem Tr.nodup {vs : List Int} {es : List (Int × Int)} (t : Tr vs es) : es.Nodup := by
  induction t with
  | one => exact List.nodup_nil
  | @leaf vs es l q t hq hl ih =>
    rw [List.nodup_append]
    refine ⟨ih, by simp, fun a ha b hb e => ?_⟩
    subst e
    obtain ⟨_, h1, h2⟩ := t.ends _ ha
    have hb := List.mem_singleton.mp hb
    unfold tieOf at hb
    split at hb
    · rw [hb] at h1
      exact hl h1
    · rw [hb] at h2
      exact hl h2
theorem Tr.rooted {vs : List Int} {es : List (Int × Int)} (t : Tr vs es) : ∀ s ∈ vs, Rooted es s := by
  induction t with
  | one => intro s _; exact ⟨fun x => x, fun u v h => by simp [nb] at h⟩
  | @leaf vs es l q t hq hl ih =>
    intro s hs
    by_cases hsl : s = l
    · obtain ⟨par, hp⟩ := ih q hq
      refine ⟨fun x => if x = q then l else par x, fun u v h => ?_⟩
      have hlq : l ≠ q := fun e => hl (e ▸ hq)
      rcases nb_app.mp h with h | ⟨rfl, rfl⟩ | ⟨rfl, rfl⟩
      · obtain ⟨hu, hv⟩ := t.nbIn h
        rcases hp u v h with ⟨e, n⟩ | ⟨e, n⟩
        · exact .inl ⟨e.trans (if_neg n).symm, fun q => hl (by rw [← hsl, ← q]; exact hu)⟩
        · exact .inr ⟨e.trans (if_neg n).symm, fun q => hl (by rw [← hsl, ← q]; exact hv)⟩
      · exact .inr ⟨(if_pos rfl).symm, fun e => hlq (by rw [e, hsl])⟩
      · exact .inl ⟨(if_pos rfl).symm, fun e => hlq (by rw [e, hsl])⟩
    · have hsv : s ∈ vs := by
        rcases List.mem_append.mp hs with h | h
        · exact h
        · exact absurd (List.mem_singleton.mp h) hsl
      obtain ⟨par, hp⟩ := ih s hsv
      refine ⟨fun x => if x = l then q else par x, fun u v h => ?_⟩
      rcases nb_app.mp h with h | ⟨rfl, rfl⟩ | ⟨rfl, rfl⟩
      · obtain ⟨hu, hv⟩ := t.nbIn h
        have hul : u ≠ l := fun e => hl (e ▸ hu)
        have hvl : v ≠ l := fun e => hl (e ▸ hv)
        rcases hp u v h with ⟨e, n⟩ | ⟨e, n⟩
        · exact .inl ⟨e.trans (if_neg hul).symm, n⟩
        · exact .inr ⟨e.trans (if_neg hvl).symm, n⟩
      · exact .inl ⟨(if_pos rfl).symm, fun e => hsl e.symm⟩
      · exact .inr ⟨(if_pos rfl).symm, fun e => hsl e.symm⟩
theorem Rch.trans {ties : List (Int × Int)} {bar : Option Int} {a b c : Int} (h : Rch ties bar a b) (h2 : Rch ties bar b c) : Rch ties bar a c := by
  induction h2 with
  | refl => exact h
  | step _ hv hb ih => exact .step ih hv hb
theorem nb_symm {ties : List (Int × Int)} {u v : Int} (h : v ∈ nb ties u) : u ∈ nb ties v := by
  rcases nb_mem.mp h with h | h
  · exact nb_mem.mpr (.inr h)
  · exact nb_mem.mpr (.inl h)
theorem Rch.symm {ties : List (Int × Int)} {a b : Int} (h : Rch ties none a b) : Rch ties none b a := by
  induction h with
  | refl => exact .refl
  | step _ hv _ ih => exact Rch.trans (.step .refl (nb_symm hv) (fun e => nomatch e)) ih
theorem Rch.sub {t1 t2 : List (Int × Int)} {bar : Option Int} (hs : ∀ u v, v ∈ nb t1 u → v ∈ nb t2 u) {a b : Int} (h : Rch t1 bar a b) : Rch t2 bar a b := by
  induction h with
  | refl => exact .refl
  | step _ hv hb ih => exact .step ih (hs _ _ hv) hb
theorem Tr.conn {vs : List Int} {es : List (Int × Int)} (t : Tr vs es) : ∀ x ∈ vs, ∀ y ∈ vs, Rch es none x y := by
  induction t with
  | one a =>
    intro x hx y hy
    rw [List.mem_singleton.mp hx, List.mem_singleton.mp hy]
    exact .refl
  | @leaf vs es l q t hq hl ih =>
    have up : ∀ x ∈ vs, ∀ y ∈ vs, Rch (es ++ [tieOf l q]) none x y := fun x hx y hy => Rch.sub (fun u v h => nb_app.mpr (.inl h)) (ih x hx y hy)
    have ql : Rch (es ++ [tieOf l q]) none q l := .step .refl (nb_app.mpr (.inr (.inr ⟨rfl, rfl⟩))) (fun e => nomatch e)
    have toQ : ∀ x ∈ vs ++ [l], Rch (es ++ [tieOf l q]) none x q := fun x hx => by
      rcases List.mem_append.mp hx with h | h
      · exact up x h q hq
      · rw [List.mem_singleton.mp h]
        exact Rch.symm ql
    intro x hx y hy
    exact Rch.trans (toQ x hx) (Rch.symm (toQ y hy))
/-! ### the ties as they stand: sorted -/
theorem nb_perm {t1 t2 : List (Int × Int)} (h : t1.Perm t2) (u v : Int) : v ∈ nb t1 u ↔ v ∈ nb t2 u := by
  rw [nb_mem, nb_mem, h.mem_iff, h.mem_iff]
structure TreeOk (ties : List (Int × Int)) (n : Nat) : Prop where
  ok : TiesOk ties n
  rt : ∀ s, 0 ≤ s → s < (n : Int) → Rooted ties s
theorem treeOk_of {vs : List Int} {es ties : List (Int × Int)} {n : Nat} (t : Tr vs es) (hv : vs.Perm (rng n)) (hn : n ≤ 24) (hp : ties.Perm es) (hs : ties.Pairwise lxLe) : TreeOk ties n := by
  have hl : vs.length = n := by rw [hv.length_eq, rng_len]
  have hlen := t.len
  have h0 : ∀ x : Int, 0 ≤ x → x < (n : Int) → x ∈ vs := fun x a b => hv.mem_iff.mpr (rng_mem.mpr ⟨a, b⟩)
  refine ⟨⟨by rw [hp.length_eq]; omega, hn, fun z hz => ?_, lex_strict hs (hp.nodup_iff.mpr t.nodup), fun x a b => ?_⟩, fun s a b => ?_⟩
  · obtain ⟨a, b, c⟩ := t.ends z (hp.mem_iff.mp hz)
    have := rng_mem.mp (hv.mem_iff.mp b)
    have := rng_mem.mp (hv.mem_iff.mp c)
    omega
  · exact Rch.sub (fun u v h => (nb_perm hp u v).mpr h) (t.conn 0 (h0 0 (by omega) (by omega)) x (h0 x a b))
  · obtain ⟨par, hp2⟩ := t.rooted s (h0 s a b)
    exact ⟨par, fun u v h => hp2 u v ((nb_perm hp u v).mp h)⟩
theorem nb_nodup {ties : List (Int × Int)} {n : Nat} (o : TiesOk ties n) (post : Int) : (nb ties post).Nodup := by
  unfold nb
  rw [List.nodup_iff_pairwise_ne, List.pairwise_filterMap]
  refine List.Pairwise.imp_of_mem (fun {z y} hz hy hlt => ?_) o.asc
  intro a ha b hb hab
  subst hab
  have h1 := o.b0 z hz
  have h2 := o.b0 y hy
  unfold nbOf at ha hb
  split at ha
  · split at hb
    · have ha := Option.some.inj ha
      have hb := Option.some.inj hb
      unfold lxLt at hlt
      split at ha <;> split at hb <;> omega
    · cases hb
  · cases ha
/-! ### the two sides of a tie -/
inductive Desc (par : Int → Int) (a b : Int) : Int → Prop
  | top : Desc par a b b
  | sub {v : Int} : Desc par a b (par v) → v ≠ a → Desc par a b v
theorem sides_apart {ties : List (Int × Int)} {a b x : Int} (r : Rooted ties a) (hab : b ∈ nb ties a) (h1 : Rch ties (some b) a x) (h2 : Rch ties (some a) b x) : False := by
  obtain ⟨par, hp⟩ := r
  have hpb : a = par b ∧ b ≠ a := by
    rcases hp a b hab with ⟨_, h⟩ | h
    · exact absurd rfl h
    · exact h
  have inv : ∀ u, Desc par a b u → u = b ∨ (Desc par a b (par u) ∧ u ≠ a) := fun u h => by
    cases h with
    | top => exact .inl rfl
    | sub h n => exact .inr ⟨h, n⟩
  have hB : ∀ x, Rch ties (some a) b x → Desc par a b x ∧ x ≠ a := fun x h => by
    induction h with
    | refl => exact ⟨.top, hpb.2⟩
    | @step u v _ hv hb ih =>
      have hva : v ≠ a := fun e => hb (by rw [e])
      refine ⟨?_, hva⟩
      rcases hp u v hv with ⟨e, n⟩ | ⟨e, n⟩
      · rcases inv u ih.1 with q | ⟨q, _⟩
        · rw [q, ← hpb.1] at e
          exact absurd e hva
        · rw [e]
          exact q
      · exact .sub (by rw [← e]; exact ih.1) n
  have hA : ∀ x, Rch ties (some b) a x → ¬ Desc par a b x := fun x h => by
    induction h with
    | refl =>
      intro h
      rcases inv a h with q | ⟨_, q⟩
      · exact hpb.2 q.symm
      · exact q rfl
    | @step u v _ hv hb ih =>
      have hvb : v ≠ b := fun e => hb (by rw [e])
      intro hd
      rcases hp u v hv with ⟨e, n⟩ | ⟨e, n⟩
      · exact ih (.sub (by rw [← e]; exact hd) n)
      · rcases inv v hd with q | ⟨q, _⟩
        · exact hvb q
        · rw [← e] at q
          exact ih q
  exact hA x h1 (hB x h2).1
theorem sides_all {ties : List (Int × Int)} {a b x : Int} (h : Rch ties none a x) : Rch ties (some b) a x ∨ Rch ties (some a) b x := by
  induction h with
  | refl => exact .inl .refl
  | @step u v _ hv _ ih =>
    rcases ih with h | h
    · by_cases e : v = b
      · subst e; exact .inr .refl
      · exact .inl (.step h hv (fun q => e (Option.some.inj q).symm))
    · by_cases e : v = a
      · subst e; exact .inl .refl
      · exact .inr (.step h hv (fun q => e (Option.some.inj q).symm))
/-- the two sides together are all posts, none twice -/
theorem sides_perm {ties : List (Int × Int)} {n : Nat} (o : TreeOk ties n) {a b : Int} (hab : b ∈ nb ties a) {l m : List Int} (hl : l.Nodup) (hm : m.Nodup) (h1 : ∀ x, x ∈ l ↔ Rch ties (some b) a x) (h2 : ∀ x, x ∈ m ↔ Rch ties (some a) b x) : (l ++ m).Perm (rng n) := by
  have hb : b ∈ rng n := by
    have := o.ok.shut
    rcases nb_mem.mp hab with h | h
    · have := o.ok.b0 _ h
      exact rng_mem.mpr ⟨by simp only at this; omega, by simp only at this; omega⟩
    · have := o.ok.b0 _ h
      exact rng_mem.mpr ⟨by simp only at this; omega, by simp only at this; omega⟩
  have ha : a ∈ rng n := o.ok.shut.cl b hb a (nb_symm hab)
  obtain ⟨a1, a2⟩ := rng_mem.mp ha
  have nd : (l ++ m).Nodup := by
    rw [List.nodup_append]
    refine ⟨hl, hm, fun x hx y hy e => ?_⟩
    subst e
    exact sides_apart (o.rt a a1 a2) hab ((h1 x).mp hx) ((h2 x).mp hy)
  refine (List.perm_ext_iff_of_nodup nd (rng_nodup n)).mpr fun x => ?_
  rw [List.mem_append, h1, h2]
  constructor
  · rintro (h | h)
    · exact h.inV o.ok.shut ha
    · exact h.inV o.ok.shut hb
  · intro h
    obtain ⟨x1, x2⟩ := rng_mem.mp h
    exact sides_all (Rch.trans (Rch.symm (o.ok.all a a1 a2)) (o.ok.all x x1 x2))
/-! ### the walk of the law -/
theorem riPerm {ties : List (Int × Int)} {bar : Option Int} {s : Int} {ex : Option Int} {f f' wt : List Int} (r : RI ties bar s ex f wt) (h : f'.Perm f) : RI ties bar s ex f' wt :=
  ⟨h.nodup_iff.mpr r.nd, h.mem_iff.mpr r.st, fun v hv => r.ok v (h.mem_iff.mp hv), fun v hv => h.mem_iff.mpr (r.sub v hv), fun u hu hw he v hv hb => h.mem_iff.mpr (r.cl u (h.mem_iff.mp hu) hw he v hv hb), fun q e => h.mem_iff.mpr (r.exf q e), by rw [h.length_eq]; exact r.wl⟩
theorem riAll {ties : List (Int × Int)} {bar : Option Int} {s h : Int} : ∀ {L f wt : List Int}, RI ties bar s (some h) f wt → L.Nodup → (∀ v ∈ L, v ∈ nb ties h ∧ bar ≠ some v ∧ v ∉ f) → RI ties bar s (some h) (f ++ L) (wt ++ L)
  | [], f, wt, r, _, _ => by rw [List.append_nil, List.append_nil]; exact r
  | v :: L, f, wt, r, hn, hL => by
    obtain ⟨h1, h2⟩ := List.nodup_cons.mp hn
    obtain ⟨a, b, c⟩ := hL v (by simp)
    have := riAll (L := L) (r.add a b c) h2 fun u hu => by
      obtain ⟨x, y, z⟩ := hL u (by simp [hu])
      refine ⟨x, y, fun q => ?_⟩
      rcases List.mem_append.mp q with q | q
      · exact z q
      · exact h1 (by rw [← List.mem_singleton.mp q]; exact hu)
    rw [List.append_assoc, List.append_assoc] at this
    exact this
/-- what stands: F taken, W waiting -/
structure LW (ties : List (Int × Int)) (bar s : Int) (par : Int → Int) (F W : List Int) : Prop where
  ri : RI ties (some bar) s none (F ++ W) W
  pf : ∀ u ∈ F, u = s ∨ par u ∈ F
  pw : ∀ u ∈ W, u = s ∨ par u ∈ F
theorem LW.step {ties : List (Int × Int)} {bar s : Int} {par : Int → Int} (hp : ∀ u v, v ∈ nb ties u → (v = par u ∧ u ≠ s) ∨ (u = par v ∧ v ≠ s)) {F W : List Int} {h : Int} {ns : List Int} (r : LW ties bar s par F (W ++ [h])) (hn : ns.Nodup) (hm : ∀ v, v ∈ ns ↔ v ∈ nb ties h) :
    LW ties bar s par (F ++ [h]) (W ++ ns.filter fun v => decide (v ∉ F ++ [h] ∧ v ≠ bar)) := by
  have nd := r.ri.nd
  have hlast : (W ++ [h])[(W ++ [h]).length - 1]? = some h := by rw [List.length_append, List.length_singleton, Nat.add_sub_cancel, List.getElem?_append_right (Nat.le_refl _), Nat.sub_self]; rfl
  have r1 := r.ri.pop hlast
  have edl : (W ++ [h]).dropLast = W := by simp
  rw [edl] at r1
  have pm : ((F ++ [h]) ++ W).Perm (F ++ (W ++ [h])) := by
    rw [List.append_assoc]
    exact List.Perm.append_left F List.perm_append_comm
  have r2 := riPerm r1 pm
  have hF : h ∉ F := fun q => by
    rw [List.nodup_append] at nd
    exact nd.2.2 h q h (by simp) rfl
  have hW : ∀ v, v ∈ nb ties h → v ∉ F ++ [h] → v ∉ W ∧ h = par v := fun v hv hnf => by
    rcases hp h v hv with ⟨e, n⟩ | ⟨e, n⟩
    · exfalso
      rcases r.pw h (by simp) with q | q
      · exact n q
      · rw [← e] at q
        exact hnf (List.mem_append_left _ q)
    · refine ⟨fun q => ?_, e⟩
      rcases r.pw v (List.mem_append_left _ q) with z | z
      · exact n z
      · rw [← e] at z
        exact hF z
  have r3 := riAll (L := ns.filter fun v => decide (v ∉ F ++ [h] ∧ v ≠ bar)) r2 (hn.filter _) fun v hv => by
    obtain ⟨h1, h2⟩ := List.mem_filter.mp hv
    obtain ⟨h3, h4⟩ := of_decide_eq_true h2
    have h5 := (hm v).mp h1
    refine ⟨h5, fun q => h4 (Option.some.inj q).symm, fun q => ?_⟩
    rcases List.mem_append.mp q with q | q
    · exact h3 q
    · exact (hW v h5 h3).1 q
  have r4 := r3.close fun v hv hb => by
    by_cases hf : v ∈ F ++ [h]
    · exact List.mem_append_left _ (List.mem_append_left _ hf)
    · exact List.mem_append_right _ (List.mem_filter.mpr ⟨(hm v).mpr hv, decide_eq_true ⟨hf, fun e => hb (by rw [e])⟩⟩)
  rw [List.append_assoc] at r4
  refine ⟨r4, fun u hu => ?_, fun u hu => ?_⟩
  · rcases List.mem_append.mp hu with hu | hu
    · exact (r.pf u hu).imp id fun q => List.mem_append_left _ q
    · rw [List.mem_singleton.mp hu]
      exact (r.pw h (by simp)).imp id fun q => List.mem_append_left _ q
  · rcases List.mem_append.mp hu with hu | hu
    · exact (r.pw u (List.mem_append_left _ hu)).imp id fun q => List.mem_append_left _ q
    · obtain ⟨h1, h2⟩ := List.mem_filter.mp hu
      obtain ⟨h3, h4⟩ := of_decide_eq_true h2
      right
      rw [← (hW u ((hm u).mp h1) h3).2]
      simp
theorem LW.start {ties : List (Int × Int)} {bar s : Int} {par : Int → Int} : LW ties bar s par [] [s] := ⟨.start, fun _ h => (nomatch h), fun u h => .inl (List.mem_singleton.mp h)⟩
end S4

namespace S4
open PySem L2 TT MM
theorem inV_ints (x : Int) : ∀ l : List Int, inV (.int x) (l.map V.int) = decide (x ∈ l)
  | [] => by simp [inV]
  | a :: l => by
    have ih := inV_ints x l
    show ((a == x) || inV (.int x) (l.map V.int)) = _
    rw [ih]
    by_cases h : a = x
    · subst h; simp
    · have h' : ¬ x = a := fun e => h e.symm
      simp [h, h']
theorem flat_ints : ∀ l : List Int, (l.map V.int).all flatV = true
  | [] => rfl
  | a :: l => by
    show (true && (l.map V.int).all flatV) = true
    rw [flat_ints l]
    rfl
theorem fm_filter {α : Type} (p : α → Bool) : ∀ l : List α, l.filterMap (fun v => if p v = true then some v else none) = l.filter p
  | [] => rfl
  | a :: l => by
    rw [List.filterMap_cons, List.filter_cons, fm_filter p l]
    by_cases h : p a = true
    · rw [if_pos h, if_pos h]
    · rw [if_neg h, if_neg h]
section
variable {P : Program} {w : World} {K : PySem.W.Frag} {mg : Str → Option Value} {base : Heap} {cT cS : Addr}
structure LS (ties : List (Int × Int)) (z : Int × Int) (par : Int → Int) (H0 : Hp) (df dw : Addr) (F W : List Int) (H : Hp) : Prop where
  same : Same H0 H
  f0 : H0 df = none
  w0 : H0 dw = none
  fd : H df = some (.lst (F.map V.int))
  wd : H dw = some (.lst (W.map V.int))
  lw : LW ties z.2 z.1 par F W
def spLThis : Sp := fun vs H Q _ => ∃ (v u : V) (ties : List (Int × Int)) (z : Int × Int) (n : Nat), vs = [v, u] ∧ rTup rPI H v ties ∧ rPI H u z ∧ TreeOk ties n ∧ 0 ≤ z.1 ∧ z.1 < (n : Int) ∧
  ∀ H' p ns, Same H H' → H p = none → H' p = some (.lst (ns.map V.int)) → Up ns → ns.Nodup → (∀ x, x ∈ ns ↔ Rch ties (some z.2) z.1 x) → Q (.ref p) H'
theorem ok_lthis (T : Tx K mg cT cS) {f : Addr} {fd : FuncData} (d : D K mg "_law_this" s_law_this ["ties", "way"] f fd) : FnOk P w K mg base CX0 2 f fd ["ties", "way"] spLThis := by
  obtain ⟨f1, fd1, d1⟩ := T.d_law_near
  have G1 : FnOk P w K mg base CX0 1 f1 fd1 ["ties", "post"] spLNear := ok_lnear T d1
  refine d.F.ok sc_law_this (fun vs H Q E h => ?_) (fun cdv A outer s H vs Q E hr h => ?_)
  · obtain ⟨v, u, ties, z, n, rfl, _⟩ := h
    rfl
  · obtain ⟨v, u, ties, ⟨a, b⟩, n, rfl, ⟨t, xs, rfl, ht, hp⟩, ⟨tz, rfl, hz⟩, ok, a0, a1, q⟩ := h
    simp only at a0 a1 hz
    have hn := ok.ok.len
    have hn24 := ok.ok.n24
    obtain ⟨par, hpar⟩ := ok.rt a a0 a1
    refine ⟨_, pss_cons (ps_asg (pe_tup (pa_cons (pe_lst pa_nil) (pa_cons (pe_lst (pa_cons (pe_ix ix_tup (pv 1) pe_int (fun _ _ => rfl)) pa_nil)) pa_nil))) (pg_tup rfl (pgs_cons (pg_name (i := 2) sc_law_this.nd rfl (.inr rfl)) (pgs_cons (pg_name (i := 3) sc_law_this.nd rfl (.inl rfl)) pgs_nil))))
      (pss_cons (ps_while PassesOwn.never (pt_cmpR op_gt (pe_callB call_len_seq (by rfl) T.b_len PySem.boot_len (pa_cons (pv 3) pa_nil)) pe_int (nomark _))
        (pss_cons (ps_set (i := 4) sc_law_this.nd rfl (.inl rfl) (pe_bm0 PySem.F.plainAttrs_list PySem.F.slot_list_pop PySem.F.type_list_pop mt_pop (pv 3)))
        (pss_cons (ps_expr (pe_bm PySem.F.plainAttrs_list PySem.F.slot_list_append PySem.F.type_list_append mt_append (pv 2) (pa_cons (pv 4) pa_nil)))
          (pss_one (ps_expr (pe_bm PySem.F.plainAttrs_list PySem.F.slot_list_extend PySem.F.type_list_extend mt_extend (pv 3) (pa_cons
            (pe_lc (own := [("other", 5)]) (g := gName 5) rfl sc_law_this.nd (pi_list (pe_call G1 hr rfl d1.m d1.F.kp d1.b .nil pass0 (pa_cons (pv 0) (pa_cons (pv 4) pa_nil)))) (blkOk_by (N := N_law_this) (sc := defScope s_law_this) (by decide +kernel))
              (fun _ _ _ _ _ => pg_name (i := 5) sc_law_this.nd rfl (Or.inl rfl))
              (fun _ _ _ _ _ => pts_one (PW.pt (pw_and (pt_cmpR (ninS (K := K) rfl) (pv 5) (pv 2) (by rfl)) (pw_and1 (pt_cmpR op_ne (pv 5) (pe_ix (ixT (K := K) rfl) (pv 1) pe_int (fun _ _ => rfl)) (nomark _))))))
              (fun _ _ _ _ _ => pv 5)) pa_nil)))))))
      (pss_one (ps_ret (pe_callB cr_sortedI (by rfl) T.b_sorted (by decide +kernel) (pa_cons (pv 2) pa_nil))))), ?_⟩
    refine ⟨by show 0 ≤ sizeLine; decide, fun df hdf => ⟨_, rfl, tz, _, _, _, rfl, rfl, .of ((same_new hdf).keep.tup hz), at_of (j := 0) rfl rfl, by show 1 ≤ sizeLine; decide, fun dw hdw => ⟨by show 2 ≤ sizeLine; decide, fun tt htt => ?_⟩⟩⟩
    have s1 := same_new (o := .lst []) hdf
    have s2 := same_new (o := .lst [V.int a]) hdw
    have s3 := same_new (o := .tup [V.ref df, V.ref dw]) htt
    have hdw0 : H dw = none := s1.free hdw
    refine ⟨tt, _, rfl, .of upd_same, rfl, _, _, rfl, _, _, rfl, rfl, ?_⟩
    have R0 : LS ties (a, b) par H df dw [] [a] (upd (upd (upd H df (.lst [])) dw (.lst [V.int a])) tt (.tup [V.ref df, V.ref dw])) :=
      ⟨(s1.trans s2).trans s3, hdf, hdw0, s3 _ _ (s2 _ _ upd_same), s3 _ _ upd_same, .start⟩
    have hne : df ≠ dw := fun e => by subst e; rw [upd_same] at hdw; cases hdw
    dsimp only [gName, tSeq]
    refine while_by (fun σ H' => ∃ (F W : List Int) (x : Option V), σ = [some (.ref t), some (.ref tz), some (.ref df), some (.ref dw), x, none] ∧ LS ties (a, b) par H df dw F W H')
      (fun σ H' => match H' df with | some (.lst l) => 64 - l.length | _ => 0) ⟨[], [a], none, rfl, R0⟩ ?_ ?_
    · rintro σ H1 ⟨F, W, x, rfl, R⟩
      have hmu : (match H1 df with | some (.lst l) => 64 - l.length | _ => 0) = 64 - F.length := by
        rw [R.fd]
        show 64 - (F.map V.int).length = _
        rw [List.length_map]
      rw [hmu]
      have hFW := R.lw.ri.len ok.ok.shut (rng_mem.mpr ⟨a0, a1⟩)
      rw [rng_len, List.length_append] at hFW
      refine ⟨_, rfl, _, _, rfl, .inl (.of R.wd), _, _, rfl, rfl, _, rfl, ?_⟩
      rw [List.length_map]
      rcases List.eq_nil_or_concat W with rfl | ⟨W, h, rfl⟩
      · rw [decide_eq_false (by simp)]
        refine iteF ⟨_, rfl, df, F, rfl, .of R.fd, fun ns p hperm hup np => ?_⟩
        have ri := R.lw.ri
        rw [List.append_nil] at ri
        refine q _ p ns (R.same.trans (same_new np)) (R.same.free np) upd_same hup (hperm.nodup_iff.mpr ri.nd) fun x => ?_
        rw [hperm.mem_iff]
        exact ri.done x
      · rw [List.concat_eq_append] at *
        rw [List.length_append, List.length_singleton] at hFW
        rw [decide_eq_true (by rw [List.length_append, List.length_singleton]; omega)]
        refine iteT ⟨_, rfl, .inl ⟨rfl, _, .of R.wd⟩, dw, _, V.int h, rfl, rfl, R.wd, by simp, ?_⟩
        have hdl : ((W ++ [h]).map V.int).dropLast = W.map V.int := by simp
        rw [hdl]
        have k1 : Same H (upd H1 dw (.lst (W.map V.int))) := same_own R.same R.w0
        refine ⟨_, rfl, .inl ⟨rfl, _, .of (by rw [upd_ne hne]; exact R.fd)⟩, _, rfl, df, _, _, rfl, rfl, by rw [upd_ne hne]; exact R.fd, by rw [List.length_map]; exact Nat.lt_of_le_of_lt (by omega : F.length ≤ 24) (by decide), ?_⟩
        have k2 : Same H (upd (upd H1 dw (.lst (W.map V.int))) df (.lst (F.map V.int ++ [V.int h]))) := same_own k1 R.f0
        have ht2 := k2.keep.tup ht
        have hp2 := paired_mono mono_pi k2.keep hp
        refine ⟨_, rfl, .inl ⟨rfl, _, .of (by rw [upd_ne hne.symm]; exact upd_same)⟩, _, rfl, _, rfl, .ref t, ties, h, rfl, ⟨t, xs, rfl, ht2, hp2⟩, by omega, fun z hz e => by have := (ok.ok.b0 z hz).2.1; omega, fun H4 r ns s4 nr hr4 hperm hup => ?_⟩
        have hm : ∀ v, v ∈ ns ↔ v ∈ nb ties h := fun v => hperm.mem_iff
        have hnd : ns.Nodup := hperm.nodup_iff.mpr (nb_nodup ok.ok h)
        have st := R.lw.step hpar hnd hm
        have hf4 : H4 df = some (.lst ((F ++ [h]).map V.int)) := by rw [List.map_append]; exact s4 _ _ upd_same
        have hz4 := (k2.trans s4).keep.tup hz
        have hnl : ns.length ≤ 24 := by
          have := nodup_len hnd (V := rng n) fun v hv => ok.ok.shut.cl h ?_ v ((hm v).mp hv)
          · rw [rng_len] at this
            omega
          · exact (R.lw.ri.ok h (by simp)).inV ok.ok.shut (rng_mem.mpr ⟨a0, a1⟩)
        refine ⟨r, rfl, ⟨_, .of hr4⟩, fun D hD => ?_⟩
        refine lc_fm (walk_list (xs := ns.map V.int)) rInt (fun i => ns[i]?.bind fun v => if decide (v ∉ F ++ [h] ∧ v ≠ b) = true then some v else none) hD (fun H' s' => .of (s' _ _ hr4)) ?_ ?_
        · rintro i x H5 H6 hi pv ⟨rfl, hx⟩
          obtain ⟨v, hv, rfl⟩ := at_int hx
          rw [List.length_map] at hi
          refine ⟨rfl, _, rfl, _, rfl, df, _, rfl, .inl (.of (pv.1 _ _ hf4)), rfl, flat_ints _, _, rfl, ?_⟩
          rw [if_pos rfl, inV_ints]
          by_cases c1 : v ∈ F ++ [h]
          · rw [decide_eq_true c1]
            exact iteF (iteF (fm_skip mono_int pv (Same.refl _) (by rw [hv]; exact if_neg (by rw [decide_eq_true_eq]; exact fun z => z.1 c1))))
          · rw [decide_eq_false c1]
            refine iteT ⟨_, rfl, _, rfl, tz, _, _, _, rfl, rfl, .of (pv.1.keep.tup hz4), at_of (j := 1) rfl rfl, rfl, _, rfl, ?_⟩
            by_cases c2 : v = b
            · rw [decide_eq_true (congrArg V.int c2)]
              exact iteF (fm_skip mono_int pv (Same.refl _) (by rw [hv]; exact if_neg (by rw [decide_eq_true_eq]; exact fun z => z.2 c2)))
            · rw [decide_eq_false (fun e => c2 (V.int.inj e))]
              exact iteT ⟨_, rfl, fm_keep mono_int pv hD (by omega) (Same.refl _) (by rw [hv]; exact if_pos (decide_eq_true ⟨c1, c2⟩)) rfl⟩
        · intro H5 ys s5 hD5 hp5
          have e := paired_int hp5
          subst e
          rw [List.length_map, fm_list, fm_filter] at hD5
          have w5 : H5 dw = some (.lst (W.map V.int)) := s5 _ _ (s4 _ _ (by rw [upd_ne hne.symm]; exact upd_same))
          have fl := List.length_filter_le (fun v => decide (v ∉ F ++ [h] ∧ v ≠ b)) ns
          refine ⟨dw, D, _, _, rfl, rfl, w5, hD5, by rw [List.length_map, List.length_map]; exact Nat.le_trans (by omega : _ ≤ 48) (by decide), ?_⟩
          have s6 : Same H (upd H5 dw (.lst (W.map V.int ++ (ns.filter fun v => decide (v ∉ F ++ [h] ∧ v ≠ b)).map V.int))) := same_own ((k2.trans s4).trans s5) R.w0
          have ff : (upd H5 dw (.lst (W.map V.int ++ (ns.filter fun v => decide (v ∉ F ++ [h] ∧ v ≠ b)).map V.int))) df = some (.lst ((F ++ [h]).map V.int)) := by rw [upd_ne hne]; exact s5 _ _ hf4
          refine ⟨⟨F ++ [h], W ++ ns.filter fun v => decide (v ∉ F ++ [h] ∧ v ≠ b), _, rfl, s6, R.f0, R.w0, ff, by rw [upd_same, List.map_append], st⟩, ?_⟩
          rw [ff]
          show 64 - ((F ++ [h]).map V.int).length < _
          rw [List.length_map, List.length_append, List.length_singleton]
          omega
    · rintro σ H' Q1 Q2 i ⟨x, e1, p, ys, e2, h1, i1, j1, e3, e4, k, e5, h⟩
      exact ⟨x, e1, p, ys, e2, h1, i1, j1, e3, e4, k, e5, i _ _ h⟩
end
end S4

namespace S4
open PySem L2 TT MM
theorem take_succ_sum {l : List Int} {k : Nat} (h : k < l.length) : (l.take (k + 1)).sum = (l.take k).sum + l[k] := by
  rw [List.take_succ, List.getElem?_eq_getElem h, List.sum_append]
  simp
theorem numsL_app (holds a b : List Int) : numsL holds (a ++ b) = numsL holds a ++ numsL holds b := by unfold numsL; rw [List.flatMap_append]
section
variable {P : Program} {w : World} {K : PySem.W.Frag} {mg : Str → Option Value} {base : Heap} {cT cS : Addr}
def spLNum : Sp := fun vs H Q _ => ∃ (v : V) (b : Addr) (holds ps : List Int) (n : Nat), vs = [v, .ref b] ∧ rRow H v holds ∧ CountsOk holds n ∧ n ≤ 24 ∧ H b = some (.lst (ps.map V.int)) ∧ Up ps ∧ ps.length ≤ 24 ∧ (∀ p ∈ ps, 0 ≤ p ∧ p < (n : Int)) ∧
  ∀ H' r, Same H H' → H r = none → H' r = some (.lst ((numsL holds ps).map V.int)) → Q (.ref r) H'
theorem ok_lnum (T : Tx K mg cT cS) {f : Addr} {fd : FuncData} (d : D K mg "_law_numbers" s_law_numbers ["holds", "posts"] f fd) : FnOk P w K mg base CX0 1 f fd ["holds", "posts"] spLNum := by
  refine d.F.ok sc_law_numbers (fun vs H Q E h => ?_) (fun cdv A outer s H vs Q E hr h => ?_)
  · obtain ⟨v, b, holds, ps, n, rfl, _⟩ := h
    rfl
  · obtain ⟨v, b, holds, ps, n, rfl, ⟨th, rfl, hth⟩, oh, hn24, hb, hup, hpl, hpb, q⟩ := h
    refine ⟨_, pss_cons (ps_set (i := 2) sc_law_numbers.nd rfl (.inl rfl) (pe_lst pa_nil))
      (pss_cons (ps_for PassesOwn.never rfl (pi_list (pe_callB cr_sortedI (by rfl) T.b_sorted (by decide +kernel) (pa_cons (pv 1) pa_nil))) (pg_name (i := 3) sc_law_numbers.nd rfl (Or.inl rfl))
        (pss_one (ps_expr (pe_bm PySem.F.plainAttrs_list PySem.F.slot_list_extend PySem.F.type_list_extend mt_extend (pv 2) (pa_cons
          (pe_listRg rfl (by rfl) T.b_list (prg_2 (by rfl) T.b_range
            (pe_callB (cr_sumT rfl) (by rfl) T.b_sum (by decide +kernel) (pa_cons (pe_slice sl_tupA (pv 0) po_none (po_some (pv 3))) pa_nil))
            (pe_callB (cr_sumT rfl) (by rfl) T.b_sum (by decide +kernel) (pa_cons (pe_slice sl_tupA (pv 0) po_none (po_some (pe_op op_add (pv 3) pe_int))) pa_nil)))) pa_nil)))))
      (pss_one (ps_ret (pv 2)))), ?_⟩
    refine ⟨by show 0 ≤ sizeLine; decide, fun fo hfo => ?_⟩
    have s1 := same_new (o := .lst []) hfo
    dsimp only [gName, tSeq]
    refine ⟨_, rfl, b, ps, rfl, .of (s1 _ _ hb), fun ps' sq hperm hup' nq => ?_⟩
    have := up_same hperm hup' hup
    subst this
    have s2 := same_new (o := .lst (ps'.map V.int)) nq
    have hne : sq ≠ fo := fun e => by subst e; rw [upd_same] at nq; cases nq
    refine ⟨sq, rfl, ⟨_, .of upd_same⟩, ?_⟩
    refine for_it (walk_list (xs := ps'.map V.int)) (fun i σ H' => Same H H' ∧ H' sq = some (.lst (ps'.map V.int)) ∧ H' fo = some (.lst ((numsL holds (ps'.take i)).map V.int)) ∧ ∃ x, σ = [some (.ref th), some (.ref b), some (.ref fo), x])
      ⟨s1.trans s2, upd_same, by rw [upd_ne hne.symm, upd_same]; rfl, none, rfl⟩ (fun i σ H' _ h => .of h.2.1) ?_ ?_
    · rintro i x σ H3 H4 hi ⟨s3, h3, g3, y, rfl⟩ ⟨rfl, hx⟩
      obtain ⟨p, hp, rfl⟩ := at_int hx
      obtain ⟨p0, p1⟩ := hpb p (List.mem_of_getElem? hp)
      obtain ⟨k, rfl⟩ : ∃ k : Nat, p = (k : Int) := ⟨p.toNat, by omega⟩
      have hl := oh.len
      have hk : k < holds.length := by omega
      have hx : holds[k]? = some holds[k] := List.getElem?_eq_getElem hk
      have e3 : holds.getD k 0 = holds[k] := getD_at hx
      obtain ⟨b1, b2, b3⟩ := take_sum_le oh k
      rw [e3] at b2 b3
      refine ⟨_, rfl, .inl ⟨rfl, _, .of g3⟩, _, rfl, _, rfl, (k : Int), rfl, slice_upto (s3.keep.tup hth) fun H5 t5 s5 h5 => ⟨t5, holds.take k, rfl, .of (by rw [List.map_take]; exact h5), ?_⟩⟩
      refine ⟨_, rfl, _, rfl, _, _, rfl, rfl, ((k + 1 : Nat) : Int), rfl, slice_upto ((s3.trans s5).keep.tup hth) fun H6 t6 s6 h6 => ⟨t6, holds.take (k + 1), rfl, .of (by rw [List.map_take]; exact h6), ?_⟩⟩
      rw [take_succ_sum hk]
      refine ⟨_, _, rfl, rfl, .of_le b1 (by omega) (by omega) (by omega), fun r nr => ?_⟩
      have s56 := s5.trans s6
      have s7 := same_new (o := .lst (rgV (holds.take k).sum ((holds.take k).sum + holds[k]))) nr
      have g7 := s7 _ _ (s56 _ _ g3)
      have hnl := numsL_len oh (posts := ps'.take i) (by rw [List.length_take]; omega) (fun p hp => hpb p (List.mem_of_mem_take hp))
      have e4 : rgV (holds.take k).sum ((holds.take k).sum + holds[k]) = (heldL holds (k : Int)).map V.int := by
        rw [rgV_int]
        unfold heldL
        rw [Int.toNat_natCast, e3]
        have e4 : ((holds.take k).sum + holds[k] - (holds.take k).sum).toNat = holds[k].toNat := by omega
        rw [e4]
      refine ⟨fo, r, _, _, rfl, rfl, g7, upd_same, ?_, ?_⟩
      · rw [e4, List.length_map, List.length_map]
        have : (heldL holds (k : Int)).length ≤ 60 := by
          unfold heldL
          rw [List.length_map, List.length_range, Int.toNat_natCast, e3]
          omega
        exact Nat.le_trans (by omega : _ ≤ 300) (by decide)
      · refine ⟨same_own ((s3.trans s56).trans s7) hfo, ?_, ?_, _, rfl⟩
        · rw [upd_ne hne]
          exact s7 _ _ (s56 _ _ h3)
        · rw [upd_same, e4, List.take_succ, hp, numsL_app, List.map_append]
          simp [numsL]
    · rintro σ H3 ⟨s3, h3, g3, y, rfl⟩
      rw [List.length_map, List.take_length] at g3
      exact ⟨_, rfl, q _ fo s3 hfo g3⟩
def zeroL (mine : List Int) (r : List Int) : List Int := (List.range r.length).map fun (i : Nat) => if (i : Int) ∈ mine then r.getD i 0 else 0
/-- the spec of a sheet in the heap -/
def rSpec : Rp SD := fun H v S => ∃ t u1 u2 u3, v = .ref t ∧ H t = some (.tup [.int S.p, u1, u2, u3]) ∧ rTup rPI H u1 S.ties ∧ rRow H u2 S.holds ∧ rWants H u3 S.wants
theorem mono_spec : Mono rSpec := fun _ _ _ _ k ⟨t, u1, u2, u3, e, h1, h2, h3, h4⟩ => ⟨t, u1, u2, u3, e, k.tup h1, mono_tup mono_pi _ _ _ _ k h2, mono_row _ _ _ _ k h3, mono_wants _ _ _ _ k h4⟩
structure FS (H0 : Hp) (m r fo : Addr) (mine far : List Int) (l : List (List Int)) (H : Hp) : Prop where
  same : Same H0 H
  f0 : H0 fo = none
  ne1 : m ≠ fo
  ne2 : r ≠ fo
  md : H m = some (.lst (mine.map V.int))
  rd : H r = some (.lst (far.map V.int))
  fd : ∃ xs, H fo = some (.lst xs) ∧ Paired (rRow H) xs l
theorem FS.more {H0 : Hp} {m r fo : Addr} {mine far : List Int} {l : List (List Int)} {H H' : Hp} (F : FS H0 m r fo mine far l H) (s : Same H H') : FS H0 m r fo mine far l H' :=
  ⟨F.same.trans s, F.f0, F.ne1, F.ne2, s _ _ F.md, s _ _ F.rd, let ⟨xs, a, b⟩ := F.fd; ⟨xs, s _ _ a, paired_mono mono_row s.keep b⟩⟩
/-- the lists of the walk and of the program are the same, by what is in them -/
theorem up_nodup_same {l m : List Int} (h1 : Up l) (h2 : Up m) (n1 : l.Nodup) (n2 : m.Nodup) (h : ∀ x, x ∈ l ↔ x ∈ m) : l = m := up_same ((List.perm_ext_iff_of_nodup n1 n2).mpr h) h1 h2
structure SpecOk (S : SD) (n : Nat) : Prop where
  tree : TreeOk S.ties n
  clock : NoDiv S.p
  holds : CountsOk S.holds n
  wants : WantsOk S.p S.holds.sum n S.wants
def fullL (S : SD) (mine far : List Int) : List (List Int) := far.flatMap fun post => (S.wants.getD post.toNat []).map (zeroL mine)
theorem flatMap_take {α β : Type} {l : List α} {i : Nat} {a : α} (f : α → List β) (h : l[i]? = some a) : (l.take (i + 1)).flatMap f = (l.take i).flatMap f ++ f a := by
  rw [List.take_succ, h, List.flatMap_append]
  simp
def spLFull : Sp := fun vs H Q _ => ∃ (v u : V) (S : SD) (z : Int × Int) (n : Nat), vs = [v, u] ∧ rSpec H v S ∧ rPI H u z ∧ SpecOk S n ∧ z.2 ∈ nb S.ties z.1 ∧
  ∀ H' r xs near far, Same H H' → H r = none → H' r = some (.lst xs) → Paired (rRow H') xs (fullL S (numsL S.holds near) far) → Up near → near.Nodup → (∀ x, x ∈ near ↔ Rch S.ties (some z.2) z.1 x) → Up far → far.Nodup → (∀ x, x ∈ far ↔ Rch S.ties (some z.1) z.2 x) → Q (.ref r) H'
theorem ok_lfull (T : Tx K mg cT cS) {f : Addr} {fd : FuncData} (d : D K mg "_law_full" s_law_full ["spec", "way"] f fd) : FnOk P w K mg base CX0 3 f fd ["spec", "way"] spLFull := by
  obtain ⟨f1, fd1, d1⟩ := T.d_law_numbers
  have G1 : FnOk P w K mg base CX0 1 f1 fd1 ["holds", "posts"] spLNum := ok_lnum T d1
  obtain ⟨f2, fd2, d2⟩ := T.d_law_this
  have G2 : FnOk P w K mg base CX0 2 f2 fd2 ["ties", "way"] spLThis := ok_lthis T d2
  refine d.F.ok sc_law_full (fun vs H Q E h => ?_) (fun cdv A outer s H vs Q E hr h => ?_)
  · obtain ⟨v, u, S, z, n, rfl, _⟩ := h
    rfl
  · obtain ⟨v, u, S, ⟨a, b⟩, n, rfl, ⟨t, u1, u2, u3, rfl, ht, hT, hh, hw⟩, ⟨tz, rfl, hz⟩, ok, hab, q⟩ := h
    simp only at hab hz q
    have hn := ok.tree.ok.len
    have hn24 := ok.tree.ok.n24
    have hbR : b ∈ rng n := by
      rcases nb_mem.mp hab with h | h
      · have := ok.tree.ok.b0 _ h
        exact rng_mem.mpr ⟨by simp only at this; omega, by simp only at this; omega⟩
      · have := ok.tree.ok.b0 _ h
        exact rng_mem.mpr ⟨by simp only at this; omega, by simp only at this; omega⟩
    have haR : a ∈ rng n := ok.tree.ok.shut.cl b hbR a (nb_symm hab)
    obtain ⟨a0, a1⟩ := rng_mem.mp haR
    obtain ⟨b0, b1⟩ := rng_mem.mp hbR
    have len24 : ∀ {bar : Option Int} {s : Int} {l : List Int}, s ∈ rng n → l.Nodup → (∀ x, x ∈ l ↔ Rch S.ties bar s x) → l.length ≤ 24 ∧ ∀ x ∈ l, 0 ≤ x ∧ x < (n : Int) := fun hs hnd hm => by
      have hin : ∀ x ∈ _, x ∈ rng n := fun x hx => ((hm x).mp hx).inV ok.tree.ok.shut hs
      have := nodup_len hnd hin
      rw [rng_len] at this
      exact ⟨by omega, fun x hx => rng_mem.mp (hin x hx)⟩
    refine ⟨_, pss_cons (ps_asg (pv 0) (pg_tup rfl (pgs_cons (pg_name (i := 2) sc_law_full.nd rfl (.inl rfl)) (pgs_cons (pg_name (i := 3) sc_law_full.nd rfl (.inl rfl)) (pgs_cons (pg_name (i := 4) sc_law_full.nd rfl (.inl rfl)) (pgs_cons (pg_name (i := 5) sc_law_full.nd rfl (.inl rfl)) pgs_nil))))))
      (pss_cons (ps_asg (pe_tup (pa_cons (pe_call G1 (hr.mono (by decide)) rfl d1.m d1.F.kp d1.b .nil pass0 (pa_cons (pv 4) (pa_cons (pe_call G2 hr rfl d2.m d2.F.kp d2.b .nil pass0 (pa_cons (pv 3) (pa_cons (pv 1) pa_nil))) pa_nil))) (pa_cons (pe_lst pa_nil) pa_nil))) (pg_tup rfl (pgs_cons (pg_name (i := 6) sc_law_full.nd rfl (.inr rfl)) (pgs_cons (pg_name (i := 7) sc_law_full.nd rfl (.inl rfl)) pgs_nil))))
      (pss_cons (ps_for PassesOwn.never rfl (pi_list (pe_call G2 hr rfl d2.m d2.F.kp d2.b .nil pass0 (pa_cons (pv 3) (pa_cons (pe_revT (pv 1)) pa_nil)))) (pg_name (i := 8) sc_law_full.nd rfl (Or.inl rfl))
        (pss_one (ps_for PassesOwn.never rfl (pi_tup (pe_ix ix_tup (pv 5) (pv 8) (fun _ _ => rfl))) (pg_name (i := 9) sc_law_full.nd rfl (Or.inl rfl))
          (pss_one (ps_expr (pe_bm PySem.F.plainAttrs_list PySem.F.slot_list_append PySem.F.type_list_append mt_append (pv 7) (pa_cons
            (pe_callTy call_tuple_of (by rfl) T.b_tuple (by decide +kernel) (pa_cons
              (pe_lc (own := [("at", 10), ("value", 11)]) (g := gTup K 2 (gCons (gName 10) (gCons (gName 11) gNil))) (tt := tYes) rfl sc_law_full.nd (pi_enumT (by rfl) T.b_enumerate (pa_cons (pv 9) pa_nil)) (blkOk_by (N := N_law_full) (sc := defScope s_law_full) (by decide +kernel))
                (fun _ _ _ _ _ => pgT rfl rfl (pgs_cons (pg_name (i := 10) sc_law_full.nd rfl (Or.inl rfl)) (pgs_cons (pg_name (i := 11) sc_law_full.nd rfl (Or.inl rfl)) pgs_nil))) (fun _ _ _ _ _ => pts_nil)
                (fun _ _ _ _ _ => pe_ifExp (pt_cmpR (inS (K := K) rfl) (pv 10) (pv 6) (by rfl)) (pv 11) pe_int)) pa_nil)) pa_nil)))))))
      (pss_one (ps_ret (pv 7))))), ?_⟩
    refine ⟨_, rfl, t, _, rfl, .of ht, rfl, _, _, rfl, _, _, rfl, _, _, rfl, _, _, rfl, rfl, ?_⟩
    dsimp only [gName, tSeq]
    refine ⟨_, rfl, _, rfl, _, rfl, u1, .ref tz, S.ties, (a, b), n, rfl, hT, ⟨tz, rfl, hz⟩, ok.tree, a0, a1, fun H2 rn near s2 nrn hrn nup nnd nm => ?_⟩
    obtain ⟨nl, nb0⟩ := len24 haR nnd nm
    refine ⟨u2, rn, S.holds, near, n, rfl, mono_row _ _ _ _ s2.keep hh, ok.holds, hn24, hrn, nup, nl, nb0, fun H3 m s3 nm3 hm => ?_⟩
    have s13 := s2.trans s3
    refine ⟨by show 0 ≤ sizeLine; decide, fun fo hfo => ⟨by show 2 ≤ sizeLine; decide, fun tt htt => ?_⟩⟩
    have s4 := same_new (o := .lst []) hfo
    have s5 := same_new (o := .tup [V.ref m, V.ref fo]) htt
    refine ⟨tt, _, rfl, .of upd_same, rfl, _, _, rfl, _, _, rfl, rfl, ?_⟩
    have s15 := s13.trans (s4.trans s5)
    have f0 : H fo = none := s13.free hfo
    have hmf : m ≠ fo := fun e => by subst e; rw [hm] at hfo; cases hfo
    have htt2 : H tt = none := (s13.trans s4).free htt
    dsimp only [gName, tSeq]
    refine ⟨_, rfl, _, rfl, tz, _, rfl, .of (s15.keep.tup hz), fun rv nrv => ?_⟩
    have s6 := same_new (o := .tup [V.int a, V.int b].reverse) nrv
    have s16 := s15.trans s6
    refine ⟨u1, .ref rv, S.ties, (b, a), n, rfl, mono_tup mono_pi _ _ _ _ s16.keep hT, ⟨rv, rfl, upd_same⟩, ok.tree, b0, b1, fun H7 r far s7 nr hr7 fup fnd fm => ?_⟩
    simp only at fm
    obtain ⟨fl, fb0⟩ := len24 hbR fnd fm
    have s17 := s16.trans s7
    have hfo6 : (upd (upd (upd H3 fo (.lst [])) tt (.tup [V.ref m, V.ref fo])) rv (.tup [V.int a, V.int b].reverse)) fo = some (.lst []) := s6 _ _ (s5 _ _ upd_same)
    have hrf : r ≠ fo := fun e => by subst e; rw [hfo6] at nr; cases nr
    have hm7 : H7 m = some (.lst ((numsL S.holds near).map V.int)) := s7 _ _ (s6 _ _ (s5 _ _ (s4 _ _ hm)))
    refine ⟨r, rfl, ⟨_, .of hr7⟩, ?_⟩
    have hwl := ok.wants.len
    refine for_it (walk_list (xs := far.map V.int)) (fun i σ H' => FS H m r fo (numsL S.holds near) far (fullL S (numsL S.holds near) (far.take i)) H' ∧ ∃ x y, σ = [some (.ref t), some (.ref tz), some (.int S.p), some u1, some u2, some u3, some (.ref m), some (.ref fo), x, y, none, none])
      ⟨⟨s17, f0, hmf, hrf, hm7, hr7, [], s7 _ _ hfo6, .nil⟩, none, none, rfl⟩ (fun i σ H' _ h => .of h.1.rd) ?_ ?_
    · rintro i x σ H8 H9 hi ⟨F, x1, y1, rfl⟩ ⟨rfl, hx⟩
      obtain ⟨p, hp, rfl⟩ := at_int hx
      obtain ⟨p0, p1⟩ := fb0 p (List.mem_of_getElem? hp)
      obtain ⟨k, rfl⟩ : ∃ k : Nat, p = (k : Int) := ⟨p.toNat, by omega⟩
      have hk : k < S.wants.length := by omega
      have hk0 : S.wants[k]? = some S.wants[k] := List.getElem?_eq_getElem hk
      obtain ⟨tw, ws, rfl, htw, hwp⟩ := mono_wants _ _ _ _ F.same.keep hw
      obtain ⟨y, hy, ty, rs, rfl, hty, hrs⟩ := paired_get2 hwp hk0
      have hrl := paired_len hrs
      obtain ⟨w8, wr⟩ := ok.wants.b _ (List.getElem_mem hk)
      have hg0 : S.wants.getD k [] = S.wants[k] := getD_at hk0
      refine ⟨_, rfl, _, rfl, tw, ws, _, _, rfl, rfl, .of htw, atI_nat hy, ty, rfl, ⟨_, .of hty⟩, ?_⟩
      have efull : fullL S (numsL S.holds near) (far.take (i + 1)) = fullL S (numsL S.holds near) (far.take i) ++ (S.wants[k]).map (zeroL (numsL S.holds near)) := by
        unfold fullL
        rw [flatMap_take _ hp, Int.toNat_natCast, hg0]
      have hflen : ∀ j, (fullL S (numsL S.holds near) (far.take j)).length ≤ 8 * 24 := fun j => by
        have : ∀ l : List Int, (fullL S (numsL S.holds near) l).length ≤ 8 * l.length := by
          intro l
          induction l with
          | nil => simp [fullL]
          | cons c l ih =>
            show ((S.wants.getD c.toNat []).map (zeroL (numsL S.holds near)) ++ fullL S (numsL S.holds near) l).length ≤ _
            rw [List.length_append, List.length_map, List.length_cons]
            have : (S.wants.getD c.toNat []).length ≤ 8 := by
              rw [List.getD_eq_getElem?_getD]
              cases e : S.wants[c.toNat]? with
              | none => simp
              | some r => exact (ok.wants.b r (List.mem_of_getElem? e)).1
            omega
        have := this (far.take j)
        rw [List.length_take] at this
        omega
      refine for_tup (K := K) (a := ty) (xs := rs) (fun j σ H' => FS H m r fo (numsL S.holds near) far (fullL S (numsL S.holds near) (far.take i) ++ ((S.wants[k]).take j).map (zeroL (numsL S.holds near))) H' ∧ Keep H9 H' ∧ ∃ y, σ = [some (.ref t), some (.ref tz), some (.int S.p), some u1, some u2, some (.ref tw), some (.ref m), some (.ref fo), some (.int k), y, none, none])
        ⟨by rw [List.take_zero, List.map_nil, List.append_nil]; exact F, .refl _, y1, rfl⟩ (fun j σ H' _ h => .of (h.2.1.tup hty)) ?_ ?_
      · rintro j x σ H9 hx ⟨F9, kp9, y2, rfl⟩
        have hj8 : j < 8 := by
          have := (List.getElem?_eq_some_iff.mp hx).1
          omega
        obtain ⟨row, hrow, tr, rfl, htr⟩ := paired_get (paired_mono mono_row kp9 hrs) hx
        have hrr := wr row (List.mem_of_getElem? hrow)
        obtain ⟨xs, hfd, hfp⟩ := F9.fd
        have hxl := paired_len hfp
        rw [List.length_append, List.length_map, List.length_take] at hxl
        have h192 := hflen i
        refine ⟨_, rfl, .inl ⟨rfl, _, .of hfd⟩, _, rfl, tr, _, rfl, .of htr, fun D hD => ?_⟩
        refine lc_fm (walk_enumT (xs := row.map V.int)) rInt (fun i => some (if (i : Int) ∈ numsL S.holds near then row.getD i 0 else 0)) hD (fun H' s' => .of (s'.keep.tup htr)) ?_ ?_
        · rintro c x H10 H11 hc pv ⟨tp, x1, x2, rfl, np, rfl, e2, e3⟩
          have s11 := same_new (o := .tup [x1, x2]) np
          cases (Option.some.inj e2)
          obtain ⟨val, hval, rfl⟩ := at_int e3
          rw [List.length_map] at hc
          have hrl2 := hrr.1
          have hs60 := ok.holds.s
          refine ⟨tp, _, rfl, .of upd_same, rfl, _, _, rfl, _, _, rfl, rfl, rfl, _, rfl, _, rfl, m, _, rfl, .inl (.of ((pv.1.trans s11) _ _ F9.md)), rfl, flat_ints _, _, rfl, ?_⟩
          rw [if_neg Bool.false_ne_true, inV_ints]
          by_cases hin : (c : Int) ∈ numsL S.holds near
          · rw [decide_eq_true hin]
            exact iteT ⟨_, rfl, fm_keep mono_int pv hD (by omega) s11 (by rw [if_pos hin]) (by rw [getD_at hval]; rfl)⟩
          · rw [decide_eq_false hin]
            exact iteF (fm_keep mono_int pv hD (by omega) s11 (by rw [if_neg hin]) rfl)
        · intro H10 ys s10 hD10 hp10
          rw [List.length_map, fm_all] at hp10
          have := paired_int hp10
          subst this
          refine ⟨D, _, rfl, .inl ⟨.of hD10, fun nt nnt => ?_⟩⟩
          have s11 := same_new (o := .tup (((List.range row.length).map fun (i : Nat) => if (i : Int) ∈ numsL S.holds near then row.getD i 0 else 0).map V.int)) nnt
          have F11 := F9.more (s10.trans s11)
          have hfd11 := (s10.trans s11) _ _ hfd
          have k12 : Keep _ _ := keep_lst (o := .lst (xs ++ [V.ref nt])) hfd11
          refine ⟨fo, _, _, rfl, rfl, hfd11, Nat.lt_of_le_of_lt (by omega : xs.length ≤ 400) (by decide), ?_⟩
          refine ⟨⟨same_own F11.same f0, f0, hmf, hrf, by rw [upd_ne hmf]; exact F11.md, by rw [upd_ne hrf]; exact F11.rd, _, upd_same, ?_⟩, (kp9.trans (s10.trans s11).keep).trans k12, _, rfl⟩
          rw [List.take_succ, hrow, List.map_append, ← List.append_assoc]
          refine paired_app (paired_mono mono_row ((s10.trans s11).keep.trans k12) hfp) (.cons ?_ .nil)
          exact mono_row _ _ _ _ k12 ⟨nt, rfl, upd_same⟩
      · rintro σ H9 ⟨F9, kp9, y2, rfl⟩
        rw [hrl, List.take_length, ← efull] at F9
        exact ⟨F9, _, _, rfl⟩
    · rintro σ H8 ⟨F, x1, y1, rfl⟩
      rw [List.length_map, List.take_length] at F
      obtain ⟨xs, hfd, hfp⟩ := F.fd
      exact ⟨_, rfl, q _ fo xs near far F.same f0 hfd hfp nup nnd nm fup fnd fm⟩
end
end S4

namespace S4
open PySem L2 TT MM
theorem zero_cut {mine r : List Int} (h : ∀ i ∈ mine, 0 ≤ i ∧ i < (r.length : Int)) : cutL (zeroL mine r) mine = cutL r mine := by
  unfold cutL
  refine List.map_congr_left fun i hi => ?_
  obtain ⟨h0, h1⟩ := h i hi
  obtain ⟨k, rfl⟩ : ∃ k : Nat, i = (k : Int) := ⟨i.toNat, by omega⟩
  rw [Int.toNat_natCast]
  have hk : (zeroL mine r)[k]? = some (if (k : Int) ∈ mine then r.getD k 0 else 0) := by
    unfold zeroL
    rw [List.getElem?_map, List.getElem?_range (by omega)]
    rfl
  rw [getD_at hk, if_pos hi]
theorem range_getD {α β : Type} (d : α) (h : α → β) : ∀ l : List α, (List.range l.length).map (fun k => h (l.getD k d)) = l.map h := fun l => by
  apply List.ext_getElem?
  intro i
  rw [List.getElem?_map, List.getElem?_map]
  by_cases hi : i < l.length
  · rw [List.getElem?_range hi, List.getElem?_eq_getElem hi]
    show some (h (l.getD i d)) = some (h l[i])
    rw [getD_at (List.getElem?_eq_getElem hi)]
  · rw [List.getElem?_eq_none (by rw [List.length_range]; omega), List.getElem?_eq_none (by omega)]
    rfl
theorem full_block {S : SD} {near far : List Int} (h : ∀ p ∈ far, ∀ r ∈ S.wants.getD p.toNat [], ∀ i ∈ numsL S.holds near, 0 ≤ i ∧ i < (r.length : Int)) : (fullL S (numsL S.holds near) far).map (fun r => cutL r (numsL S.holds near)) = blockL S near far := by
  unfold fullL blockL farL
  rw [List.map_flatMap, List.map_flatMap]
  induction far with
  | nil => rfl
  | cons p far ih =>
    rw [List.flatMap_cons, List.flatMap_cons, ih fun x hx => h x (by simp [hx])]
    congr 1
    rw [List.map_map, List.map_map]
    have e := range_getD ([] : List Int) (fun r => cutL r (numsL S.holds near)) (S.wants.getD p.toNat [])
    have e2 : (List.range (S.wants.getD p.toNat []).length).map ((fun z : Int × Int => cutL ((S.wants.getD z.1.toNat []).getD z.2.toNat []) (numsL S.holds near)) ∘ fun (k : Nat) => (p, (k : Int))) = (List.range (S.wants.getD p.toNat []).length).map (fun k => cutL ((S.wants.getD p.toNat []).getD k []) (numsL S.holds near)) := by
      refine List.map_congr_left fun k _ => ?_
      show cutL ((S.wants.getD p.toNat []).getD ((k : Int)).toNat []) _ = _
      rw [Int.toNat_natCast]
    rw [e2, e]
    refine List.map_congr_left fun r hr => ?_
    exact zero_cut fun i hi => h p (by simp) r hr i hi
section
variable {P : Program} {w : World} {K : PySem.W.Frag} {mg : Str → Option Value} {base : Heap} {cT cS : Addr}
def spLCut : Sp := fun vs H Q _ => ∃ (v u : V) (S : SD) (z : Int × Int) (n : Nat), vs = [v, u] ∧ rSpec H v S ∧ rPI H u z ∧ SpecOk S n ∧ z.2 ∈ nb S.ties z.1 ∧
  ∀ H' r xs near far, Same H H' → H r = none → H' r = some (.lst xs) → Paired (rRow H') xs (blockL S near far) → Up near → near.Nodup → (∀ x, x ∈ near ↔ Rch S.ties (some z.2) z.1 x) → Up far → far.Nodup → (∀ x, x ∈ far ↔ Rch S.ties (some z.1) z.2 x) → Q (.ref r) H'
def scO : Scope := { kind := .function, names := [(".0", .local), ("row", .cell), ("tuple", .globalImplicit), ("mine", .cell)], isGenerator := false, isCoroutine := false }
theorem ok_lcut (T : Tx K mg cT cS) {f : Addr} {fd : FuncData} (d : D K mg "_law_cut" s_law_cut ["spec", "way"] f fd) : FnOk P w K mg base CX0 4 f fd ["spec", "way"] spLCut := by
  obtain ⟨f1, fd1, d1⟩ := T.d_law_numbers
  have G1 : FnOk P w K mg base CX0 1 f1 fd1 ["holds", "posts"] spLNum := ok_lnum T d1
  obtain ⟨f2, fd2, d2⟩ := T.d_law_this
  have G2 : FnOk P w K mg base CX0 2 f2 fd2 ["ties", "way"] spLThis := ok_lthis T d2
  obtain ⟨f3, fd3, d3⟩ := T.d_law_full
  have G3 : FnOk P w K mg base CX0 3 f3 fd3 ["spec", "way"] spLFull := ok_lfull T d3
  refine d.F.ok sc_law_cut (fun vs H Q E h => ?_) (fun cdv A outer s H vs Q E hr h => ?_)
  · obtain ⟨v, u, S, z, n, rfl, _⟩ := h
    rfl
  · obtain ⟨v, u, S, ⟨a, b⟩, n, rfl, hS, ⟨tz, rfl, hz⟩, ok, hab, q⟩ := h
    obtain ⟨t, u1, u2, u3, rfl, ht, hT, hh, hw⟩ := id hS
    simp only at hab hz q
    have hn := ok.tree.ok.len
    have hn24 := ok.tree.ok.n24
    have hbR : b ∈ rng n := by
      rcases nb_mem.mp hab with h | h
      · have := ok.tree.ok.b0 _ h
        exact rng_mem.mpr ⟨by simp only at this; omega, by simp only at this; omega⟩
      · have := ok.tree.ok.b0 _ h
        exact rng_mem.mpr ⟨by simp only at this; omega, by simp only at this; omega⟩
    have haR : a ∈ rng n := ok.tree.ok.shut.cl b hbR a (nb_symm hab)
    obtain ⟨a0, a1⟩ := rng_mem.mp haR
    obtain ⟨b0, b1⟩ := rng_mem.mp hbR
    have len24 : ∀ {bar : Option Int} {s : Int} {l : List Int}, s ∈ rng n → l.Nodup → (∀ x, x ∈ l ↔ Rch S.ties bar s x) → l.length ≤ 24 ∧ ∀ x ∈ l, 0 ≤ x ∧ x < (n : Int) := fun hs hnd hm => by
      have hin : ∀ x ∈ _, x ∈ rng n := fun x hx => ((hm x).mp hx).inV ok.tree.ok.shut hs
      have := nodup_len hnd hin
      rw [rng_len] at this
      exact ⟨by omega, fun x hx => rng_mem.mp (hin x hx)⟩
    refine ⟨_, pss_cons (ps_asg (pv 0) (pg_tup rfl (pgs_cons (pg_name (i := 2) sc_law_cut.nd rfl (.inl rfl)) (pgs_cons (pg_name (i := 3) sc_law_cut.nd rfl (.inl rfl)) (pgs_cons (pg_name (i := 4) sc_law_cut.nd rfl (.inl rfl)) (pgs_cons (pg_name (i := 5) sc_law_cut.nd rfl (.inl rfl)) pgs_nil))))))
      (pss_cons (ps_set (i := 6) sc_law_cut.nd rfl (.inr rfl) (pe_call G1 (hr.mono (by decide)) rfl d1.m d1.F.kp d1.b .nil pass0 (pa_cons (pv 4) (pa_cons (pe_call G2 (hr.mono (by decide)) rfl d2.m d2.F.kp d2.b .nil pass0 (pa_cons (pv 3) (pa_cons (pv 1) pa_nil))) pa_nil))))
      (pss_one (ps_ret
        (pe_lc (own := [("row", 8)]) (g := gName 8) (tt := tYes) rfl sc_law_cut.nd (pi_list (pe_call G3 hr rfl d3.m d3.F.kp d3.b .nil pass0 (pa_cons (pv 0) (pa_cons (pv 1) pa_nil)))) (blkOk_by (N := N_law_cut) (sc := defScope s_law_cut) (by decide +kernel))
          (fun _ _ _ _ _ => pg_name (i := 8) sc_law_cut.nd rfl (Or.inr rfl)) (fun _ _ _ _ _ => pts_nil)
          (fun _ _ _ _ _ => pe_callTy (tupS (K := K) rfl) (by rfl) T.b_tuple (by decide +kernel) (pa_cons
            (pe_lc (own := [("at", 7)]) (wi := iList K (tVar 6)) (g := gName 7) (tt := tYes) rfl sc_law_cut.nd (pi_list (pv 6)) (blkOk_by (N := N_law_cut) (sc := scO) (own := [("at", 7)]) (by decide +kernel))
              (fun _ _ _ _ _ => pg_name (i := 7) sc_law_cut.nd rfl (Or.inl rfl)) (fun _ _ _ _ _ => pts_nil)
              (fun _ _ _ _ _ => pe_ix (ixT (K := K) rfl) (pv 8) (pv 7) (fun _ _ => rfl))) pa_nil)))))), ?_⟩
    refine ⟨_, rfl, t, _, rfl, .of ht, rfl, _, _, rfl, _, _, rfl, _, _, rfl, _, _, rfl, rfl, ?_⟩
    dsimp only [gName, tSeq]
    refine ⟨_, rfl, _, rfl, _, rfl, u1, .ref tz, S.ties, (a, b), n, rfl, hT, ⟨tz, rfl, hz⟩, ok.tree, a0, a1, fun H2 rn near s2 nrn hrn nup nnd nm => ?_⟩
    obtain ⟨nl, nb0⟩ := len24 haR nnd nm
    refine ⟨u2, rn, S.holds, near, n, rfl, mono_row _ _ _ _ s2.keep hh, ok.holds, hn24, hrn, nup, nl, nb0, fun H3 m s3 nm3 hm => ?_⟩
    have s13 := s2.trans s3
    dsimp only [gName, tSeq]
    refine ⟨_, rfl, _, rfl, .ref t, .ref tz, S, (a, b), n, rfl, mono_spec _ _ _ _ s13.keep hS, ⟨tz, rfl, s13.keep.tup hz⟩, ok, hab, fun H4 r xs near' far s4 nr hr4 hxp nup' nnd' nm' fup fnd fm => ?_⟩
    simp only at nm' fm
    have := up_nodup_same nup' nup nnd' nnd fun x => by rw [nm', nm]
    subst this
    obtain ⟨fl, fb0⟩ := len24 hbR fnd fm
    have hm4 := s4 _ _ hm
    have s14 := s13.trans s4
    have hlen := paired_len hxp
    have hnums := numsL_len ok.holds nl nb0
    have hwl := ok.wants.len
    have rowsOk : ∀ p ∈ far, ∀ r ∈ S.wants.getD p.toNat [], ∀ i ∈ numsL S.holds near', 0 ≤ i ∧ i < (r.length : Int) := fun p hp r hr i hi => by
      obtain ⟨p0, p1⟩ := fb0 p hp
      have hk0 : S.wants[p.toNat]? = some (S.wants[p.toNat]'(by omega)) := List.getElem?_eq_getElem (by omega)
      rw [getD_at hk0] at hr
      have := ((ok.wants.b _ (List.getElem_mem (h := by omega) (l := S.wants) (n := p.toNat))).2 r hr).1
      rw [this]
      exact numsL_in ok.holds hi
    have zlen : ∀ x ∈ fullL S (numsL S.holds near') far, ∀ i ∈ numsL S.holds near', 0 ≤ i ∧ i < (x.length : Int) := fun x hx i hi => by
      obtain ⟨p, hp, hx2⟩ := List.mem_flatMap.mp hx
      obtain ⟨r, hr, rfl⟩ := List.mem_map.mp hx2
      have := rowsOk p hp r hr i hi
      unfold zeroL
      rw [List.length_map, List.length_range]
      exact this
    have hflen : (fullL S (numsL S.holds near') far).length ≤ 8 * 24 := by
      have : ∀ l : List Int, (fullL S (numsL S.holds near') l).length ≤ 8 * l.length := by
        intro l
        induction l with
        | nil => simp [fullL]
        | cons c l ih =>
          show ((S.wants.getD c.toNat []).map (zeroL (numsL S.holds near')) ++ fullL S (numsL S.holds near') l).length ≤ _
          rw [List.length_append, List.length_map, List.length_cons]
          have : (S.wants.getD c.toNat []).length ≤ 8 := by
            rw [List.getD_eq_getElem?_getD]
            cases e : S.wants[c.toNat]? with
            | none => simp
            | some r => exact (ok.wants.b r (List.mem_of_getElem? e)).1
          omega
      have := this far
      omega
    refine ⟨r, rfl, ⟨_, .of hr4⟩, fun D hD => ?_⟩
    refine lc_fm (walk_list (xs := xs)) rRow (fun i => (fullL S (numsL S.holds near') far)[i]?.bind fun x => some (cutL x (numsL S.holds near'))) hD (fun H' s' => .of (s' _ _ hr4)) ?_ ?_
    · rintro i x H5 H6 hi pv ⟨rfl, hx⟩
      obtain ⟨row, hrow, tr, rfl, htr⟩ := paired_get (paired_mono mono_row pv.1.keep hxp) hx
      have zl := zlen row (List.mem_of_getElem? hrow)
      refine ⟨rfl, _, rfl, m, rfl, ⟨_, .of (pv.1 _ _ hm4)⟩, fun D2 hD2 => ?_⟩
      refine lc_fm (walk_list (xs := (numsL S.holds near').map V.int)) rInt (fun i => (numsL S.holds near')[i]?.bind fun j => some (row.getD j.toNat 0)) hD2 (fun H' s' => .of ((pv.1.trans s') _ _ hm4)) ?_ ?_
      · rintro c x H7 H8 hc pv7 ⟨rfl, hx⟩
        obtain ⟨j, hj, rfl⟩ := at_int hx
        rw [List.length_map] at hc
        obtain ⟨g1, g2⟩ := zl j (List.mem_of_getElem? hj)
        obtain ⟨k, rfl⟩ : ∃ k : Nat, j = (k : Int) := ⟨j.toNat, by omega⟩
        have hk : row[k]? = some (row[k]'(by omega)) := List.getElem?_eq_getElem (by omega)
        refine ⟨rfl, _, rfl, _, rfl, tr, _, _, _, rfl, rfl, .of (pv7.1.keep.tup htr), atI_nat (int_at hk), ?_⟩
        refine fm_keep mono_int pv7 hD2 (by omega) (Same.refl _) (by rw [hj]; rfl) ?_
        rw [Int.toNat_natCast, getD_at hk]
        rfl
      · intro H7 ys s7 hD7 hp7
        rw [List.length_map, fm_some] at hp7
        have := paired_int hp7
        subst this
        refine ⟨D2, _, rfl, .inl ⟨.of hD7, fun nt nnt => ?_⟩⟩
        exact fm_keep mono_row pv hD (by omega) (s7.trans (same_new nnt)) (by rw [hrow]; rfl) ⟨nt, rfl, upd_same⟩
    · intro H5 ys s5 hD5 hp5
      rw [hlen, fm_some, full_block rowsOk] at hp5
      have s15 := s14.trans s5
      have hD0 : H D = none := s14.free hD
      exact q _ D ys near' far s15 hD0 hD5 hp5 nup' nnd' nm' fup fnd fm
end
end S4

namespace S4
open PySem L2 TT MM
theorem rgV_rng (n : Nat) : rgV 0 (n : Int) = (rng n).map V.int := by
  rw [rgV_int]
  unfold rng
  have e : ((n : Int) - 0).toNat = n := by omega
  rw [e]
  congr 1
  refine List.map_congr_left fun i _ => ?_
  omega
theorem tieOf_sorted {l q : Int} {ns : List Int} (h : ns.Perm [l, q]) (hu : Up ns) : ns = [(tieOf l q).1, (tieOf l q).2] := by
  have hp : [(tieOf l q).1, (tieOf l q).2].Perm [l, q] := by
    unfold tieOf
    split
    · exact .refl _
    · exact .swap _ _ _
  refine up_same (h.trans hp.symm) hu ?_
  unfold tieOf
  split
  · simp only [List.pairwise_cons, List.mem_singleton, forall_eq, List.not_mem_nil, false_implies, implies_true, List.Pairwise.nil, and_true]
    omega
  · simp only [List.pairwise_cons, List.mem_singleton, forall_eq, List.not_mem_nil, false_implies, implies_true, List.Pairwise.nil, and_true]
    omega
section
variable {P : Program} {w : World} {K : PySem.W.Frag} {mg : Str → Option Value} {base : Heap} {cT cS : Addr}
def spLTies : Sp := fun vs H Q _ => ∃ (g c : Addr) (n : Nat), vs = [.ref g, .int (n : Int)] ∧ 1 ≤ n ∧ n ≤ 24 ∧ Hand g c H ∧ ∀ H' v ties, But g H H' → Hand g c H' → rTup rPI H' v ties → TreeOk ties n → Q v H'
theorem ok_lties (T : Tx K mg cT cS) {f : Addr} {fd : FuncData} (d : D K mg "_law_ties" s_law_ties ["hand", "posts"] f fd) : FnOk P w K mg base CX0 3 f fd ["hand", "posts"] spLTies := by
  obtain ⟨f1, fd1, d1⟩ := T.d_law_draw
  have G1 : FnOk P w K mg base CX0 1 f1 fd1 ["hand", "many"] spDraw := ok_draw T d1
  obtain ⟨f2, fd2, d2⟩ := T.d_law_mixed
  have G2 : FnOk P w K mg base CX0 2 f2 fd2 ["hand", "items"] spMixed := ok_mixed T d2
  refine d.F.ok sc_law_ties (fun vs H Q E h => ?_) (fun cdv A outer s H vs Q E hr h => ?_)
  · obtain ⟨g, c, n, rfl, _⟩ := h
    rfl
  · obtain ⟨g, c, n, rfl, n1, n24, hh, q⟩ := h
    refine ⟨_, pss_cons (ps_par3 (i := 2) (j := 3) (l := 4) (by rfl) sc_law_ties.nd rfl rfl rfl (by decide) (by decide) (by decide) rfl rfl rfl
        (pa_cons (pe_call G2 hr rfl d2.m d2.F.kp d2.b .nil pass0 (pa_cons (pv 0) (pa_cons (pe_listRg rfl (by rfl) T.b_list (prg_1 (by rfl) T.b_range (pv 1))) pa_nil)))
        (pa_cons (pe_call G1 (hr.mono (by decide)) rfl d1.m d1.F.kp d1.b .nil pass0 (pa_cons (pv 0) (pa_cons pe_int pa_nil)))
        (pa_cons (pe_lst pa_nil) pa_nil))) (by rfl))
      (pss_cons (ps_for PassesOwn.never rfl (pi_range2 rfl T.b_range (pa_cons pe_int (pa_cons (pv 1) pa_nil))) (pg_name (i := 5) sc_law_ties.nd rfl (Or.inl rfl))
        (pss_cons (ps_set (i := 6) sc_law_ties.nd rfl (.inl rfl) (pe_ix ix_list (pe_lst (pa_cons (pe_op op_sub (pv 5) pe_int) (pa_cons pe_int (pa_cons (pe_call G1 (hr.mono (by decide)) rfl d1.m d1.F.kp d1.b .nil pass0 (pa_cons (pv 0) (pa_cons (pv 5) pa_nil)))
            (pa_cons (pe_callB (call_max2 rfl) (by rfl) T.b_max (by decide +kernel) (pa_cons pe_int (pa_cons (pe_op op_sub (pe_op op_sub (pv 5) pe_int) (pe_call G1 (hr.mono (by decide)) rfl d1.m d1.F.kp d1.b .nil pass0 (pa_cons (pv 0) (pa_cons pe_int pa_nil)))) pa_nil))) pa_nil))))) (pv 3) (fun _ _ => rfl)))
          (pss_one (ps_expr (pe_bm PySem.F.plainAttrs_list PySem.F.slot_list_append PySem.F.type_list_append mt_append (pv 4) (pa_cons
            (pe_callTy call_tuple_of (by rfl) T.b_tuple (by decide +kernel) (pa_cons (pe_callB cr_sortedTI (by rfl) T.b_sorted (by decide +kernel) (pa_cons
              (pe_tup (pa_cons (pe_ix ix_list (pv 2) (pv 5) (fun _ _ => rfl)) (pa_cons (pe_ix ix_list (pv 2) (pv 6) (fun _ _ => rfl)) pa_nil))) pa_nil)) pa_nil)) pa_nil))))))
      (pss_one (ps_ret (pe_callTy call_tuple_of (by rfl) T.b_tuple (by decide +kernel) (pa_cons (pe_callB cr_sortedPD (by rfl) T.b_sorted (by decide +kernel) (pa_cons (pv 4) pa_nil)) pa_nil))))), ?_⟩
    refine ⟨_, rfl, _, rfl, _, rfl, ⟨by omega, by omega, by omega, by omega, by omega⟩, fun b nb => ?_⟩
    have s1 := same_new (o := .lst (rgV 0 (n : Int))) nb
    refine ⟨g, c, b, rng n, rfl, by rw [upd_same, rgV_rng], (hand_new hh nb).1, by rw [rng_len]; omega, hh.same s1, fun H2 nm names b2 hh2 nm0 hnm hperm => ?_⟩
    have nmg := hand_new (hh.same s1) nm0
    refine ⟨_, rfl, g, c, 4, rfl, by decide, by decide, hh2, fun H3 kind b3 hh3 k0 k1 => ?_⟩
    have hnm3 := b3.lst nmg.1 hnm
    refine ⟨by show 0 ≤ sizeLine; decide, fun fo hfo => ?_⟩
    have s4 := same_new (o := .lst []) hfo
    have fog := hand_new hh3 hfo
    have hne : nm ≠ fo := fun e => by subst e; rw [hnm3] at hfo; cases hfo
    have b13 := (s1.but g).trans (b2.trans b3)
    have fo0 : H fo = none := b13.free hfo fog.1
    have nml : names.length = n := by rw [hperm.length_eq, rng_len]
    have nmnd : names.Nodup := hperm.nodup_iff.mpr (rng_nodup n)
    refine ⟨_, _, _, rfl, ?_⟩
    dsimp only [gName, tSeq]
    refine ⟨_, rfl, _, _, rfl, ⟨by omega, by omega, by omega, by omega⟩, ?_⟩
    have x0 : names[0]? = some (names[0]'(by omega)) := List.getElem?_eq_getElem (by omega)
    refine for_it (walk_range (lo := 1) (n := ((n : Int) - 1).toNat)) (fun i σ H' => ∃ x y, σ = [some (.ref g), some (.int (n : Int)), some (.ref nm), some (.int kind), some (.ref fo), x, y] ∧ But g H H' ∧ Hand g c H' ∧ H' nm = some (.lst (names.map V.int)) ∧
      ∃ xs es, H' fo = some (.lst xs) ∧ Paired (rPI H') xs es ∧ Tr (names.take (i + 1)) es)
      ⟨none, none, rfl, b13.trans (s4.but g), hh3.same s4, s4 _ _ hnm3, [], [], upd_same, .nil, by rw [List.take_succ, x0]; exact .one _⟩ (fun i σ H' _ h => trivial) ?_ ?_
    · rintro i x σ H5 H6 hi ⟨x1, y1, rfl, bt, hh5, hnm5, xs, es, hfo5, hxp, tr⟩ ⟨rfl, rfl⟩
      have hi2 : i + 1 < n := by omega
      have hxl := paired_len hxp
      have htl := tr.len
      rw [List.length_take] at htl
      refine ⟨_, rfl, _, _, rfl, rfl, _, rfl, _, rfl, g, c, _, rfl, by omega, by omega, hh5, fun H7 e1 b7 hh7 e10 e11 => ?_⟩
      refine ⟨_, rfl, _, _, rfl, rfl, _, rfl, g, c, 2, rfl, by decide, by decide, hh7, fun H8 e2 b8 hh8 e20 e21 => ⟨_, _, rfl, rfl, _, _, rfl, ?_⟩⟩
      refine ⟨by show 4 ≤ sizeLine; decide, fun lb nlb => ⟨_, rfl, ?_⟩⟩
      have s9 := same_new (o := .lst [V.int (1 + (i : Int) - 1), V.int 0, V.int e1, V.int (if 1 + (i : Int) - 1 - e2 > 0 then 1 + (i : Int) - 1 - e2 else 0)]) nlb
      obtain ⟨kk, rfl⟩ : ∃ kk : Nat, kind = (kk : Int) := ⟨kind.toNat, by omega⟩
      obtain ⟨o, hoo, ho1⟩ : ∃ o : Nat, [V.int (1 + (i : Int) - 1), V.int 0, V.int e1, V.int (if 1 + (i : Int) - 1 - e2 > 0 then 1 + (i : Int) - 1 - e2 else 0)][kk]? = some (V.int (o : Int)) ∧ o ≤ i := by
        rcases (show kk = 0 ∨ kk = 1 ∨ kk = 2 ∨ kk = 3 by omega) with rfl | rfl | rfl | rfl
        · exact ⟨i, by show some (V.int (1 + (i : Int) - 1)) = _; congr 2; omega, Nat.le_refl _⟩
        · exact ⟨0, rfl, Nat.zero_le _⟩
        · exact ⟨e1.toNat, by show some (V.int e1) = _; congr 2; omega, by omega⟩
        · refine ⟨(if 1 + (i : Int) - 1 - e2 > 0 then 1 + (i : Int) - 1 - e2 else 0).toNat, ?_, ?_⟩
          · show some (V.int (if 1 + (i : Int) - 1 - e2 > 0 then 1 + (i : Int) - 1 - e2 else 0)) = _
            congr 2
            split <;> omega
          · split <;> omega
      have b89 := (b7.trans b8).trans (s9.but g)
      have hfo9 := b89.lst fog.1 hfo5
      have hnm9 := b89.lst nmg.1 hnm5
      refine ⟨lb, _, _, _, rfl, rfl, .of upd_same, atI_nat hoo, ?_⟩
      refine ⟨_, rfl, .inl ⟨rfl, _, .of hfo9⟩, ?_⟩
      have ai : names[i + 1]? = some (names[i + 1]'(by omega)) := List.getElem?_eq_getElem (by omega)
      have ao : names[o]? = some (names[o]'(by omega)) := List.getElem?_eq_getElem (by omega)
      have ea : (1 + (i : Int)) = ((i + 1 : Nat) : Int) := by omega
      refine ⟨_, rfl, _, rfl, nm, _, _, _, rfl, rfl, .of hnm9, by rw [ea]; exact atI_nat (int_at ai), ?_⟩
      refine ⟨_, rfl, _, rfl, nm, _, _, _, rfl, rfl, .of hnm9, atI_nat (int_at ao), by show 2 ≤ sizeLine; decide, fun tp ntp => ?_⟩
      have s10 := same_new (o := .tup [V.int (names[i + 1]'(by omega)), V.int (names[o]'(by omega))]) ntp
      refine ⟨tp, [names[i + 1]'(by omega), names[o]'(by omega)], rfl, .of upd_same, fun ns' sp hpn hun nsp => ?_⟩
      have := tieOf_sorted hpn hun
      subst this
      refine ⟨sp, _, rfl, .inl ⟨.of upd_same, fun nt nnt => ?_⟩⟩
      have s11 := same_new (o := .lst ([(tieOf (names[i + 1]'(by omega)) (names[o]'(by omega))).1, (tieOf (names[i + 1]'(by omega)) (names[o]'(by omega))).2].map V.int)) nsp
      have s12 := same_new (o := .tup ([(tieOf (names[i + 1]'(by omega)) (names[o]'(by omega))).1, (tieOf (names[i + 1]'(by omega)) (names[o]'(by omega))).2].map V.int)) nnt
      have sz := (s10.trans s11).trans s12
      have hfo12 := sz _ _ hfo9
      have k13 : Keep _ _ := keep_lst (o := .lst (xs ++ [V.ref nt])) hfo12
      have bz := b89.trans (sz.but g)
      refine ⟨fo, _, _, rfl, rfl, hfo12, Nat.lt_of_le_of_lt (by omega : xs.length ≤ 24) (by decide), ?_⟩
      refine ⟨_, _, rfl, fun a u ha e => ?_, ((hh8.same s9).same sz).setD fog.1 fog.2, ?_, _, _, upd_same, paired_app (paired_mono mono_pi ((hh5.keep bz).trans k13) hxp) (.cons (mono_pi _ _ _ _ k13 ⟨nt, rfl, upd_same⟩) .nil), ?_⟩
      · rw [upd_ne (fun q => by subst q; rw [fo0] at e; cases e)]
        exact (bt.trans bz) a u ha e
      · rw [upd_ne hne]
        exact sz _ _ hnm9
      · have et : names.take (i + 1 + 1) = names.take (i + 1) ++ [names[i + 1]'(by omega)] := by rw [List.take_succ, ai]; rfl
        rw [et]
        refine .leaf tr ?_ ?_
        · have : (names.take (i + 1))[o]? = some (names[o]'(by omega)) := by rw [List.getElem?_take_of_lt (by omega), ao]
          exact List.mem_of_getElem? this
        · intro hm
          have nd := List.Nodup.sublist (List.take_sublist (i + 1 + 1) names) nmnd
          rw [et, List.nodup_append] at nd
          exact nd.2.2 _ hm _ (by simp) rfl
    · rintro σ H5 ⟨x1, y1, rfl, bt, hh5, hnm5, xs, es, hfo5, hxp, tr⟩
      have e0 : ((n : Int) - 1).toNat + 1 = n := by omega
      rw [e0, ← nml, List.take_length] at tr
      refine ⟨_, rfl, fo, xs, es, rfl, .of hfo5, hxp, fun ys m p hys hm hs np => ⟨p, ys, rfl, .inl ⟨.of upd_same, fun l nl => ?_⟩⟩⟩
      have sz := (same_new (o := .lst ys) np).trans (same_new (o := .tup ys) nl)
      exact q _ _ m (bt.trans (sz.but g)) (hh5.same sz) ⟨l, ys, rfl, upd_same, paired_mono mono_pi sz.keep hys⟩ (treeOk_of tr hperm n24 hm hs)
end
end S4

namespace S4
open PySem L2 TT MM
theorem paired_take {α β : Type} {F : α → β → Prop} : ∀ {xs : List α} {l : List β} (k : Nat), Paired F xs l → Paired F (xs.take k) (l.take k)
  | _, _, 0, _ => .nil
  | _, _, k + 1, .nil => .nil
  | _, _, k + 1, .cons r t => .cons r (paired_take k t)
theorem sum_le {l : List Int} {m : Int} (h : ∀ x ∈ l, 0 ≤ x ∧ x ≤ m) : 0 ≤ l.sum ∧ l.sum ≤ m * l.length := by
  induction l with
  | nil => simp
  | cons a l ih =>
    have h1 := ih fun x hx => h x (by simp [hx])
    have h2 := h a (by simp)
    rw [List.sum_cons, List.length_cons]
    have e : m * ((l.length + 1 : Nat) : Int) = m * (l.length : Int) + m := by
      rw [Int.natCast_succ, Int.mul_add, Int.mul_one]
    omega
theorem sumN_le {l : List Nat} {m : Nat} (h : ∀ x ∈ l, x ≤ m) : l.sum ≤ m * l.length := by
  induction l with
  | nil => simp
  | cons a l ih =>
    have h1 := ih fun x hx => h x (by simp [hx])
    have h2 := h a (by simp)
    rw [List.sum_cons, List.length_cons, Nat.mul_succ]
    omega
structure SW (g c : Addr) (H0 : Hp) (p : Int) (wd : Nat) (wa : Addr) (i m : Nat) (sa : Addr) (H : Hp) : Prop where
  bt : But g H0 H
  hh : Hand g c H
  sg : sa ≠ g
  wg : wa ≠ g
  wc : wa ≠ c
  w0 : H0 wa = none
  sw : sa ≠ wa
  sd : ∃ xs rws, H sa = some (.lst xs) ∧ Paired (rRow H) xs rws ∧ xs.length ≤ m ∧ ∀ r ∈ rws, isRow r p wd
  wl : ∃ ws wl, H wa = some (.lst ws) ∧ Paired (rTup rRow H) ws wl ∧ wl.length = i ∧ ∀ rows ∈ wl, rows.length ≤ 4 ∧ ∀ r ∈ rows, isRow r p wd
theorem SW.next {g c : Addr} {H0 : Hp} {p : Int} {wd : Nat} {wa : Addr} {i m : Nat} {sa : Addr} {H H' : Hp} (W : SW g c H0 p wd wa i m sa H) (b : But g H H') (h : Hand g c H') : SW g c H0 p wd wa i m sa H' := by
  obtain ⟨xs, rws, s1, s2, s3, s4⟩ := W.sd
  obtain ⟨ws, wl, w1, w2, w3, w4⟩ := W.wl
  have k := W.hh.keep b
  exact ⟨W.bt.trans b, h, W.sg, W.wg, W.wc, W.w0, W.sw, ⟨xs, rws, b.lst W.sg s1, paired_mono mono_row k s2, s3, s4⟩, ⟨ws, wl, b.lst W.wg w1, paired_mono (mono_tup mono_row) k w2, w3, w4⟩⟩
section
variable {P : Program} {w : World} {K : PySem.W.Frag} {mg : Str → Option Value} {base : Heap} {cT cS : Addr}
def spLSpec : Sp := fun vs H Q _ => ∃ (g c : Addr) (n : Nat), vs = [.ref g, .int (n : Int), .int 4] ∧ 1 ≤ n ∧ n ≤ 6 ∧ Hand g c H ∧ ∀ H' v S, But g H H' → Hand g c H' → rSpec H' v S → SpecOk S n → Q v H'
theorem any5 {e x : Int} {j : Nat} (h0 : 0 ≤ e) (h1 : e < 4) (h : ([0, 1, 1, 2, 1 + e] : List Int)[j]? = some x) : 0 ≤ x ∧ x ≤ 4 := by
  have hm := List.mem_of_getElem? h
  simp only [List.mem_cons, List.not_mem_nil, or_false] at hm
  omega
theorem ok_lspec (T : Tx K mg cT cS) {f : Addr} {fd : FuncData} (d : D K mg "_law_spec" s_law_spec ["hand", "posts", "most"] f fd) : FnOk P w K mg base CX0 4 f fd ["hand", "posts", "most"] spLSpec := by
  obtain ⟨f1, fd1, d1⟩ := T.d_law_draw
  have G1 : FnOk P w K mg base CX0 1 f1 fd1 ["hand", "many"] spDraw := ok_draw T d1
  obtain ⟨f2, fd2, d2⟩ := T.d_law_any
  have G2 : FnOk P w K mg base CX0 2 f2 fd2 ["hand", "items"] spAny := ok_any T d2
  obtain ⟨f3, fd3, d3⟩ := T.d_law_clock
  have G3 : FnOk P w K mg base CX0 3 f3 fd3 ["hand"] spClock := ok_clock T d3
  obtain ⟨f4, fd4, d4⟩ := T.d_law_ties
  have G4 : FnOk P w K mg base CX0 3 f4 fd4 ["hand", "posts"] spLTies := ok_lties T d4
  obtain ⟨f5, fd5, d5⟩ := T.d_law_some_row
  have G5 : FnOk P w K mg base CX0 3 f5 fd5 ["hand", "p", "wide", "rows"] spSomeRow := ok_some_row T d5
  refine d.F.ok sc_law_spec (fun vs H Q E h => ?_) (fun cdv A outer s H vs Q E hr h => ?_)
  · obtain ⟨g, c, n, rfl, _⟩ := h
    rfl
  · obtain ⟨g, c, n, rfl, n1, n6, hh, q⟩ := h
    refine ⟨_, pss_cons (ps_par (i := 3) (j := 4) (by rfl) sc_law_spec.nd rfl rfl (by decide) rfl rfl
        (pa_cons (pe_call G3 hr rfl d3.m d3.F.kp d3.b .nil pass0 (pa_cons (pv 0) pa_nil)) (pa_cons (pe_call G4 hr rfl d4.m d4.F.kp d4.b .nil pass0 (pa_cons (pv 0) (pa_cons (pv 1) pa_nil))) pa_nil)) (by rfl))
      (pss_cons (ps_set (i := 6) sc_law_spec.nd rfl (.inl rfl) (pe_callTy call_tuple_of (by rfl) T.b_tuple (by decide +kernel) (pa_cons
        (pe_lc (own := [("post", 5)]) (g := gName 5) (tt := tYes) rfl sc_law_spec.nd (pi_range1 rfl T.b_range (pa_cons (pv 1) pa_nil)) (blkOk_by (N := N_law_spec) (sc := defScope s_law_spec) (by decide +kernel))
          (fun _ _ _ _ _ => pg_name (i := 5) sc_law_spec.nd rfl (Or.inl rfl)) (fun _ _ _ _ _ => pts_nil)
          (fun _ _ _ _ _ => pe_call G2 (hr.mono (by decide)) rfl d2.m d2.F.kp d2.b .nil pass0 (pa_cons (pv 0) (pa_cons (pe_lst (pa_cons pe_int (pa_cons pe_int (pa_cons pe_int (pa_cons pe_int (pa_cons (pe_op op_add pe_int
            (pe_call G1 (hr.mono (by decide)) rfl d1.m d1.F.kp d1.b .nil pass0 (pa_cons (pv 0) (pa_cons (pv 2) pa_nil)))) pa_nil)))))) pa_nil)))) pa_nil)))
      (pss_cons (ps_par3 (i := 7) (j := 8) (l := 9) (by rfl) sc_law_spec.nd rfl rfl rfl (by decide) (by decide) (by decide) rfl rfl rfl
        (pa_cons (pe_callB (cr_sumT rfl) (by rfl) T.b_sum (by decide +kernel) (pa_cons (pv 6) pa_nil)) (pa_cons (pe_lst pa_nil) (pa_cons (pe_lst pa_nil) pa_nil))) (by rfl))
      (pss_cons (ps_for PassesOwn.never rfl (pi_range1 rfl T.b_range (pa_cons (pv 1) pa_nil)) (pg_name (i := 5) sc_law_spec.nd rfl (Or.inl rfl))
        (pss_cons (ps_set (i := 10) sc_law_spec.nd rfl (.inl rfl) (pe_lst pa_nil))
        (pss_cons (ps_for PassesOwn.never rfl (pi_range1 rfl T.b_range (pa_cons (pe_call G2 (hr.mono (by decide)) rfl d2.m d2.F.kp d2.b .nil pass0 (pa_cons (pv 0) (pa_cons (pe_lst (pa_cons pe_int (pa_cons pe_int (pa_cons pe_int (pa_cons pe_int (pa_cons (pe_op op_add pe_int
            (pe_call G1 (hr.mono (by decide)) rfl d1.m d1.F.kp d1.b .nil pass0 (pa_cons (pv 0) (pa_cons (pv 2) pa_nil)))) pa_nil)))))) pa_nil))) pa_nil)) (pg_name (i := 11) sc_law_spec.nd rfl (Or.inl rfl))
          (pss_cons (ps_expr (pe_bm PySem.F.plainAttrs_list PySem.F.slot_list_append PySem.F.type_list_append mt_append (pv 10) (pa_cons
              (pe_call G5 hr rfl d5.m d5.F.kp d5.b .nil pass0 (pa_cons (pv 0) (pa_cons (pv 3) (pa_cons (pv 7) (pa_cons (pe_slice sl_list (pv 8) po_none (po_some pe_int)) pa_nil))))) pa_nil)))
            (pss_one (ps_set (i := 8) sc_law_spec.nd rfl (.inl rfl) (pe_op op_cat (pe_lst (pa_cons (pe_ix ix_list (pv 10) (pe_un un_neg pe_int) (fun _ _ => rfl)) pa_nil)) (pv 8))))))
          (pss_one (ps_expr (pe_bm PySem.F.plainAttrs_list PySem.F.slot_list_append PySem.F.type_list_append mt_append (pv 9) (pa_cons
              (pe_callTy call_tuple_of (by rfl) T.b_tuple (by decide +kernel) (pa_cons (pv 10) pa_nil)) pa_nil)))))))
      (pss_one (ps_ret (pe_tup (pa_cons (pv 3) (pa_cons (pv 4) (pa_cons (pv 6) (pa_cons (pe_callTy call_tuple_of (by rfl) T.b_tuple (by decide +kernel) (pa_cons (pv 9) pa_nil)) pa_nil)))))))))), ?_⟩
    refine ⟨_, rfl, g, c, rfl, hh, fun H2 p b2 hh2 hp pm => ?_⟩
    refine ⟨_, rfl, _, rfl, g, c, n, rfl, n1, by omega, hh2, fun H3 vt ties b3 hh3 hvt tok => ?_⟩
    refine ⟨_, _, rfl, ?_⟩
    dsimp only [gName, tSeq]
    have b13 := b2.trans b3
    -- the counts
    have turn : ∀ (H5 : Hp) (Qx : V → Hp → Prop) (Ex : XK), Hand g c H5 → (∀ H6 x, But g H5 H6 → Hand g c H6 → 0 ≤ x ∧ x ≤ 4 → Qx (.int x) H6) → ∀ e H6, But g H5 H6 → Hand g c H6 → 0 ≤ e → e < 4 → ∀ b, H6 b = none → spAny [V.ref g, V.ref b] (upd H6 b (.lst [V.int 0, V.int 1, V.int 1, V.int 2, V.int (1 + e)])) Qx Ex := by
      intro H5 Qx Ex hh5 hq e H6 b6 hh6 e0 e1 b nb
      have s7 := same_new (o := .lst (([0, 1, 1, 2, 1 + e] : List Int).map V.int)) nb
      refine ⟨g, c, b, ([0, 1, 1, 2, 1 + e] : List Int).map V.int, rfl, upd_same, (hand_new hh6 nb).1, by show 0 < 5; decide, by show 5 < 1000000; decide, hh6.same s7, fun H8 j y b8 hh8 hy => ?_⟩
      obtain ⟨m, hm, rfl⟩ := at_int hy
      exact hq _ _ ((b6.trans (s7.but g)).trans b8) hh8 (any5 e0 e1 hm)
    refine ⟨_, rfl, _, rfl, by omega, by omega, fun D hD => ?_⟩
    refine walk_W (walk_range (lo := 0) (n := ((n : Nat) : Int).toNat)) _ (PvDr rInt (fun x => 0 ≤ x ∧ x ≤ 4) g c D H3) (dr_start hh3 hD) (fun i H' _ h => trivial) ?_ ?_
    · rintro i x H4 H5 hi pv ⟨rfl, rfl⟩
      rw [Int.toNat_natCast] at hi
      refine ⟨rfl, _, rfl, _, rfl, _, rfl, g, c, 4, rfl, by decide, by decide, pv.2.1, fun H6 e b6 hh6 e0 e1 => ⟨_, _, rfl, rfl, by show 5 ≤ sizeLine; decide, fun b nb => ?_⟩⟩
      refine turn H5 _ E pv.2.1 (fun H7 x b7 hh7 hx => ?_) e H6 b6 hh6 e0 e1 b nb
      exact dr_keep mono_int hh3 pv hD (by omega) b7 hh7 rfl hx
    · intro H4 pv
      obtain ⟨b4, hh4, ys, holds, hD4, hp4, hl4, hf4⟩ := pv
      have := paired_int hp4
      subst this
      rw [Int.toNat_natCast] at hl4
      refine ⟨D, _, rfl, .inl ⟨.of hD4, fun th nth => ?_⟩⟩
      have s5 := same_new (o := .tup (holds.map V.int)) nth
      dsimp only [gName, tSeq]
      have hsum := sum_le hf4
      rw [hl4] at hsum
      obtain ⟨wd, hwd⟩ : ∃ wd : Nat, holds.sum = (wd : Int) := ⟨holds.sum.toNat, by omega⟩
      refine ⟨_, rfl, th, holds, rfl, .of upd_same, ?_⟩
      refine ⟨by show 0 ≤ sizeLine; decide, fun sa0 nsa => ⟨by show 0 ≤ sizeLine; decide, fun wa nwa => ⟨_, _, _, rfl, ?_⟩⟩⟩
      have s6 := same_new (o := .lst []) nsa
      have s7 := same_new (o := .lst []) nwa
      have b15 := (b13.trans b4).trans (s5.but g)
      have hh5 := hh4.same s5
      have sag := hand_new hh5 nsa
      have wag := hand_new (hh5.same s6) nwa
      have b17 := (b15.trans (s6.but g)).trans (s7.but g)
      have hth : (upd (upd (upd H4 th (.tup (holds.map V.int))) sa0 (.lst [])) wa (.lst [])) th = some (.tup (holds.map V.int)) := s7 _ _ (s6 _ _ upd_same)
      have hwa0 : H wa = none := (b15.trans (s6.but g)).free nwa wag.1
      rw [hwd]
      dsimp only [gName, tSeq]
      refine ⟨_, rfl, _, rfl, by omega, by omega, ?_⟩
      have p2 := hp.1
      have hvt7 : rTup rPI (upd (upd (upd H4 th (.tup (holds.map V.int))) sa0 (.lst [])) wa (.lst [])) vt ties :=
        mono_tup mono_pi _ _ _ _ (((hh3.keep b4).trans s5.keep).trans (s6.trans s7).keep) hvt
      have W0 : SW g c H p wd wa 0 0 sa0 (upd (upd (upd H4 th (.tup (holds.map V.int))) sa0 (.lst [])) wa (.lst [])) :=
        ⟨b17, (hh5.same s6).same s7, sag.1, wag.1, wag.2, hwa0, (fun e => by subst e; rw [upd_same] at nwa; cases nwa), ⟨[], [], s7 _ _ upd_same, .nil, Nat.le_refl _, fun _ h => (nomatch h)⟩, ⟨[], [], upd_same, .nil, rfl, fun _ h => (nomatch h)⟩⟩
      refine for_it (walk_range (lo := 0) (n := ((n : Nat) : Int).toNat)) (fun i σ H' => ∃ sa x1 x2 x3, σ = [some (.ref g), some (.int (n : Int)), some (.int 4), some (.int p), some vt, x1, some (.ref th), some (.int (wd : Int)), some (.ref sa), some (.ref wa), x2, x3] ∧ SW g c H p wd wa i (4 * i) sa H' ∧
        H' th = some (.tup (holds.map V.int)) ∧ rTup rPI H' vt ties) ⟨sa0, none, none, none, rfl, W0, hth, hvt7⟩ (fun i σ H' _ h => trivial) ?_ ?_
      · rintro i x σ H8 H9 hi ⟨sa, x1, x2, x3, rfl, W, hth8, hvt8⟩ ⟨rfl, rfl⟩
        rw [Int.toNat_natCast] at hi
        refine ⟨by show 0 ≤ sizeLine; decide, fun ra nra => ?_⟩
        have s10 := same_new (o := .lst []) nra
        have rag := hand_new W.hh nra
        have hra0 : H ra = none := W.bt.free nra rag.1
        have W10 := W.next (s10.but g) (W.hh.same s10)
        have rwa : ra ≠ wa := fun e => by
          obtain ⟨ws, wl, w1, _⟩ := W.wl
          subst e
          rw [nra] at w1
          cases w1
        have sra : sa ≠ ra := fun e => by
          obtain ⟨ws, wl, w1, _⟩ := W.sd
          subst e
          rw [nra] at w1
          cases w1
        dsimp only [gName, tSeq]
        refine ⟨_, rfl, _, rfl, _, rfl, g, c, 4, rfl, by decide, by decide, W10.hh, fun H11 e b11 hh11 e0 e1 => ⟨_, _, rfl, rfl, by show 5 ≤ sizeLine; decide, fun b nb => ?_⟩⟩
        refine turn _ _ E W10.hh (fun H12 many b12 hh12 hm => ?_) e H11 b11 hh11 e0 e1 b nb
        obtain ⟨mm, rfl⟩ : ∃ mm : Nat, many = (mm : Int) := ⟨many.toNat, by omega⟩
        have W12 := W10.next b12 hh12
        have k12 := W10.hh.keep b12
        refine ⟨_, rfl, by omega, by omega, ?_⟩
        refine for_it (walk_range (lo := 0) (n := ((mm : Nat) : Int).toNat)) (fun j σ H' => ∃ sa x3, σ = [some (.ref g), some (.int (n : Int)), some (.int 4), some (.int p), some vt, some (.int (0 + (i : Int))), some (.ref th), some (.int (wd : Int)), some (.ref sa), some (.ref wa), some (.ref ra), x3] ∧ SW g c H p wd wa i (4 * i + j) sa H' ∧ sa ≠ ra ∧
          H' th = some (.tup (holds.map V.int)) ∧ rTup rPI H' vt ties ∧ ∃ rs rl, H' ra = some (.lst rs) ∧ Paired (rRow H') rs rl ∧ rl.length = j ∧ ∀ r ∈ rl, isRow r p wd)
          ⟨sa, x3, rfl, W12, sra, k12.tup (s10 _ _ hth8), mono_tup mono_pi _ _ _ _ (s10.keep.trans k12) hvt8, [], [], b12.lst rag.1 upd_same, .nil, rfl, fun _ h => (nomatch h)⟩ (fun i σ H' _ h => trivial) ?_ ?_
        · rintro j x σ H13 H14 hj ⟨sa, x3, rfl, W13, sra, hth13, hvt13, rs, rl, hra13, hrp, hrl, hrr⟩ ⟨rfl, rfl⟩
          rw [Int.toNat_natCast] at hj
          obtain ⟨xs, rws, sd1, sd2, sd3, sd4⟩ := W13.sd
          have hxl := paired_len sd2
          have hrl2 := paired_len hrp
          refine ⟨_, rfl, .inl ⟨rfl, _, .of hra13⟩, ?_⟩
          refine ⟨_, rfl, _, rfl, _, rfl, _, rfl, (3 : Int), rfl, sa, xs, rfl, .of sd1, fun la nla => ?_⟩
          have s15 := same_new (o := .lst (cutV xs none (some 3))) nla
          have e3 : cutV xs none (some 3) = xs.take 3 := cutV_upto xs 3
          refine ⟨g, c, la, p, wd, xs.take 3, rws.take 3, rfl, p2, pm, by omega, by rw [upd_same, e3], (hand_new W13.hh nla).1, paired_take 3 (paired_mono mono_row s15.keep sd2), by rw [List.length_take]; omega, fun r hr => sd4 r (List.mem_of_mem_take hr), W13.hh.same s15, fun H16 v l b16 hh16 hrow hir => ?_⟩
          have b36 := (s15.but g).trans b16
          have W16 := W13.next b36 hh16
          have k36 := W13.hh.keep b36
          have hra16 := b36.lst rag.1 hra13
          refine ⟨ra, rs, v, rfl, rfl, hra16, Nat.lt_of_le_of_lt (by omega : rs.length ≤ 4) (by decide), ?_⟩
          have k17 : Keep _ _ := keep_lst (o := .lst (rs ++ [v])) hra16
          obtain ⟨xs', rws', t1, t2, t3, t4⟩ := W16.sd
          obtain ⟨ws, wl, u1, u2, u3, u4⟩ := W16.wl
          have hrow17 := mono_row _ _ _ _ k17 hrow
          have bt17 : But g H (upd H16 ra (.lst (rs ++ [v]))) := fun a u ha e => by
            rw [upd_ne (fun q => by subst q; rw [hra0] at e; cases e)]
            exact W16.bt a u ha e
          have hsa17 : (upd H16 ra (.lst (rs ++ [v]))) sa = some (.lst xs') := by rw [upd_ne sra]; exact t1
          have hwa17 : (upd H16 ra (.lst (rs ++ [v]))) wa = some (.lst ws) := by rw [upd_ne rwa.symm]; exact u1
          refine ⟨_, rfl, 1, rfl, ra, _, _, _, rfl, rfl, .of upd_same, atI_last rs v, by show 1 ≤ sizeLine; decide, fun na nna => ?_⟩
          have s18 := same_new (o := .lst [v]) nna
          refine ⟨_, rfl, na, sa, _, _, rfl, rfl, upd_same, s18 _ _ hsa17, Nat.le_trans (by rw [List.length_singleton]; omega : _ ≤ 100) (by decide), fun ns nns => ?_⟩
          have s19 := same_new (o := .lst ([v] ++ xs')) nns
          have sz := s18.trans s19
          have hhz := (hh16.setD (o := .lst (rs ++ [v])) rag.1 rag.2).same sz
          have nsg := hand_new ((hh16.setD (o := .lst (rs ++ [v])) rag.1 rag.2).same s18) nns
          have nsra : ns ≠ ra := fun e => by
            have := s18 _ _ (upd_same (H := H16) (a := ra) (o := .lst (rs ++ [v])))
            rw [e] at nns
            rw [nns] at this
            cases this
          have nswa : ns ≠ wa := fun e => by
            have := s18 _ _ hwa17
            rw [e] at nns
            rw [nns] at this
            cases this
          refine ⟨ns, _, rfl, ⟨bt17.trans (sz.but g), hhz, nsg.1, W16.wg, W16.wc, W16.w0, nswa, ⟨v :: xs', l :: rws', upd_same, .cons (mono_row _ _ _ _ sz.keep hrow17) (paired_mono mono_row (k17.trans sz.keep) t2), by rw [List.length_cons]; omega, fun r hr => ?_⟩,
              ⟨ws, wl, sz _ _ hwa17, paired_mono (mono_tup mono_row) (k17.trans sz.keep) u2, u3, u4⟩⟩, nsra, ?_, ?_, rs ++ [v], rl ++ [l], sz _ _ upd_same, ?_, by rw [List.length_append, hrl]; rfl, fun r hr => ?_⟩
          · rcases List.mem_cons.mp hr with rfl | hr
            · exact hir
            · exact t4 r hr
          · exact ((k36.trans k17).trans sz.keep).tup hth13
          · exact mono_tup mono_pi _ _ _ _ ((k36.trans k17).trans sz.keep) hvt13
          · exact paired_app (paired_mono mono_row ((k36.trans k17).trans sz.keep) hrp) (.cons (mono_row _ _ _ _ sz.keep hrow17) .nil)
          · rcases List.mem_append.mp hr with hr | hr
            · exact hrr r hr
            · rw [List.mem_singleton.mp hr]; exact hir
        · rintro σ H13 ⟨sa, x3, rfl, W13, sra, hth13, hvt13, rs, rl, hra13, hrp, hrl, hrr⟩
          rw [Int.toNat_natCast] at hrl W13
          obtain ⟨ws, wl, u1, u2, u3, u4⟩ := W13.wl
          have hwl2 := paired_len u2
          obtain ⟨xs, rws, t1, t2, t3, t4⟩ := W13.sd
          refine ⟨_, rfl, .inl ⟨rfl, _, .of u1⟩, _, rfl, ra, _, rfl, .inl ⟨.of hra13, fun nt nnt => ?_⟩⟩
          have s14 := same_new (o := .tup rs) nnt
          have hwa14 := s14 _ _ u1
          have k15 : Keep _ _ := keep_lst (o := .lst (ws ++ [V.ref nt])) hwa14
          refine ⟨wa, ws, _, rfl, rfl, hwa14, Nat.lt_of_le_of_lt (by omega : ws.length ≤ 6) (by decide), ?_⟩
          have ks := s14.keep.trans k15
          refine ⟨sa, _, _, _, rfl, ⟨fun a u ha e => ?_, (W13.hh.same s14).setD W13.wg W13.wc, W13.sg, W13.wg, W13.wc, W13.w0, W13.sw, ⟨xs, rws, by rw [upd_ne W13.sw]; exact s14 _ _ t1, paired_mono mono_row ks t2, by omega, t4⟩,
              ⟨_, wl ++ [rl], upd_same, paired_app (paired_mono (mono_tup mono_row) ks u2) (.cons ⟨nt, rs, rfl, k15.tup upd_same, paired_mono mono_row ks hrp⟩ .nil), by rw [List.length_append, u3]; rfl, fun rows hr => ?_⟩⟩, ks.tup hth13, mono_tup mono_pi _ _ _ _ ks hvt13⟩
          · rw [upd_ne (fun q => by subst q; rw [W13.w0] at e; cases e)]
            exact s14 _ _ (W13.bt a u ha e)
          · rcases List.mem_append.mp hr with hr | hr
            · exact u4 rows hr
            · rw [List.mem_singleton.mp hr]
              exact ⟨by omega, hrr⟩
      · rintro σ H8 ⟨sa, x1, x2, x3, rfl, W, hth8, hvt8⟩
        rw [Int.toNat_natCast] at W
        obtain ⟨ws, wl, u1, u2, u3, u4⟩ := W.wl
        refine ⟨_, rfl, _, rfl, _, rfl, _, rfl, wa, ws, rfl, .inl ⟨.of u1, fun tw ntw => ⟨by show 4 ≤ sizeLine; decide, fun tt ntt => ?_⟩⟩⟩
        have s9 := same_new (o := .tup ws) ntw
        have s10 := same_new (o := .tup [V.int p, vt, V.ref th, V.ref tw]) ntt
        have sz := s9.trans s10
        have hsum2 : (wl.map List.length).sum ≤ 4 * n := by
          have := sumN_le (l := wl.map List.length) (m := 4) fun x hx => by
            obtain ⟨r, hr, rfl⟩ := List.mem_map.mp hx
            exact (u4 r hr).1
          rw [List.length_map, u3] at this
          exact this
        refine q _ (.ref tt) ⟨p, ties, holds, wl⟩ (W.bt.trans (sz.but g)) (W.hh.same sz) ⟨tt, vt, .ref th, .ref tw, rfl, upd_same, mono_tup mono_pi _ _ _ _ sz.keep hvt8, ⟨th, rfl, sz.keep.tup hth8⟩, ⟨tw, ws, rfl, s10 _ _ upd_same, paired_mono (mono_tup mono_row) sz.keep u2⟩⟩
          ⟨tok, hp, ⟨hl4, fun h hh => ?_, by show holds.sum ≤ 60; omega⟩, ⟨u3, fun rows hr => ?_, by show (wl.map List.length).sum ≤ 60; omega⟩⟩
        · have := hf4 h hh
          omega
        · show rows.length ≤ 8 ∧ ∀ r ∈ rows, isRow r p holds.sum
          rw [hwd]
          have := u4 rows hr
          exact ⟨by omega, this.2⟩
end
end S4

namespace S4
open PySem L2 TT MM
/-! ### data for != -/
theorem ints_lay : ∀ l : List Int, PyData.canLayAll0 (l.map PyData.int) = true
  | [] => by simp [PyData.canLayAll0]
  | z :: zs => by simp [PyData.canLayAll0, PyData.canLay0, ints_lay zs]
theorem ints_depth : ∀ l : List Int, PyData.depthAll (l.map PyData.int) = 0
  | [] => by simp [PyData.depthAll]
  | z :: zs => by
    have h1 := ints_depth zs
    simp only [List.map_cons, PyData.depthAll, PyData.depth]
    omega
theorem intl_shaped (l : List Int) : SeqAt.shaped (.list (l.map PyData.int)) = true := by
  have h1 := ints_depth l
  have h2 : PyData.depth (.list (l.map PyData.int)) ≤ 64 := by
    simp only [PyData.depth]
    omega
  show (PyData.canLay0 (.list (l.map PyData.int)) && decide (PyData.depth (.list (l.map PyData.int)) ≤ 64)) = true
  rw [Bool.and_eq_true]
  exact ⟨by simp only [PyData.canLay0]; exact ints_lay l, decide_eq_true h2⟩
theorem ints_eqv : ∀ l : List Int, PyData.eqvAll (l.map PyData.int) (l.map PyData.int) = true
  | [] => by simp [PyData.eqvAll]
  | z :: zs => by
    have h := ints_eqv zs
    simp only [List.map_cons, PyData.eqvAll, PyData.eqv, h]
    simp
theorem pds_eqv : ∀ l : List (Int × Int), PyData.eqvAll (l.map pd) (l.map pd) = true
  | [] => by simp [PyData.eqvAll]
  | z :: zs => by
    have h := pds_eqv zs
    have h2 := pd_eqv z z
    rw [List.map_cons]
    simp only [PyData.eqvAll, h, h2]
    simp
theorem intl_eqv (l : List Int) : PyData.eqv (.list (l.map PyData.int)) (.list (l.map PyData.int)) = true := by
  simp only [PyData.eqv]
  exact ints_eqv l
theorem pdl_eqv (l : List (Int × Int)) : PyData.eqv (.list (l.map pd)) (.list (l.map pd)) = true := by
  simp only [PyData.eqv]
  exact pds_eqv l
section
variable {K : PySem.W.Frag} {H : Hp}
theorem dp_ints : ∀ l : List Int, DpAll K H (l.map V.int) (l.map PyData.int)
  | [] => .nil
  | _ :: zs => .cons (.int _) (dp_ints zs)
/-- two lists of the same ints are not unequal -/
theorem ne_ints {a b : Addr} {l : List Int} {Q : V → Hp → Prop} (ha : H a = some (.lst (l.map V.int))) (hb : H b = some (.lst (l.map V.int))) (q : Q (.bl false) H) : rNeD K (.ref a) (.ref b) H Q :=
  ⟨_, _, .lst (.of ha) (dp_ints l), .lst (.of hb) (dp_ints l), intl_shaped l, intl_shaped l, by rw [intl_eqv]; exact q⟩
theorem ne_pairs {a b : Addr} {xs ys : List V} {l : List (Int × Int)} {Q : V → Hp → Prop} (ha : H a = some (.lst xs)) (hb : H b = some (.lst ys)) (hx : Paired (rPI H) xs l) (hy : Paired (rPI H) ys l) (q : Q (.bl false) H) : rNeD K (.ref a) (.ref b) H Q :=
  ⟨_, _, .lst (.of ha) (dp_all hx), .lst (.of hb) (dp_all hy), pdl_shaped l, pdl_shaped l, by rw [pdl_eqv]; exact q⟩
end
/-! ### alike -/
section
variable {H : Hp}
theorem al_int {n : Nat} {k : Int} : Alike H n (.int k) (.int k) := by
  cases n with
  | zero => exact ⟨k, rfl, rfl⟩
  | succ n => exact .inl ⟨k, rfl, rfl⟩
theorem al_tup {n : Nat} {a b : Addr} {xs ys : List V} (h1 : H a = some (.tup xs)) (h2 : H b = some (.tup ys)) (hl : xs.length ≤ 1000) (p : Paired (Alike H n) xs ys) : Alike H (n + 1) (.ref a) (.ref b) := .inr ⟨a, b, xs, ys, rfl, rfl, .inl ⟨h1, h2⟩, hl, p⟩
theorem al_lst {n : Nat} {a b : Addr} {xs ys : List V} (h1 : H a = some (.lst xs)) (h2 : H b = some (.lst ys)) (hl : xs.length ≤ 1000) (p : Paired (Alike H n) xs ys) : Alike H (n + 1) (.ref a) (.ref b) := .inr ⟨a, b, xs, ys, rfl, rfl, .inr ⟨h1, h2⟩, hl, p⟩
theorem al_ints {n : Nat} : ∀ l : List Int, Paired (Alike H n) (l.map V.int) (l.map V.int)
  | [] => .nil
  | _ :: r => .cons al_int (al_ints r)
theorem al_row {n : Nat} {u v : V} {l : List Int} (h1 : rRow H u l) (h2 : rRow H v l) (hl : l.length ≤ 1000) : Alike H (n + 1) u v := by
  obtain ⟨a, rfl, h1⟩ := h1
  obtain ⟨b, rfl, h2⟩ := h2
  exact al_tup h1 h2 (by rw [List.length_map]; exact hl) (al_ints l)
theorem al_pi {n : Nat} {u v : V} {z : Int × Int} (h1 : rPI H u z) (h2 : rPI H v z) : Alike H (n + 1) u v := by
  obtain ⟨a, rfl, h1⟩ := h1
  obtain ⟨b, rfl, h2⟩ := h2
  exact al_tup h1 h2 (by show 2 ≤ 1000; decide) (.cons al_int (.cons al_int .nil))
theorem al_pair {α : Type} {R : Rp α} {n : Nat} : ∀ {xs ys : List V} {l : List α}, Paired (R H) xs l → Paired (R H) ys l → (∀ u v x, x ∈ l → R H u x → R H v x → Alike H n u v) → Paired (Alike H n) xs ys
  | _, _, _, .nil, .nil, _ => .nil
  | _, _, _, .cons r t, .cons r2 t2, h => .cons (h _ _ _ (by simp) r r2) (al_pair t t2 fun u v x hx => h u v x (by simp [hx]))
theorem al_rtup {α : Type} {R : Rp α} {n : Nat} {u v : V} {l : List α} (h1 : rTup R H u l) (h2 : rTup R H v l) (hl : l.length ≤ 1000) (h : ∀ u v x, x ∈ l → R H u x → R H v x → Alike H n u v) : Alike H (n + 1) u v := by
  obtain ⟨a, xs, rfl, h1, p1⟩ := h1
  obtain ⟨b, ys, rfl, h2, p2⟩ := h2
  exact al_tup h1 h2 (by rw [paired_len p1]; exact hl) (al_pair p1 p2 h)
end
section
variable {P : Program} {w : World} {K : PySem.W.Frag} {mg : Str → Option Value} {base : Heap} {cT cS : Addr}
def spLSheet (cT cS : Addr) : Sp := fun vs H Q _ => ∃ (v : V) (S : SD) (n : Nat), vs = [v] ∧ rSpec H v S ∧ SpecOk S n ∧ ∀ H' v', Same H H' → rSheet cT cS H' v' S → Q v' H'
theorem same_make {H : Hp} {x dx C : Addr} (nx : H x = none) (ndx : H dx = none) (ne : dx ≠ x) : Same H (upd (upd H dx (.own x)) x (.ins C dx [])) := fun b o e => by
  rw [upd_ne (ne_of_none e nx), upd_ne (ne_of_none e ndx)]
  exact e
theorem ok_lsheet (T : Tx K mg cT cS) {f : Addr} {fd : FuncData} (d : D K mg "_law_sheet" s_law_sheet ["spec"] f fd) : FnOk P w K mg base CX0 7 f fd ["spec"] (spLSheet cT cS) := by
  obtain ⟨fT, fdT, kT⟩ := T.k_Tree
  have GT : FnOk P w K mg base CX0 5 fT fdT ["self", "ties"] (spInitTree cT) := ok_Tree T kT
  obtain ⟨fS, fdS, kS⟩ := T.k_Sheet
  have GS : FnOk P w K mg base CX0 5 fS fdS ["self", "p", "tree", "holds", "wants"] (spInitSheet cT cS) := ok_Sheet T kS
  refine d.F.ok sc_law_sheet (fun vs H Q E h => ?_) (fun cdv A outer s H vs Q E hr h => ?_)
  · obtain ⟨v, S, n, rfl, _⟩ := h
    rfl
  · obtain ⟨v, S, n, rfl, hS, ok, q⟩ := h
    obtain ⟨t, u1, u2, u3, rfl, ht, hT, hh, hw⟩ := id hS
    refine ⟨_, pss_one (ps_ret (pe_make kS.mkf GS hr rfl kS.m kS.b .nil pass0 (pa_cons (pe_ix ix_tup (pv 0) pe_int (fun _ _ => rfl))
      (pa_cons (pe_make kT.mkf GT hr rfl kT.m kT.b .nil pass0 (pa_cons (pe_ix ix_tup (pv 0) pe_int (fun _ _ => rfl)) pa_nil))
      (pa_cons (pe_ix ix_tup (pv 0) pe_int (fun _ _ => rfl)) (pa_cons (pe_ix ix_tup (pv 0) pe_int (fun _ _ => rfl)) pa_nil)))))), ?_⟩
    refine ⟨_, rfl, t, _, _, _, rfl, rfl, .of ht, at_of (j := 0) rfl rfl, _, rfl, t, _, _, _, rfl, rfl, .of ht, at_of (j := 1) rfl rfl, ?_⟩
    intro x dx nx ndx nex
    have s1 := same_make (C := cT) nx ndx nex
    refine ⟨x, dx, u1, S.ties, n, rfl, upd_same, mono_tup mono_pi _ _ _ _ s1.keep hT, ok.tree.ok, fun H2 hk hTr => ⟨rfl, ?_⟩⟩
    have s2 : Same H H2 := fun b o e => hk b o (fun z => by subst z; rw [nx] at e; cases e) (s1 b o e)
    refine ⟨_, rfl, t, _, _, _, rfl, rfl, .of (s2 _ _ ht), at_of (j := 2) rfl rfl, _, rfl, t, _, _, _, rfl, rfl, .of (s2 _ _ ht), at_of (j := 3) rfl rfl, ?_⟩
    intro y dy ny ndy ney
    have s3 := same_make (C := cS) ny ndy ney
    have s23 := s2.trans s3
    refine ⟨y, dy, .ref x, u2, u3, S, n, rfl, upd_same, mono_tree cT _ _ _ _ s3.keep hTr, ?_, mono_row _ _ _ _ s23.keep hh, mono_wants _ _ _ _ s23.keep hw, ⟨ok.tree.ok, ok.clock, ok.holds, ok.wants⟩, fun H4 hk4 hSh => ⟨rfl, ?_⟩⟩
    · intro e
      injection e with e
      obtain ⟨a, dxx, tt, xs, ea, hi, _⟩ := hTr
      cases ea
      rw [e, ny] at hi
      cases hi
    · refine q _ _ (fun b o e => hk4 b o (fun z => by subst z; have := s2 _ _ e; rw [ny] at this; cases this) (s23 b o e)) hSh
end
end S4

namespace S4
open PySem L2 TT MM
theorem hu64 {k : Nat} {A : Around} (r : Room k A) : A.units + 64 < cLine := by have := r.un; omega
theorem up_rng (n : Nat) : Up (rng n) := by
  unfold rng Up
  rw [List.pairwise_map]
  exact List.pairwise_lt_range.imp fun {a b} h => by omega
theorem nb_len (ties : List (Int × Int)) (p : Int) : (nb ties p).length ≤ ties.length := List.length_filterMap_le _ _
/-- a way of the tree -/
structure WF (ties : List (Int × Int)) (n : Nat) (z : Int × Int) : Prop where
  a0 : 0 ≤ z.1
  a1 : z.1 < (n : Int)
  b0 : 0 ≤ z.2
  b1 : z.2 < (n : Int)
  m : z ∈ ties ∨ z.swap ∈ ties
  nb : z.2 ∈ nb ties z.1
theorem wf_of {ties : List (Int × Int)} {n : Nat} (o : TiesOk ties n) {m : List (Int × Int)} (hp : m.Perm (ties ++ flipAll ties)) {z : Int × Int} (hz : z ∈ m) : WF ties n z := by
  have h := hp.mem_iff.mp hz
  rcases List.mem_append.mp h with h | h
  · have := o.b0 z h
    exact ⟨by omega, by omega, by omega, by omega, .inl h, nb_mem.mpr (.inl h)⟩
  · obtain ⟨y, hy, rfl⟩ := List.mem_map.mp h
    have := o.b0 y hy
    obtain ⟨a, b⟩ := y
    simp only at this
    exact ⟨by show 0 ≤ b; omega, by show b < (n : Int); omega, by show 0 ≤ a; omega, by show a < (n : Int); omega, .inr hy, nb_mem.mpr (.inr hy)⟩
theorem WF.flip {ties : List (Int × Int)} {n : Nat} {z : Int × Int} (w : WF ties n z) : WF ties n z.swap := ⟨w.b0, w.b1, w.a0, w.a1, w.m.elim (fun h => .inr h) (fun h => .inl h), nb_symm w.nb⟩
theorem nodup_of_mem24 {n : Nat} {l : List Int} (hn : n ≤ 24) (h : l.Nodup) (hm : ∀ x ∈ l, x ∈ rng n) : l.length ≤ 24 := by
  have := nodup_len h hm
  rw [rng_len] at this
  omega
theorem ways_len {ties m : List (Int × Int)} {n : Nat} (o : TiesOk ties n) (hp : m.Perm (ties ++ flipAll ties)) : m.length ≤ 48 := by
  have := hp.length_eq
  rw [List.length_append] at this
  unfold flipAll at this
  rw [List.length_map] at this
  have := o.len
  have := o.n24
  omega
theorem block_len {S : SD} {n : Nat} (ok : WantsOk S.p S.holds.sum n S.wants) {near far : List Int} (hf : far.length ≤ 24) : (blockL S near far).length ≤ 192 := by
  unfold blockL farL
  rw [List.length_map]
  have : ∀ l : List Int, (l.flatMap fun post => (List.range (S.wants.getD post.toNat []).length).map fun (k : Nat) => (post, (k : Int))).length ≤ 8 * l.length := by
    intro l
    induction l with
    | nil => simp
    | cons c l ih =>
      rw [List.flatMap_cons, List.length_append, List.length_map, List.length_range, List.length_cons]
      have : (S.wants.getD c.toNat []).length ≤ 8 := by
        rw [List.getD_eq_getElem?_getD]
        cases e : S.wants[c.toNat]? with
        | none => simp
        | some r => exact (ok.b r (List.mem_of_getElem? e)).1
      omega
  have := this far
  omega
section
variable {P : Program} {w : World} {K : PySem.W.Frag} {mg : Str → Option Value} {base : Heap} {cT cS : Addr}
def spLaw (K : PySem.W.Frag) : Sp := fun vs H Q _ => ∃ (a : Addr) (ns : List Int), vs = [.ref a] ∧ SqL K H a (ns.map V.int) ∧ ns.length ≤ 63 ∧ ∀ H', Q (.bl true) H'
theorem posts_drawn {σ : St} {H : Hp} {g c : Addr} {Qp : V → Hp → Prop} (h1 : σ[1]? = some (some (.ref g))) (hh : Hand g c H) (q : ∀ (n : Nat) H', 1 ≤ n → n ≤ 24 → But g H H' → Hand g c H' → Qp (.int (n : Int)) H') :
    tIf (tTest (tOp rEq (tCall spDraw [] E0 (tCons (tVar 1) (tCons (tC (.int 10)) tNil))) (tC (.int 7)))) (tC (.int 24)) (tOp (rI0 fun i j => V.int (i + j)) (tC (.int 1)) (tCall spDraw [] E0 (tCons (tVar 1) (tCons (tC (.int 9)) tNil)))) σ H Qp := by
  refine ⟨_, h1, g, c, 10, rfl, by decide, by decide, hh, fun H3 d b3 hh3 d0 d1 => ⟨rfl, _, rfl, ?_⟩⟩
  by_cases h7 : d = 7
  · rw [decide_eq_true (congrArg V.int h7)]
    exact iteT (q 24 H3 (by decide) (by decide) b3 hh3)
  · rw [decide_eq_false (fun e => h7 (V.int.inj e))]
    refine iteF ⟨_, h1, g, c, 9, rfl, by decide, by decide, hh3, fun H4 e b4 hh4 e0 e1 => ⟨_, _, rfl, rfl, ?_⟩⟩
    have := q (1 + e).toNat H4 (by omega) (by omega) (b3.trans b4) hh4
    rw [show (((1 + e).toNat : Nat) : Int) = 1 + e by omega] at this
    exact this
theorem ok_law (T : Tx K mg cT cS) {f : Addr} {fd : FuncData} (d : D K mg "law" s_law ["script"] f fd) : FnOk P w K mg base CX0 8 f fd ["script"] (spLaw K) := by
  obtain ⟨fh, fdh, dh⟩ := T.d_law_hand
  have Gh : FnOk P w K mg base CX0 1 fh fdh ["script"] (spHand K) := ok_hand T dh
  obtain ⟨f1, fd1, d1⟩ := T.d_law_draw
  have G1 : FnOk P w K mg base CX0 1 f1 fd1 ["hand", "many"] spDraw := ok_draw T d1
  obtain ⟨f2, fd2, d2⟩ := T.d_law_ties
  have G2 : FnOk P w K mg base CX0 3 f2 fd2 ["hand", "posts"] spLTies := ok_lties T d2
  obtain ⟨fT, fdT, kT⟩ := T.k_Tree
  have GT : FnOk P w K mg base CX0 5 fT fdT ["self", "ties"] (spInitTree cT) := ok_Tree T kT
  obtain ⟨fS, fdS, kS⟩ := T.k_Sheet
  obtain ⟨f3, fd3, d3⟩ := T.d_law_all_ways
  have G3 : FnOk P w K mg base CX0 1 f3 fd3 ["ties"] spLWays := ok_lways T d3
  obtain ⟨fi, fdi, di⟩ := T.d_law_is
  have Gi : ∀ k, FnOk P w K mg base CX0 (k + 1) fi fdi ["told", "due"] (spIs k) := ok_is T di
  obtain ⟨f4, fd4, d4⟩ := T.d_ways
  have G4 : FnOk P w K mg base CX0 1 f4 fd4 ["tree"] (spWays cT) := ok_ways T d4
  obtain ⟨f5, fd5, d5⟩ := T.d_tied
  have G5 : FnOk P w K mg base CX0 3 f5 fd5 ["tree", "post"] (spTied cT) := ok_tied T d5
  obtain ⟨f6, fd6, d6⟩ := T.d_law_near
  have G6 : FnOk P w K mg base CX0 1 f6 fd6 ["ties", "post"] spLNear := ok_lnear T d6
  obtain ⟨f7, fd7, d7⟩ := T.d_beyond
  have G7 : FnOk P w K mg base CX0 4 f7 fd7 ["tree", "way"] (spBeyond cT) := ok_beyond T d7
  obtain ⟨f8, fd8, d8⟩ := T.d_law_this
  have G8 : FnOk P w K mg base CX0 2 f8 fd8 ["ties", "way"] spLThis := ok_lthis T d8
  obtain ⟨f9, fd9, d9⟩ := T.d_law_spec
  have G9 : FnOk P w K mg base CX0 4 f9 fd9 ["hand", "posts", "most"] spLSpec := ok_lspec T d9
  obtain ⟨fa, fda, da⟩ := T.d_law_sheet
  have Ga : FnOk P w K mg base CX0 7 fa fda ["spec"] (spLSheet cT cS) := ok_lsheet T da
  obtain ⟨fb, fdb, db⟩ := T.d_held
  have Gb : FnOk P w K mg base CX0 3 fb fdb ["sheet", "post"] (spHeld cT cS) := ok_held T db
  obtain ⟨fc, fdc, dc⟩ := T.d_law_numbers
  have Gc : FnOk P w K mg base CX0 1 fc fdc ["holds", "posts"] spLNum := ok_lnum T dc
  obtain ⟨fe, fde, de⟩ := T.d_block
  have Ge : FnOk P w K mg base CX0 6 fe fde ["sheet", "way"] (spBlock cT cS) := ok_block T de
  obtain ⟨fg, fdg, dg⟩ := T.d_law_cut
  have Gg : FnOk P w K mg base CX0 4 fg fdg ["spec", "way"] spLCut := ok_lcut T dg
  have nP : NoAttr K cT "posts" := kT.na _ (by simp)
  have nT : NoAttr K cT "ties" := kT.na _ (by simp)
  have z1 : NoAttr K cS "p" := kS.na _ (by simp)
  have z3 : NoAttr K cS "holds" := kS.na _ (by simp)
  have z4 : NoAttr K cS "wants" := kS.na _ (by simp)
  have z5 : NoAttr K cS "numbers" := kS.na _ (by simp)
  refine d.F.ok sc_law (fun vs H Q E h => ?_) (fun cdv A outer s H vs Q E hr h => ?_)
  · obtain ⟨a, ns, rfl, _⟩ := h
    rfl
  · obtain ⟨a, ns, rfl, hS, hl, q⟩ := h
    refine ⟨_, pss_cons (ps_set (i := 1) sc_law.nd rfl (.inl rfl) (pe_call Gh (hr.mono (by decide)) rfl dh.m dh.F.kp dh.b .nil pass0 (pa_cons (pv 0) pa_nil)))
      (pss_cons (ps_for PassesOwn.never rfl (pi_range1 rfl T.b_range (pa_cons pe_int pa_nil)) (pg_name (i := 2) sc_law.nd rfl (Or.inl rfl))
        (pss_cons (ps_set (i := 3) sc_law.nd rfl (.inl rfl) (pe_ifExp (pt_cmpR op_eq (pe_call G1 (hr.mono (by decide)) rfl d1.m d1.F.kp d1.b .nil pass0 (pa_cons (pv 1) (pa_cons pe_int pa_nil))) pe_int (nomark _)) pe_int
            (pe_op op_add pe_int (pe_call G1 (hr.mono (by decide)) rfl d1.m d1.F.kp d1.b .nil pass0 (pa_cons (pv 1) (pa_cons pe_int pa_nil))))))
        (pss_cons (ps_set (i := 4) sc_law.nd rfl (.inl rfl) (pe_call G2 (hr.mono (by decide)) rfl d2.m d2.F.kp d2.b .nil pass0 (pa_cons (pv 1) (pa_cons (pv 3) pa_nil))))
        (pss_cons (ps_par (i := 5) (j := 6) (by rfl) sc_law.nd rfl rfl (by decide) rfl rfl
            (pa_cons (pe_make kT.mkf GT (hr.mono (by decide)) rfl kT.m kT.b .nil pass0 (pa_cons (pv 4) pa_nil)) (pa_cons (pe_call G3 (hr.mono (by decide)) rfl d3.m d3.F.kp d3.b .nil pass0 (pa_cons (pv 4) pa_nil)) pa_nil)) (by rfl))
        (pss_cons (ps_if (pt_not (pt_val (pe_call (Gi 3) (hr.mono (by decide)) rfl di.m di.F.kp di.b .nil pass0 (pa_cons
            (pe_lst (pa_cons (pe_call G4 (hr.mono (by decide)) rfl d4.m d4.F.kp d4.b .nil pass0 (pa_cons (pv 5) pa_nil)) (pa_cons (pe_fld (pv 5) rfl) (pa_cons (pe_fld (pv 5) rfl) pa_nil))))
            (pa_cons (pe_lst (pa_cons (pv 6) (pa_cons (pv 3) (pa_cons (pv 4) pa_nil)))) pa_nil))))) (pss_one (ps_ret pe_bl)) pss_nil)
        (pss_cons (ps_for PassesOwn.never rfl (pi_range1 rfl T.b_range (pa_cons (pv 3) pa_nil)) (pg_name (i := 7) sc_law.nd rfl (Or.inl rfl))
          (pss_one (ps_if (pt_not (pt_val (pe_call (Gi 1) (hr.mono (by decide)) rfl di.m di.F.kp di.b .nil pass0 (pa_cons
            (pe_call G5 (hr.mono (by decide)) rfl d5.m d5.F.kp d5.b .nil pass0 (pa_cons (pv 5) (pa_cons (pv 7) pa_nil)))
            (pa_cons (pe_callTy call_tuple_of (by rfl) T.b_tuple (by decide +kernel) (pa_cons (pe_call G6 (hr.mono (by decide)) rfl d6.m d6.F.kp d6.b .nil pass0 (pa_cons (pv 4) (pa_cons (pv 7) pa_nil))) pa_nil)) pa_nil))))) (pss_one (ps_ret pe_bl)) pss_nil)))
        (pss_cons (ps_for PassesOwn.never rfl (pi_list (pv 6)) (pg_name (i := 8) sc_law.nd rfl (Or.inl rfl))
          (pss_cons (ps_par (i := 9) (j := 10) (by rfl) sc_law.nd rfl rfl (by decide) rfl rfl
            (pa_cons (pe_call G7 (hr.mono (by decide)) rfl d7.m d7.F.kp d7.b .nil pass0 (pa_cons (pv 5) (pa_cons (pv 8) pa_nil)))
            (pa_cons (pe_call G7 (hr.mono (by decide)) rfl d7.m d7.F.kp d7.b .nil pass0 (pa_cons (pv 5) (pa_cons (pe_revT (pv 8)) pa_nil))) pa_nil)) (by rfl))
          (pss_one (ps_if (PW.pt (pw_or (pt_not (pt_val (pe_call (Gi 1) (hr.mono (by decide)) rfl di.m di.F.kp di.b .nil pass0 (pa_cons (pv 9)
              (pa_cons (pe_callTy call_tuple_of (by rfl) T.b_tuple (by decide +kernel) (pa_cons (pe_call G8 (hr.mono (by decide)) rfl d8.m d8.F.kp d8.b .nil pass0 (pa_cons (pv 4) (pa_cons (pe_revT (pv 8)) pa_nil))) pa_nil)) pa_nil)))))
              (pw_or1 (pt_cmpR (op_neD (hu64 hr)) (pe_callB cr_sortedTI (by rfl) T.b_sorted (by decide +kernel) (pa_cons (pe_op op_catA (pv 9) (pv 10)) pa_nil))
                (pe_listRg rfl (by rfl) T.b_list (prg_1 (by rfl) T.b_range (pv 3))) (nomark _))))) (pss_one (ps_ret pe_bl)) pss_nil))))
        (pss_cons (ps_expr (pe_bm PySem.F.plainAttrs_list PySem.F.slot_list_append PySem.F.type_list_append mt_append (pe_call G4 (hr.mono (by decide)) rfl d4.m d4.F.kp d4.b .nil pass0 (pa_cons (pv 5) pa_nil)) (pa_cons (pe_tup (pa_cons pe_int (pa_cons pe_int pa_nil))) pa_nil)))
        (pss_cons (ps_if (pt_cmpR (op_neD (hu64 hr)) (pe_call G4 (hr.mono (by decide)) rfl d4.m d4.F.kp d4.b .nil pass0 (pa_cons (pv 5) pa_nil)) (pv 6) (nomark _)) (pss_one (ps_ret pe_bl)) pss_nil)
        (pss_cons (ps_set (i := 11) sc_law.nd rfl (.inl rfl) (pe_call G9 (hr.mono (by decide)) rfl d9.m d9.F.kp d9.b .nil pass0 (pa_cons (pv 1) (pa_cons (pe_op op_add pe_int (pe_call G1 (hr.mono (by decide)) rfl d1.m d1.F.kp d1.b .nil pass0 (pa_cons (pv 1) (pa_cons pe_int pa_nil)))) (pa_cons pe_int pa_nil)))))
        (pss_cons (ps_set (i := 12) sc_law.nd rfl (.inl rfl) (pe_call Ga hr rfl da.m da.F.kp da.b .nil pass0 (pa_cons (pv 11) pa_nil)))
        (pss_cons (ps_for PassesOwn.never rfl (pi_range1 rfl T.b_range (pa_cons (pe_callB call_len_seq (by rfl) T.b_len PySem.boot_len (pa_cons (pe_ix ix_tup (pv 11) pe_int (fun _ _ => rfl)) pa_nil)) pa_nil)) (pg_name (i := 7) sc_law.nd rfl (Or.inl rfl))
          (pss_one (ps_if (pt_not (pt_val (pe_call (Gi 1) (hr.mono (by decide)) rfl di.m di.F.kp di.b .nil pass0 (pa_cons
            (pe_call Gb (hr.mono (by decide)) rfl db.m db.F.kp db.b .nil pass0 (pa_cons (pv 12) (pa_cons (pv 7) pa_nil)))
            (pa_cons (pe_callTy call_tuple_of (by rfl) T.b_tuple (by decide +kernel) (pa_cons (pe_call Gc (hr.mono (by decide)) rfl dc.m dc.F.kp dc.b .nil pass0 (pa_cons (pe_ix ix_tup (pv 11) pe_int (fun _ _ => rfl)) (pa_cons (pe_lst (pa_cons (pv 7) pa_nil)) pa_nil))) pa_nil)) pa_nil))))) (pss_one (ps_ret pe_bl)) pss_nil)))
        (pss_cons (ps_for PassesOwn.never rfl (pi_list (pe_call G3 (hr.mono (by decide)) rfl d3.m d3.F.kp d3.b .nil pass0 (pa_cons (pe_ix ix_tup (pv 11) pe_int (fun _ _ => rfl)) pa_nil))) (pg_name (i := 8) sc_law.nd rfl (Or.inl rfl))
          (pss_one (ps_if (pt_not (pt_val (pe_call (Gi 2) (hr.mono (by decide)) rfl di.m di.F.kp di.b .nil pass0 (pa_cons
            (pe_call Ge (hr.mono (by decide)) rfl de.m de.F.kp de.b .nil pass0 (pa_cons (pv 12) (pa_cons (pv 8) pa_nil)))
            (pa_cons (pe_callTy call_tuple_of (by rfl) T.b_tuple (by decide +kernel) (pa_cons (pe_call Gg (hr.mono (by decide)) rfl dg.m dg.F.kp dg.b .nil pass0 (pa_cons (pv 11) (pa_cons (pv 8) pa_nil))) pa_nil)) pa_nil))))) (pss_one (ps_ret pe_bl)) pss_nil)))
        (pss_one (ps_if (pt_not (pt_val (pe_call (Gi 4) (hr.mono (by decide)) rfl di.m di.F.kp di.b .nil pass0 (pa_cons
            (pe_lst (pa_cons (pe_fld (pv 12) rfl) (pa_cons (pe_fld (pv 12) rfl) (pa_cons (pe_fld (pv 12) rfl) (pa_cons (pe_fld (pv 12) rfl) pa_nil)))))
            (pa_cons (pe_lst (pa_cons (pe_ix ix_tup (pv 11) pe_int (fun _ _ => rfl)) (pa_cons (pe_ix ix_tup (pv 11) pe_int (fun _ _ => rfl)) (pa_cons (pe_ix ix_tup (pv 11) pe_int (fun _ _ => rfl))
              (pa_cons (pe_callB (cr_sumT rfl) (by rfl) T.b_sum (by decide +kernel) (pa_cons (pe_ix ix_tup (pv 11) pe_int (fun _ _ => rfl)) pa_nil)) pa_nil))))) pa_nil))))) (pss_one (ps_ret pe_bl)) pss_nil)))))))))))))))
      (pss_one (ps_ret pe_bl))), ?_⟩
    refine ⟨_, rfl, a, ns, rfl, hS, hl, fun H1 g c s1 g0 hh1 => ?_⟩
    dsimp only [gName, tSeq]
    refine ⟨_, rfl, by decide, by decide, ?_⟩
    refine for_it (walk_range (lo := 0) (n := ((3 : Int)).toNat)) (fun i σ H' => ∃ x2 x3 x4 x5 x6 x7 x8 x9 x10 x11 x12, σ = [some (.ref a), some (.ref g), x2, x3, x4, x5, x6, x7, x8, x9, x10, x11, x12] ∧ Hand g c H')
      ⟨none, none, none, none, none, none, none, none, none, none, none, rfl, hh1⟩ (fun i σ H' _ h => trivial) ?_ ?_
    · rintro tn x σ H2 H3 hi ⟨x2, x3, x4, x5, x6, x7, x8, x9, x10, x11, x12, rfl, hh2⟩ ⟨rfl, rfl⟩
      refine posts_drawn (g := g) (c := c) rfl hh2 fun n H4 n1 n24 b4 hh4 => ?_
      dsimp only [gName, tSeq]
      refine ⟨_, rfl, _, rfl, g, c, n, rfl, n1, n24, hh4, fun H5 vt ties b5 hh5 hvt tok => ?_⟩
      have hn := tok.ok.len
      dsimp only [gName, tSeq]
      -- the tree, all ways
      refine ⟨_, rfl, fun tr dx ntr ndx ne => ?_⟩
      have s6 := same_make (C := cT) ntr ndx ne
      refine ⟨tr, dx, vt, ties, n, rfl, upd_same, mono_tup mono_pi _ _ _ _ s6.keep hvt, tok.ok, fun H6 hk6 hTr6 => ⟨rfl, ?_⟩⟩
      have s56 : Same H5 H6 := fun b o e => hk6 b o (fun z => by subst z; rw [ntr] at e; cases e) (s6 b o e)
      refine ⟨_, rfl, vt, ties, rfl, mono_tup mono_pi _ _ _ _ s56.keep hvt, by omega, fun H7 ev xs m s7 nev hev hxs hm hs => ⟨_, _, rfl, ?_⟩⟩
      have hvt7 : rTup rPI H7 vt ties := mono_tup mono_pi _ _ _ _ (s56.trans s7).keep hvt
      have hTr7 := mono_tree cT _ _ _ _ s7.keep hTr6
      have hh7 := hh5.same (s56.trans s7)
      obtain ⟨tr', dxx, tt, xst, etr, hI, htt, hpt⟩ := id hTr7
      cases etr
      have hml := ways_len tok.ok hm
      have hxl := paired_len hxs
      dsimp only [gName, tSeq]
      -- ways, posts, ties
      refine ⟨_, rfl, .ref tr, ties, rfl, hTr7, by omega, fun H8 wv ys m2 s8 nwv hwv hys hm2 hs2 => ?_⟩
      have := lex_same (hm2.trans hm.symm) hs2 hs
      subst this
      refine ⟨_, rfl, tr, cT, dxx, _, _, rfl, s8.keep.ins hI, kT.cl, nP, tfs_posts _ _, _, rfl, tr, cT, dxx, _, _, rfl, s8.keep.ins hI, kT.cl, nT, tfs_ties _ _, by show 3 ≤ sizeLine; decide, fun l1 nl1 => ?_⟩
      refine ⟨_, rfl, _, rfl, _, rfl, by show 3 ≤ sizeLine; decide, fun l2 nl2 => ?_⟩
      have s9 := same_new (o := .lst [V.ref wv, V.int ((ties.length : Int) + 1), V.ref tt]) nl1
      have s10 := same_new (o := .lst [V.ref ev, V.int (n : Int), vt]) nl2
      have s910 := s9.trans s10
      have s810 := s8.trans s910
      have al1 : Alike (upd (upd H8 l1 (.lst [V.ref wv, V.int ((ties.length : Int) + 1), V.ref tt])) l2 (.lst [V.ref ev, V.int (n : Int), vt])) 3 (.ref l1) (.ref l2) := by
        refine al_lst (s10 _ _ upd_same) upd_same (by show 3 ≤ 1000; decide) (.cons ?_ (.cons ?_ (.cons ?_ .nil)))
        · refine al_lst (s910 _ _ hwv) (s810 _ _ hev) (by have := paired_len hys; omega) (al_pair (paired_mono mono_pi s910.keep hys) (paired_mono mono_pi s810.keep hxs) fun u v x _ h1 h2 => al_pi h1 h2)
        · rw [show ((ties.length : Int) + 1) = (n : Int) by omega]
          exact al_int
        · exact al_rtup ⟨tt, xst, rfl, s810.keep.tup htt, paired_mono mono_pi s810.keep hpt⟩ (mono_tup mono_pi _ _ _ _ s810.keep hvt7) (by omega) fun u v x _ h1 h2 => al_pi h1 h2
      refine ⟨_, _, rfl, al1, fun H11 s11 => ⟨_, rfl, iteF ?_⟩⟩
      have t11 := s810.trans s11
      -- the posts
      refine ⟨_, rfl, _, rfl, by omega, by omega, ?_⟩
      refine for_it (walk_range (lo := 0) (n := ((n : Nat) : Int).toNat)) (fun i σ H' => Same H7 H' ∧ ∃ x7, σ = [some (.ref a), some (.ref g), some (.int (0 + (tn : Int))), some (.int (n : Int)), some vt, some (.ref tr), some (.ref ev), x7, x8, x9, x10, x11, x12])
        ⟨t11, _, rfl⟩ (fun i σ H' _ h => trivial) ?_ ?_
      · rintro i x σ H12 H13 hi ⟨t12, x7, rfl⟩ ⟨rfl, rfl⟩
        rw [Int.toNat_natCast] at hi
        refine ⟨_, rfl, _, rfl, .ref tr, ties, _, rfl, mono_tree cT _ _ _ _ t12.keep hTr7, by omega, by omega, by omega, fun H13 v1 ns1 s13 hrow hperm hup => ?_⟩
        have t13 := t12.trans s13
        refine ⟨_, rfl, _, rfl, vt, ties, _, rfl, mono_tup mono_pi _ _ _ _ t13.keep hvt7, by omega, fun z hz e => by have := (tok.ok.b0 z hz).2.1; omega, fun H14 r ns2 s14 nr hr2 hperm2 hup2 => ⟨r, _, rfl, .inl ⟨.of hr2, fun t nt => ?_⟩⟩⟩
        have := up_same (hperm2.trans hperm.symm) hup2 hup
        subst this
        have s15 := same_new (o := .tup (ns2.map V.int)) nt
        have hnl := nb_len ties (0 + (i : Int))
        rw [← hperm.length_eq] at hnl
        refine ⟨_, _, rfl, al_row (mono_row _ _ _ _ (s14.trans s15).keep hrow) ⟨t, rfl, upd_same⟩ (by omega), fun H16 s16 => ⟨_, rfl, iteF ⟨((t13.trans s14).trans s15).trans s16, _, rfl⟩⟩⟩
      rintro σ H12 ⟨t12, x7, rfl⟩
      -- the ways
      refine ⟨_, rfl, ev, rfl, ⟨_, .of (t12 _ _ hev)⟩, ?_⟩
      refine for_it (walk_list (xs := xs)) (fun i σ H' => Same H7 H' ∧ ∃ x8 x9 x10, σ = [some (.ref a), some (.ref g), some (.int (0 + (tn : Int))), some (.int (n : Int)), some vt, some (.ref tr), some (.ref ev), x7, x8, x9, x10, x11, x12])
        ⟨t12, _, _, _, rfl⟩ (fun i σ H' _ h => .of (h.1 _ _ hev)) ?_ ?_
      · rintro i x σ H13 H14 hi ⟨t13, y8, y9, y10, rfl⟩ ⟨rfl, hx⟩
        obtain ⟨z, hz, tz, rfl, htz⟩ := paired_get (paired_mono mono_pi t13.keep hxs) hx
        have W := wf_of tok.ok hm (List.mem_of_getElem? hz)
        have aR := rng_mem.mpr ⟨W.a0, W.a1⟩
        have bR := rng_mem.mpr ⟨W.b0, W.b1⟩
        refine ⟨_, rfl, _, rfl, .ref tr, .ref tz, ties, z, rng n, rfl, mono_tree cT _ _ _ _ t13.keep hTr7, ⟨tz, rfl, htz⟩, by omega, tok.ok.shut, bR, by rw [rng_len]; omega, W.a0, W.b0, by have := W.a1; omega, by have := W.b1; omega, W.m, fun H15 v1 ns1 s15 hrow1 up1 nd1 mm1 => ?_⟩
        have t15 := t13.trans s15
        refine ⟨_, rfl, _, rfl, tz, _, rfl, .of (s15.keep.tup htz), fun rv nrv => ?_⟩
        have s16 := same_new (o := .tup [V.int z.1, V.int z.2].reverse) nrv
        have t16 := t15.trans s16
        refine ⟨.ref tr, .ref rv, ties, z.swap, rng n, rfl, mono_tree cT _ _ _ _ t16.keep hTr7, ⟨rv, rfl, upd_same⟩, by omega, tok.ok.shut, aR, by rw [rng_len]; omega, W.b0, W.a0, by have := W.b1; show z.2 < _; omega, by have := W.a1; show z.1 < _; omega, W.flip.m, fun H17 v2 ns2 s17 hrow2 up2 nd2 mm2 => ⟨_, _, rfl, ?_⟩⟩
        simp only [Prod.fst_swap, Prod.snd_swap] at mm2
        have t17 := t16.trans s17
        have in1 : ∀ x ∈ ns1, x ∈ rng n := fun x hx => ((mm1 x).mp hx).inV tok.ok.shut bR
        have in2 : ∀ x ∈ ns2, x ∈ rng n := fun x hx => ((mm2 x).mp hx).inV tok.ok.shut aR
        have le1 := nodup_of_mem24 n24 nd1 in1
        have le2 := nodup_of_mem24 n24 nd2 in2
        dsimp only [gName, tSeq]
        refine ⟨_, rfl, _, rfl, _, rfl, tz, _, rfl, .of ((s15.trans (s16.trans s17)).keep.tup htz), fun rw_ nrw => ?_⟩
        have s18 := same_new (o := .tup [V.int z.1, V.int z.2].reverse) nrw
        have t18 := t17.trans s18
        refine ⟨vt, .ref rw_, ties, z.swap, n, rfl, mono_tup mono_pi _ _ _ _ t18.keep hvt7, ⟨rw_, rfl, upd_same⟩, tok, W.b0, W.b1, fun H19 r ns3 s19 nr hr3 up3 nd3 mm3 => ⟨r, _, rfl, .inl ⟨.of hr3, fun t nt => ?_⟩⟩⟩
        simp only [Prod.fst_swap, Prod.snd_swap] at mm3
        have := up_nodup_same up3 up1 nd3 nd1 fun x => by rw [mm3, mm1]
        subst this
        have s20 := same_new (o := .tup (ns3.map V.int)) nt
        have s1720 := (s18.trans s19).trans s20
        have hrow1' := mono_row _ _ _ _ ((s16.trans s17).trans s1720).keep hrow1
        refine ⟨_, _, rfl, al_row hrow1' ⟨t, rfl, upd_same⟩ (by omega), fun H21 s21 => ⟨_, rfl, iteF ?_⟩⟩
        obtain ⟨ta, rfl, hta⟩ := mono_row _ _ _ _ s21.keep hrow1'
        obtain ⟨tb, rfl, htb⟩ := mono_row _ _ _ _ (s1720.trans s21).keep hrow2
        have ne1 : ns3.map V.int ≠ [] := fun e => by
          have h1 : z.2 ∈ ns3 := (mm1 z.2).mpr .refl
          rw [List.map_eq_nil_iff.mp e] at h1
          cases h1
        have ne2 : ns2.map V.int ≠ [] := fun e => by
          have h1 : z.1 ∈ ns2 := (mm2 z.1).mpr .refl
          rw [List.map_eq_nil_iff.mp e] at h1
          cases h1
        refine ⟨_, rfl, _, rfl, ta, tb, _, _, rfl, rfl, .of hta, .of htb, by rw [List.length_map, List.length_map]; exact Nat.le_trans (by omega : _ ≤ 48) (by decide), fun e => absurd e ne1, fun _ e => absurd e ne2, fun _ _ p np => ?_⟩
        have s22 := same_new (o := .tup (ns3.map V.int ++ ns2.map V.int)) np
        refine ⟨p, ns3 ++ ns2, rfl, .of (by rw [upd_same, List.map_append]), fun ns' sp hpn hun nsp => ?_⟩
        have hp0 := sides_perm tok W.flip.nb nd1 nd2 (fun x => by rw [mm1]; rfl) (fun x => by rw [mm2]; rfl)
        have := up_same (hpn.trans hp0) hun (up_rng n)
        subst this
        have s23 := same_new (o := .lst ((rng n).map V.int)) nsp
        refine ⟨_, rfl, _, rfl, ⟨by omega, by omega, by omega, by omega, by omega⟩, fun lr nlr => ?_⟩
        have s24 := same_new (o := .lst (rgV 0 (n : Int))) nlr
        refine ne_ints (s24 _ _ upd_same) (by rw [upd_same, rgV_rng]) ⟨_, rfl, iteF ?_⟩
        exact ⟨((((t17.trans s1720).trans s21).trans s22).trans s23).trans s24, _, _, _, rfl⟩
      rintro σ H13 ⟨t13, y8, y9, y10, rfl⟩
      -- a change of the list that was told changes nothing
      refine ⟨_, rfl, .ref tr, ties, rfl, mono_tree cT _ _ _ _ t13.keep hTr7, by omega, fun H14 wv1 ws1 mm1 s14 nwv1 hwv1 hws1 hmm1 hss1 => ⟨.inl ⟨rfl, _, .of hwv1⟩, by show 2 ≤ sizeLine; decide, fun t0 nt0 => ?_⟩⟩
      have s15 := same_new (o := .tup [V.int 0, V.int 0]) nt0
      have hwl1 := paired_len hws1
      have hml1 := ways_len tok.ok hmm1
      refine ⟨wv1, ws1, _, rfl, rfl, s15 _ _ hwv1, Nat.lt_of_le_of_lt (by omega : ws1.length ≤ 48) (by decide), ?_⟩
      have t16 : Same H7 (upd (upd H14 t0 (.tup [V.int 0, V.int 0])) wv1 (.lst (ws1 ++ [V.ref t0]))) := same_own ((t13.trans s14).trans s15) (t13.free nwv1)
      refine ⟨_, rfl, .ref tr, ties, rfl, mono_tree cT _ _ _ _ t16.keep hTr7, by omega, fun H17 wv2 ws2 mm2 s17 nwv2 hwv2 hws2 hmm2 hss2 => ?_⟩
      have := lex_same (hmm2.trans hm.symm) hss2 hs
      subst this
      have t17 := t16.trans s17
      refine ⟨_, rfl, ne_pairs hwv2 (t17 _ _ hev) hws2 (paired_mono mono_pi t17.keep hxs) ⟨_, rfl, iteF ?_⟩⟩
      -- the sheet
      have hh17 := hh7.same t17
      refine ⟨_, rfl, _, rfl, g, c, 6, rfl, by decide, by decide, hh17, fun H18 e b18 hh18 e0 e1 => ⟨_, _, rfl, rfl, ?_⟩⟩
      obtain ⟨k, rfl⟩ : ∃ k : Nat, e = (k : Int) := ⟨e.toNat, by omega⟩
      refine ⟨g, c, k + 1, by show [V.ref g, V.int (1 + (k : Int)), V.int 4] = _; rw [show 1 + (k : Int) = ((k + 1 : Nat) : Int) by omega], by omega, by omega, hh18, fun H20 vS S b20 hh20 hSp ok => ?_⟩
      dsimp only [gName, tSeq]
      refine ⟨_, rfl, vS, S, k + 1, rfl, hSp, ok, fun H21 vsh s21 hSh => ?_⟩
      dsimp only [gName, tSeq]
      have hh21 := hh20.same s21
      have hSp21 := mono_spec _ _ _ _ s21.keep hSp
      obtain ⟨tS, u1, u2, u3, rfl, htS, hT, ⟨th, rfl, hth⟩, hw⟩ := id hSp21
      have hholds := ok.holds.len
      have hk24 := ok.tree.ok.n24
      have hSn := ok.tree.ok.len
      refine ⟨_, rfl, tS, _, _, _, rfl, rfl, .of htS, at_of (j := 2) rfl rfl, _, _, rfl, .inr (.of hth), _, rfl, by rw [List.length_map]; omega, by rw [List.length_map]; omega, ?_⟩
      refine for_it (walk_range (lo := 0) (n := ((((S.holds.map V.int).length : Nat) : Int)).toNat)) (fun i σ H' => Same H21 H' ∧ ∃ x7, σ = [some (.ref a), some (.ref g), some (.int (0 + (tn : Int))), some (.int (n : Int)), some vt, some (.ref tr), some (.ref ev), x7, y8, y9, y10, some (.ref tS), some vsh])
        ⟨.refl _, _, rfl⟩ (fun i σ H' _ h => trivial) ?_ ?_
      · rintro i x σ H22 H23 hi ⟨t22, x7, rfl⟩ ⟨rfl, rfl⟩
        rw [Int.toNat_natCast, List.length_map] at hi
        refine ⟨_, rfl, _, rfl, vsh, S, _, k + 1, rfl, mono_sheet cT cS _ _ _ _ t22.keep hSh, ok.tree.ok, ok.holds, by omega, by omega, fun H24 v1 s24 hrow => ?_⟩
        have t24 := t22.trans s24
        refine ⟨_, rfl, tS, _, _, _, rfl, rfl, .of (t24.keep.tup htS), at_of (j := 2) rfl rfl, _, rfl, by show 1 ≤ sizeLine; decide, fun lb nlb => ?_⟩
        have s25 := same_new (o := .lst [V.int (0 + (i : Int))]) nlb
        have hone := numsL_len ok.holds (posts := [0 + (i : Int)]) (by show 1 ≤ 24; decide) (fun p hp => by rw [List.mem_singleton.mp hp]; omega)
        refine ⟨.ref th, lb, S.holds, [0 + (i : Int)], k + 1, rfl, ⟨th, rfl, (t24.trans s25).keep.tup hth⟩, ok.holds, hk24, upd_same, List.pairwise_singleton _ _, by show 1 ≤ 24; decide, fun p hp => by rw [List.mem_singleton.mp hp]; omega, fun H26 r s26 nr hr2 => ⟨r, _, rfl, .inl ⟨.of hr2, fun t nt => ?_⟩⟩⟩
        have s27 := same_new (o := .tup ((numsL S.holds [0 + (i : Int)]).map V.int)) nt
        have e1 : numsL S.holds [0 + (i : Int)] = heldL S.holds (0 + (i : Int)) := by simp [numsL]
        have hrow' := mono_row _ _ _ _ ((s25.trans s26).trans s27).keep hrow
        rw [← e1] at hrow'
        refine ⟨_, _, rfl, al_row hrow' ⟨t, rfl, upd_same⟩ (by omega), fun H28 s28 => ⟨_, rfl, iteF ⟨(((t24.trans s25).trans s26).trans s27).trans s28, _, rfl⟩⟩⟩
      rintro σ H22 ⟨t22, x7', rfl⟩
      -- its blocks
      refine ⟨_, rfl, tS, _, _, _, rfl, rfl, .of (t22.keep.tup htS), at_of (j := 1) rfl rfl, u1, S.ties, rfl, mono_tup mono_pi _ _ _ _ t22.keep hT, by omega, fun H23 wv3 ws3 m3 s23 nwv3 hwv3 hws3 hm3 hs3 => ?_⟩
      have t23 := t22.trans s23
      have hml3 := ways_len ok.tree.ok hm3
      have hok : SheetOk S (k + 1) := ⟨ok.tree.ok, ok.clock, ok.holds, ok.wants⟩
      refine ⟨wv3, rfl, ⟨_, .of hwv3⟩, ?_⟩
      refine for_it (walk_list (xs := ws3)) (fun i σ H' => Same H23 H' ∧ ∃ x8, σ = [some (.ref a), some (.ref g), some (.int (0 + (tn : Int))), some (.int (n : Int)), some vt, some (.ref tr), some (.ref ev), x7', x8, y9, y10, some (.ref tS), some vsh])
        ⟨.refl _, _, rfl⟩ (fun i σ H' _ h => .of (h.1 _ _ hwv3)) ?_ ?_
      · rintro i x σ H24 H25 hi ⟨t24, x8', rfl⟩ ⟨rfl, hx⟩
        have t24' := t23.trans t24
        obtain ⟨z, hz, tz, rfl, htz⟩ := paired_get (paired_mono mono_pi t24.keep hws3) hx
        have W := wf_of ok.tree.ok hm3 (List.mem_of_getElem? hz)
        have aR := rng_mem.mpr ⟨W.a0, W.a1⟩
        have bR := rng_mem.mpr ⟨W.b0, W.b1⟩
        refine ⟨_, rfl, _, rfl, vsh, .ref tz, S, z, k + 1, rfl, mono_sheet cT cS _ _ _ _ t24'.keep hSh, ⟨tz, rfl, htz⟩, hok, ⟨W.a0, W.b0, W.a1, W.b1, W.m⟩, fun H26 v1 near far s26 hb1 nup nnd nm fup fnd fm => ?_⟩
        have t26 := t24'.trans s26
        refine ⟨_, rfl, _, rfl, .ref tS, .ref tz, S, z, k + 1, rfl, mono_spec _ _ _ _ t26.keep hSp21, ⟨tz, rfl, s26.keep.tup htz⟩, ok, W.nb, fun H27 r xs2 near2 far2 s27 nr hr2 hp2 nup2 nnd2 nm2 fup2 fnd2 fm2 => ⟨r, _, rfl, .inl ⟨.of hr2, fun t nt => ?_⟩⟩⟩
        have := up_nodup_same nup2 nup nnd2 nnd fun x => by rw [nm2, nm]
        subst this
        have := up_nodup_same fup2 fup fnd2 fnd fun x => by rw [fm2, fm]
        subst this
        have s28 := same_new (o := .tup xs2) nt
        have lf := nodup_of_mem24 hk24 fnd2 (fun x hx => ((fm2 x).mp hx).inV ok.tree.ok.shut bR)
        have ln := nodup_of_mem24 hk24 nnd2 (fun x hx => ((nm2 x).mp hx).inV ok.tree.ok.shut aR)
        have lb := block_len ok.wants (near := near2) lf
        have lnum := numsL_len ok.holds ln (fun p hp => rng_mem.mp (((nm2 p).mp hp).inV ok.tree.ok.shut aR))
        refine ⟨_, _, rfl, al_rtup (mono_tup mono_row _ _ _ _ (s27.trans s28).keep hb1) ⟨t, xs2, rfl, upd_same, paired_mono mono_row s28.keep hp2⟩ (by omega) (fun u v x hx h1 h2 => al_row h1 h2 ?_), fun H29 s29 => ⟨_, rfl, iteF ⟨(((t24.trans s26).trans s27).trans s28).trans s29, _, rfl⟩⟩⟩
        unfold blockL at hx
        obtain ⟨y, _, rfl⟩ := List.mem_map.mp hx
        unfold cutL
        rw [List.length_map]
        omega
      rintro σ H24 ⟨t24, x8', rfl⟩
      -- what the sheet has
      have t24' := t23.trans t24
      obtain ⟨sa, dxs, trS, thS, twS, rfl, hIs, hTs, ⟨thS', ehS, hhS⟩, hwS⟩ := mono_sheet cT cS _ _ _ _ t24'.keep hSh
      cases ehS
      have htS' := t24'.keep.tup htS
      have hth' := t24'.keep.tup hth
      have hw' := mono_wants _ _ _ _ t24'.keep hw
      refine ⟨_, rfl, sa, cS, dxs, _, _, rfl, hIs, kS.cl, z1, sfs_p, _, rfl, sa, cS, dxs, _, _, rfl, hIs, kS.cl, z3, sfs_holds, _, rfl, sa, cS, dxs, _, _, rfl, hIs, kS.cl, z4, sfs_wants, _, rfl, sa, cS, dxs, _, _, rfl, hIs, kS.cl, z5, sfs_numbers, by show 4 ≤ sizeLine; decide, fun l3 nl3 => ?_⟩
      have s25 := same_new (o := .lst [V.int S.p, V.ref thS, V.ref twS, V.int S.holds.sum]) nl3
      refine ⟨_, rfl, tS, _, _, _, rfl, rfl, .of (s25.keep.tup htS'), at_of (j := 0) rfl rfl, _, rfl, tS, _, _, _, rfl, rfl, .of (s25.keep.tup htS'), at_of (j := 2) rfl rfl, _, rfl, tS, _, _, _, rfl, rfl, .of (s25.keep.tup htS'), at_of (j := 3) rfl rfl,
        _, rfl, tS, _, _, _, rfl, rfl, .of (s25.keep.tup htS'), at_of (j := 2) rfl rfl, th, S.holds, rfl, .of (s25.keep.tup hth'), by show 4 ≤ sizeLine; decide, fun l4 nl4 => ?_⟩
      have s26 := same_new (o := .lst [V.int S.p, V.ref th, u3, V.int S.holds.sum]) nl4
      have s256 := s25.trans s26
      have al2 : Alike (upd (upd H24 l3 (.lst [V.int S.p, V.ref thS, V.ref twS, V.int S.holds.sum])) l4 (.lst [V.int S.p, V.ref th, u3, V.int S.holds.sum])) 4 (.ref l3) (.ref l4) := by
        refine al_lst (s26 _ _ upd_same) upd_same (by show 4 ≤ 1000; decide) (.cons al_int (.cons ?_ (.cons ?_ (.cons al_int .nil))))
        · exact al_row ⟨thS, rfl, s256.keep.tup hhS⟩ ⟨th, rfl, s256.keep.tup hth'⟩ (by omega)
        · refine al_rtup (mono_wants _ _ _ _ s256.keep hwS) (mono_wants _ _ _ _ s256.keep hw') (by have := ok.wants.len; omega) fun u v x hx h1 h2 => ?_
          obtain ⟨l8, hrr⟩ := ok.wants.b x hx
          refine al_rtup h1 h2 (by omega) fun u v r hr3 h1 h2 => al_row h1 h2 ?_
          have := (hrr r hr3).1
          have := ok.holds.s
          omega
      refine ⟨_, _, rfl, al2, fun H27 s27 => ⟨_, rfl, iteF ?_⟩⟩
      exact ⟨_, _, _, _, _, _, _, _, _, _, _, rfl, hh21.same ((t24'.trans s256).trans s27)⟩
    · rintro σ H2 ⟨x2, x3, x4, x5, x6, x7, x8, x9, x10, x11, x12, rfl, hh2⟩
      exact q _
end
end S4

namespace S4
open PySem L2 TT MM
theorem dc_mk {K : PySem.W.Frag} {h : Heap} {mg : Str → Option Value} {x q : Str} {st : Stmt} {ps fl : List Str} {C f : Addr} {oc : Value} {od an : Option Addr} {osl : Array (Option Value)} {kV doc pm cdv ct : Value} (X : K.In h) (G : h.Ns mainGlobals mg)
    (hb : ∀ (kV doc pm : Value) (an : Option Addr) (cdv ct : Value) (us : List Value), us.length = ps.length → bindArgs (PySem.W.fnOf "__init__" q (defArgs st) (defBody st) (defScope st) .none kV doc pm an cdv ct) ⟨us, []⟩ = pure (ps.zip us))
    (aC : PySem.W.nsIn K mainGlobals x = some (some (.ref C)))
    (a : PySem.W.findIn K (.ref C) "__init__" = some (some (.ref f))) (i : PySem.W.isFn K (.ref f) = true)
    (l : K.lookup f = some ⟨oc, od, .func (PySem.W.fnOf "__init__" q (defArgs st) (defBody st) (defScope st) .none kV doc pm an cdv ct), osl⟩) (c : PySem.W.codeIn K cdv q = true) (k : PySem.W.keepIn K (.ref f) = true)
    (mk : PySem.W.makesIn K C = true) (kc : PySem.W.keepIn K (.ref C) = true)
    (pg : PySem.W.plainGet K C Str.empty = true) (hd : PySem.W.hasDictIn K C = true) (po : PySem.W.plainOver K C = true) (sa : PySem.W.findIn K (.ref C) "__setattr__" = some (some (.builtin "object.__setattr__")))
    (na : ∀ y ∈ fl, NoAttr K C y) : ∃ f fd, DC K mg x q st ps fl C f fd :=
  ⟨f, _, fun_mk l c k, (fun_mk l c k).binds hb, PySem.W.mg_of X G aC, ⟨mk, a, i, kc⟩, ⟨pg, hd, po, sa⟩, na⟩
theorem kit_self (K : PySem.W.Frag) (C : Addr) : PySem.W.kitOne K (.ref C) (.ref C) = some true := if_pos (beq_self_eq_true _)
theorem use {a b : Prop} (h : a) (f : a → b) : b := f h
theorem int_mk {mg : Str → Option Value} {x : Str} {v : Value} {n : Int} (h : mg x = some v) (e : ∃ t, v = .int n t) : ∃ t, mg x = some (.int n t) := by
  obtain ⟨t, rfl⟩ := e
  exact ⟨t, h⟩
theorem all_mk {l : PySem.W.OpenLaw} {w : World} {K : PySem.W.Frag} {mg : Str → Option Value} {fa : Addr} {cT cS : Addr} (hfa : mg "law" = some (.ref fa)) (T : Tx K mg cT cS) :
    ∃ fd : FuncData, (∀ (s : Shared) (v : Value), BindsTo s fd ⟨[v], []⟩ [("script", v)]) ∧ ∀ base : Heap, K.In base → base.Ns mainGlobals mg → FnOk l.prog w K mg base CX0 8 fa fd ["script"] (spLaw K) := by
  obtain ⟨f, fd, d⟩ := T.d_law
  have e := hfa.symm.trans d.m
  cases e
  refine ⟨fd, ?_, fun base _ _ => ok_law T d⟩
  obtain ⟨oc, od, kV, doc, pm, an, cdv, ct, osl, rfl, lk, hcd⟩ := d.F.ex
  exact fun s v => .of_eq rfl
theorem walk {l : PySem.W.OpenLaw} {q : Program} {loose : List Str} {XP : (Str → Option Value) → Heap → Prop} {YP : World → Heap → Prop} {d : DefRec} {K : Params → PySem.W.Frag} (hn : l.most = some 63) (hdf : d.params.defaults = [])
    (hY : ∀ (w : World) (h : Heap), YP w h → (K w.params).In h)
    (F : ∀ (w : World) (mg : Str → Option Value) (fa : Addr) (h : Heap), (K w.params).In h → h.Ns mainGlobals mg → mg d.name = some (.ref fa) →
      ∃ fd : FuncData, (∀ (s : Shared) (u : Value), BindsTo s fd ⟨[u], []⟩ [("script", u)]) ∧ ∀ base : Heap, (K w.params).In base → base.Ns mainGlobals mg → FnOk l.prog w (K w.params) mg base CX0 8 fa fd ["script"] (spLaw (K w.params))) :
    PySem.W.WalkO q loose XP YP l.row.toRowW d [] (fun f vs => PySem.call f vs) :=
  L2.walk_of (n := 63) (k := 8) (x := "script") (CX := fun _ => CX0) (sp := fun w => spLaw (K w.params)) hn (by decide) hdf ⟨rfl, by decide, by decide⟩ hY F (fun _ _ a ns hl _ hS => ⟨a, ns, rfl, hS, hl, fun _ => rfl⟩) fun _ _ _ _ _ z => z
end S4

open PySem PySem.W PyProof.Rows in
set_option maxRecDepth 100000 in
set_option maxHeartbeats 0 in
theorem PySem.Challenge.cw_sametolls_k04_whole_ways_sides_blocks_holds : PySem.Challenge.rw_sametolls_k04_whole_ways_sides_blocks.Holds := by
  w_on; o_law; k_head; (case hw => w_witness2)
  k_fill
  refine S4.walk (l := PySem.Challenge.rw_sametolls_k04_whole_ways_sides_blocks) rfl rfl (fun w h Y => PySem.W.kIn_of Y) ?F
  case F =>
    intro w mg fa h KX G hmg
    have b_abs : mg "abs" = none := PySem.W.mg_none_of KX G (by k_is)
    have b_all : mg "all" = none := PySem.W.mg_none_of KX G (by k_is)
    have b_bool : mg "bool" = none := PySem.W.mg_none_of KX G (by k_is)
    have b_enumerate : mg "enumerate" = none := PySem.W.mg_none_of KX G (by k_is)
    have b_int : mg "int" = none := PySem.W.mg_none_of KX G (by k_is)
    have b_isinstance : mg "isinstance" = none := PySem.W.mg_none_of KX G (by k_is)
    have b_len : mg "len" = none := PySem.W.mg_none_of KX G (by k_is)
    have b_list : mg "list" = none := PySem.W.mg_none_of KX G (by k_is)
    have b_max : mg "max" = none := PySem.W.mg_none_of KX G (by k_is)
    have b_range : mg "range" = none := PySem.W.mg_none_of KX G (by k_is)
    have b_sorted : mg "sorted" = none := PySem.W.mg_none_of KX G (by k_is)
    have b_sum : mg "sum" = none := PySem.W.mg_none_of KX G (by k_is)
    have b_tuple : mg "tuple" = none := PySem.W.mg_none_of KX G (by k_is)
    have b_zip : mg "zip" = none := PySem.W.mg_none_of KX G (by k_is)
    have c_MOST_HOURS : ∃ t, mg "MOST_HOURS" = some (.int 1000000 t) := by
      refine' S4.int_mk (PySem.W.mg_of KX G ?a) ?e
      (case a => k_is)
      (case e => exact ⟨_, rfl⟩)
    have c_MOST_TIES : ∃ t, mg "MOST_TIES" = some (.int 23 t) := by
      refine' S4.int_mk (PySem.W.mg_of KX G ?a) ?e
      (case a => k_is)
      (case e => exact ⟨_, rfl⟩)
    have c_MOST_AT_POST : ∃ t, mg "MOST_AT_POST" = some (.int 8 t) := by
      refine' S4.int_mk (PySem.W.mg_of KX G ?a) ?e
      (case a => k_is)
      (case e => exact ⟨_, rfl⟩)
    have c_MOST_IN_ALL : ∃ t, mg "MOST_IN_ALL" = some (.int 60 t) := by
      refine' S4.int_mk (PySem.W.mg_of KX G ?a) ?e
      (case a => k_is)
      (case e => exact ⟨_, rfl⟩)
    refine' S4.use (S4.DE.mk (x := "is_integer") (st := S4.s_is_integer) (ps := ["thing"]) KX G (fun _ _ _ _ _ _ us hl => match us, hl with | [_], _ => rfl) ?a ?l ?c ?k) (fun d_is_integer => ?_)
    (case a => k_is)
    (case l => k_is)
    (case c => k_is)
    (case k => k_is)
    refine' S4.use (S4.DE.mk (x := "is_below") (st := S4.s_is_below) (ps := ["thing", "end"]) KX G (fun _ _ _ _ _ _ us hl => match us, hl with | [_, _], _ => rfl) ?a ?l ?c ?k) (fun d_is_below => ?_)
    (case a => k_is)
    (case l => k_is)
    (case c => k_is)
    (case k => k_is)
    refine' S4.use (S4.DE.mk (x := "is_pair") (st := S4.s_is_pair) (ps := ["thing"]) KX G (fun _ _ _ _ _ _ us hl => match us, hl with | [_], _ => rfl) ?a ?l ?c ?k) (fun d_is_pair => ?_)
    (case a => k_is)
    (case l => k_is)
    (case c => k_is)
    (case k => k_is)
    refine' S4.use (S4.DE.mk (x := "is_row") (st := S4.s_is_row) (ps := ["thing", "p", "wide"]) KX G (fun _ _ _ _ _ _ us hl => match us, hl with | [_, _, _], _ => rfl) ?a ?l ?c ?k) (fun d_is_row => ?_)
    (case a => k_is)
    (case l => k_is)
    (case c => k_is)
    (case k => k_is)
    refine' S4.use (S4.DE.mk (x := "is_clock") (st := S4.s_is_clock) (ps := ["thing"]) KX G (fun _ _ _ _ _ _ us hl => match us, hl with | [_], _ => rfl) ?a ?l ?c ?k) (fun d_is_clock => ?_)
    (case a => k_is)
    (case l => k_is)
    (case c => k_is)
    (case k => k_is)
    refine' S4.use (S4.DE.mk (x := "check_ties") (st := S4.s_check_ties) (ps := ["ties"]) KX G (fun _ _ _ _ _ _ us hl => match us, hl with | [_], _ => rfl) ?a ?l ?c ?k) (fun d_check_ties => ?_)
    (case a => k_is)
    (case l => k_is)
    (case c => k_is)
    (case k => k_is)
    refine' S4.use (S4.DE.mk (x := "is_tie") (st := S4.s_is_tie) (ps := ["thing", "posts"]) KX G (fun _ _ _ _ _ _ us hl => match us, hl with | [_, _], _ => rfl) ?a ?l ?c ?k) (fun d_is_tie => ?_)
    (case a => k_is)
    (case l => k_is)
    (case c => k_is)
    (case k => k_is)
    refine' S4.use (S4.DE.mk (x := "tied") (st := S4.s_tied) (ps := ["tree", "post"]) KX G (fun _ _ _ _ _ _ us hl => match us, hl with | [_, _], _ => rfl) ?a ?l ?c ?k) (fun d_tied => ?_)
    (case a => k_is)
    (case l => k_is)
    (case c => k_is)
    (case k => k_is)
    refine' S4.use (S4.DE.mk (x := "ways") (st := S4.s_ways) (ps := ["tree"]) KX G (fun _ _ _ _ _ _ us hl => match us, hl with | [_], _ => rfl) ?a ?l ?c ?k) (fun d_ways => ?_)
    (case a => k_is)
    (case l => k_is)
    (case c => k_is)
    (case k => k_is)
    refine' S4.use (S4.DE.mk (x := "beyond") (st := S4.s_beyond) (ps := ["tree", "way"]) KX G (fun _ _ _ _ _ _ us hl => match us, hl with | [_, _], _ => rfl) ?a ?l ?c ?k) (fun d_beyond => ?_)
    (case a => k_is)
    (case l => k_is)
    (case c => k_is)
    (case k => k_is)
    refine' S4.use (S4.DE.mk (x := "this_side") (st := S4.s_this_side) (ps := ["tree", "way"]) KX G (fun _ _ _ _ _ _ us hl => match us, hl with | [_, _], _ => rfl) ?a ?l ?c ?k) (fun d_this_side => ?_)
    (case a => k_is)
    (case l => k_is)
    (case c => k_is)
    (case k => k_is)
    refine' S4.use (S4.DE.mk (x := "neighbours") (st := S4.s_neighbours) (ps := ["ties", "post"]) KX G (fun _ _ _ _ _ _ us hl => match us, hl with | [_, _], _ => rfl) ?a ?l ?c ?k) (fun d_neighbours => ?_)
    (case a => k_is)
    (case l => k_is)
    (case c => k_is)
    (case k => k_is)
    refine' S4.use (S4.DE.mk (x := "reached") (st := S4.s_reached) (ps := ["ties", "start", "barred"]) KX G (fun _ _ _ _ _ _ us hl => match us, hl with | [_, _, _], _ => rfl) ?a ?l ?c ?k) (fun d_reached => ?_)
    (case a => k_is)
    (case l => k_is)
    (case c => k_is)
    (case k => k_is)
    refine' S4.use (S4.DE.mk (x := "is_way") (st := S4.s_is_way) (ps := ["tree", "thing"]) KX G (fun _ _ _ _ _ _ us hl => match us, hl with | [_, _], _ => rfl) ?a ?l ?c ?k) (fun d_is_way => ?_)
    (case a => k_is)
    (case l => k_is)
    (case c => k_is)
    (case k => k_is)
    refine' S4.use (S4.DE.mk (x := "are_counts") (st := S4.s_are_counts) (ps := ["tree", "thing"]) KX G (fun _ _ _ _ _ _ us hl => match us, hl with | [_, _], _ => rfl) ?a ?l ?c ?k) (fun d_are_counts => ?_)
    (case a => k_is)
    (case l => k_is)
    (case c => k_is)
    (case k => k_is)
    refine' S4.use (S4.DE.mk (x := "check_wants") (st := S4.s_check_wants) (ps := ["p", "tree", "numbers", "wants"]) KX G (fun _ _ _ _ _ _ us hl => match us, hl with | [_, _, _, _], _ => rfl) ?a ?l ?c ?k) (fun d_check_wants => ?_)
    (case a => k_is)
    (case l => k_is)
    (case c => k_is)
    (case k => k_is)
    refine' S4.use (S4.DE.mk (x := "held") (st := S4.s_held) (ps := ["sheet", "post"]) KX G (fun _ _ _ _ _ _ us hl => match us, hl with | [_, _], _ => rfl) ?a ?l ?c ?k) (fun d_held => ?_)
    (case a => k_is)
    (case l => k_is)
    (case c => k_is)
    (case k => k_is)
    refine' S4.use (S4.DE.mk (x := "own_places") (st := S4.s_own_places) (ps := ["counts", "post"]) KX G (fun _ _ _ _ _ _ us hl => match us, hl with | [_, _], _ => rfl) ?a ?l ?c ?k) (fun d_own_places => ?_)
    (case a => k_is)
    (case l => k_is)
    (case c => k_is)
    (case k => k_is)
    refine' S4.use (S4.DE.mk (x := "block") (st := S4.s_block) (ps := ["sheet", "way"]) KX G (fun _ _ _ _ _ _ us hl => match us, hl with | [_, _], _ => rfl) ?a ?l ?c ?k) (fun d_block => ?_)
    (case a => k_is)
    (case l => k_is)
    (case c => k_is)
    (case k => k_is)
    refine' S4.use (S4.DE.mk (x := "near_numbers") (st := S4.s_near_numbers) (ps := ["sheet", "way"]) KX G (fun _ _ _ _ _ _ us hl => match us, hl with | [_, _], _ => rfl) ?a ?l ?c ?k) (fun d_near_numbers => ?_)
    (case a => k_is)
    (case l => k_is)
    (case c => k_is)
    (case k => k_is)
    refine' S4.use (S4.DE.mk (x := "far_wants") (st := S4.s_far_wants) (ps := ["sheet", "way"]) KX G (fun _ _ _ _ _ _ us hl => match us, hl with | [_, _], _ => rfl) ?a ?l ?c ?k) (fun d_far_wants => ?_)
    (case a => k_is)
    (case l => k_is)
    (case c => k_is)
    (case k => k_is)
    refine' S4.use (S4.DE.mk (x := "cut") (st := S4.s_cut) (ps := ["row", "lot"]) KX G (fun _ _ _ _ _ _ us hl => match us, hl with | [_, _], _ => rfl) ?a ?l ?c ?k) (fun d_cut => ?_)
    (case a => k_is)
    (case l => k_is)
    (case c => k_is)
    (case k => k_is)
    refine' S4.use (S4.DE.mk (x := "narrowed") (st := S4.s_narrowed) (ps := ["rows", "lot"]) KX G (fun _ _ _ _ _ _ us hl => match us, hl with | [_, _], _ => rfl) ?a ?l ?c ?k) (fun d_narrowed => ?_)
    (case a => k_is)
    (case l => k_is)
    (case c => k_is)
    (case k => k_is)
    refine' S4.use (S4.DE.mk (x := "_law_hand") (st := S4.s_law_hand) (ps := ["script"]) KX G (fun _ _ _ _ _ _ us hl => match us, hl with | [_], _ => rfl) ?a ?l ?c ?k) (fun d_law_hand => ?_)
    (case a => k_is)
    (case l => k_is)
    (case c => k_is)
    (case k => k_is)
    refine' S4.use (S4.DE.mk (x := "_law_draw") (st := S4.s_law_draw) (ps := ["hand", "many"]) KX G (fun _ _ _ _ _ _ us hl => match us, hl with | [_, _], _ => rfl) ?a ?l ?c ?k) (fun d_law_draw => ?_)
    (case a => k_is)
    (case l => k_is)
    (case c => k_is)
    (case k => k_is)
    refine' S4.use (S4.DE.mk (x := "_law_any") (st := S4.s_law_any) (ps := ["hand", "items"]) KX G (fun _ _ _ _ _ _ us hl => match us, hl with | [_, _], _ => rfl) ?a ?l ?c ?k) (fun d_law_any => ?_)
    (case a => k_is)
    (case l => k_is)
    (case c => k_is)
    (case k => k_is)
    refine' S4.use (S4.DE.mk (x := "_law_is") (st := S4.s_law_is) (ps := ["told", "due"]) KX G (fun _ _ _ _ _ _ us hl => match us, hl with | [_, _], _ => rfl) ?a ?l ?c ?k) (fun d_law_is => ?_)
    (case a => k_is)
    (case l => k_is)
    (case c => k_is)
    (case k => k_is)
    refine' S4.use (S4.DE.mk (x := "_law_mixed") (st := S4.s_law_mixed) (ps := ["hand", "items"]) KX G (fun _ _ _ _ _ _ us hl => match us, hl with | [_, _], _ => rfl) ?a ?l ?c ?k) (fun d_law_mixed => ?_)
    (case a => k_is)
    (case l => k_is)
    (case c => k_is)
    (case k => k_is)
    refine' S4.use (S4.DE.mk (x := "_law_less") (st := S4.s_law_less) (ps := ["p", "row", "other", "many"]) KX G (fun _ _ _ _ _ _ us hl => match us, hl with | [_, _, _, _], _ => rfl) ?a ?l ?c ?k) (fun d_law_less => ?_)
    (case a => k_is)
    (case l => k_is)
    (case c => k_is)
    (case k => k_is)
    refine' S4.use (S4.DE.mk (x := "_law_summed") (st := S4.s_law_summed) (ps := ["p", "wide", "rows", "many"]) KX G (fun _ _ _ _ _ _ us hl => match us, hl with | [_, _, _, _], _ => rfl) ?a ?l ?c ?k) (fun d_law_summed => ?_)
    (case a => k_is)
    (case l => k_is)
    (case c => k_is)
    (case k => k_is)
    refine' S4.use (S4.DE.mk (x := "_law_clock") (st := S4.s_law_clock) (ps := ["hand"]) KX G (fun _ _ _ _ _ _ us hl => match us, hl with | [_], _ => rfl) ?a ?l ?c ?k) (fun d_law_clock => ?_)
    (case a => k_is)
    (case l => k_is)
    (case c => k_is)
    (case k => k_is)
    refine' S4.use (S4.DE.mk (x := "_law_some_row") (st := S4.s_law_some_row) (ps := ["hand", "p", "wide", "rows"]) KX G (fun _ _ _ _ _ _ us hl => match us, hl with | [_, _, _, _], _ => rfl) ?a ?l ?c ?k) (fun d_law_some_row => ?_)
    (case a => k_is)
    (case l => k_is)
    (case c => k_is)
    (case k => k_is)
    refine' S4.use (S4.DE.mk (x := "_law_ties") (st := S4.s_law_ties) (ps := ["hand", "posts"]) KX G (fun _ _ _ _ _ _ us hl => match us, hl with | [_, _], _ => rfl) ?a ?l ?c ?k) (fun d_law_ties => ?_)
    (case a => k_is)
    (case l => k_is)
    (case c => k_is)
    (case k => k_is)
    refine' S4.use (S4.DE.mk (x := "_law_near") (st := S4.s_law_near) (ps := ["ties", "post"]) KX G (fun _ _ _ _ _ _ us hl => match us, hl with | [_, _], _ => rfl) ?a ?l ?c ?k) (fun d_law_near => ?_)
    (case a => k_is)
    (case l => k_is)
    (case c => k_is)
    (case k => k_is)
    refine' S4.use (S4.DE.mk (x := "_law_all_ways") (st := S4.s_law_all_ways) (ps := ["ties"]) KX G (fun _ _ _ _ _ _ us hl => match us, hl with | [_], _ => rfl) ?a ?l ?c ?k) (fun d_law_all_ways => ?_)
    (case a => k_is)
    (case l => k_is)
    (case c => k_is)
    (case k => k_is)
    refine' S4.use (S4.DE.mk (x := "_law_this") (st := S4.s_law_this) (ps := ["ties", "way"]) KX G (fun _ _ _ _ _ _ us hl => match us, hl with | [_, _], _ => rfl) ?a ?l ?c ?k) (fun d_law_this => ?_)
    (case a => k_is)
    (case l => k_is)
    (case c => k_is)
    (case k => k_is)
    refine' S4.use (S4.DE.mk (x := "_law_numbers") (st := S4.s_law_numbers) (ps := ["holds", "posts"]) KX G (fun _ _ _ _ _ _ us hl => match us, hl with | [_, _], _ => rfl) ?a ?l ?c ?k) (fun d_law_numbers => ?_)
    (case a => k_is)
    (case l => k_is)
    (case c => k_is)
    (case k => k_is)
    refine' S4.use (S4.DE.mk (x := "_law_full") (st := S4.s_law_full) (ps := ["spec", "way"]) KX G (fun _ _ _ _ _ _ us hl => match us, hl with | [_, _], _ => rfl) ?a ?l ?c ?k) (fun d_law_full => ?_)
    (case a => k_is)
    (case l => k_is)
    (case c => k_is)
    (case k => k_is)
    refine' S4.use (S4.DE.mk (x := "_law_cut") (st := S4.s_law_cut) (ps := ["spec", "way"]) KX G (fun _ _ _ _ _ _ us hl => match us, hl with | [_, _], _ => rfl) ?a ?l ?c ?k) (fun d_law_cut => ?_)
    (case a => k_is)
    (case l => k_is)
    (case c => k_is)
    (case k => k_is)
    refine' S4.use (S4.DE.mk (x := "_law_spec") (st := S4.s_law_spec) (ps := ["hand", "posts", "most"]) KX G (fun _ _ _ _ _ _ us hl => match us, hl with | [_, _, _], _ => rfl) ?a ?l ?c ?k) (fun d_law_spec => ?_)
    (case a => k_is)
    (case l => k_is)
    (case c => k_is)
    (case k => k_is)
    refine' S4.use (S4.DE.mk (x := "_law_sheet") (st := S4.s_law_sheet) (ps := ["spec"]) KX G (fun _ _ _ _ _ _ us hl => match us, hl with | [_], _ => rfl) ?a ?l ?c ?k) (fun d_law_sheet => ?_)
    (case a => k_is)
    (case l => k_is)
    (case c => k_is)
    (case k => k_is)
    refine' S4.use (S4.DE.mk (x := "law") (st := S4.s_law) (ps := ["script"]) KX G (fun _ _ _ _ _ _ us hl => match us, hl with | [_], _ => rfl) ?a ?l ?c ?k) (fun d_law => ?_)
    (case a => k_is)
    (case l => k_is)
    (case c => k_is)
    (case k => k_is)
    refine' S4.all_mk hmg (S4.Tx.mk b_abs b_all b_bool b_enumerate b_int b_isinstance b_len b_list b_max b_range b_sorted b_sum b_tuple b_zip c_MOST_HOURS c_MOST_TIES c_MOST_AT_POST c_MOST_IN_ALL d_is_integer d_is_below d_is_pair d_is_row d_is_clock d_check_ties d_is_tie d_tied d_ways d_beyond d_this_side d_neighbours d_reached d_is_way d_are_counts d_check_wants d_held d_own_places d_block d_near_numbers d_far_wants d_cut d_narrowed d_law_hand d_law_draw d_law_any d_law_is d_law_mixed d_law_less d_law_summed d_law_clock d_law_some_row d_law_ties d_law_near d_law_all_ways d_law_this d_law_numbers d_law_full d_law_cut d_law_spec d_law_sheet d_law ?k0 ?k1 ?iT)
    case k0 =>
      refine' S4.dc_mk KX G (fun _ _ _ _ _ _ us hl => match us, hl with | [_, _], _ => rfl) ?aC ?a ?i ?l ?c ?k ?mk ?kc ?pg ?hd ?po ?sa ?na
      (case aC => k_is)
      (case a => k_is)
      (case i => k_is)
      (case l => k_is)
      (case c => k_is)
      (case k => k_is)
      (case mk => k_is)
      (case kc => k_is)
      (case pg => k_is)
      (case hd => k_is)
      (case po => k_is)
      (case sa => k_is)
      case na =>
        intro y hy
        simp only [List.mem_cons, List.not_mem_nil, or_false] at hy
        rcases hy with rfl | rfl
        · show PySem.W.findIn _ _ _ = some none
          k_is
        · show PySem.W.findIn _ _ _ = some none
          k_is
    case k1 =>
      refine' S4.dc_mk KX G (fun _ _ _ _ _ _ us hl => match us, hl with | [_, _, _, _, _], _ => rfl) ?aC ?a ?i ?l ?c ?k ?mk ?kc ?pg ?hd ?po ?sa ?na
      (case aC => k_is)
      (case a => k_is)
      (case i => k_is)
      (case l => k_is)
      (case c => k_is)
      (case k => k_is)
      (case mk => k_is)
      (case kc => k_is)
      (case pg => k_is)
      (case hd => k_is)
      (case po => k_is)
      (case sa => k_is)
      case na =>
        intro y hy
        simp only [List.mem_cons, List.not_mem_nil, or_false] at hy
        rcases hy with rfl | rfl | rfl | rfl | rfl
        · show PySem.W.findIn _ _ _ = some none
          k_is
        · show PySem.W.findIn _ _ _ = some none
          k_is
        · show PySem.W.findIn _ _ _ = some none
          k_is
        · show PySem.W.findIn _ _ _ = some none
          k_is
        · show PySem.W.findIn _ _ _ = some none
          k_is
    case iT =>
      refine' ⟨⟨?pg, ?hd, ?po, ?sa⟩, ?ha, ?hn, ?htk, ?hm, S4.kit_self _ _⟩
      (case pg => k_is)
      (case hd => k_is)
      (case po => k_is)
      (case sa => k_is)
      (case ha => k_is)
      (case hn => k_is)
      (case htk => k_is)
      (case hm => k_is)
