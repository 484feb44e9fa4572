import PyProof.Rows.All
import Wide.All
import OpenK.AllK
import Wide.FinOn
import HandS.ForMost
import HandS.Sort
import HandS.SortRule
import HandS.SortInts
import HandS.Conv
import HandS.Codes
import HandS.Deep
import HandS.TupLe
import HandS.TupAny
import HandS.TupMul
import HandS.Style
import HandS.Zip
import HandS.More
import HandS.Flow
import HandS.Walk
import HandS.IsInst
import KE.KTupSum
import PyProof.TupleOfSeq
import PyProof.Draws
import PyProof.EnumMake
import KE.GoesMore
import KE.GoesEnum
import HandS.ExcOwn
import HandS.ExcInit
import HandS.ExcIs
import HandS.ExcField
import HandS.OwnEq
import HandS.TryOnly
import HandS.WordsExc
import KE.GoesZip
import HandS.Small
import PySem.Challenge.RW_sametolls_k20_whole_tidings_along_ways
set_option Elab.async false
set_option autoImplicit false
set_option linter.all false
set_option maxRecDepth 100000
set_option maxHeartbeats 4000000
/-! rules that the hand layer lacks: sum, sorted, enumerate, in, [::-1], * of tuples -/
namespace TT
open PySem PySem.Spec PyProof.Rows L2
section
variable {X : Cx}
/-! ### sum(t), t a tuple of ints -/
def rSumT (K : PySem.W.Frag) : List V → Hp → VK → Prop := fun vs H Q => ∃ (a : Addr) (ns : List Int), vs = [V.ref a] ∧ SqT K H a (ns.map V.int) ∧ Q (.int ns.sum) H
theorem cr_sumT (hc : X.calm = true) : CallR X (.builtin "sum") (rSumT X.K) := by
  intro pins s σ H vs us Q I r h
  obtain ⟨a, ns, rfl, hs, q⟩ := h
  obtain ⟨its, rv, hl, _⟩ := I.tuple hs
  rw [Vals.ref1 r]
  have hi : IntsAre its ns := rv.ints
  obtain ⟨xs, e⟩ := hi.allInts.items
  have hn : numsOf (intItems xs).toList = ns := by rw [← e]; exact hi.numsOf
  rw [nums_intItems] at hn
  obtain ⟨o, ho, hc', n, hd⟩ := id hl
  have hl2 : s.heap.IsTuple a (intItems xs) := by
    rw [← e]
    exact ⟨o, ho, hc', n, hd⟩
  refine PySem.W.ktm_sumG (I.ok.hd hc) hl2 fun h' tk t' hk => ?_
  rw [preSum_eq, List.take_of_length_le (by simp), hn]
  exact ⟨.int _, H, I.kept hk, ⟨_, rfl⟩, q⟩
/-! ### x in t, t a tuple of data -/
def rInT (K : PySem.W.Frag) : R2 := fun x y H Q => ∃ d ds, Dp K H x d ∧ Dp K H y (.tuple ds) ∧ SeqAt.shaped d = true ∧ SeqAt.shaped (.tuple ds) = true ∧ Q (.bl (ds.any fun z => PyData.eqv z d)) H
theorem op_inT (hu : X.A.units + 65 < cLine) : OpR X (compareOp .In) (rInT X.K) := by
  intro pins s σ H x y v u Q I rx ry h
  obtain ⟨d, ds, hd, he, sd, se, q⟩ := h
  obtain ⟨as, r1⟩ := Dp.reads I d x v hd rx
  obtain ⟨bs, r2⟩ := Dp.reads I (.tuple ds) y u he ry
  exact SeqAt.in_tuple_reads r2 r1 (SeqAt.canLay_of_shaped se) (SeqAt.canLay_of_shaped sd) (room_in_shaped sd hu) ⟨.bl _, H, I, rfl, q⟩
end
/-! ### t[::-1] -/
section
variable {prog : Program} {w : World} {A : Around} {E : Value → Shared → Prop} {s : Shared}
theorem adjust_rev (n : Nat) : Builtin.Slice.sliceAdjust none none (-1) (n : Int) = ((n : Int) - 1, -1) := rfl
theorem places_rev (n : Nat) : Builtin.Slice.slicePlaces ((n : Int) - 1) (-1) (-1) = n := by
  unfold Builtin.Slice.slicePlaces
  rw [if_neg (by decide)]
  have e : (-(-1 : Int)) = 1 := by decide
  rw [e, Int.ediv_one]
  split <;> omega
theorem pick_rev (xs : Array Value) : ((List.range xs.size).filterMap fun (k : Nat) => xs[(((xs.size : Int) - 1) + (k : Int) * (-1)).toNat]?).toArray = xs.toList.reverse.toArray := by
  have e : (List.range xs.size).filterMap (fun (k : Nat) => xs[(((xs.size : Int) - 1) + (k : Int) * (-1)).toNat]?) = xs.toList.reverse := by
    have h : ∀ (n : Nat), n ≤ xs.size → (List.range n).filterMap (fun (k : Nat) => xs[(((xs.size : Int) - 1) + (k : Int) * (-1)).toNat]?) = xs.toList.reverse.take n := by
      intro n
      induction n with
      | zero => intro _; simp
      | succ n ih =>
        intro hn
        rw [List.range_succ, List.filterMap_append, ih (by omega), List.take_succ]
        congr 1
        have e1 : (((xs.size : Int) - 1) + (n : Int) * (-1)).toNat = xs.size - 1 - n := by omega
        rw [List.filterMap_cons, e1, List.getElem?_reverse (by rw [Array.length_toList]; omega), Array.length_toList, Array.getElem?_toList]
        cases xs[xs.size - 1 - n]? <;> rfl
    have := h xs.size (Nat.le_refl _)
    rw [this, List.take_of_length_le (by rw [List.length_reverse, Array.length_toList]; exact Nat.le_refl _)]
  rw [e]
theorem getItem_tuple_rev {t sl : Addr} {items : Array Value} {u : Tok} {Q : Value → Shared → Prop} (ht : IsTup s.heap t items) (hs : s.heap.IsSliceOf sl .none .none (.int (-1) u))
    (h : Q (.ref s.heap.objs.size) { s with heap := s.heap.push { cls := .type "tuple", data := .seq items.toList.reverse.toArray } })
    (hsz : items.size ≤ sizeLine) : wpAny (model prog w) A (getItem (.ref t) (.ref sl)) Q E s := by
  have htake : sizeOk (.seq items.toList.reverse.toArray) := by
    show items.toList.reverse.toArray.size ≤ sizeLine
    rw [List.size_toArray, List.length_reverse, Array.length_toList]
    exact hsz
  obtain ⟨os, hos, hcs, hds⟩ := id hs
  have hTs : s.TypeIs (.ref sl) "slice" := ⟨os, hos, hcs⟩
  unfold getItem
  try with_reducible refine wpAny_holding ?_
  first | refine wpAny_bind (wpAny_pure ?_) | skip
  refine wpAny_bind (wpAny_sequenceKey ht.typeIs (by decide) ?_)
  refine wpAny_bind (wpAny_callSpecial?_slot (name := Str.ofString "__getitem__") ht.typeIs PyProof.Rows.slot_tuple_getitem
    (wpAny_call_entry PyProof.Rows.slot_tuple_getitem ht.typeIs entry_tuple_getitem ?_ (args_tuple_getitem _ _)))
  show wpAny _ _ (Builtin.Tuple.tupleItemsOf (.ref t) >>= _) _ _ s
  refine wpAny_bind (tupleItemsOf_ ht ?_)
  refine wpAny_bind (wpAny_typeOf hTs ?_)
  rw [if_pos (by decide)]
  refine wpAny_bind ?_
  unfold Builtin.Slice.sliceApplied Builtin.Slice.sliceFields
  refine wpAny_bind (wpAny_bind (wpAny_field hos hds (x := .none) rfl (wpAny_bind (wpAny_field hos hds (x := .none) rfl (wpAny_bind (wpAny_field hos hds (x := .int (-1) u) rfl (wpAny_pure ?_)))))))
  refine wpAny_bind (slicePart_int ?_)
  show wpAny _ _ (if ((-1 : Int) == 0) = true then _ else _) _ _ s
  rw [if_neg (by decide)]
  refine wpAny_bind (slicePart_none (wpAny_bind (slicePart_none (wpAny_bind (wpAny_pure ?_)))))
  show wpAny _ _ (match Builtin.Slice.sliceAdjust none none (-1) (items.size : Int) with | (lo, hi) => pure (lo, (-1 : Int), Builtin.Slice.slicePlaces lo hi (-1))) _ _ s
  rw [adjust_rev]
  show wpAny _ _ (pure (((items.size : Int) - 1), (-1 : Int), Builtin.Slice.slicePlaces ((items.size : Int) - 1) (-1) (-1))) _ _ s
  rw [places_rev]
  refine wpAny_pure ?_
  have hno : ¬ ((((items.size : Int) - 1) == 0 && (-1 : Int) == 1 && (items.size == items.size)) = true) := by
    rw [show ((-1 : Int) == 1) = false from by decide, Bool.and_false, Bool.false_and]
    exact Bool.false_ne_true
  show wpAny _ _ (if (((items.size : Int) - 1) == 0 && (-1 : Int) == 1 && (items.size == items.size)) = true then _ else _) _ _ s
  rw [if_neg hno, pick_rev]
  first
    | exact wpAny_bind (m := Builtin.Tuple.tupleExact _) (wpAny_newObj_type (wpAny_pure ⟨_, rfl, wpAny_pure h⟩) htake)
    | exact wpAny_bind (m := Builtin.Tuple.tupleExact _) (wpAny_newObj_type (wpAny_bind (wpAny_pure (wpAny_pure ⟨_, rfl, wpAny_pure h⟩))) htake)
    | exact wpAny_bind (wpAny_bind (m := Builtin.Tuple.tupleExact _) (wpAny_newObj_type (wpAny_pure (wpAny_pure ⟨_, rfl, wpAny_pure h⟩)) htake))
    | exact wpAny_bind (wpAny_bind (m := Builtin.Tuple.tupleExact _) (wpAny_newObj_type (wpAny_pure ⟨_, rfl, wpAny_pure h⟩) htake))
end
section
variable {X : Cx}
def tRevT (K : PySem.W.Frag) (te : TE) : TE := fun σ H Q => te σ H fun x H1 => ∃ a xs, x = .ref a ∧ SqT K H1 a xs ∧ ∀ p, H1 p = none → Q (.ref p) (upd H1 p (.tup xs.reverse))
theorem pe_revT {e : Expr} {te : TE} {k : Nat} {p1 p2 p3 pos : Pos} (he : PE X e te) : PE X (.Subscript e (.Slice none none (some (.UnaryOp .USub (.Constant (.int 1) k p1) p2)) p3) pos) (tRevT X.K te) := by
  refine ⟨fun pins s σ H Q I h => ?_⟩
  refine Subscript_ (thn (he.run pins s σ H _ I h) fun v s1 ⟨x, H1, I1, r1, q1⟩ => ?_)
  obtain ⟨a, xs, ex, hx, q⟩ := q1
  subst ex
  cases r1
  have hst : PO X (some (.UnaryOp .USub (.Constant (.int 1) k p1) p2)) (tPart (tUn (rU fun i => .int (-i)) (tC (.int 1)))) := po_some (pe_un un_neg pe_int)
  refine wpAny_Slice (thn (po_none.run pins s1 σ H1 (fun o H2 => o = none ∧ H2 = H1) I1 ⟨rfl, rfl⟩) fun vl s2 ⟨l, H2, I2, pl, el, e2⟩ => ?_)
  subst el e2
  refine thn (po_none.run pins s2 σ H2 (fun o H3 => o = none ∧ H3 = H2) I2 ⟨rfl, rfl⟩) fun vu s3 ⟨u, H3, I3, pu, eu, e3⟩ => ?_
  subst eu e3
  refine thn (hst.run pins s3 σ H3 (fun o H4 => o = some (-1) ∧ H4 = H3) I3 ⟨1, rfl, -1, rfl, rfl, rfl⟩) fun vs s4 ⟨o, H4, I4, ps, eo, e4⟩ => ?_
  subst eo e4
  have I5 : Inv X pins σ H4 { s4 with heap := s4.heap.push { cls := .type "slice", data := .fields #[vl, vu, vs] } } := I4.kept (t' := s4.toks) fun b ob q => Heap.get?_push_of_some _ q
  obtain ⟨its, r, ht, hz⟩ := I5.tuple hx
  have hlen := r.length
  show wpAny (model X.prog X.w) X.A (subscriptTail e (.Slice none none (some (.UnaryOp .USub (.Constant (.int 1) k p1) p2)) p3) (.ref a) (.ref s4.heap.objs.size)) (EP X pins σ Q) X.xe { s4 with heap := s4.heap.push { cls := .type "slice", data := .fields #[vl, vu, vs] } }
  cases pl
  cases pu
  cases ps with
  | int i t =>
    refine tail_any (ops := [.ref a, .ref s4.heap.objs.size]) ht.typeIs (PyProof.Rows.slot_tuple_getitem.lookup) ?_ (by with_unfolding_all rfl)
    refine getItem_tuple_rev ht (Heap.IsSliceOf.new _ .none .none (.int (-1) t)) ?_ (by rw [List.size_toArray]; omega)
    refine ⟨.ref _, _, I5.laid (t' := s4.toks) (o := .tup xs.reverse) (fun b ob q => Heap.get?_push_of_some _ q) (Nat.le_refl _) ?_, rfl, q _ (I5.hok.fresh (Nat.le_refl _))⟩
    exact ⟨by rw [List.length_reverse]; exact hz, _, r.reverse, IsTup.new _ _⟩
end
/-! ### enumerate(t), t a tuple -/
def IteT (K : PySem.W.Frag) (a : Addr) : It :=
  ⟨fun i H => ∃ (xs : List V) (x : V), SqT K H a xs ∧ xs[i]? = some x, fun i H v H' => ∃ T x, v = .ref T ∧ H T = none ∧ H' = upd H T (.tup [.int (i : Nat), x]) ∧ ∀ xs, SqT K H a xs → xs[i]? = some x, fun i H => ∃ xs : List V, SqT K H a xs ∧ i = xs.length⟩
theorem turn_enumT {P : Program} {w : World} {K : PySem.W.Frag} {elts : List Expr} {kk : Nat} {tpos : Pos} (a e it : Addr) (hai : a ≠ it) :
    Turn P w K (.Tuple elts kk tpos) (IteT K a) [e, it] e (fun i h => (∃ old, IsEnum h e it ((i : Nat) : Int) old) ∧ h.IsTupleIter it a i ∧ e ≠ it ∧ e ≠ a) where
  mem := by simp
  obj := fun i h st b hb => by
    obtain ⟨⟨old, he⟩, ⟨o, ho, hc, hd⟩, _⟩ := st
    have e' : b = e ∨ b = it := by simpa using hb
    rcases e' with z | z
    · rw [z]; exact ⟨_, he, fun v q => nomatch q⟩
    · rw [z]; exact ⟨o, ho, fun v q => by rw [hd] at q; cases q⟩
  keep := fun i h h' st k => let ⟨⟨old, he⟩, hi, hne⟩ := st; ⟨⟨old, k e (by simp) _ he⟩, hi.at fun o q => k it (by simp) o q, hne⟩
  item := by
    intro X hP hw hK hc i pins s σ H E I hf st hg
    subst hP hw hK
    obtain ⟨⟨old, he⟩, hit, hne, hnea⟩ := st
    obtain ⟨xs, x, hq, hx⟩ := hg
    obtain ⟨its, rv, p, hz⟩ := I.tuple hq
    obtain ⟨u, hu, ru⟩ := rv.get hx
    have hel : e < s.heap.objs.size := Heap.lt_size he
    have hil : it < s.heap.objs.size := by obtain ⟨_, q, _⟩ := hit; exact Heap.lt_size q
    have hlt : i < its.toArray.size := by
      rw [List.size_toArray]
      exact (List.getElem?_eq_some_iff.mp hu).1
    have p' : s.heap.IsTuple a its.toArray := p
    have D := Draws.tuple (prog := X.prog) (w := X.w) (A := X.A.in1) (I.ok.hd hc) it a hai its.toArray
    refine wpAny_pyNext_enum_itemD D he ⟨hit, p'⟩ hlt hne (by simp [hne, hnea]) fun u' h' tk hP' ho st' hT hsz hk => ?_
    have hu2 : u' = u := by
      have : its.toArray[i]? = some u' := hP'
      rw [show its.toArray[i]? = its[i]? by simp] at this
      rw [hu] at this
      exact (Option.some.inj this).symm
    subst hu2
    have hit' := st'.1
    refine ⟨_, rfl, wpAny_letOwnedTupleGo_enum (s := { s with heap := h', toks := tk + 1 }) ho fun h'' he' sb => ?_⟩
    have hT2 : h''.get? s.heap.objs.size = some { cls := .type "tuple", data := .seq #[.int i tk, u'] } := (sb.2 _ (Nat.ne_of_gt hel)).trans hT
    have new : ObjOk X.prog X.w (upd H s.heap.objs.size (.tup [.int (i : Nat), x])) h'' s.heap.objs.size (.tup [.int (i : Nat), x]) :=
      ⟨by show 2 ≤ sizeLine; decide, [.int i tk, u'], .cons ⟨_, rfl⟩ (.cons ru .nil), ⟨_, hT2, rfl, _, rfl⟩⟩
    have I1 : Inv X pins σ (upd H s.heap.objs.size (.tup [.int (i : Nat), x])) { s with heap := h'', toks := tk + 1 } :=
      I.turnedNew (ch := [e, it]) (fun b ob hb q => (sb.2 b (fun z => hb (by simp [z]))).trans (hk b ob (fun z => hb (by simp [z])) (fun z => hb (by simp [z])) q)) hf (Nat.le_refl _) new
    refine ⟨.ref s.heap.objs.size, _, I1, rfl, ⟨_, x, rfl, I.hok.fresh (Nat.le_refl _), rfl, fun ys hy => by rw [I.tuple_inj hy hq]; exact hx⟩, ⟨⟨u', ?_⟩, hit'.at fun o q => (sb.2 it (Ne.symm hne)).trans q, hne, hnea⟩, fun b hb => ?_⟩
    · have e1 : ((i + 1 : Nat) : Int) = (i : Int) + 1 := by omega
      rw [e1]; exact he'
    · have hb' : b < s.heap.objs.size := by
        have e' : b = e ∨ b = it := by simpa using hb
        rcases e' with z | z
        · rw [z]; exact hel
        · rw [z]; exact hil
      rw [upd_ne (Nat.ne_of_lt hb')]
      exact (hf b hb).1
  done := by
    intro X hP hw hK hc i pins s σ H E I hf st hg
    subst hP hw hK
    obtain ⟨⟨old, he⟩, hit, hne, hnea⟩ := st
    obtain ⟨xs, hq, hx⟩ := hg
    obtain ⟨its, rv, p, hz⟩ := I.tuple hq
    obtain ⟨f0, f1, f2, f3, f4, f5⟩ := hf it (by simp)
    have hl := rv.length
    have p' : s.heap.IsTuple a its.toArray := p
    have D := Draws.tuple (prog := X.prog) (w := X.w) (A := X.A.in1) (I.ok.hd hc) it a hai its.toArray
    have hi : i = its.toArray.size := by rw [List.size_toArray]; omega
    rw [hi] at hit
    exact wpAny_pyNext_enum_endD D he ⟨hit, p'⟩ fun h' eb => ⟨rfl, I.turned (t' := s.toks) (fun b o hb q => eb b o hb q) f0 f1 f3 f4 f5⟩
  self := fun A i s Q E st h => let ⟨⟨_, he⟩, _⟩ := st; wpAny_pyIter_enum he h
def iEnumT (K : PySem.W.Frag) (ta : TA) : TI := fun σ H R => ta σ H fun vs H1 => ∃ a xs, vs = [.ref a] ∧ SqT K H1 a xs ∧ R (IteT K a) H1
theorem meets_enumerate_newT (t : Addr) (items : Array Value) :
    Meets (Builtin.«enumerate.__new__» ⟨[.type "enumerate", .ref t], []⟩) (fun _ R s => s.heap.IsTuple t items ∧
      R (.ok (.ret (.ref (s.heap.push { cls := .type "tuple_iterator", data := .fields #[.ref t, .int 0 0] }).objs.size)))
        { s with heap := (s.heap.push { cls := .type "tuple_iterator", data := .fields #[.ref t, .int 0 0] }).push { cls := .type "enumerate", data := .fields #[.none, .bool false, .ref s.heap.objs.size, rawInt 0, .none, .none] } }) :=
  .of_wp fun prog w A R s h => by
    obtain ⟨hp, g, d, tk, os⟩ := s
    obtain ⟨hL, h⟩ := h
    have hsub := sub_enumerate
    have q1 : ∀ {A' : Around} {E : Value → Shared → Prop} {Q : Value → Shared → Prop}, Q (.ref hp.objs.size) ⟨hp.push { cls := .type "tuple_iterator", data := .fields #[.ref t, .int 0 0] }, g, d, tk, os⟩ → wpAny (model prog w) A' (pyIter (.ref t)) Q E ⟨hp, g, d, tk, os⟩ :=
      fun q => wpAny_pyIter_tuple hL q
    wp_walk using q1
    refine wpAny_stack_any fun st => wpAny_pure ?_
    split
    · rename_i c _ _ _ _ _
      cases (c == Value.type "enumerate")
      · wp_walk using q1
        exact ⟨_, rfl, h⟩
      · wp_walk using q1
        exact ⟨_, rfl, h⟩
    · wp_walk using q1
      exact ⟨_, rfl, h⟩
theorem call_enumerate_tuple {prog : Program} {w : World} {A : Around} {E : Value → Shared → Prop} {s : Shared} {t : Addr} {items : Array Value} {Q : Value → Shared → Prop} (ht : s.heap.IsTuple t items)
    (h : ∀ h', IsEnum h' (s.heap.objs.size + 1) s.heap.objs.size 0 .none → h'.IsTupleIter s.heap.objs.size t 0 → h'.objs.size = s.heap.objs.size + 2 →
      (∀ b o, s.heap.get? b = some o → h'.get? b = some o) → Q (.ref (s.heap.objs.size + 1)) { s with heap := h' }) :
    wpAny (model prog w) A (call (.type "enumerate") [.ref t]) Q E s := by
  refine callType_new F.called_enumerate (by decide) (F.typeCall_enumerate_1 _) (F.newCall_enumerate_1 _) (fun obj => F.args_object_init_2 obj _) F.entry_enumerate_new
    (meets_enumerate_newT t items) ⟨ht, ?_⟩
  have hz : (s.heap.push { cls := .type "tuple_iterator", data := .fields #[.ref t, .int 0 0] }).objs.size = s.heap.objs.size + 1 := Heap.size_push ..
  show _ ∧ _
  rw [hz]
  have he : IsEnum ((s.heap.push { cls := .type "tuple_iterator", data := .fields #[.ref t, .int 0 0] }).push
      { cls := .type "enumerate", data := .fields #[.none, .bool false, .ref s.heap.objs.size, rawInt 0, .none, .none] }) (s.heap.objs.size + 1) s.heap.objs.size 0 .none := by
    have := Heap.get?_push_size (s.heap.push { cls := .type "tuple_iterator", data := .fields #[.ref t, .int 0 0] }) (o := { cls := .type "enumerate", data := .fields #[.none, .bool false, .ref s.heap.objs.size, rawInt 0, .none, .none] }) rfl
    rw [hz] at this; exact this
  have hi : s.heap.push { cls := .type "tuple_iterator", data := .fields #[.ref t, .int 0 0] } |>.IsTupleIter s.heap.objs.size t 0 := ⟨_, Heap.get?_push_size _ rfl, rfl, rfl⟩
  refine ⟨⟨_, he, rfl⟩, h _ he (hi.at fun o e => Heap.get?_push_of_some _ e) (by rw [Heap.size_push, hz]) fun b o x => Heap.get?_push_of_some _ (Heap.get?_push_of_some _ x)⟩
theorem pi_enumT {X : Cx} {e : Expr} {ta : TA} {p pos tpos : Pos} {elts : List Expr} {kk : Nat} (hg : Gl X "enumerate") (hm : X.mg "enumerate" = none) (ha : PA X [e] ta) (hs : starEach [e] X.env = [(false, eval e X.env)] := by rfl) :
    PI X (.Tuple elts kk tpos) (.Call (.Name "enumerate" p) [e] [] pos) (iEnumT X.K ta) := by
  refine ⟨fun pins s σ H R I h => ?_⟩
  refine Call_ (ld_blt I hg hm boot_enumerate (PyProof.Rows.callWith_type1 (thn (ha.run pos pins s σ H _ I h) fun us s1 ⟨vs, H1, I1, r1, q1⟩ => ?_) hs rfl))
  obtain ⟨a, xs, ex, hq, q⟩ := q1
  subst ex
  cases r1 with
  | cons r rr =>
    cases rr
    cases r
    obtain ⟨its, rv, p', hz⟩ := I1.tuple hq
    have hlt : a < s1.heap.objs.size := p'.lt
    refine call_enumerate_tuple p' fun h' he hit hsz hk => wpAny_pyIter_enum he ?_
    have I2 : Inv X pins σ H1 { s1 with heap := h' } := I1.kept (t' := s1.toks) hk
    refine ⟨s1.heap.objs.size + 1, [s1.heap.objs.size + 1, s1.heap.objs.size], _, _, H1, rfl, I2, turn_enumT a (s1.heap.objs.size + 1) s1.heap.objs.size (Nat.ne_of_lt hlt), ⟨⟨.none, he⟩, hit, Nat.succ_ne_self _, Nat.ne_of_gt (Nat.lt_succ_of_lt hlt)⟩, fun b hb => ?_, q⟩
    have e' : b = s1.heap.objs.size + 1 ∨ b = s1.heap.objs.size := by simpa using hb
    have hle : s1.heap.objs.size ≤ b := by
      rcases e' with z | z
      · rw [z]; exact Nat.le_add_right _ _
      · rw [z]; exact Nat.le_refl _
    exact I1.fpOk hle (I1.hok.fresh hle)
theorem walk_enumT {K : PySem.W.Frag} {a : Addr} {xs : List V} : Walk (IteT K a) xs.length (fun H => SqT K H a xs) (YPair (fun i => some (.int (i : Nat))) (fun i => xs[i]?)) := by
  refine ⟨fun i _ hi q => ⟨xs, xs[i], q, by simp [hi]⟩, fun _ q => ⟨xs, q, rfl⟩, fun i H v H' _ q y => ?_⟩
  obtain ⟨T, x, h1, h2, h3, h4⟩ := y
  exact ⟨T, .int (i : Nat), x, h1, h2, h3, rfl, h4 xs q⟩
/-! ### sorted(t), t a tuple of ints -/
section
variable {prog : Program} {w : World} {A : Around} {E : Value → Shared → Prop} {s : Shared}
open SrtO in
theorem sorted_ordT {t : Addr} {vs : List Value} {ltv : Value → Value → Bool} {Q : Value → Shared → Prop} (O : SrtO.Swo ltv) (ht : IsTup s.heap t vs.toArray) (hz : vs.length ≤ sizeLine)
    (hS : 2 ≤ vs.length → ∀ (h₁ : Heap) (a : Addr), h₁.get? a = some (seqObj "list" vs.toArray 0) → (∀ b o, s.heap.get? b = some o → b ≠ a ∧ h₁.get? b = some o) → SrtO.SortableO prog w A.in1.in1 { s with heap := h₁ } a vs ltv)
    (h : ∀ (h' : Heap) (out : List Value), SrtO.Srtd ltv out → SrtO.Stb ltv out vs → (∀ b o, s.heap.get? b = some o → h'.get? b = some o) →
      Q (.ref h'.objs.size) { s with heap := sortedHeap (h'.push (seqObj "list" vs.toArray 0)) h'.objs.size vs out.toArray }) :
    wpAny (model prog w) A (call (.builtin "sorted") [.ref t]) Q E s := by
  obtain ⟨o, ho, hc, n, hd⟩ := id ht
  refine Calls.call_function_entry kind_sorted plain_sorted entry_sorted (args_sorted1 _) ?_
  unfold Builtin.«sorted»
  refine wpAny_bind (m := checkCount "sorted" 1 1 _) (wpAny_pure ?_)
  refine wpAny_bind (wpAny_collect_seq (hsz := by rw [List.size_toArray]; exact hz) t (.inr rfl) ho hc hd fun h' hk => ?_)
  refine wpAny_bind (wpAny_newList ?_ hz)
  have hoL : (h'.push (seqObj "list" vs.toArray 0)).get? h'.objs.size = some (seqObj "list" vs.toArray 0) := Heap.get?_push_size _ rfl
  have keep : ∀ b o, s.heap.get? b = some o → b ≠ h'.objs.size ∧ (h'.push (seqObj "list" vs.toArray 0)).get? b = some o := fun b o q =>
    ⟨Nat.ne_of_lt (Heap.lt_size (hk b o q)), Heap.get?_push_of_some _ (hk b o q)⟩
  show wpAny _ _ _ _ _ { s with heap := h'.push (seqObj "list" vs.toArray 0) }
  refine wpAny_bind (wpAny_holding (wpAny_call_entry slot_list_sort ⟨_, hoL, rfl⟩ entry_list_sort (SrtO.list_sort_ord O hoL hz (fun h2 => hS h2 _ _ hoL keep) fun out hs hb => ⟨_, rfl, ?_⟩) (args_list_sort _)))
  exact wpAny_pure ⟨_, rfl, h h' out hs hb hk⟩
end
section
variable {X : Cx}
def rSortedTI (K : PySem.W.Frag) : List V → Hp → VK → Prop := fun vs H Q => ∃ (a : Addr) (ns : List Int), vs = [V.ref a] ∧ SqT K H a (ns.map V.int) ∧
  ∀ (ns' : List Int) (p : Addr), ns'.Perm ns → ns'.Pairwise (· ≤ ·) → H p = none → Q (.ref p) (upd H p (.lst (ns'.map V.int)))
theorem cr_sortedTI : CallR X (.builtin "sorted") (rSortedTI X.K) := by
  intro pins s σ H vs us Q I r h
  obtain ⟨a, ns, rfl, hs, q⟩ := h
  obtain ⟨its, rv, hl, hz⟩ := I.tuple hs
  rw [Vals.ref1 r]
  have hi := rv.ints
  refine sorted_ordT SrtO.swo_int hl (by rw [← rv.length]; exact hz) (fun h2 h₁ a' _ _ => SrtO.ints_sortable hi h2) fun h' out h1 h2 hk => ?_
  obtain ⟨k1, k2, k3⟩ := SrtO.ints_out hi h1 h2
  obtain ⟨ep, he'⟩ := PyProof.Rows.sortedHeap_at (h := h'.push (seqObj "list" its.toArray 0)) (a := h'.objs.size) (vs := its) (out := out.toArray) (Heap.get?_push_size _ rfl)
  have hlen : ((out.map SrtO.iv).map V.int).length ≤ sizeLine := by
    rw [List.length_map, k2.length_eq]
    rw [List.length_map] at hz
    exact hz
  have I1 : Inv X pins σ H { s with heap := h' } := I.kept (t' := s.toks) hk
  refine ⟨.ref _, upd H h'.objs.size (.lst ((out.map SrtO.iv).map V.int)), I1.laid (t' := s.toks) (fun b ob e => ?_) (Nat.le_refl _) ⟨hlen, out, ep, vals_of_ints k1, he'⟩, rfl, q _ _ k2 k3 (I1.hok.fresh (Nat.le_refl _))⟩
  have hb : b < h'.objs.size := Heap.lt_size e
  rw [sortedHeap_old (Nat.ne_of_lt hb) (by rw [Heap.size_push]; exact Nat.lt_succ_of_lt hb)]
  exact Heap.get?_push_of_some _ e
end
/-! ### t * k, any small k from 0 on -/
section
variable {X : Cx}
theorem tuple_mul1 (l : Addr) (items : Array Value) (n : Nat) (dd : Option Addr) (sl : Array (Option Value)) (u : Tok) :
    Meets (Builtin.«tuple.__mul__» ⟨[.ref l, .int 1 u], []⟩) (fun _ R s => s.heap.get? l = some { cls := .type "tuple", dict := dd, data := .seq items n, slots := sl } ∧
      R (.ok (.ret (Value.ref l))) s) :=
  .of_wp fun prog w A R s h => by
    obtain ⟨hp, g, d, tk, os⟩ := s
    obtain ⟨hl, h⟩ := h
    have f1 := AutoSeq1.idx_int
    wp_walk using wpAny_loadPart' hl
    exact ⟨_, rfl, h⟩
theorem tuple_mul0 (l : Addr) (items : Array Value) (n : Nat) (dd : Option Addr) (sl : Array (Option Value)) (u : Tok) (c1 : items.isEmpty = false) :
    Meets (Builtin.«tuple.__mul__» ⟨[.ref l, .int 0 u], []⟩) (fun _ R s => s.heap.get? l = some { cls := .type "tuple", dict := dd, data := .seq items n, slots := sl } ∧
      R (.ok (.ret (Value.ref s.heap.objs.size))) { s with heap := s.heap.push { cls := Value.type "tuple", data := Data.seq #[] } }) :=
  .of_wp fun prog w A R s h => by
    obtain ⟨hp, g, d, tk, os⟩ := s
    obtain ⟨hl, h⟩ := h
    have f1 := AutoSeq1.idx_int
    wp_walk using wpAny_loadPart' hl
    repeat (first
      | (refine wpAny_ite_false (decide_eq_false (by rw [c1]; decide)) ?_; wp_walk using wpAny_loadPart' hl)
      | (refine wpAny_ite_true (decide_eq_true (by rw [c1]; decide)) ?_; wp_walk using wpAny_loadPart' hl))
    exact ⟨_, rfl, h⟩
def rRepA (K : PySem.W.Frag) : R2 := fun x y H Q => ∃ l k xs, x = .ref l ∧ y = .int k ∧ SqT K H l xs ∧ xs ≠ [] ∧ 0 ≤ k ∧ k ≤ 1000 ∧ xs.length ≤ 1000 ∧
  (k = 1 → Q (.ref l) H) ∧ (k ≠ 1 → ∀ p, H p = none → Q (.ref p) (upd H p (.tup (List.replicate k.toNat xs).flatten)))
theorem op_repA : OpR X (binaryOp .Mult) (rRepA X.K) := by
  intro pins s σ H x y v u Q I rx ry h
  obtain ⟨l, k, xs, rfl, rfl, hT, hne, h1, h2, hz, q1, q2⟩ := h
  by_cases hk : 2 ≤ k
  · exact op_repT pins s σ H _ _ v u Q I rx ry ⟨l, k, xs, rfl, rfl, hT, hne, hk, h2, hz, q2 (by omega)⟩
  cases rx
  obtain ⟨t, rfl⟩ := ry
  obtain ⟨its, r, ⟨⟨cls, dd, data, sl⟩, ho, hc, n, hd⟩, hs⟩ := I.tuple hT
  simp only at hc hd
  subst hc hd
  have hle : its.length = xs.length := r.length.symm
  have hn : its ≠ [] := fun e => hne (by
    rw [e] at hle
    exact List.eq_nil_of_length_eq_zero hle.symm)
  have hi : its.toArray.isEmpty = false := by
    cases its with
    | nil => exact absurd rfl hn
    | cons a b => rfl
  rcases (show k = 0 ∨ k = 1 by omega) with rfl | rfl
  · refine wpAny_binaryOp_repeat_ref (T := "tuple") (U := "int") (by decide) ⟨_, ho, rfl⟩ (fun s' => typeIs_int s' 0 t) noFill_tuple_mul F.fills_int_mul F.slot_int_rmul repeat_tuple F.slot_int_index.lookup
      (call_meets F.slot_int_rmul (typeIs_int s 0 t) F.entry_int_rmul (F.args_int_rmul_2 _ _) (int_rmul_tuple 0 t l its.toArray n dd sl)
        ⟨ho, rfl, ⟨_, ho, rfl⟩, call_meets F.slot_tuple_mul ⟨_, ho, rfl⟩ F.entry_tuple_mul (F.args_tuple_mul_2 _ _) (tuple_mul0 l its.toArray n dd sl t hi) ⟨ho, ?_⟩⟩)
    refine ⟨.ref s.heap.objs.size, _, I.laid (t' := s.toks) (o := .tup (List.replicate (0 : Int).toNat xs).flatten) (fun b ob q => Heap.get?_push_of_some _ q) (Nat.le_refl _) ?_, rfl, q2 (by decide) _ (I.hok.fresh (Nat.le_refl _))⟩
    exact ⟨Nat.zero_le _, [], .nil, IsTup.new _ _⟩
  · refine wpAny_binaryOp_repeat_ref (T := "tuple") (U := "int") (by decide) ⟨_, ho, rfl⟩ (fun s' => typeIs_int s' 1 t) noFill_tuple_mul F.fills_int_mul F.slot_int_rmul repeat_tuple F.slot_int_index.lookup
      (call_meets F.slot_int_rmul (typeIs_int s 1 t) F.entry_int_rmul (F.args_int_rmul_2 _ _) (int_rmul_tuple 1 t l its.toArray n dd sl)
        ⟨ho, rfl, ⟨_, ho, rfl⟩, call_meets F.slot_tuple_mul ⟨_, ho, rfl⟩ F.entry_tuple_mul (F.args_tuple_mul_2 _ _) (tuple_mul1 l its.toArray n dd sl t) ⟨ho, ?_⟩⟩)
    exact ⟨.ref l, H, I, rfl, q1 rfl⟩
end
end TT

/-! what stands for data in the heap; short rules -/
namespace TT
open PySem L2
/-! ### what stays: every object but lists -/
def Keep (H H' : Hp) : Prop := ∀ b o, (∀ xs, o ≠ .lst xs) → H b = some o → H' b = some o
theorem Keep.refl (H : Hp) : Keep H H := fun _ _ _ h => h
theorem Keep.trans {H H1 H2 : Hp} (a : Keep H H1) (b : Keep H1 H2) : Keep H H2 := fun c o n h => b c o n (a c o n h)
theorem _root_.L2.Same.keep {H H' : Hp} (s : Same H H') : Keep H H' := fun b o _ h => s b o h
theorem Keep.tup {H H' : Hp} (k : Keep H H') {t : Addr} {xs : List V} (h : H t = some (.tup xs)) : H' t = some (.tup xs) := k t _ (fun _ q => nomatch q) h
theorem Keep.ins {H H' : Hp} (k : Keep H H') {t C dx : Addr} {xs : List (Str × V)} (h : H t = some (.ins C dx xs)) : H' t = some (.ins C dx xs) := k t _ (fun _ q => nomatch q) h
theorem same_new {H : Hp} {p : Addr} {o : HO} (h : H p = none) : Same H (upd H p o) := fun b u e => by rw [upd_ne (ne_of_none e h)]; exact e
theorem same_own {H0 H : Hp} {p : Addr} {o : HO} (s : Same H0 H) (h : H0 p = none) : Same H0 (upd H p o) := fun b u e => by rw [upd_ne (ne_of_none e h)]; exact s b u e
theorem keep_lst {H : Hp} {p : Addr} {xs : List V} {o : HO} (h : H p = some (.lst xs)) : Keep H (upd H p o) := fun b u n e => by
  have : b ≠ p := fun q => by subst q; rw [h] at e; cases e; exact n _ rfl
  rw [upd_ne this]; exact e
/-- all but the list at g -/
def But (g : Addr) (H H' : Hp) : Prop := ∀ b o, b ≠ g → H b = some o → H' b = some o
theorem But.refl (g : Addr) (H : Hp) : But g H H := fun _ _ _ h => h
theorem But.trans {g : Addr} {H H1 H2 : Hp} (a : But g H H1) (b : But g H1 H2) : But g H H2 := fun c o n h => b c o n (a c o n h)
theorem _root_.L2.Same.but {H H' : Hp} (s : Same H H') (g : Addr) : But g H H' := fun b o _ h => s b o h
theorem But.keep {g : Addr} {H H' : Hp} (k : But g H H') {ys : List V} (hg : H g = some (.lst ys)) : Keep H H' := fun b o n h => by
  by_cases e : b = g
  · subst e; rw [hg] at h; cases h; exact absurd rfl (n _)
  · exact k b o e h
theorem But.free {g : Addr} {H H' : Hp} (k : But g H H') {p : Addr} (hp : H' p = none) (h : p ≠ g) : H p = none := by
  cases q : H p with
  | none => rfl
  | some o => rw [k p o h q] at hp; cases hp
theorem but_upd {g : Addr} {H : Hp} {o : HO} : But g H (upd H g o) := fun b u n e => by rw [upd_ne n]; exact e
/-! ### data -/
abbrev Rp (α : Type) := Hp → V → α → Prop
def Mono {α : Type} (R : Rp α) : Prop := ∀ H H' v x, Keep H H' → R H v x → R H' v x
def rInt : Rp Int := fun _ v n => v = .int n
def rRow : Rp (List Int) := fun H v l => ∃ t, v = .ref t ∧ H t = some (.tup (l.map V.int))
def rPI : Rp (Int × Int) := fun H v p => ∃ t, v = .ref t ∧ H t = some (.tup [.int p.1, .int p.2])
def rTup {α : Type} (R : Rp α) : Rp (List α) := fun H v l => ∃ t xs, v = .ref t ∧ H t = some (.tup xs) ∧ Paired (R H) xs l
theorem mono_int : Mono rInt := fun _ _ _ _ _ h => h
theorem mono_row : Mono rRow := fun _ _ _ _ k ⟨t, e, h⟩ => ⟨t, e, k.tup h⟩
theorem mono_pi : Mono rPI := fun _ _ _ _ k ⟨t, e, h⟩ => ⟨t, e, k.tup h⟩
theorem paired_mono {α : Type} {R : Rp α} (m : Mono R) {H H' : Hp} (k : Keep H H') {xs : List V} {l : List α} (p : Paired (R H) xs l) : Paired (R H') xs l := Paired.mapP p fun _ _ h => m _ _ _ _ k h
theorem mono_tup {α : Type} {R : Rp α} (m : Mono R) : Mono (rTup R) := fun _ _ _ _ k ⟨t, xs, e, h, p⟩ => ⟨t, xs, e, k.tup h, paired_mono m k p⟩
theorem paired_len {α β : Type} {F : α → β → Prop} : ∀ {xs : List α} {l : List β}, Paired F xs l → xs.length = l.length := Paired.length
theorem paired_get2 {α β : Type} {F : α → β → Prop} : ∀ {xs : List α} {l : List β} {i : Nat} {y : β}, Paired F xs l → l[i]? = some y → ∃ x, xs[i]? = some x ∧ F x y
  | _, _, _, _, .nil, e => by simp at e
  | _, _, 0, _, .cons r _, e => by simp at e; subst e; exact ⟨_, rfl, r⟩
  | _, _, i + 1, x, .cons _ t, e => by
    obtain ⟨u, h1, h2⟩ := paired_get2 (i := i) (y := x) t (by simpa using e)
    exact ⟨u, by simpa using h1, h2⟩
theorem paired_int : ∀ {xs : List V} {l : List Int} {H : Hp}, Paired (rInt H) xs l → xs = l.map V.int
  | _, _, _, .nil => rfl
  | _, _, _, .cons r t => by cases r; rw [List.map_cons, paired_int t]
theorem paired_ints {H : Hp} : ∀ (l : List Int), Paired (rInt H) (l.map V.int) l
  | [] => .nil
  | _ :: r => .cons rfl (paired_ints r)
theorem paired_app {α β : Type} {F : α → β → Prop} : ∀ {xs : List α} {l : List β} {ys : List α} {m : List β}, Paired F xs l → Paired F ys m → Paired F (xs ++ ys) (l ++ m)
  | _, _, _, _, .nil, q => q
  | _, _, _, _, .cons r t, q => .cons r (paired_app t q)
theorem paired_perm {α β : Type} {F : α → β → Prop} : ∀ {ys xs : List α}, ys.Perm xs → ∀ {l : List β}, Paired F xs l → ∃ m, m.Perm l ∧ Paired F ys m := by
  intro ys xs h
  induction h with
  | nil => intro l p; cases p; exact ⟨[], .refl _, .nil⟩
  | cons x h ih => intro l p; cases p with | cons r t => obtain ⟨m, h1, h2⟩ := ih t; exact ⟨_ :: m, .cons _ h1, .cons r h2⟩
  | swap x y t => intro l p; cases p with | cons r1 p => cases p with | cons r2 p => exact ⟨_ :: _ :: _, .swap _ _ _, .cons r2 (.cons r1 p)⟩
  | trans h1 h2 ih1 ih2 => intro l p; obtain ⟨m, a, b⟩ := ih2 p; obtain ⟨m', c, d⟩ := ih1 b; exact ⟨m', c.trans a, d⟩
theorem seqt_row {K : PySem.W.Frag} {H : Hp} {t : Addr} {xs : List V} (h : H t = some (.tup xs)) : SqT K H t xs := .of h
theorem at_int {l : List Int} {i : Nat} {x : V} (h : (l.map V.int)[i]? = some x) : ∃ n, l[i]? = some n ∧ x = .int n := by
  rw [List.getElem?_map] at h
  cases e : l[i]? with
  | none => rw [e] at h; cases h
  | some n => rw [e] at h; exact ⟨n, rfl, (Option.some.inj h).symm⟩
theorem int_at {l : List Int} {i : Nat} {n : Int} (h : l[i]? = some n) : (l.map V.int)[i]? = some (.int n) := by rw [List.getElem?_map, h]; rfl
/-! ### short rules -/
section
variable {X : Cx}
theorem ty_int {p : Pos} (hm : X.mg "int" = none) (hg : Gl X "int" := by rfl) : PE X (.Name "int" p) (tC (.ty "int")) := pe_bltn hg hm (by decide +kernel) (u := .type "int") rfl
theorem ty_bool {p : Pos} (hm : X.mg "bool" = none) (hg : Gl X "bool" := by rfl) : PE X (.Name "bool" p) (tC (.ty "bool")) := pe_bltn hg hm (by decide +kernel) (u := .type "bool") rfl
theorem ty_tuple {p : Pos} (hm : X.mg "tuple" = none) (hg : Gl X "tuple" := by rfl) : PE X (.Name "tuple" p) (tC (.ty "tuple")) := pe_bltn hg hm (by decide +kernel) (u := .type "tuple") rfl
theorem ty_list {p : Pos} (hm : X.mg "list" = none) (hg : Gl X "list" := by rfl) : PE X (.Name "list" p) (tC (.ty "list")) := pe_bltn hg hm (by decide +kernel) (u := .type "list") rfl
end
section
variable {K : PySem.W.Frag}
theorem kit_ii : PySem.W.kitOne K (.type "int") (.type "int") = some true := kit_ty (by decide +kernel)
theorem kit_ib : PySem.W.kitOne K (.type "int") (.type "bool") = some false := kit_ty (by decide +kernel)
theorem kit_tt : PySem.W.kitOne K (.type "tuple") (.type "tuple") = some true := kit_ty (by decide +kernel)
end
/-! ### rules whose reading speaks of K, for the blocks of comprehensions -/
section
variable {X : Cx} {K : PySem.W.Frag}
theorem ixT (h : X.K = K) : IxR X (rIxT K) := h ▸ ix_tup
theorem ixL (h : X.K = K) : IxR X (rIxL K) := h ▸ ix_list
theorem inS (h : X.K = K) : OpR X (compareOp .In) (rIn K false) := h ▸ op_in_seq
theorem ninS (h : X.K = K) : OpR X (compareOp .NotIn) (rIn K true) := h ▸ op_notIn_seq
theorem lenS (h : X.K = K) : CallR X (.builtin "len") (fun xs H Q => ∃ p ys, xs = [.ref p] ∧ (SqL K H p ys ∨ SqT K H p ys) ∧ Q (.int ys.length) H) := h ▸ call_len_seq
theorem isiS (h : X.K = K) : CallR X (.builtin "isinstance") (rIsi K) := h ▸ call_isi
theorem piT {tg l : Expr} {tl : TE} (hh : X.K = K) (hl : PI X tg l (iTup X.K tl)) : PI X tg l (iTup K tl) := hh ▸ hl
theorem pgT {es : List Expr} {k : Nat} {t : TGs} {n : Nat} {pos : Pos} (hh : X.K = K) (hc : X.calm = true) (h : PGs X es t) (hn : (assignEach es X.env).length = n := by rfl) (hst : (assignEach es X.env).findIdx? (·.1) = none := by rfl) : PG X (.Tuple es k pos) (gTup K n t) := hh ▸ pg_tup hc h hn hst
theorem fldK {o : Expr} {ta : TE} {f : Str} {pos : Pos} (he : PE X o ta) (hh : X.K = K) (hb : attributeBase o f X.env (eval o X.env) = eval o X.env) : PE X (.Attribute o f pos) (tFld K ta f) := hh ▸ pe_fld he hb
theorem tupS (h : X.K = K) : CallR X (.type "tuple") (fun xs H Q => ∃ p ys, xs = [.ref p] ∧ ((SqL K H p ys ∧ ∀ l, H l = none → Q (.ref l) (upd H l (.tup ys))) ∨ (SqT K H p ys ∧ Q (.ref p) H))) := h ▸ call_tuple_of
end
/-! ### comprehensions -/
section
variable {J : It} {n : Nat} {G : Hp → Prop} {Y : Nat → Hp → V → Hp → Prop} {g : TG} {tt : TT} {te : TE} {vs : List Nat} {σ : St} {H1 : Hp} {D : Addr} {Qd : Hp → Prop} {α : Type}
theorem range_fm {f : Nat → Option α} {i : Nat} : (List.range (i + 1)).filterMap f = (List.range i).filterMap f ++ (f i).toList := by
  rw [List.range_succ, List.filterMap_append]
  congr 1
theorem fm_len {f : Nat → Option α} {i : Nat} : ((List.range i).filterMap f).length ≤ i := by
  have := List.length_filterMap_le f (List.range i)
  rw [List.length_range] at this
  exact this
/-- the list at D holds what f tells of the turns so far, all else stays -/
def PvFm (R : Rp α) (f : Nat → Option α) (D : Addr) (H1 : Hp) (i : Nat) (H : Hp) : Prop := Same H1 H ∧ ∃ xs, H D = some (.lst xs) ∧ Paired (R H) xs ((List.range i).filterMap f)
theorem fm_keep {R : Rp α} (m : Mono R) {f : Nat → Option α} {i : Nat} {H H4 : Hp} {y : V} {a : α} (p : PvFm R f D H1 i H) (hD : H1 D = none) (hi : i ≤ 100000) (s4 : Same H H4) (ea : f i = some a) (ra : R H4 y a) :
    ∃ acc, H4 D = some (.lst acc) ∧ acc.length < sizeLine ∧ PvFm R f D H1 (i + 1) (upd H4 D (.lst (acc ++ [y]))) := by
  obtain ⟨s, xs, h1, h2⟩ := p
  have hl : xs.length ≤ i := by rw [paired_len h2]; exact fm_len
  have hD4 : H4 D = some (.lst xs) := s4 _ _ h1
  have k5 : Keep H4 (upd H4 D (.lst (xs ++ [y]))) := keep_lst hD4
  refine ⟨xs, hD4, Nat.lt_of_le_of_lt (Nat.le_trans hl hi) (by decide), same_own (s.trans s4) hD, xs ++ [y], upd_same, ?_⟩
  rw [range_fm, ea]
  exact paired_app (paired_mono m k5 (paired_mono m s4.keep h2)) (.cons (m _ _ _ _ k5 ra) .nil)
theorem fm_skip {R : Rp α} (m : Mono R) {f : Nat → Option α} {i : Nat} {H H3 : Hp} (p : PvFm R f D H1 i H) (s3 : Same H H3) (e : f i = none) : PvFm R f D H1 (i + 1) H3 := by
  obtain ⟨s, xs, h1, h2⟩ := p
  refine ⟨s.trans s3, xs, s3 _ _ h1, ?_⟩
  rw [range_fm, e]
  simpa using paired_mono m s3.keep h2
/-- a comprehension that makes a list of what f tells, all else staying -/
theorem lc_fm (w : Walk J n G Y) (R : Rp α) (f : Nat → Option α) (hD : H1 D = none) (hG : ∀ H, Same H1 H → G H)
    (hs : ∀ i x H H', i < n → PvFm R f D H1 i H → Y i H x H' → g x (wipe σ vs) H' fun σ2 H2 => wipe σ2 vs = wipe σ vs ∧ tt σ2 H2 fun b H3 =>
      if b = true then te σ2 H3 fun y H4 => ∃ acc, H4 D = some (.lst acc) ∧ acc.length < sizeLine ∧ PvFm R f D H1 (i + 1) (upd H4 D (.lst (acc ++ [y]))) else PvFm R f D H1 (i + 1) H3)
    (hd : ∀ H xs, Same H1 H → H D = some (.lst xs) → Paired (R H) xs ((List.range n).filterMap f) → Qd H) :
    ∃ W : Nat → Nat → Hp → Prop, (∃ m, W 0 m (upd H1 D (.lst []))) ∧ ∀ i m H, W i m H →
      (J.stop i H ∧ Qd H) ∨ (J.go i H ∧ ∃ Nx : Hp → Prop, (∀ H', Nx H' → ∃ m', m' < m ∧ W (i + 1) m' H') ∧ ∀ x H', J.yld i H x H' → g x (wipe σ vs) H' fun σ2 H2 => wipe σ2 vs = wipe σ vs ∧ tt σ2 H2 fun b H3 =>
        if b = true then te σ2 H3 fun y H4 => ∃ acc, H4 D = some (.lst acc) ∧ acc.length < sizeLine ∧ Nx (upd H4 D (.lst (acc ++ [y]))) else Nx H3) :=
  lc_it w (PvFm R f D H1) ⟨same_new hD, [], upd_same, .nil⟩ (fun i H _ h => hG H h.1) hs (fun H ⟨s, xs, h1, h2⟩ => hd H xs s h1 h2)
theorem fm_all {β : Type} (h : Nat → β) : ∀ n : Nat, (List.range n).filterMap (fun i => some (h i)) = (List.range n).map h := fun n => by rw [List.filterMap_eq_map']
theorem fm_list {β : Type} (l : List α) (h : α → Option β) : (List.range l.length).filterMap (fun i => l[i]?.bind h) = l.filterMap h := by
  have e : ∀ (m : Nat), m ≤ l.length → (List.range m).filterMap (fun i => l[i]?.bind h) = (l.take m).filterMap h := by
    intro m
    induction m with
    | zero => intro _; rfl
    | succ m ih =>
      intro hm
      rw [range_fm, ih (by omega), List.take_succ, List.filterMap_append]
      congr 1
      have hl : l[m]? = some l[m] := List.getElem?_eq_getElem (by omega)
      rw [hl]
      show (h l[m]).toList = List.filterMap h [l[m]]
      rw [List.filterMap_cons]
      cases h l[m] <;> rfl
  have := e l.length (Nat.le_refl _)
  rwa [List.take_length] at this
end
/-! ### sorted(a list of pairs of ints), by what the pairs are -/
def lxLt (a b : Int × Int) : Prop := a.1 < b.1 ∨ (a.1 = b.1 ∧ a.2 < b.2)
instance (a b : Int × Int) : Decidable (lxLt a b) := by unfold lxLt; infer_instance
def lxLe (a b : Int × Int) : Prop := ¬ lxLt b a
noncomputable def kOf (H : Hp) (v : V) : Int × Int := open Classical in if h : ∃ z, rPI H v z then h.choose else (0, 0)
theorem kOf_eq {H : Hp} {v : V} {z : Int × Int} (h : rPI H v z) : kOf H v = z := by
  have hx : ∃ z, rPI H v z := ⟨z, h⟩
  have e : kOf H v = hx.choose := by unfold kOf; rw [dif_pos hx]
  rw [e]
  obtain ⟨t, e1, h1⟩ := hx.choose_spec
  obtain ⟨t', e2, h2⟩ := h
  rw [e1] at e2
  cases e2
  rw [h1] at h2
  have h3 := Option.some.inj h2
  injection h3 with h3
  injection h3 with a b
  injection b with b _
  exact Prod.ext (V.int.inj a) (V.int.inj b)
theorem kOf_map {H : Hp} : ∀ {xs : List V} {l : List (Int × Int)}, Paired (rPI H) xs l → xs.map (kOf H) = l
  | _, _, .nil => rfl
  | _, _, .cons r t => by rw [List.map_cons, kOf_eq r, kOf_map t]
theorem paired_kOf {H : Hp} : ∀ {ys : List V}, (∀ y ∈ ys, rPI H y (kOf H y)) → Paired (rPI H) ys (ys.map (kOf H))
  | [], _ => .nil
  | y :: ys, h => .cons (h y (by simp)) (paired_kOf fun z hz => h z (by simp [hz]))
theorem paired_mem {α β : Type} {F : α → β → Prop} : ∀ {xs : List α} {l : List β} {x : α}, Paired F xs l → x ∈ xs → ∃ y ∈ l, F x y
  | _, _, _, .nil, h => by simp at h
  | _, _, _, .cons r t, h => by
    rcases List.mem_cons.mp h with rfl | h
    · exact ⟨_, by simp, r⟩
    · obtain ⟨y, hy, f⟩ := paired_mem t h
      exact ⟨y, by simp [hy], f⟩
def rSortedPD (K : PySem.W.Frag) : List V → Hp → VK → Prop := fun vs H Q => ∃ (a : Addr) (xs : List V) (l : List (Int × Int)), vs = [V.ref a] ∧ SqL K H a xs ∧ Paired (rPI H) xs l ∧
  ∀ ys m p, Paired (rPI H) ys m → m.Perm l → m.Pairwise lxLe → H p = none → Q (.ref p) (upd H p (.lst ys))
theorem cr_sortedPD {X : Cx} : CallR X (.builtin "sorted") (rSortedPD X.K) := by
  intro pins s σ H vs us Q I r h
  obtain ⟨a, xs, l, rfl, hs, hp, q⟩ := h
  refine cr_sortedPO pins s σ H _ us Q I r ⟨a, xs, kOf H, rfl, hs, fun x hx => ?_, fun ys p h1 h2 np => ?_⟩
  · obtain ⟨z, _, hz⟩ := paired_mem hp hx
    rw [kOf_eq hz]
    exact hz
  · refine q ys (ys.map (kOf H)) p (paired_kOf fun y hy => ?_) ?_ ?_ np
    · obtain ⟨z, _, hz⟩ := paired_mem hp (h2.perm.mem_iff.mp hy)
      rw [kOf_eq hz]
      exact hz
    · rw [← kOf_map hp]
      exact h2.perm.map _
    · rw [List.pairwise_map]
      exact h1.imp fun {a b} h q => by
        have := SrtO.lexB_iff.mpr q
        rw [show ltP (kOf H) b a = true from this] at h
        cases h
theorem lxLt_tri (a b : Int × Int) : lxLt a b ∨ a = b ∨ lxLt b a := by
  unfold lxLt
  by_cases h1 : a.1 = b.1
  · by_cases h2 : a.2 = b.2
    · exact .inr (.inl (Prod.ext h1 h2))
    · omega
  · omega
theorem lxLe_antisymm {a b : Int × Int} (h1 : lxLe a b) (h2 : lxLe b a) : a = b := by
  rcases lxLt_tri a b with h | h | h
  · exact absurd h h2
  · exact h
  · exact absurd h h1
theorem lxLe_trans {a b c : Int × Int} (h1 : lxLe a b) (h2 : lxLe b c) : lxLe a c := by
  unfold lxLe lxLt at *
  omega
/-- two ascending lists of the same pairs are one -/
theorem lex_same : ∀ {l m : List (Int × Int)}, l.Perm m → l.Pairwise lxLe → m.Pairwise lxLe → l = m := fun {l m} h h1 h2 =>
  h.eq_of_pairwise (fun a b _ _ p q => lxLe_antisymm p q) h1 h2
theorem up_same : ∀ {l m : List Int}, l.Perm m → l.Pairwise (· ≤ ·) → m.Pairwise (· ≤ ·) → l = m := fun {l m} h h1 h2 =>
  h.eq_of_pairwise (fun a b _ _ p q => Int.le_antisymm p q) h1 h2
/-- ascending, none twice -/
theorem lex_strict {l : List (Int × Int)} (h1 : l.Pairwise lxLe) (h2 : l.Nodup) : l.Pairwise lxLt := by
  have := List.pairwise_and_iff.mpr ⟨h1, h2⟩
  exact this.imp fun {a b} ⟨p, q⟩ => by
    rcases lxLt_tri a b with h | h | h
    · exact h
    · exact absurd h q
    · exact absurd h p
/-! ### a walk, whatever its turn asks; comprehensions with two loops -/
section
variable {J : It} {n : Nat} {G : Hp → Prop} {Y : Nat → Hp → V → Hp → Prop} {H0 H1 : Hp} {D : Addr} {Qd : Hp → Prop} {α : Type}
theorem walk_W (w : Walk J n G Y) (B : (Hp → Prop) → V → Hp → Prop) (Pv : Nat → Hp → Prop) (h0 : Pv 0 H0) (hG : ∀ i H, i ≤ n → Pv i H → G H)
    (hs : ∀ i x H H', i < n → Pv i H → Y i H x H' → B (Pv (i + 1)) x H') (hd : ∀ H, Pv n H → Qd H) :
    ∃ W : Nat → Nat → Hp → Prop, (∃ m, W 0 m H0) ∧ ∀ i m H, W i m H →
      (J.stop i H ∧ Qd H) ∨ (J.go i H ∧ ∃ Nx : Hp → Prop, (∀ H', Nx H' → ∃ m', m' < m ∧ W (i + 1) m' H') ∧ ∀ x H', J.yld i H x H' → B Nx x H') := by
  refine ⟨fun i m H => m = n - i ∧ i ≤ n ∧ Pv i H, ⟨n, by simp, Nat.zero_le _, h0⟩, ?_⟩
  rintro i m H ⟨rfl, hi, p⟩
  have q := hG i H hi p
  by_cases hlt : i < n
  · exact .inr ⟨w.goes i H hlt q, Pv (i + 1), fun H' p' => ⟨n - (i + 1), by omega, rfl, hlt, p'⟩, fun x H' y => hs i x H H' hlt p (w.yields i H x H' hlt q y)⟩
  · have e : i = n := by omega
    subst e
    exact .inl ⟨w.stops H q, hd H p⟩
/-- the list at D holds what the turns of the outer loop have told -/
def PvFl (R : Rp α) (F : Nat → List α) (D : Addr) (H1 : Hp) (i : Nat) (H : Hp) : Prop := Same H1 H ∧ ∃ xs, H D = some (.lst xs) ∧ Paired (R H) xs ((List.range i).flatMap F)
/-- within a turn: the first j of l have come -/
def PvIn (R : Rp α) (pre l : List α) (D : Addr) (H1 Hb : Hp) (j : Nat) (H : Hp) : Prop := Same H1 H ∧ Keep Hb H ∧ ∃ xs, H D = some (.lst xs) ∧ Paired (R H) xs (pre ++ l.take j)
theorem fl_start {R : Rp α} {F : Nat → List α} (hD : H1 D = none) : PvFl R F D H1 0 (upd H1 D (.lst [])) := ⟨same_new hD, [], upd_same, .nil⟩
theorem fl_in {R : Rp α} (m : Mono R) {F : Nat → List α} {i : Nat} {H H4 : Hp} (p : PvFl R F D H1 i H) (s : Same H H4) : PvIn R ((List.range i).flatMap F) (F i) D H1 H4 0 H4 := by
  obtain ⟨s1, xs, h1, h2⟩ := p
  refine ⟨s1.trans s, .refl _, xs, s _ _ h1, ?_⟩
  rw [List.take_zero, List.append_nil]
  exact paired_mono m s.keep h2
theorem in_keep {R : Rp α} (m : Mono R) {pre l : List α} {j : Nat} {H H4 Hb : Hp} {y : V} {a : α} (p : PvIn R pre l D H1 Hb j H) (hD : H1 D = none) (hz : pre.length + j ≤ 100000) (s4 : Same H H4) (ea : l[j]? = some a) (ra : R H4 y a) :
    ∃ acc, H4 D = some (.lst acc) ∧ acc.length < sizeLine ∧ PvIn R pre l D H1 Hb (j + 1) (upd H4 D (.lst (acc ++ [y]))) := by
  obtain ⟨s, kb, xs, h1, h2⟩ := p
  have hl : xs.length ≤ pre.length + j := by rw [paired_len h2, List.length_append, List.length_take]; omega
  have hD4 : H4 D = some (.lst xs) := s4 _ _ h1
  have k5 : Keep H4 (upd H4 D (.lst (xs ++ [y]))) := keep_lst hD4
  refine ⟨xs, hD4, Nat.lt_of_le_of_lt (Nat.le_trans hl hz) (by decide), same_own (s.trans s4) hD, (kb.trans s4.keep).trans k5, xs ++ [y], upd_same, ?_⟩
  rw [List.take_succ, ea, ← List.append_assoc]
  exact paired_app (paired_mono m k5 (paired_mono m s4.keep h2)) (.cons (m _ _ _ _ k5 ra) .nil)
theorem in_fl {R : Rp α} {F : Nat → List α} {i n : Nat} {H Hb : Hp} (hn : n = (F i).length) (p : PvIn R ((List.range i).flatMap F) (F i) D H1 Hb n H) : PvFl R F D H1 (i + 1) H := by
  obtain ⟨s, _, xs, h1, h2⟩ := p
  refine ⟨s, xs, h1, ?_⟩
  rw [hn, List.take_length] at h2
  rw [List.range_succ, List.flatMap_append, List.flatMap_singleton]
  exact h2
theorem fl_list {β : Type} (l : List β) (h : β → List α) : (List.range l.length).flatMap (fun i => (l[i]?.map h).getD []) = l.flatMap h := by
  have e : ∀ (m : Nat), m ≤ l.length → (List.range m).flatMap (fun i => (l[i]?.map h).getD []) = (l.take m).flatMap h := by
    intro m
    induction m with
    | zero => intro _; rfl
    | succ m ih =>
      intro hm
      have hl : l[m]? = some l[m] := List.getElem?_eq_getElem (by omega)
      rw [List.range_succ, List.flatMap_append, ih (by omega), List.take_succ, List.flatMap_append, hl, List.flatMap_singleton, hl]
      simp
  have := e l.length (Nat.le_refl _)
  rwa [List.take_length] at this
end
theorem rgV_int (a b : Int) : rgV a b = ((List.range (b - a).toNat).map fun (i : Nat) => a + (i : Int)).map V.int := by
  unfold rgV
  rw [List.map_map]
  rfl
theorem cutV_upto (xs : List V) (k : Nat) : cutV xs none (some (k : Int)) = xs.take k := by
  unfold cutV
  rw [HT.sIx_none, HT.sIx_nat, List.drop_zero, Nat.sub_zero]
  by_cases h : k ≤ xs.length
  · rw [Nat.min_eq_left h]
  · rw [Nat.min_eq_right (by omega), List.take_of_length_le (Nat.le_refl _), List.take_of_length_le (by omega)]
/-- t[:k] -/
theorem slice_upto {K : PySem.W.Frag} {H : Hp} {a : Addr} {xs : List V} {k : Nat} {Q : VK} (h : H a = some (.tup xs)) (q : ∀ H' p, Same H H' → H' p = some (.tup (xs.take k)) → Q (.ref p) H') : rSlA K (.ref a) none (some (k : Int)) H Q := by
  refine ⟨a, xs, rfl, .of h, fun e => q H a (.refl _) ?_, fun _ p np => ?_⟩
  · rw [HT.sIx_nat] at e
    rw [List.take_of_length_le (by omega)]
    exact h
  · rw [cutV_upto]
    exact q _ p (same_new np) upd_same
end TT

namespace S4
open PySem L2 TT
/-! ### the text by places -/
def top (i : Nat) : Stmt := PySem.Challenge.pw_sametolls_k20_whole_tidings_along_ways.main.body.getD i (.Pass ⟨0, 0, 0, 0⟩)
abbrev s_is_integer : Stmt := top 7
abbrev s_is_below : Stmt := top 8
abbrev s_is_pair : Stmt := top 9
abbrev s_is_row : Stmt := top 10
abbrev s_is_clock : Stmt := top 13
abbrev s_ladder_of : Stmt := top 14
abbrev s_kernel_of : Stmt := top 15
abbrev s_rungs_of : Stmt := top 16
abbrev s_cleared : Stmt := top 17
abbrev s_multiplied : Stmt := top 18
abbrev s_inverse : Stmt := top 19
abbrev s_first_place : Stmt := top 20
abbrev s_unit_rows : Stmt := top 21
abbrev s_check_ties : Stmt := top 25
abbrev s_is_tie : Stmt := top 26
abbrev s_tied : Stmt := top 27
abbrev s_this_side : Stmt := top 28
abbrev s_neighbours : Stmt := top 29
abbrev s_reached : Stmt := top 30
abbrev s_is_way : Stmt := top 31
abbrev s_are_counts : Stmt := top 35
abbrev s_own_places : Stmt := top 36
abbrev s_cut : Stmt := top 37
abbrev s_check_rules : Stmt := top 40
abbrev s_near_unknowns : Stmt := top 41
abbrev s_is_rule : Stmt := top 42
abbrev s_solution : Stmt := top 44
abbrev s_loose : Stmt := top 45
abbrev s_tidings : Stmt := top 46
abbrev s_told_at : Stmt := top 47
abbrev s_sure_values : Stmt := top 48
abbrev s_check_post : Stmt := top 49
abbrev s_every_post : Stmt := top 50
abbrev s_all_rules : Stmt := top 51
abbrev s_told_of : Stmt := top 52
abbrev s_law_hand : Stmt := top 54
abbrev s_law_draw : Stmt := top 55
abbrev s_law_any : Stmt := top 56
abbrev s_law_ties : Stmt := top 57
abbrev s_law_near : Stmt := top 58
abbrev s_law_ways : Stmt := top 59
abbrev s_law_this_side : Stmt := top 60
abbrev s_law_places : Stmt := top 61
abbrev s_law_dot : Stmt := top 62
abbrev s_law_inverse : Stmt := top 63
abbrev s_law_ladder : Stmt := top 64
abbrev s_law_all : Stmt := top 65
abbrev s_law_allowed : Stmt := top 66
abbrev s_law_row : Stmt := top 67
abbrev s_law_parts : Stmt := top 68
abbrev s_law_few : Stmt := top 69
abbrev s_law_great : Stmt := top 70
abbrev s_law_every : Stmt := top 71
abbrev s_law_made : Stmt := top 72
abbrev s_law_loose : Stmt := top 73
abbrev s_law_least : Stmt := top 74
abbrev s_law_left : Stmt := top 75
abbrev s_law_rows_of : Stmt := top 76
abbrev s_law_by_all : Stmt := top 77
abbrev s_law_due : Stmt := top 78
abbrev s_law_kept : Stmt := top 79
abbrev s_law_spread : Stmt := top 80
abbrev s_law_values : Stmt := top 81
abbrev s_law_right : Stmt := top 82
abbrev s_law : Stmt := top 83
abbrev s_BadTree : Stmt := inClass (top 4) 0
abbrev s_BadRules : Stmt := inClass (top 5) 0
abbrev s_Tree : Stmt := inClass (top 24) 0
abbrev s_Tree_eq : Stmt := inClass (top 24) 1
abbrev s_Rules : Stmt := inClass (top 39) 0
abbrev s_Rules_eq : Stmt := inClass (top 39) 1
abbrev N_is_integer : List Str := ["thing"]
theorem sc_is_integer : FnScope N_is_integer ["thing"] (defScope s_is_integer) := ⟨rfl, rfl, rfl, by decide +kernel, rfl, by decide +kernel, by decide +kernel⟩
abbrev N_is_below : List Str := ["thing", "end"]
theorem sc_is_below : FnScope N_is_below ["thing", "end"] (defScope s_is_below) := ⟨rfl, rfl, rfl, by decide +kernel, rfl, by decide +kernel, by decide +kernel⟩
abbrev N_is_pair : List Str := ["thing"]
theorem sc_is_pair : FnScope N_is_pair ["thing"] (defScope s_is_pair) := ⟨rfl, rfl, rfl, by decide +kernel, rfl, by decide +kernel, by decide +kernel⟩
abbrev N_is_row : List Str := ["thing", "p", "wide", "value"]
theorem sc_is_row : FnScope N_is_row ["thing", "p", "wide"] (defScope s_is_row) := ⟨rfl, rfl, rfl, by decide +kernel, rfl, by decide +kernel, by decide +kernel⟩
abbrev N_is_clock : List Str := ["thing", "factor"]
theorem sc_is_clock : FnScope N_is_clock ["thing"] (defScope s_is_clock) := ⟨rfl, rfl, rfl, by decide +kernel, rfl, by decide +kernel, by decide +kernel⟩
abbrev N_ladder_of : List Str := ["p", "wide", "rows", "rungs", "place"]
theorem sc_ladder_of : FnScope N_ladder_of ["p", "wide", "rows"] (defScope s_ladder_of) := ⟨rfl, rfl, rfl, by decide +kernel, rfl, by decide +kernel, by decide +kernel⟩
abbrev N_kernel_of : List Str := ["p", "wide", "rows", "rungs", "found", "place", "unit", "row", "first"]
theorem sc_kernel_of : FnScope N_kernel_of ["p", "wide", "rows"] (defScope s_kernel_of) := ⟨rfl, rfl, rfl, by decide +kernel, rfl, by decide +kernel, by decide +kernel⟩
abbrev N_rungs_of : List Str := ["p", "wide", "rows", "rungs", "news", "number", "row", "rest", "place", "rung", "other"]
theorem sc_rungs_of : FnScope N_rungs_of ["p", "wide", "rows"] (defScope s_rungs_of) := ⟨rfl, rfl, rfl, by decide +kernel, rfl, by decide +kernel, by decide +kernel⟩
abbrev N_cleared : List Str := ["p", "rungs", "row", "place", "factor", "value", "less"]
theorem sc_cleared : FnScope N_cleared ["p", "rungs", "row"] (defScope s_cleared) := ⟨rfl, rfl, rfl, by decide +kernel, rfl, by decide +kernel, by decide +kernel⟩
abbrev N_multiplied : List Str := ["p", "factor", "row", "value"]
theorem sc_multiplied : FnScope N_multiplied ["p", "factor", "row"] (defScope s_multiplied) := ⟨rfl, rfl, rfl, by decide +kernel, rfl, by decide +kernel, by decide +kernel⟩
abbrev N_inverse : List Str := ["p", "value", "ahead", "now", "before", "factor", "times"]
theorem sc_inverse : FnScope N_inverse ["p", "value"] (defScope s_inverse) := ⟨rfl, rfl, rfl, by decide +kernel, rfl, by decide +kernel, by decide +kernel⟩
abbrev N_first_place : List Str := ["row", "wide", "place"]
theorem sc_first_place : FnScope N_first_place ["row", "wide"] (defScope s_first_place) := ⟨rfl, rfl, rfl, by decide +kernel, rfl, by decide +kernel, by decide +kernel⟩
abbrev N_unit_rows : List Str := ["wide", "place"]
theorem sc_unit_rows : FnScope N_unit_rows ["wide"] (defScope s_unit_rows) := ⟨rfl, rfl, rfl, by decide +kernel, rfl, by decide +kernel, by decide +kernel⟩
abbrev N_check_ties : List Str := ["ties", "posts", "number", "tie"]
theorem sc_check_ties : FnScope N_check_ties ["ties"] (defScope s_check_ties) := ⟨rfl, rfl, rfl, by decide +kernel, rfl, by decide +kernel, by decide +kernel⟩
abbrev N_is_tie : List Str := ["thing", "posts", "post"]
theorem sc_is_tie : FnScope N_is_tie ["thing", "posts"] (defScope s_is_tie) := ⟨rfl, rfl, rfl, by decide +kernel, rfl, by decide +kernel, by decide +kernel⟩
abbrev N_tied : List Str := ["tree", "post"]
theorem sc_tied : FnScope N_tied ["tree", "post"] (defScope s_tied) := ⟨rfl, rfl, rfl, by decide +kernel, rfl, by decide +kernel, by decide +kernel⟩
abbrev N_this_side : List Str := ["tree", "way", "here", "there"]
theorem sc_this_side : FnScope N_this_side ["tree", "way"] (defScope s_this_side) := ⟨rfl, rfl, rfl, by decide +kernel, rfl, by decide +kernel, by decide +kernel⟩
abbrev N_neighbours : List Str := ["ties", "post", "tie"]
theorem sc_neighbours : FnScope N_neighbours ["ties", "post"] (defScope s_neighbours) := ⟨rfl, rfl, rfl, by decide +kernel, rfl, by decide +kernel, by decide +kernel⟩
abbrev N_reached : List Str := ["ties", "start", "barred", "found", "waiting", "here", "post"]
theorem sc_reached : FnScope N_reached ["ties", "start", "barred"] (defScope s_reached) := ⟨rfl, rfl, rfl, by decide +kernel, rfl, by decide +kernel, by decide +kernel⟩
abbrev N_is_way : List Str := ["tree", "thing", "post"]
theorem sc_is_way : FnScope N_is_way ["tree", "thing"] (defScope s_is_way) := ⟨rfl, rfl, rfl, by decide +kernel, rfl, by decide +kernel, by decide +kernel⟩
abbrev N_are_counts : List Str := ["tree", "thing", "count"]
theorem sc_are_counts : FnScope N_are_counts ["tree", "thing"] (defScope s_are_counts) := ⟨rfl, rfl, rfl, by decide +kernel, rfl, by decide +kernel, by decide +kernel⟩
abbrev N_own_places : List Str := ["counts", "post", "start"]
theorem sc_own_places : FnScope N_own_places ["counts", "post"] (defScope s_own_places) := ⟨rfl, rfl, rfl, by decide +kernel, rfl, by decide +kernel, by decide +kernel⟩
abbrev N_cut : List Str := ["row", "lot", "place"]
theorem sc_cut : FnScope N_cut ["row", "lot"] (defScope s_cut) := ⟨rfl, rfl, rfl, by decide +kernel, rfl, by decide +kernel, by decide +kernel⟩
abbrev N_check_rules : List Str := ["p", "tree", "unknowns", "rules", "own", "post", "near", "number", "rule"]
theorem sc_check_rules : FnScope N_check_rules ["p", "tree", "unknowns", "rules"] (defScope s_check_rules) := ⟨rfl, rfl, rfl, by decide +kernel, rfl, by decide +kernel, by decide +kernel⟩
abbrev N_near_unknowns : List Str := ["tree", "unknowns", "post", "near", "place"]
theorem sc_near_unknowns : FnScope N_near_unknowns ["tree", "unknowns", "post"] (defScope s_near_unknowns) := ⟨rfl, rfl, rfl, by decide +kernel, rfl, by decide +kernel, by decide +kernel⟩
abbrev N_is_rule : List Str := ["p", "wide", "near", "thing", "place", "value"]
theorem sc_is_rule : FnScope N_is_rule ["p", "wide", "near", "thing"] (defScope s_is_rule) := ⟨rfl, rfl, rfl, by decide +kernel, rfl, by decide +kernel, by decide +kernel⟩
abbrev N_solution : List Str := ["rules", "wide", "rungs", "found", "place"]
theorem sc_solution : FnScope N_solution ["rules"] (defScope s_solution) := ⟨rfl, rfl, rfl, by decide +kernel, rfl, by decide +kernel, by decide +kernel⟩
abbrev N_loose : List Str := ["rules", "wide", "row"]
theorem sc_loose : FnScope N_loose ["rules"] (defScope s_loose) := ⟨rfl, rfl, rfl, by decide +kernel, rfl, by decide +kernel, by decide +kernel⟩
abbrev N_tidings : List Str := ["rules", "way", "here", "there", "kept"]
theorem sc_tidings : FnScope N_tidings ["rules", "way"] (defScope s_tidings) := ⟨rfl, rfl, rfl, by decide +kernel, rfl, by decide +kernel, by decide +kernel⟩
abbrev N_told_at : List Str := ["rules", "post"]
theorem sc_told_at : FnScope N_told_at ["rules", "post"] (defScope s_told_at) := ⟨rfl, rfl, rfl, by decide +kernel, rfl, by decide +kernel, by decide +kernel⟩
abbrev N_sure_values : List Str := ["rules", "post", "found", "rows", "own", "row", "place"]
theorem sc_sure_values : FnScope N_sure_values ["rules", "post"] (defScope s_sure_values) := ⟨rfl, rfl, rfl, by decide +kernel, rfl, by decide +kernel, by decide +kernel⟩
abbrev N_check_post : List Str := ["rules", "post"]
theorem sc_check_post : FnScope N_check_post ["rules", "post"] (defScope s_check_post) := ⟨rfl, rfl, rfl, by decide +kernel, rfl, by decide +kernel, by decide +kernel⟩
abbrev N_every_post : List Str := ["rules"]
theorem sc_every_post : FnScope N_every_post ["rules"] (defScope s_every_post) := ⟨rfl, rfl, rfl, by decide +kernel, rfl, by decide +kernel, by decide +kernel⟩
abbrev N_all_rules : List Str := ["rules", "own", "row", "right"]
theorem sc_all_rules : FnScope N_all_rules ["rules"] (defScope s_all_rules) := ⟨rfl, rfl, rfl, by decide +kernel, rfl, by decide +kernel, by decide +kernel⟩
abbrev N_told_of : List Str := ["rules", "posts", "kept", "wide", "left", "order", "rows", "found", "place", "post", "row", "right"]
theorem sc_told_of : FnScope N_told_of ["rules", "posts", "kept"] (defScope s_told_of) := ⟨rfl, rfl, rfl, by decide +kernel, rfl, by decide +kernel, by decide +kernel⟩
abbrev N_law_hand : List Str := ["script", "cells", "cell"]
theorem sc_law_hand : FnScope N_law_hand ["script"] (defScope s_law_hand) := ⟨rfl, rfl, rfl, by decide +kernel, rfl, by decide +kernel, by decide +kernel⟩
abbrev N_law_draw : List Str := ["hand", "many", "cell", "digit", "number"]
theorem sc_law_draw : FnScope N_law_draw ["hand", "many"] (defScope s_law_draw) := ⟨rfl, rfl, rfl, by decide +kernel, rfl, by decide +kernel, by decide +kernel⟩
abbrev N_law_any : List Str := ["hand", "some"]
theorem sc_law_any : FnScope N_law_any ["hand", "some"] (defScope s_law_any) := ⟨rfl, rfl, rfl, by decide +kernel, rfl, by decide +kernel, by decide +kernel⟩
abbrev N_law_ties : List Str := ["hand", "most", "posts", "names", "left", "found", "post", "one", "other"]
theorem sc_law_ties : FnScope N_law_ties ["hand", "most"] (defScope s_law_ties) := ⟨rfl, rfl, rfl, by decide +kernel, rfl, by decide +kernel, by decide +kernel⟩
abbrev N_law_near : List Str := ["ties", "post", "one", "other"]
theorem sc_law_near : FnScope N_law_near ["ties", "post"] (defScope s_law_near) := ⟨rfl, rfl, rfl, by decide +kernel, rfl, by decide +kernel, by decide +kernel⟩
abbrev N_law_ways : List Str := ["ties", "one", "other"]
theorem sc_law_ways : FnScope N_law_ways ["ties"] (defScope s_law_ways) := ⟨rfl, rfl, rfl, by decide +kernel, rfl, by decide +kernel, by decide +kernel⟩
abbrev N_law_this_side : List Str := ["ties", "way", "found", "turn", "post", "near"]
theorem sc_law_this_side : FnScope N_law_this_side ["ties", "way"] (defScope s_law_this_side) := ⟨rfl, rfl, rfl, by decide +kernel, rfl, by decide +kernel, by decide +kernel⟩
abbrev N_law_places : List Str := ["unknowns", "post", "first"]
theorem sc_law_places : FnScope N_law_places ["unknowns", "post"] (defScope s_law_places) := ⟨rfl, rfl, rfl, by decide +kernel, rfl, by decide +kernel, by decide +kernel⟩
abbrev N_law_dot : List Str := ["p", "one", "other", "here", "there"]
theorem sc_law_dot : FnScope N_law_dot ["p", "one", "other"] (defScope s_law_dot) := ⟨rfl, rfl, rfl, by decide +kernel, rfl, by decide +kernel, by decide +kernel⟩
abbrev N_law_inverse : List Str := ["p", "value", "found", "times", "left", "turn"]
theorem sc_law_inverse : FnScope N_law_inverse ["p", "value"] (defScope s_law_inverse) := ⟨rfl, rfl, rfl, by decide +kernel, rfl, by decide +kernel, by decide +kernel⟩
abbrev N_law_ladder : List Str := ["p", "rows", "work", "top", "place", "at", "some", "inverse_v", "times", "row", "value", "own"]
theorem sc_law_ladder : FnScope N_law_ladder ["p", "rows"] (defScope s_law_ladder) := ⟨rfl, rfl, rfl, by decide +kernel, rfl, by decide +kernel, by decide +kernel⟩
abbrev N_law_all : List Str := ["p", "many", "found", "turn", "longer", "row", "value"]
theorem sc_law_all : FnScope N_law_all ["p", "many"] (defScope s_law_all) := ⟨rfl, rfl, rfl, by decide +kernel, rfl, by decide +kernel, by decide +kernel⟩
abbrev N_law_allowed : List Str := ["parts", "post", "found", "near"]
theorem sc_law_allowed : FnScope N_law_allowed ["parts", "post"] (defScope s_law_allowed) := ⟨rfl, rfl, rfl, by decide +kernel, rfl, by decide +kernel, by decide +kernel⟩
abbrev N_law_row : List Str := ["hand", "parts", "post", "row", "place"]
theorem sc_law_row : FnScope N_law_row ["hand", "parts", "post"] (defScope s_law_row) := ⟨rfl, rfl, rfl, by decide +kernel, rfl, by decide +kernel, by decide +kernel⟩
abbrev N_law_parts : List Str := ["hand", "p", "posts", "most", "rules", "ties", "left", "unknowns", "post", "parts", "hidden", "spoilt", "own", "turn", "row", "right", "place"]
theorem sc_law_parts : FnScope N_law_parts ["hand", "p", "posts", "most", "rules"] (defScope s_law_parts) := ⟨rfl, rfl, rfl, by decide +kernel, rfl, by decide +kernel, by decide +kernel⟩
abbrev N_law_few : List Str := ["hand", "p", "most"]
theorem sc_law_few : FnScope N_law_few ["hand"] (defScope s_law_few) := ⟨rfl, rfl, rfl, by decide +kernel, rfl, by decide +kernel, by decide +kernel⟩
abbrev N_law_great : List Str := ["hand", "p"]
theorem sc_law_great : FnScope N_law_great ["hand"] (defScope s_law_great) := ⟨rfl, rfl, rfl, by decide +kernel, rfl, by decide +kernel, by decide +kernel⟩
abbrev N_law_every : List Str := ["parts", "found", "post", "row", "right"]
theorem sc_law_every : FnScope N_law_every ["parts"] (defScope s_law_every) := ⟨rfl, rfl, rfl, by decide +kernel, rfl, by decide +kernel, by decide +kernel⟩
abbrev N_law_made : List Str := ["parts"]
theorem sc_law_made : FnScope N_law_made ["parts"] (defScope s_law_made) := ⟨rfl, rfl, rfl, by decide +kernel, rfl, by decide +kernel, by decide +kernel⟩
abbrev N_law_loose : List Str := ["p", "rows", "many", "steps", "row", "firsts", "found", "place", "first", "step", "at"]
theorem sc_law_loose : FnScope N_law_loose ["p", "rows", "many"] (defScope s_law_loose) := ⟨rfl, rfl, rfl, by decide +kernel, rfl, by decide +kernel, by decide +kernel⟩
abbrev N_law_least : List Str := ["p", "rows", "rights", "many", "found", "row", "step", "first", "times", "right", "at", "value", "own"]
theorem sc_law_least : FnScope N_law_least ["p", "rows", "rights", "many"] (defScope s_law_least) := ⟨rfl, rfl, rfl, by decide +kernel, rfl, by decide +kernel, by decide +kernel⟩
abbrev N_law_left : List Str := ["p", "rows", "kept", "others", "found", "step", "at", "row"]
theorem sc_law_left : FnScope N_law_left ["p", "rows", "kept"] (defScope s_law_left) := ⟨rfl, rfl, rfl, by decide +kernel, rfl, by decide +kernel, by decide +kernel⟩
abbrev N_law_rows_of : List Str := ["parts", "posts", "post", "row", "right"]
theorem sc_law_rows_of : FnScope N_law_rows_of ["parts", "posts"] (defScope s_law_rows_of) := ⟨rfl, rfl, rfl, by decide +kernel, rfl, by decide +kernel, by decide +kernel⟩
abbrev N_law_by_all : List Str := ["p", "rows", "kept", "found", "others", "times", "row", "at", "own"]
theorem sc_law_by_all : FnScope N_law_by_all ["p", "rows", "kept"] (defScope s_law_by_all) := ⟨rfl, rfl, rfl, by decide +kernel, rfl, by decide +kernel, by decide +kernel⟩
abbrev N_law_due : List Str := ["parts", "posts", "kept", "rows", "most"]
theorem sc_law_due : FnScope N_law_due ["parts", "posts", "kept"] (defScope s_law_due) := ⟨rfl, rfl, rfl, by decide +kernel, rfl, by decide +kernel, by decide +kernel⟩
abbrev N_law_kept : List Str := ["parts", "posts", "found", "post"]
theorem sc_law_kept : FnScope N_law_kept ["parts", "posts"] (defScope s_law_kept) := ⟨rfl, rfl, rfl, by decide +kernel, rfl, by decide +kernel, by decide +kernel⟩
abbrev N_law_spread : List Str := ["parts", "posts", "step", "row", "place", "value"]
theorem sc_law_spread : FnScope N_law_spread ["parts", "posts", "step"] (defScope s_law_spread) := ⟨rfl, rfl, rfl, by decide +kernel, rfl, by decide +kernel, by decide +kernel⟩
abbrev N_law_values : List Str := ["parts", "post", "p", "every", "many", "rows", "least", "ladder", "found", "place", "other", "row", "right"]
theorem sc_law_values : FnScope N_law_values ["parts", "post"] (defScope s_law_values) := ⟨rfl, rfl, rfl, by decide +kernel, rfl, by decide +kernel, by decide +kernel⟩
abbrev N_law_right : List Str := ["parts", "rules", "p", "ties", "told", "way", "post", "here", "every", "near", "there", "rows", "other", "posts", "step"]
theorem sc_law_right : FnScope N_law_right ["parts"] (defScope s_law_right) := ⟨rfl, rfl, rfl, by decide +kernel, rfl, by decide +kernel, by decide +kernel⟩
abbrev N_law : List Str := ["script", "hand", "turn"]
theorem sc_law : FnScope N_law ["script"] (defScope s_law) := ⟨rfl, rfl, rfl, by decide +kernel, rfl, by decide +kernel, by decide +kernel⟩
abbrev N_BadTree : List Str := ["self", "part"]
theorem sc_BadTree : FnScope N_BadTree ["self", "part"] (defScope s_BadTree) := ⟨rfl, rfl, rfl, by decide +kernel, rfl, by decide +kernel, by decide +kernel⟩
abbrev N_BadRules : List Str := ["self", "part"]
theorem sc_BadRules : FnScope N_BadRules ["self", "part"] (defScope s_BadRules) := ⟨rfl, rfl, rfl, by decide +kernel, rfl, by decide +kernel, by decide +kernel⟩
abbrev N_Tree : List Str := ["self", "ties"]
theorem sc_Tree : FnScope N_Tree ["self", "ties"] (defScope s_Tree) := ⟨rfl, rfl, rfl, by decide +kernel, rfl, by decide +kernel, by decide +kernel⟩
abbrev N_Tree_eq : List Str := ["self", "other"]
theorem sc_Tree_eq : FnScope N_Tree_eq ["self", "other"] (defScope s_Tree_eq) := ⟨rfl, rfl, rfl, by decide +kernel, rfl, by decide +kernel, by decide +kernel⟩
abbrev N_Rules : List Str := ["self", "p", "tree", "unknowns", "rules"]
theorem sc_Rules : FnScope N_Rules ["self", "p", "tree", "unknowns", "rules"] (defScope s_Rules) := ⟨rfl, rfl, rfl, by decide +kernel, rfl, by decide +kernel, by decide +kernel⟩
abbrev N_Rules_eq : List Str := ["self", "other"]
theorem sc_Rules_eq : FnScope N_Rules_eq ["self", "other"] (defScope s_Rules_eq) := ⟨rfl, rfl, rfl, by decide +kernel, rfl, by decide +kernel, by decide +kernel⟩
/-! ### the facts of the top -/
structure D (K : PySem.W.Frag) (mg : Str → Option Value) (x : Str) (st : Stmt) (ps : List Str) (f : Addr) (fd : FuncData) : Prop where
  F : Fun K x x st f fd
  b : Binds K fd ps []
  m : mg x = some (.ref f)
abbrev DE (K : PySem.W.Frag) (mg : Str → Option Value) (x : Str) (st : Stmt) (ps : List Str) : Prop := ∃ f fd, D K mg x st ps f fd
theorem DE.mk {K : PySem.W.Frag} {h : Heap} {mg : Str → Option Value} {x : Str} {st : Stmt} {ps : List Str} {f : Addr} {oc : Value} {od an : Option Addr} {osl : Array (Option Value)} {kV doc pm cdv ct : Value} (X : K.In h) (G : h.Ns mainGlobals mg)
    (hb : ∀ (kV doc pm : Value) (an : Option Addr) (cdv ct : Value) (us : List Value), us.length = ps.length → bindArgs (PySem.W.fnOf x x (defArgs st) (defBody st) (defScope st) .none kV doc pm an cdv ct) ⟨us, []⟩ = pure (ps.zip us))
    (a : PySem.W.nsIn K mainGlobals x = some (some (.ref f)))
    (l : K.lookup f = some ⟨oc, od, .func (PySem.W.fnOf x x (defArgs st) (defBody st) (defScope st) .none kV doc pm an cdv ct), osl⟩) (c : PySem.W.codeIn K cdv x = true) (k : PySem.W.keepIn K (.ref f) = true) : DE K mg x st ps :=
  ⟨f, _, fun_mk l c k, (fun_mk l c k).binds hb, PySem.W.mg_of X G a⟩
/-- a class with its __init__ -/
structure DC (K : PySem.W.Frag) (mg : Str → Option Value) (x : Str) (q : Str) (st : Stmt) (ps : List Str) (fl : List Str) (C f : Addr) (fd : FuncData) : Prop where
  F : Fun K "__init__" q st f fd
  b : Binds K fd ps []
  m : mg x = some (.ref C)
  mkf : Mk K C f
  cl : Cls K C
  na : ∀ y ∈ fl, NoAttr K C y
/-- the address of a class by its name -/
def adr (mg : Str → Option Value) (x : Str) : Addr := match mg x with
  | some (.ref a) => a
  | _ => 0
theorem adr_of {mg : Str → Option Value} {x : Str} {a : Addr} (h : mg x = some (.ref a)) : adr mg x = a := by unfold adr; rw [h]
/-- a method m of the class at C -/
structure DM (K : PySem.W.Frag) (m : Str) (q : Str) (st : Stmt) (ps : List Str) (C f : Addr) (fd : FuncData) : Prop where
  F : Fun K m q st f fd
  b : Binds K fd ps []
  fi : PySem.W.findIn K (.ref C) m = some (some (.ref f))
  fn : PySem.W.isFn K (.ref f) = true
/-- an exception class -/
structure EX (K : PySem.W.Frag) (mg : Str → Option Value) (x : Str) (C : Addr) : Prop where
  m : mg x = some (.ref C)
  kp : PySem.W.keepIn K (.ref C) = true
  ty : PySem.W.typeIn K (.ref C) = some (.type "type")
  ec : ExcC K C
  ve : PySem.W.kitOne K (.ref C) (.type "ValueError") = some true
/-- .. without an own __init__ -/
def EPl (K : PySem.W.Frag) (C : Addr) : Prop := PySem.W.excIn K C [.type "ValueError", .type "Exception", .type "BaseException", .type "object"] "ValueError.__new__" = true
/-- .. with one -/
structure EI (K : PySem.W.Frag) (q : Str) (st : Stmt) (ps : List Str) (fl : List Str) (C f : Addr) (fd : FuncData) : Prop where
  F : Fun K "__init__" q st f fd
  b : Binds K fd ps []
  oc : OexC K C
  iC : PySem.W.findIn K (.ref C) "__init__" = some (some (.ref f))
  tI : PySem.W.typeIn K (.ref f) = some (.type "function")
  no : ∀ y ∈ fl, PySem.W.findIn K (.ref C) y = some none
structure Tx (K : PySem.W.Frag) (mg : Str → Option Value) (cT cS : Addr) : Prop where
  b_abs : mg "abs" = none
  b_all : mg "all" = none
  b_any : mg "any" = none
  b_bool : mg "bool" = none
  b_enumerate : mg "enumerate" = none
  b_int : mg "int" = none
  b_isinstance : mg "isinstance" = none
  b_len : mg "len" = none
  b_list : mg "list" = none
  b_max : mg "max" = none
  b_min : mg "min" = none
  b_range : mg "range" = none
  b_sorted : mg "sorted" = none
  b_sum : mg "sum" = none
  b_tuple : mg "tuple" = none
  b_zip : mg "zip" = none
  c_MOST_HOURS : ∃ t, mg "MOST_HOURS" = some (.int 1000000 t)
  c_MOST_TIES : ∃ t, mg "MOST_TIES" = some (.int 23 t)
  c_MOST_AT_POST : ∃ t, mg "MOST_AT_POST" = some (.int 8 t)
  c_MOST_IN_ALL : ∃ t, mg "MOST_IN_ALL" = some (.int 60 t)
  d_is_integer : DE K mg "is_integer" s_is_integer ["thing"]
  d_is_below : DE K mg "is_below" s_is_below ["thing", "end"]
  d_is_pair : DE K mg "is_pair" s_is_pair ["thing"]
  d_is_row : DE K mg "is_row" s_is_row ["thing", "p", "wide"]
  d_is_clock : DE K mg "is_clock" s_is_clock ["thing"]
  d_ladder_of : DE K mg "ladder_of" s_ladder_of ["p", "wide", "rows"]
  d_kernel_of : DE K mg "kernel_of" s_kernel_of ["p", "wide", "rows"]
  d_rungs_of : DE K mg "rungs_of" s_rungs_of ["p", "wide", "rows"]
  d_cleared : DE K mg "cleared" s_cleared ["p", "rungs", "row"]
  d_multiplied : DE K mg "multiplied" s_multiplied ["p", "factor", "row"]
  d_inverse : DE K mg "inverse" s_inverse ["p", "value"]
  d_first_place : DE K mg "first_place" s_first_place ["row", "wide"]
  d_unit_rows : DE K mg "unit_rows" s_unit_rows ["wide"]
  d_check_ties : DE K mg "check_ties" s_check_ties ["ties"]
  d_is_tie : DE K mg "is_tie" s_is_tie ["thing", "posts"]
  d_tied : DE K mg "tied" s_tied ["tree", "post"]
  d_this_side : DE K mg "this_side" s_this_side ["tree", "way"]
  d_neighbours : DE K mg "neighbours" s_neighbours ["ties", "post"]
  d_reached : DE K mg "reached" s_reached ["ties", "start", "barred"]
  d_is_way : DE K mg "is_way" s_is_way ["tree", "thing"]
  d_are_counts : DE K mg "are_counts" s_are_counts ["tree", "thing"]
  d_own_places : DE K mg "own_places" s_own_places ["counts", "post"]
  d_cut : DE K mg "cut" s_cut ["row", "lot"]
  d_check_rules : DE K mg "check_rules" s_check_rules ["p", "tree", "unknowns", "rules"]
  d_near_unknowns : DE K mg "near_unknowns" s_near_unknowns ["tree", "unknowns", "post"]
  d_is_rule : DE K mg "is_rule" s_is_rule ["p", "wide", "near", "thing"]
  d_solution : DE K mg "solution" s_solution ["rules"]
  d_loose : DE K mg "loose" s_loose ["rules"]
  d_tidings : DE K mg "tidings" s_tidings ["rules", "way"]
  d_told_at : DE K mg "told_at" s_told_at ["rules", "post"]
  d_sure_values : DE K mg "sure_values" s_sure_values ["rules", "post"]
  d_check_post : DE K mg "check_post" s_check_post ["rules", "post"]
  d_every_post : DE K mg "every_post" s_every_post ["rules"]
  d_all_rules : DE K mg "all_rules" s_all_rules ["rules"]
  d_told_of : DE K mg "told_of" s_told_of ["rules", "posts", "kept"]
  d_law_hand : DE K mg "_law_hand" s_law_hand ["script"]
  d_law_draw : DE K mg "_law_draw" s_law_draw ["hand", "many"]
  d_law_any : DE K mg "_law_any" s_law_any ["hand", "some"]
  d_law_ties : DE K mg "_law_ties" s_law_ties ["hand", "most"]
  d_law_near : DE K mg "_law_near" s_law_near ["ties", "post"]
  d_law_ways : DE K mg "_law_ways" s_law_ways ["ties"]
  d_law_this_side : DE K mg "_law_this_side" s_law_this_side ["ties", "way"]
  d_law_places : DE K mg "_law_places" s_law_places ["unknowns", "post"]
  d_law_dot : DE K mg "_law_dot" s_law_dot ["p", "one", "other"]
  d_law_inverse : DE K mg "_law_inverse" s_law_inverse ["p", "value"]
  d_law_ladder : DE K mg "_law_ladder" s_law_ladder ["p", "rows"]
  d_law_all : DE K mg "_law_all" s_law_all ["p", "many"]
  d_law_allowed : DE K mg "_law_allowed" s_law_allowed ["parts", "post"]
  d_law_row : DE K mg "_law_row" s_law_row ["hand", "parts", "post"]
  d_law_parts : DE K mg "_law_parts" s_law_parts ["hand", "p", "posts", "most", "rules"]
  d_law_few : DE K mg "_law_few" s_law_few ["hand"]
  d_law_great : DE K mg "_law_great" s_law_great ["hand"]
  d_law_every : DE K mg "_law_every" s_law_every ["parts"]
  d_law_made : DE K mg "_law_made" s_law_made ["parts"]
  d_law_loose : DE K mg "_law_loose" s_law_loose ["p", "rows", "many"]
  d_law_least : DE K mg "_law_least" s_law_least ["p", "rows", "rights", "many"]
  d_law_left : DE K mg "_law_left" s_law_left ["p", "rows", "kept"]
  d_law_rows_of : DE K mg "_law_rows_of" s_law_rows_of ["parts", "posts"]
  d_law_by_all : DE K mg "_law_by_all" s_law_by_all ["p", "rows", "kept"]
  d_law_due : DE K mg "_law_due" s_law_due ["parts", "posts", "kept"]
  d_law_kept : DE K mg "_law_kept" s_law_kept ["parts", "posts"]
  d_law_spread : DE K mg "_law_spread" s_law_spread ["parts", "posts", "step"]
  d_law_values : DE K mg "_law_values" s_law_values ["parts", "post"]
  d_law_right : DE K mg "_law_right" s_law_right ["parts"]
  d_law : DE K mg "law" s_law ["script"]
  k_Tree : ∃ f fd, DC K mg "Tree" "Tree.__init__" s_Tree ["self", "ties"] ["ties", "posts"] cT f fd
  i_Tree : C8.InsC K cT
  t_Tree : PySem.W.typeIn K (.ref cT) = some (.type "type")
  m_Tree_eq : ∃ f fd, DM K "__eq__" "Tree.__eq__" s_Tree_eq ["self", "other"] cT f fd
  u_ne_Tree : PySem.W.findIn K (.ref cT) "__ne__" = some (some (.builtin "object.__ne__"))
  k_Rules : ∃ f fd, DC K mg "Rules" "Rules.__init__" s_Rules ["self", "p", "tree", "unknowns", "rules"] ["p", "tree", "unknowns", "rules"] (adr mg "Rules") f fd
  i_Rules : C8.InsC K (adr mg "Rules")
  t_Rules : PySem.W.typeIn K (.ref (adr mg "Rules")) = some (.type "type")
  m_Rules_eq : ∃ f fd, DM K "__eq__" "Rules.__eq__" s_Rules_eq ["self", "other"] (adr mg "Rules") f fd
  u_ne_Rules : PySem.W.findIn K (.ref (adr mg "Rules")) "__ne__" = some (some (.builtin "object.__ne__"))
  e_TollError : EX K mg "TollError" (adr mg "TollError")
  p_TollError : EPl K (adr mg "TollError")
  e_NoPost : EX K mg "NoPost" (adr mg "NoPost")
  p_NoPost : EPl K (adr mg "NoPost")
  e_NoWay : EX K mg "NoWay" (adr mg "NoWay")
  p_NoWay : EPl K (adr mg "NoWay")
  e_BadTree : EX K mg "BadTree" (adr mg "BadTree")
  n_BadTree : ∃ f fd, EI K "BadTree.__init__" s_BadTree ["self", "part"] ["part"] (adr mg "BadTree") f fd
  e_BadRules : EX K mg "BadRules" (adr mg "BadRules")
  n_BadRules : ∃ f fd, EI K "BadRules.__init__" s_BadRules ["self", "part"] ["part"] (adr mg "BadRules") f fd
  u_TollError_TollError : PySem.W.subIn K (.ref (adr mg "TollError")) (.ref (adr mg "TollError")) = some true
  u_TollError_NoPost : PySem.W.subIn K (.ref (adr mg "TollError")) (.ref (adr mg "NoPost")) = some false
  u_TollError_NoWay : PySem.W.subIn K (.ref (adr mg "TollError")) (.ref (adr mg "NoWay")) = some false
  u_TollError_BadTree : PySem.W.subIn K (.ref (adr mg "TollError")) (.ref (adr mg "BadTree")) = some false
  u_TollError_BadRules : PySem.W.subIn K (.ref (adr mg "TollError")) (.ref (adr mg "BadRules")) = some false
  u_NoPost_TollError : PySem.W.subIn K (.ref (adr mg "NoPost")) (.ref (adr mg "TollError")) = some true
  u_NoPost_NoPost : PySem.W.subIn K (.ref (adr mg "NoPost")) (.ref (adr mg "NoPost")) = some true
  u_NoPost_NoWay : PySem.W.subIn K (.ref (adr mg "NoPost")) (.ref (adr mg "NoWay")) = some false
  u_NoPost_BadTree : PySem.W.subIn K (.ref (adr mg "NoPost")) (.ref (adr mg "BadTree")) = some false
  u_NoPost_BadRules : PySem.W.subIn K (.ref (adr mg "NoPost")) (.ref (adr mg "BadRules")) = some false
  u_NoWay_TollError : PySem.W.subIn K (.ref (adr mg "NoWay")) (.ref (adr mg "TollError")) = some true
  u_NoWay_NoPost : PySem.W.subIn K (.ref (adr mg "NoWay")) (.ref (adr mg "NoPost")) = some false
  u_NoWay_NoWay : PySem.W.subIn K (.ref (adr mg "NoWay")) (.ref (adr mg "NoWay")) = some true
  u_NoWay_BadTree : PySem.W.subIn K (.ref (adr mg "NoWay")) (.ref (adr mg "BadTree")) = some false
  u_NoWay_BadRules : PySem.W.subIn K (.ref (adr mg "NoWay")) (.ref (adr mg "BadRules")) = some false
  u_BadTree_TollError : PySem.W.subIn K (.ref (adr mg "BadTree")) (.ref (adr mg "TollError")) = some true
  u_BadTree_NoPost : PySem.W.subIn K (.ref (adr mg "BadTree")) (.ref (adr mg "NoPost")) = some false
  u_BadTree_NoWay : PySem.W.subIn K (.ref (adr mg "BadTree")) (.ref (adr mg "NoWay")) = some false
  u_BadTree_BadTree : PySem.W.subIn K (.ref (adr mg "BadTree")) (.ref (adr mg "BadTree")) = some true
  u_BadTree_BadRules : PySem.W.subIn K (.ref (adr mg "BadTree")) (.ref (adr mg "BadRules")) = some false
  u_BadRules_TollError : PySem.W.subIn K (.ref (adr mg "BadRules")) (.ref (adr mg "TollError")) = some true
  u_BadRules_NoPost : PySem.W.subIn K (.ref (adr mg "BadRules")) (.ref (adr mg "NoPost")) = some false
  u_BadRules_NoWay : PySem.W.subIn K (.ref (adr mg "BadRules")) (.ref (adr mg "NoWay")) = some false
  u_BadRules_BadTree : PySem.W.subIn K (.ref (adr mg "BadRules")) (.ref (adr mg "BadTree")) = some false
  u_BadRules_BadRules : PySem.W.subIn K (.ref (adr mg "BadRules")) (.ref (adr mg "BadRules")) = some true
  b_ValueError : mg "ValueError" = none
end S4

namespace S4
open PySem L2 TT
section
variable {P : Program} {w : World} {K : PySem.W.Frag} {mg : Str → Option Value} {base : Heap} {cT cS : Addr}
/-! ### kinds -/
def spIsInteger : Sp := fun vs H Q _ => ∃ (n : Int), vs = [.int n] ∧ Q (.bl true) H
theorem ok_is_integer (T : Tx K mg cT cS) {f : Addr} {fd : FuncData} (d : D K mg "is_integer" s_is_integer ["thing"] f fd) : FnOk P w K mg base CX0 1 f fd ["thing"] spIsInteger := by
  refine d.F.ok sc_is_integer (fun vs H Q E h => ?_) (fun cdv A outer s H vs Q E hr h => ?_)
  · obtain ⟨n, rfl, _⟩ := h
    rfl
  · obtain ⟨n, rfl, q⟩ := h
    refine ⟨_, pss_one (ps_ret (pe_and (pe_callB call_isi (by rfl) T.b_isinstance (by decide +kernel) (pa_cons (pv 0) (pa_cons (ty_int T.b_int) pa_nil)))
      (pe_one (pe_not (pe_callB call_isi (by rfl) T.b_isinstance (by decide +kernel) (pa_cons (pv 0) (pa_cons (ty_bool T.b_bool) pa_nil))))))), ?_⟩
    exact ⟨_, rfl, _, _, _, _, _, rfl, .ty _, .base (.int _), kit_ii, _, rfl, iteT ⟨_, rfl, _, _, _, _, _, rfl, .ty _, .base (.int _), kit_ib, _, rfl, q⟩⟩
def spIsBelow : Sp := fun vs H Q _ => ∃ (n e : Int), vs = [.int n, .int e] ∧ Q (.bl (decide (0 ≤ n ∧ n < e))) H
theorem ok_is_below (T : Tx K mg cT cS) {f : Addr} {fd : FuncData} (d : D K mg "is_below" s_is_below ["thing", "end"] f fd) : FnOk P w K mg base CX0 2 f fd ["thing", "end"] spIsBelow := by
  obtain ⟨f1, fd1, d1⟩ := T.d_is_integer
  have G1 : FnOk P w K mg base CX0 1 f1 fd1 ["thing"] spIsInteger := ok_is_integer T d1
  refine d.F.ok sc_is_below (fun vs H Q E h => ?_) (fun cdv A outer s H vs Q E hr h => ?_)
  · obtain ⟨n, e, rfl, _⟩ := h
    rfl
  · obtain ⟨n, e, rfl, q⟩ := h
    refine ⟨_, pss_one (ps_ret (pe_and (pe_call G1 hr rfl d1.m d1.F.kp d1.b .nil pass0 (pa_cons (pv 0) pa_nil)) (pe_one (pe_chain op_le op_lt pe_int (pv 0) (pv 1))))), ?_⟩
    refine ⟨_, rfl, n, rfl, _, rfl, iteT ⟨_, rfl, _, _, rfl, rfl, _, rfl, ?_⟩⟩
    by_cases h0 : 0 ≤ n
    · rw [decide_eq_true h0]
      refine iteT ⟨_, rfl, _, _, rfl, rfl, ?_⟩
      simpa [h0] using q
    · rw [decide_eq_false h0]
      refine iteF ?_
      simpa [h0] using q
def spIsPair : Sp := fun vs H Q _ => ∃ t x y, vs = [.ref t] ∧ H t = some (.tup [x, y]) ∧ Q (.bl true) H
theorem ok_is_pair (T : Tx K mg cT cS) {f : Addr} {fd : FuncData} (d : D K mg "is_pair" s_is_pair ["thing"] f fd) : FnOk P w K mg base CX0 1 f fd ["thing"] spIsPair := by
  refine d.F.ok sc_is_pair (fun vs H Q E h => ?_) (fun cdv A outer s H vs Q E hr h => ?_)
  · obtain ⟨t, x, y, rfl, _⟩ := h
    rfl
  · obtain ⟨t, x, y, rfl, ht, q⟩ := h
    refine ⟨_, pss_one (ps_ret (pe_and (pe_callB call_isi (by rfl) T.b_isinstance (by decide +kernel) (pa_cons (pv 0) (pa_cons (ty_tuple T.b_tuple) pa_nil)))
      (pe_one (pe_cmpR op_eq (pe_callB call_len_seq (by rfl) T.b_len PySem.boot_len (pa_cons (pv 0) pa_nil)) pe_int (nomark _))))), ?_⟩
    exact ⟨_, rfl, _, _, _, _, _, rfl, .ty _, .base (.tup ht), kit_tt, _, rfl, iteT ⟨_, rfl, _, _, rfl, .inr (.of ht), rfl, q⟩⟩
end
end S4

namespace S4
open PySem L2 TT
section
variable {P : Program} {w : World} {K : PySem.W.Frag} {mg : Str → Option Value} {base : Heap} {cT cS : Addr}
def isRow (l : List Int) (p : Int) (wd : Int) : Prop := (l.length : Int) = wd ∧ ∀ v ∈ l, 0 ≤ v ∧ v < p
/-- a row that is right -/
def spIsRow : Sp := fun vs H Q _ => ∃ (v : V) (l : List Int) (p wd : Int), vs = [v, .int p, .int wd] ∧ rRow H v l ∧ l.length ≤ 100000 ∧ isRow l p wd ∧ ∀ H', Same H H' → Q (.bl true) H'
theorem all_true : ∀ {bs : List Bool}, (∀ b ∈ bs, b = true) → bs.all id = true := fun {bs} h => by
  rw [List.all_eq_true]
  exact fun x hx => h x hx
def rBl : Rp Bool := fun _ v b => v = .bl b
theorem mono_bl : Mono rBl := fun _ _ _ _ _ h => h
theorem paired_bl {H : Hp} : ∀ {xs : List V} {l : List Bool}, Paired (rBl H) xs l → xs = l.map V.bl
  | _, _, .nil => rfl
  | _, _, .cons r t => by cases r; rw [List.map_cons, paired_bl t]
theorem ok_is_row (T : Tx K mg cT cS) {f : Addr} {fd : FuncData} (d : D K mg "is_row" s_is_row ["thing", "p", "wide"] f fd) : FnOk P w K mg base CX0 3 f fd ["thing", "p", "wide"] spIsRow := by
  obtain ⟨f1, fd1, d1⟩ := T.d_is_below
  have G1 : FnOk P w K mg base CX0 2 f1 fd1 ["thing", "end"] spIsBelow := ok_is_below T d1
  refine d.F.ok sc_is_row (fun vs H Q E h => ?_) (fun cdv A outer s H vs Q E hr h => ?_)
  · obtain ⟨v, l, p, wd, rfl, _⟩ := h
    rfl
  · obtain ⟨v, l, p, wd, rfl, ⟨t, rfl, ht⟩, hl, ⟨hw, hv⟩, q⟩ := h
    refine ⟨_, pss_cons (ps_if (PW.pt (pw_or (pt_not (pt_val (pe_callB call_isi (by rfl) T.b_isinstance (by decide +kernel) (pa_cons (pv 0) (pa_cons (ty_tuple T.b_tuple) pa_nil)))))
        (pw_or1 (pt_cmpR op_ne (pe_callB call_len_seq (by rfl) T.b_len PySem.boot_len (pa_cons (pv 0) pa_nil)) (pv 2) (nomark _))))) (pss_one (ps_ret pe_bl)) pss_nil)
      (pss_one (ps_ret (pe_callB (cr_all rfl) (by rfl) T.b_all (by decide +kernel) (pa_cons
        (pe_lc (own := [("value", 3)]) (g := gName 3) (tt := tYes) rfl sc_is_row.nd (pi_tup (pv 0)) (blkOk_by (N := N_is_row) (sc := defScope s_is_row) (by decide +kernel)) (fun _ _ _ _ _ => pg_name (i := 3) sc_is_row.nd rfl (Or.inl rfl)) (fun _ _ _ _ _ => pts_nil)
          (fun _ _ _ _ _ => pe_call G1 hr rfl d1.m d1.F.kp d1.b .nil pass0 (pa_cons (pv 3) (pa_cons (pv 1) pa_nil)))) pa_nil)))), ?_⟩
    refine ⟨_, rfl, _, _, _, _, _, rfl, .ty _, .base (.tup ht), kit_tt, _, rfl, iteF ?_⟩
    refine ⟨_, rfl, _, _, rfl, .inr (.of ht), _, rfl, rfl, _, rfl, ?_⟩
    have e1 : V.int (((l.map V.int).length : Nat) : Int) = V.int wd := by rw [List.length_map, hw]
    rw [e1, decide_eq_true rfl]
    refine iteF ⟨_, rfl, t, rfl, ⟨_, .of ht⟩, fun D hD => ?_⟩
    refine lc_fm (walk_tup (xs := l.map V.int)) rBl (fun _ => some true) hD (fun H' s' => .of (s'.keep.tup ht)) ?_ ?_
    · rintro i x H2 H3 hi pv ⟨rfl, hx⟩
      obtain ⟨n, hn, rfl⟩ := at_int hx
      rw [List.length_map] at hi
      obtain ⟨g1, g2⟩ := hv n (List.mem_of_getElem? hn)
      refine ⟨rfl, _, rfl, _, rfl, n, p, rfl, ?_⟩
      rw [decide_eq_true ⟨g1, g2⟩]
      exact fm_keep mono_bl pv hD (by omega) (Same.refl _) rfl rfl
    · intro H2 xs s2 hD2 hp
      have := paired_bl hp
      subst this
      refine ⟨_, _, rfl, .of hD2, ?_⟩
      rw [all_true fun b hb => by
        obtain ⟨_, _, e⟩ := List.mem_filterMap.mp hb
        exact (Option.some.inj e).symm]
      exact q _ s2
end
end S4

namespace S4
open PySem L2 TT
section
variable {P : Program} {w : World} {K : PySem.W.Frag} {mg : Str → Option Value} {base : Heap} {cT cS : Addr}
def NoDiv (n : Int) : Prop := 2 ≤ n ∧ n ≤ 1000000 ∧ ∀ k : Int, 2 ≤ k → k * k ≤ n → n % k ≠ 0
def spIsClock : Sp := fun vs H Q _ => ∃ (n : Int), vs = [.int n] ∧ NoDiv n ∧ Q (.bl true) H
theorem sq_small {f : Int} (h : 2 ≤ f) (h2 : f * f ≤ 1000000) : f ≤ 1000 := by
  by_cases q : f ≤ 1000
  · exact q
  · have a : 1001 * 1001 ≤ f * f := Int.mul_le_mul (by omega) (by omega) (by decide) (by omega)
    omega
theorem ok_is_clock (T : Tx K mg cT cS) {f : Addr} {fd : FuncData} (d : D K mg "is_clock" s_is_clock ["thing"] f fd) : FnOk P w K mg base CX0 2 f fd ["thing"] spIsClock := by
  obtain ⟨f1, fd1, d1⟩ := T.d_is_integer
  have G1 : FnOk P w K mg base CX0 1 f1 fd1 ["thing"] spIsInteger := ok_is_integer T d1
  obtain ⟨tk, hM⟩ := T.c_MOST_HOURS
  refine d.F.ok sc_is_clock (fun vs H Q E h => ?_) (fun cdv A outer s H vs Q E hr h => ?_)
  · obtain ⟨n, rfl, _⟩ := h
    rfl
  · obtain ⟨n, rfl, ⟨n2, n6, nd⟩, q⟩ := h
    refine ⟨_, pss_cons (ps_if (PW.pt (pw_or (pt_not (pt_val (pe_call G1 hr rfl d1.m d1.F.kp d1.b .nil pass0 (pa_cons (pv 0) pa_nil))))
        (pw_or1 (pt_not (pt_chain op_le op_le pe_int (pv 0) (pe_glob (v := .int 1000000) rfl hM ⟨_, rfl⟩)))))) (pss_one (ps_ret pe_bl)) pss_nil)
      (pss_cons (ps_set (i := 1) sc_is_clock.nd rfl (.inl rfl) pe_int)
      (pss_cons (ps_while PassesOwn.never (pt_cmpR op_le (pe_op op_mul (pv 1) (pv 1)) (pv 0) (nomark _))
        (pss_cons (ps_if (pt_cmpR op_eq (pe_op op_mod (pv 0) (pv 1)) pe_int (nomark _)) (pss_one (ps_ret pe_bl)) pss_nil)
          (pss_one (ps_aug (i := 1) sc_is_clock.nd rfl (.inl rfl) pe_int ip_add))))
      (pss_one (ps_ret pe_bl)))), ?_⟩
    refine ⟨_, rfl, n, rfl, _, rfl, iteF ?_⟩
    refine ⟨_, rfl, _, _, rfl, rfl, _, rfl, ?_⟩
    rw [decide_eq_true n2]
    refine iteT ⟨_, _, rfl, rfl, _, rfl, ?_⟩
    rw [decide_eq_true n6]
    refine iteF ?_
    refine while_by (fun σ H' => H' = H ∧ ∃ k : Int, σ = [some (.int n), some (.int k)] ∧ 2 ≤ k ∧ k ≤ 1001) (fun σ _ => match σ with | [_, some (.int k)] => (2000 - k).toNat | _ => 0) ⟨rfl, 2, rfl, by decide, by decide⟩ ?_ ?_
    · rintro σ H' ⟨rfl, k, rfl, k2, k3⟩
      refine ⟨_, rfl, _, rfl, _, _, rfl, rfl, .inl ⟨by omega, by omega⟩, _, rfl, _, _, rfl, rfl, _, rfl, ?_⟩
      by_cases hk : k * k ≤ n
      · rw [decide_eq_true hk]
        refine iteT ?_
        refine ⟨_, rfl, _, rfl, _, _, rfl, rfl, by omega, rfl, _, rfl, ?_⟩
        have hne : ¬ V.int (n % k) = V.int 0 := fun e => nd k k2 hk (V.int.inj e)
        rw [decide_eq_false hne]
        refine iteF ⟨_, rfl, _, _, rfl, rfl, ⟨rfl, k + 1, rfl, by omega, ?_⟩, ?_⟩
        · have := sq_small k2 (Int.le_trans hk n6)
          omega
        · show (2000 - (k + 1)).toNat < (2000 - k).toNat
          omega
      · rw [decide_eq_false hk]
        exact iteF q
    · rintro σ H' Q1 Q2 i ⟨v, e1, v2, e2, a, b, e3, e4, c, v3, e5, a1, b1, e6, e7, k, e8, h⟩
      exact ⟨v, e1, v2, e2, a, b, e3, e4, c, v3, e5, a1, b1, e6, e7, k, e8, i _ _ h⟩
end
end S4

/-! posts, ties, what is reached: plain mathematics -/
namespace MM
def nbOf (post : Int) (t : Int × Int) : Option Int := if t.1 = post ∨ t.2 = post then some (if t.1 = post then t.2 else t.1) else none
def nb (ties : List (Int × Int)) (post : Int) : List Int := ties.filterMap (nbOf post)
def Up (ns : List Int) : Prop := ns.Pairwise (· ≤ ·)
/-- reached from s without the barred one -/
inductive Rch (ties : List (Int × Int)) (bar : Option Int) (s : Int) : Int → Prop
  | refl : Rch ties bar s s
  | step {u v : Int} : Rch ties bar s u → v ∈ nb ties u → bar ≠ some v → Rch ties bar s v
/-- the walk's word: found and waiting, ex the one whose neighbours are being looked at -/
structure RI (ties : List (Int × Int)) (bar : Option Int) (s : Int) (ex : Option Int) (fnd wt : List Int) : Prop where
  nd : fnd.Nodup
  st : s ∈ fnd
  ok : ∀ v ∈ fnd, Rch ties bar s v
  sub : ∀ v ∈ wt, v ∈ fnd
  cl : ∀ u ∈ fnd, u ∉ wt → ex ≠ some u → ∀ v ∈ nb ties u, bar ≠ some v → v ∈ fnd
  exf : ∀ h, ex = some h → h ∈ fnd
  wl : wt.length ≤ fnd.length
variable {ties : List (Int × Int)} {bar : Option Int} {s : Int}
theorem RI.start : RI ties bar s none [s] [s] :=
  ⟨by simp, by simp, fun v h => by rw [List.mem_singleton.mp h]; exact .refl, fun v h => h, fun u h h' => absurd h h', fun _ h => (nomatch h), Nat.le_refl _⟩
theorem RI.pop {fnd wt : List Int} {h : Int} (r : RI ties bar s none fnd wt) (hl : wt[wt.length - 1]? = some h) : RI ties bar s (some h) fnd wt.dropLast := by
  have hm : wt = wt.dropLast ++ [h] := by
    have hne : wt ≠ [] := by intro e; subst e; simp at hl
    have e1 := List.dropLast_concat_getLast hne
    have e2 : wt.getLast hne = h := by
      have := List.getLast?_eq_getElem? (l := wt)
      rw [hl, List.getLast?_eq_some_getLast hne] at this
      exact Option.some.inj this
    rw [e2] at e1
    exact e1.symm
  refine ⟨r.nd, r.st, r.ok, fun v hv => r.sub v ?_, fun u hu hn he v hv hb => r.cl u hu ?_ (fun q => nomatch q) v hv hb, fun q e => ?_, by rw [List.length_dropLast]; have := r.wl; omega⟩
  · rw [hm]; exact List.mem_append_left _ hv
  · intro hw
    rw [hm] at hw
    rcases List.mem_append.mp hw with hw | hw
    · exact hn hw
    · rw [List.mem_singleton.mp hw] at he
      exact he rfl
  · cases e
    exact r.sub h (by rw [hm]; simp)
theorem RI.add {fnd wt : List Int} {h v : Int} (r : RI ties bar s (some h) fnd wt) (hv : v ∈ nb ties h) (hb : bar ≠ some v) (hn : v ∉ fnd) : RI ties bar s (some h) (fnd ++ [v]) (wt ++ [v]) := by
  refine ⟨?_, List.mem_append_left _ r.st, fun u hu => ?_, fun u hu => ?_, fun u hu hw he x hx hbx => ?_, fun q e => List.mem_append_left _ (r.exf q e), by rw [List.length_append, List.length_append]; have := r.wl; omega⟩
  · rw [List.nodup_append]
    exact ⟨r.nd, by simp, fun a ha b hb => by rw [List.mem_singleton.mp hb]; intro e; subst e; exact hn ha⟩
  · rcases List.mem_append.mp hu with hu | hu
    · exact r.ok u hu
    · rw [List.mem_singleton.mp hu]
      exact .step (r.ok h (r.exf h rfl)) hv hb
  · rcases List.mem_append.mp hu with hu | hu
    · exact List.mem_append_left _ (r.sub u hu)
    · exact List.mem_append_right _ hu
  · rcases List.mem_append.mp hu with hu | hu
    · exact List.mem_append_left _ (r.cl u hu (fun q => hw (List.mem_append_left _ q)) he x hx hbx)
    · exact absurd (List.mem_append_right _ hu) hw
theorem RI.close {fnd wt : List Int} {h : Int} (r : RI ties bar s (some h) fnd wt) (hc : ∀ v ∈ nb ties h, bar ≠ some v → v ∈ fnd) : RI ties bar s none fnd wt :=
  ⟨r.nd, r.st, r.ok, r.sub, fun u hu hw _ v hv hb => by
    by_cases e : u = h
    · subst e; exact hc v hv hb
    · exact r.cl u hu hw (fun q => e (Option.some.inj q).symm) v hv hb, fun _ h => (nomatch h), r.wl⟩
theorem RI.done {fnd : List Int} (r : RI ties bar s none fnd []) : ∀ v, v ∈ fnd ↔ Rch ties bar s v := fun v => by
  refine ⟨r.ok v, fun h => ?_⟩
  induction h with
  | refl => exact r.st
  | step _ hv hb ih => exact r.cl _ ih (by simp) (fun q => nomatch q) _ hv hb
/-- bounded by a list that the neighbours stay in -/
theorem nodup_len : ∀ {l V : List Int}, l.Nodup → (∀ v ∈ l, v ∈ V) → l.length ≤ V.length
  | [], _, _, _ => Nat.zero_le _
  | a :: l, V, h, hs => by
    have ha : a ∈ V := hs a (by simp)
    obtain ⟨h1, h2⟩ := List.nodup_cons.mp h
    have : l.length ≤ (V.erase a).length := nodup_len h2 fun v hv => by
      have : v ≠ a := fun e => h1 (e ▸ hv)
      exact (List.mem_erase_of_ne this).mpr (hs v (by simp [hv]))
    rw [List.length_erase_of_mem ha] at this
    have := List.length_pos_of_mem ha
    rw [List.length_cons]
    omega
structure Shut (ties : List (Int × Int)) (V : List Int) : Prop where
  cl : ∀ u ∈ V, ∀ v ∈ nb ties u, v ∈ V
theorem Rch.inV {V : List Int} (hs : Shut ties V) (h0 : s ∈ V) {v : Int} (h : Rch ties bar s v) : v ∈ V := by
  induction h with
  | refl => exact h0
  | step _ hv _ ih => exact hs.cl _ ih _ hv
theorem RI.len {fnd wt : List Int} {ex : Option Int} {V : List Int} (r : RI ties bar s ex fnd wt) (hs : Shut ties V) (h0 : s ∈ V) : fnd.length ≤ V.length := nodup_len r.nd fun v hv => (r.ok v hv).inV hs h0
end MM

namespace S4
open PySem L2 TT MM
/-! ### ties as data -/
theorem hu65 {k : Nat} {A : Around} (r : Room k A) : A.units + 65 < cLine := by have := r.un; omega
def pd (z : Int × Int) : PyData := .tuple [.int z.1, .int z.2]
theorem pd_lay (z : Int × Int) : (pd z).canLay0 = true := by simp [pd, PyData.canLay0, PyData.canLayAll0]
theorem pd_depth (z : Int × Int) : (pd z).depth = 1 := by simp [pd, PyData.depth, PyData.depthAll]
theorem pds_lay : ∀ zs : List (Int × Int), PyData.canLayAll0 (zs.map pd) = true
  | [] => by simp [PyData.canLayAll0]
  | z :: zs => by simp [PyData.canLayAll0, pd_lay z, pds_lay zs]
theorem pds_depth : ∀ zs : List (Int × Int), PyData.depthAll (zs.map pd) ≤ 1
  | [] => by simp [PyData.depthAll]
  | z :: zs => by
    have h1 := pds_depth zs
    have h2 := pd_depth z
    simp only [List.map_cons, PyData.depthAll]
    omega
theorem pd_shaped (z : Int × Int) : SeqAt.shaped (pd z) = true := by
  have h := pd_depth z
  show ((pd z).canLay0 && decide ((pd z).depth ≤ 64)) = true
  rw [Bool.and_eq_true]
  exact ⟨pd_lay z, decide_eq_true (by omega)⟩
theorem pdt_shaped (zs : List (Int × Int)) : SeqAt.shaped (.tuple (zs.map pd)) = true := by
  have h1 := pds_depth zs
  have h2 : PyData.depth (.tuple (zs.map pd)) ≤ 64 := by
    simp only [PyData.depth]
    omega
  show (PyData.canLay0 (.tuple (zs.map pd)) && decide (PyData.depth (.tuple (zs.map pd)) ≤ 64)) = true
  rw [Bool.and_eq_true]
  exact ⟨by simp only [PyData.canLay0]; exact pds_lay zs, decide_eq_true h2⟩
theorem pdl_shaped (zs : List (Int × Int)) : SeqAt.shaped (.list (zs.map pd)) = true := by
  have h1 := pds_depth zs
  have h2 : PyData.depth (.list (zs.map pd)) ≤ 64 := by
    simp only [PyData.depth]
    omega
  show (PyData.canLay0 (.list (zs.map pd)) && decide (PyData.depth (.list (zs.map pd)) ≤ 64)) = true
  rw [Bool.and_eq_true]
  exact ⟨by simp only [PyData.canLay0]; exact pds_lay zs, decide_eq_true h2⟩
theorem pd_eqv (z w : Int × Int) : PyData.eqv (pd z) (pd w) = decide (z = w) := by
  obtain ⟨a, b⟩ := z
  obtain ⟨c, e⟩ := w
  have q : PyData.eqv (pd (a, b)) (pd (c, e)) = ((a == c) && ((b == e) && true)) := by simp only [pd, PyData.eqv, PyData.eqvAll]
  rw [q]
  by_cases h1 : a = c
  · by_cases h2 : b = e
    · subst h1 h2; simp
    · rw [decide_eq_false (fun x => h2 (Prod.mk.inj x).2), beq_eq_false_iff_ne.mpr h2, Bool.false_and, Bool.and_false]
  · rw [decide_eq_false (fun x => h1 (Prod.mk.inj x).1), beq_eq_false_iff_ne.mpr h1, Bool.false_and]
theorem any_pd (zs : List (Int × Int)) (w : Int × Int) : ((zs.map pd).any fun z => PyData.eqv z (pd w)) = decide (w ∈ zs) := by
  induction zs with
  | nil => simp
  | cons z zs ih =>
    rw [List.map_cons, List.any_cons, ih, pd_eqv]
    by_cases h : z = w
    · subst h; simp
    · have h' : ¬ w = z := fun e => h e.symm
      simp [h, h']
section
variable {K : PySem.W.Frag} {H : Hp}
theorem dp_pi {v : V} {z : Int × Int} (h : rPI H v z) : Dp K H v (pd z) := by
  obtain ⟨t, rfl, ht⟩ := h
  exact .tup (.of ht) (.cons (.int _) (.cons (.int _) .nil))
theorem dp_all : ∀ {xs : List V} {zs : List (Int × Int)}, Paired (rPI H) xs zs → DpAll K H xs (zs.map pd)
  | _, _, .nil => .nil
  | _, _, .cons r t => .cons (dp_pi r) (dp_all t)
theorem dp_ties {v : V} {zs : List (Int × Int)} (h : rTup rPI H v zs) : Dp K H v (.tuple (zs.map pd)) := by
  obtain ⟨t, xs, rfl, ht, p⟩ := h
  exact .tup (.of ht) (dp_all p)
end
/-! ### posts tied -/
theorem inV2 (a b post : Int) : inV (.int post) [.int a, .int b] = decide (a = post ∨ b = post) := by
  show ((a == post) || ((b == post) || false)) = _
  by_cases h1 : a = post
  · subst h1; simp
  · by_cases h2 : b = post
    · subst h2; simp
    · simp [h1, h2]
section
variable {P : Program} {w : World} {K : PySem.W.Frag} {mg : Str → Option Value} {base : Heap} {cT cS : Addr}
def spNbr : Sp := fun vs H Q _ => ∃ (v : V) (ties : List (Int × Int)) (post : Int), vs = [v, .int post] ∧ rTup rPI H v ties ∧ ties.length ≤ 1000 ∧
  ∀ H' v' ns, Same H H' → rRow H' v' ns → ns.Perm (nb ties post) → Up ns → Q v' H'
theorem ok_neighbours (T : Tx K mg cT cS) {f : Addr} {fd : FuncData} (d : D K mg "neighbours" s_neighbours ["ties", "post"] f fd) : FnOk P w K mg base CX0 1 f fd ["ties", "post"] spNbr := by
  refine d.F.ok sc_neighbours (fun vs H Q E h => ?_) (fun cdv A outer s H vs Q E hr h => ?_)
  · obtain ⟨v, ties, post, rfl, _⟩ := h
    rfl
  · obtain ⟨v, ties, post, rfl, ⟨t, xs, rfl, ht, hp⟩, hl, q⟩ := h
    refine ⟨_, pss_one (ps_ret (pe_callTy call_tuple_of (by rfl) T.b_tuple (by decide +kernel) (pa_cons (pe_callB cr_sortedI (by rfl) T.b_sorted (by decide +kernel) (pa_cons
        (pe_lc (own := [("tie", 2)]) (g := gName 2) rfl sc_neighbours.nd (pi_tup (pv 0)) (blkOk_by (N := N_neighbours) (sc := defScope s_neighbours) (by decide +kernel)) (fun _ _ _ _ _ => pg_name (i := 2) sc_neighbours.nd rfl (Or.inl rfl))
          (fun _ _ _ _ _ => pts_one (pt_cmpR (inS (K := K) rfl) (pv 1) (pv 2) (by rfl)))
          (fun _ _ _ _ _ => pe_ifExp (pt_cmpR op_eq (pe_ix (ixT (K := K) rfl) (pv 2) pe_int (fun _ _ => rfl)) (pv 1) (nomark _)) (pe_ix (ixT (K := K) rfl) (pv 2) pe_int (fun _ _ => rfl)) (pe_ix (ixT (K := K) rfl) (pv 2) pe_int (fun _ _ => rfl)))) pa_nil)) pa_nil))), ?_⟩
    refine ⟨_, rfl, t, rfl, ⟨_, .of ht⟩, fun D hD => ?_⟩
    refine lc_fm (walk_tup (xs := xs)) rInt (fun i => ties[i]?.bind (nbOf post)) hD (fun H' s' => .of (s'.keep.tup ht)) ?_ ?_
    · rintro i x H2 H3 hi pv ⟨rfl, hx⟩
      obtain ⟨z, hz, t2, rfl, ht2⟩ := paired_get (paired_mono mono_pi pv.1.keep hp) hx
      have hlen := paired_len hp
      refine ⟨rfl, _, rfl, _, rfl, t2, _, rfl, .inr (.of ht2), rfl, rfl, _, rfl, ?_⟩
      rw [if_neg Bool.false_ne_true, inV2]
      by_cases hc : z.1 = post ∨ z.2 = post
      · rw [decide_eq_true hc]
        refine iteT ?_
        refine ⟨_, rfl, t2, _, _, _, rfl, rfl, .of ht2, at_of (j := 0) rfl rfl, _, rfl, rfl, _, rfl, ?_⟩
        have hf : ties[i]?.bind (nbOf post) = some (if z.1 = post then z.2 else z.1) := by
          rw [hz]
          show nbOf post z = _
          unfold nbOf
          rw [if_pos hc]
        by_cases h1 : z.1 = post
        · have e1 : V.int z.1 = V.int post := by rw [h1]
          rw [decide_eq_true e1]
          refine iteT ⟨_, rfl, t2, _, _, _, rfl, rfl, .of ht2, at_of (j := 1) rfl rfl, ?_⟩
          exact fm_keep mono_int pv hD (by omega) (Same.refl _) hf (by rw [if_pos h1]; rfl)
        · have e1 : ¬ V.int z.1 = V.int post := fun e => h1 (V.int.inj e)
          rw [decide_eq_false e1]
          refine iteF ⟨_, rfl, t2, _, _, _, rfl, rfl, .of ht2, at_of (j := 0) rfl rfl, ?_⟩
          exact fm_keep mono_int pv hD (by omega) (Same.refl _) hf (by rw [if_neg h1]; rfl)
      · rw [decide_eq_false hc]
        refine iteF (fm_skip mono_int pv (Same.refl _) ?_)
        rw [hz]
        show nbOf post z = _
        unfold nbOf
        rw [if_neg hc]
    · intro H2 ys s2 hD2 hp2
      have e := paired_int hp2
      subst e
      rw [paired_len hp, fm_list] at hD2
      refine ⟨D, _, rfl, .of hD2, fun ns' p hperm hup np => ?_⟩
      refine ⟨p, _, rfl, .inl ⟨.of upd_same, fun l hl2 => ?_⟩⟩
      have s3 : Same H (upd H2 p (.lst (ns'.map V.int))) := s2.trans (same_new np)
      exact q _ _ ns' (s3.trans (same_new hl2)) ⟨l, rfl, upd_same⟩ hperm hup
end
end S4

namespace S4
open PySem L2 TT MM
/-! ### reached -/
def kf (l : List Int) : List (L2.Key × V) := l.map fun k => (Sum.inl k, V.bl true)
theorem kf_look : ∀ (l : List Int) (n : Int), valV (kf l) (Sum.inl n) = if n ∈ l then some (V.bl true) else none
  | [], n => by simp [kf, valV_nil]
  | a :: l, n => by
    show valV ((Sum.inl a, V.bl true) :: kf l) (Sum.inl n) = _
    by_cases e : a = n
    · subst e
      rw [valV_pos rfl, if_pos (by simp)]
    · have e' : ¬ (Sum.inl a : L2.Key) = Sum.inl n := fun q => e (Sum.inl.inj q)
      rw [valV_neg e', kf_look l n]
      by_cases h : n ∈ l
      · rw [if_pos h, if_pos (by simp [h])]
      · rw [if_neg h, if_neg (by simp [h]; exact fun q => e q.symm)]
theorem kf_put {l : List Int} {n : Int} (h : n ∉ l) : putK (kf l) (Sum.inl n) (V.bl true) = kf (l ++ [n]) := by
  rw [putK_new _ (by rw [kf_look, if_neg h])]
  simp [kf]
theorem kf_len (l : List Int) : (kf l).length = l.length := by simp [kf]
theorem kf_keys (l : List Int) : (kf l).map (·.1) = l.map Sum.inl := by simp [kf]
def optV : Option Int → V
  | none => .non
  | some b => .int b
section
variable {P : Program} {w : World} {K : PySem.W.Frag} {mg : Str → Option Value} {base : Heap} {cT cS : Addr}
def spReached : Sp := fun vs H Q _ => ∃ (v : V) (ties : List (Int × Int)) (st : Int) (bar : Option Int) (U : List Int), vs = [v, .int st, optV bar] ∧ rTup rPI H v ties ∧ ties.length ≤ 1000 ∧ Shut ties U ∧ st ∈ U ∧ U.length < 64 ∧
  ∀ H' v' ns, Same H H' → rRow H' v' ns → Up ns → ns.Nodup → (∀ x, x ∈ ns ↔ Rch ties bar st x) → Q v' H'
/-- the two that stand in the walk -/
structure RS (H0 : Hp) (df dw : Addr) (fnd wt : List Int) (H : Hp) : Prop where
  same : Same H0 H
  f0 : H0 df = none
  w0 : H0 dw = none
  fd : H df = some (.dK (kf fnd))
  wd : H dw = some (.lst (wt.map V.int))
theorem RS.ne {H0 : Hp} {df dw : Addr} {fnd wt : List Int} {H : Hp} (r : RS H0 df dw fnd wt H) : df ≠ dw := ne_of r.fd r.wd (fun q => nomatch q)
theorem RS.more {H0 : Hp} {df dw : Addr} {fnd wt : List Int} {H H' : Hp} (r : RS H0 df dw fnd wt H) (s : Same H H') : RS H0 df dw fnd wt H' := ⟨r.same.trans s, r.f0, r.w0, s _ _ r.fd, s _ _ r.wd⟩
theorem RS.setW {H0 : Hp} {df dw : Addr} {fnd wt : List Int} {H : Hp} (r : RS H0 df dw fnd wt H) (wt' : List Int) : RS H0 df dw fnd wt' (upd H dw (.lst (wt'.map V.int))) :=
  ⟨same_own r.same r.w0, r.f0, r.w0, by rw [upd_ne r.ne]; exact r.fd, upd_same⟩
theorem RS.setF {H0 : Hp} {df dw : Addr} {fnd wt : List Int} {H : Hp} (r : RS H0 df dw fnd wt H) (fnd' : List Int) : RS H0 df dw fnd' wt (upd H df (.dK (kf fnd'))) :=
  ⟨same_own r.same r.f0, r.f0, r.w0, upd_same, by rw [upd_ne r.ne.symm]; exact r.wd⟩
theorem ok_reached (T : Tx K mg cT cS) {f : Addr} {fd : FuncData} (d : D K mg "reached" s_reached ["ties", "start", "barred"] f fd) : FnOk P w K mg base CX0 2 f fd ["ties", "start", "barred"] spReached := by
  obtain ⟨f1, fd1, d1⟩ := T.d_neighbours
  have G1 : FnOk P w K mg base CX0 1 f1 fd1 ["ties", "post"] spNbr := ok_neighbours T d1
  refine d.F.ok sc_reached (fun vs H Q E h => ?_) (fun cdv A outer s H vs Q E hr h => ?_)
  · obtain ⟨v, ties, st, bar, U, rfl, _⟩ := h
    rfl
  · obtain ⟨v, ties, st, bar, U, rfl, hties, hl, hU, hst, hU64, q⟩ := h
    refine ⟨_, pss_cons (ps_set (i := 3) sc_reached.nd rfl (.inl rfl) (pe_disp (pps_cons (pv 1) pe_bl pps_nil) (by rfl) (by rfl) (fun z => by cases z) (by decide)))
      (pss_cons (ps_set (i := 4) sc_reached.nd rfl (.inl rfl) (pe_lst (pa_cons (pv 1) pa_nil)))
      (pss_cons (ps_while PassesOwn.never (pt_truth (pv 4) (by intro _; rfl))
        (pss_cons (ps_set (i := 5) sc_reached.nd rfl (.inl rfl) (pe_bm0 PySem.F.plainAttrs_list PySem.F.slot_list_pop PySem.F.type_list_pop mt_pop (pv 4)))
          (pss_one (ps_for PassesOwn.never rfl (pi_tup (pe_call G1 hr rfl d1.m d1.F.kp d1.b .nil pass0 (pa_cons (pv 0) (pa_cons (pv 5) pa_nil)))) (pg_name (i := 6) sc_reached.nd rfl (Or.inl rfl))
            (pss_one (ps_if (PW.pt (pw_and (pt_cmpR op_ne (pv 6) (pv 2) (nomark _)) (pw_and1 (pt_cmp (pc_dnotin (hu_of hr) (pv 6) (pv 3))))))
              (pss_cons (ps_dput (hu_of hr) (pv 3) (pv 6) pe_bl rfl)
                (pss_one (ps_expr (pe_bm PySem.F.plainAttrs_list PySem.F.slot_list_append PySem.F.type_list_append mt_append (pv 4) (pa_cons (pv 6) pa_nil))))) pss_nil))))))
      (pss_one (ps_ret (pe_callTy call_tuple_of (by rfl) T.b_tuple (by decide +kernel) (pa_cons (pe_callB (call_sortedDI rfl) (by rfl) T.b_sorted (by decide +kernel) (pa_cons (pv 3) pa_nil)) pa_nil)))))), ?_⟩
    obtain ⟨t, xs, rfl, ht, hp⟩ := id hties
    intro df hdf
    refine ⟨_, rfl, upd_same, [(Sum.inl st, V.bl true)], rfl, by show 1 ≤ 15; decide, ?_⟩
    rw [upd_upd]
    refine ⟨_, rfl, by show 1 ≤ sizeLine; decide, fun dw hdw => ?_⟩
    have hne : dw ≠ df := fun e => by subst e; rw [upd_same] at hdw; cases hdw
    have hdw0 : H dw = none := by rw [upd_ne hne] at hdw; exact hdw
    have R0 : RS H df dw [st] [st] (upd (upd H df (.dK (mergeK [] [(Sum.inl st, V.bl true)]))) dw (.lst [V.int st])) :=
      ⟨same_own (same_new hdf) hdw0, hdf, hdw0, by rw [upd_ne hne.symm, upd_same]; rfl, upd_same⟩
    dsimp only [gName, tSeq]
    refine while_by (fun σ H' => ∃ (fnd wt : List Int) (h p : Option V), σ = [some (.ref t), some (.int st), some (optV bar), some (.ref df), some (.ref dw), h, p] ∧ RS H df dw fnd wt H' ∧ RI ties bar st none fnd wt)
      (fun σ H' => match H' df, H' dw with | some (.dK a), some (.lst b) => 2 * (64 - a.length) + b.length | _, _ => 0) ⟨[st], [st], none, none, rfl, R0, .start⟩ ?_ ?_
    · rintro σ H1 ⟨fnd, wt, h0, p0, rfl, R, I⟩
      refine ⟨_, rfl, _, .inl ⟨_, .of R.wd, rfl⟩, ?_⟩
      have hmu : (match H1 df, H1 dw with | some (.dK a), some (.lst b) => 2 * (64 - a.length) + b.length | _, _ => 0) = 2 * (64 - fnd.length) + wt.length := by
        rw [R.fd, R.wd]
        show 2 * (64 - (kf fnd).length) + (wt.map V.int).length = _
        rw [kf_len, List.length_map]
      rw [hmu]
      cases hw : wt with
      | nil =>
        subst hw
        refine iteF ?_
        have hlen := I.len hU hst
        refine ⟨_, rfl, df, _, fnd, rfl, .of R.fd, kf_keys fnd, by omega, fun ys p hperm hup np => ?_⟩
        refine ⟨p, _, rfl, .inl ⟨.of upd_same, fun l hl2 => ?_⟩⟩
        refine q _ _ ys ((R.same.trans (same_new np)).trans (same_new hl2)) ⟨l, rfl, upd_same⟩ hup (hperm.symm.nodup I.nd) fun x => ?_
        rw [hperm.mem_iff]
        exact I.done x
      | cons w0 wr =>
        rw [← hw]
        have hpos : 0 < wt.length := by rw [hw]; simp
        have hemp : (!(wt.map V.int).isEmpty) = true := by rw [hw]; rfl
        rw [hemp]
        refine iteT ?_
        have hlast : wt[wt.length - 1]? = some wt[wt.length - 1] := List.getElem?_eq_getElem (by omega)
        obtain ⟨h, hh⟩ : ∃ h, wt[wt.length - 1]? = some h := ⟨_, hlast⟩
        refine ⟨_, rfl, .inl ⟨rfl, _, .of R.wd⟩, dw, _, V.int h, rfl, rfl, R.wd, by rw [List.length_map]; exact int_at hh, ?_⟩
        have I1 := I.pop hh
        have R1 : RS H df dw fnd wt.dropLast (upd H1 dw (.lst (wt.map V.int).dropLast)) := by
          have := R.setW wt.dropLast
          rw [List.map_dropLast] at this
          exact this
        have hdl : wt.dropLast.length = wt.length - 1 := List.length_dropLast
        refine ⟨_, rfl, _, rfl, .ref t, ties, h, rfl, ⟨t, xs, rfl, R1.same _ _ ht, paired_mono mono_pi R1.same.keep hp⟩, hl, fun H2 v2 ns s2 hrow hperm hup => ?_⟩
        obtain ⟨t2, rfl, ht2⟩ := hrow
        have R2 := R1.more s2
        refine ⟨t2, rfl, ⟨_, .of ht2⟩, ?_⟩
        refine for_tup (K := K) (a := t2) (xs := ns.map V.int) (fun i σ H' => ∃ (fnd' wt' : List Int) (p : Option V), σ = [some (.ref t), some (.int st), some (optV bar), some (.ref df), some (.ref dw), some (.int h), p] ∧ RS H df dw fnd' wt' H' ∧ H' t2 = some (.tup (ns.map V.int)) ∧
          RI ties bar st (some h) fnd' wt' ∧ (∀ j v, j < i → ns[j]? = some v → bar ≠ some v → v ∈ fnd') ∧ 2 * (64 - fnd'.length) + wt'.length ≤ 2 * (64 - fnd.length) + (wt.length - 1))
          ⟨fnd, wt.dropLast, p0, rfl, R2, ht2, I1, fun j v hj => absurd hj (Nat.not_lt_zero _), by rw [hdl]; exact Nat.le_refl _⟩ (fun i σ H' _ ⟨_, _, _, _, _, e, _⟩ => .of e) ?_ ?_
        · rintro i x σ H3 hx ⟨fnd', wt', p, rfl, R3, ht3, I3, hc, hm⟩
          obtain ⟨n, hn, rfl⟩ := at_int hx
          have hsc : scal (V.int n) (optV bar) = true := by cases bar <;> rfl
          have hdec : (!decide (V.int n = optV bar)) = decide (bar ≠ some n) := by
            cases bar with
            | none => simp [optV]
            | some b =>
              by_cases e : n = b
              · subst e; simp [optV]
              · have e' : ¬ b = n := fun q => e q.symm
                simp [optV, e, e']
          refine ⟨_, rfl, _, rfl, hsc, _, rfl, ?_⟩
          rw [hdec]
          by_cases hb : bar ≠ some n
          · rw [decide_eq_true hb]
            refine iteT ⟨_, rfl, _, rfl, df, _, rfl, .k (k := Sum.inl n) R3.fd, _, rfl, ?_⟩
            rw [kf_look]
            by_cases hin : n ∈ fnd'
            · rw [if_pos hin]
              refine iteF ⟨fnd', wt', _, rfl, R3, ht3, I3, fun j v hj hv hbv => ?_, hm⟩
              by_cases ej : j = i
              · subst ej
                rw [hn] at hv
                cases hv
                exact hin
              · exact hc j v (by omega) hv hbv
            · rw [if_neg hin]
              refine iteT ?_
              have hnb : n ∈ nb ties h := hperm.mem_iff.mp (List.mem_of_getElem? hn)
              have I4 := I3.add hnb hb hin
              have l4 := I4.len hU hst
              have l3 := I3.len hU hst
              have lw : wt'.length ≤ 2 * 64 + wt.length := by omega
              have lw2 : wt.length ≤ 100000 ∨ True := .inr trivial
              refine ⟨_, rfl, _, rfl, df, _, rfl, .k (k := Sum.inl n) R3.fd (by rw [kf_len]; exact Nat.lt_of_le_of_lt (Nat.le_trans l3 (Nat.le_of_lt hU64)) (by decide)), ?_⟩
              rw [kf_put hin]
              have R4 := R3.setF (fnd' ++ [n])
              refine ⟨_, rfl, .inl ⟨rfl, _, .of R4.wd⟩, _, rfl, dw, _, _, rfl, rfl, R4.wd, ?_, ?_⟩
              · have := I3.wl
                rw [List.length_map]
                exact Nat.lt_of_le_of_lt (Nat.le_trans this (Nat.le_trans l3 (Nat.le_of_lt hU64))) (by decide)
              have R5 := R4.setW (wt' ++ [n])
              rw [List.map_append] at R5
              refine ⟨fnd' ++ [n], wt' ++ [n], _, rfl, R5, ?_, I4, fun j v hj hv hbv => ?_, ?_⟩
              · rw [upd_ne (ne_of ht3 R3.wd (fun z => nomatch z)), upd_ne (ne_of ht3 R3.fd (fun z => nomatch z))]
                exact ht3
              · by_cases ej : j = i
                · subst ej
                  rw [hn] at hv
                  cases hv
                  simp
                · exact List.mem_append_left _ (hc j v (by omega) hv hbv)
              · rw [List.length_append, List.length_append, List.length_singleton]
                rw [List.length_append, List.length_singleton] at l4
                omega
          · rw [decide_eq_false hb]
            refine iteF (iteF ⟨fnd', wt', _, rfl, R3, ht3, I3, fun j v hj hv hbv => ?_, hm⟩)
            by_cases ej : j = i
            · subst ej
              rw [hn] at hv
              cases hv
              exact absurd hbv hb
            · exact hc j v (by omega) hv hbv
        · rintro σ H3 ⟨fnd', wt', p, rfl, R3, ht3, I3, hc, hm⟩
          refine ⟨⟨fnd', wt', _, _, rfl, R3, I3.close fun v hv hb => ?_⟩, ?_⟩
          · have hv' := hperm.mem_iff.mpr hv
            obtain ⟨j, hj⟩ := List.getElem?_of_mem hv'
            exact hc j v (by rw [List.length_map]; exact (List.getElem?_eq_some_iff.mp hj).1) hj hb
          · rw [R3.fd, R3.wd]
            show 2 * (64 - (kf fnd').length) + (wt'.map V.int).length < _
            rw [kf_len, List.length_map]
            omega
    · rintro σ H' Q1 Q2 i ⟨v, e1, k, e2, h⟩
      exact ⟨v, e1, k, e2, i _ _ h⟩
end
end S4

namespace S4
open PySem L2 TT MM
/-! ### a tree in the heap -/
def tfs (t : Addr) (n : Int) : List (Str × V) := putF "posts" (.int n) (putF "ties" (.ref t) [])
theorem tfs_ties (t : Addr) (n : Int) : (tfs t n).lookup ("ties" : Str) = some (.ref t) := by
  unfold tfs
  rw [lookup_putF, if_neg (by decide +kernel), lookup_putF, if_pos rfl]
theorem tfs_posts (t : Addr) (n : Int) : (tfs t n).lookup ("posts" : Str) = some (.int n) := by
  unfold tfs
  rw [lookup_putF, if_pos rfl]
def rTree (cT : Addr) : Rp (List (Int × Int)) := fun H v ties => ∃ a dx t xs, v = .ref a ∧ H a = some (.ins cT dx (tfs t ((ties.length : Int) + 1))) ∧ H t = some (.tup xs) ∧ Paired (rPI H) xs ties
theorem mono_tree (cT : Addr) : Mono (rTree cT) := fun _ _ _ _ k ⟨a, dx, t, xs, e, h1, h2, h3⟩ => ⟨a, dx, t, xs, e, k.ins h1, k.tup h2, paired_mono mono_pi k h3⟩
theorem mem_ties {K : PySem.W.Frag} {H : Hp} {v u : V} {z : Int × Int} {ties : List (Int × Int)} (h : rPI H v z) (h2 : rTup rPI H u ties) {Q : V → Hp → Prop} (q : Q (.bl (decide (z ∈ ties))) H) : rInT K v u H Q :=
  ⟨pd z, ties.map pd, dp_pi h, dp_ties h2, pd_shaped z, pdt_shaped ties, by rw [any_pd]; exact q⟩
section
variable {P : Program} {w : World} {K : PySem.W.Frag} {mg : Str → Option Value} {base : Heap} {cT cS : Addr}
def spIsTie : Sp := fun vs H Q _ => ∃ (v : V) (z : Int × Int) (n : Int), vs = [v, .int n] ∧ rPI H v z ∧ 0 ≤ z.1 ∧ z.1 < z.2 ∧ z.2 < n ∧ ∀ H', Same H H' → Q (.bl true) H'
theorem two_at {a b : Int} {i : Nat} {x : V} (h : [V.int a, V.int b][i]? = some x) : x = .int a ∨ x = .int b := by
  match i, h with
  | 0, h => exact .inl (Option.some.inj h).symm
  | 1, h => exact .inr (Option.some.inj h).symm
theorem all_true_fm {n : Nat} {bs : List Bool} (h : bs = (List.range n).filterMap fun _ => some true) : bs.all id = true := all_true fun b hb => by
  rw [h] at hb
  obtain ⟨_, _, e⟩ := List.mem_filterMap.mp hb
  exact (Option.some.inj e).symm
theorem ok_is_tie (T : Tx K mg cT cS) {f : Addr} {fd : FuncData} (d : D K mg "is_tie" s_is_tie ["thing", "posts"] f fd) : FnOk P w K mg base CX0 3 f fd ["thing", "posts"] spIsTie := by
  obtain ⟨f1, fd1, d1⟩ := T.d_is_below
  have G1 : FnOk P w K mg base CX0 2 f1 fd1 ["thing", "end"] spIsBelow := ok_is_below T d1
  obtain ⟨f2, fd2, d2⟩ := T.d_is_pair
  have G2 : FnOk P w K mg base CX0 1 f2 fd2 ["thing"] spIsPair := ok_is_pair T d2
  refine d.F.ok sc_is_tie (fun vs H Q E h => ?_) (fun cdv A outer s H vs Q E hr h => ?_)
  · obtain ⟨v, z, n, rfl, _⟩ := h
    rfl
  · obtain ⟨v, ⟨a, b⟩, n, rfl, ⟨t, rfl, ht⟩, h0, h1, h2, q⟩ := h
    simp only at h0 h1 h2 ht
    refine ⟨_, pss_cons (ps_if (PW.pt (pw_or (pt_not (pt_val (pe_call G2 (hr.mono (by decide)) rfl d2.m d2.F.kp d2.b .nil pass0 (pa_cons (pv 0) pa_nil))))
        (pw_or1 (pt_not (pt_val (pe_callB (cr_all rfl) (by rfl) T.b_all (by decide +kernel) (pa_cons
        (pe_lc (own := [("post", 2)]) (g := gName 2) (tt := tYes) rfl sc_is_tie.nd (pi_tup (pv 0)) (blkOk_by (N := N_is_tie) (sc := defScope s_is_tie) (by decide +kernel)) (fun _ _ _ _ _ => pg_name (i := 2) sc_is_tie.nd rfl (Or.inl rfl)) (fun _ _ _ _ _ => pts_nil)
          (fun _ _ _ _ _ => pe_call G1 hr rfl d1.m d1.F.kp d1.b .nil pass0 (pa_cons (pv 2) (pa_cons (pv 1) pa_nil)))) pa_nil))))))) (pss_one (ps_ret pe_bl)) pss_nil)
      (pss_one (ps_ret (pe_cmpR op_lt (pe_ix ix_tup (pv 0) pe_int (fun _ _ => rfl)) (pe_ix ix_tup (pv 0) pe_int (fun _ _ => rfl)) (nomark _)))), ?_⟩
    refine ⟨_, rfl, t, _, _, rfl, ht, _, rfl, iteF ⟨_, rfl, t, rfl, ⟨_, .of ht⟩, fun D hD => ?_⟩⟩
    refine lc_fm (walk_tup (xs := [V.int a, V.int b])) rBl (fun _ => some true) hD (fun H' s' => .of (s'.keep.tup ht)) ?_ ?_
    · rintro i x H2 H3 hi pv ⟨rfl, hx⟩
      have hi2 : i < 2 := hi
      rcases two_at hx with rfl | rfl
      · refine ⟨rfl, _, rfl, _, rfl, a, n, rfl, ?_⟩
        rw [decide_eq_true ⟨h0, by omega⟩]
        exact fm_keep mono_bl pv hD (by omega) (Same.refl _) rfl rfl
      · refine ⟨rfl, _, rfl, _, rfl, b, n, rfl, ?_⟩
        rw [decide_eq_true ⟨by omega, h2⟩]
        exact fm_keep mono_bl pv hD (by omega) (Same.refl _) rfl rfl
    · intro H2 xs s2 hD2 hp
      have := paired_bl hp
      subst this
      refine ⟨_, _, rfl, .of hD2, _, rfl, ?_⟩
      rw [all_true_fm rfl]
      have ht2 := s2.keep.tup ht
      refine iteF ⟨_, rfl, t, _, _, _, rfl, rfl, .of ht2, at_of (j := 0) rfl rfl, _, rfl, t, _, _, _, rfl, rfl, .of ht2, at_of (j := 1) rfl rfl, _, _, rfl, rfl, ?_⟩
      show Q (V.bl (decide (a < b))) H2
      rw [decide_eq_true h1]
      exact q _ s2
def spIsWay (cT : Addr) : Sp := fun vs H Q _ => ∃ (u v : V) (ties : List (Int × Int)) (z : Int × Int), vs = [u, v] ∧ rTree cT H u ties ∧ rPI H v z ∧ 0 ≤ z.1 ∧ 0 ≤ z.2 ∧ z.1 < (ties.length : Int) + 1 ∧ z.2 < (ties.length : Int) + 1 ∧ (z ∈ ties ∨ z.swap ∈ ties) ∧
  ∀ H', Same H H' → Q (.bl true) H'
theorem ok_is_way (T : Tx K mg cT cS) {f : Addr} {fd : FuncData} (d : D K mg "is_way" s_is_way ["tree", "thing"] f fd) : FnOk P w K mg base CX0 3 f fd ["tree", "thing"] (spIsWay cT) := by
  obtain ⟨f1, fd1, d1⟩ := T.d_is_below
  have G1 : FnOk P w K mg base CX0 2 f1 fd1 ["thing", "end"] spIsBelow := ok_is_below T d1
  obtain ⟨f2, fd2, d2⟩ := T.d_is_pair
  have G2 : FnOk P w K mg base CX0 1 f2 fd2 ["thing"] spIsPair := ok_is_pair T d2
  obtain ⟨fT, fdT, kT⟩ := T.k_Tree
  have nP : NoAttr K cT "posts" := kT.na _ (by simp)
  have nT : NoAttr K cT "ties" := kT.na _ (by simp)
  refine d.F.ok sc_is_way (fun vs H Q E h => ?_) (fun cdv A outer s H vs Q E hr h => ?_)
  · obtain ⟨u, v, ties, z, rfl, _⟩ := h
    rfl
  · obtain ⟨u, v, ties, ⟨a, b⟩, rfl, ⟨tr, dx, t, xs, rfl, hI, ht, hp⟩, ⟨tz, rfl, hz⟩, h0, h1, h2, h3, hm, q⟩ := h
    simp only at h0 h1 h2 h3 hz
    refine ⟨_, pss_cons (ps_if (PW.pt (pw_or (pt_not (pt_val (pe_call G2 (hr.mono (by decide)) rfl d2.m d2.F.kp d2.b .nil pass0 (pa_cons (pv 1) pa_nil))))
        (pw_or1 (pt_not (pt_val (pe_callB (cr_all rfl) (by rfl) T.b_all (by decide +kernel) (pa_cons
        (pe_lc (own := [("post", 2)]) (g := gName 2) (tt := tYes) rfl sc_is_way.nd (pi_tup (pv 1)) (blkOk_by (N := N_is_way) (sc := defScope s_is_way) (by decide +kernel)) (fun _ _ _ _ _ => pg_name (i := 2) sc_is_way.nd rfl (Or.inl rfl)) (fun _ _ _ _ _ => pts_nil)
          (fun _ _ _ _ _ => pe_call G1 hr rfl d1.m d1.F.kp d1.b .nil pass0 (pa_cons (pv 2) (pa_cons (fldK (K := K) (pv 0) rfl rfl) pa_nil)))) pa_nil))))))) (pss_one (ps_ret pe_bl)) pss_nil)
      (pss_one (ps_ret (pe_or (pe_cmpR (op_inT (hu65 hr)) (pv 1) (pe_fld (pv 0) rfl) (by rfl))
        (pe_one (pe_cmpR (op_inT (hu65 hr)) (pe_tup (pa_cons (pe_ix ix_tup (pv 1) pe_int (fun _ _ => rfl)) (pa_cons (pe_ix ix_tup (pv 1) pe_int (fun _ _ => rfl)) pa_nil))) (pe_fld (pv 0) rfl) (by rfl)))))), ?_⟩
    refine ⟨_, rfl, tz, _, _, rfl, hz, _, rfl, iteF ⟨_, rfl, tz, rfl, ⟨_, .of hz⟩, fun D hD => ?_⟩⟩
    refine lc_fm (walk_tup (xs := [V.int a, V.int b])) rBl (fun _ => some true) hD (fun H' s' => .of (s'.keep.tup hz)) ?_ ?_
    · rintro i x H2 H3 hi pv ⟨rfl, hx⟩
      have hi2 : i < 2 := hi
      have hI3 := pv.1.keep.ins hI
      rcases two_at hx with rfl | rfl
      · refine ⟨rfl, _, rfl, _, rfl, tr, cT, dx, _, _, rfl, hI3, kT.cl, nP, tfs_posts _ _, a, _, rfl, ?_⟩
        rw [decide_eq_true ⟨h0, h2⟩]
        exact fm_keep mono_bl pv hD (by omega) (Same.refl _) rfl rfl
      · refine ⟨rfl, _, rfl, _, rfl, tr, cT, dx, _, _, rfl, hI3, kT.cl, nP, tfs_posts _ _, b, _, rfl, ?_⟩
        rw [decide_eq_true ⟨h1, h3⟩]
        exact fm_keep mono_bl pv hD (by omega) (Same.refl _) rfl rfl
    · intro H2 ys s2 hD2 hp2
      have := paired_bl hp2
      subst this
      refine ⟨_, _, rfl, .of hD2, _, rfl, ?_⟩
      rw [all_true_fm rfl]
      have hz2 := s2.keep.tup hz
      have hI2 := s2.keep.ins hI
      have ht2 := s2.keep.tup ht
      have hp3 := paired_mono mono_pi s2.keep hp
      refine iteF ⟨_, rfl, _, rfl, tr, cT, dx, _, _, rfl, hI2, kT.cl, nT, tfs_ties _ _, mem_ties (z := (a, b)) ⟨tz, rfl, hz2⟩ ⟨t, xs, rfl, ht2, hp3⟩ ?_⟩
      refine ⟨_, rfl, ?_⟩
      by_cases hc : (a, b) ∈ ties
      · rw [decide_eq_true hc]
        exact iteT (q _ s2)
      · rw [decide_eq_false hc]
        have hc2 : (b, a) ∈ ties := hm.resolve_left hc
        refine iteF ⟨_, rfl, tz, _, _, _, rfl, rfl, .of hz2, at_of (j := 1) rfl rfl, _, rfl, tz, _, _, _, rfl, rfl, .of hz2, at_of (j := 0) rfl rfl, by show 2 ≤ sizeLine; decide, fun p np => ?_⟩
        have s3 := same_new (o := .tup [V.int b, V.int a]) np
        refine ⟨_, rfl, tr, cT, dx, _, _, rfl, s3.keep.ins hI2, kT.cl, nT, tfs_ties _ _, mem_ties (z := (b, a)) ⟨p, rfl, upd_same⟩ ⟨t, xs, rfl, s3.keep.tup ht2, paired_mono mono_pi s3.keep hp3⟩ ?_⟩
        rw [decide_eq_true hc2]
        exact q _ (s2.trans s3)
end
end S4

namespace S4
open PySem L2 TT MM
section
variable {P : Program} {w : World} {K : PySem.W.Frag} {mg : Str → Option Value} {base : Heap} {cT cS : Addr}
def spTied (cT : Addr) : Sp := fun vs H Q _ => ∃ (u : V) (ties : List (Int × Int)) (post : Int), vs = [u, .int post] ∧ rTree cT H u ties ∧ ties.length ≤ 1000 ∧ 0 ≤ post ∧ post < (ties.length : Int) + 1 ∧
  ∀ H' v' ns, Same H H' → rRow H' v' ns → ns.Perm (nb ties post) → Up ns → Q v' H'
theorem ok_tied (T : Tx K mg cT cS) {f : Addr} {fd : FuncData} (d : D K mg "tied" s_tied ["tree", "post"] f fd) : FnOk P w K mg base CX0 3 f fd ["tree", "post"] (spTied cT) := by
  obtain ⟨f1, fd1, d1⟩ := T.d_is_below
  have G1 : FnOk P w K mg base CX0 2 f1 fd1 ["thing", "end"] spIsBelow := ok_is_below T d1
  obtain ⟨f2, fd2, d2⟩ := T.d_neighbours
  have G2 : FnOk P w K mg base CX0 1 f2 fd2 ["ties", "post"] spNbr := ok_neighbours T d2
  obtain ⟨fT, fdT, kT⟩ := T.k_Tree
  have nP : NoAttr K cT "posts" := kT.na _ (by simp)
  have nT : NoAttr K cT "ties" := kT.na _ (by simp)
  refine d.F.ok sc_tied (fun vs H Q E h => ?_) (fun cdv A outer s H vs Q E hr h => ?_)
  · obtain ⟨u, ties, post, rfl, _⟩ := h
    rfl
  · obtain ⟨u, ties, post, rfl, ⟨tr, dx, t, xs, rfl, hI, ht, hp⟩, hl, h0, h1, q⟩ := h
    refine ⟨_, pss_cons (ps_if (pt_not (pt_val (pe_call G1 hr rfl d1.m d1.F.kp d1.b .nil pass0 (pa_cons (pv 1) (pa_cons (pe_fld (pv 0) rfl) pa_nil))))) pss_never pss_nil)
      (pss_one (ps_ret (pe_call G2 (hr.mono (by decide)) rfl d2.m d2.F.kp d2.b .nil pass0 (pa_cons (pe_fld (pv 0) rfl) (pa_cons (pv 1) pa_nil))))), ?_⟩
    refine ⟨_, rfl, _, rfl, tr, cT, dx, _, _, rfl, hI, kT.cl, nP, tfs_posts _ _, post, _, rfl, ?_⟩
    rw [decide_eq_true ⟨h0, h1⟩]
    refine ⟨_, rfl, iteF ⟨_, rfl, tr, cT, dx, _, _, rfl, hI, kT.cl, nT, tfs_ties _ _, _, rfl, .ref t, ties, post, rfl, ⟨t, xs, rfl, ht, hp⟩, hl, q⟩⟩
def spThis (cT : Addr) : Sp := fun vs H Q _ => ∃ (u v : V) (ties : List (Int × Int)) (z : Int × Int) (U : List Int), vs = [u, v] ∧ rTree cT H u ties ∧ rPI H v z ∧ ties.length ≤ 1000 ∧ Shut ties U ∧ z.1 ∈ U ∧ U.length < 64 ∧
  ∀ H' v' ns, Same H H' → rRow H' v' ns → Up ns → ns.Nodup → (∀ x, x ∈ ns ↔ Rch ties (some z.2) z.1 x) → Q v' H'
theorem ok_this_side (T : Tx K mg cT cS) {f : Addr} {fd : FuncData} (d : D K mg "this_side" s_this_side ["tree", "way"] f fd) : FnOk P w K mg base CX0 3 f fd ["tree", "way"] (spThis cT) := by
  obtain ⟨f2, fd2, d2⟩ := T.d_reached
  have G2 : FnOk P w K mg base CX0 2 f2 fd2 ["ties", "start", "barred"] spReached := ok_reached T d2
  obtain ⟨fT, fdT, kT⟩ := T.k_Tree
  have nT : NoAttr K cT "ties" := kT.na _ (by simp)
  refine d.F.ok sc_this_side (fun vs H Q E h => ?_) (fun cdv A outer s H vs Q E hr h => ?_)
  · obtain ⟨u, v, ties, z, U, rfl, _⟩ := h
    rfl
  · obtain ⟨u, v, ties, z, U, rfl, ⟨tr, dx, t, xs, rfl, hI, ht, hp⟩, ⟨tz, rfl, hz⟩, hl, hU, h0, h64, q⟩ := h
    refine ⟨_, pss_cons (ps_asg (pv 1) (pg_tup rfl (pgs_cons (pg_name (i := 2) sc_this_side.nd rfl (.inl rfl)) (pgs_cons (pg_name (i := 3) sc_this_side.nd rfl (.inl rfl)) pgs_nil))))
      (pss_one (ps_ret (pe_call G2 hr rfl d2.m d2.F.kp d2.b .nil pass0 (pa_cons (pe_fld (pv 0) rfl) (pa_cons (pv 2) (pa_cons (pv 3) pa_nil)))))), ?_⟩
    exact ⟨_, rfl, tz, _, rfl, .of hz, rfl, _, _, rfl, _, _, rfl, rfl, _, rfl, tr, cT, dx, _, _, rfl, hI, kT.cl, nT, tfs_ties _ _, _, rfl, _, rfl, .ref t, ties, z.1, some z.2, U, rfl, ⟨t, xs, rfl, ht, hp⟩, hl, hU, h0, h64, q⟩
def flipAll (ties : List (Int × Int)) : List (Int × Int) := ties.map Prod.swap
theorem fm_some {α β : Type} (l : List α) (h : α → β) : (List.range l.length).filterMap (fun i => l[i]?.bind fun x => some (h x)) = l.map h := by
  rw [fm_list, List.filterMap_eq_map']
end
end S4

namespace S4
open PySem L2 TT MM
/-- ties that make a tree of n posts -/
structure TiesOk (ties : List (Int × Int)) (n : Nat) : Prop where
  len : ties.length + 1 = n
  n24 : n ≤ 24
  b0 : ∀ z ∈ ties, 0 ≤ z.1 ∧ z.1 < z.2 ∧ z.2 < (n : Int)
  asc : ties.Pairwise lxLt
  all : ∀ x : Int, 0 ≤ x → x < (n : Int) → Rch ties none 0 x
theorem nb_mem {ties : List (Int × Int)} {u v : Int} : v ∈ nb ties u ↔ (u, v) ∈ ties ∨ (v, u) ∈ ties := by
  unfold nb
  rw [List.mem_filterMap]
  constructor
  · rintro ⟨⟨a, b⟩, hz, he⟩
    unfold nbOf at he
    by_cases hc : a = u ∨ b = u
    · rw [if_pos hc] at he
      have e := Option.some.inj he
      by_cases h1 : a = u
      · rw [if_pos h1] at e
        subst h1 e
        exact .inl hz
      · rw [if_neg h1] at e
        have h2 : b = u := hc.resolve_left h1
        subst h2 e
        exact .inr hz
    · rw [if_neg hc] at he
      cases he
  · rintro (h | h)
    · refine ⟨(u, v), h, ?_⟩
      unfold nbOf
      rw [if_pos (.inl rfl), if_pos rfl]
    · refine ⟨(v, u), h, ?_⟩
      unfold nbOf
      rw [if_pos (.inr rfl)]
      by_cases e : v = u
      · rw [if_pos e, e]
      · rw [if_neg e]
def rng (n : Nat) : List Int := (List.range n).map fun (i : Nat) => (i : Int)
theorem rng_mem {n : Nat} {x : Int} : x ∈ rng n ↔ 0 ≤ x ∧ x < (n : Int) := by
  unfold rng
  rw [List.mem_map]
  constructor
  · rintro ⟨i, hi, rfl⟩
    have := List.mem_range.mp hi
    omega
  · rintro ⟨h1, h2⟩
    exact ⟨x.toNat, List.mem_range.mpr (by omega), by omega⟩
theorem rng_len (n : Nat) : (rng n).length = n := by simp [rng]
theorem rng_nodup (n : Nat) : (rng n).Nodup := by
  unfold rng
  rw [List.nodup_iff_pairwise_ne, List.pairwise_map]
  exact List.nodup_range.imp fun {a b} h e => h (by omega)
theorem TiesOk.shut {ties : List (Int × Int)} {n : Nat} (o : TiesOk ties n) : Shut ties (rng n) := ⟨fun u hu v hv => by
  rw [rng_mem]
  rcases nb_mem.mp hv with h | h
  · have := o.b0 _ h
    simp only at this
    omega
  · have := o.b0 _ h
    simp only at this
    omega⟩
theorem le_pairs (a b c e : Int) : Ob.lexAt (fun j => decide ([a, b].getD j 0 = [c, e].getD j 0)) (fun j => decide ([a, b].getD j 0 ≤ [c, e].getD j 0)) (decide ([a, b].length ≤ [c, e].length)) 0 (min [a, b].length [c, e].length) = decide (¬ lxLt (c, e) (a, b)) := by
  show (if decide (a = c) = true then (if decide (b = e) = true then decide (2 ≤ 2) else decide (b ≤ e)) else decide (a ≤ c)) = decide (¬ lxLt (c, e) (a, b))
  unfold lxLt
  by_cases h1 : a = c
  · rw [if_pos (decide_eq_true h1)]
    by_cases h2 : b = e
    · rw [if_pos (decide_eq_true h2)]
      subst h1 h2
      rw [decide_eq_true (by omega : (2 : Nat) ≤ 2), decide_eq_true (by omega)]
    · rw [if_neg (by rw [decide_eq_true_eq]; exact h2)]
      subst h1
      by_cases h3 : b ≤ e
      · rw [decide_eq_true h3, decide_eq_true (by omega)]
      · rw [decide_eq_false h3, decide_eq_false (by omega)]
  · rw [if_neg (by rw [decide_eq_true_eq]; exact h1)]
    by_cases h3 : a ≤ c
    · rw [decide_eq_true h3, decide_eq_true (by omega)]
    · rw [decide_eq_false h3, decide_eq_false (by omega)]
section
variable {P : Program} {w : World} {K : PySem.W.Frag} {mg : Str → Option Value} {base : Heap} {cT cS : Addr}
def spCheckTies : Sp := fun vs H Q _ => ∃ (v : V) (ties : List (Int × Int)) (n : Nat), vs = [v] ∧ rTup rPI H v ties ∧ TiesOk ties n ∧ ∀ H', Same H H' → Q .non H'
theorem ok_check_ties (T : Tx K mg cT cS) {f : Addr} {fd : FuncData} (d : D K mg "check_ties" s_check_ties ["ties"] f fd) : FnOk P w K mg base CX0 4 f fd ["ties"] spCheckTies := by
  obtain ⟨f1, fd1, d1⟩ := T.d_is_tie
  have G1 : FnOk P w K mg base CX0 3 f1 fd1 ["thing", "posts"] spIsTie := ok_is_tie T d1
  obtain ⟨f2, fd2, d2⟩ := T.d_reached
  have G2 : FnOk P w K mg base CX0 2 f2 fd2 ["ties", "start", "barred"] spReached := ok_reached T d2
  obtain ⟨tk, hM⟩ := T.c_MOST_TIES
  refine d.F.ok sc_check_ties (fun vs H Q E h => ?_) (fun cdv A outer s H vs Q E hr h => ?_)
  · obtain ⟨v, ties, n, rfl, _⟩ := h
    rfl
  · obtain ⟨v, ties, n, rfl, ⟨t, xs, rfl, ht, hp⟩, ok, q⟩ := h
    have hlen := paired_len hp
    have hn := ok.len
    have hn24 := ok.n24
    refine ⟨_, pss_cons (ps_if (PW.pt (pw_or (pt_not (pt_val (pe_callB call_isi (by rfl) T.b_isinstance (by decide +kernel) (pa_cons (pv 0) (pa_cons (ty_tuple T.b_tuple) pa_nil)))))
        (pw_or1 (pt_cmpR op_gt (pe_callB call_len_seq (by rfl) T.b_len PySem.boot_len (pa_cons (pv 0) pa_nil)) (pe_glob (v := .int 23) rfl hM ⟨_, rfl⟩) (nomark _))))) pss_never pss_nil)
      (pss_cons (ps_set (i := 1) sc_check_ties.nd rfl (.inl rfl) (pe_op op_add (pe_callB call_len_seq (by rfl) T.b_len PySem.boot_len (pa_cons (pv 0) pa_nil)) pe_int))
      (pss_cons (ps_for PassesOwn.never rfl (pi_enumT (by rfl) T.b_enumerate (pa_cons (pv 0) pa_nil)) (pg_tup rfl (pgs_cons (pg_name (i := 2) sc_check_ties.nd rfl (.inl rfl)) (pgs_cons (pg_name (i := 3) sc_check_ties.nd rfl (.inl rfl)) pgs_nil)))
        (pss_one (ps_if (PW.pt (pw_or (pt_not (pt_val (pe_call G1 hr rfl d1.m d1.F.kp d1.b .nil pass0 (pa_cons (pv 3) (pa_cons (pv 1) pa_nil)))))
          (pw_or1 (PW.pt (pw_and (pt_cmpR op_gt (pv 2) pe_int (nomark _)) (pw_and1 (pt_cmpR (op_leT hr.units0) (pv 3) (pe_ix ix_tup (pv 0) (pe_op op_sub (pv 2) pe_int) (fun _ _ => rfl)) (nomark _)))))))) pss_never pss_nil)))
      (pss_one (ps_if (pt_cmpR op_lt (pe_callB call_len_seq (by rfl) T.b_len PySem.boot_len (pa_cons (pe_call G2 (hr.mono (by decide)) rfl d2.m d2.F.kp d2.b .nil pass0 (pa_cons (pv 0) (pa_cons pe_int (pa_cons pe_non pa_nil)))) pa_nil)) (pv 1) (nomark _)) pss_never pss_nil)))), ?_⟩
    refine ⟨_, rfl, _, _, _, _, _, rfl, .ty _, .base (.tup ht), kit_tt, _, rfl, iteF ⟨_, rfl, _, _, rfl, .inr (.of ht), _, _, rfl, rfl, _, rfl, ?_⟩⟩
    rw [decide_eq_false (by rw [hlen]; omega)]
    refine iteF ⟨_, rfl, _, _, rfl, .inr (.of ht), _, _, rfl, rfl, ?_⟩
    dsimp only [gName, tSeq]
    have e1 : ((xs.length : Nat) : Int) + 1 = (n : Int) := by rw [hlen]; omega
    rw [e1]
    refine ⟨_, rfl, t, xs, rfl, .of ht, ?_⟩
    refine for_it (walk_enumT (xs := xs)) (fun i σ H' => Same H H' ∧ ∃ a b, σ = [some (.ref t), some (.int n), a, b]) ⟨.refl _, none, none, rfl⟩ (fun i σ H' _ h => .of (h.1.keep.tup ht)) ?_ ?_
    · rintro i x σ H2 H3 hi ⟨s2, a, b, rfl⟩ ⟨tp, x1, x2, rfl, np, rfl, e2, e3⟩
      have s3 := same_new (o := .tup [x1, x2]) np
      cases (Option.some.inj e2)
      obtain ⟨z, hz, t2, rfl, ht2⟩ := paired_get (paired_mono mono_pi (s2.trans s3).keep hp) e3
      have hzm := List.mem_of_getElem? hz
      obtain ⟨b1, b2, b3⟩ := ok.b0 z hzm
      refine ⟨tp, _, rfl, .of upd_same, rfl, _, _, rfl, _, _, rfl, rfl, ?_⟩
      refine ⟨_, rfl, _, rfl, .ref t2, z, n, rfl, ⟨t2, rfl, ht2⟩, b1, b2, b3, fun H4 s4 => ⟨_, rfl, iteF ?_⟩⟩
      have s5 := (s2.trans s3).trans s4
      refine ⟨_, rfl, _, _, rfl, rfl, _, rfl, ?_⟩
      by_cases hi0 : 0 < i
      · rw [decide_eq_true (by omega)]
        have hi1 : i - 1 < ties.length := by omega
        have hz1 : ties[i - 1]? = some ties[i - 1] := List.getElem?_eq_getElem hi1
        obtain ⟨y, hy, t3, rfl, ht3⟩ := paired_get2 (paired_mono mono_pi s5.keep hp) hz1
        refine iteT ⟨_, rfl, _, rfl, _, rfl, _, _, rfl, rfl, t, xs, _, _, rfl, rfl, .of (s5.keep.tup ht), at_of (j := i - 1) (by omega) hy, ?_⟩
        refine ⟨t2, t3, [z.1, z.2], [ties[i - 1].1, ties[i - 1].2], rfl, rfl, .of (s4.keep.tup ht2), .of ht3, _, rfl, ?_⟩
        rw [le_pairs]
        have hlt : lxLt (ties[i - 1].1, ties[i - 1].2) (z.1, z.2) := by
          have hzi : i < ties.length := (List.getElem?_eq_some_iff.mp hz).1
          have hze : ties[i] = z := (List.getElem?_eq_some_iff.mp hz).2
          have := (List.pairwise_iff_getElem.mp ok.asc) (i - 1) i hi1 hzi (by omega)
          rw [hze] at this
          exact this
        rw [decide_eq_false (fun h => h hlt)]
        exact iteF ⟨s5, _, _, rfl⟩
      · rw [decide_eq_false (by omega)]
        exact iteF (iteF ⟨s5, _, _, rfl⟩)
    · rintro σ H2 ⟨s2, a, b, rfl⟩
      refine ⟨_, rfl, .ref t, ties, 0, none, rng n, rfl, ⟨t, xs, rfl, s2.keep.tup ht, paired_mono mono_pi s2.keep hp⟩, by omega, ok.shut, rng_mem.mpr ⟨by omega, by omega⟩, by rw [rng_len]; omega, fun H3 v' ns s3 hrow hup hnd hmem => ?_⟩
      obtain ⟨t4, rfl, ht4⟩ := hrow
      refine ⟨_, _, rfl, .inr (.of ht4), _, rfl, _, _, rfl, rfl, _, rfl, ?_⟩
      have hge : n ≤ ns.length := by
        have := nodup_len (V := ns) (rng_nodup n) fun v hv => by
          obtain ⟨c1, c2⟩ := rng_mem.mp hv
          exact (hmem v).mpr (ok.all v c1 c2)
        rwa [rng_len] at this
      rw [decide_eq_false (by rw [List.length_map]; omega)]
      exact iteF (q _ (s2.trans s3))
def spInitTree (cT : Addr) : Sp := fun vs H Q _ => ∃ (x dx : Addr) (v : V) (ties : List (Int × Int)) (n : Nat), vs = [.ref x, v] ∧ H x = some (.ins cT dx []) ∧ rTup rPI H v ties ∧ TiesOk ties n ∧
  ∀ H', (∀ b o, b ≠ x → H b = some o → H' b = some o) → rTree cT H' (.ref x) ties → Q .non H'
theorem ok_Tree (T : Tx K mg cT cS) {f : Addr} {fd : FuncData} (d : DC K mg "Tree" "Tree.__init__" s_Tree ["self", "ties"] ["ties", "posts"] cT f fd) : FnOk P w K mg base CX0 5 f fd ["self", "ties"] (spInitTree cT) := by
  obtain ⟨f1, fd1, d1⟩ := T.d_check_ties
  have G1 : FnOk P w K mg base CX0 4 f1 fd1 ["ties"] spCheckTies := ok_check_ties T d1
  have nP : NoAttr K cT "posts" := d.na _ (by simp)
  have nT : NoAttr K cT "ties" := d.na _ (by simp)
  refine d.F.ok sc_Tree (fun vs H Q E h => ?_) (fun cdv A outer s H vs Q E hr h => ?_)
  · obtain ⟨x, dx, v, ties, n, rfl, _⟩ := h
    rfl
  · obtain ⟨x, dx, v, ties, n, rfl, hx, hties, ok, q⟩ := h
    refine ⟨_, pss_cons (ps_expr (pe_call G1 hr rfl d1.m d1.F.kp d1.b .nil pass0 (pa_cons (pv 1) pa_nil)))
      (pss_cons (ps_fld (pv 0) (pv 1) rfl) (pss_one (ps_fld (pv 0) (pe_op op_add (pe_callB call_len_seq (by rfl) T.b_len PySem.boot_len (pa_cons (pv 1) pa_nil)) pe_int) rfl))), ?_⟩
    refine ⟨_, rfl, v, ties, n, rfl, hties, ok, fun H2 s2 => ?_⟩
    obtain ⟨t, xs, rfl, ht, hp⟩ := mono_tup mono_pi _ _ _ _ s2.keep hties
    have hx2 := s2.keep.ins hx
    refine ⟨_, rfl, _, rfl, x, cT, dx, [], rfl, hx2, d.cl, nT, by show 0 < 1000; decide, ?_⟩
    have htx : t ≠ x := ne_of ht hx2 (fun z => nomatch z)
    have ht3 : (upd H2 x (.ins cT dx (putF "ties" (.ref t) []))) t = some (.tup xs) := by rw [upd_ne htx]; exact ht
    refine ⟨_, rfl, _, _, rfl, .inr (.of ht3), _, _, rfl, rfl, _, rfl, x, cT, dx, _, rfl, upd_same, d.cl, nP, by show 1 < 1000; decide, ?_⟩
    rw [upd_upd]
    refine q _ (fun b o hb e => by rw [upd_ne hb]; exact s2 b o e) ⟨x, dx, t, xs, rfl, ?_, by rw [upd_ne htx]; exact ht, ?_⟩
    · rw [upd_same, paired_len hp]
      rfl
    · have k : Keep H2 (upd H2 x (.ins cT dx (tfs t ((ties.length : Int) + 1)))) → True := fun _ => trivial
      refine Paired.mapP hp fun a b ⟨t2, e, h2⟩ => ⟨t2, e, ?_⟩
      rw [upd_ne (ne_of h2 hx2 (fun z => nomatch z))]
      exact h2
end
end S4

namespace S4
open PySem L2 TT MM
/-! ### sheets -/
structure SD where
  p : Int
  ties : List (Int × Int)
  holds : List Int
  wants : List (List (List Int))
abbrev rWants : Rp (List (List (List Int))) := rTup (rTup rRow)
structure CountsOk (holds : List Int) (n : Nat) : Prop where
  len : holds.length = n
  b : ∀ h ∈ holds, 0 ≤ h ∧ h < 9
  s : holds.sum ≤ 60
structure WantsOk (p : Int) (wd : Int) (n : Nat) (wants : List (List (List Int))) : Prop where
  len : wants.length = n
  b : ∀ rows ∈ wants, rows.length ≤ 8 ∧ ∀ r ∈ rows, isRow r p wd
  s : (wants.map List.length).sum ≤ 60
structure SheetOk (S : SD) (n : Nat) : Prop where
  ties : TiesOk S.ties n
  clock : NoDiv S.p
  holds : CountsOk S.holds n
  wants : WantsOk S.p S.holds.sum n S.wants
theorem sum_lens : ∀ l : List (List (List Int)), (l.map fun r => ((r.length : Nat) : Int)).sum = (((l.map List.length).sum : Nat) : Int)
  | [] => rfl
  | a :: l => by
    rw [List.map_cons, List.map_cons, List.sum_cons, List.sum_cons, sum_lens l]
    omega
theorem mono_wants : Mono rWants := mono_tup (mono_tup mono_row)
section
variable {P : Program} {w : World} {K : PySem.W.Frag} {mg : Str → Option Value} {base : Heap} {cT cS : Addr}
def spAreCounts (cT : Addr) : Sp := fun vs H Q _ => ∃ (u v : V) (ties : List (Int × Int)) (holds : List Int) (n : Nat), vs = [u, v] ∧ rTree cT H u ties ∧ ties.length + 1 = n ∧ n ≤ 24 ∧ rRow H v holds ∧ CountsOk holds n ∧ ∀ H', Same H H' → Q (.bl true) H'
theorem ok_are_counts (T : Tx K mg cT cS) {f : Addr} {fd : FuncData} (d : D K mg "are_counts" s_are_counts ["tree", "thing"] f fd) : FnOk P w K mg base CX0 3 f fd ["tree", "thing"] (spAreCounts cT) := by
  obtain ⟨f1, fd1, d1⟩ := T.d_is_below
  have G1 : FnOk P w K mg base CX0 2 f1 fd1 ["thing", "end"] spIsBelow := ok_is_below T d1
  obtain ⟨fT, fdT, kT⟩ := T.k_Tree
  have nP : NoAttr K cT "posts" := kT.na _ (by simp)
  obtain ⟨tk1, hM1⟩ := T.c_MOST_AT_POST
  obtain ⟨tk2, hM2⟩ := T.c_MOST_IN_ALL
  refine d.F.ok sc_are_counts (fun vs H Q E h => ?_) (fun cdv A outer s H vs Q E hr h => ?_)
  · obtain ⟨u, v, ties, holds, n, rfl, _⟩ := h
    rfl
  · obtain ⟨u, v, ties, holds, n, rfl, ⟨tr, dx, t, xs, rfl, hI, ht, hp⟩, hn, hn24, ⟨th, rfl, hh⟩, ok, q⟩ := h
    refine ⟨_, pss_cons (ps_if (PW.pt (pw_or (pt_not (pt_val (pe_callB call_isi (by rfl) T.b_isinstance (by decide +kernel) (pa_cons (pv 1) (pa_cons (ty_tuple T.b_tuple) pa_nil)))))
        (pw_or1 (pt_cmpR op_ne (pe_callB call_len_seq (by rfl) T.b_len PySem.boot_len (pa_cons (pv 1) pa_nil)) (pe_fld (pv 0) rfl) (nomark _))))) (pss_one (ps_ret pe_bl)) pss_nil)
      (pss_cons (ps_if (pt_not (pt_val (pe_callB (cr_all rfl) (by rfl) T.b_all (by decide +kernel) (pa_cons
        (pe_lc (own := [("count", 2)]) (g := gName 2) (tt := tYes) rfl sc_are_counts.nd (pi_tup (pv 1)) (blkOk_by (N := N_are_counts) (sc := defScope s_are_counts) (by decide +kernel)) (fun _ _ _ _ _ => pg_name (i := 2) sc_are_counts.nd rfl (Or.inl rfl)) (fun _ _ _ _ _ => pts_nil)
          (fun _ _ _ _ _ => pe_call G1 hr rfl d1.m d1.F.kp d1.b .nil pass0 (pa_cons (pv 2) (pa_cons (pe_op op_add (pe_glob (v := .int 8) rfl hM1 ⟨_, rfl⟩) pe_int) pa_nil)))) pa_nil)))) (pss_one (ps_ret pe_bl)) pss_nil)
      (pss_one (ps_ret (pe_cmpR op_le (pe_callB (cr_sumT rfl) (by rfl) T.b_sum (by decide +kernel) (pa_cons (pv 1) pa_nil)) (pe_glob (v := .int 60) rfl hM2 ⟨_, rfl⟩) (nomark _))))), ?_⟩
    have hl := ok.len
    refine ⟨_, rfl, _, _, _, _, _, rfl, .ty _, .base (.tup hh), kit_tt, _, rfl, iteF ?_⟩
    refine ⟨_, rfl, _, _, rfl, .inr (.of hh), _, rfl, tr, cT, dx, _, _, rfl, hI, kT.cl, nP, tfs_posts _ _, rfl, _, rfl, ?_⟩
    have e1 : V.int (((holds.map V.int).length : Nat) : Int) = V.int ((ties.length : Int) + 1) := by rw [List.length_map]; congr 1; omega
    rw [e1, decide_eq_true rfl]
    refine iteF ⟨_, rfl, th, rfl, ⟨_, .of hh⟩, fun D hD => ?_⟩
    refine lc_fm (walk_tup (xs := holds.map V.int)) rBl (fun _ => some true) hD (fun H' s' => .of (s'.keep.tup hh)) ?_ ?_
    · rintro i x H2 H3 hi pv ⟨rfl, hx⟩
      obtain ⟨k, hk, rfl⟩ := at_int hx
      rw [List.length_map] at hi
      obtain ⟨g1, g2⟩ := ok.b k (List.mem_of_getElem? hk)
      refine ⟨rfl, _, rfl, _, _, rfl, rfl, k, _, rfl, ?_⟩
      rw [decide_eq_true ⟨g1, by omega⟩]
      exact fm_keep mono_bl pv hD (by omega) (Same.refl _) rfl rfl
    · intro H2 ys s2 hD2 hp2
      have := paired_bl hp2
      subst this
      refine ⟨_, _, rfl, .of hD2, _, rfl, ?_⟩
      rw [all_true_fm rfl]
      refine iteF ⟨_, rfl, th, holds, rfl, .of (s2.keep.tup hh), _, _, rfl, rfl, ?_⟩
      show Q (V.bl (decide (holds.sum ≤ 60))) H2
      rw [decide_eq_true ok.s]
      exact q _ s2
end
end S4

namespace S4
open PySem L2 TT MM
/-! ### numbers held, wants beyond -/
def heldL (holds : List Int) (post : Int) : List Int := (List.range (holds.getD post.toNat 0).toNat).map fun (i : Nat) => (holds.take post.toNat).sum + (i : Int)
def numsL (holds : List Int) (posts : List Int) : List Int := posts.flatMap (heldL holds)
def farL (wants : List (List (List Int))) (posts : List Int) : List (Int × Int) := posts.flatMap fun post => (List.range (wants.getD post.toNat []).length).map fun (k : Nat) => (post, (k : Int))
def cutL (r l : List Int) : List Int := l.map fun i => r.getD i.toNat 0
def blockL (S : SD) (near far : List Int) : List (List Int) := (farL S.wants far).map fun z => cutL ((S.wants.getD z.1.toNat []).getD z.2.toNat []) (numsL S.holds near)
section
variable {P : Program} {w : World} {K : PySem.W.Frag} {mg : Str → Option Value} {base : Heap} {cT cS : Addr}
theorem take_sum_le {holds : List Int} {n : Nat} (ok : CountsOk holds n) (k : Nat) : 0 ≤ (holds.take k).sum ∧ (holds.take k).sum + (holds.getD k 0) ≤ 60 ∧ 0 ≤ holds.getD k 0 := by
  have hs : ∀ l : List Int, (∀ x ∈ l, 0 ≤ x) → 0 ≤ l.sum := by
    intro l
    induction l with
    | nil => intro _; simp
    | cons a l ih => intro h; rw [List.sum_cons]; have := ih fun x hx => h x (by simp [hx]); have := h a (by simp); omega
  have h1 : 0 ≤ (holds.take k).sum := hs _ fun x hx => (ok.b x (List.mem_of_mem_take hx)).1
  have h2 : 0 ≤ (holds.drop (k + 1)).sum := hs _ fun x hx => (ok.b x (List.mem_of_mem_drop hx)).1
  have e : holds.sum = (holds.take k).sum + (holds.drop k).sum := by rw [← List.sum_append, List.take_append_drop]
  by_cases hk : k < holds.length
  · have e2 : holds.drop k = holds[k] :: holds.drop (k + 1) := List.drop_eq_getElem_cons hk
    have e3 : holds.getD k 0 = holds[k] := by rw [List.getD_eq_getElem?_getD, List.getElem?_eq_getElem hk]; rfl
    rw [e2, List.sum_cons] at e
    have := ok.s
    have := (ok.b _ (List.getElem_mem hk)).1
    rw [e3]
    omega
  · have e3 : holds.getD k 0 = 0 := by rw [List.getD_eq_getElem?_getD, List.getElem?_eq_none (by omega)]; rfl
    have := ok.s
    rw [List.take_of_length_le (by omega)]
    rw [List.take_of_length_le (by omega)] at h1
    omega
theorem getD_at {α : Type} {l : List α} {k : Nat} {d x : α} (h : l[k]? = some x) : l.getD k d = x := by rw [List.getD_eq_getElem?_getD, h]; rfl
def spOwn : Sp := fun vs H Q _ => ∃ (v : V) (l : List Int) (post : Int) (n : Nat), vs = [v, .int post] ∧ rRow H v l ∧ n ≤ 24 ∧ CountsOk l n ∧ 0 ≤ post ∧ post < (n : Int) ∧
  ∀ H' v', Same H H' → rRow H' v' (heldL l post) → Q v' H'
theorem ok_own (T : Tx K mg cT cS) {f : Addr} {fd : FuncData} (d : D K mg "own_places" s_own_places ["counts", "post"] f fd) : FnOk P w K mg base CX0 1 f fd ["counts", "post"] spOwn := by
  refine d.F.ok sc_own_places (fun vs H Q E h => ?_) (fun cdv A outer s H vs Q E hr h => ?_)
  · obtain ⟨v, l, post, n, rfl, _⟩ := h
    rfl
  · obtain ⟨v, l, post, n, rfl, ⟨th, rfl, hth⟩, hn, oh, h0, h1, q⟩ := h
    obtain ⟨k, rfl⟩ : ∃ k : Nat, post = (k : Int) := ⟨post.toNat, by omega⟩
    have hk : k < l.length := by have := oh.len; omega
    refine ⟨_, pss_cons (ps_set (i := 2) sc_own_places.nd rfl (.inl rfl) (pe_callB (cr_sumT rfl) (by rfl) T.b_sum (by decide +kernel) (pa_cons (pe_slice sl_tupA (pv 0) po_none (po_some (pv 1))) pa_nil)))
      (pss_one (ps_ret (pe_tupRg rfl (by rfl) T.b_tuple (prg_2 (by rfl) T.b_range (pv 2) (pe_op op_add (pv 2) (pe_ix ix_tup (pv 0) (pv 1) (fun _ _ => rfl))))))), ?_⟩
    refine ⟨_, rfl, _, rfl, (k : Int), rfl, slice_upto hth fun H2 p s2 hp => ⟨p, l.take k, rfl, .of (by rw [List.map_take]; exact hp), ?_⟩⟩
    have hx : l[k]? = some l[k] := List.getElem?_eq_getElem hk
    have e3 : l.getD k 0 = l[k] := getD_at hx
    obtain ⟨b1, b2, b3⟩ := take_sum_le oh k
    rw [e3] at b2 b3
    refine ⟨_, rfl, _, rfl, _, rfl, _, rfl, th, _, _, _, rfl, rfl, .of (s2.keep.tup hth), atI_nat (int_at hx), _, _, rfl, rfl, _, _, rfl, rfl, .of_le b1 (by omega) (by omega) (by omega), fun r nr => ?_⟩
    refine q _ _ (s2.trans (same_new nr)) ⟨r, rfl, ?_⟩
    rw [upd_same, rgV_int]
    unfold heldL
    rw [Int.toNat_natCast, e3]
    have e4 : ((l.take k).sum + l[k] - (l.take k).sum).toNat = l[k].toNat := by omega
    rw [e4]
def spCut : Sp := fun vs H Q _ => ∃ (u v : V) (r l : List Int), vs = [u, v] ∧ rRow H u r ∧ rRow H v l ∧ l.length ≤ 1000 ∧ (∀ i ∈ l, 0 ≤ i ∧ i < (r.length : Int)) ∧ ∀ H' v', Same H H' → rRow H' v' (cutL r l) → Q v' H'
theorem ok_cut (T : Tx K mg cT cS) {f : Addr} {fd : FuncData} (d : D K mg "cut" s_cut ["row", "lot"] f fd) : FnOk P w K mg base CX0 1 f fd ["row", "lot"] spCut := by
  refine d.F.ok sc_cut (fun vs H Q E h => ?_) (fun cdv A outer s H vs Q E hr h => ?_)
  · obtain ⟨u, v, r, l, rfl, _⟩ := h
    rfl
  · obtain ⟨u, v, r, l, rfl, ⟨t1, rfl, h1⟩, ⟨t2, rfl, h2⟩, hl, hb, q⟩ := h
    refine ⟨_, pss_one (ps_ret (pe_callTy call_tuple_of (by rfl) T.b_tuple (by decide +kernel) (pa_cons
        (pe_lc (own := [("place", 2)]) (g := gName 2) (tt := tYes) rfl sc_cut.nd (pi_tup (pv 1)) (blkOk_by (N := N_cut) (sc := defScope s_cut) (by decide +kernel)) (fun _ _ _ _ _ => pg_name (i := 2) sc_cut.nd rfl (Or.inl rfl)) (fun _ _ _ _ _ => pts_nil)
          (fun _ _ _ _ _ => pe_ix (ixT (K := K) rfl) (pv 0) (pv 2) (fun _ _ => rfl))) pa_nil))), ?_⟩
    refine ⟨_, rfl, t2, rfl, ⟨_, .of h2⟩, fun D hD => ?_⟩
    refine lc_fm (walk_tup (xs := l.map V.int)) rInt (fun i => l[i]?.bind fun j => some (r.getD j.toNat 0)) hD (fun H' s' => .of (s'.keep.tup h2)) ?_ ?_
    · rintro i x H2 H3 hi pv ⟨rfl, hx⟩
      obtain ⟨j, hj, rfl⟩ := at_int hx
      rw [List.length_map] at hi
      obtain ⟨g1, g2⟩ := hb j (List.mem_of_getElem? hj)
      obtain ⟨m, rfl⟩ : ∃ m : Nat, j = (m : Int) := ⟨j.toNat, by omega⟩
      have hm : r[m]? = some (r[m]'(by omega)) := List.getElem?_eq_getElem (by omega)
      refine ⟨rfl, _, rfl, _, rfl, t1, _, _, _, rfl, rfl, .of (pv.1.keep.tup h1), atI_nat (int_at hm), ?_⟩
      refine fm_keep mono_int pv hD (by omega) (Same.refl _) (by rw [hj]; rfl) ?_
      rw [Int.toNat_natCast, getD_at hm]
      rfl
    · intro H2 ys s2 hD2 hp2
      rw [List.length_map, fm_some] at hp2
      have := paired_int hp2
      subst this
      refine ⟨D, _, rfl, .inl ⟨.of hD2, fun p np => ?_⟩⟩
      exact q _ _ (s2.trans (same_new np)) ⟨p, rfl, upd_same⟩
end
end S4

namespace S4
open PySem L2 TT MM
/-! ### the hand that draws -/
def hl (c : Addr) (i1 i2 i3 i4 : Int) : List V := [.ref c, .int i1, .int i2, .int i3, .int i4]
structure HandW (g c : Addr) (cells : List Int) (i1 i2 i3 i4 : Int) (H : Hp) : Prop where
  h : H g = some (.lst (hl c i1 i2 i3 i4))
  hc : H c = some (.lst (cells.map V.int))
  len : cells.length ≤ 63
  pos : ∀ x ∈ cells, 0 ≤ x
  b1 : 0 ≤ i1 ∧ i1 ≤ (cells.length : Int)
  b2 : 0 ≤ i2
  b3 : 0 ≤ i3 ∧ i3 < 4294967296
  b4 : 0 ≤ i4
def Hand (g c : Addr) (H : Hp) : Prop := ∃ cells i1 i2 i3 i4, HandW g c cells i1 i2 i3 i4 H
theorem HandW.ne {g c : Addr} {cells : List Int} {i1 i2 i3 i4 : Int} {H : Hp} (h : HandW g c cells i1 i2 i3 i4 H) : c ≠ g := ne_of h.hc h.h (fun e => by
  injection e with e
  cases cells with
  | nil => cases e
  | cons a l => rw [List.map_cons] at e; cases e)
theorem Hand.lst {g c : Addr} {H : Hp} (h : Hand g c H) : ∃ ys, H g = some (.lst ys) := let ⟨_, _, _, _, _, w⟩ := h; ⟨_, w.h⟩
theorem Hand.cells {g c : Addr} {H : Hp} (h : Hand g c H) : ∃ ys, H c = some (.lst ys) := let ⟨_, _, _, _, _, w⟩ := h; ⟨_, w.hc⟩
theorem Hand.setD {g c D : Addr} {H : Hp} {o : HO} (h : Hand g c H) (h1 : D ≠ g) (h2 : D ≠ c) : Hand g c (upd H D o) := let ⟨cells, i1, i2, i3, i4, w⟩ := h; ⟨cells, i1, i2, i3, i4, by rw [upd_ne h1.symm]; exact w.h, by rw [upd_ne h2.symm]; exact w.hc, w.len, w.pos, w.b1, w.b2, w.b3, w.b4⟩
theorem Hand.same {g c : Addr} {H H' : Hp} (h : Hand g c H) (s : Same H H') : Hand g c H' := by
  obtain ⟨cells, i1, i2, i3, i4, w⟩ := h
  exact ⟨cells, i1, i2, i3, i4, s _ _ w.h, s _ _ w.hc, w.len, w.pos, w.b1, w.b2, w.b3, w.b4⟩
/-- a list apart from the hand stays apart -/
theorem _root_.TT.But.lst {g : Addr} {H H' : Hp} (k : But g H H') {b : Addr} (hb : b ≠ g) {xs : List V} (h : H b = some (.lst xs)) : H' b = some (.lst xs) := k b _ hb h
theorem Hand.keep {g c : Addr} {H H' : Hp} (h : Hand g c H) (k : But g H H') : Keep H H' := let ⟨_, e⟩ := h.lst; k.keep e
section
variable {P : Program} {w : World} {K : PySem.W.Frag} {mg : Str → Option Value} {base : Heap} {cT cS : Addr}
def spHand (K : PySem.W.Frag) : Sp := fun vs H Q _ => ∃ (a : Addr) (ns : List Int), vs = [.ref a] ∧ SqL K H a (ns.map V.int) ∧ ns.length ≤ 63 ∧ ∀ H' g c, Same H H' → H g = none → Hand g c H' → Q (.ref g) H'
theorem ok_hand (T : Tx K mg cT cS) {f : Addr} {fd : FuncData} (d : D K mg "_law_hand" s_law_hand ["script"] f fd) : FnOk P w K mg base CX0 1 f fd ["script"] (spHand K) := by
  refine d.F.ok sc_law_hand (fun vs H Q E h => ?_) (fun cdv A outer s H vs Q E hr h => ?_)
  · obtain ⟨a, ns, rfl, _⟩ := h
    rfl
  · obtain ⟨a, ns, rfl, hS, hl63, q⟩ := h
    refine ⟨_, pss_cons (ps_setLc (i := 1) (own := [("cell", 2)]) (g := gName 2) (tt := tYes) rfl sc_law_hand.nd rfl rfl (sw_true rfl rfl rfl (by decide +kernel)) (pi_list (pe_slice sl_list (pv 0) po_none (po_some pe_int))) (blkOk_by (N := N_law_hand) (sc := defScope s_law_hand) (by decide +kernel))
          (fun _ _ _ _ _ => pg_name (i := 2) sc_law_hand.nd rfl (Or.inl rfl)) (fun _ _ _ _ _ => pts_nil)
          (fun _ _ _ _ _ => pe_callB call_abs (by rfl) T.b_abs (by decide +kernel) (pa_cons (pe_callTy call_int1 (by rfl) T.b_int (by decide +kernel) (pa_cons (pv 2) pa_nil)) pa_nil)))
      (pss_one (ps_ret (pe_lst (pa_cons (pv 1) (pa_cons pe_int (pa_cons pe_int (pa_cons (pe_op op_add pe_int (pe_callB call_len_seq (by rfl) T.b_len PySem.boot_len (pa_cons (pv 1) pa_nil))) (pa_cons pe_int pa_nil)))))))), ?_⟩
    refine ⟨_, rfl, 63, rfl, a, _, rfl, hS, fun p np => ?_⟩
    have e63 : cutV (ns.map V.int) none (some 63) = ns.map V.int := by
      have := cutV_upto (ns.map V.int) 63
      rw [List.take_of_length_le (by rw [List.length_map]; exact hl63)] at this
      exact this
    rw [e63]
    have s1 := same_new (o := .lst (ns.map V.int)) np
    refine ⟨p, rfl, ⟨_, .of upd_same⟩, fun D hD => ?_⟩
    refine lc_fm (walk_list (xs := ns.map V.int)) rInt (fun i => ns[i]?.bind fun x => some (if x < 0 then -x else x)) hD (fun H' s' => .of (s' _ _ upd_same)) ?_ ?_
    · rintro i x H2 H3 hi pv ⟨rfl, hx⟩
      obtain ⟨k, hk, rfl⟩ := at_int hx
      rw [List.length_map] at hi
      refine ⟨rfl, _, rfl, .inl ⟨k, rfl, k, rfl, ?_⟩⟩
      exact fm_keep mono_int pv hD (by omega) (Same.refl _) (by rw [hk]; rfl) rfl
    · intro H2 ys s2 hD2 hp2
      rw [List.length_map, fm_some] at hp2
      have := paired_int hp2
      subst this
      refine ⟨_, rfl, _, rfl, _, _, rfl, .inl (.of hD2), _, _, rfl, rfl, by show 5 ≤ sizeLine; decide, fun g ng => ?_⟩
      have s3 := same_new (o := .lst (hl D 0 0 (1 + ((((ns.map fun x => if x < 0 then -x else x).map V.int).length : Nat) : Int)) 0)) ng
      refine q _ g D ((s1.trans s2).trans s3) ((s1.trans s2).free ng) ⟨ns.map fun x => if x < 0 then -x else x, 0, 0, _, 0, upd_same, s3 _ _ hD2, by rw [List.length_map]; exact hl63, fun x hx => ?_, ⟨by omega, by omega⟩, by omega, ?_, by omega⟩
      · obtain ⟨y, _, rfl⟩ := List.mem_map.mp hx
        split <;> omega
      · rw [List.length_map, List.length_map]
        omega
def spDraw : Sp := fun vs H Q _ => ∃ (g c : Addr) (m : Int), vs = [.ref g, .int m] ∧ 0 < m ∧ m < 1073741824 ∧ Hand g c H ∧ ∀ H' n, But g H H' → Hand g c H' → 0 ≤ n → n < m → Q (.int n) H'
theorem mod_b {a m : Int} (h : 0 < m) : 0 ≤ a % m ∧ a % m < m := ⟨Int.emod_nonneg _ (by omega), Int.emod_lt_of_pos _ h⟩
theorem ok_draw (T : Tx K mg cT cS) {f : Addr} {fd : FuncData} (d : D K mg "_law_draw" s_law_draw ["hand", "many"] f fd) : FnOk P w K mg base CX0 1 f fd ["hand", "many"] spDraw := by
  refine d.F.ok sc_law_draw (fun vs H Q E h => ?_) (fun cdv A outer s H vs Q E hr h => ?_)
  · obtain ⟨g, c, m, rfl, _⟩ := h
    rfl
  · obtain ⟨g, c, m, rfl, m0, m1, ⟨cells, i1, i2, i3, i4, W⟩, q⟩ := h
    refine ⟨_, C8.pss_cut (ps_if (PW.pt (pw_and (pt_cmpR op_eq (pe_ix ix_list (pv 0) pe_int (fun _ _ => rfl)) pe_int (nomark _)) (pw_and1 (pt_cmpR op_lt (pe_ix ix_list (pv 0) pe_int (fun _ _ => rfl)) (pe_callB call_len_seq (by rfl) T.b_len PySem.boot_len (pa_cons (pe_ix ix_list (pv 0) pe_int (fun _ _ => rfl)) pa_nil)) (nomark _)))))
        (pss_cons (ps_set (i := 2) sc_law_draw.nd rfl (.inl rfl) (pe_ix ix_list (pe_ix ix_list (pv 0) pe_int (fun _ _ => rfl)) (pe_ix ix_list (pv 0) pe_int (fun _ _ => rfl)) (fun _ _ => rfl)))
          (pss_cons (ps_asg (pe_op op_add (pe_ix ix_list (pv 0) pe_int (fun _ _ => rfl)) pe_int) (pg_sub (pv 0) pe_int set_list))
          (pss_cons (ps_asg (pe_op op_mod (pe_callTy call_int1 (by rfl) T.b_int (by decide +kernel) (pa_cons (pe_op op_add (pe_op op_add (pe_op op_mul (pe_ix ix_list (pv 0) pe_int (fun _ _ => rfl)) pe_int) (pv 2)) pe_int) pa_nil)) pe_int) (pg_sub (pv 0) pe_int set_list))
          (pss_one (ps_if (pt_cmpR op_ge (pv 2) (pe_op op_pow pe_int pe_int) (nomark _)) (pss_one (ps_asg (pv 2) (pg_sub (pv 0) pe_int set_list))) pss_nil))))) pss_nil)
      (pss_cons (ps_if (pt_cmpR op_gt (pe_ix ix_list (pv 0) pe_int (fun _ _ => rfl)) pe_int (nomark _))
        (pss_cons (ps_set (i := 3) sc_law_draw.nd rfl (.inl rfl) (pe_op op_mod (pe_callTy call_int1 (by rfl) T.b_int (by decide +kernel) (pa_cons (pe_ix ix_list (pv 0) pe_int (fun _ _ => rfl)) pa_nil)) (pv 1)))
          (pss_cons (ps_asg (pe_op op_fdivN (pe_ix ix_list (pv 0) pe_int (fun _ _ => rfl)) (pv 1)) (pg_sub (pv 0) pe_int set_list)) (pss_one (ps_ret (pv 3))))) pss_nil)
      (pss_cons (ps_asg (pe_op op_add (pe_ix ix_list (pv 0) pe_int (fun _ _ => rfl)) pe_int) (pg_sub (pv 0) pe_int set_list))
      (pss_cons (ps_set (i := 4) sc_law_draw.nd rfl (.inl rfl) (pe_op op_mod (pe_callTy call_int1 (by rfl) T.b_int (by decide +kernel) (pa_cons (pe_op op_mul (pe_callTy call_int1 (by rfl) T.b_int (by decide +kernel) (pa_cons (pe_op op_add (pe_ix ix_list (pv 0) pe_int (fun _ _ => rfl)) (pe_op op_mul pe_int (pe_ix ix_list (pv 0) pe_int (fun _ _ => rfl)))) pa_nil)) pe_int) pa_nil)) pe_int))
      (pss_cons (ps_set (i := 4) sc_law_draw.nd rfl (.inl rfl) (pe_op op_mod (pe_callTy call_int1 (by rfl) T.b_int (by decide +kernel) (pa_cons (pe_op op_mul (pv 4) (pe_op op_add (pe_op op_fdiv (pv 4) pe_int) pe_int)) pa_nil)) pe_int))
      (pss_cons (ps_set (i := 4) sc_law_draw.nd rfl (.inl rfl) (pe_op op_mod (pe_callTy call_int1 (by rfl) T.b_int (by decide +kernel) (pa_cons (pe_op op_mul (pv 4) (pe_op op_add (pe_op op_fdiv (pv 4) pe_int) pe_int)) pa_nil)) pe_int))
      (pss_one (ps_ret (pe_op op_mod (pe_callTy call_int1 (by rfl) T.b_int (by decide +kernel) (pa_cons (pe_op op_fdiv (pv 4) pe_int) pa_nil)) (pv 1))))))))), ?_⟩
    refine ⟨fun σ H' => ∃ (x : Option V) (j1 j2 j3 j4 : Int), σ = [some (.ref g), some (.int m), x, none, none] ∧ But g H H' ∧ HandW g c cells j1 j2 j3 j4 H', ?_, ?_⟩
    · refine ⟨_, rfl, g, _, _, _, rfl, rfl, .of W.h, at_of (j := 2) rfl rfl, rfl, _, rfl, ?_⟩
      by_cases h2 : i2 = 0
      · rw [decide_eq_true (by rw [h2])]
        refine iteT ⟨_, rfl, g, _, _, _, rfl, rfl, .of W.h, at_of (j := 1) rfl rfl, _, rfl, g, _, _, _, rfl, rfl, .of W.h, at_of (j := 0) rfl rfl, _, _, rfl, .inl (.of W.hc), _, _, rfl, rfl, _, rfl, ?_⟩
        by_cases h1 : i1 < (((cells.map V.int).length : Nat) : Int)
        · rw [decide_eq_true h1]
          rw [List.length_map] at h1
          have hb1 := W.b1.1
          obtain ⟨k, rfl⟩ : ∃ k : Nat, i1 = (k : Int) := ⟨i1.toNat, by omega⟩
          have hk : cells[k]? = some (cells[k]'(by omega)) := List.getElem?_eq_getElem (by omega)
          have hpos := W.pos _ (List.getElem_mem (h := by omega) (l := cells) (n := k))
          refine iteT ⟨_, rfl, g, _, _, _, rfl, rfl, .of W.h, at_of (j := 0) rfl rfl, _, rfl, g, _, _, _, rfl, rfl, .of W.h, at_of (j := 1) rfl rfl, c, _, _, _, rfl, rfl, .of W.hc, atI_nat (int_at hk), ?_⟩
          dsimp only [gName, tSeq]
          refine ⟨_, rfl, g, _, _, _, rfl, rfl, .of W.h, at_of (j := 1) rfl rfl, _, _, rfl, rfl, _, rfl, g, _, _, _, rfl, rfl, W.h, rfl, ?_⟩
          refine ⟨_, rfl, g, _, _, _, rfl, rfl, .of upd_same, at_of (j := 3) rfl rfl, _, _, rfl, rfl, .inl ⟨by have := W.b3.1; omega, by have := W.b3.2; omega⟩, _, rfl, _, _, rfl, rfl, _, _, rfl, rfl, .inl ⟨_, rfl, _, _, rfl, rfl, (by dsimp only; decide), _, rfl, g, _, _, _, rfl, rfl, upd_same, rfl, ?_⟩⟩
          rw [upd_upd]
          have hm := mod_b (a := i3 * 69621 + cells[k]'(by omega) + 11) (m := 2147483629) (by decide)
          have W2 : HandW g c cells ((k : Int) + 1) i2 ((i3 * 69621 + cells[k]'(by omega) + 11) % 2147483629) i4 (upd H g (.lst (hl c ((k : Int) + 1) i2 ((i3 * 69621 + cells[k]'(by omega) + 11) % 2147483629) i4))) :=
            ⟨upd_same, by rw [upd_ne W.ne]; exact W.hc, W.len, W.pos, ⟨by omega, by omega⟩, W.b2, ⟨by omega, by omega⟩, W.b4⟩
          refine ⟨_, rfl, _, _, rfl, rfl, ⟨by decide, by decide, by decide⟩, _, _, rfl, rfl, _, rfl, ?_⟩
          refine ite2 (fun hc => ?_) (fun hc => ?_)
          · refine ⟨_, rfl, _, rfl, g, _, _, _, rfl, rfl, upd_same, rfl, ?_⟩
            rw [upd_upd]
            exact ⟨_, _, _, _, _, rfl, but_upd, upd_same, by rw [upd_ne W.ne]; exact W.hc, W.len, W.pos, W2.b1, hpos, W2.b3, W2.b4⟩
          · exact ⟨_, _, _, _, _, rfl, but_upd, W2⟩
        · rw [decide_eq_false h1]
          exact iteF ⟨_, _, _, _, _, rfl, .refl _ _, W⟩
      · rw [decide_eq_false (fun e => h2 (V.int.inj e))]
        exact iteF ⟨_, _, _, _, _, rfl, .refl _ _, W⟩
    · rintro σ H2 ⟨x, j1, j2, j3, j4, rfl, bt, W2⟩
      refine ⟨_, rfl, g, _, _, _, rfl, rfl, .of W2.h, at_of (j := 2) rfl rfl, _, _, rfl, rfl, _, rfl, ?_⟩
      refine ite2 (fun hc => ?_) (fun hc => ?_)
      · refine ⟨_, rfl, g, _, _, _, rfl, rfl, .of W2.h, at_of (j := 2) rfl rfl, .inl ⟨_, rfl, _, rfl, _, _, rfl, rfl, m0, ?_⟩⟩
        dsimp only [gName, tSeq]
        refine ⟨_, rfl, g, _, _, _, rfl, rfl, .of W2.h, at_of (j := 2) rfl rfl, _, rfl, _, _, rfl, rfl, ⟨by omega, by omega⟩, _, rfl, g, _, _, _, rfl, rfl, W2.h, rfl, _, rfl, ?_⟩
        have hm := mod_b (a := j2) m0
        refine q _ _ (bt.trans but_upd) ⟨cells, _, _, _, _, upd_same, by rw [upd_ne W2.ne]; exact W2.hc, W2.len, W2.pos, W2.b1, ?_, W2.b3, W2.b4⟩ hm.1 hm.2
        rw [Int.fdiv_eq_ediv_of_nonneg _ (by omega)]
        exact Int.ediv_nonneg W2.b2 (by omega)
      · refine ⟨_, rfl, g, _, _, _, rfl, rfl, .of W2.h, at_of (j := 4) rfl rfl, _, _, rfl, rfl, _, rfl, g, _, _, _, rfl, rfl, W2.h, rfl, ?_⟩
        have W3 : HandW g c cells j1 j2 j3 (j4 + 1) (upd H2 g (.lst (hl c j1 j2 j3 (j4 + 1)))) := ⟨upd_same, by rw [upd_ne W2.ne]; exact W2.hc, W2.len, W2.pos, W2.b1, W2.b2, W2.b3, by have := W2.b4; omega⟩
        refine ⟨_, rfl, g, _, _, _, rfl, rfl, .of upd_same, at_of (j := 3) rfl rfl, _, rfl, g, _, _, _, rfl, rfl, .of upd_same, at_of (j := 4) rfl rfl, _, _, rfl, rfl, .inl ⟨by decide, by decide⟩, _, _, rfl, rfl, .inl ⟨_, rfl, _, _, rfl, rfl, .inr ⟨by decide, by decide⟩, .inl ⟨_, rfl, _, _, rfl, rfl, (by dsimp only; decide), ?_⟩⟩⟩
        dsimp only [gName, tSeq]
        generalize hn1 : (j3 + 7919 * (j4 + 1)) * 48271 % 2147483647 = n1
        have a1 := mod_b (a := (j3 + 7919 * (j4 + 1)) * 48271) (m := 2147483647) (by decide)
        rw [hn1] at a1
        refine ⟨_, rfl, _, rfl, _, _, rfl, rfl, ⟨by decide, by decide⟩, _, _, rfl, rfl, _, _, rfl, rfl, .inl ⟨by omega, by omega⟩, .inl ⟨_, rfl, _, _, rfl, rfl, (by dsimp only; decide), ?_⟩⟩
        dsimp only [gName, tSeq]
        generalize hn2 : n1 * (n1 / 1009 + 69621) % 2147483647 = n2
        have a2 := mod_b (a := n1 * (n1 / 1009 + 69621)) (m := 2147483647) (by decide)
        rw [hn2] at a2
        refine ⟨_, rfl, _, rfl, _, _, rfl, rfl, ⟨by decide, by decide⟩, _, _, rfl, rfl, _, _, rfl, rfl, .inl ⟨by omega, by omega⟩, .inl ⟨_, rfl, _, _, rfl, rfl, (by dsimp only; decide), ?_⟩⟩
        dsimp only [gName, tSeq]
        generalize hn3 : n2 * (n2 / 2003 + 40692) % 2147483399 = n3
        refine ⟨_, rfl, _, _, rfl, rfl, ⟨by decide, by decide⟩, .inl ⟨_, rfl, _, rfl, _, _, rfl, rfl, m0, ?_⟩⟩
        have hm := mod_b (a := n3 / 16) m0
        exact q _ _ (bt.trans but_upd) ⟨cells, _, _, _, _, W3⟩ hm.1 hm.2
end
end S4

namespace S4
open PySem L2 TT MM
theorem walk_zipT {K : PySem.W.Frag} {a b : Addr} {xs ys : List V} {n : Nat} (hn : n = min xs.length ys.length) : Walk (RZ.ItzT K a b) n (fun H => SqT K H a xs ∧ SqT K H b ys) (YPair (fun i => xs[i]?) (fun i => ys[i]?)) := by
  subst hn
  refine ⟨fun i _ hi q => ?_, fun _ q => ⟨xs, ys, q.1, q.2, by omega⟩, fun i H v H' _ q y => ?_⟩
  · have h1 : i < xs.length := by omega
    have h2 : i < ys.length := by omega
    exact ⟨xs, ys, xs[i], ys[i], q.1, q.2, by simp [h1], by simp [h2]⟩
  · obtain ⟨T, x, z, h1, h2, h3, h4, h5⟩ := y
    exact ⟨T, x, z, h1, h2, h3, h4 xs q.1, h5 ys q.2⟩
/-- two values of the same data, of the same kinds, n deep -/
def Alike (H : Hp) : Nat → V → V → Prop
  | 0, x, y => ∃ k, x = .int k ∧ y = .int k
  | n + 1, x, y => (∃ k, x = .int k ∧ y = .int k) ∨ ∃ a b xs ys, x = .ref a ∧ y = .ref b ∧ ((H a = some (.tup xs) ∧ H b = some (.tup ys)) ∨ (H a = some (.lst xs) ∧ H b = some (.lst ys))) ∧ xs.length ≤ 1000 ∧ Paired (Alike H n) xs ys
theorem alike_same {H H' : Hp} (s : Same H H') : ∀ (n : Nat) {x y : V}, Alike H n x y → Alike H' n x y
  | 0, _, _, h => h
  | n + 1, _, _, h => by
    rcases h with h | ⟨a, b, xs, ys, e1, e2, h, hl, hp⟩
    · exact .inl h
    · refine .inr ⟨a, b, xs, ys, e1, e2, ?_, hl, Paired.mapP hp fun _ _ q => alike_same s n q⟩
      rcases h with ⟨h1, h2⟩ | ⟨h1, h2⟩
      · exact .inl ⟨s _ _ h1, s _ _ h2⟩
      · exact .inr ⟨s _ _ h1, s _ _ h2⟩
section
variable {K : PySem.W.Frag}
theorem kit_lt : PySem.W.kitOne K (.type "list") (.type "tuple") = some false := kit_ty (by decide +kernel)
theorem kit_ll : PySem.W.kitOne K (.type "list") (.type "list") = some true := kit_ty (by decide +kernel)
theorem kit_it : PySem.W.kitOne K (.type "int") (.type "tuple") = some false := kit_ty (by decide +kernel)
theorem kit_il : PySem.W.kitOne K (.type "int") (.type "list") = some false := kit_ty (by decide +kernel)
theorem kitA_t : PySem.W.kitAny K (.type "tuple") [.type "tuple", .type "list"] = some true := by unfold PySem.W.kitAny; rw [kit_tt]
theorem kitA_l : PySem.W.kitAny K (.type "list") [.type "tuple", .type "list"] = some true := by
  unfold PySem.W.kitAny
  rw [kit_lt]
  show PySem.W.kitAny K (.type "list") [.type "list"] = some true
  unfold PySem.W.kitAny
  rw [kit_ll]
theorem kitA_i : PySem.W.kitAny K (.type "int") [.type "tuple", .type "list"] = some false := by
  unfold PySem.W.kitAny
  rw [kit_it]
  show PySem.W.kitAny K (.type "int") [.type "list"] = some false
  unfold PySem.W.kitAny
  rw [kit_il]
  rfl
end
section
variable {P : Program} {w : World} {K : PySem.W.Frag} {mg : Str → Option Value} {base : Heap} {cT cS : Addr}
def spAny : Sp := fun vs H Q _ => ∃ (g c b : Addr) (xs : List V), vs = [.ref g, .ref b] ∧ H b = some (.lst xs) ∧ b ≠ g ∧ 0 < xs.length ∧ xs.length < 1000000 ∧ Hand g c H ∧ ∀ H' (i : Nat) x, But g H H' → Hand g c H' → xs[i]? = some x → Q x H'
theorem ok_any (T : Tx K mg cT cS) {f : Addr} {fd : FuncData} (d : D K mg "_law_any" s_law_any ["hand", "some"] f fd) : FnOk P w K mg base CX0 2 f fd ["hand", "some"] spAny := by
  obtain ⟨f1, fd1, d1⟩ := T.d_law_draw
  have G1 : FnOk P w K mg base CX0 1 f1 fd1 ["hand", "many"] spDraw := ok_draw T d1
  refine d.F.ok sc_law_any (fun vs H Q E h => ?_) (fun cdv A outer s H vs Q E hr h => ?_)
  · obtain ⟨g, c, b, xs, rfl, _⟩ := h
    rfl
  · obtain ⟨g, c, b, xs, rfl, hb, hne, h0, h1, hh, q⟩ := h
    refine ⟨_, pss_one (ps_ret (pe_ix ix_list (pv 1) (pe_call G1 hr rfl d1.m d1.F.kp d1.b .nil pass0 (pa_cons (pv 0) (pa_cons (pe_callB call_len_seq (by rfl) T.b_len PySem.boot_len (pa_cons (pv 1) pa_nil)) pa_nil))) (fun _ _ => rfl))), ?_⟩
    refine ⟨_, rfl, _, rfl, _, rfl, _, _, rfl, .inl (.of hb), g, c, _, rfl, by omega, by omega, hh, fun H2 n bt hh2 n0 n1 => ?_⟩
    obtain ⟨k, rfl⟩ : ∃ k : Nat, n = (k : Int) := ⟨n.toNat, by omega⟩
    have hk : xs[k]? = some (xs[k]'(by omega)) := List.getElem?_eq_getElem (by omega)
    exact ⟨b, xs, _, _, rfl, rfl, .of (bt.lst hne hb), atI_nat hk, q _ k _ bt hh2 hk⟩
end
end S4

/-! rows modulo a number: what they span, the ladder of a room is only one -/
namespace MM
/-- alike modulo p -/
def Cg (p a b : Int) : Prop := p ∣ a - b
theorem Cg.refl {p : Int} (a : Int) : Cg p a a := by unfold Cg; rw [Int.sub_self]; exact Int.dvd_zero p
theorem Cg.of_eq {p a b : Int} (h : a = b) : Cg p a b := h ▸ .refl a
theorem Cg.symm {p a b : Int} (h : Cg p a b) : Cg p b a := by
  obtain ⟨k, hk⟩ := h
  exact ⟨-k, by rw [Int.mul_neg, ← hk]; omega⟩
theorem Cg.trans {p a b c : Int} (h : Cg p a b) (g : Cg p b c) : Cg p a c := by
  obtain ⟨k, hk⟩ := h
  obtain ⟨l, hl⟩ := g
  exact ⟨k + l, by rw [Int.mul_add, ← hk, ← hl]; omega⟩
theorem Cg.add {p a b c d : Int} (h : Cg p a b) (g : Cg p c d) : Cg p (a + c) (b + d) := by
  obtain ⟨k, hk⟩ := h
  obtain ⟨l, hl⟩ := g
  exact ⟨k + l, by rw [Int.mul_add, ← hk, ← hl]; omega⟩
theorem Cg.mul {p a b c d : Int} (h : Cg p a b) (g : Cg p c d) : Cg p (a * c) (b * d) := by
  obtain ⟨k, hk⟩ := h
  obtain ⟨l, hl⟩ := g
  refine ⟨k * c + b * l, ?_⟩
  have e1 : a = b + p * k := by omega
  have e2 : c = d + p * l := by omega
  subst e1 e2
  simp only [Int.mul_add, Int.add_mul]
  have h1 : p * k * d = p * (k * d) := Int.mul_assoc _ _ _
  have h2 : p * k * (p * l) = p * (k * (p * l)) := Int.mul_assoc _ _ _
  have h3 : b * (p * l) = p * (b * l) := by rw [← Int.mul_assoc, Int.mul_comm b p, Int.mul_assoc]
  omega
theorem Cg.neg {p a b : Int} (h : Cg p a b) : Cg p (-a) (-b) := by
  obtain ⟨k, hk⟩ := h
  exact ⟨-k, by rw [Int.mul_neg, ← hk]; omega⟩
theorem Cg.sub {p a b c d : Int} (h : Cg p a b) (g : Cg p c d) : Cg p (a - c) (b - d) := by
  have := h.add g.neg
  rwa [← Int.sub_eq_add_neg, ← Int.sub_eq_add_neg] at this
theorem Cg.mod {p : Int} (a : Int) : Cg p (a % p) a := by
  refine ⟨-(a / p), ?_⟩
  have := Int.mul_ediv_add_emod a p
  rw [Int.mul_neg]
  omega
theorem Cg.eq {p a b : Int} (h : Cg p a b) (a0 : 0 ≤ a) (a1 : a < p) (b0 : 0 ≤ b) (b1 : b < p) : a = b := by
  obtain ⟨k, hk⟩ := h
  have p0 : 0 < p := by omega
  rcases Int.lt_trichotomy k 0 with h | h | h
  · have : p * k ≤ p * (-1) := Int.mul_le_mul_of_nonneg_left (by omega) (by omega)
    omega
  · subst h
    omega
  · have : p * 1 ≤ p * k := Int.mul_le_mul_of_nonneg_left (by omega) (by omega)
    omega
theorem Cg.zero_of {p a : Int} (h : Cg p a 0) (a0 : 0 ≤ a) (a1 : a < p) : a = 0 := h.eq a0 a1 (by omega) (by omega)
/-! ### what rows span -/
abbrev Vc := Nat → Int
inductive Spn (p : Int) (R : Vc → Prop) : Vc → Prop
  | zero {v : Vc} : (∀ x, Cg p (v x) 0) → Spn p R v
  | add {u r v : Vc} (c : Int) : Spn p R u → R r → (∀ x, Cg p (v x) (u x + c * r x)) → Spn p R v
section
variable {p : Int} {R R' : Vc → Prop}
theorem Spn.cg {u v : Vc} (h : Spn p R u) (e : ∀ x, Cg p (v x) (u x)) : Spn p R v := by
  cases h with
  | zero h => exact .zero fun x => (e x).trans (h x)
  | add c hu hr h => exact .add c hu hr fun x => (e x).trans (h x)
theorem Spn.row {r : Vc} (h : R r) : Spn p R r := .add 1 (.zero (v := fun _ => 0) fun _ => .refl 0) h fun x => .of_eq (by omega)
theorem Spn.plus {u w v : Vc} (c : Int) (hu : Spn p R u) (hw : Spn p R w) (e : ∀ x, Cg p (v x) (u x + c * w x)) : Spn p R v := by
  induction hw generalizing v with
  | @zero w h =>
    refine hu.cg fun x => (e x).trans ?_
    have := (Cg.refl (p := p) (u x)).add ((Cg.refl c).mul (h x))
    rwa [Int.mul_zero, Int.add_zero] at this
  | @add w' r w d hw' hr h ih =>
    have h1 : Spn p R (fun x => u x + c * w' x) := ih fun x => .refl _
    refine .add (c * d) h1 hr fun x => (e x).trans ?_
    have := (Cg.refl (p := p) (u x)).add ((Cg.refl c).mul (h x))
    refine this.trans (.of_eq ?_)
    rw [Int.mul_add, ← Int.mul_assoc]
    omega
theorem Spn.sub (hs : ∀ r, R r → Spn p R' r) {v : Vc} (h : Spn p R v) : Spn p R' v := by
  induction h with
  | zero h => exact .zero h
  | add c _ hr h ih => exact .plus c ih (hs _ hr) h
theorem Spn.mono (hs : ∀ r, R r → R' r) {v : Vc} (h : Spn p R v) : Spn p R' v := h.sub fun r hr => .row (hs r hr)
/-- two lots of rows, each in the room of the other -/
def Same2 (p : Int) (R R' : Vc → Prop) : Prop := ∀ v, Spn p R v ↔ Spn p R' v
theorem same2_of (h1 : ∀ r, R r → Spn p R' r) (h2 : ∀ r, R' r → Spn p R r) : Same2 p R R' := fun v => ⟨fun h => h.sub h1, fun h => h.sub h2⟩
/-- what is 0 in the places of all rows is so in all of the room -/
theorem Spn.nought {v : Vc} {x : Nat} (h : Spn p R v) (hr : ∀ r, R r → Cg p (r x) 0) : Cg p (v x) 0 := by
  induction h with
  | zero h => exact h x
  | @add u r v c hu hr' h ih =>
    have := ih.add ((Cg.refl c).mul (hr r hr'))
    rw [Int.mul_zero, Int.add_zero] at this
    exact (h x).trans this
end
/-! ### sums over a list of places -/
def sumP (P : List Nat) (f : Nat → Int) : Int := (P.map f).sum
theorem sumP_cons (i : Nat) (P : List Nat) (f : Nat → Int) : sumP (i :: P) f = f i + sumP P f := by unfold sumP; rw [List.map_cons, List.sum_cons]
theorem sumP_add (P : List Nat) (f g : Nat → Int) : sumP P (fun i => f i + g i) = sumP P f + sumP P g := by
  induction P with
  | nil => rfl
  | cons i P ih => rw [sumP_cons, sumP_cons, sumP_cons, ih]; omega
theorem sumP_mul (P : List Nat) (c : Int) (f : Nat → Int) : sumP P (fun i => c * f i) = c * sumP P f := by
  induction P with
  | nil => show (0 : Int) = c * 0; rw [Int.mul_zero]
  | cons i P ih => rw [sumP_cons, sumP_cons, ih, Int.mul_add]
theorem sumP_cg {p : Int} {P : List Nat} {f g : Nat → Int} (h : ∀ i ∈ P, Cg p (f i) (g i)) : Cg p (sumP P f) (sumP P g) := by
  induction P with
  | nil => exact .refl _
  | cons i P ih =>
    rw [sumP_cons, sumP_cons]
    exact (h i (by simp)).add (ih fun j hj => h j (by simp [hj]))
theorem sumP_zero {p : Int} {P : List Nat} {f : Nat → Int} (h : ∀ i ∈ P, Cg p (f i) 0) : Cg p (sumP P f) 0 := by
  have := sumP_cg (g := fun _ => 0) h
  have e : sumP P (fun _ => 0) = 0 := by
    clear this h
    induction P with
    | nil => rfl
    | cons i P ih => rw [sumP_cons, ih]; rfl
  rwa [e] at this
/-- only one of the places counts -/
theorem sumP_one {p : Int} {P : List Nat} {f : Nat → Int} {k : Nat} (nd : P.Nodup) (hk : k ∈ P) (h : ∀ i ∈ P, i ≠ k → Cg p (f i) 0) : Cg p (sumP P f) (f k) := by
  induction P with
  | nil => cases hk
  | cons i P ih =>
    obtain ⟨n1, n2⟩ := List.nodup_cons.mp nd
    rw [sumP_cons]
    by_cases e : i = k
    · subst e
      have := (Cg.refl (p := p) (f i)).add (sumP_zero (p := p) (P := P) (f := f) fun j hj => h j (by simp [hj]) fun q => n1 (q ▸ hj))
      rwa [Int.add_zero] at this
    · have hk' : k ∈ P := by
        rcases List.mem_cons.mp hk with q | q
        · exact absurd q.symm e
        · exact q
      have := (h i (by simp) e).add (ih n2 hk' fun j hj => h j (by simp [hj]))
      rwa [Int.zero_add] at this
/-! ### ladders -/
/-- rows by their first places -/
structure Lad (p : Int) (P : List Nat) (r : Nat → Vc) : Prop where
  nd : P.Nodup
  one : ∀ i ∈ P, Cg p (r i i) 1
  off : ∀ i ∈ P, ∀ j ∈ P, j ≠ i → Cg p (r i j) 0
  low : ∀ i ∈ P, ∀ x, x < i → Cg p (r i x) 0
def rungs (P : List Nat) (r : Nat → Vc) : Vc → Prop := fun v => ∃ i ∈ P, v = r i
section
variable {p : Int} {P P' : List Nat} {r r' : Nat → Vc}
theorem Lad.self (L : Lad p P r) {k : Nat} (hk : k ∈ P) (x : Nat) : Cg p (sumP P fun i => r k i * r i x) (r k x) := by
  refine (sumP_one L.nd hk fun i hi e => ?_).trans ?_
  · have := (L.off k hk i hi e).mul (Cg.refl (r i x))
    rwa [Int.zero_mul] at this
  · have := (L.one k hk).mul (Cg.refl (r k x))
    rwa [Int.one_mul] at this
/-- a row of the room is told by its values in the first places -/
theorem Lad.coord (L : Lad p P r) {v : Vc} (h : Spn p (rungs P r) v) (x : Nat) : Cg p (v x) (sumP P fun i => v i * r i x) := by
  induction h with
  | @zero v h =>
    refine (h x).trans (sumP_zero fun i hi => ?_).symm
    have := (h i).mul (Cg.refl (r i x))
    rwa [Int.zero_mul] at this
  | @add u w v c hu hw h ih =>
    obtain ⟨k, hk, rfl⟩ := hw
    have h1 : Cg p (sumP P fun i => v i * r i x) (sumP P fun i => u i * r i x + c * (r k i * r i x)) := sumP_cg fun i hi => by
      have := (h i).mul (Cg.refl (p := p) (r i x))
      refine this.trans (.of_eq ?_)
      rw [Int.add_mul, Int.mul_assoc]
    rw [sumP_add, sumP_mul] at h1
    exact (h x).trans (((ih.add ((Cg.refl c).mul (L.self hk x).symm))).trans h1.symm)
theorem Lad.zero (L : Lad p P r) {v : Vc} (h : Spn p (rungs P r) v) (hz : ∀ i ∈ P, Cg p (v i) 0) (x : Nat) : Cg p (v x) 0 := (L.coord h x).trans (sumP_zero fun i hi => by
  have := (hz i hi).mul (Cg.refl (p := p) (r i x))
  rwa [Int.zero_mul] at this)
/-- the first place of a row of the room is one of the first places -/
theorem Lad.lead (L : Lad p P r) {v : Vc} (h : Spn p (rungs P r) v) {x : Nat} (hx : ¬ Cg p (v x) 0) (hl : ∀ y, y < x → Cg p (v y) 0) : x ∈ P := by
  by_cases hm : x ∈ P
  · exact hm
  · exfalso
    refine hx ((L.coord h x).trans (sumP_zero fun i hi => ?_))
    rcases Nat.lt_trichotomy i x with q | q | q
    · have := (hl i q).mul (Cg.refl (p := p) (r i x))
      rwa [Int.zero_mul] at this
    · exact absurd (q ▸ hi) hm
    · have := (Cg.refl (p := p) (v i)).mul (L.low i hi x q)
      rwa [Int.mul_zero] at this
theorem one_ne {p a : Int} (p2 : 2 ≤ p) (h : Cg p a 1) : ¬ Cg p a 0 := fun h0 => by
  have := (h.symm.trans h0).eq (by omega) (by omega) (by omega) (by omega)
  omega
/-- the ladder of a room is only one: the places -/
theorem Lad.places (L : Lad p P r) (L' : Lad p P' r') (p2 : 2 ≤ p) (hs : Same2 p (rungs P r) (rungs P' r')) {i : Nat} (hi : i ∈ P) : i ∈ P' :=
  L'.lead ((hs _).mp (.row ⟨i, hi, rfl⟩)) (one_ne p2 (L.one i hi)) (L.low i hi)
theorem Same2.symm {R R' : Vc → Prop} (h : Same2 p R R') : Same2 p R' R := fun v => (h v).symm
theorem Same2.trans {R R' R2 : Vc → Prop} (h : Same2 p R R') (g : Same2 p R' R2) : Same2 p R R2 := fun v => (h v).trans (g v)
/-- and the rows -/
theorem Lad.rows (L : Lad p P r) (L' : Lad p P' r') (p2 : 2 ≤ p) (hs : Same2 p (rungs P r) (rungs P' r')) {i : Nat} (hi : i ∈ P) (x : Nat) : Cg p (r i x) (r' i x) := by
  have hi' := L.places L' p2 hs hi
  have hc := L'.coord ((hs _).mp (.row ⟨i, hi, rfl⟩)) x
  refine hc.trans ((sumP_one L'.nd hi' fun j hj e => ?_).trans ?_)
  · have hj' := L'.places L p2 hs.symm hj
    have := (L.off i hi j hj' e).mul (Cg.refl (p := p) (r' j x))
    rwa [Int.zero_mul] at this
  · have := (L.one i hi).mul (Cg.refl (p := p) (r' i x))
    rwa [Int.one_mul] at this
/-- one row more: the rest of it, cleared of the ladder, made to begin with 1 -/
theorem Lad.more (L : Lad p P r) {g : Vc} {k : Nat} (hk : k ∉ P) (g1 : Cg p (g k) 1) (g0 : ∀ i ∈ P, Cg p (g i) 0) (gl : ∀ x, x < k → Cg p (g x) 0)
    {q : Nat → Vc} (hq : ∀ x, Cg p (q k x) (g x)) (ho : ∀ i ∈ P, ∀ x, Cg p (q i x) (r i x - r i k * g x)) : Lad p (P ++ [k]) q := by
  have hne : ∀ i ∈ P, i ≠ k := fun i hi e => hk (e ▸ hi)
  have low0 : ∀ i ∈ P, ∀ x, x < i → Cg p (r i k * g x) 0 := fun i hi x hx => by
    by_cases h : x < k
    · have := (Cg.refl (p := p) (r i k)).mul (gl x h)
      rwa [Int.mul_zero] at this
    · have := (L.low i hi k (by omega)).mul (Cg.refl (p := p) (g x))
      rwa [Int.zero_mul] at this
  refine ⟨?_, fun i hi => ?_, fun i hi j hj e => ?_, fun i hi x hx => ?_⟩
  · rw [List.nodup_append]
    exact ⟨L.nd, by simp, fun a ha b hb => by rw [List.mem_singleton.mp hb]; exact hne a ha⟩
  · rcases List.mem_append.mp hi with hi | hi
    · have := (L.one i hi).sub ((Cg.refl (p := p) (r i k)).mul (g0 i hi))
      rw [Int.mul_zero, Int.sub_zero] at this
      exact (ho i hi i).trans this
    · rw [List.mem_singleton.mp hi]
      exact (hq k).trans g1
  · rcases List.mem_append.mp hi with hi | hi
    · rcases List.mem_append.mp hj with hj | hj
      · have := (L.off i hi j hj e).sub ((Cg.refl (p := p) (r i k)).mul (g0 j hj))
        rw [Int.mul_zero, Int.sub_zero] at this
        exact (ho i hi j).trans this
      · rw [List.mem_singleton.mp hj]
        have := (Cg.refl (p := p) (r i k)).sub ((Cg.refl (p := p) (r i k)).mul g1)
        rw [Int.mul_one, Int.sub_self] at this
        exact (ho i hi k).trans this
    · rw [List.mem_singleton.mp hi] at e ⊢
      rcases List.mem_append.mp hj with hj | hj
      · exact (hq j).trans (g0 j hj)
      · exact absurd (List.mem_singleton.mp hj) e
  · rcases List.mem_append.mp hi with hi | hi
    · have := (L.low i hi x hx).sub (low0 i hi x hx)
      rw [Int.sub_zero] at this
      exact (ho i hi x).trans this
    · rw [List.mem_singleton.mp hi] at hx ⊢
      exact (hq x).trans (gl x hx)
theorem Lad.nil (p : Int) (r : Nat → Vc) : Lad p [] r := ⟨.nil, fun _ h => (nomatch h), fun _ h => (nomatch h), fun _ h => (nomatch h)⟩
end
end MM

namespace MM
section
variable {p : Int} {P : List Nat} {r : Nat → Vc}
/-- the room of one row more -/
theorem Lad.moreSpan (L : Lad p P r) {g : Vc} {k : Nat} {q : Nat → Vc} (hq : ∀ x, Cg p (q k x) (g x)) (ho : ∀ i ∈ P, ∀ x, Cg p (q i x) (r i x - r i k * g x)) :
    Same2 p (rungs (P ++ [k]) q) (fun v => rungs P r v ∨ v = g) := by
  refine same2_of (fun v hv => ?_) (fun v hv => ?_)
  · obtain ⟨i, hi, rfl⟩ := hv
    rcases List.mem_append.mp hi with hi | hi
    · refine .plus (-(r i k)) (.row (.inl ⟨i, hi, rfl⟩)) (.row (.inr rfl)) fun x => (ho i hi x).trans (.of_eq ?_)
      rw [Int.neg_mul]
      omega
    · rw [List.mem_singleton.mp hi]
      exact (Spn.row (.inr rfl)).cg hq
  · have hg : Spn p (rungs (P ++ [k]) q) g := (Spn.row ⟨k, by simp, rfl⟩).cg fun x => (hq x).symm
    rcases hv with ⟨i, hi, rfl⟩ | rfl
    · refine .plus (r i k) (.row ⟨i, by simp [hi], rfl⟩) hg fun x => ?_
      have := (ho i hi x).add (Cg.refl (p := p) (r i k * g x))
      refine (this.trans (.of_eq ?_)).symm
      omega
    · exact hg
/-- the same room, with one row more each -/
theorem same2_more {R R' : Vc → Prop} (h : Same2 p R R') {g row rest : Vc} {c d : Int} (hw : Spn p R' (fun x => row x - rest x)) (hg : ∀ x, Cg p (g x) (c * rest x)) (hr : ∀ x, Cg p (rest x) (d * g x)) :
    Same2 p (fun v => R v ∨ v = g) (fun v => R' v ∨ v = row) := by
  have up : ∀ {R : Vc → Prop} {u v : Vc}, Spn p R v → Spn p (fun v => R v ∨ v = u) v := fun h => h.mono fun _ q => .inl q
  refine same2_of (fun v hv => ?_) (fun v hv => ?_)
  · rcases hv with hv | rfl
    · exact up ((h v).mp (.row hv))
    · have h1 : Spn p (fun v => R' v ∨ v = row) rest := .plus (-1) (.row (.inr rfl)) (up hw) fun x => .of_eq (by omega)
      refine .plus c (.zero (v := fun _ => 0) fun _ => .refl 0) h1 fun x => (hg x).trans (.of_eq (by omega))
  · rcases hv with hv | rfl
    · exact up ((h v).mpr (.row hv))
    · have h1 : Spn p (fun v => R v ∨ v = g) rest := .plus d (.zero (v := fun _ => 0) fun _ => .refl 0) (.row (.inr rfl)) fun x => (hr x).trans (.of_eq (by omega))
      exact .plus 1 h1 (up ((h _).mpr hw)) fun x => .of_eq (by omega)
theorem same2_in {R R' : Vc → Prop} (h : Same2 p R R') {row : Vc} (hw : Spn p R' row) : Same2 p R (fun v => R' v ∨ v = row) := by
  refine same2_of (fun v hv => ?_) (fun v hv => ?_)
  · exact ((h v).mp (.row hv)).mono fun _ q => .inl q
  · rcases hv with hv | rfl
    · exact (h v).mpr (.row hv)
    · exact (h _).mpr hw
end
/-! ### the inverse, by the steps of the program -/
/-- what holds of ahead, now, before, factor -/
structure Eu (p v a n b f : Int) : Prop where
  ha : Cg p (b * v) a
  hn : Cg p (f * v) n
  g : Int.gcd a n = 1
  n0 : 0 < n
  na : n ≤ a
  sz : ∃ s t u : Int, (s = 1 ∨ s = -1) ∧ 0 ≤ t ∧ 0 ≤ u ∧ b = -s * t ∧ f = s * u ∧ t * n + u * a = p
theorem Eu.step {p v a n b f : Int} (E : Eu p v a n b f) (h1 : n ≠ 1) : Eu p v n (a - a / n * n) f (b - a / n * f) ∧ a - a / n * n < n := by
  have hn := E.n0
  have hm : a - a / n * n = a % n := by
    have := Int.mul_ediv_add_emod a n
    rw [Int.mul_comm] at this
    omega
  have h0 := Int.emod_nonneg a (by omega : n ≠ 0)
  have hlt := Int.emod_lt_of_pos a hn
  have q0 : 0 ≤ a / n := Int.ediv_nonneg (by have := E.na; omega) (by omega)
  have hg : Int.gcd n (a % n) = 1 := by
    rw [← hm, Int.gcd_sub_mul_right_right, Int.gcd_comm]
    exact E.g
  have hne : a % n ≠ 0 := fun e => by
    rw [e, Int.gcd_zero_right] at hg
    omega
  obtain ⟨s, t, u, hs, ht, hu, hb, hf, he⟩ := E.sz
  refine ⟨⟨E.hn, ?_, by rw [hm]; exact hg, by omega, by omega, ⟨-s, u, t + a / n * u, by omega, hu, ?_, ?_, ?_, ?_⟩⟩, by omega⟩
  · have := E.ha.sub ((Cg.refl (p := p) (a / n)).mul E.hn)
    refine (Cg.of_eq ?_).trans this
    rw [Int.sub_mul, Int.mul_assoc]
  · have := Int.mul_nonneg q0 hu
    omega
  · rw [hf, Int.neg_neg]
  · rw [hb, hf, Int.mul_add, Int.neg_mul, Int.neg_mul]
    have : a / n * (s * u) = s * (a / n * u) := by rw [← Int.mul_assoc, Int.mul_comm (a / n) s, Int.mul_assoc]
    omega
  · rw [← he, Int.mul_sub, Int.add_mul]
    have e1 : u * (a / n * n) = a / n * u * n := by rw [← Int.mul_assoc, Int.mul_comm u (a / n)]
    omega
theorem Eu.start {p v : Int} (v0 : 0 < v) (v1 : v < p) (g : Int.gcd p v = 1) : Eu p v p v 0 1 :=
  ⟨by rw [Int.zero_mul]; exact ⟨-1, by rw [Int.mul_neg, Int.mul_one]; omega⟩, by rw [Int.one_mul]; exact .refl v, g, v0, by omega, 1, 0, 1, .inl rfl, by omega, by omega, by omega, by omega, by omega⟩
theorem Eu.exists {p v : Int} : ∀ (m : Nat) {a n b f : Int}, Eu p v a n b f → n ≤ (m : Int) → ∃ u, Cg p (u * v) 1
  | 0, _, _, _, _, E, h => by have := E.n0; omega
  | m + 1, a, n, b, f, E, h => by
    by_cases h1 : n = 1
    · subst h1
      exact ⟨f, E.hn⟩
    · obtain ⟨E2, hlt⟩ := E.step h1
      exact Eu.exists m E2 (by omega)
/-- bounded throughout -/
theorem Eu.small {p v a n b f : Int} (E : Eu p v a n b f) : -p ≤ b ∧ b ≤ p ∧ -p ≤ f ∧ f ≤ p ∧ a ≤ p ∨ f = 0 := by
  obtain ⟨s, t, u, hs, ht, hu, hb, hf, he⟩ := E.sz
  have hn := E.n0
  have ha := E.na
  have e1 : t ≤ t * n := by
    have := Int.mul_le_mul_of_nonneg_left (show (1 : Int) ≤ n by omega) ht
    rwa [Int.mul_one] at this
  have e2 : u ≤ u * a := by
    have := Int.mul_le_mul_of_nonneg_left (show (1 : Int) ≤ a by omega) hu
    rwa [Int.mul_one] at this
  have f1 : 0 ≤ t * n := Int.mul_nonneg ht (by omega)
  have f2 : 0 ≤ u * a := Int.mul_nonneg hu (by omega)
  by_cases hu0 : u = 0
  · right
    rw [hf, hu0, Int.mul_zero]
  · left
    have e3 : a ≤ u * a := by
      have := Int.mul_le_mul_of_nonneg_right (show (1 : Int) ≤ u by omega) (show 0 ≤ a by omega)
      rwa [Int.one_mul] at this
    rcases hs with rfl | rfl
    · rw [Int.one_mul] at hf
      rw [Int.neg_mul, Int.one_mul] at hb
      exact ⟨by omega, by omega, by omega, by omega, by omega⟩
    · rw [Int.neg_neg, Int.one_mul] at hb
      rw [Int.neg_mul, Int.one_mul] at hf
      exact ⟨by omega, by omega, by omega, by omega, by omega⟩
end MM

namespace MM
/-! ### primes -/
/-- no divisor but 1 and itself, by divisors up to the root -/
def Prm (p : Int) : Prop := 2 ≤ p ∧ ∀ k : Int, 2 ≤ k → k * k ≤ p → p % k ≠ 0
theorem Prm.gcd {p v : Int} (h : Prm p) (v0 : 0 < v) (v1 : v < p) : Int.gcd p v = 1 := by
  obtain ⟨p2, hd⟩ := h
  have g1 : ((Int.gcd p v : Nat) : Int) ∣ p := Int.gcd_dvd_left ..
  have g2 : ((Int.gcd p v : Nat) : Int) ∣ v := Int.gcd_dvd_right ..
  have gle : ((Int.gcd p v : Nat) : Int) ≤ v := Int.le_of_dvd v0 g2
  have g0 : Int.gcd p v ≠ 0 := fun e => by
    rw [e] at g2
    have := Int.zero_dvd.mp g2
    omega
  by_cases h1 : Int.gcd p v = 1
  · exact h1
  · exfalso
    generalize hd' : ((Int.gcd p v : Nat) : Int) = d at *
    have d2 : 2 ≤ d := by omega
    obtain ⟨e, he⟩ := g1
    have e2 : 2 ≤ e := by
      rcases Int.lt_trichotomy e 1 with q | q | q
      · have : d * e ≤ d * 0 := Int.mul_le_mul_of_nonneg_left (by omega) (by omega)
        omega
      · subst q
        omega
      · omega
    rcases Int.le_total d e with q | q
    · refine hd d d2 ?_ ?_
      · rw [he]
        exact Int.mul_le_mul_of_nonneg_left q (by omega)
      · rw [he]
        exact Int.mul_emod_right d e
    · refine hd e e2 ?_ ?_
      · rw [he]
        exact Int.mul_le_mul_of_nonneg_right q (by omega)
      · rw [he]
        exact Int.mul_emod_left d e
theorem Prm.inv {p v : Int} (h : Prm p) (v0 : 0 < v) (v1 : v < p) : ∃ u, Cg p (u * v) 1 :=
  Eu.exists v.toNat (Eu.start v0 v1 (h.gcd v0 v1)) (by omega)
/-- an inverse is only one -/
theorem inv_one {p u w v : Int} (h1 : Cg p (u * v) 1) (h2 : Cg p (w * v) 1) : Cg p u w := by
  have a1 := (h2.mul (Cg.refl (p := p) u))
  rw [Int.one_mul] at a1
  have a2 := (h1.mul (Cg.refl (p := p) w))
  rw [Int.one_mul] at a2
  refine a1.symm.trans ((Cg.of_eq ?_).trans a2)
  rw [Int.mul_assoc, Int.mul_comm v u, Int.mul_comm w]
/-! ### Fermat -/
def prodL : List Int → Int
  | [] => 1
  | a :: l => a * prodL l
theorem prodL_perm {l m : List Int} (h : l.Perm m) : prodL l = prodL m := by
  induction h with
  | nil => rfl
  | cons a _ ih => show a * _ = a * _; rw [ih]
  | swap a b l => show b * (a * _) = a * (b * _); rw [← Int.mul_assoc, ← Int.mul_assoc, Int.mul_comm a b]
  | trans _ _ h1 h2 => rw [h1, h2]
def ones (p : Int) : List Int := (List.range (p - 1).toNat).map fun (i : Nat) => (i : Int) + 1
theorem ones_mem {p x : Int} : x ∈ ones p ↔ 0 < x ∧ x < p := by
  unfold ones
  rw [List.mem_map]
  constructor
  · rintro ⟨i, hi, rfl⟩
    have := List.mem_range.mp hi
    omega
  · rintro ⟨a, b⟩
    exact ⟨(x - 1).toNat, List.mem_range.mpr (by omega), by omega⟩
theorem ones_nodup (p : Int) : (ones p).Nodup := by
  unfold ones
  rw [List.nodup_iff_pairwise_ne, List.pairwise_map]
  exact List.nodup_range.imp fun {a b} h e => h (by omega)
theorem ones_len (p : Int) : (ones p).length = (p - 1).toNat := by simp [ones]
theorem prodL_map {p a : Int} : ∀ l : List Int, Cg p (prodL (l.map fun x => a * x % p)) (a ^ l.length * prodL l)
  | [] => .of_eq (by show (1 : Int) = a ^ 0 * 1; rw [Int.pow_zero]; rfl)
  | x :: l => by
    have h := (Cg.mod (p := p) (a * x)).mul (prodL_map (p := p) (a := a) l)
    refine h.trans (.of_eq ?_)
    show a * x * (a ^ l.length * prodL l) = a ^ (l.length + 1) * (x * prodL l)
    rw [Int.pow_succ, Int.mul_assoc, Int.mul_assoc, ← Int.mul_assoc x, Int.mul_comm x, Int.mul_assoc, ← Int.mul_assoc a, Int.mul_comm a, Int.mul_assoc]
theorem Prm.prod_inv {p : Int} (h : Prm p) : ∀ l : List Int, (∀ x ∈ l, 0 < x ∧ x < p) → ∃ w, Cg p (w * prodL l) 1
  | [], _ => ⟨1, .refl _⟩
  | x :: l, hl => by
    obtain ⟨w, hw⟩ := h.prod_inv l fun y hy => hl y (by simp [hy])
    obtain ⟨x0, x1⟩ := hl x (by simp)
    obtain ⟨u, hu⟩ := h.inv x0 x1
    refine ⟨u * w, ?_⟩
    have := hu.mul hw
    refine (Cg.of_eq ?_).trans this
    show u * w * (x * prodL l) = u * x * (w * prodL l)
    rw [Int.mul_assoc, Int.mul_assoc, ← Int.mul_assoc w, Int.mul_comm w, Int.mul_assoc]
theorem Prm.fermat {p a : Int} (h : Prm p) (a0 : 0 < a) (a1 : a < p) : Cg p (a ^ (p - 1).toNat) 1 := by
  have p2 := h.1
  obtain ⟨u, hu⟩ := h.inv a0 a1
  have cancel : ∀ x : Int, Cg p (u * (a * x)) x := fun x => by
    have := hu.mul (Cg.refl (p := p) x)
    rw [Int.one_mul, Int.mul_assoc] at this
    exact this
  have inR : ∀ x, 0 < x → x < p → 0 < a * x % p ∧ a * x % p < p := fun x x0 x1 => by
    have n0 := Int.emod_nonneg (a * x) (by omega : p ≠ 0)
    have n1 := Int.emod_lt_of_pos (a * x) (by omega : 0 < p)
    refine ⟨?_, n1⟩
    rcases Int.lt_or_eq_of_le n0 with q | q
    · exact q
    · exfalso
      have c0 : Cg p (a * x) 0 := (Cg.mod (a * x)).symm.trans (.of_eq q.symm)
      have := (Cg.refl (p := p) u).mul c0
      rw [Int.mul_zero] at this
      have := ((cancel x).symm.trans this).zero_of (by omega) x1
      omega
  have perm : ((ones p).map fun x => a * x % p).Perm (ones p) := by
    refine (List.perm_ext_iff_of_nodup ?_ (ones_nodup p)).mpr fun y => ?_
    · rw [List.nodup_iff_pairwise_ne, List.pairwise_map]
      refine List.Pairwise.imp_of_mem (fun {x y} hx hy hne e => ?_) (ones_nodup p)
      obtain ⟨x0, x1⟩ := ones_mem.mp hx
      obtain ⟨y0, y1⟩ := ones_mem.mp hy
      have c : Cg p (a * x) (a * y) := (Cg.mod (a * x)).symm.trans ((Cg.of_eq e).trans (Cg.mod (a * y)))
      have := (Cg.refl (p := p) u).mul c
      exact hne (((cancel x).symm.trans (this.trans (cancel y))).eq (by omega) x1 (by omega) y1)
    · rw [ones_mem, List.mem_map]
      constructor
      · rintro ⟨x, hx, rfl⟩
        obtain ⟨x0, x1⟩ := ones_mem.mp hx
        exact inR x x0 x1
      · rintro ⟨y0, y1⟩
        have m0 := Int.emod_nonneg (u * y) (by omega : p ≠ 0)
        have m1 := Int.emod_lt_of_pos (u * y) (by omega : 0 < p)
        have c1 : Cg p (a * (u * y % p)) y := by
          have := (Cg.refl (p := p) a).mul (Cg.mod (p := p) (u * y))
          refine this.trans ?_
          refine (Cg.of_eq ?_).trans (cancel y)
          rw [← Int.mul_assoc, Int.mul_comm a u, Int.mul_assoc]
        have e1 : a * (u * y % p) % p = y := ((Cg.mod _).trans c1).eq (Int.emod_nonneg _ (by omega)) (Int.emod_lt_of_pos _ (by omega)) (by omega) y1
        refine ⟨u * y % p, ones_mem.mpr ⟨?_, m1⟩, e1⟩
        rcases Int.lt_or_eq_of_le m0 with q | q
        · exact q
        · exfalso
          rw [← q, Int.mul_zero, Int.zero_emod] at e1
          omega
  have h1 := prodL_map (p := p) (a := a) (ones p)
  rw [prodL_perm perm, ones_len] at h1
  obtain ⟨w, hw⟩ := h.prod_inv (ones p) fun x hx => ones_mem.mp hx
  have h2 := (Cg.refl (p := p) w).mul h1
  have h3 : Cg p (w * (a ^ (p - 1).toNat * prodL (ones p))) (a ^ (p - 1).toNat) := by
    have := (Cg.refl (p := p) (a ^ (p - 1).toNat)).mul hw
    rw [Int.mul_one] at this
    refine (Cg.of_eq ?_).trans this
    rw [← Int.mul_assoc, Int.mul_comm w, Int.mul_assoc]
  exact h3.symm.trans (h2.symm.trans hw)
/-- the power that the check takes is the inverse -/
theorem Prm.turn {p a : Int} (h : Prm p) (a0 : 0 < a) (a1 : a < p) : Cg p (a ^ (p - 2).toNat * a) 1 := by
  have p2 := h.1
  have e : (p - 1).toNat = (p - 2).toNat + 1 := by omega
  have := h.fermat a0 a1
  rw [e, Int.pow_succ] at this
  exact this
end MM

namespace S4
open PySem L2 TT MM
theorem twice {Y G : Prop} (h : Y → G) (y : Y) : G := h y
theorem hu64 {k : Nat} {A : Around} (r : Room k A) : A.units + 64 < cLine := by have := r.un; omega
theorem paired_take {α β : Type} {F : α → β → Prop} : ∀ {xs : List α} {l : List β} (k : Nat), Paired F xs l → Paired F (xs.take k) (l.take k)
  | _, _, 0, _ => .nil
  | _, _, k + 1, .nil => .nil
  | _, _, k + 1, .cons r t => .cons r (paired_take k t)
end S4

namespace S4
open PySem L2 TT MM
section
variable {P : Program} {w : World} {K : PySem.W.Frag} {mg : Str → Option Value} {base : Heap} {cT cS : Addr}
def spInverse : Sp := fun vs H Q _ => ∃ (p v : Int), vs = [.int p, .int v] ∧ p ≤ 1000000 ∧ 0 < v ∧ v < p ∧ Int.gcd p v = 1 ∧ ∀ u, 0 ≤ u → u < p → Cg p (u * v) 1 → ∀ H', Same H H' → Q (.int u) H'
theorem ok_inverse (T : Tx K mg cT cS) {f : Addr} {fd : FuncData} (d : D K mg "inverse" s_inverse ["p", "value"] f fd) : FnOk P w K mg base CX0 1 f fd ["p", "value"] spInverse := by
  refine d.F.ok sc_inverse (fun vs H Q E h => ?_) (fun cdv A outer s H vs Q E hr h => ?_)
  · obtain ⟨p, v, rfl, _⟩ := h
    rfl
  · obtain ⟨p, v, rfl, pm, v0, v1, hg, q⟩ := h
    refine ⟨_, pss_cons (ps_par (i := 2) (j := 3) (by rfl) sc_inverse.nd rfl rfl (by decide) rfl rfl (pa_cons (pv 0) (pa_cons (pv 1) pa_nil)) (by rfl))
      (pss_cons (ps_asg (pe_tup (pa_cons pe_int (pa_cons pe_int pa_nil))) (pg_tup rfl (pgs_cons (pg_name (i := 4) sc_inverse.nd rfl (.inl rfl)) (pgs_cons (pg_name (i := 5) sc_inverse.nd rfl (.inl rfl)) pgs_nil))))
      (pss_cons (ps_while PassesOwn.never (pt_cmpR op_ne (pv 3) pe_int (nomark _))
        (pss_cons (ps_set (i := 6) sc_inverse.nd rfl (.inl rfl) (pe_op op_fdivN (pv 2) (pv 3)))
        (pss_cons (ps_par (i := 2) (j := 3) (by rfl) sc_inverse.nd rfl rfl (by decide) rfl rfl (pa_cons (pv 3) (pa_cons (pe_op op_sub (pv 2) (pe_op op_mul (pv 6) (pv 3))) pa_nil)) (by rfl))
        (pss_one (ps_par (i := 4) (j := 5) (by rfl) sc_inverse.nd rfl rfl (by decide) rfl rfl (pa_cons (pv 5) (pa_cons (pe_op op_sub (pv 4) (pe_op op_mul (pv 6) (pv 5))) pa_nil)) (by rfl))))))
      (pss_one (ps_ret (pe_op op_mod (pv 5) (pv 0)))))), ?_⟩
    refine ⟨_, rfl, _, rfl, _, _, rfl, ?_⟩
    refine ⟨by show 2 ≤ sizeLine; decide, fun t nt => ⟨t, _, rfl, .of upd_same, rfl, _, _, rfl, _, _, rfl, rfl, ?_⟩⟩
    dsimp only [gName, tSeq]
    refine while_by (fun σ H' => ∃ a n b f x, σ = [some (.int p), some (.int v), some (.int a), some (.int n), some (.int b), some (.int f), x] ∧ Eu p v a n b f ∧ a ≤ p ∧ Same H H')
      (fun σ _ => match σ[3]? with | some (some (V.int n)) => n.toNat | _ => 0) ⟨p, v, 0, 1, none, rfl, Eu.start v0 v1 hg, Int.le_refl _, same_new nt⟩ ?_ ?_
    · rintro σ H1 ⟨a, n, b, f, x, rfl, EE, ap, ss⟩
      refine ⟨_, rfl, rfl, _, rfl, ?_⟩
      by_cases h1 : n = 1
      · subst h1
        rw [decide_eq_true rfl]
        have m := mod_b (a := f) (m := p) (by omega)
        refine iteF ⟨_, rfl, _, rfl, _, _, rfl, rfl, by omega, q _ m.1 m.2 (((Cg.mod f).mul (Cg.refl v)).trans EE.hn) _ ss⟩
      · rw [decide_eq_false (fun e => h1 (V.int.inj e))]
        obtain ⟨E2, hlt⟩ := EE.step h1
        have hn := EE.n0
        have hna := EE.na
        have t0 : 0 ≤ a / n := Int.ediv_nonneg (by omega) (by omega)
        have t1 : a / n ≤ a := Int.ediv_le_self _ (by omega)
        refine iteT ⟨_, rfl, _, rfl, _, _, rfl, rfl, ⟨by omega, by omega⟩, ?_⟩
        dsimp only [gName, tSeq]
        rw [Int.fdiv_eq_ediv_of_nonneg _ (by omega)]
        refine ⟨_, rfl, _, rfl, _, rfl, _, rfl, _, _, rfl, rfl, .inl ⟨by omega, by omega⟩, _, _, rfl, rfl, _, _, rfl, ?_⟩
        dsimp only [gName, tSeq]
        refine ⟨_, rfl, _, rfl, _, rfl, _, rfl, _, _, rfl, rfl, .inl ⟨by omega, by omega⟩, _, _, rfl, rfl, _, _, rfl, ?_⟩
        refine ⟨⟨_, _, _, _, _, rfl, E2, by omega, ss⟩, ?_⟩
        show (a - a / n * n).toNat < n.toNat
        omega
    · rintro σ H' Q1 Q2 i ⟨x, e1, h1, k, e2, h⟩
      exact ⟨x, e1, h1, k, e2, i _ _ h⟩
def spFirst : Sp := fun vs H Q _ => ∃ (v : V) (l : List Int) (wd : Nat), vs = [v, .int (wd : Int)] ∧ rRow H v l ∧ wd ≤ l.length ∧ wd ≤ 100000 ∧
  ((∀ x, x < wd → l.getD x 0 = 0) → Q .non H) ∧ (∀ k, k < wd → l.getD k 0 ≠ 0 → (∀ x, x < k → l.getD x 0 = 0) → Q (.int (k : Nat)) H)
theorem ok_first (T : Tx K mg cT cS) {f : Addr} {fd : FuncData} (d : D K mg "first_place" s_first_place ["row", "wide"] f fd) : FnOk P w K mg base CX0 1 f fd ["row", "wide"] spFirst := by
  refine d.F.ok sc_first_place (fun vs H Q E h => ?_) (fun cdv A outer s H vs Q E hr h => ?_)
  · obtain ⟨v, l, wd, rfl, _⟩ := h
    rfl
  · obtain ⟨v, l, wd, rfl, ⟨t, rfl, ht⟩, hw, hw2, q1, q2⟩ := h
    refine ⟨_, pss_cons (ps_for PassesOwn.never rfl (pi_range1 rfl T.b_range (pa_cons (pv 1) pa_nil)) (pg_name (i := 2) sc_first_place.nd rfl (Or.inl rfl))
        (pss_one (ps_if (pt_truth (pe_ix ix_tup (pv 0) (pv 2) (fun _ _ => rfl)) (by intro _; rfl)) (pss_one (ps_ret (pv 2))) pss_nil)))
      (pss_one (ps_ret pe_non)), ?_⟩
    refine ⟨_, rfl, _, rfl, by omega, by omega, ?_⟩
    refine for_it (walk_range (lo := 0) (n := ((wd : Nat) : Int).toNat)) (fun i σ H' => ∃ x, σ = [some (.ref t), some (.int (wd : Int)), x] ∧ H' = H ∧ ∀ x, x < i → l.getD x 0 = 0) ⟨none, rfl, rfl, fun x hx => absurd hx (Nat.not_lt_zero _)⟩ (fun i σ H' _ h => trivial) ?_ ?_
    · rintro i x σ H1 H2 hi ⟨y, rfl, rfl, hz⟩ ⟨rfl, rfl⟩
      rw [Int.toNat_natCast] at hi
      have hx : l[i]? = some l[i] := List.getElem?_eq_getElem (by omega)
      have eg : l.getD i 0 = l[i] := getD_at hx
      refine ⟨_, rfl, _, rfl, t, _, _, V.int l[i], rfl, rfl, .of ht, by rw [Int.zero_add]; exact atI_nat (int_at hx), ?_⟩
      refine ⟨_, rfl, ?_⟩
      by_cases h0 : l[i] = 0
      · rw [h0]
        refine iteF ⟨_, rfl, rfl, fun x hx => ?_⟩
        by_cases e : x = i
        · subst e; rw [eg]; exact h0
        · exact hz x (by omega)
      · have hb : (l[i] != 0) = true := by rw [bne_iff_ne]; exact h0
        rw [hb]
        refine iteT ⟨_, rfl, ?_⟩
        have := q2 i hi (by rw [eg]; exact h0) hz
        show Q (V.int (0 + (i : Int))) _
        rw [Int.zero_add]
        exact this
    · rintro σ H1 ⟨y, rfl, rfl, hz⟩
      rw [Int.toNat_natCast] at hz
      exact q1 hz
end
end S4

namespace S4
open PySem L2 TT MM
/-- a row less so many times another -/
def lessL (p : Int) (l r : List Int) (m : Int) : List Int := (List.range l.length).map fun (i : Nat) => (l.getD i 0 - m * r.getD i 0) % p
def mulL (p f : Int) (l : List Int) : List Int := l.map fun x => f * x % p
abbrev RG := List (Nat × List Int)
def clr1 (p : Int) (l : List Int) (z : Nat × List Int) : List Int := if l.getD z.1 0 = 0 then l else lessL p l z.2 (l.getD z.1 0)
def clr (p : Int) (rs : RG) (l : List Int) : List Int := rs.foldl (clr1 p) l
theorem lessL_len (p : Int) (l r : List Int) (m : Int) : (lessL p l r m).length = l.length := by unfold lessL; rw [List.length_map, List.length_range]
theorem clr1_len (p : Int) (l : List Int) (z : Nat × List Int) : (clr1 p l z).length = l.length := by
  unfold clr1
  split
  · rfl
  · exact lessL_len _ _ _ _
theorem clr_len (p : Int) (rs : RG) : ∀ l : List Int, (clr p rs l).length = l.length := by
  induction rs with
  | nil => intro l; rfl
  | cons z rs ih => intro l; show (clr p rs (clr1 p l z)).length = _; rw [ih, clr1_len]
def InB (p : Int) (l : List Int) : Prop := ∀ x ∈ l, 0 ≤ x ∧ x < p
theorem lessL_in {p : Int} (p0 : 0 < p) (l r : List Int) (m : Int) : InB p (lessL p l r m) := fun x hx => by
  obtain ⟨i, _, rfl⟩ := List.mem_map.mp hx
  exact mod_b p0
theorem clr1_in {p : Int} (p0 : 0 < p) {l : List Int} (h : InB p l) (z : Nat × List Int) : InB p (clr1 p l z) := by
  unfold clr1
  split
  · exact h
  · exact lessL_in p0 _ _ _
theorem clr_in {p : Int} (p0 : 0 < p) (rs : RG) : ∀ {l : List Int}, InB p l → InB p (clr p rs l) := by
  induction rs with
  | nil => intro l h; exact h
  | cons z rs ih => intro l h; exact ih (clr1_in p0 h z)
theorem getD_in {p : Int} (p0 : 0 < p) {l : List Int} (h : InB p l) (i : Nat) : 0 ≤ l.getD i 0 ∧ l.getD i 0 < p := by
  rw [List.getD_eq_getElem?_getD]
  cases e : l[i]? with
  | none => exact ⟨Int.le_refl _, p0⟩
  | some x => exact h x (List.mem_of_getElem? e)
/-- a dict of rows by places, in the heap -/
def kvR (H : Hp) : (L2.Key × V) → (Nat × List Int) → Prop := fun kv z => kv.1 = Sum.inl ((z.1 : Nat) : Int) ∧ rRow H kv.2 z.2
def rDict (H : Hp) (u : HO) (rs : RG) : Prop := ∃ kvs, u = .dK kvs ∧ Paired (kvR H) kvs rs
theorem kvR_mono {H H' : Hp} (k : ∀ t xs, H t = some (.tup xs) → H' t = some (.tup xs)) {kvs : List (L2.Key × V)} {rs : RG} (h : Paired (kvR H) kvs rs) : Paired (kvR H') kvs rs :=
  Paired.mapP h fun _ _ ⟨e, t, e2, h2⟩ => ⟨e, t, e2, k _ _ h2⟩
theorem val_at : ∀ {kvs : List (L2.Key × V)} {rs : RG} {H : Hp} {i : Nat} {k : L2.Key} {v : V}, Paired (kvR H) kvs rs → (rs.map (·.1)).Nodup → kvs[i]? = some (k, v) → valV kvs k = some v
  | _, _, _, i, k, v, .nil, _, h => by simp at h
  | _, _, _, 0, k, v, .cons r t, nd, h => by
    have h := Option.some.inj h
    subst h
    exact valV_pos rfl
  | (k0, v0) :: kvs, z :: rs, H, i + 1, k, v, .cons r t, nd, h => by
    obtain ⟨n1, n2⟩ := List.nodup_cons.mp nd
    have h' : kvs[i]? = some (k, v) := h
    have ih := val_at t n2 h'
    obtain ⟨y, hy, hr⟩ := paired_get t h'
    have hne : ¬ k0 = k := fun e => by
      have e1 := r.1
      have e2 := hr.1
      simp only at e1 e2
      rw [e, e2] at e1
      have e3 := Sum.inl.inj e1
      have e4 : y.1 = z.1 := by omega
      exact n1 (List.mem_map.mpr ⟨y, List.mem_of_getElem? hy, e4⟩)
    rw [valV_neg hne]
    exact ih
section
variable {P : Program} {w : World} {K : PySem.W.Frag} {mg : Str → Option Value} {base : Heap} {cT cS : Addr}
def spMult : Sp := fun vs H Q _ => ∃ (v : V) (l : List Int) (p f : Int), vs = [.int p, .int f, v] ∧ rRow H v l ∧ 0 < p ∧ (-(2 ^ 63) < f ∧ f < 2 ^ 63) ∧ l.length ≤ 1000 ∧ ∀ H' v', Same H H' → rRow H' v' (mulL p f l) → Q v' H'
theorem ok_mult (T : Tx K mg cT cS) {f : Addr} {fd : FuncData} (d : D K mg "multiplied" s_multiplied ["p", "factor", "row"] f fd) : FnOk P w K mg base CX0 1 f fd ["p", "factor", "row"] spMult := by
  refine d.F.ok sc_multiplied (fun vs H Q E h => ?_) (fun cdv A outer s H vs Q E hr h => ?_)
  · obtain ⟨v, l, p, f, rfl, _⟩ := h
    rfl
  · obtain ⟨v, l, p, f, rfl, ⟨t, rfl, ht⟩, p0, fb, hl, q⟩ := h
    refine ⟨_, pss_one (ps_ret (pe_callTy call_tuple_of (by rfl) T.b_tuple (by decide +kernel) (pa_cons
        (pe_lc (own := [("value", 3)]) (g := gName 3) (tt := tYes) rfl sc_multiplied.nd (pi_tup (pv 2)) (blkOk_by (N := N_multiplied) (sc := defScope s_multiplied) (by decide +kernel)) (fun _ _ _ _ _ => pg_name (i := 3) sc_multiplied.nd rfl (Or.inl rfl)) (fun _ _ _ _ _ => pts_nil)
          (fun _ _ _ _ _ => pe_op op_mod (pe_op op_mul (pv 1) (pv 3)) (pv 0))) pa_nil))), ?_⟩
    refine ⟨_, rfl, t, rfl, ⟨_, .of ht⟩, fun D hD => ?_⟩
    refine lc_fm (walk_tup (xs := l.map V.int)) rInt (fun i => l[i]?.bind fun x => some (f * x % p)) hD (fun H' s' => .of (s'.keep.tup ht)) ?_ ?_
    · rintro i x H2 H3 hi pv ⟨rfl, hx⟩
      obtain ⟨j, hj, rfl⟩ := at_int hx
      rw [List.length_map] at hi
      refine ⟨rfl, _, rfl, _, rfl, _, _, rfl, rfl, .inl ⟨by omega, by omega⟩, _, rfl, _, _, rfl, rfl, p0, ?_⟩
      exact fm_keep mono_int pv hD (by omega) (Same.refl _) (by rw [hj]; rfl) rfl
    · intro H2 ys s2 hD2 hp2
      rw [List.length_map, fm_some] at hp2
      have := paired_int hp2
      subst this
      exact ⟨D, _, rfl, .inl ⟨.of hD2, fun p np => q _ _ (s2.trans (same_new np)) ⟨p, rfl, upd_same⟩⟩⟩
def spCleared : Sp := fun vs H Q _ => ∃ (d : Addr) (u : HO) (v : V) (l : List Int) (rs : RG) (p : Int), vs = [.int p, .ref d, v] ∧ H d = some u ∧ rDict H u rs ∧ (rs.map (·.1)).Nodup ∧ rRow H v l ∧ 0 < p ∧ p ≤ 1000000 ∧ InB p l ∧ l.length ≤ 1000 ∧ rs.length ≤ 1000 ∧ (∀ z ∈ rs, z.1 < l.length ∧ z.2.length = l.length) ∧
  ∀ H' v', Same H H' → rRow H' v' (clr p rs l) → Q v' H'
theorem ok_cleared (T : Tx K mg cT cS) {f : Addr} {fd : FuncData} (d : D K mg "cleared" s_cleared ["p", "rungs", "row"] f fd) : FnOk P w K mg base CX0 1 f fd ["p", "rungs", "row"] spCleared := by
  refine d.F.ok sc_cleared (fun vs H Q E h => ?_) (fun cdv A outer s H vs Q E hr h => ?_)
  · obtain ⟨d, u, v, l, rs, p, rfl, _⟩ := h
    rfl
  · obtain ⟨dd, u, v, l, rs, p, rfl, hd, ⟨kvs, rfl, hk⟩, nd, hrow, p0, pm, hin, hl, hrs, hz, q⟩ := h
    refine ⟨_, pss_cons (ps_lock (ps_for PassesOwn.never rfl (pi_keys (pv 1)) (pg_name (i := 3) sc_cleared.nd rfl (Or.inl rfl))
        (pss_cons (ps_set (i := 4) sc_cleared.nd rfl (.inr rfl) (pe_ix ix_tup (pv 2) (pv 3) (fun _ _ => rfl)))
          (pss_one (ps_if (pt_truth (pv 4) (by intro _; rfl))
            (pss_one (ps_set (i := 2) sc_cleared.nd rfl (.inl rfl) (pe_callTy call_tuple_of (by rfl) T.b_tuple (by decide +kernel) (pa_cons
              (pe_lc (own := [("value", 5), ("less", 6)]) (g := gTup K 2 (gCons (gName 5) (gCons (gName 6) gNil))) (tt := tYes) rfl sc_cleared.nd (RZ.pi_zipA (by rfl) T.b_zip (pa_cons (pv 2) (pa_cons (pe_dget (hu_of hr) (pv 1) (pv 3) (fun _ _ => rfl)) pa_nil))) (blkOk_by (N := N_cleared) (sc := defScope s_cleared) (by decide +kernel))
                (fun _ _ _ _ _ => pgT rfl rfl (pgs_cons (pg_name (i := 5) sc_cleared.nd rfl (Or.inl rfl)) (pgs_cons (pg_name (i := 6) sc_cleared.nd rfl (Or.inl rfl)) pgs_nil))) (fun _ _ _ _ _ => pts_nil)
                (fun _ _ _ _ _ => pe_op op_mod (pe_op op_sub (pv 5) (pe_op op_mul (pv 4) (pv 6))) (pv 0))) pa_nil)))) pss_nil)))))
      (pss_one (ps_ret (pv 2))), ?_⟩
    refine ⟨dd, .dK kvs, hd, trivial, fun od => ?_⟩
    have k0 : ∀ t xs, H t = some (.tup xs) → (upd H dd (.frz od (.dK kvs))) t = some (.tup xs) := fun t xs h => by rw [upd_ne (ne_of h hd (fun z => nomatch z))]; exact h
    have hk0 := kvR_mono k0 hk
    have hlen := paired_len hk
    refine ⟨_, rfl, dd, od, rfl, .inl ⟨kvs, upd_same, ?_⟩⟩
    refine for_it (walk_keys (kvs := kvs)) (fun i σ H' => Same (upd H dd (.frz od (.dK kvs))) H' ∧ ∃ v' x y, σ = [some (.int p), some (.ref dd), some v', x, y, none, none] ∧ rRow H' v' (clr p (rs.take i) l))
      ⟨.refl _, v, none, none, rfl, let ⟨t, e, h⟩ := hrow; ⟨t, e, k0 _ _ h⟩⟩ (fun i σ H' _ h => h.1 _ _ upd_same) ?_ ?_
    · rintro i x σ H2 H3 hi ⟨s2, v', x3, y3, rfl, ⟨t', rfl, ht'⟩⟩ ⟨rfl, k, vv, hkv, rfl⟩
      obtain ⟨z, hz1, e1, hr1⟩ := paired_get (kvR_mono (fun t xs h => s2 _ _ h) hk0) hkv
      simp only at e1 hr1
      subst e1
      obtain ⟨zl, zr⟩ := hz z (List.mem_of_getElem? hz1)
      generalize hcur : clr p (rs.take i) l = cur at ht'
      have hcl : cur.length = l.length := by rw [← hcur, clr_len]
      have hci : InB p cur := by rw [← hcur]; exact clr_in p0 _ hin
      have hstep : clr p (rs.take (i + 1)) l = clr1 p cur z := by
        rw [← hcur, List.take_succ, hz1]
        unfold clr
        rw [List.foldl_append]
        rfl
      have hx : cur[z.1]? = some (cur[z.1]'(by omega)) := List.getElem?_eq_getElem (by omega)
      have hg : cur.getD z.1 0 = cur[z.1]'(by omega) := getD_at hx
      have hb := getD_in p0 hci z.1
      rw [hg] at hb
      refine ⟨_, rfl, _, rfl, t', _, _, _, rfl, rfl, .of ht', atI_nat (int_at hx), ?_⟩
      dsimp only [gName, tSeq]
      refine ⟨_, rfl, _, rfl, ?_⟩
      by_cases h0 : cur[z.1]'(by omega) = 0
      · rw [h0]
        refine iteF ⟨s2, _, _, _, rfl, t', rfl, ?_⟩
        rw [hstep]
        unfold clr1
        rw [if_pos (by rw [hg]; exact h0)]
        exact ht'
      · have hbn : (cur[z.1]'(by omega) != 0) = true := by rw [bne_iff_ne]; exact h0
        rw [hbn]
        obtain ⟨t2, rfl, ht2⟩ := hr1
        have hfr : H3 dd = some (.frz od (.dK kvs)) := s2 _ _ upd_same
        have hval := val_at hk nd hkv
        refine iteT ⟨_, rfl, _, rfl, _, rfl, dd, _, rfl, .inl ⟨kvs, _, .inr ⟨od, hfr⟩, rfl, hval.symm⟩, t', t2, _, _, rfl, .inr ⟨.of ht', .of ht2, fun D hD => ?_⟩⟩
        refine lc_fm (walk_zipT (n := cur.length) (by rw [List.length_map, List.length_map, zr, hcl]; omega)) rInt (fun i => some ((cur.getD i 0 - cur.getD z.1 0 * z.2.getD i 0) % p)) hD (fun H' s' => ⟨.of (s'.keep.tup ht'), .of (s'.keep.tup ht2)⟩) ?_ ?_
        · rintro j x H4 H5 hj pv ⟨tz, u1, u2, rfl, nz, rfl, e1, e2⟩
          obtain ⟨c1, hc1, rfl⟩ := at_int e1
          obtain ⟨c2, hc2, rfl⟩ := at_int e2
          refine ⟨tz, _, rfl, .of upd_same, rfl, _, _, rfl, _, _, rfl, rfl, rfl, ?_⟩
          refine ⟨_, rfl, _, rfl, _, rfl, _, _, rfl, rfl, .inl ⟨by omega, by omega⟩, _, _, rfl, rfl, _, rfl, _, _, rfl, rfl, p0, ?_⟩
          exact fm_keep mono_int pv hD (by omega) (same_new nz) rfl (by rw [getD_at hc1, getD_at hc2, hg]; rfl)
        · intro H4 ys s4 hD4 hp4
          rw [fm_all] at hp4
          have := paired_int hp4
          subst this
          refine ⟨D, _, rfl, .inl ⟨.of hD4, fun nt nnt => ?_⟩⟩
          refine ⟨s2.trans (s4.trans (same_new nnt)), _, _, _, rfl, nt, rfl, ?_⟩
          rw [hstep]
          unfold clr1
          rw [if_neg (by rw [hg]; exact h0)]
          exact upd_same
    · rintro σ H2 ⟨s2, v', x3, y3, rfl, ⟨t', rfl, ht'⟩⟩
      have hfr : H2 dd = some (.frz od (.dK kvs)) := s2 _ _ upd_same
      rw [hlen, List.take_length] at ht'
      refine ⟨hfr, _, rfl, q _ _ (fun b o e => ?_) ⟨t', rfl, by rw [upd_ne (ne_of ht' hfr (fun z => nomatch z))]; exact ht'⟩⟩
      by_cases hb : b = dd
      · subst hb
        rw [hd] at e
        cases e
        exact upd_same
      · rw [upd_ne hb]
        exact s2 _ _ (by rw [upd_ne hb]; exact e)
end
end S4

namespace S4
open PySem L2 TT MM
/-! ### rows as they are reasoned of -/
def vec (l : List Int) : Vc := fun x => l.getD x 0
def rowOf (rs : RG) (i : Nat) : List Int := ((rs.find? fun z => z.1 == i).map (·.2)).getD []
def rv (rs : RG) : Nat → Vc := fun i => vec (rowOf rs i)
theorem rowOf_mem : ∀ {rs : RG} {z : Nat × List Int}, (rs.map (·.1)).Nodup → z ∈ rs → rowOf rs z.1 = z.2
  | [], _, _, h => by cases h
  | y :: rs, z, nd, h => by
    obtain ⟨n1, n2⟩ := List.nodup_cons.mp nd
    unfold rowOf
    rw [List.find?_cons]
    by_cases e : y.1 = z.1
    · have hb : (y.1 == z.1) = true := beq_iff_eq.mpr e
      rw [hb]
      rcases List.mem_cons.mp h with q | q
      · rw [q]; rfl
      · exact absurd (List.mem_map.mpr ⟨z, q, e.symm⟩) n1
    · have hb : (y.1 == z.1) = false := beq_eq_false_iff_ne.mpr e
      rw [hb]
      rcases List.mem_cons.mp h with q | q
      · exact absurd (by rw [q]) e
      · exact rowOf_mem n2 q
theorem vec_over {l : List Int} {x : Nat} (h : l.length ≤ x) : vec l x = 0 := by
  unfold vec
  rw [List.getD_eq_getElem?_getD, List.getElem?_eq_none h]
  rfl
theorem vec_map {f : Nat → Int} {n x : Nat} (h : x < n) : vec ((List.range n).map f) x = f x := by
  unfold vec
  have : ((List.range n).map f)[x]? = some (f x) := by rw [List.getElem?_map, List.getElem?_range h]; rfl
  exact getD_at this
theorem lessL_vec {p : Int} {l r : List Int} (h : r.length = l.length) (m : Int) (x : Nat) : Cg p (vec (lessL p l r m) x) (vec l x - m * vec r x) := by
  by_cases hx : x < l.length
  · unfold lessL
    rw [vec_map hx]
    exact Cg.mod _
  · rw [vec_over (by rw [lessL_len]; omega), vec_over (by omega), vec_over (by omega), Int.mul_zero, Int.sub_zero]
    exact .refl _
theorem mulL_vec {p f : Int} {l : List Int} (x : Nat) : Cg p (vec (mulL p f l) x) (f * vec l x) := by
  by_cases hx : x < l.length
  · have h1 : l[x]? = some l[x] := List.getElem?_eq_getElem hx
    have h2 : (mulL p f l)[x]? = some (f * l[x] % p) := by unfold mulL; rw [List.getElem?_map, h1]; rfl
    unfold vec
    rw [getD_at h2, getD_at h1]
    exact Cg.mod _
  · rw [vec_over (by unfold mulL; rw [List.length_map]; omega), vec_over (by omega), Int.mul_zero]
    exact .refl _
theorem clr1_vec {p : Int} {l : List Int} {z : Nat × List Int} (h : z.2.length = l.length) (x : Nat) : Cg p (vec (clr1 p l z) x) (vec l x - vec l z.1 * vec z.2 x) := by
  unfold clr1
  split
  · rename_i h0
    have e : vec l z.1 = 0 := h0
    rw [e, Int.zero_mul, Int.sub_zero]
    exact .refl _
  · exact lessL_vec h _ x
section
variable {p : Int} {P : List Nat} {r : Nat → Vc}
/-- what clearing by some of the ladder's rows does -/
theorem clr_lad (L : Lad p P r) : ∀ (rs : RG) (l : List Int), (rs.map (·.1)).Nodup → (∀ z ∈ rs, z.1 ∈ P ∧ z.2.length = l.length ∧ ∀ x, r z.1 x = vec z.2 x) →
    Spn p (rungs P r) (fun x => vec l x - vec (clr p rs l) x) ∧ (∀ i ∈ P, i ∉ rs.map (·.1) → Cg p (vec (clr p rs l) i) (vec l i)) ∧ (∀ i ∈ rs.map (·.1), Cg p (vec (clr p rs l) i) 0)
  | [], l, _, _ => ⟨.zero fun x => .of_eq (by show vec l x - vec l x = 0; omega), fun i _ _ => .refl _, fun i h => by simp at h⟩
  | z :: rs, l, nd, hz => by
    obtain ⟨n1, n2⟩ := List.nodup_cons.mp nd
    obtain ⟨zP, zl, zr⟩ := hz z (by simp)
    have hs : ∀ x, Cg p (vec (clr1 p l z) x) (vec l x - vec l z.1 * r z.1 x) := fun x => by rw [zr]; exact clr1_vec zl x
    obtain ⟨a, b, c⟩ := clr_lad L rs (clr1 p l z) n2 fun y hy => by
      obtain ⟨y1, y2, y3⟩ := hz y (by simp [hy])
      exact ⟨y1, by rw [clr1_len]; exact y2, y3⟩
    have e : clr p (z :: rs) l = clr p rs (clr1 p l z) := rfl
    rw [e]
    have own : Cg p (vec (clr1 p l z) z.1) 0 := by
      have := (Cg.refl (p := p) (vec l z.1)).sub ((Cg.refl (p := p) (vec l z.1)).mul (L.one z.1 zP))
      rw [Int.mul_one, Int.sub_self] at this
      exact (hs z.1).trans this
    have oth : ∀ i ∈ P, i ≠ z.1 → Cg p (vec (clr1 p l z) i) (vec l i) := fun i hi hne => by
      have := (Cg.refl (p := p) (vec l i)).sub ((Cg.refl (p := p) (vec l z.1)).mul (L.off z.1 zP i hi hne))
      rw [Int.mul_zero, Int.sub_zero] at this
      exact (hs i).trans this
    refine ⟨.plus (vec l z.1) a (.row ⟨z.1, zP, rfl⟩) fun x => ?_, fun i hi hn => ?_, fun i hi => ?_⟩
    · have := (Cg.refl (p := p) (vec l x - vec (clr p rs (clr1 p l z)) x)).sub ((hs x).sub (Cg.refl (p := p) (vec l x - vec l z.1 * r z.1 x)))
      have h2 := hs x
      have h3 : Cg p (vec l x - vec (clr p rs (clr1 p l z)) x) (vec (clr1 p l z) x + vec l z.1 * r z.1 x - vec (clr p rs (clr1 p l z)) x) := by
        have h4 := (h2.symm.add (Cg.refl (p := p) (vec l z.1 * r z.1 x))).sub (Cg.refl (p := p) (vec (clr p rs (clr1 p l z)) x))
        refine (Cg.of_eq ?_).trans h4
        omega
      refine h3.trans (.of_eq ?_)
      omega
    · have hne : i ≠ z.1 := fun q => hn (by rw [q]; simp)
      have hn' : i ∉ rs.map (·.1) := fun q => hn (by simp only [List.map_cons, List.mem_cons]; exact .inr q)
      exact (b i hi hn').trans (oth i hi hne)
    · rcases List.mem_cons.mp (by simpa only [List.map_cons] using hi) with q | q
      · rw [q]
        exact (b z.1 zP n1).trans own
      · exact c i q
end
/-- the state of the going: right rows, a ladder, the room of the rows so far -/
structure St1 (p : Int) (wd : Nat) (rs : RG) (rows : List (List Int)) : Prop where
  lad : Lad p (rs.map (·.1)) (rv rs)
  ok : ∀ z ∈ rs, z.1 < wd ∧ z.2.length = wd ∧ InB p z.2
  room : Same2 p (rungs (rs.map (·.1)) (rv rs)) (fun v => ∃ l ∈ rows, v = vec l)
theorem St1.nil (p : Int) (wd : Nat) : St1 p wd [] [] := ⟨Lad.nil p _, fun z h => (nomatch h), same2_of (fun v h => by obtain ⟨i, hi, _⟩ := h; cases hi) (fun v h => by obtain ⟨i, hi, _⟩ := h; cases hi)⟩
theorem St1.len {p : Int} {wd : Nat} {rs : RG} {rows : List (List Int)} (S : St1 p wd rs rows) : rs.length ≤ wd := by
  have h : ∀ (P : List Nat) (n : Nat), P.Nodup → (∀ i ∈ P, i < n) → P.length ≤ n := fun P n nd hb => by
    have := nodup_len (l := P.map fun (i : Nat) => (i : Int)) (V := (List.range n).map fun (i : Nat) => (i : Int)) (by
      rw [List.nodup_iff_pairwise_ne, List.pairwise_map]
      exact (List.nodup_iff_pairwise_ne.mp nd).imp fun {a b} h e => h (by omega)) (fun v hv => by
      obtain ⟨i, hi, rfl⟩ := List.mem_map.mp hv
      exact List.mem_map.mpr ⟨i, List.mem_range.mpr (hb i hi), rfl⟩)
    rw [List.length_map, List.length_map, List.length_range] at this
    exact this
  have := h (rs.map (·.1)) wd S.lad.nd fun i hi => by
    obtain ⟨z, hz, rfl⟩ := List.mem_map.mp hi
    exact (S.ok z hz).1
  rw [List.length_map] at this
  exact this
section
variable {p : Int} {wd : Nat} {rs : RG} {rows : List (List Int)} {row : List Int}
theorem St1.clear (S : St1 p wd rs rows) (hl : row.length = wd) : Spn p (rungs (rs.map (·.1)) (rv rs)) (fun x => vec row x - vec (clr p rs row) x) ∧ ∀ i ∈ rs.map (·.1), Cg p (vec (clr p rs row) i) 0 := by
  obtain ⟨a, _, c⟩ := clr_lad S.lad rs row S.lad.nd fun z hz => ⟨List.mem_map.mpr ⟨z, hz, rfl⟩, by rw [(S.ok z hz).2.1, hl], fun x => by unfold rv; rw [rowOf_mem S.lad.nd hz]⟩
  exact ⟨a, c⟩
/-- a row that is in the room -/
theorem St1.skip (S : St1 p wd rs rows) (hl : row.length = wd) (hz : ∀ x, x < wd → (clr p rs row).getD x 0 = 0) : St1 p wd rs (rows ++ [row]) := by
  obtain ⟨a, _⟩ := S.clear hl
  refine ⟨S.lad, S.ok, ?_⟩
  have hin : Spn p (fun v => ∃ l ∈ rows, v = vec l) (vec row) := by
    refine (S.room _).mp (a.cg fun x => ?_)
    have e : vec (clr p rs row) x = 0 := by
      by_cases hx : x < wd
      · exact hz x hx
      · exact vec_over (by rw [clr_len]; omega)
    rw [e, Int.sub_zero]
    exact .refl _
  refine (same2_in S.room hin).trans (same2_of (fun v h => ?_) (fun v h => ?_))
  · rcases h with ⟨l, h1, rfl⟩ | rfl
    · exact .row ⟨l, by simp [h1], rfl⟩
    · exact .row ⟨row, by simp, rfl⟩
  · obtain ⟨l, h1, rfl⟩ := h
    rcases List.mem_append.mp h1 with h1 | h1
    · exact .row (.inl ⟨l, h1, rfl⟩)
    · rw [List.mem_singleton.mp h1]
      exact .row (.inr rfl)
/-- a row that is not -/
def putIn (p : Int) (rs : RG) (k : Nat) (g : List Int) : RG := rs.map (fun z => (z.1, clr p [(k, g)] z.2)) ++ [(k, g)]
theorem putIn_keys (p : Int) (rs : RG) (k : Nat) (g : List Int) : (putIn p rs k g).map (·.1) = rs.map (·.1) ++ [k] := by
  unfold putIn
  rw [List.map_append, List.map_map]
  rfl
theorem St1.put (S : St1 p wd rs rows) (p2 : 2 ≤ p) (hl : row.length = wd) (hin : InB p row) {k : Nat} {u : Int} (hk : k < wd) (h0 : (clr p rs row).getD k 0 ≠ 0) (hz : ∀ x, x < k → (clr p rs row).getD x 0 = 0)
    (hu : Cg p (u * (clr p rs row).getD k 0) 1) : St1 p wd (putIn p rs k (mulL p u (clr p rs row))) (rows ++ [row]) := by
  obtain ⟨a, c⟩ := S.clear hl
  generalize hr : clr p rs row = rest at *
  have hrl : rest.length = wd := by rw [← hr, clr_len]; exact hl
  have hri : InB p rest := by rw [← hr]; exact clr_in (by omega) rs hin
  have hgl : (mulL p u rest).length = wd := by unfold mulL; rw [List.length_map]; exact hrl
  have hgi : InB p (mulL p u rest) := fun x hx => by
    obtain ⟨y, _, rfl⟩ := List.mem_map.mp hx
    exact mod_b (by omega)
  have kP : k ∉ rs.map (·.1) := fun q => by
    have := c k q
    have b := getD_in (by omega) hri k
    exact h0 (this.zero_of b.1 b.2)
  have g1 : Cg p (vec (mulL p u rest) k) 1 := (mulL_vec k).trans hu
  have g0 : ∀ i ∈ rs.map (·.1), Cg p (vec (mulL p u rest) i) 0 := fun i hi => by
    have := (Cg.refl (p := p) u).mul (c i hi)
    rw [Int.mul_zero] at this
    exact (mulL_vec i).trans this
  have gl : ∀ x, x < k → Cg p (vec (mulL p u rest) x) 0 := fun x hx => by
    have := (Cg.refl (p := p) u).mul (Cg.of_eq (p := p) (hz x hx))
    rw [Int.mul_zero] at this
    exact (mulL_vec x).trans this
  have nd : ((putIn p rs k (mulL p u rest)).map (·.1)).Nodup := by
    rw [putIn_keys, List.nodup_append]
    exact ⟨S.lad.nd, by simp, fun a ha b hb e => kP (by rw [← List.mem_singleton.mp hb, ← e]; exact ha)⟩
  have hq : ∀ x, Cg p (rv (putIn p rs k (mulL p u rest)) k x) (vec (mulL p u rest) x) := fun x => by
    unfold rv
    rw [rowOf_mem (z := (k, mulL p u rest)) nd (by unfold putIn; simp)]
    exact .refl _
  have ho : ∀ i ∈ rs.map (·.1), ∀ x, Cg p (rv (putIn p rs k (mulL p u rest)) i x) (rv rs i x - rv rs i k * vec (mulL p u rest) x) := fun i hi x => by
    obtain ⟨z, hz1, rfl⟩ := List.mem_map.mp hi
    unfold rv
    rw [rowOf_mem (z := (z.1, clr p [(k, mulL p u rest)] z.2)) nd (by unfold putIn; exact List.mem_append_left _ (List.mem_map.mpr ⟨z, hz1, rfl⟩)), rowOf_mem S.lad.nd hz1]
    exact clr1_vec (z := (k, mulL p u rest)) (by rw [(S.ok z hz1).2.1]; exact hgl) x
  refine ⟨?_, fun z hz2 => ?_, ?_⟩
  · rw [putIn_keys]
    exact S.lad.more kP g1 g0 gl hq ho
  · rcases List.mem_append.mp hz2 with h | h
    · obtain ⟨y, hy, rfl⟩ := List.mem_map.mp h
      obtain ⟨b1, b2, b3⟩ := S.ok y hy
      exact ⟨b1, by show (clr p _ y.2).length = wd; rw [clr_len]; exact b2, clr_in (by omega) _ b3⟩
    · rw [List.mem_singleton.mp h]
      exact ⟨hk, hgl, hgi⟩
  · rw [putIn_keys]
    refine (S.lad.moreSpan hq ho).trans ?_
    have m := same2_more (g := vec (mulL p u rest)) (row := vec row) (rest := vec rest) (c := u) (d := rest.getD k 0) S.room ((S.room _).mp a) (fun x => mulL_vec x) fun x => ?_
    · refine m.trans (same2_of (fun v h => ?_) (fun v h => ?_))
      · rcases h with ⟨l, h1, rfl⟩ | rfl
        · exact .row ⟨l, by simp [h1], rfl⟩
        · exact .row ⟨row, by simp, rfl⟩
      · obtain ⟨l, h1, rfl⟩ := h
        rcases List.mem_append.mp h1 with h1 | h1
        · exact .row (.inl ⟨l, h1, rfl⟩)
        · rw [List.mem_singleton.mp h1]
          exact .row (.inr rfl)
    · have h1 := (Cg.refl (p := p) (rest.getD k 0)).mul (mulL_vec (p := p) (f := u) (l := rest) x)
      have h2 := hu.mul (Cg.refl (p := p) (vec rest x))
      rw [Int.one_mul] at h2
      refine (h1.trans ((Cg.of_eq ?_).trans h2)).symm
      rw [← Int.mul_assoc, Int.mul_comm (rest.getD k 0) u]
end
/-- the ladders of two lots of rows that span the same are the same -/
theorem St1.only {p : Int} {wd : Nat} {rs rs' : RG} {rows rows' : List (List Int)} (S : St1 p wd rs rows) (S' : St1 p wd rs' rows') (p2 : 2 ≤ p) (h : Same2 p (fun v => ∃ l ∈ rows, v = vec l) (fun v => ∃ l ∈ rows', v = vec l)) :
    (∀ i, i ∈ rs.map (·.1) ↔ i ∈ rs'.map (·.1)) ∧ ∀ z ∈ rs, z ∈ rs' := by
  have hs := (S.room.trans h).trans S'.room.symm
  have pl : ∀ i, i ∈ rs.map (·.1) ↔ i ∈ rs'.map (·.1) := fun i => ⟨S.lad.places S'.lad p2 hs, S'.lad.places S.lad p2 hs.symm⟩
  refine ⟨pl, fun z hz => ?_⟩
  have hi : z.1 ∈ rs.map (·.1) := List.mem_map.mpr ⟨z, hz, rfl⟩
  obtain ⟨y, hy, e⟩ := List.mem_map.mp ((pl z.1).mp hi)
  obtain ⟨a1, a2, a3⟩ := S.ok z hz
  obtain ⟨b1, b2, b3⟩ := S'.ok y hy
  have e2 : z.2 = y.2 := by
    apply List.ext_getElem (by rw [a2, b2])
    intro x h1 h2
    have := S.lad.rows S'.lad p2 hs hi x
    unfold rv at this
    have e0 : rowOf rs' z.1 = y.2 := by rw [← e]; exact rowOf_mem S'.lad.nd hy
    rw [rowOf_mem S.lad.nd hz, e0] at this
    have c1 := getD_in (by omega) a3 x
    have c2 := getD_in (by omega) b3 x
    have := this.eq c1.1 c1.2 c2.1 c2.2
    unfold vec at this
    rw [getD_at (List.getElem?_eq_getElem h1), getD_at (List.getElem?_eq_getElem h2)] at this
    exact this
  have : z = y := Prod.ext e.symm e2
  rw [this]
  exact hy
end S4

namespace S4
open PySem L2 TT MM
/-! ### either a list or a tuple -/
theorem pi_or {X : Cx} {tg e : Expr} {w1 w2 : TI} (h1 : PI X tg e w1) (h2 : PI X tg e w2) : PI X tg e (fun σ H R => w1 σ H R ∨ w2 σ H R) := ⟨fun pins s σ H R I h => h.elim (h1.run pins s σ H R I) (h2.run pins s σ H R I)⟩
/-- the items of a list or a tuple -/
def SqS (K : PySem.W.Frag) (H : Hp) (a : Addr) (xs : List V) : Prop := H a = some (.lst xs) ∨ H a = some (.tup xs)
theorem SqS.same {K : PySem.W.Frag} {H H' : Hp} {a : Addr} {xs : List V} (h : SqS K H a xs) (s : Same H H') : SqS K H' a xs := h.elim (fun h => .inl (s _ _ h)) (fun h => .inr (s _ _ h))
theorem val_none : ∀ {kvs : List (L2.Key × V)} {rs : RG} {H : Hp} {k : Nat}, Paired (kvR H) kvs rs → k ∉ rs.map (·.1) → valV kvs (Sum.inl ((k : Nat) : Int)) = none
  | _, _, _, _, .nil, _ => rfl
  | (k0, v0) :: kvs, z :: rs, H, k, .cons r t, hn => by
    have hne : ¬ k0 = Sum.inl ((k : Nat) : Int) := fun e => by
      have e1 := r.1
      simp only at e1
      rw [e] at e1
      have e2 := Sum.inl.inj e1
      have e3 : k = z.1 := by omega
      exact hn (by rw [e3]; simp)
    rw [valV_neg hne]
    exact val_none t fun q => hn (by simp only [List.map_cons, List.mem_cons]; exact .inr q)
theorem put_map {kvs : List (L2.Key × V)} {rs : RG} {H : Hp} {k : Nat} {v : V} {g : List Int} (h : Paired (kvR H) kvs rs) (hv : rRow H v g) (hk : k ∈ rs.map (·.1)) :
    Paired (kvR H) (putK kvs (Sum.inl ((k : Nat) : Int)) v) (rs.map fun z => if z.1 = k then (z.1, g) else z) := by
  have hm : ∀ {kvs : List (L2.Key × V)} {rs : RG}, Paired (kvR H) kvs rs → Paired (kvR H) (kvs.map fun kv => if kv.1 = Sum.inl ((k : Nat) : Int) then (kv.1, v) else kv) (rs.map fun z => if z.1 = k then (z.1, g) else z) := by
    intro kvs rs h
    induction h with
    | nil => exact .nil
    | @cons kv z kvs rs r t ih =>
      rw [List.map_cons, List.map_cons]
      refine .cons ?_ ih
      have e1 := r.1
      by_cases e : z.1 = k
      · rw [if_pos e, if_pos (by rw [e1, e])]
        exact ⟨e1, hv⟩
      · rw [if_neg e, if_neg (fun q => e (by rw [e1] at q; have := Sum.inl.inj q; omega))]
        exact r
  unfold putK
  rw [if_pos ?_]
  · exact hm h
  · obtain ⟨z, hz, e⟩ := List.mem_map.mp hk
    obtain ⟨i, hi⟩ := List.getElem?_of_mem hz
    obtain ⟨kv, hkv, r⟩ := paired_get2 h hi
    rw [List.any_eq_true]
    refine ⟨kv, List.mem_of_getElem? hkv, decide_eq_true ?_⟩
    rw [r.1, e]
/-- those of the first have been cleared -/
def part (p : Int) (k : Nat) (g : List Int) (D : List Nat) (rs : RG) : RG := rs.map fun z => if z.1 ∈ D then (z.1, clr p [(k, g)] z.2) else z
theorem part_keys (p : Int) (k : Nat) (g : List Int) (D : List Nat) (rs : RG) : (part p k g D rs).map (·.1) = rs.map (·.1) := by
  unfold part
  rw [List.map_map]
  refine List.map_congr_left fun z _ => ?_
  show (if z.1 ∈ D then (z.1, clr p [(k, g)] z.2) else z).1 = z.1
  split <;> rfl
theorem part_nil (p : Int) (k : Nat) (g : List Int) (rs : RG) : part p k g [] rs = rs := by
  unfold part
  have : (fun z : Nat × List Int => if z.1 ∈ ([] : List Nat) then (z.1, clr p [(k, g)] z.2) else z) = id := by
    funext z
    rw [if_neg (by simp)]
    rfl
  rw [this, List.map_id]
theorem part_all (p : Int) (k : Nat) (g : List Int) (rs : RG) : part p k g (rs.map (·.1)) rs ++ [(k, g)] = putIn p rs k g := by
  unfold part putIn
  congr 1
  refine List.map_congr_left fun z hz => ?_
  rw [if_pos (List.mem_map.mpr ⟨z, hz, rfl⟩)]
theorem part_step {p : Int} {k : Nat} {g : List Int} {D : List Nat} {rs : RG} (nd : (rs.map (·.1)).Nodup) {z : Nat × List Int} (hz : z ∈ rs) :
    (part p k g D rs).map (fun y => if y.1 = z.1 then (y.1, clr p [(k, g)] z.2) else y) = part p k g (D ++ [z.1]) rs := by
  unfold part
  rw [List.map_map]
  refine List.map_congr_left fun y hy => ?_
  have same : y.1 = z.1 → y.2 = z.2 := fun e => by
    have h1 := rowOf_mem nd hy
    have h2 := rowOf_mem nd hz
    rw [e] at h1
    rw [← h1, ← h2]
  have pe : (if y.1 ∈ D then (y.1, clr p [(k, g)] y.2) else y).1 = y.1 := by split <;> rfl
  show (if (if y.1 ∈ D then (y.1, clr p [(k, g)] y.2) else y).1 = z.1 then ((if y.1 ∈ D then (y.1, clr p [(k, g)] y.2) else y).1, clr p [(k, g)] z.2) else (if y.1 ∈ D then (y.1, clr p [(k, g)] y.2) else y)) = _
  rw [pe]
  by_cases e : y.1 = z.1
  · rw [if_pos e, if_pos (by rw [e]; simp), same e]
  · rw [if_neg e]
    by_cases hD : y.1 ∈ D
    · rw [if_pos hD, if_pos (List.mem_append_left _ hD)]
    · rw [if_neg hD, if_neg (fun q => (List.mem_append.mp q).elim hD fun q => e (List.mem_singleton.mp q))]
structure RGS (H0 : Hp) (dr nw : Addr) (rs : RG) (i : Nat) (H : Hp) : Prop where
  same : Same H0 H
  d0 : H0 dr = none
  n0 : H0 nw = none
  ne : dr ≠ nw
  dict : ∃ kvs, H dr = some (.dK kvs) ∧ Paired (kvR H) kvs rs
  news : ∃ ns : List Int, H nw = some (.lst (ns.map V.int)) ∧ ns.length ≤ i
theorem RGS.more {H0 : Hp} {dr nw : Addr} {rs : RG} {i : Nat} {H H' : Hp} (R : RGS H0 dr nw rs i H) (s : Same H H') : RGS H0 dr nw rs i H' :=
  ⟨R.same.trans s, R.d0, R.n0, R.ne, let ⟨kvs, a, b⟩ := R.dict; ⟨kvs, s _ _ a, kvR_mono (fun _ _ h => s _ _ h) b⟩, let ⟨ns, a, b⟩ := R.news; ⟨ns, s _ _ a, b⟩⟩
theorem RGS.setD {H0 : Hp} {dr nw : Addr} {rs rs' : RG} {i : Nat} {H : Hp} (R : RGS H0 dr nw rs i H) {kvs : List (L2.Key × V)} (h : Paired (kvR H) kvs rs') : RGS H0 dr nw rs' i (upd H dr (.dK kvs)) := by
  obtain ⟨kv0, a, b⟩ := R.dict
  obtain ⟨ns, c, e⟩ := R.news
  exact ⟨same_own R.same R.d0, R.d0, R.n0, R.ne, ⟨kvs, upd_same, kvR_mono (fun t xs h => by rw [upd_ne (ne_of h a (fun z => nomatch z))]; exact h) h⟩, ⟨ns, by rw [upd_ne R.ne.symm]; exact c, e⟩⟩
section
variable {P : Program} {w : World} {K : PySem.W.Frag} {mg : Str → Option Value} {base : Heap} {cT cS : Addr}
def spRungs : Sp := fun vs H Q _ => ∃ (a : Addr) (p : Int) (wd : Nat) (xs : List V) (rws : List (List Int)), vs = [.int p, .int (wd : Int), .ref a] ∧ SqS K H a xs ∧ Paired (rRow H) xs rws ∧ rws.length ≤ 1000 ∧ Prm p ∧ p ≤ 1000000 ∧ wd ≤ 1000 ∧ (∀ r ∈ rws, isRow r p wd) ∧
  ∀ H' t dr nw rs, Same H H' → H' t = some (.tup [.ref dr, .ref nw]) → H dr = none → (∃ kvs, H' dr = some (.dK kvs) ∧ Paired (kvR H') kvs rs) → St1 p wd rs rws → rs.length ≤ rws.length → Q (.ref t) H'
theorem ok_rungs (T : Tx K mg cT cS) {f : Addr} {fd : FuncData} (d : D K mg "rungs_of" s_rungs_of ["p", "wide", "rows"] f fd) : FnOk P w K mg base CX0 2 f fd ["p", "wide", "rows"] (spRungs (K := K)) := by
  obtain ⟨f1, fd1, d1⟩ := T.d_cleared
  have G1 : FnOk P w K mg base CX0 1 f1 fd1 ["p", "rungs", "row"] spCleared := ok_cleared T d1
  obtain ⟨f2, fd2, d2⟩ := T.d_first_place
  have G2 : FnOk P w K mg base CX0 1 f2 fd2 ["row", "wide"] spFirst := ok_first T d2
  obtain ⟨f3, fd3, d3⟩ := T.d_multiplied
  have G3 : FnOk P w K mg base CX0 1 f3 fd3 ["p", "factor", "row"] spMult := ok_mult T d3
  obtain ⟨f4, fd4, d4⟩ := T.d_inverse
  have G4 : FnOk P w K mg base CX0 1 f4 fd4 ["p", "value"] spInverse := ok_inverse T d4
  refine d.F.ok sc_rungs_of (fun vs H Q E h => ?_) (fun cdv A outer s H vs Q E hr h => ?_)
  · obtain ⟨a, p, wd, xs, rws, rfl, _⟩ := h
    rfl
  · obtain ⟨a, p, wd, xs, rws, rfl, hS, hp, hl, prm, pm, hwd, hrw, q⟩ := h
    have p2 := prm.1
    have hlen := paired_len hp
    refine ⟨_, pss_cons (ps_set (i := 3) sc_rungs_of.nd rfl (.inl rfl) pe_dnewK)
      (pss_cons (ps_set (i := 4) sc_rungs_of.nd rfl (.inl rfl) (pe_lst pa_nil))
      (pss_cons (ps_for PassesOwn.never rfl (pi_or (pi_enum (by rfl) T.b_enumerate (pa_cons (pv 2) pa_nil)) (pi_enumT (by rfl) T.b_enumerate (pa_cons (pv 2) pa_nil))) (pg_tup rfl (pgs_cons (pg_name (i := 5) sc_rungs_of.nd rfl (.inl rfl)) (pgs_cons (pg_name (i := 6) sc_rungs_of.nd rfl (.inl rfl)) pgs_nil)))
        (pss_cons (ps_set (i := 7) sc_rungs_of.nd rfl (.inl rfl) (pe_call G1 hr rfl d1.m d1.F.kp d1.b .nil pass0 (pa_cons (pv 0) (pa_cons (pv 3) (pa_cons (pv 6) pa_nil)))))
        (pss_cons (ps_set (i := 8) sc_rungs_of.nd rfl (.inl rfl) (pe_call G2 hr rfl d2.m d2.F.kp d2.b .nil pass0 (pa_cons (pv 7) (pa_cons (pv 1) pa_nil))))
        (pss_cons (ps_if (pt_cmp (pc_isN (pv 8))) (pss_one ps_continue) pss_nil)
        (pss_cons (ps_set (i := 9) sc_rungs_of.nd rfl (.inl rfl) (pe_call G3 hr rfl d3.m d3.F.kp d3.b .nil pass0 (pa_cons (pv 0) (pa_cons (pe_call G4 hr rfl d4.m d4.F.kp d4.b .nil pass0 (pa_cons (pv 0) (pa_cons (pe_ix ix_tup (pv 7) (pv 8) (fun _ _ => rfl)) pa_nil))) (pa_cons (pv 7) pa_nil)))))
        (pss_cons (ps_for PassesOwn.never rfl (pi_list (pe_callTy (call_listD rfl) (by rfl) T.b_list (by decide +kernel) (pa_cons (pv 3) pa_nil))) (pg_name (i := 10) sc_rungs_of.nd rfl (Or.inl rfl))
          (pss_one (ps_dput (hu_of hr) (pv 3) (pv 10) (pe_call G1 hr rfl d1.m d1.F.kp d1.b .nil pass0 (pa_cons (pv 0) (pa_cons (pe_disp (pps_cons (pv 8) (pv 9) pps_nil) (by rfl) (by rfl) (fun z => by cases z) (by decide)) (pa_cons (pe_dget (hu_of hr) (pv 3) (pv 10) (fun _ _ => rfl)) pa_nil)))) rfl)))
        (pss_cons (ps_dput (hu_of hr) (pv 3) (pv 8) (pv 9) rfl)
        (pss_one (ps_expr (pe_bm PySem.F.plainAttrs_list PySem.F.slot_list_append PySem.F.type_list_append mt_append (pv 4) (pa_cons (pv 5) pa_nil)))))))))))
      (pss_one (ps_ret (pe_tup (pa_cons (pv 3) (pa_cons (pv 4) pa_nil))))))), ?_⟩
    intro dr hdr
    dsimp only [gName, tSeq]
    refine ⟨by show 0 ≤ sizeLine; decide, fun nw hnw => ?_⟩
    have hne : dr ≠ nw := fun e => by subst e; rw [upd_same] at hnw; cases hnw
    have s1 := same_new (o := .dK []) hdr
    have s2 := same_new (o := .lst []) hnw
    have R0 : RGS H dr nw [] 0 (upd (upd H dr (.dK [])) nw (.lst [])) := ⟨s1.trans s2, hdr, s1.free hnw, hne, ⟨[], s2 _ _ upd_same, .nil⟩, ⟨[], upd_same, Nat.le_refl _⟩⟩
    dsimp only [gName, tSeq]
    have P0 : ∃ rs x5 x6 x7 x8 x9 x10, [some (V.int p), some (V.int (wd : Int)), some (V.ref a), some (V.ref dr), some (V.ref nw), none, none, none, none, none, none] = [some (V.int p), some (V.int (wd : Int)), some (V.ref a), some (V.ref dr), some (V.ref nw), x5, x6, x7, x8, x9, x10] ∧ RGS H dr nw rs 0 (upd (upd H dr (.dK [])) nw (.lst [])) ∧ St1 p wd rs (rws.take 0) ∧ rs.length ≤ 0 :=
      ⟨[], none, none, none, none, none, none, rfl, R0, by rw [List.take_zero]; exact St1.nil p wd, Nat.le_refl _⟩
    apply twice
    · intro hs
      apply twice
      · intro hd
        rcases hS with h | h
        · exact .inl ⟨_, rfl, a, xs, rfl, .of ((s1.trans s2) _ _ h), for_it (walk_enum (xs := xs)) (fun i σ H' => ∃ rs x5 x6 x7 x8 x9 x10, σ = [some (.int p), some (.int (wd : Int)), some (.ref a), some (.ref dr), some (.ref nw), x5, x6, x7, x8, x9, x10] ∧ RGS H dr nw rs i H' ∧ St1 p wd rs (rws.take i) ∧ rs.length ≤ i) P0 (fun i σ H' _ q => .of (let ⟨_, _, _, _, _, _, _, _, R, _, _⟩ := q; R.same _ _ h)) hs hd⟩
        · exact .inr ⟨_, rfl, a, xs, rfl, .of ((s1.trans s2) _ _ h), for_it (walk_enumT (xs := xs)) (fun i σ H' => ∃ rs x5 x6 x7 x8 x9 x10, σ = [some (.int p), some (.int (wd : Int)), some (.ref a), some (.ref dr), some (.ref nw), x5, x6, x7, x8, x9, x10] ∧ RGS H dr nw rs i H' ∧ St1 p wd rs (rws.take i) ∧ rs.length ≤ i) P0 (fun i σ H' _ q => .of (let ⟨_, _, _, _, _, _, _, _, R, _, _⟩ := q; R.same _ _ h)) hs hd⟩
      · rintro σ H2 ⟨rs, x5, x6, x7, x8, x9, x10, rfl, R, S, cnt⟩
        rw [hlen, List.take_length] at S
        refine ⟨_, rfl, _, rfl, by show 2 ≤ sizeLine; decide, fun t nt => ?_⟩
        have s3 := same_new (o := .tup [V.ref dr, V.ref nw]) nt
        obtain ⟨kvs, hk1, hk2⟩ := R.dict
        exact q _ t dr nw rs (R.same.trans s3) upd_same hdr ⟨kvs, s3 _ _ hk1, kvR_mono (fun _ _ h => s3 _ _ h) hk2⟩ S (by omega)
    · rintro i x σ H2 H3 hi ⟨rs, x5, x6, x7, x8, x9, x10, rfl, R2, S, cnt⟩ ⟨tz, u1, u2, rfl, nz, rfl, e1, e2⟩
      cases (Option.some.inj e1)
      have s3 := same_new (o := .tup [V.int (i : Nat), u2]) nz
      have R := R2.more s3
      obtain ⟨row, hrow, hrr⟩ := paired_get (paired_mono mono_row (R.same).keep hp) e2
      have hir := hrw row (List.mem_of_getElem? hrow)
      have hrl : row.length = wd := by have := hir.1; omega
      have etake : rws.take (i + 1) = rws.take i ++ [row] := by rw [List.take_succ, hrow]; rfl
      have hrsl := S.len
      refine ⟨tz, _, rfl, .of upd_same, rfl, _, _, rfl, _, _, rfl, rfl, ?_⟩
      obtain ⟨kvs, hk1, hk2⟩ := R.dict
      refine ⟨_, rfl, _, rfl, _, rfl, dr, .dK kvs, u2, row, rs, p, rfl, hk1, ⟨kvs, rfl, hk2⟩, S.lad.nd, hrr, by omega, pm, hir.2, by omega, by omega, fun z hz => by have := S.ok z hz; exact ⟨by omega, by omega⟩, fun H4 v4 s4 hv4 => ?_⟩
      dsimp only [gName, tSeq]
      have cl := clr_len p rs row
      refine ⟨_, rfl, _, rfl, v4, clr p rs row, wd, rfl, hv4, by omega, by omega, fun hz => ?_, fun k hk h0 hz => ?_⟩
      · dsimp only [gName, tSeq]
        refine ⟨_, rfl, _, rfl, ?_⟩
        have R4 := R.more s4
        rw [decide_eq_true rfl]
        refine iteT ⟨rs, _, _, _, _, _, _, rfl, ⟨R4.same, R4.d0, R4.n0, R4.ne, R4.dict, let ⟨ns, a, b⟩ := R4.news; ⟨ns, a, by omega⟩⟩, ?_, by omega⟩
        rw [etake]
        exact S.skip hrl hz
      · dsimp only [gName, tSeq]
        refine ⟨_, rfl, _, rfl, ?_⟩
        rw [decide_eq_false (fun e => nomatch e)]
        refine iteF ?_
        have p0 : 0 < p := by omega
        have hri := clr_in p0 rs hir.2
        have hb := getD_in p0 hri k
        have hkk : (clr p rs row)[k]? = some ((clr p rs row)[k]'(by omega)) := List.getElem?_eq_getElem (by omega)
        have hkg := getD_at (d := (0 : Int)) hkk
        obtain ⟨t4, rfl, ht4⟩ := hv4
        refine ⟨_, rfl, _, rfl, _, rfl, _, rfl, t4, _, _, _, rfl, rfl, .of ht4, atI_nat (int_at hkk), ?_⟩
        rw [← hkg]
        refine ⟨p, _, rfl, pm, by omega, by omega, prm.gcd (by omega) (by omega), fun u u0 u1 hu H5 s5 => ?_⟩
        refine ⟨_, rfl, .ref t4, clr p rs row, p, u, rfl, ⟨t4, rfl, s5.keep.tup ht4⟩, p0, ⟨by omega, by omega⟩, by omega, fun H6 v6 s6 hv6 => ?_⟩
        have s46 := (s4.trans s5).trans s6
        have R6 := R.more s46
        have St := S.put (u := u) p2 hrl hir.2 hk h0 hz hu
        generalize hg : mulL p u (clr p rs row) = g at hv6 St
        have hgl : g.length = wd := by rw [← hg]; unfold mulL; rw [List.length_map]; omega
        have hgi : InB p g := by
          rw [← hg]
          intro x hx
          obtain ⟨y, _, rfl⟩ := List.mem_map.mp hx
          exact mod_b p0
        have kP : k ∉ rs.map (·.1) := by
          have := St.lad.nd
          rw [putIn_keys, List.nodup_append] at this
          exact fun q => this.2.2 k q k (by simp) rfl
        dsimp only [gName, tSeq]
        have hk6 := s46 _ _ hk1
        have hk26 := kvR_mono (H' := H6) (fun _ _ h => s46 _ _ h) hk2
        have hkl := paired_len hk26
        refine ⟨_, rfl, dr, kvs, rfl, .inl hk6, fun lk nlk => ⟨lk, rfl, ⟨_, .of upd_same⟩, ?_⟩⟩
        have s7 := same_new (o := .lst (kvs.map fun kv => kV kv.1)) nlk
        have ldr : lk ≠ dr := fun e => by subst e; rw [hk6] at nlk; cases nlk
        refine for_it (walk_list (xs := kvs.map fun kv => kV kv.1)) (fun j σ H' => ∃ x10, σ = [some (.int p), some (.int (wd : Int)), some (.ref a), some (.ref dr), some (.ref nw), some (.int (i : Nat)), some u2, some (.ref t4), some (.int (k : Nat)), some v6, x10] ∧
          RGS H dr nw (part p k g ((rs.take j).map (·.1)) rs) i H' ∧ rRow H' v6 g ∧ H' lk = some (.lst (kvs.map fun kv => kV kv.1)))
          ⟨x10, rfl, by rw [List.take_zero, List.map_nil, part_nil]; exact R6.more s7, mono_row _ _ _ _ s7.keep hv6, upd_same⟩ (fun j σ H' _ ⟨_, _, _, _, h⟩ => .of h) ?_ ?_
        · rintro j x σ H8 H9 hj ⟨y10, rfl, RJ, hv8, hl8⟩ ⟨rfl, hx⟩
          rw [List.getElem?_map] at hx
          rw [List.length_map] at hj
          have hkj : kvs[j]? = some (kvs[j]'hj) := List.getElem?_eq_getElem hj
          rw [hkj] at hx
          have hx := (Option.some.inj hx).symm
          obtain ⟨z, hz1, ze, _⟩ := paired_get hk26 hkj
          have hx2 : x = V.int ((z.1 : Nat) : Int) := by rw [hx]; show kV kvs[j].1 = _; rw [ze]; rfl
          subst hx2
          have zm := List.mem_of_getElem? hz1
          obtain ⟨z1, z2, z3⟩ := S.ok z zm
          have hnd : z.1 ∉ (rs.take j).map (·.1) := by
            have nd := S.lad.nd
            have e : rs = rs.take j ++ rs.drop j := (List.take_append_drop j rs).symm
            have hlt : j < rs.length := (List.getElem?_eq_some_iff.mp hz1).1
            have hz2 : rs[j] = z := (List.getElem?_eq_some_iff.mp hz1).2
            rw [e, List.map_append, List.nodup_append] at nd
            intro q
            refine nd.2.2 z.1 q z.1 ?_ rfl
            rw [List.drop_eq_getElem_cons hlt, hz2]
            simp
          obtain ⟨kJ, hJ1, hJ2⟩ := RJ.dict
          have hpj : (part p k g ((rs.take j).map (·.1)) rs)[j]? = some z := by
            unfold part
            rw [List.getElem?_map, hz1]
            show some (if z.1 ∈ _ then _ else z) = some z
            rw [if_neg hnd]
          obtain ⟨kv, hkv, ke, hvv⟩ := paired_get2 hJ2 hpj
          obtain ⟨kk, vv⟩ := kv
          simp only at ke hvv
          subst ke
          have hval := val_at hJ2 (by rw [part_keys]; exact S.lad.nd) hkv
          have hJl := paired_len hJ2
          have hpl : (part p k g ((rs.take j).map (·.1)) rs).length = rs.length := by unfold part; rw [List.length_map]
          refine ⟨_, rfl, fun qd nqd => ⟨_, rfl, _, rfl, upd_same, [(Sum.inl ((k : Nat) : Int), v6)], rfl, by show 1 ≤ 15; decide, ?_⟩⟩
          rw [upd_upd]
          have s10 := same_new (o := .dK (mergeK [] [(Sum.inl ((k : Nat) : Int), v6)])) nqd
          refine ⟨_, rfl, _, rfl, dr, vv, rfl, .inl ⟨kJ, _, .inl (s10 _ _ hJ1), rfl, hval.symm⟩, ?_⟩
          refine ⟨qd, _, vv, z.2, [(k, g)], p, rfl, upd_same, ⟨[(Sum.inl ((k : Nat) : Int), v6)], rfl, .cons ⟨rfl, mono_row _ _ _ _ s10.keep hv8⟩ .nil⟩, by simp, mono_row _ _ _ _ s10.keep hvv, p0, pm, z3, by omega, by show 1 ≤ 1000; decide, fun y hy => by rw [List.mem_singleton.mp hy]; exact ⟨by rw [z2]; exact hk, by rw [z2]; exact hgl⟩, fun H11 v11 s11 hv11 => ?_⟩
          have sa := s10.trans s11
          refine ⟨_, rfl, _, rfl, dr, _, rfl, DPut.k (k := Sum.inl ((z.1 : Nat) : Int)) (sa _ _ hJ1) (Nat.lt_of_le_of_lt (by omega : kJ.length ≤ 1000) (by decide)), ?_⟩
          have hJ3 := kvR_mono (H' := H11) (fun _ _ h => sa _ _ h) hJ2
          have hput := put_map hJ3 hv11 (k := z.1) (by rw [part_keys]; exact List.mem_map.mpr ⟨z, zm, rfl⟩)
          rw [part_step S.lad.nd zm] at hput
          have et2 : (rs.take (j + 1)).map (·.1) = (rs.take j).map (·.1) ++ [z.1] := by rw [List.take_succ, hz1, List.map_append]; rfl
          refine ⟨_, rfl, ?_, ?_, ?_⟩
          · rw [et2]
            exact (RJ.more sa).setD hput
          · obtain ⟨t6, rfl, ht6⟩ := hv8
            exact ⟨t6, rfl, by rw [upd_ne (ne_of (sa _ _ ht6) (sa _ _ hJ1) (fun z => nomatch z))]; exact sa _ _ ht6⟩
          · rw [upd_ne ldr]
            exact sa _ _ hl8
        · rintro σ H8 ⟨y10, rfl, RJ, hv8, hl8⟩
          rw [List.length_map, hkl, List.take_length] at RJ
          obtain ⟨kJ, hJ1, hJ2⟩ := RJ.dict
          have hJl := paired_len hJ2
          have hpl : (part p k g (rs.map (·.1)) rs).length = rs.length := by unfold part; rw [List.length_map]
          refine ⟨_, rfl, _, rfl, _, rfl, dr, _, rfl, DPut.k (k := Sum.inl ((k : Nat) : Int)) hJ1 (Nat.lt_of_le_of_lt (by omega : kJ.length ≤ 1000) (by decide)), ?_⟩
          rw [putK_new _ (val_none hJ2 (by rw [part_keys]; exact kP))]
          have hfin : Paired (kvR H8) (kJ ++ [(Sum.inl ((k : Nat) : Int), v6)]) (putIn p rs k g) := by
            rw [← part_all]
            exact paired_app hJ2 (.cons ⟨rfl, hv8⟩ .nil)
          have RF := RJ.setD hfin
          obtain ⟨ns, hn1, hn2⟩ := RF.news
          refine ⟨_, rfl, .inl ⟨rfl, _, .of hn1⟩, _, rfl, nw, _, _, rfl, rfl, hn1, Nat.lt_of_le_of_lt (by rw [List.length_map]; omega : _ ≤ 1000) (by decide), ?_⟩
          obtain ⟨kF, hF1, hF2⟩ := RF.dict
          refine ⟨putIn p rs k g, _, _, _, _, _, _, rfl, ⟨same_own RF.same RF.n0, RF.d0, RF.n0, RF.ne, ⟨kF, by rw [upd_ne RF.ne]; exact hF1, ?_⟩, ⟨ns ++ [(i : Int)], by rw [upd_same, List.map_append]; rfl, by rw [List.length_append, List.length_singleton]; omega⟩⟩, by rw [etake]; exact St, by unfold putIn; rw [List.length_append, List.length_map, List.length_singleton]; omega⟩
          exact kvR_mono (fun t xs h => by rw [upd_ne (ne_of h hn1 (fun z => nomatch z))]; exact h) hF2
end
end S4

namespace S4
open PySem L2 TT MM
def keysI (rs : RG) : List Int := rs.map fun z => ((z.1 : Nat) : Int)
/-- the ladder of a room, as a list of rows -/
def IsLad (p : Int) (wd : Nat) (rows lad : List (List Int)) : Prop := ∃ (rs : RG) (ys : List Int), St1 p wd rs rows ∧ ys.Perm (keysI rs) ∧ Up ys ∧ lad = ys.map fun y => rowOf rs y.toNat
theorem keysI_nodup {rs : RG} (h : (rs.map (·.1)).Nodup) : (keysI rs).Nodup := by
  unfold keysI
  rw [List.nodup_iff_pairwise_ne] at *
  rw [List.pairwise_map] at *
  exact h.imp fun {a b} h e => h (by omega)
theorem keysI_mem {rs : RG} {y : Int} : y ∈ keysI rs ↔ ∃ i ∈ rs.map (·.1), y = ((i : Nat) : Int) := by
  unfold keysI
  rw [List.mem_map]
  constructor
  · rintro ⟨z, hz, rfl⟩
    exact ⟨z.1, List.mem_map.mpr ⟨z, hz, rfl⟩, rfl⟩
  · rintro ⟨i, hi, rfl⟩
    obtain ⟨z, hz, rfl⟩ := List.mem_map.mp hi
    exact ⟨z, hz, rfl⟩
theorem IsLad.only {p : Int} {wd : Nat} {rows rows' lad lad' : List (List Int)} (A : IsLad p wd rows lad) (B : IsLad p wd rows' lad') (p2 : 2 ≤ p) (h : Same2 p (fun v => ∃ l ∈ rows, v = vec l) (fun v => ∃ l ∈ rows', v = vec l)) : lad = lad' := by
  obtain ⟨rs, ys, S, hp, hu, rfl⟩ := A
  obtain ⟨rs', ys', S', hp', hu', rfl⟩ := B
  obtain ⟨k1, k2⟩ := S.only S' p2 h
  have e : ys = ys' := by
    refine up_same (hp.trans (List.Perm.trans ?_ hp'.symm)) hu hu'
    refine (List.perm_ext_iff_of_nodup (keysI_nodup S.lad.nd) (keysI_nodup S'.lad.nd)).mpr fun y => ?_
    rw [keysI_mem, keysI_mem]
    constructor
    · rintro ⟨i, hi, rfl⟩; exact ⟨i, (k1 i).mp hi, rfl⟩
    · rintro ⟨i, hi, rfl⟩; exact ⟨i, (k1 i).mpr hi, rfl⟩
  subst e
  refine List.map_congr_left fun y hy => ?_
  obtain ⟨i, hi, rfl⟩ := keysI_mem.mp (hp.mem_iff.mp hy)
  obtain ⟨z, hz, rfl⟩ := List.mem_map.mp hi
  rw [Int.toNat_natCast, rowOf_mem S.lad.nd hz, rowOf_mem S'.lad.nd (k2 z hz)]
theorem IsLad.rows {p : Int} {wd : Nat} {rows lad : List (List Int)} (A : IsLad p wd rows lad) : lad.length ≤ wd ∧ ∀ l ∈ lad, isRow l p wd := by
  obtain ⟨rs, ys, S, hp, hu, rfl⟩ := A
  refine ⟨?_, fun l hl => ?_⟩
  · rw [List.length_map, hp.length_eq]
    unfold keysI
    rw [List.length_map]
    exact S.len
  · obtain ⟨y, hy, rfl⟩ := List.mem_map.mp hl
    obtain ⟨i, hi, rfl⟩ := keysI_mem.mp (hp.mem_iff.mp hy)
    obtain ⟨z, hz, rfl⟩ := List.mem_map.mp hi
    rw [Int.toNat_natCast, rowOf_mem S.lad.nd hz]
    obtain ⟨_, b, c⟩ := S.ok z hz
    exact ⟨by omega, c⟩
/-- the ladder spans what the rows span -/
theorem IsLad.room {p : Int} {wd : Nat} {rows lad : List (List Int)} (A : IsLad p wd rows lad) : Same2 p (fun v => ∃ l ∈ lad, v = vec l) (fun v => ∃ l ∈ rows, v = vec l) := by
  obtain ⟨rs, ys, S, hp, hu, rfl⟩ := A
  refine Same2.trans (same2_of (fun v h => ?_) (fun v h => ?_)) S.room
  · obtain ⟨l, hl, rfl⟩ := h
    obtain ⟨y, hy, rfl⟩ := List.mem_map.mp hl
    obtain ⟨i, hi, rfl⟩ := keysI_mem.mp (hp.mem_iff.mp hy)
    rw [Int.toNat_natCast]
    exact .row ⟨i, hi, rfl⟩
  · obtain ⟨i, hi, rfl⟩ := h
    exact .row ⟨rowOf rs i, List.mem_map.mpr ⟨((i : Nat) : Int), hp.mem_iff.mpr (keysI_mem.mpr ⟨i, hi, rfl⟩), by rw [Int.toNat_natCast]⟩, rfl⟩
section
variable {P : Program} {w : World} {K : PySem.W.Frag} {mg : Str → Option Value} {base : Heap} {cT cS : Addr}
def spLadOf (K : PySem.W.Frag) : Sp := fun vs H Q _ => ∃ (a : Addr) (p : Int) (wd : Nat) (xs : List V) (rws : List (List Int)), vs = [.int p, .int (wd : Int), .ref a] ∧ SqS K H a xs ∧ Paired (rRow H) xs rws ∧ rws.length ≤ 1000 ∧ Prm p ∧ p ≤ 1000000 ∧ wd ≤ 1000 ∧ (wd < 64 ∨ rws.length < 64) ∧ (∀ r ∈ rws, isRow r p wd) ∧
  ∀ H' v lad, Same H H' → rTup rRow H' v lad → IsLad p wd rws lad → lad.length ≤ rws.length → Q v H'
theorem ok_lad_of (T : Tx K mg cT cS) {f : Addr} {fd : FuncData} (d : D K mg "ladder_of" s_ladder_of ["p", "wide", "rows"] f fd) : FnOk P w K mg base CX0 3 f fd ["p", "wide", "rows"] (spLadOf K) := by
  obtain ⟨f1, fd1, d1⟩ := T.d_rungs_of
  have G1 : FnOk P w K mg base CX0 2 f1 fd1 ["p", "wide", "rows"] (spRungs (K := K)) := ok_rungs T d1
  refine d.F.ok sc_ladder_of (fun vs H Q E h => ?_) (fun cdv A outer s H vs Q E hr h => ?_)
  · obtain ⟨a, p, wd, xs, rws, rfl, _⟩ := h
    rfl
  · obtain ⟨a, p, wd, xs, rws, rfl, hS, hp, hl, prm, pm, hwd, h64, hrw, q⟩ := h
    refine ⟨_, pss_cons (ps_set (i := 3) sc_ladder_of.nd rfl (.inr rfl) (pe_ix ix_tup (pe_call G1 hr rfl d1.m d1.F.kp d1.b .nil pass0 (pa_cons (pv 0) (pa_cons (pv 1) (pa_cons (pv 2) pa_nil)))) pe_int (fun _ _ => rfl)))
      (pss_one (ps_ret (pe_callTy call_tuple_of (by rfl) T.b_tuple (by decide +kernel) (pa_cons
        (pe_lc (own := [("place", 4)]) (g := gName 4) (tt := tYes) rfl sc_ladder_of.nd (pi_list (pe_callB (call_sortedDI rfl) (by rfl) T.b_sorted (by decide +kernel) (pa_cons (pv 3) pa_nil))) (blkOk_by (N := N_ladder_of) (sc := defScope s_ladder_of) (by decide +kernel))
          (fun _ _ _ _ _ => pg_name (i := 4) sc_ladder_of.nd rfl (Or.inl rfl)) (fun _ _ _ _ _ => pts_nil)
          (fun _ _ _ _ _ => pe_dget (hu_of hr) (pv 3) (pv 4) (fun _ _ => rfl))) pa_nil)))), ?_⟩
    refine ⟨_, rfl, _, rfl, _, rfl, a, p, wd, xs, rws, rfl, hS, hp, hl, prm, pm, hwd, hrw, fun H2 t dr nw rs s2 ht hdr ⟨kvs, hk1, hk2⟩ S cnt => ?_⟩
    refine ⟨t, _, _, _, rfl, rfl, .of ht, at_of (j := 0) rfl rfl, ?_⟩
    dsimp only [gName, tSeq]
    have hkl := paired_len hk2
    have hSl := S.len
    have keys : ∀ {kvs : List (L2.Key × V)} {rs : RG}, Paired (kvR H2) kvs rs → kvs.map (·.1) = (keysI rs).map Sum.inl := by
      intro kvs rs h
      induction h with
      | nil => rfl
      | @cons kv z kvs rs r t ih =>
        show kv.1 :: kvs.map (·.1) = Sum.inl ((z.1 : Nat) : Int) :: (keysI rs).map Sum.inl
        rw [ih, r.1]
    refine ⟨_, rfl, dr, kvs, keysI rs, rfl, .of hk1, keys hk2, by rw [show (keysI rs).length = rs.length by unfold keysI; rw [List.length_map]]; omega, fun ys p2 hperm hup np => ?_⟩
    have s3 := same_new (o := .lst (ys.map V.int)) np
    have hyl := hperm.length_eq
    have hkil : (keysI rs).length = rs.length := by unfold keysI; rw [List.length_map]
    refine ⟨p2, rfl, ⟨_, .of upd_same⟩, fun D hD => ?_⟩
    refine lc_fm (walk_list (xs := ys.map V.int)) rRow (fun i => ys[i]?.bind fun y => some (rowOf rs y.toNat)) hD (fun H' s' => .of (s' _ _ upd_same)) ?_ ?_
    · rintro i x H4 H5 hi pv ⟨rfl, hx⟩
      obtain ⟨y, hy, rfl⟩ := at_int hx
      rw [List.length_map] at hi
      obtain ⟨k, hk, rfl⟩ := keysI_mem.mp (hperm.mem_iff.mp (List.mem_of_getElem? hy))
      obtain ⟨z, hz, rfl⟩ := List.mem_map.mp hk
      obtain ⟨j, hj⟩ := List.getElem?_of_mem hz
      have sz := s3.trans pv.1
      obtain ⟨kv, hkv, ke, hvv⟩ := paired_get2 (kvR_mono (fun _ _ h => sz _ _ h) hk2) hj
      obtain ⟨kk, vv⟩ := kv
      simp only at ke hvv
      subst ke
      have hval := val_at hk2 S.lad.nd hkv
      refine ⟨rfl, _, rfl, _, rfl, dr, vv, rfl, .inl ⟨kvs, _, .inl (sz _ _ hk1), rfl, hval.symm⟩, ?_⟩
      refine fm_keep mono_row pv hD (by omega) (Same.refl _) (by rw [hy]; rfl) ?_
      rw [Int.toNat_natCast, rowOf_mem S.lad.nd hz]
      exact hvv
    · intro H4 zs s4 hD4 hp4
      rw [List.length_map, fm_some] at hp4
      refine ⟨D, _, rfl, .inl ⟨.of hD4, fun nt nnt => ?_⟩⟩
      have s5 := same_new (o := .tup zs) nnt
      exact q _ _ _ (((s2.trans s3).trans s4).trans s5) ⟨nt, zs, rfl, upd_same, paired_mono mono_row s5.keep hp4⟩ ⟨rs, ys, S, hperm, hup, rfl⟩ (by rw [List.length_map]; omega)
end
end S4

namespace S4
open PySem L2 TT MM
/-! ### trees built leaf by leaf -/
def Rooted (ties : List (Int × Int)) (s : Int) : Prop := ∃ par : Int → Int, ∀ u v, v ∈ nb ties u → (v = par u ∧ u ≠ s) ∨ (u = par v ∧ v ≠ s)
def tieOf (l q : Int) : Int × Int := if l < q then (l, q) else (q, l)
inductive Tr : List Int → List (Int × Int) → Prop
  | one (a : Int) : Tr [a] []
  | leaf {vs : List Int} {es : List (Int × Int)} {l q : Int} : Tr vs es → q ∈ vs → l ∉ vs → Tr (vs ++ [l]) (es ++ [tieOf l q])
theorem tieOf_mem {l q u v : Int} : ((u, v) = tieOf l q ∨ (v, u) = tieOf l q) ↔ (u = l ∧ v = q) ∨ (u = q ∧ v = l) := by
  unfold tieOf
  split
  · constructor
    · rintro (h | h)
      · cases h; exact .inl ⟨rfl, rfl⟩
      · cases h; exact .inr ⟨rfl, rfl⟩
    · rintro (⟨rfl, rfl⟩ | ⟨rfl, rfl⟩)
      · exact .inl rfl
      · exact .inr rfl
  · constructor
    · rintro (h | h)
      · cases h; exact .inr ⟨rfl, rfl⟩
      · cases h; exact .inl ⟨rfl, rfl⟩
    · rintro (⟨rfl, rfl⟩ | ⟨rfl, rfl⟩)
      · exact .inr rfl
      · exact .inl rfl
theorem nb_app {es : List (Int × Int)} {l q u v : Int} : v ∈ nb (es ++ [tieOf l q]) u ↔ v ∈ nb es u ∨ (u = l ∧ v = q) ∨ (u = q ∧ v = l) := by
  rw [nb_mem, nb_mem, List.mem_append, List.mem_append, List.mem_singleton, List.mem_singleton, ← tieOf_mem]
  constructor
  · rintro ((h | h) | (h | h))
    · exact .inl (.inl h)
    · exact .inr (.inl h)
    · exact .inl (.inr h)
    · exact .inr (.inr h)
  · rintro ((h | h) | (h | h))
    · exact .inl (.inl h)
    · exact .inr (.inl h)
    · exact .inl (.inr h)
    · exact .inr (.inr h)
theorem Tr.len {vs : List Int} {es : List (Int × Int)} (t : Tr vs es) : es.length + 1 = vs.length := by
  induction t with
  | one => rfl
  | leaf t _ _ ih => rw [List.length_append, List.length_append, List.length_singleton, List.length_singleton]; omega
theorem Tr.ends {vs : List Int} {es : List (Int × Int)} (t : Tr vs es) : ∀ z ∈ es, z.1 < z.2 ∧ z.1 ∈ vs ∧ z.2 ∈ vs := by
  induction t with
  | one => intro z h; cases h
  | @leaf vs es l q t hq hl ih =>
    intro z hz
    rcases List.mem_append.mp hz with hz | hz
    · obtain ⟨a, b, c⟩ := ih z hz
      exact ⟨a, List.mem_append_left _ b, List.mem_append_left _ c⟩
    · rw [List.mem_singleton.mp hz]
      have hne : l ≠ q := fun e => hl (e ▸ hq)
      unfold tieOf
      split
      · exact ⟨by assumption, by simp, by simp [hq]⟩
      · exact ⟨by simp only; omega, by simp [hq], by simp⟩
theorem Tr.nbIn {vs : List Int} {es : List (Int × Int)} (t : Tr vs es) {u v : Int} (h : v ∈ nb es u) : u ∈ vs ∧ v ∈ vs := by
  rcases nb_mem.mp h with h | h
  · exact (t.ends _ h).2
  · exact (t.ends _ h).2.symm
theorem Tr.nodup {vs : List Int} {es : List (Int × Int)} (t : Tr vs es) : es.Nodup := by
  induction t with
  | one => exact List.nodup_nil
  | @leaf vs es l q t hq hl ih =>
    rw [List.nodup_append]
    refine ⟨ih, by simp, fun a ha b hb e => ?_⟩
    subst e
    obtain ⟨_, h1, h2⟩ := t.ends _ ha
    have hb := List.mem_singleton.mp hb
    unfold tieOf at hb
    split at hb
    · rw [hb] at h1
      exact hl h1
    · rw [hb] at h2
      exact hl h2
theorem Tr.rooted {vs : List Int} {es : List (Int × Int)} (t : Tr vs es) : ∀ s ∈ vs, Rooted es s := by
  induction t with
  | one => intro s _; exact ⟨fun x => x, fun u v h => by simp [nb] at h⟩
  | @leaf vs es l q t hq hl ih =>
    intro s hs
    by_cases hsl : s = l
    · obtain ⟨par, hp⟩ := ih q hq
      refine ⟨fun x => if x = q then l else par x, fun u v h => ?_⟩
      have hlq : l ≠ q := fun e => hl (e ▸ hq)
      rcases nb_app.mp h with h | ⟨rfl, rfl⟩ | ⟨rfl, rfl⟩
      · obtain ⟨hu, hv⟩ := t.nbIn h
        rcases hp u v h with ⟨e, n⟩ | ⟨e, n⟩
        · exact .inl ⟨e.trans (if_neg n).symm, fun q => hl (by rw [← hsl, ← q]; exact hu)⟩
        · exact .inr ⟨e.trans (if_neg n).symm, fun q => hl (by rw [← hsl, ← q]; exact hv)⟩
      · exact .inr ⟨(if_pos rfl).symm, fun e => hlq (by rw [e, hsl])⟩
      · exact .inl ⟨(if_pos rfl).symm, fun e => hlq (by rw [e, hsl])⟩
    · have hsv : s ∈ vs := by
        rcases List.mem_append.mp hs with h | h
        · exact h
        · exact absurd (List.mem_singleton.mp h) hsl
      obtain ⟨par, hp⟩ := ih s hsv
      refine ⟨fun x => if x = l then q else par x, fun u v h => ?_⟩
      rcases nb_app.mp h with h | ⟨rfl, rfl⟩ | ⟨rfl, rfl⟩
      · obtain ⟨hu, hv⟩ := t.nbIn h
        have hul : u ≠ l := fun e => hl (e ▸ hu)
        have hvl : v ≠ l := fun e => hl (e ▸ hv)
        rcases hp u v h with ⟨e, n⟩ | ⟨e, n⟩
        · exact .inl ⟨e.trans (if_neg hul).symm, n⟩
        · exact .inr ⟨e.trans (if_neg hvl).symm, n⟩
      · exact .inl ⟨(if_pos rfl).symm, fun e => hsl e.symm⟩
      · exact .inr ⟨(if_pos rfl).symm, fun e => hsl e.symm⟩
theorem Rch.trans {ties : List (Int × Int)} {bar : Option Int} {a b c : Int} (h : Rch ties bar a b) (h2 : Rch ties bar b c) : Rch ties bar a c := by
  induction h2 with
  | refl => exact h
  | step _ hv hb ih => exact .step ih hv hb
theorem nb_symm {ties : List (Int × Int)} {u v : Int} (h : v ∈ nb ties u) : u ∈ nb ties v := by
  rcases nb_mem.mp h with h | h
  · exact nb_mem.mpr (.inr h)
  · exact nb_mem.mpr (.inl h)
theorem Rch.symm {ties : List (Int × Int)} {a b : Int} (h : Rch ties none a b) : Rch ties none b a := by
  induction h with
  | refl => exact .refl
  | step _ hv _ ih => exact Rch.trans (.step .refl (nb_symm hv) (fun e => nomatch e)) ih
theorem Rch.sub {t1 t2 : List (Int × Int)} {bar : Option Int} (hs : ∀ u v, v ∈ nb t1 u → v ∈ nb t2 u) {a b : Int} (h : Rch t1 bar a b) : Rch t2 bar a b := by
  induction h with
  | refl => exact .refl
  | step _ hv hb ih => exact .step ih (hs _ _ hv) hb
theorem Tr.conn {vs : List Int} {es : List (Int × Int)} (t : Tr vs es) : ∀ x ∈ vs, ∀ y ∈ vs, Rch es none x y := by
  induction t with
  | one a =>
    intro x hx y hy
    rw [List.mem_singleton.mp hx, List.mem_singleton.mp hy]
    exact .refl
  | @leaf vs es l q t hq hl ih =>
    have up : ∀ x ∈ vs, ∀ y ∈ vs, Rch (es ++ [tieOf l q]) none x y := fun x hx y hy => Rch.sub (fun u v h => nb_app.mpr (.inl h)) (ih x hx y hy)
    have ql : Rch (es ++ [tieOf l q]) none q l := .step .refl (nb_app.mpr (.inr (.inr ⟨rfl, rfl⟩))) (fun e => nomatch e)
    have toQ : ∀ x ∈ vs ++ [l], Rch (es ++ [tieOf l q]) none x q := fun x hx => by
      rcases List.mem_append.mp hx with h | h
      · exact up x h q hq
      · rw [List.mem_singleton.mp h]
        exact Rch.symm ql
    intro x hx y hy
    exact Rch.trans (toQ x hx) (Rch.symm (toQ y hy))
/-! ### the ties as they stand: sorted -/
theorem nb_perm {t1 t2 : List (Int × Int)} (h : t1.Perm t2) (u v : Int) : v ∈ nb t1 u ↔ v ∈ nb t2 u := by
  rw [nb_mem, nb_mem, h.mem_iff, h.mem_iff]
structure TreeOk (ties : List (Int × Int)) (n : Nat) : Prop where
  ok : TiesOk ties n
  rt : ∀ s, 0 ≤ s → s < (n : Int) → Rooted ties s
theorem treeOk_of {vs : List Int} {es ties : List (Int × Int)} {n : Nat} (t : Tr vs es) (hv : vs.Perm (rng n)) (hn : n ≤ 24) (hp : ties.Perm es) (hs : ties.Pairwise lxLe) : TreeOk ties n := by
  have hl : vs.length = n := by rw [hv.length_eq, rng_len]
  have hlen := t.len
  have h0 : ∀ x : Int, 0 ≤ x → x < (n : Int) → x ∈ vs := fun x a b => hv.mem_iff.mpr (rng_mem.mpr ⟨a, b⟩)
  refine ⟨⟨by rw [hp.length_eq]; omega, hn, fun z hz => ?_, lex_strict hs (hp.nodup_iff.mpr t.nodup), fun x a b => ?_⟩, fun s a b => ?_⟩
  · obtain ⟨a, b, c⟩ := t.ends z (hp.mem_iff.mp hz)
    have := rng_mem.mp (hv.mem_iff.mp b)
    have := rng_mem.mp (hv.mem_iff.mp c)
    omega
  · exact Rch.sub (fun u v h => (nb_perm hp u v).mpr h) (t.conn 0 (h0 0 (by omega) (by omega)) x (h0 x a b))
  · obtain ⟨par, hp2⟩ := t.rooted s (h0 s a b)
    exact ⟨par, fun u v h => hp2 u v ((nb_perm hp u v).mp h)⟩
theorem nb_nodup {ties : List (Int × Int)} {n : Nat} (o : TiesOk ties n) (post : Int) : (nb ties post).Nodup := by
  unfold nb
  rw [List.nodup_iff_pairwise_ne, List.pairwise_filterMap]
  refine List.Pairwise.imp_of_mem (fun {z y} hz hy hlt => ?_) o.asc
  intro a ha b hb hab
  subst hab
  have h1 := o.b0 z hz
  have h2 := o.b0 y hy
  unfold nbOf at ha hb
  split at ha
  · split at hb
    · have ha := Option.some.inj ha
      have hb := Option.some.inj hb
      unfold lxLt at hlt
      split at ha <;> split at hb <;> omega
    · cases hb
  · cases ha
/-! ### the two sides of a tie -/
inductive Desc (par : Int → Int) (a b : Int) : Int → Prop
  | top : Desc par a b b
  | sub {v : Int} : Desc par a b (par v) → v ≠ a → Desc par a b v
theorem sides_apart {ties : List (Int × Int)} {a b x : Int} (r : Rooted ties a) (hab : b ∈ nb ties a) (h1 : Rch ties (some b) a x) (h2 : Rch ties (some a) b x) : False := by
  obtain ⟨par, hp⟩ := r
  have hpb : a = par b ∧ b ≠ a := by
    rcases hp a b hab with ⟨_, h⟩ | h
    · exact absurd rfl h
    · exact h
  have inv : ∀ u, Desc par a b u → u = b ∨ (Desc par a b (par u) ∧ u ≠ a) := fun u h => by
    cases h with
    | top => exact .inl rfl
    | sub h n => exact .inr ⟨h, n⟩
  have hB : ∀ x, Rch ties (some a) b x → Desc par a b x ∧ x ≠ a := fun x h => by
    induction h with
    | refl => exact ⟨.top, hpb.2⟩
    | @step u v _ hv hb ih =>
      have hva : v ≠ a := fun e => hb (by rw [e])
      refine ⟨?_, hva⟩
      rcases hp u v hv with ⟨e, n⟩ | ⟨e, n⟩
      · rcases inv u ih.1 with q | ⟨q, _⟩
        · rw [q, ← hpb.1] at e
          exact absurd e hva
        · rw [e]
          exact q
      · exact .sub (by rw [← e]; exact ih.1) n
  have hA : ∀ x, Rch ties (some b) a x → ¬ Desc par a b x := fun x h => by
    induction h with
    | refl =>
      intro h
      rcases inv a h with q | ⟨_, q⟩
      · exact hpb.2 q.symm
      · exact q rfl
    | @step u v _ hv hb ih =>
      have hvb : v ≠ b := fun e => hb (by rw [e])
      intro hd
      rcases hp u v hv with ⟨e, n⟩ | ⟨e, n⟩
      · exact ih (.sub (by rw [← e]; exact hd) n)
      · rcases inv v hd with q | ⟨q, _⟩
        · exact hvb q
        · rw [← e] at q
          exact ih q
  exact hA x h1 (hB x h2).1
theorem sides_all {ties : List (Int × Int)} {a b x : Int} (h : Rch ties none a x) : Rch ties (some b) a x ∨ Rch ties (some a) b x := by
  induction h with
  | refl => exact .inl .refl
  | @step u v _ hv _ ih =>
    rcases ih with h | h
    · by_cases e : v = b
      · subst e; exact .inr .refl
      · exact .inl (.step h hv (fun q => e (Option.some.inj q).symm))
    · by_cases e : v = a
      · subst e; exact .inl .refl
      · exact .inr (.step h hv (fun q => e (Option.some.inj q).symm))
/-- the two sides together are all posts, none twice -/
theorem sides_perm {ties : List (Int × Int)} {n : Nat} (o : TreeOk ties n) {a b : Int} (hab : b ∈ nb ties a) {l m : List Int} (hl : l.Nodup) (hm : m.Nodup) (h1 : ∀ x, x ∈ l ↔ Rch ties (some b) a x) (h2 : ∀ x, x ∈ m ↔ Rch ties (some a) b x) : (l ++ m).Perm (rng n) := by
  have hb : b ∈ rng n := by
    have := o.ok.shut
    rcases nb_mem.mp hab with h | h
    · have := o.ok.b0 _ h
      exact rng_mem.mpr ⟨by simp only at this; omega, by simp only at this; omega⟩
    · have := o.ok.b0 _ h
      exact rng_mem.mpr ⟨by simp only at this; omega, by simp only at this; omega⟩
  have ha : a ∈ rng n := o.ok.shut.cl b hb a (nb_symm hab)
  obtain ⟨a1, a2⟩ := rng_mem.mp ha
  have nd : (l ++ m).Nodup := by
    rw [List.nodup_append]
    refine ⟨hl, hm, fun x hx y hy e => ?_⟩
    subst e
    exact sides_apart (o.rt a a1 a2) hab ((h1 x).mp hx) ((h2 x).mp hy)
  refine (List.perm_ext_iff_of_nodup nd (rng_nodup n)).mpr fun x => ?_
  rw [List.mem_append, h1, h2]
  constructor
  · rintro (h | h)
    · exact h.inV o.ok.shut ha
    · exact h.inV o.ok.shut hb
  · intro h
    obtain ⟨x1, x2⟩ := rng_mem.mp h
    exact sides_all (Rch.trans (Rch.symm (o.ok.all a a1 a2)) (o.ok.all x x1 x2))
/-! ### the walk of the law -/
theorem riPerm {ties : List (Int × Int)} {bar : Option Int} {s : Int} {ex : Option Int} {f f' wt : List Int} (r : RI ties bar s ex f wt) (h : f'.Perm f) : RI ties bar s ex f' wt :=
  ⟨h.nodup_iff.mpr r.nd, h.mem_iff.mpr r.st, fun v hv => r.ok v (h.mem_iff.mp hv), fun v hv => h.mem_iff.mpr (r.sub v hv), fun u hu hw he v hv hb => h.mem_iff.mpr (r.cl u (h.mem_iff.mp hu) hw he v hv hb), fun q e => h.mem_iff.mpr (r.exf q e), by rw [h.length_eq]; exact r.wl⟩
theorem riAll {ties : List (Int × Int)} {bar : Option Int} {s h : Int} : ∀ {L f wt : List Int}, RI ties bar s (some h) f wt → L.Nodup → (∀ v ∈ L, v ∈ nb ties h ∧ bar ≠ some v ∧ v ∉ f) → RI ties bar s (some h) (f ++ L) (wt ++ L)
  | [], f, wt, r, _, _ => by rw [List.append_nil, List.append_nil]; exact r
  | v :: L, f, wt, r, hn, hL => by
    obtain ⟨h1, h2⟩ := List.nodup_cons.mp hn
    obtain ⟨a, b, c⟩ := hL v (by simp)
    have := riAll (L := L) (r.add a b c) h2 fun u hu => by
      obtain ⟨x, y, z⟩ := hL u (by simp [hu])
      refine ⟨x, y, fun q => ?_⟩
      rcases List.mem_append.mp q with q | q
      · exact z q
      · exact h1 (by rw [← List.mem_singleton.mp q]; exact hu)
    rw [List.append_assoc, List.append_assoc] at this
    exact this
/-- what stands: F taken, W waiting -/
structure LW (ties : List (Int × Int)) (bar s : Int) (par : Int → Int) (F W : List Int) : Prop where
  ri : RI ties (some bar) s none (F ++ W) W
  pf : ∀ u ∈ F, u = s ∨ par u ∈ F
  pw : ∀ u ∈ W, u = s ∨ par u ∈ F
theorem LW.step {ties : List (Int × Int)} {bar s : Int} {par : Int → Int} (hp : ∀ u v, v ∈ nb ties u → (v = par u ∧ u ≠ s) ∨ (u = par v ∧ v ≠ s)) {F W : List Int} {h : Int} {ns : List Int} (r : LW ties bar s par F (W ++ [h])) (hn : ns.Nodup) (hm : ∀ v, v ∈ ns ↔ v ∈ nb ties h) :
    LW ties bar s par (F ++ [h]) (W ++ ns.filter fun v => decide (v ∉ F ++ [h] ∧ v ≠ bar)) := by
  have nd := r.ri.nd
  have hlast : (W ++ [h])[(W ++ [h]).length - 1]? = some h := by rw [List.length_append, List.length_singleton, Nat.add_sub_cancel, List.getElem?_append_right (Nat.le_refl _), Nat.sub_self]; rfl
  have r1 := r.ri.pop hlast
  have edl : (W ++ [h]).dropLast = W := by simp
  rw [edl] at r1
  have pm : ((F ++ [h]) ++ W).Perm (F ++ (W ++ [h])) := by
    rw [List.append_assoc]
    exact List.Perm.append_left F List.perm_append_comm
  have r2 := riPerm r1 pm
  have hF : h ∉ F := fun q => by
    rw [List.nodup_append] at nd
    exact nd.2.2 h q h (by simp) rfl
  have hW : ∀ v, v ∈ nb ties h → v ∉ F ++ [h] → v ∉ W ∧ h = par v := fun v hv hnf => by
    rcases hp h v hv with ⟨e, n⟩ | ⟨e, n⟩
    · exfalso
      rcases r.pw h (by simp) with q | q
      · exact n q
      · rw [← e] at q
        exact hnf (List.mem_append_left _ q)
    · refine ⟨fun q => ?_, e⟩
      rcases r.pw v (List.mem_append_left _ q) with z | z
      · exact n z
      · rw [← e] at z
        exact hF z
  have r3 := riAll (L := ns.filter fun v => decide (v ∉ F ++ [h] ∧ v ≠ bar)) r2 (hn.filter _) fun v hv => by
    obtain ⟨h1, h2⟩ := List.mem_filter.mp hv
    obtain ⟨h3, h4⟩ := of_decide_eq_true h2
    have h5 := (hm v).mp h1
    refine ⟨h5, fun q => h4 (Option.some.inj q).symm, fun q => ?_⟩
    rcases List.mem_append.mp q with q | q
    · exact h3 q
    · exact (hW v h5 h3).1 q
  have r4 := r3.close fun v hv hb => by
    by_cases hf : v ∈ F ++ [h]
    · exact List.mem_append_left _ (List.mem_append_left _ hf)
    · exact List.mem_append_right _ (List.mem_filter.mpr ⟨(hm v).mpr hv, decide_eq_true ⟨hf, fun e => hb (by rw [e])⟩⟩)
  rw [List.append_assoc] at r4
  refine ⟨r4, fun u hu => ?_, fun u hu => ?_⟩
  · rcases List.mem_append.mp hu with hu | hu
    · exact (r.pf u hu).imp id fun q => List.mem_append_left _ q
    · rw [List.mem_singleton.mp hu]
      exact (r.pw h (by simp)).imp id fun q => List.mem_append_left _ q
  · rcases List.mem_append.mp hu with hu | hu
    · exact (r.pw u (List.mem_append_left _ hu)).imp id fun q => List.mem_append_left _ q
    · obtain ⟨h1, h2⟩ := List.mem_filter.mp hu
      obtain ⟨h3, h4⟩ := of_decide_eq_true h2
      right
      rw [← (hW u ((hm u).mp h1) h3).2]
      simp
theorem LW.start {ties : List (Int × Int)} {bar s : Int} {par : Int → Int} : LW ties bar s par [] [s] := ⟨.start, fun _ h => (nomatch h), fun u h => .inl (List.mem_singleton.mp h)⟩
end S4

/-! rules of exceptions and own == that the library lacks -/
namespace EE
open PySem PySem.Spec PyProof.Rows L2
section
variable {X : Cx} {C : Addr} {bmB : List Value} {B newId initId : String}
/-- X() -/
theorem pmk_own0 {x : Str} {p pos : Pos} (F : ExcBaseFacts B newId initId bmB) (q : PySem.W.excIn X.K C bmB newId = true) (gC : X.mg x = some (.ref C)) (kC : PySem.W.keepIn X.K (.ref C) = true) (r : Raises X (.ref C)) (hg : Gl X x)
    (hdb : (x == ("__debug__" : Str)) = false := by decide) : PMk X (.Call (.Name x p) [] [] pos) (fun _ H Q => Q (.ref C) none H) := by
  intro pins s σ H Q I h
  refine wpAny_Call_Name_kw (ld_glob I hg gC ?_ hdb)
  obtain ⟨bm, N, nm, qn, bs, hdct, sn, sub, ab, col, dd, k0, k1, k2, k3, k5, mN, hC, hN, hni, T⟩ := exc_obj I.kIn q
  refine PySem.W.callWith_K0 I.kIn kC ?_
  refine wpAny_call_exc_subT F T hC hN hni (fun h' e hm => ?_) (Nat.zero_le _)
  exact mk_of I hm r h (I.hok.gone hm.new)
end
/-! ### isinstance of a caught error, whatever its own dict -/
end EE
namespace PySem.W
open PySem PySem.Spec PySem.Calls PyProof.Rows
section
variable {prog : Program} {w : World} {A : Around} {E : Value → Shared → Prop} {s : Shared} {K : Frag} {x D : Addr} {ox : Obj} {od : Option Obj}
theorem findObj_dataG {C : Addr} {name : Str} {a g : Value} (hc : (clsIn K C).isSome = true) (ha : findIn K (.ref C) name = some (some a)) (hg : specialIn K a "__get__" = some (some g)) (ht : takesIn K a = some true) : findObj K C od name = some (.bind g a) := by
  obtain ⟨cd, hc⟩ := Option.isSome_iff_exists.mp hc
  unfold findObj
  rw [hc, Option.bind_some, ha, Option.bind_some]
  simp [hg, ht]
theorem kin_classG {Q : Option Value → Shared → Prop} (hga : findIn K (.ref D) "__getattribute__" = some (some (.builtin "BaseException.__getattribute__"))) (hgt : findIn K (.ref D) "__getattr__" = some none) (hsub : subIn K (.ref D) (.type "BaseException") = some true)
    (hdct : hasDictIn K D = true) (ha : findIn K (.ref D) "__class__" = some (some (.builtin "object.__class__")))
    (hn : specialIn K (.builtin "object.__class__") "__get__" = some (some (.builtin "getset_descriptor.__get__"))) (htk : takesIn K (.builtin "object.__class__") = some true) (hm : mroIn K D (.type "object") = some true)
    (X : K.In s.heap) (I : InstAt s.heap x ox D od) (h : Q (some (.ref D)) { s with toks := s.toks + 1 }) : wpAny (model prog w) A (getAttr? (.ref x) "__class__") Q E s := by
  have hf : findObj K D od "__class__" = some (.bind (.builtin "getset_descriptor.__get__") (.builtin "object.__class__")) := findObj_dataG (by obtain ⟨cd, hc, _⟩ := any_some hdct; rw [hc]; rfl) ha hn htk
  obtain ⟨hp, g, d, t, os⟩ := s
  have L0 := I.type (M := model prog w)
  have L1 := looks_findIn (M := model prog w) X hga
  have L2 := looks_findIn (M := model prog w) X hgt
  have L3 := looks_find (M := model prog w) X I hf
  have sub : Looks (model prog w) hp (isInstance (.ref x) (.type "BaseException")) true := L0.andThen (looks_subIn X hsub)
  have hx0 : (false && onTheHeap (Value.builtin "BaseException.__getattribute__")) = false := rfl
  have hx2 : (Value.builtin "BaseException.__getattribute__" == Value.builtin "object.__getattribute__") = false := by decide +kernel
  have hx1 : (onTheHeap (Value.ref D) && Value.builtin "BaseException.__getattribute__" == Value.builtin "object.__getattribute__") = false := by rw [hx2]; rfl
  unfold getAttr? getAttrBy? getAttrBy
  refine wpAny_bind (wpAny_mkText (wpAny_bind (wpAny_attempt (wpAny_holding (wpAny_bind (L0.at (wpAny_bind (L1.at ?_))))))))
  show wpAny _ _ (if (onTheHeap (Value.ref D) && Value.builtin "BaseException.__getattribute__" == Value.builtin "object.__getattribute__") = true then _ else _) _ _ _
  rw [hx1, if_neg Bool.false_ne_true]
  unfold getAttrByItsOwn hookBefore
  refine wpAny_bind ?_
  rw [if_pos (show onTheHeap (Value.ref D) = true from rfl)]
  refine L2.at ?_
  refine wpAny_bind (wpAny_attempt (wpAny_holding ?_))
  unfold callGetattribute
  rw [hx0, if_neg Bool.false_ne_true]
  unfold boundAndCalled
  rw [PySem.F.excAttr_ValueError.ga.bind (.ref x)]
  refine wpAny_bind (wpAny_pure ?_)
  show wpAny _ _ (call (.builtin "BaseException.__getattribute__") [.ref x, .str "__class__" t]) _ _ _
  refine wpAny_call (codeAny_call_builtin PySem.F.excAttr_ValueError.ga.plain PySem.F.entry_bexc_ga ?_)
  refine @check_slot (model prog w) _ _ ⟨hp, g, d, t + 1, os⟩ "BaseException.__getattribute__" "BaseException" "__getattribute__" (.ref x) [.str "__class__" t] [] _ (by decide +kernel) (by decide +kernel) sub (PySem.F.args_bexc_ga (.ref x) (.str "__class__" t)) ?_
  unfold Builtin.«object.__getattribute__»
  refine wpAny_bind (wpAny_of_eq (a := ((Value.ref x : Value), [Value.str "__class__" t])) (by first | rfl | (simp only [slotArgs]; rfl)) ?_)
  refine wpAny_bind (wpAny_pure (wpAny_bind (L0.at (wpAny_bind (L3.at ?_)))))
  show wpAny _ _ (holding [Value.builtin "object.__class__"] (call (.builtin "getset_descriptor.__get__") [.builtin "object.__class__", .ref x, .ref D]) >>= ret) _ _ _
  refine wpAny_bind (wpAny_holding (wpAny_call (class_get (s := ⟨hp, g, d, t + 1, os⟩) (ox := ox) (od := od) X I hm ?_)))
  refine wpAny_pure ?_
  show wpAny _ _ (handedOut (.ref D)) _ _ _
  rw [handedOut_of (v := .ref D) rfl]
  first
    | exact wpAny_pure (wpAny_pure h)
    | exact wpAny_pure h
    | exact wpAny_pure (wpAny_bind (wpAny_pure (wpAny_pure h)))
theorem kitx_excG (hga : findIn K (.ref D) "__getattribute__" = some (some (.builtin "BaseException.__getattribute__"))) (hgt : findIn K (.ref D) "__getattr__" = some none) (hsub : subIn K (.ref D) (.type "BaseException") = some true) (hdct : hasDictIn K D = true) (ha : findIn K (.ref D) "__class__" = some (some (.builtin "object.__class__")))
    (hn : specialIn K (.builtin "object.__class__") "__get__" = some (some (.builtin "getset_descriptor.__get__"))) (htk : takesIn K (.builtin "object.__class__") = some true) (hm : mroIn K D (.type "object") = some true) :
    KitX K (.ref x) (.ref D) (fun h => InstAt h x ox D od) where
  ty := fun _ _ _ I => I.type
  it := fun _ _ X _ => by
    obtain ⟨cdD, hcD, _⟩ := any_some hdct
    unfold clsIn at hcD
    split at hcD
    · rename_i c' d' cd' sl' ho
      intro A' Q' E' s' k q
      unfold isType loadHead
      exact wpAny_bind (wpAny_loadPart (k _ _ (X _ _ ho)) (wpAny_pure q))
    · cases hcD
  ne := fun h tp dd its n sl X htp => by
    obtain ⟨cdD, hcD, _⟩ := any_some hdct
    refine Bool.eq_false_iff.mpr fun q => ?_
    have e : D = tp := Value.ref.inj (beq_iff_eq.mp q)
    subst e
    unfold clsIn at hcD
    split at hcD
    · rename_i c' d' cd' sl' ho
      have z := (X _ _ ho).symm.trans htp
      cases z
    · cases hcD
  ca := fun X I k => kin_classG hga hgt hsub hdct ha hn htk hm X I k
end
end PySem.W
namespace EE
open PySem PySem.Spec PyProof.Rows L2
/-- isinstance(e, c), e the exception that the suite holds, at a; cls its class, d its dict -/
def rIsG (K : PySem.W.Frag) (cls : Value) (d : Option Addr) (a : Addr) : List V → Hp → VK → Prop := fun xs H Q => ∃ (D : Addr) (c : V) (cv : Value) (b : Bool), xs = [.ref a, c] ∧ cls = .ref D ∧ ExcC K D ∧ (d = none ∨ ∃ dd fs, d = some dd ∧ H dd = some (.xd fs)) ∧
  (∀ u, RelV c u → u = cv) ∧ PySem.W.kitOne K (.ref D) cv = some b ∧ Q (.bl b) H
theorem call_isG {X : Cx} {a : Addr} {cls : Value} {d : Option Addr} {oe : Obj} {pn : List (Addr × Obj)} (hz : Zc cls d oe) (hf : ∃ vs, oe.data = .fields vs) : CallR (X.suite a ((a, oe) :: pn)) (.builtin "isinstance") (rIsG X.K cls d a) := by
  intro pins s σ H xs us Q I r h
  obtain ⟨D, c, cv, b, rfl, rfl, C, hd, hcv, e, q⟩ := h
  cases r with
  | cons rx rr =>
    cases rr with
    | cons rt rr =>
      cases rr
      cases rx
      have ec := hcv _ rt
      subst ec
      obtain ⟨hget, _⟩ := I.pin (a, oe) (List.mem_append.mpr (.inl List.mem_cons_self))
      obtain ⟨vs, hv⟩ := hf
      have hno : PySem.W.notCls oe = true := by unfold PySem.W.notCls; rw [hv] <;> rfl
      have J : ∃ od, PySem.W.InstAt s.heap a oe D od := by
        rcases hd with rfl | ⟨dd, fs, rfl, hdd⟩
        · refine ⟨none, hget, hz.1, hno, ?_⟩
          rw [hz.2]
          trivial
        · have hx : ObjOk X.prog X.w H s.heap dd (.xd fs) := I.hok dd _ hdd
          obtain ⟨mA, hns, hr⟩ := hx
          obtain ⟨od, ho, hl⟩ := lookIn_ns hns
          refine ⟨some od, hget, hz.1, hno, ?_⟩
          rw [hz.2]
          exact ho
      obtain ⟨od, J⟩ := J
      exact PySem.W.kia_one (PySem.W.kitx_excG C.hg C.hk C.hs C.hd C.ha C.hn C.ht C.hm) I.kIn J e (fun z => nomatch z) fun tk => ⟨.bl b, H, I.kept (t' := tk) fun _ _ z => z, rfl, q⟩
theorem ref_cls {C : Addr} : ∀ u, RelV (.ref C) u → u = .ref C := fun _ h => h
theorem ty_cls {n : String} : ∀ u, RelV (.ty n) u → u = .type n := fun _ h => h
/-- own classes of exceptions against one another -/
theorem kit_sub {K : PySem.W.Frag} {A C : Addr} {b : Bool} (hC : PySem.W.hasDictIn K C = true) (ht : PySem.W.typeIn K (.ref C) = some (.type "type")) (hs : PySem.W.subIn K (.ref C) (.ref C) = some true) (h : PySem.W.subIn K (.ref A) (.ref C) = some b) : PySem.W.kitOne K (.ref A) (.ref C) = some b := by
  obtain ⟨cd, hc, _⟩ := PySem.W.any_some hC
  unfold PySem.W.kitOne
  by_cases e : A = C
  · subst e
    rw [hs] at h
    rw [if_pos (beq_self_eq_true _)]
    exact h
  · rw [if_neg (by rw [beq_iff_eq]; exact fun z => e (Value.ref.inj z))]
    have e2 : ((PySem.W.clsIn K C).isSome && PySem.W.typeIn K (.ref C) == some (.type "type")) = true := by rw [hc, ht] <;> rfl
    show (if ((PySem.W.clsIn K C).isSome && PySem.W.typeIn K (.ref C) == some (.type "type")) = true then PySem.W.subIn K (.ref A) (.ref C) else none) = some b
    rw [if_pos e2]
    exact h
/-! ### a new object whose __init__ may raise, in a try -/
def tMakeS (C : Addr) (sp : Sp) (E : L2.St → XK) (t : TA) : TE := fun σ H Q => t σ H fun vs H1 => ∀ x dx, H1 x = none → H1 dx = none → dx ≠ x →
  sp (.ref x :: vs) (upd (upd H1 dx (.own x)) x (.ins C dx [])) (fun v H2 => v = .non ∧ Q (.ref x) H2) (E σ)
section
variable {X : Cx} {CX : CXT} {k : Nat} {f C : Addr} {fd : FuncData} {ps : List Str} {sp : Sp} {E : L2.St → XK} {x m : Str} {p pos apos : Pos} {e o fe : Expr} {es : List Expr} {ta tf : TE} {t : TA}
theorem run_makeS {pins : List (Addr × Obj)} {σ : L2.St} {H : Hp} {s : Shared} {Q : VK} {us : List Value} {vs : List V} (M : Mk X.K C f) (F : FnOk X.prog X.w X.K X.mg X.base CX k f fd ps sp) (hr : Room (k + 1) X.A) (hb : Binds X.K fd ps [])
    (hx : PassesAt CX X σ (E σ)) (I : Inv X pins σ H s) (r : Vals vs us)
    (h : ∀ x dx, H x = none → H dx = none → dx ≠ x → sp (.ref x :: vs) (upd (upd H dx (.own x)) x (.ins C dx [])) (fun v H2 => v = .non ∧ Q (.ref x) H2) (E σ)) :
    wpAny (model X.prog X.w) X.A (call (.ref C) us) (EP X pins σ Q) X.xe s := by
  have hq := h (s.heap.objs.size + 1) s.heap.objs.size (I.hok.fresh (Nat.le_succ _)) (I.hok.fresh (Nat.le_refl _)) (Nat.ne_of_lt (Nat.lt_succ_self _))
  have I2 := Inv.made (C := C) I
  have r2 : Vals (V.ref (s.heap.objs.size + 1) :: vs) (Value.ref (s.heap.objs.size + 1) :: us) := .cons rfl r
  have hl : (Value.ref (s.heap.objs.size + 1) :: us).length = ps.length := by
    have e := r2.length
    rw [F.len _ _ _ _ hq] at e
    exact e.symm
  have hbb := hb _ (Value.ref (s.heap.objs.size + 1) :: us) I2.kIn (by rw [List.append_nil]; exact hl)
  rw [List.append_nil] at hbb
  refine wpAny_call (make_map (f := f) I.kIn M.makes M.init (beq_iff_eq.mp M.fn) (codeAny_mono (F.run _ X.stack _ _ ⟨Value.ref (s.heap.objs.size + 1) :: us, []⟩ (Value.ref (s.heap.objs.size + 1) :: us) _ _ (E σ) (hr.make C us [])
    (I2.env0.make C us []) hbb r2 hq) fun r s' hq' => ?_))
  cases r with
  | error e => exact hx pins _ _ e s' I2 hq'
  | ok fl =>
    cases fl with
    | ret u =>
      obtain ⟨v, H', I3, rv, ev, q3⟩ := I2.after hq'
      subst ev
      exact ⟨rv, ⟨V.ref (s.heap.objs.size + 1), H', I3, rfl, q3⟩⟩
    | next => exact False.elim hq'
    | brk => exact False.elim hq'
    | cont => exact False.elim hq'
theorem pe_makeS (M : Mk X.K C f) (F : FnOk X.prog X.w X.K X.mg X.base CX k f fd ps sp) (hr : Room (k + 1) X.A) (hg : Gl X x) (hm : X.mg x = some (.ref C)) (hb : Binds X.K fd ps []) (hx : ∀ σ, PassesAt CX X σ (E σ))
    (ha : PA X (e :: es) t) (hdb : (x == ("__debug__" : Str)) = false := by decide) (he : starEach (e :: es) X.env = (false, eval e X.env) :: starEach es X.env := by rfl) (hpl : (backTo pos (starEach es X.env)).any (·.1) = false := by rfl) :
    PE X (.Call (.Name x p) (e :: es) [] pos) (tMakeS C sp E t) := by
  refine ⟨fun pins s σ H Q I h => ?_⟩
  refine wpAny_Call_Name_kw (ld_glob I hg hm ?_ hdb)
  refine PySem.W.callWith_K (h₀ := X.base) I.ok.mod.kin M.kp (thn (ha.run pos pins s σ H _ I h) fun us s1 ⟨vs, H1, I1, r, q⟩ => ⟨I1.kIn, ?_⟩) he hpl
  exact run_makeS M F hr hb (hx σ) I1 r q
/-- a call of what an expression tells: one of some defs, each with its promise -/
structure HeldS (X : Cx) (CX : CXT) (k : Nat) (f : Addr) (sp : Sp) : Prop where
  ex : ∃ (fd : FuncData) (ps : List Str), FnOk X.prog X.w X.K X.mg X.base CX k f fd ps sp ∧ PySem.W.keepIn X.K (.ref f) = true ∧ Binds X.K fd ps []
def tCallF (S : Addr → Option Sp) (E : L2.St → XK) (tf : TE) (t : TA) : TE := fun σ H Q => tf σ H fun y H0 => ∃ f sp, y = .ref f ∧ S f = some sp ∧ t σ H0 fun vs H1 => sp vs H1 Q (E σ)
end
/-! ### one == other, an own __eq__ -/
/-- the one an instance of the class at C, the other anything that has a class -/
def rEqO (K : PySem.W.Frag) (C : Addr) (sp : Sp) (E : XK) : R2 := fun x y H Q => ∃ a dx fs, x = .ref a ∧ H a = some (.ins C dx fs) ∧ (∃ t, TyX K H y t ∧ PySem.W.notFirst K C t = true) ∧ sp [x, y] H (fun v H' => (∃ b, v = .bl b) ∧ Q v H') E
theorem op_eqO {X : Cx} {CX : CXT} {k : Nat} {C f : Addr} {fd : FuncData} {ps : List Str} {sp : Sp} {E : XK} (F : FnOk X.prog X.w X.K X.mg X.base CX k f fd ps sp) (hr : Room k X.A)
    (hs : PySem.W.findIn X.K (.ref C) "__eq__" = some (some (.ref f))) (hf : PySem.W.isFn X.K (.ref f) = true) (hb : Binds X.K fd ps []) (hx : Passes CX X E) : OpR X (compareOp .Eq) (rEqO X.K C sp E) := by
  intro pins s σ H x y v u Q I rx ry hq
  obtain ⟨a, dx, fs, rfl, ha, ⟨t, ty, nf⟩, q⟩ := hq
  cases rx
  show wpAny (model X.prog X.w) X.A (richCompare .Eq (.ref a) u) (EP X pins σ Q) X.xe s
  obtain ⟨mA, J, _⟩ := ins_get I.hok ha
  obtain ⟨od, J, _⟩ := J.look
  obtain ⟨m, hF⟩ := I.fr
  obtain ⟨Pk, Z, p, hne⟩ := kit_of I ry ty
  refine PySem.W.cmp_K (op := .Eq) (tb := t) hr.units0 hF I.ok.mod.kin J (Z.ty _ _ I.kIn p) nf hs hf ?_
  refine run_fn (dvs := []) (ds := []) (us := [.ref a, u]) (vs := [.ref a, y]) (Q := fun v H' => (∃ b, v = .bl b) ∧ Q v H') F hr hb .nil hx I (.cons rfl (.cons ry .nil)) q |> fun h => wpAny_mono h (fun v' s' hv => ?_) fun _ _ z => z
  obtain ⟨z, H', I', rz, ⟨b, rfl⟩, q'⟩ := hv
  cases rz
  exact ⟨.bl b, H', I', rfl, q'⟩
/-! ### list.count of flat things -/
section
variable {X : Cx}
def rCntF (K : PySem.W.Frag) : V → List V → Hp → VK → Prop := fun x xs H Q => ∃ (p : Addr) (ys : List V) (y : V), x = .ref p ∧ xs = [y] ∧ SqL K H p ys ∧ flatV y = true ∧ ys.all flatV = true ∧ Q (.int ((ys.countP fun z => eqV z y : Nat) : Int)) H
theorem countU {y : V} : ∀ {ys : List V} {its : List Value}, Vals ys its → ys.all flatV = true → its.countP (eqU y) = ys.countP fun z => eqV z y
  | _, _, .nil, _ => rfl
  | z :: ys, _, .cons r t, h => by
    rw [List.all_cons, Bool.and_eq_true] at h
    rw [List.countP_cons, List.countP_cons, countU t h.2, eqU_of r h.1]
theorem mt_countF : MtR X "list.count" (rCntF X.K) := by
  intro pins s σ H x xs v us Q I rx rxs h
  obtain ⟨p, ys, y, rfl, rfl, hs, fy, fys, q⟩ := h
  cases rx
  obtain ⟨u, rfl, ru⟩ := rxs.one
  obtain ⟨its, rv, ⟨⟨cls, dd, data, sl⟩, n, ho, hc, hdn, hd⟩, hlen⟩ := I.list hs
  simp only at hc hd
  subst hc hd
  refine call_meets PySem.F.slot_list_count ⟨_, ho, rfl⟩ PySem.F.entry_list_count (PySem.F.args_list_count_2 _ _)
    (SeqAt.list_countAt p its.toArray n dd sl u (eqU y)) ⟨ho, fun u' hu' => mem_eqAt ru fy rv fys u' (by simpa using hu'), ?_⟩
  refine ⟨.int ((ys.countP fun z => eqV z y : Nat) : Int), H, I.tok _, ⟨s.toks, ?_⟩, q⟩
  show Value.int ((its.toArray.toList.countP (eqU y) : Nat) : Int) s.toks = _
  rw [show its.toArray.toList = its from rfl, countU rv fys]
end
end EE

/-! calls of what an expression tells; == of the same objects -/
namespace EE
open PySem PySem.Spec PyProof.Rows L2
section
variable {X : Cx} {CX : CXT} {k : Nat} {S : Addr → Option Sp} {E : L2.St → XK} {pos : Pos} {e fe : Expr} {es : List Expr} {tf : TE} {t : TA}
theorem pe_callF (hf : PE X fe tf) (A : ∀ f sp, S f = some sp → HeldS X CX k f sp) (hr : Room k X.A) (hx : ∀ σ, PassesAt CX X σ (E σ)) (ha : PA X (e :: es) t)
    (ht : eval (.Call fe (e :: es) [] pos) X.env = (do callWith pos (← eval fe X.env) [] (backTo pos (starEach (e :: es) X.env)) (backToKw pos (keywordEach [] X.env))) := by rfl)
    (he : starEach (e :: es) X.env = (false, eval e X.env) :: starEach es X.env := by rfl) (hpl : (backTo pos (starEach es X.env)).any (·.1) = false := by rfl) : PE X (.Call fe (e :: es) [] pos) (tCallF S E tf t) := by
  refine ⟨fun pins s σ H Q I h => ?_⟩
  refine Call_ (thn (hf.run pins s σ H _ I h) fun u s1 ⟨y, H1, I1, ry, f, sp, ey, hS, q⟩ => ?_) ht
  subst ey
  obtain rfl : u = Value.ref f := ry
  obtain ⟨fd, ps, F, hk, hb⟩ := (A f sp hS).ex
  refine PySem.W.callWith_K (h₀ := X.base) I.ok.mod.kin hk (thn (ha.run pos pins s1 σ H1 _ I1 q) fun us s2 ⟨vs, H2, I2, r, q2⟩ => ⟨I2.kIn, ?_⟩) he hpl
  exact run_fnS F hr hb (hx σ) I2 r q2
end
def DSame : Eqv := fun x y _ => ∃ a, x = .ref a ∧ y = .ref a
theorem mon_same : Mon DSame := fun _ _ _ _ _ d => d
theorem eqG_same {X : Cx} : EqG X 0 DSame := by
  intro A pins s σ H x y u v sb I rx ry d
  obtain ⟨a, rfl, rfl⟩ := d
  cases rx
  cases ry
  exact SeqAt.EqAt.same (A := A) (s := s) (.ref a) X.prog X.w X.xe _ ⟨rfl, H, I, Ext.rfl'⟩
theorem op_eqSame {X : Cx} (hr : Room 1 X.A) : OpR X (compareOp .Eq) (rEqG (DTup X.K DSame)) := op_eqG (rcG_tup mon_same eqG_same) hr
theorem XfC.of {K : PySem.W.Frag} {C : Addr} (e : ExcC K C) : XfC K C := ⟨e.hg, e.hk, e.hs, e.hd⟩
end EE

namespace S4
open PySem L2 TT MM
/-! ### rules as data -/
abbrev Rule := List Int × Int
def rRule : Rp Rule := fun H v r => ∃ t x, v = .ref t ∧ H t = some (.tup [x, .int r.2]) ∧ rRow H x r.1
theorem mono_rule : Mono rRule := fun _ _ _ _ k ⟨t, x, e, h, r⟩ => ⟨t, x, e, k.tup h, mono_row _ _ _ _ k r⟩
abbrev rOwn : Rp (List Rule) := rTup rRule
abbrev rRls : Rp (List (List Rule)) := rTup rOwn
theorem mono_own : Mono rOwn := mono_tup mono_rule
theorem mono_rls : Mono rRls := mono_tup mono_own
/-- the places of the unknowns near a post -/
def nearU (ties : List (Int × Int)) (unk : List Int) (post : Int) (x : Int) : Prop := x ∈ heldL unk post ∨ ∃ q ∈ nb ties post, x ∈ heldL unk q
structure RuleOk (p : Int) (ties : List (Int × Int)) (unk : List Int) (post : Int) (r : Rule) : Prop where
  row : isRow r.1 p unk.sum
  b0 : 0 ≤ r.2
  b1 : r.2 < p
  near : ∀ i v, r.1[i]? = some v → v = 0 ∨ nearU ties unk post (i : Nat)
structure RD where
  p : Int
  ties : List (Int × Int)
  unk : List Int
  rules : List (List Rule)
structure RulesOk (S : RD) (n : Nat) : Prop where
  tree : TreeOk S.ties n
  clock : NoDiv S.p
  unk : CountsOk S.unk n
  len : S.rules.length = n
  l8 : ∀ own ∈ S.rules, own.length ≤ 8
  l60 : (S.rules.map List.length).sum ≤ 60
  ok : ∀ post own, S.rules[post]? = some own → ∀ r ∈ own, RuleOk S.p S.ties S.unk (post : Nat) r
theorem cat_of {K : PySem.W.Frag} {H : Hp} {a b : Addr} {xs ys : List V} {Q : VK} (ha : H a = some (.tup xs)) (hb : H b = some (.tup ys)) (hl : xs.length + ys.length ≤ 10000) (q : ∀ H' p, Same H H' → H' p = some (.tup (xs ++ ys)) → Q (.ref p) H') : rCatA K (.ref a) (.ref b) H Q :=
  ⟨a, b, xs, ys, rfl, rfl, .of ha, .of hb, Nat.le_trans hl (by decide), fun e => q H b (.refl _) (by subst e; exact hb), fun _ e => q H a (.refl _) (by subst e; rw [List.append_nil]; exact ha), fun _ _ p np => q _ p (same_new np) upd_same⟩
theorem slice_from {K : PySem.W.Frag} {H : Hp} {a : Addr} {xs : List V} {k : Nat} {Q : VK} (h : H a = some (.tup xs)) (q : ∀ H' p, Same H H' → H' p = some (.tup (xs.drop k)) → Q (.ref p) H') : rSlA K (.ref a) (some (k : Int)) none H Q := by
  have ec : cutV xs (some (k : Int)) none = xs.drop k := by
    unfold cutV
    rw [HT.sIx_none, HT.sIx_nat]
    by_cases hk : k ≤ xs.length
    · rw [Nat.min_eq_left hk, List.take_of_length_le (by rw [List.length_drop]; omega)]
    · rw [Nat.min_eq_right (by omega), Nat.sub_self, List.take_zero, List.drop_of_length_le (by omega)]
  refine ⟨a, xs, rfl, .of h, fun e => q H a (.refl _) ?_, fun _ p np => ?_⟩
  · rw [HT.sIx_nat] at e
    have e1 := e.1
    by_cases h0 : k = 0
    · rw [h0, List.drop_zero]; exact h
    · have : xs = [] := List.eq_nil_of_length_eq_zero (by omega)
      subst this
      rw [List.drop_nil]
      exact h
  · rw [ec]
    exact q _ p (same_new np) upd_same
theorem inV_ints (x : Int) : ∀ l : List Int, inV (.int x) (l.map V.int) = decide (x ∈ l)
  | [] => by simp [inV]
  | a :: l => by
    have ih := inV_ints x l
    show ((a == x) || inV (.int x) (l.map V.int)) = _
    rw [ih]
    by_cases h : a = x
    · subst h; simp
    · have h' : ¬ x = a := fun e => h e.symm
      simp [h, h']
theorem flat_ints : ∀ l : List Int, (l.map V.int).all flatV = true
  | [] => rfl
  | a :: l => by
    show (true && (l.map V.int).all flatV) = true
    rw [flat_ints l]
    rfl
theorem NoDiv.prm {p : Int} (h : NoDiv p) : Prm p := ⟨h.1, h.2.2⟩
theorem heldL_len {unk : List Int} {n : Nat} (oh : CountsOk unk n) (y : Int) : (heldL unk y).length ≤ 60 := by
  unfold heldL
  rw [List.length_map, List.length_range]
  have := take_sum_le oh y.toNat
  omega
theorem flat_len {F : Nat → List Int} {i : Nat} {b : Nat} (h : ∀ j, j < i → (F j).length ≤ b) : ((List.range i).flatMap F).length ≤ b * i := by
  induction i with
  | zero => simp
  | succ i ih =>
    rw [List.range_succ, List.flatMap_append, List.length_append, List.flatMap_singleton]
    have := ih fun j hj => h j (by omega)
    have := h i (by omega)
    rw [Nat.mul_succ]
    omega
section
variable {P : Program} {w : World} {K : PySem.W.Frag} {mg : Str → Option Value} {base : Heap} {cT cS : Addr}
def spNearU (cT : Addr) : Sp := fun vs H Q _ => ∃ (u v : V) (ties : List (Int × Int)) (unk : List Int) (post : Int) (n : Nat), vs = [u, v, .int post] ∧ rTree cT H u ties ∧ TiesOk ties n ∧ rRow H v unk ∧ CountsOk unk n ∧ 0 ≤ post ∧ post < (n : Int) ∧
  ∀ H' (a : Addr) (l : List Int), Same H H' → H' a = some (.lst (l.map V.int)) → l.length ≤ 1500 → (∀ x : Int, x ∈ l ↔ nearU ties unk post x) → Q (.ref a) H'
theorem ok_nearU (T : Tx K mg cT cS) {f : Addr} {fd : FuncData} (d : D K mg "near_unknowns" s_near_unknowns ["tree", "unknowns", "post"] f fd) : FnOk P w K mg base CX0 4 f fd ["tree", "unknowns", "post"] (spNearU cT) := by
  obtain ⟨f1, fd1, d1⟩ := T.d_tied
  have G1 := ok_tied (P := P) (w := w) (base := base) T d1
  obtain ⟨f2, fd2, d2⟩ := T.d_own_places
  have G2 := ok_own (P := P) (w := w) (base := base) T d2
  refine d.F.ok sc_near_unknowns (fun vs H Q E h => ?_) (fun cdv A outer s H vs Q E hr h => ?_)
  · obtain ⟨u, v, ties, unk, post, n, rfl, _⟩ := h
    rfl
  · obtain ⟨u, v, ties, unk, post, n, rfl, hT, ok, hv, oh, h0, h1, q⟩ := h
    refine ⟨_, pss_one (ps_ret (pe_lc2 (own := [("near", 3), ("place", 4)]) (vs1 := [4]) (wi1 := _) (g := (gName 3)) (g1 := (gName 4)) (tt := tYes) (tt1 := tYes) rfl sc_near_unknowns.nd
          (pi_tup (pe_op op_catA (pe_tup (pa_cons (pv 2) pa_nil)) (pe_call G1 (hr.mono (by decide)) rfl d1.m d1.F.kp d1.b .nil pass0 (pa_cons (pv 0) (pa_cons (pv 2) pa_nil))))) (blkOk_by (N := N_near_unknowns) (sc := defScope s_near_unknowns) (by decide +kernel)) (by decide)
          (fun _ _ _ _ _ => (pg_name (i := 3) sc_near_unknowns.nd rfl (Or.inl rfl))) (fun _ _ _ _ _ => pts_nil)
          (fun _ _ _ _ _ => (piT rfl (pi_tup (pe_call G2 (hr.mono (by decide)) rfl d2.m d2.F.kp d2.b .nil pass0 (pa_cons (pv 1) (pa_cons (pv 3) pa_nil))))))
          (fun _ _ _ _ _ => (pg_name (i := 4) sc_near_unknowns.nd rfl (Or.inl rfl))) (fun _ _ _ _ _ => pts_nil)
          (fun _ _ _ _ _ => (pv 4)))), ?_⟩
    have hn := ok.len
    have hn24 := ok.n24
    obtain ⟨tv, rfl, htv⟩ := id hv
    refine ⟨_, rfl, by show 1 ≤ sizeLine; decide, fun p1 np1 => ?_⟩
    have s1 := same_new (o := .tup [V.int post]) np1
    refine ⟨_, rfl, _, rfl, u, ties, post, rfl, mono_tree cT _ _ _ _ s1.keep hT, by omega, h0, by omega, fun H2 v2 ns s2 hrow hperm hup => ?_⟩
    obtain ⟨t2, rfl, ht2⟩ := hrow
    have nbl : (nb ties post).length ≤ ties.length := List.length_filterMap_le _ _
    have nsl := hperm.length_eq
    refine cat_of (s2 _ _ upd_same) ht2 (by rw [List.length_map]; show 1 + ns.length ≤ 10000; omega) fun H3 t3 s3 ht3 => ?_
    have s13 := (s1.trans s2).trans s3
    have ht3' : H3 t3 = some (.tup ((post :: ns).map V.int)) := ht3
    have hb : ∀ j : Nat, (((post :: ns)[j]?.map (heldL unk)).getD []).length ≤ 60 := by
      intro j
      cases (post :: ns)[j]? with
      | none => simp
      | some y => exact heldL_len oh y
    have hin : ∀ x ∈ post :: ns, 0 ≤ x ∧ x < (n : Int) := fun x hx => by
      rcases List.mem_cons.mp hx with rfl | hx
      · exact ⟨h0, h1⟩
      · have hx := hperm.mem_iff.mp hx
        rcases nb_mem.mp hx with h | h
        · have := ok.b0 _ h; simp only at this; omega
        · have := ok.b0 _ h; simp only at this; omega
    refine ⟨t3, rfl, ⟨_, .of ht3'⟩, fun D hD => ?_⟩
    refine walk_W (walk_tup (xs := (post :: ns).map V.int)) _ (PvFl rInt (fun i => ((post :: ns)[i]?.map (heldL unk)).getD []) D H3) (fl_start hD) (fun i H' _ h => .of (h.1.keep.tup ht3')) ?_ ?_
    · rintro i x H4 H5 hi pv ⟨rfl, hx⟩
      obtain ⟨k, hk, rfl⟩ := at_int hx
      rw [List.length_map, List.length_cons] at hi
      obtain ⟨g1, g2⟩ := hin k (List.mem_of_getElem? hk)
      refine ⟨rfl, ?_⟩
      refine ⟨_, rfl, _, rfl, .ref tv, unk, k, n, rfl, ⟨tv, rfl, (s13.trans pv.1) _ _ htv⟩, hn24, oh, g1, g2, fun H6 v6 s6 hrow6 => ?_⟩
      obtain ⟨t6, rfl, ht6⟩ := hrow6
      refine ⟨t6, rfl, ⟨_, .of ht6⟩, ?_⟩
      have hF : ((post :: ns)[i]?.map (heldL unk)).getD [] = heldL unk k := by rw [hk]; rfl
      have hpre := flat_len (i := i) (b := 60) fun j _ => hb j
      have hbi := hb i
      refine walk_W (walk_tup (xs := (heldL unk k).map V.int)) _ (PvIn rInt _ (((post :: ns)[i]?.map (heldL unk)).getD []) D H3 H6) (fl_in mono_int pv s6) (fun j H' _ h => .of (h.2.1.tup ht6)) ?_ ?_
      · rintro j y H7 H8 hj pv6 ⟨rfl, hy⟩
        obtain ⟨m, hm, rfl⟩ := at_int hy
        refine ⟨rfl, _, rfl, ?_⟩
        rw [List.length_map] at hj
        rw [hF] at hbi
        exact in_keep mono_int pv6 hD (by omega) (Same.refl _) (by rw [hF]; exact hm) rfl
      · intro H7 pv6
        exact in_fl (by rw [hF, List.length_map]) pv6
    · intro H4 pv
      obtain ⟨s4, ys, hD4, hp4⟩ := pv
      rw [List.length_map, fl_list] at hp4
      have := paired_int hp4
      subst this
      have hlen := flat_len (i := (post :: ns).length) (b := 60) fun j _ => hb j
      rw [fl_list, List.length_cons] at hlen
      refine q _ D _ (s13.trans s4) hD4 (by omega) fun x => ?_
      rw [List.mem_flatMap]
      unfold nearU
      constructor
      · rintro ⟨y, hy, hx⟩
        rcases List.mem_cons.mp hy with rfl | hy
        · exact .inl hx
        · exact .inr ⟨y, hperm.mem_iff.mp hy, hx⟩
      · rintro (h | ⟨y, hy, hx⟩)
        · exact ⟨post, by simp, h⟩
        · exact ⟨y, List.mem_cons_of_mem _ (hperm.mem_iff.mpr hy), hx⟩
def spIsRule : Sp := fun vs H Q _ => ∃ (v : V) (a : Addr) (p : Int) (wd : Int) (l : List Int) (r : Rule), vs = [.int p, .int wd, .ref a, v] ∧ rRule H v r ∧ H a = some (.lst (l.map V.int)) ∧ isRow r.1 p wd ∧ wd ≤ 60 ∧ 0 ≤ r.2 ∧ r.2 < p ∧ (∀ i v, r.1[i]? = some v → v = 0 ∨ ((i : Nat) : Int) ∈ l) ∧ ∀ H', Same H H' → Q (.bl true) H'
theorem ok_is_rule (T : Tx K mg cT cS) {f : Addr} {fd : FuncData} (d : D K mg "is_rule" s_is_rule ["p", "wide", "near", "thing"] f fd) : FnOk P w K mg base CX0 4 f fd ["p", "wide", "near", "thing"] spIsRule := by
  obtain ⟨f1, fd1, d1⟩ := T.d_is_pair
  have G1 := ok_is_pair (P := P) (w := w) (base := base) T d1
  obtain ⟨f2, fd2, d2⟩ := T.d_is_row
  have G2 := ok_is_row (P := P) (w := w) (base := base) T d2
  obtain ⟨f3, fd3, d3⟩ := T.d_is_below
  have G3 := ok_is_below (P := P) (w := w) (base := base) T d3
  refine d.F.ok sc_is_rule (fun vs H Q E h => ?_) (fun cdv A outer s H vs Q E hr h => ?_)
  · obtain ⟨v, a, p, wd, l, r, rfl, _⟩ := h
    rfl
  · obtain ⟨v, a, p, wd, l, r, rfl, hv, ha, hrow, hwd, b0, b1, hnear, q⟩ := h
    refine ⟨_, pss_cons (ps_if (PW.pt (pw_or (pt_not (pt_val (pe_call G1 (hr.mono (by decide)) rfl d1.m d1.F.kp d1.b .nil pass0 (pa_cons (pv 3) pa_nil)))) (pw_or (pt_not (pt_val (pe_call G2 (hr.mono (by decide)) rfl d2.m d2.F.kp d2.b .nil pass0 (pa_cons (pe_ix ix_tup (pv 3) pe_int (fun _ _ => rfl)) (pa_cons (pv 0) (pa_cons (pv 1) pa_nil)))))) (pw_or1 (pt_not (pt_val (pe_call G3 (hr.mono (by decide)) rfl d3.m d3.F.kp d3.b .nil pass0 (pa_cons (pe_ix ix_tup (pv 3) pe_int (fun _ _ => rfl)) (pa_cons (pv 0) pa_nil))))))))) (pss_one (ps_ret pe_bl)) pss_nil)
      (pss_one (ps_ret (pe_callB (cr_all rfl) (by rfl) T.b_all (by decide +kernel) (pa_cons (pe_lc (own := [("place", 4), ("value", 5)]) (g := (gTup K 2 (gCons (gName 4) (gCons (gName 5) gNil)))) (tt := tYes) rfl sc_is_rule.nd (pi_enumT (by rfl) T.b_enumerate (pa_cons (pe_ix ix_tup (pv 3) pe_int (fun _ _ => rfl)) pa_nil)) (blkOk_by (N := N_is_rule) (sc := defScope s_is_rule) (by decide +kernel)) (fun _ _ _ _ _ => (pgT rfl rfl (pgs_cons (pg_name (i := 4) sc_is_rule.nd rfl (Or.inl rfl)) (pgs_cons (pg_name (i := 5) sc_is_rule.nd rfl (Or.inl rfl)) pgs_nil)))) (fun _ _ _ _ _ => pts_nil)
            (fun _ _ _ _ _ => (pe_or (pe_cmpR op_eq (pv 5) pe_int (nomark _)) (pe_one (pe_cmpR (inS (K := K) rfl) (pv 4) (pv 2) (by rfl)))))) pa_nil)))), ?_⟩
    obtain ⟨t, x, rfl, ht, tx, rfl, htx⟩ := id hv
    have hrl := hrow.1
    refine ⟨_, rfl, t, _, _, rfl, ht, _, rfl, iteF ⟨_, rfl, t, _, _, _, rfl, rfl, .of ht, at_of (j := 0) rfl rfl, _, rfl, _, rfl, .ref tx, r.1, p, wd, rfl, ⟨tx, rfl, htx⟩, by omega, hrow, fun H2 s2 => ⟨_, rfl, iteF ?_⟩⟩⟩
    refine ⟨_, rfl, t, _, _, _, rfl, rfl, .of (s2 _ _ ht), at_of (j := 1) rfl rfl, _, rfl, r.2, p, rfl, ?_⟩
    rw [decide_eq_true ⟨b0, b1⟩]
    refine ⟨_, rfl, iteF ?_⟩
    refine ⟨_, rfl, t, _, _, _, rfl, rfl, .of (s2 _ _ ht), at_of (j := 0) rfl rfl, tx, r.1.map V.int, rfl, .of (s2 _ _ htx), fun D hD => ?_⟩
    refine lc_fm (walk_enumT (xs := r.1.map V.int)) rBl (fun i => r.1[i]?.bind fun _ => some true) hD (fun H' s' => .of (s'.keep.tup (s2 _ _ htx))) ?_ ?_
    · rintro i x H3 H4 hi pv ⟨tp, x1, x2, rfl, np, rfl, e2, e3⟩
      have s4 := same_new (o := .tup [x1, x2]) np
      cases (Option.some.inj e2)
      obtain ⟨v, hvv, rfl⟩ := at_int e3
      rw [List.length_map] at hi
      refine ⟨tp, _, rfl, .of upd_same, rfl, _, _, rfl, _, _, rfl, rfl, rfl, ?_⟩
      refine ⟨_, rfl, rfl, _, rfl, ?_⟩
      have fin : ∀ H5, Same (upd H3 tp (.tup [V.int (i : Nat), V.int v])) H5 → _ := fun H5 s5 => fm_keep mono_bl pv hD (by omega) (s4.trans s5) (by rw [hvv]; rfl) (show rBl H5 (.bl true) true from rfl)
      by_cases h0 : v = 0
      · subst h0
        rw [decide_eq_true rfl]
        exact iteT (fin _ (.refl _))
      · rw [decide_eq_false (fun z => h0 (V.int.inj z))]
        refine iteF ⟨_, rfl, _, rfl, a, _, rfl, .inl (.of (s4 _ _ (pv.1 _ _ (s2 _ _ ha)))), rfl, flat_ints _, ?_⟩
        rw [inV_ints, decide_eq_true ((hnear i v hvv).resolve_left h0)]
        exact fin _ (.refl _)
    · intro H3 ys s3 hD3 hp3
      rw [List.length_map] at hp3
      have := paired_bl hp3
      subst this
      refine ⟨_, _, rfl, .of hD3, ?_⟩
      rw [show (r.1.length) = r.1.length from rfl]
      have e : ((List.range r.1.length).filterMap fun i => r.1[i]?.bind fun _ => some true).all id = true := all_true fun b hb => by
        obtain ⟨i, _, e⟩ := List.mem_filterMap.mp hb
        cases h : r.1[i]? with
        | none => rw [h] at e; cases e
        | some z => rw [h] at e; cases e; rfl
      rw [e]
      exact q _ (s2.trans s3)
def spCheckR (cT : Addr) : Sp := fun vs H Q _ => ∃ (u v1 v2 : V) (S : RD) (n : Nat), vs = [.int S.p, u, v1, v2] ∧ rTree cT H u S.ties ∧ rRow H v1 S.unk ∧ rRls H v2 S.rules ∧ RulesOk S n ∧ ∀ H', Same H H' → Q .non H'
theorem ok_check_rules (T : Tx K mg cT cS) {f : Addr} {fd : FuncData} (d : D K mg "check_rules" s_check_rules ["p", "tree", "unknowns", "rules"] f fd) : FnOk P w K mg base CX0 5 f fd ["p", "tree", "unknowns", "rules"] (spCheckR cT) := by
  obtain ⟨f1, fd1, d1⟩ := T.d_near_unknowns
  have G1 := ok_nearU (P := P) (w := w) (base := base) T d1
  obtain ⟨f2, fd2, d2⟩ := T.d_is_rule
  have G2 := ok_is_rule (P := P) (w := w) (base := base) T d2
  obtain ⟨tk_MOST_AT_POST, h_MOST_AT_POST⟩ := T.c_MOST_AT_POST
  obtain ⟨tk_MOST_IN_ALL, h_MOST_IN_ALL⟩ := T.c_MOST_IN_ALL
  refine d.F.ok sc_check_rules (fun vs H Q E h => ?_) (fun cdv A outer s H vs Q E hr h => ?_)
  · obtain ⟨u, v1, v2, S, n, rfl, _⟩ := h
    rfl
  · obtain ⟨u, v1, v2, S, n, rfl, hT, hv, hR, ok, q⟩ := h
    refine ⟨_, pss_cons (ps_if (PW.pt (pw_or (pt_not (pt_val (pe_callB call_isi (by rfl) T.b_isinstance (by decide +kernel) (pa_cons (pv 3) (pa_cons (ty_tuple T.b_tuple) pa_nil))))) (pw_or1 (pt_cmpR op_ne (pe_callB call_len_seq (by rfl) T.b_len PySem.boot_len (pa_cons (pv 3) pa_nil)) (pe_fld (pv 1) rfl) (nomark _))))) pss_never pss_nil)
      (pss_cons (ps_if (pt_not (pt_val (pe_callB (cr_all rfl) (by rfl) T.b_all (by decide +kernel) (pa_cons (pe_lc (own := [("own", 4)]) (g := (gName 4)) (tt := tYes) rfl sc_check_rules.nd (pi_tup (pv 3)) (blkOk_by (N := N_check_rules) (sc := defScope s_check_rules) (by decide +kernel)) (fun _ _ _ _ _ => (pg_name (i := 4) sc_check_rules.nd rfl (Or.inl rfl))) (fun _ _ _ _ _ => pts_nil)
            (fun _ _ _ _ _ => (pe_and (pe_callB (isiS (K := K) rfl) (by rfl) T.b_isinstance (by decide +kernel) (pa_cons (pv 4) (pa_cons (ty_tuple T.b_tuple) pa_nil))) (pe_one (pe_cmpR op_le (pe_callB (lenS (K := K) rfl) (by rfl) T.b_len PySem.boot_len (pa_cons (pv 4) pa_nil)) (pe_glob (v := .int 8) rfl h_MOST_AT_POST ⟨_, rfl⟩) (nomark _)))))) pa_nil)))) pss_never pss_nil)
      (pss_cons (ps_for PassesOwn.never rfl (pi_enumT (by rfl) T.b_enumerate (pa_cons (pv 3) pa_nil)) (pg_tup rfl (pgs_cons (pg_name (i := 5) sc_check_rules.nd rfl (.inl rfl)) (pgs_cons (pg_name (i := 4) sc_check_rules.nd rfl (.inl rfl)) pgs_nil)))
        (pss_cons (ps_set (i := 6) sc_check_rules.nd rfl (.inl rfl) (pe_call G1 (hr.mono (by decide)) rfl d1.m d1.F.kp d1.b .nil pass0 (pa_cons (pv 1) (pa_cons (pv 2) (pa_cons (pv 5) pa_nil)))))
      (pss_one (ps_for PassesOwn.never rfl (pi_enumT (by rfl) T.b_enumerate (pa_cons (pv 4) pa_nil)) (pg_tup rfl (pgs_cons (pg_name (i := 7) sc_check_rules.nd rfl (.inl rfl)) (pgs_cons (pg_name (i := 8) sc_check_rules.nd rfl (.inl rfl)) pgs_nil)))
        (pss_one (ps_if (pt_not (pt_val (pe_call G2 (hr.mono (by decide)) rfl d2.m d2.F.kp d2.b .nil pass0 (pa_cons (pv 0) (pa_cons (pe_callB (cr_sumT rfl) (by rfl) T.b_sum (by decide +kernel) (pa_cons (pv 2) pa_nil)) (pa_cons (pv 6) (pa_cons (pv 8) pa_nil))))))) pss_never pss_nil))))))
      (pss_one (ps_if (pt_cmpR op_gt (pe_callB (cr_sum rfl) (by rfl) T.b_sum (by decide +kernel) (pa_cons (pe_lc (own := [("own", 4)]) (g := (gName 4)) (tt := tYes) rfl sc_check_rules.nd (pi_tup (pv 3)) (blkOk_by (N := N_check_rules) (sc := defScope s_check_rules) (by decide +kernel)) (fun _ _ _ _ _ => (pg_name (i := 4) sc_check_rules.nd rfl (Or.inl rfl))) (fun _ _ _ _ _ => pts_nil)
            (fun _ _ _ _ _ => (pe_callB (lenS (K := K) rfl) (by rfl) T.b_len PySem.boot_len (pa_cons (pv 4) pa_nil)))) pa_nil)) (pe_glob (v := .int 60) rfl h_MOST_IN_ALL ⟨_, rfl⟩) (nomark _)) pss_never pss_nil)))), ?_⟩
    obtain ⟨tr, dx, t, xs, rfl, hI, ht, hp⟩ := id hT
    obtain ⟨tw, ws, rfl, hw, hwp⟩ := id hR
    obtain ⟨tu, rfl, htu⟩ := id hv
    have hn := ok.tree.ok.len
    have hn24 := ok.tree.ok.n24
    have hlw := paired_len hwp
    have hl := ok.len
    have nP : NoAttr K cT "posts" := (let ⟨_, _, kT⟩ := T.k_Tree; kT.na _ (by simp))
    have clT : Cls K cT := (let ⟨_, _, kT⟩ := T.k_Tree; kT.cl)
    have pm := ok.clock.2.1
    refine ⟨_, rfl, _, _, _, _, _, rfl, .ty _, .base (.tup hw), kit_tt, _, rfl, iteF ?_⟩
    refine ⟨_, rfl, _, _, rfl, .inr (.of hw), _, rfl, tr, cT, dx, _, _, rfl, hI, clT, nP, tfs_posts _ _, rfl, _, rfl, ?_⟩
    have e1 : V.int ((ws.length : Nat) : Int) = V.int ((S.ties.length : Int) + 1) := by congr 1; omega
    rw [e1, decide_eq_true rfl]
    refine iteF ⟨_, rfl, tw, rfl, ⟨_, .of hw⟩, fun D hD => ?_⟩
    refine lc_fm (walk_tup (xs := ws)) rBl (fun _ => some true) hD (fun H' s' => .of (s'.keep.tup hw)) ?_ ?_
    · rintro i x H2 H3 hi pv ⟨rfl, hx⟩
      obtain ⟨own, hown, t2, rs, rfl, ht2, hrp⟩ := paired_get (paired_mono mono_own pv.1.keep hwp) hx
      have b1 := ok.l8 own (List.mem_of_getElem? hown)
      have hrl := paired_len hrp
      refine ⟨rfl, _, rfl, _, _, _, _, _, rfl, .ty _, .base (.tup ht2), kit_tt, _, rfl, iteT ⟨_, rfl, _, _, rfl, .inr (.of ht2), _, _, rfl, rfl, ?_⟩⟩
      dsimp only
      rw [decide_eq_true (by omega)]
      exact fm_keep mono_bl pv hD (by omega) (Same.refl _) rfl rfl
    · intro H2 ys s2 hD2 hp2
      have := paired_bl hp2
      subst this
      refine ⟨_, _, rfl, .of hD2, _, rfl, ?_⟩
      rw [all_true_fm rfl]
      refine iteF ⟨_, rfl, tw, ws, rfl, .of (s2.keep.tup hw), ?_⟩
      refine for_it (walk_enumT (xs := ws)) (fun i σ H' => Same H H' ∧ ∃ a b c e f, σ = [some (.int S.p), some (.ref tr), some (.ref tu), some (.ref tw), a, b, c, e, f]) ⟨s2, none, none, none, none, none, rfl⟩ (fun i σ H' _ h => .of (h.1.keep.tup hw)) ?_ ?_
      · rintro i x σ H3 H4 hi ⟨s3, a, b, c, e, f, rfl⟩ ⟨tp, x1, x2, rfl, np, rfl, e2, e3⟩
        have s4 := same_new (o := .tup [x1, x2]) np
        cases (Option.some.inj e2)
        have s34 := s3.trans s4
        obtain ⟨own, hown, t2, rs, rfl, ht2, hrp⟩ := paired_get (paired_mono mono_own s34.keep hwp) e3
        have b2 := ok.ok i own hown
        refine ⟨tp, _, rfl, .of upd_same, rfl, _, _, rfl, _, _, rfl, rfl, ?_⟩
        refine ⟨_, rfl, _, rfl, _, rfl, .ref tr, .ref tu, S.ties, S.unk, (i : Nat), n, rfl, mono_tree cT _ _ _ _ s34.keep hT, ok.tree.ok, ⟨tu, rfl, s34 _ _ htu⟩, ok.unk, by omega, by omega, fun H5 na l s5 hna hll hl5 => ?_⟩
        have s35 := s34.trans s5
        refine ⟨_, rfl, t2, rs, rfl, .of (s5 _ _ ht2), ?_⟩
        refine for_it (walk_enumT (xs := rs)) (fun j σ H' => Same H5 H' ∧ ∃ c e, σ = [some (.int S.p), some (.ref tr), some (.ref tu), some (.ref tw), some (.ref t2), some (.int (i : Nat)), some (.ref na), c, e]) ⟨.refl _, _, _, rfl⟩ (fun i σ H' _ h => .of (h.1.keep.tup (s5 _ _ ht2))) ?_ ?_
        · rintro j y σ H6 H7 hj ⟨s6, c, e, rfl⟩ ⟨tq, y1, y2, rfl, nq, rfl, e4, e5⟩
          have s7 := same_new (o := .tup [y1, y2]) nq
          cases (Option.some.inj e4)
          have s57 := s6.trans s7
          obtain ⟨r, hr2, hrule⟩ := paired_get (paired_mono mono_rule (s5.trans s57).keep hrp) e5
          have hrr := b2 r (List.mem_of_getElem? hr2)
          have hs60 := ok.unk.s
          refine ⟨tq, _, rfl, .of upd_same, rfl, _, _, rfl, _, _, rfl, rfl, ?_⟩
          refine ⟨_, rfl, _, rfl, tu, S.unk, rfl, .of (s57 _ _ (s35 _ _ htu)), _, rfl, _, rfl, y2, na, S.p, S.unk.sum, l, r, rfl, hrule, s57 _ _ hna, hrr.row, hs60, hrr.b0, hrr.b1, fun i v h => (hrr.near i v h).imp_right fun h => (hl5 _).mpr h, fun H8 s8 => ⟨_, rfl, iteF ⟨s57.trans s8, _, _, rfl⟩⟩⟩
        · rintro σ H6 ⟨s6, c, e, rfl⟩
          exact ⟨s35.trans s6, _, _, _, _, _, rfl⟩
      · rintro σ H3 ⟨s3, a, b, c, e, f, rfl⟩
        refine ⟨_, rfl, tw, rfl, ⟨_, .of (s3.keep.tup hw)⟩, fun D3 hD3 => ?_⟩
        refine lc_fm (walk_tup (xs := ws)) rInt (fun i => S.rules[i]?.bind fun r => some ((r.length : Nat) : Int)) hD3 (fun H' s' => .of ((s3.trans s').keep.tup hw)) ?_ ?_
        · rintro i x H4 H5 hi pv ⟨rfl, hx⟩
          obtain ⟨own, hown, t2, rs, rfl, ht2, hrp⟩ := paired_get (paired_mono mono_own (s3.trans pv.1).keep hwp) hx
          refine ⟨rfl, _, rfl, _, _, rfl, .inr (.of ht2), ?_⟩
          exact fm_keep mono_int pv hD3 (by omega) (Same.refl _) (by rw [hown]; rfl) (by rw [paired_len hrp]; rfl)
        · intro H4 zs s4 hD4 hp4
          rw [hlw, fm_some] at hp4
          have := paired_int hp4
          subst this
          refine ⟨_, _, rfl, .of hD4, _, _, rfl, rfl, _, rfl, ?_⟩
          have hs : (S.rules.map fun r => ((r.length : Nat) : Int)).sum = (((S.rules.map List.length).sum : Nat) : Int) := by
            induction S.rules with
            | nil => rfl
            | cons a l ih => rw [List.map_cons, List.map_cons, List.sum_cons, List.sum_cons, ih]; omega
          rw [hs, decide_eq_false (by have := ok.l60; omega)]
          exact iteF (q _ (s3.trans s4))
end
end S4

namespace S4
open PySem L2 TT MM
def rfs (p : Int) (tr tu tl : Addr) : List (Str × V) := putF "rules" (.ref tl) (putF "unknowns" (.ref tu) (putF "tree" (.ref tr) (putF "p" (.int p) [])))
section
variable {p : Int} {tr tu tl : Addr}
theorem rfs_p : (rfs p tr tu tl).lookup ("p" : Str) = some (.int p) := by
  unfold rfs
  rw [lookup_putF, if_neg (by decide +kernel), lookup_putF, if_neg (by decide +kernel), lookup_putF, if_neg (by decide +kernel), lookup_putF, if_pos rfl]
theorem rfs_tree : (rfs p tr tu tl).lookup ("tree" : Str) = some (.ref tr) := by
  unfold rfs
  rw [lookup_putF, if_neg (by decide +kernel), lookup_putF, if_neg (by decide +kernel), lookup_putF, if_pos rfl]
theorem rfs_unk : (rfs p tr tu tl).lookup ("unknowns" : Str) = some (.ref tu) := by
  unfold rfs
  rw [lookup_putF, if_neg (by decide +kernel), lookup_putF, if_pos rfl]
theorem rfs_rules : (rfs p tr tu tl).lookup ("rules" : Str) = some (.ref tl) := by
  unfold rfs
  rw [lookup_putF, if_pos rfl]
end
abbrev cR (mg : Str → Option Value) : Addr := adr mg "Rules"
/-- rules in the heap -/
def rRO (cT : Addr) (mg : Str → Option Value) : Rp RD := fun H v S => ∃ a dx tr tu tl, v = .ref a ∧ H a = some (.ins (cR mg) dx (rfs S.p tr tu tl)) ∧ rTree cT H (.ref tr) S.ties ∧ rRow H (.ref tu) S.unk ∧ rRls H (.ref tl) S.rules
theorem mono_ro (cT : Addr) (mg : Str → Option Value) : Mono (rRO cT mg) := fun _ _ _ _ k ⟨a, dx, tr, tu, tl, e, h1, h2, h3, h4⟩ => ⟨a, dx, tr, tu, tl, e, k.ins h1, mono_tree cT _ _ _ _ k h2, mono_row _ _ _ _ k h3, mono_rls _ _ _ _ k h4⟩
/-- carried over a change of one instance -/
theorem keep_at {H H' : Hp} {x : Addr} {C dx : Addr} {fs : List (Str × V)} (hx : H x = some (.ins C dx fs)) (k : ∀ b o, b ≠ x → H b = some o → H' b = some o) {t : Addr} {xs : List V} (h : H t = some (.tup xs)) : H' t = some (.tup xs) := k t _ (ne_of h hx (fun z => nomatch z)) h
section
variable {H H' : Hp} {x : Addr} (kt : ∀ t xs, H t = some (.tup xs) → H' t = some (.tup xs))
include kt
theorem row_kt {v : V} {l : List Int} (h : rRow H v l) : rRow H' v l := let ⟨t, e, h1⟩ := h; ⟨t, e, kt _ _ h1⟩
theorem pi_kt {v : V} {l : Int × Int} (h : rPI H v l) : rPI H' v l := let ⟨t, e, h1⟩ := h; ⟨t, e, kt _ _ h1⟩
theorem rule_kt {v : V} {l : Rule} (h : rRule H v l) : rRule H' v l := let ⟨t, x, e, h1, h2⟩ := h; ⟨t, x, e, kt _ _ h1, row_kt kt h2⟩
theorem own_kt {v : V} {l : List Rule} (h : rOwn H v l) : rOwn H' v l := let ⟨t, xs, e, h1, h2⟩ := h; ⟨t, xs, e, kt _ _ h1, Paired.mapP h2 fun _ _ q => rule_kt kt q⟩
theorem rls_kt {v : V} {l : List (List Rule)} (h : rRls H v l) : rRls H' v l := let ⟨t, xs, e, h1, h2⟩ := h; ⟨t, xs, e, kt _ _ h1, Paired.mapP h2 fun _ _ q => own_kt kt q⟩
theorem tree_kt {cT : Addr} {v : V} {l : List (Int × Int)} (h : rTree cT H v l) (ki : ∀ a dx fs, v = .ref a → H a = some (.ins cT dx fs) → H' a = some (.ins cT dx fs)) : rTree cT H' v l :=
  let ⟨a, dx, t, xs, e, h1, h2, h3⟩ := h
  ⟨a, dx, t, xs, e, ki _ _ _ e h1, kt _ _ h2, Paired.mapP h3 fun _ _ q => pi_kt kt q⟩
end
theorem sum_lensR : ∀ l : List (List Rule), (l.map fun r => ((r.length : Nat) : Int)).sum = (((l.map List.length).sum : Nat) : Int)
  | [] => rfl
  | a :: l => by
    rw [List.map_cons, List.map_cons, List.sum_cons, List.sum_cons, sum_lensR l]
    omega
theorem paired_drop {α β : Type} {F : α → β → Prop} : ∀ {xs : List α} {l : List β} (k : Nat), Paired F xs l → Paired F (xs.drop k) (l.drop k)
  | _, _, 0, h => h
  | _, _, k + 1, .nil => .nil
  | _, _, k + 1, .cons _ t => paired_drop k t
theorem set_cut {α : Type} {l : List α} {i : Nat} {x : α} (h : i < l.length) : l.take i ++ [x] ++ l.drop (i + 1) = l.set i x := by
  rw [List.set_eq_take_append_cons_drop, if_pos h, List.append_assoc]
  rfl
theorem same_make {H : Hp} {x dx C : Addr} (nx : H x = none) (ndx : H dx = none) (ne : dx ≠ x) : Same H (upd (upd H dx (.own x)) x (.ins C dx [])) := fun b o e => by
  rw [upd_ne (ne_of_none e nx), upd_ne (ne_of_none e ndx)]
  exact e
section
variable {P : Program} {w : World} {K : PySem.W.Frag} {mg : Str → Option Value} {base : Heap} {cT cS : Addr}
def spInitRules (cT : Addr) (mg : Str → Option Value) : Sp := fun vs H Q _ => ∃ (x dx : Addr) (u v1 v2 : V) (S : RD) (n : Nat), vs = [.ref x, .int S.p, u, v1, v2] ∧ H x = some (.ins (cR mg) dx []) ∧ rTree cT H u S.ties ∧ u ≠ .ref x ∧ rRow H v1 S.unk ∧ rRls H v2 S.rules ∧ RulesOk S n ∧
  ∀ H', (∀ b o, b ≠ x → H b = some o → H' b = some o) → rRO cT mg H' (.ref x) S → Q .non H'
theorem ok_Rules (T : Tx K mg cT cS) {f : Addr} {fd : FuncData} (d : DC K mg "Rules" "Rules.__init__" s_Rules ["self", "p", "tree", "unknowns", "rules"] ["p", "tree", "unknowns", "rules"] (adr mg "Rules") f fd) : FnOk P w K mg base CX0 6 f fd ["self", "p", "tree", "unknowns", "rules"] (spInitRules cT mg) := by
  obtain ⟨f1, fd1, d1⟩ := T.d_is_clock
  have G1 := ok_is_clock (P := P) (w := w) (base := base) T d1
  obtain ⟨f2, fd2, d2⟩ := T.d_are_counts
  have G2 := ok_are_counts (P := P) (w := w) (base := base) T d2
  obtain ⟨f3, fd3, d3⟩ := T.d_check_rules
  have G3 := ok_check_rules (P := P) (w := w) (base := base) T d3
  obtain ⟨fTree, fdTree, kTree⟩ := T.k_Tree
  refine d.F.ok sc_Rules (fun vs H Q E h => ?_) (fun cdv A outer s H vs Q E hr h => ?_)
  · obtain ⟨x, dx, u, v1, v2, S, n, rfl, _⟩ := h
    rfl
  · obtain ⟨x, dx, u, v1, v2, S, n, rfl, hx, hu, hne, h1, h2, ok, q⟩ := h
    refine ⟨_, pss_cons (ps_if (pt_not (pt_val (pe_call G1 (hr.mono (by decide)) rfl d1.m d1.F.kp d1.b .nil pass0 (pa_cons (pv 1) pa_nil)))) pss_never pss_nil)
      (pss_cons (ps_if (pt_not (pt_val (pe_callB (C8.call_isC T.i_Tree) (by rfl) T.b_isinstance (by decide +kernel) (pa_cons (pv 2) (pa_cons (pe_glob (v := .ref cT) rfl kTree.m rfl) pa_nil))))) pss_never pss_nil)
      (pss_cons (ps_if (pt_not (pt_val (pe_call G2 (hr.mono (by decide)) rfl d2.m d2.F.kp d2.b .nil pass0 (pa_cons (pv 2) (pa_cons (pv 3) pa_nil))))) pss_never pss_nil)
      (pss_cons (ps_expr (pe_call G3 (hr.mono (by decide)) rfl d3.m d3.F.kp d3.b .nil pass0 (pa_cons (pv 1) (pa_cons (pv 2) (pa_cons (pv 3) (pa_cons (pv 4) pa_nil))))))
      (pss_cons (ps_fld (pv 0) (pv 1) rfl)
      (pss_cons (ps_fld (pv 0) (pv 2) rfl)
      (pss_cons (ps_fld (pv 0) (pv 3) rfl)
      (pss_one (ps_fld (pv 0) (pv 4) rfl)))))))), ?_⟩
    have n1 : NoAttr K (cR mg) "p" := d.na _ (by simp)
    have n2 : NoAttr K (cR mg) "tree" := d.na _ (by simp)
    have n3 : NoAttr K (cR mg) "unknowns" := d.na _ (by simp)
    have n4 : NoAttr K (cR mg) "rules" := d.na _ (by simp)
    refine ⟨_, rfl, S.p, rfl, ok.clock, _, rfl, iteF ?_⟩
    obtain ⟨tr, dxt, tt, xst, rfl, hI, htt, hpt⟩ := id hu
    refine ⟨_, rfl, tr, dxt, _, rfl, hI, _, rfl, iteF ?_⟩
    have hn := ok.tree.ok.len
    refine ⟨_, rfl, _, rfl, _, _, S.ties, S.unk, n, rfl, hu, hn, ok.tree.ok.n24, h1, ok.unk, fun H2 s2 => ⟨_, rfl, iteF ?_⟩⟩
    refine ⟨_, rfl, _, rfl, _, rfl, _, rfl, .ref tr, v1, v2, S, n, rfl, mono_tree cT _ _ _ _ s2.keep hu, mono_row _ _ _ _ s2.keep h1, mono_rls _ _ _ _ s2.keep h2, ok, fun H3 s3 => ?_⟩
    have s23 := s2.trans s3
    obtain ⟨th, rfl, hth3⟩ := mono_row _ _ _ _ s23.keep h1
    obtain ⟨tw, ws, rfl, htw, hwp⟩ := mono_rls _ _ _ _ s23.keep h2
    have hx3 := s23.keep.ins hx
    refine ⟨_, rfl, _, rfl, x, cR mg, dx, [], rfl, hx3, d.cl, n1, by show 0 < 1000; decide, ?_⟩
    refine ⟨_, rfl, _, rfl, x, cR mg, dx, _, rfl, upd_same, d.cl, n2, by show 1 < 1000; decide, ?_⟩
    rw [upd_upd]
    refine ⟨_, rfl, _, rfl, x, cR mg, dx, _, rfl, upd_same, d.cl, n3, by show 2 < 1000; decide, ?_⟩
    rw [upd_upd]
    refine ⟨_, rfl, _, rfl, x, cR mg, dx, _, rfl, upd_same, d.cl, n4, by show 3 < 1000; decide, ?_⟩
    rw [upd_upd]
    have kt : ∀ t xs, H3 t = some (.tup xs) → (upd H3 x (.ins (cR mg) dx (rfs S.p tr th tw))) t = some (.tup xs) := fun t xs e => by
      rw [upd_ne (ne_of e hx3 (fun z => nomatch z))]
      exact e
    refine q _ (fun b o hb e => by rw [upd_ne hb]; exact s23 b o e) ⟨x, dx, tr, th, tw, rfl, upd_same, ?_, row_kt kt ⟨th, rfl, hth3⟩, rls_kt kt ⟨tw, ws, rfl, htw, hwp⟩⟩
    refine tree_kt kt (mono_tree cT _ _ _ _ s23.keep hu) fun a dx' fs e e2 => ?_
    have hax : a ≠ x := fun z => hne (by rw [e, z])
    exact (upd_ne hax).trans e2
end
end S4

/-! zip of two, each a list or a tuple -/
namespace TT
open PySem PySem.Spec PyProof.Rows L2
def SqK : Bool → PySem.W.Frag → Hp → Addr → List V → Prop
  | true, K, H, a, xs => SqL K H a xs
  | false, K, H, a, xs => SqT K H a xs
def ItO : Bool → Heap → Addr → Addr → Nat → Prop
  | true, h, it, a, i => h.IsListIter it a i
  | false, h, it, a, i => h.IsTupleIter it a i
def SeO : Bool → Heap → Addr → Array Value → Prop
  | true, h, a, xs => h.IsList a xs
  | false, h, a, xs => h.IsTuple a xs
theorem ItO.obj {b : Bool} {h : Heap} {it a : Addr} {i : Nat} (x : ItO b h it a i) : ∃ o, h.get? it = some o ∧ ∀ v, o.data ≠ .cell v := by
  cases b <;> (obtain ⟨o, e, _, d⟩ := x; exact ⟨o, e, fun v q => by rw [d] at q; cases q⟩)
theorem ItO.at {b : Bool} {h h' : Heap} {it a : Addr} {i : Nat} (x : ItO b h it a i) (k : ∀ o, h.get? it = some o → h'.get? it = some o) : ItO b h' it a i := by
  cases b
  · exact Heap.IsTupleIter.at (show h.IsTupleIter it a i from x) k
  · exact Heap.IsListIter.at (show h.IsListIter it a i from x) k
theorem drawsK {prog : Program} {w : World} {A : Around} (hh : A.handled = none) (b : Bool) (it a : Addr) (hne : a ≠ it) (items : Array Value) :
    Draws prog w A it [it, a] items.size (fun i v => items[i]? = some v) (fun i h => ItO b h it a i ∧ SeO b h a items) := by
  cases b
  · exact Draws.tuple hh it a hne items
  · exact Draws.list hh it a hne items
section
variable {X : Cx} {pins : List (Addr × Obj)} {σ : L2.St} {H : Hp} {s : Shared} {a : Addr} {xs ys : List V} {b : Bool}
theorem seqK (I : L2.Inv X pins σ H s) (h : SqK b X.K H a xs) : ∃ its : List Value, L2.Vals xs its ∧ SeO b s.heap a its.toArray ∧ a < s.heap.objs.size := by
  cases b
  · obtain ⟨its, r, p, _⟩ := I.tuple h
    exact ⟨its, r, p, p.lt⟩
  · obtain ⟨its, r, p, _⟩ := I.list h
    exact ⟨its, r, p.isList, p.lt⟩
theorem injK (I : L2.Inv X pins σ H s) (h : SqK b X.K H a xs) (h' : SqK b X.K H a ys) : xs = ys := by
  cases b
  · exact I.tuple_inj h h'
  · exact I.list_inj h h'
end
def ItzM (b1 b2 : Bool) (K : PySem.W.Frag) (a b : Addr) : It :=
  ⟨fun i H => ∃ (xs ys : List V) (x y : V), SqK b1 K H a xs ∧ SqK b2 K H b ys ∧ xs[i]? = some x ∧ ys[i]? = some y,
    fun i H v H' => ∃ T x y, v = .ref T ∧ H T = none ∧ H' = upd H T (.tup [x, y]) ∧ (∀ xs, SqK b1 K H a xs → xs[i]? = some x) ∧ ∀ ys, SqK b2 K H b ys → ys[i]? = some y,
    fun i H => ∃ xs ys : List V, SqK b1 K H a xs ∧ SqK b2 K H b ys ∧ i = min xs.length ys.length⟩
theorem turn_zipM {P : Program} {w : World} {K : PySem.W.Frag} {elts : List Expr} {kk : Nat} {tpos : Pos} {b1 b2 : Bool} {a b z TI TO i1 i2 : Addr} (D : ZipSep2 z TI TO i1 i2 [i1, a] [i2, b]) (ha : a ≠ i1) (hb : b ≠ i2) :
    Turn P w K (.Tuple elts kk tpos) (ItzM b1 b2 K a b) [z, TI, TO, i1, i2] z (fun i h => IsZip h z TI TO .none ∧ IsTupOf2 h TI (.ref i1) (.ref i2) ∧ (∃ x y, IsTupOf2 h TO x y) ∧ ItO b1 h i1 a i ∧ ItO b2 h i2 b i) where
  mem := by simp
  obj := fun i h st c hc => by
    obtain ⟨hz, hTI, ⟨x, y, hTO⟩, h1, h2⟩ := st
    have e' : c = z ∨ c = TI ∨ c = TO ∨ c = i1 ∨ c = i2 := by simpa using hc
    rcases e' with q | q | q | q | q
    · rw [q]; exact ⟨_, hz, fun v q => nomatch q⟩
    · rw [q]; exact ⟨_, hTI, fun v q => nomatch q⟩
    · rw [q]; exact ⟨_, hTO, fun v q => nomatch q⟩
    · rw [q]; exact h1.obj
    · rw [q]; exact h2.obj
  keep := fun i h h' st k => by
    obtain ⟨hz, hTI, ⟨x, y, hTO⟩, h1, h2⟩ := st
    exact ⟨k z (by simp) _ hz, k TI (by simp) _ hTI, ⟨x, y, k TO (by simp) _ hTO⟩, h1.at fun o q => k i1 (by simp) o q, h2.at fun o q => k i2 (by simp) o q⟩
  item := by
    intro X hP hw hK hc i pins s σ H E I hf st hg
    subst hP hw hK
    obtain ⟨hz, hTI, ⟨x0, y0, hTO⟩, h1, h2⟩ := st
    obtain ⟨xs, ys, x, y, hqx, hqy, hx, hy⟩ := hg
    obtain ⟨its, rv, p, _⟩ := seqK I hqx
    obtain ⟨its2, rv2, p2, _⟩ := seqK I hqy
    obtain ⟨u, hu, ru⟩ := rv.get hx
    obtain ⟨u2, hu2, ru2⟩ := rv2.get hy
    have hzl : z < s.heap.objs.size := Heap.lt_size hz
    have lt1 : i < its.toArray.size := by rw [List.size_toArray]; exact (List.getElem?_eq_some_iff.mp hu).1
    have lt2 : i < its2.toArray.size := by rw [List.size_toArray]; exact (List.getElem?_eq_some_iff.mp hu2).1
    refine wpAny_pyNext_zipD2_item D (drawsK (A := X.A.in1) (I.ok.hd hc) b1 i1 a ha its.toArray) (drawsK (A := X.A.in1) (I.ok.hd hc) b2 i2 b hb its2.toArray) hz hTI hTO ⟨h1, p⟩ ⟨h2, p2⟩ lt1 lt2 fun v1 v2 h' tk g1 g2 z' TO' d1 d2 hT hsz hk => ?_
    have e1 : v1 = u := by
      have q : its.toArray[i]? = some v1 := g1
      rw [show its.toArray[i]? = its[i]? by simp, hu] at q
      exact (Option.some.inj q).symm
    have e2 : v2 = u2 := by
      have q : its2.toArray[i]? = some v2 := g2
      rw [show its2.toArray[i]? = its2[i]? by simp, hu2] at q
      exact (Option.some.inj q).symm
    subst e1 e2
    refine ⟨_, rfl, wpAny_letOwnedTupleGo_zip (s := { s with heap := h', toks := tk }) z' fun h'' z'' sb => ?_⟩
    have hT2 : h''.get? s.heap.objs.size = some { cls := .type "tuple", data := .seq #[v1, v2] } := (sb.2 _ (Nat.ne_of_gt hzl)).trans hT
    have new : ObjOk X.prog X.w (upd H s.heap.objs.size (.tup [x, y])) h'' s.heap.objs.size (.tup [x, y]) :=
      ⟨by show 2 ≤ sizeLine; decide, [v1, v2], .cons ru (.cons ru2 .nil), ⟨_, hT2, rfl, _, rfl⟩⟩
    have I1 : L2.Inv X pins σ (upd H s.heap.objs.size (.tup [x, y])) { s with heap := h'', toks := tk } :=
      I.turnedNew (t' := tk) (ch := [z, TI, TO, i1, i2]) (fun c o hb q => (sb.2 c (fun q' => hb (by simp [q']))).trans (hk c o (fun q' => hb (by simp [q'])) (fun q' => hb (by simp [q'])) (fun q' => hb (by simp [q'])) (fun q' => hb (by simp [q'])) q)) hf (Nat.le_refl _) new
    refine ⟨.ref s.heap.objs.size, _, I1, rfl, ⟨_, x, y, rfl, I.hok.fresh (Nat.le_refl _), rfl, fun l hl => by rw [injK I hl hqx]; exact hx, fun l hl => by rw [injK I hl hqy]; exact hy⟩, ⟨z'', ?_, ⟨v1, v2, ?_⟩, ?_, ?_⟩, fun c hcm => ?_⟩
    · exact (sb.2 _ D.TIz).trans (hk _ _ D.TIz D.TITO D.TIi1 D.TIi2 hTI)
    · exact (sb.2 _ D.TOz).trans TO'
    · exact d1.1.at fun o q => (sb.2 _ D.zi1.symm).trans q
    · exact d2.1.at fun o q => (sb.2 _ D.zi2.symm).trans q
    · have hlt : c < s.heap.objs.size := by
        have e' : c = z ∨ c = TI ∨ c = TO ∨ c = i1 ∨ c = i2 := by simpa using hcm
        rcases e' with q | q | q | q | q
        · rw [q]; exact hzl
        · rw [q]; exact Heap.lt_size hTI
        · rw [q]; exact Heap.lt_size hTO
        · rw [q]; obtain ⟨_, e1, _⟩ := h1.obj; exact Heap.lt_size e1
        · rw [q]; obtain ⟨_, e2, _⟩ := h2.obj; exact Heap.lt_size e2
      rw [upd_ne (Nat.ne_of_lt hlt)]
      exact (hf c hcm).1
  done := by
    intro X hP hw hK hc i pins s σ H E I hf st hg
    subst hP hw hK
    obtain ⟨hz, hTI, ⟨x0, y0, hTO⟩, h1, h2⟩ := st
    obtain ⟨xs, ys, hqx, hqy, hend⟩ := hg
    obtain ⟨its, rv, p, _⟩ := seqK I hqx
    obtain ⟨its2, rv2, p2, _⟩ := seqK I hqy
    have l1 := rv.length
    have l2 := rv2.length
    exact wpAny_pyNext_zipD2_end D (drawsK (A := X.A.in1) (I.ok.hd hc) b1 i1 a ha its.toArray) (drawsK (A := X.A.in1) (I.ok.hd hc) b2 i2 b hb its2.toArray) hz hTI hTO ⟨h1, p⟩ ⟨h2, p2⟩ (by rw [List.size_toArray]; omega) (by rw [List.size_toArray]; omega) (by rw [List.size_toArray, List.size_toArray]; omega)
      fun h' tk hk => ⟨rfl, I.turnedL (t' := tk) (ch := [z, TI, TO, i1, i2]) (fun c o hb q => hk c o (fun q' => hb (by simp [q'])) (fun q' => hb (by simp [q'])) (fun q' => hb (by simp [q'])) (fun q' => hb (by simp [q'])) q) hf⟩
  self := fun A i s Q E st h => wpAny_pyIter_zip st.1 h
def itObj (b : Bool) (a : Addr) : Obj := match b with
  | true => { cls := .type "list_iterator", data := .fields #[.ref a, .int 0 0] }
  | false => { cls := .type "tuple_iterator", data := .fields #[.ref a, .int 0 0] }
theorem beginsK (b : Bool) (a : Addr) (items : Array Value) : Begins (.ref a) (itObj b a) fun h => SeO b h a items := by
  cases b
  · exact begins_tuple a items
  · exact begins_list a items
theorem itK {b : Bool} {h : Heap} {it a : Addr} (e : h.get? it = some (itObj b a)) : ItO b h it a 0 := by
  cases b
  · exact ⟨_, e, rfl, rfl⟩
  · exact ⟨_, e, rfl, rfl⟩
def iZipM (K : PySem.W.Frag) (ta : TA) : TI := fun σ H R => ta σ H fun vs H1 => ∃ a b xs ys b1 b2, vs = [.ref a, .ref b] ∧ SqK b1 K H1 a xs ∧ SqK b2 K H1 b ys ∧ R (ItzM b1 b2 K a b) H1
theorem pi_zipM {X : Cx} {e e2 : Expr} {ta : TA} {p pos tpos : Pos} {elts : List Expr} {kk : Nat} (hg : Gl X "zip") (hm : X.mg "zip" = none) (ha : PA X [e, e2] ta)
    (hs : starEach [e, e2] X.env = (false, eval e X.env) :: starEach [e2] X.env := by rfl) (hpl : (backTo pos (starEach [e2] X.env)).any (·.1) = false := by rfl) :
    PI X (.Tuple elts kk tpos) (.Call (.Name "zip" p) [e, e2] [] pos) (iZipM X.K ta) := by
  refine ⟨fun pins s σ H R I h => ?_⟩
  refine Call_ (ld_blt I hg hm PyProof.Rows.boot_zip (PyProof.Rows.callWith_type1 (thn (ha.run pos pins s σ H _ I h) fun us s1 ⟨vs, H1, I1, r1, q1⟩ => ?_) hs hpl))
  obtain ⟨a, b, xs, ys, b1, b2, ex, hqx, hqy, q⟩ := q1
  subst ex
  cases r1 with
  | cons r rr =>
    cases rr with
    | cons r' rr =>
      cases rr
      cases r
      cases r'
      have fresh5 : ∀ c, c ∈ [s1.heap.objs.size + 4, s1.heap.objs.size + 2, s1.heap.objs.size + 3, s1.heap.objs.size, s1.heap.objs.size + 1] → FpOk X pins H1 c := fun c hcm => by
        have e' : c = s1.heap.objs.size + 4 ∨ c = s1.heap.objs.size + 2 ∨ c = s1.heap.objs.size + 3 ∨ c = s1.heap.objs.size ∨ c = s1.heap.objs.size + 1 := by simpa using hcm
        have hle : s1.heap.objs.size ≤ c := by
          rcases e' with z | z | z | z | z
          · rw [z]; exact Nat.le_add_right _ _
          · rw [z]; exact Nat.le_add_right _ _
          · rw [z]; exact Nat.le_add_right _ _
          · rw [z]; exact Nat.le_refl _
          · rw [z]; exact Nat.le_add_right _ _
        exact I1.fpOk hle (I1.hok.fresh hle)
      obtain ⟨its, rv, p1, l1⟩ := seqK I1 hqx
      obtain ⟨its2, rv2, p2, l2⟩ := seqK I1 hqy
      refine zip_begins2 (beginsK b1 a its.toArray) (beginsK b2 b its2.toArray) p1 p2 fun h' hz hTI hTO h1 h2 hsz hk => wpAny_pyIter_zip hz ?_
      have I2 : L2.Inv X pins σ H1 { s1 with heap := h' } := I1.kept (t' := s1.toks) hk
      exact ⟨s1.heap.objs.size + 4, [s1.heap.objs.size + 4, s1.heap.objs.size + 2, s1.heap.objs.size + 3, s1.heap.objs.size, s1.heap.objs.size + 1], _, _, H1, rfl, I2,
        turn_zipM (zip_sep2 (fun c hc => by rw [List.mem_singleton.mp hc]; exact l1) (fun c hc => by rw [List.mem_singleton.mp hc]; exact l2)) (Nat.ne_of_lt l1) (Nat.ne_of_lt (Nat.lt_succ_of_lt l2)), ⟨hz, hTI, ⟨_, _, hTO⟩, itK h1, itK h2⟩, fresh5, q⟩
theorem walk_zipM {K : PySem.W.Frag} {a b : Addr} {b1 b2 : Bool} {xs ys : List V} {n : Nat} (hn : n = min xs.length ys.length) : Walk (ItzM b1 b2 K a b) n (fun H => SqK b1 K H a xs ∧ SqK b2 K H b ys) (YPair (fun i => xs[i]?) (fun i => ys[i]?)) := by
  subst hn
  refine ⟨fun i _ hi q => ?_, fun _ q => ⟨xs, ys, q.1, q.2, rfl⟩, fun i H v H' _ q y => ?_⟩
  · have h1 : i < xs.length := by omega
    have h2 : i < ys.length := by omega
    exact ⟨xs, ys, xs[i], ys[i], q.1, q.2, by simp [h1], by simp [h2]⟩
  · obtain ⟨T, x, z, h1, h2, h3, h4, h5⟩ := y
    exact ⟨T, x, z, h1, h2, h3, h4 xs q.1, h5 ys q.2⟩
end TT

/-! any(t), t a tuple of ints -/
namespace TT
open PySem PySem.Spec PyProof.Rows L2
def rAnyTI (K : PySem.W.Frag) : List V → Hp → VK → Prop := fun vs H Q => ∃ (a : Addr) (ns : List Int), vs = [V.ref a] ∧ SqT K H a (ns.map V.int) ∧ Q (.bl (ns.any fun n => n != 0)) H
theorem truth_ints {prog : Program} {w : World} {A : Around} {ns : List Int} {its : List Value} (h : Vals (ns.map V.int) its) : TruthOf prog w A (fun i v => its.toArray[i]? = some v) fun i => ns.getD i 0 != 0 := by
  intro i v s Q E hi q
  have hi : its[i]? = some v := by simpa using hi
  have hl := h.length
  rw [List.length_map] at hl
  have hlt := (List.getElem?_eq_some_iff.mp hi).1
  have hn : ns[i]? = some (ns[i]'(by omega)) := List.getElem?_eq_getElem _
  obtain ⟨u, hu, ru⟩ := h.get (show (ns.map V.int)[i]? = some (V.int (ns[i]'(by omega))) by rw [List.getElem?_map, hn]; rfl)
  rw [hi] at hu
  cases (Option.some.inj hu)
  obtain ⟨t, e⟩ := ru
  rw [e]
  refine PyProof.Rows.truthy_int ?_
  have : ns.getD i 0 = ns[i]'(by omega) := by rw [List.getD_eq_getElem?_getD, hn]; rfl
  simp only [this] at q
  exact q
theorem any_rangeI (ns : List Int) : ((List.range ns.length).any fun i => ns.getD i 0 != 0) = ns.any fun n => n != 0 := by
  rw [Bool.eq_iff_iff, List.any_eq_true, List.any_eq_true]
  constructor
  · rintro ⟨i, hi, h⟩
    have hi := List.mem_range.mp hi
    have e : ns.getD i 0 = ns[i]'hi := by rw [List.getD_eq_getElem?_getD, List.getElem?_eq_getElem hi]; rfl
    exact ⟨_, List.getElem_mem hi, by rw [← e]; exact h⟩
  · rintro ⟨x, hx, h⟩
    obtain ⟨i, hi, rfl⟩ := List.getElem_of_mem hx
    refine ⟨i, List.mem_range.mpr hi, ?_⟩
    have e : ns.getD i 0 = ns[i]'hi := by rw [List.getD_eq_getElem?_getD, List.getElem?_eq_getElem hi]; rfl
    rw [e]
    exact h
theorem cr_anyTI {X : Cx} (hc : X.calm = true) : CallR X (.builtin "any") (rAnyTI X.K) := by
  intro pins s σ H vs us Q I r h
  obtain ⟨a, ns, rfl, hs, q⟩ := h
  obtain ⟨its, rv, hl, _⟩ := I.tuple hs
  rw [Vals.ref1 r]
  obtain ⟨o, ho, hcl, n, hd⟩ := id hl
  have hlt := Heap.lt_size ho
  have hlen := rv.length
  rw [List.length_map] at hlen
  refine call_any_walk (iter_tuple hl ⟨s.heap.objs.size, [s.heap.objs.size, a], [s.heap.objs.size], its.toArray.size, _, _, _, rfl, Walks.tuple (prog := X.prog) (w := X.w) (A := X.A.in1) (I.ok.hd hc) s.heap.objs.size a (Nat.ne_of_lt hlt) its.toArray,
    ⟨⟨{ cls := .type "tuple_iterator", data := .fields #[.ref a, .int 0 0] }, by simp [Heap.get?, Heap.push], rfl, rfl⟩, ⟨o, Heap.get?_push_of_some _ ho, hcl, n, hd⟩⟩, truth_ints rv, fun h' tk hk => ?_⟩)
  rw [List.size_toArray, ← hlen, any_rangeI]
  refine ⟨.bl _, H, I.kept fun b o eo => hk b o (fun hm => absurd (Heap.lt_size eo) (by rw [List.mem_singleton.mp hm]; exact Nat.lt_irrefl _)) (Heap.get?_push_of_some _ eo), rfl, q⟩
theorem anyTIK {X : Cx} {K : PySem.W.Frag} (h : X.K = K) (hc : X.calm = true) : CallR X (.builtin "any") (rAnyTI K) := h ▸ cr_anyTI hc
end TT
namespace S4
open PySem L2 TT
theorem catK {X : Cx} {K : PySem.W.Frag} (h : X.K = K) : OpR X (binaryOp .Add) (rCatA K) := h ▸ op_catA
theorem repK {X : Cx} {K : PySem.W.Frag} (h : X.K = K) : OpR X (binaryOp .Mult) (rRepA K) := h ▸ op_repA
theorem slK {X : Cx} {K : PySem.W.Frag} (h : X.K = K) : SlR X (rSlA K) := h ▸ sl_tupA
end S4

namespace S4
open PySem L2 TT MM
/-! ### what comes of rules, the others left out -/
def leftU (wd : Nat) (kept : List Int) : List Int := (rng wd).filter fun x => !decide (x ∈ kept)
def ordU (wd : Nat) (kept : List Int) : List Int := leftU wd kept ++ kept ++ [(wd : Int)]
def rowsU (S : RD) (posts : List Int) (order : List Int) : List (List Int) := posts.flatMap fun q => (S.rules.getD q.toNat []).map fun r => cutL (r.1 ++ [r.2]) order
def pureU (L : Nat) (lad : List (List Int)) : List (List Int) := (lad.filter fun row => !((row.take L).any fun n => n != 0)).map fun row => row.drop L
theorem fm_filterI (f : Nat → Bool) (n : Nat) : (List.range n).filterMap (fun i => if f i = true then some ((i : Nat) : Int) else none) = (rng n).filter fun x => f x.toNat := by
  unfold rng
  rw [List.filter_map]
  induction (List.range n) with
  | nil => rfl
  | cons a l ih =>
    rw [List.filterMap_cons, List.filter_cons]
    by_cases h : f a = true
    · have h2 : ((fun x : Int => f x.toNat) ∘ fun (i : Nat) => (i : Int)) a = true := h
      rw [if_pos h, if_pos h2, List.map_cons, ih]
    · have h2 : ¬ ((fun x : Int => f x.toNat) ∘ fun (i : Nat) => (i : Int)) a = true := h
      rw [if_neg h, if_neg h2, ih]
theorem left_perm {wd : Nat} {kept : List Int} (nd : kept.Nodup) (hin : ∀ x ∈ kept, 0 ≤ x ∧ x < (wd : Int)) : (leftU wd kept ++ kept).Perm (rng wd) := by
  have n1 : (leftU wd kept).Nodup := List.Pairwise.filter _ (rng_nodup wd)
  refine (List.perm_ext_iff_of_nodup (List.nodup_append.mpr ⟨n1, nd, fun a ha b hb e => ?_⟩) (rng_nodup wd)).mpr fun x => ?_
  · subst e
    unfold leftU at ha
    have := (List.mem_filter.mp ha).2
    simp [hb] at this
  · rw [List.mem_append]
    unfold leftU
    rw [List.mem_filter]
    constructor
    · rintro (h | h)
      · exact h.1
      · exact rng_mem.mpr (hin x h)
    · intro h
      by_cases hk : x ∈ kept
      · exact .inr hk
      · exact .inl ⟨h, by simp [hk]⟩
theorem ord_len {wd : Nat} {kept : List Int} (nd : kept.Nodup) (hin : ∀ x ∈ kept, 0 ≤ x ∧ x < (wd : Int)) : (ordU wd kept).length = wd + 1 := by
  have := (left_perm nd hin).length_eq
  unfold ordU
  rw [List.length_append, this, rng_len]
  rfl
theorem ord_in {wd : Nat} {kept : List Int} (hin : ∀ x ∈ kept, 0 ≤ x ∧ x < (wd : Int)) : ∀ x ∈ ordU wd kept, 0 ≤ x ∧ x < (wd : Int) + 1 := fun x hx => by
  unfold ordU at hx
  rcases List.mem_append.mp hx with hx | hx
  · rcases List.mem_append.mp hx with hx | hx
    · have := rng_mem.mp (List.mem_filter.mp hx).1
      omega
    · have := hin x hx
      omega
  · rw [List.mem_singleton.mp hx]
    omega
section
variable {P : Program} {w : World} {K : PySem.W.Frag} {mg : Str → Option Value} {base : Heap} {cT cS : Addr}
theorem flat_lenR {α : Type} {F : Nat → List α} {i : Nat} {b : Nat} (h : ∀ j, j < i → (F j).length ≤ b) : ((List.range i).flatMap F).length ≤ b * i := by
  induction i with
  | zero => simp
  | succ i ih =>
    rw [List.range_succ, List.flatMap_append, List.length_append, List.flatMap_singleton]
    have := ih fun j hj => h j (by omega)
    have := h i (by omega)
    rw [Nat.mul_succ]
    omega
def spCutL : Sp := fun vs H Q _ => ∃ (u : V) (a : Addr) (r l : List Int), vs = [u, .ref a] ∧ rRow H u r ∧ H a = some (.lst (l.map V.int)) ∧ l.length ≤ 1000 ∧ (∀ i ∈ l, 0 ≤ i ∧ i < (r.length : Int)) ∧ ∀ H' v', Same H H' → rRow H' v' (cutL r l) → Q v' H'
theorem ok_cutL (T : Tx K mg cT cS) {f : Addr} {fd : FuncData} (d : D K mg "cut" s_cut ["row", "lot"] f fd) : FnOk P w K mg base CX0 1 f fd ["row", "lot"] spCutL := by
  refine d.F.ok sc_cut (fun vs H Q E h => ?_) (fun cdv A outer s H vs Q E hr h => ?_)
  · obtain ⟨u, a, r, l, rfl, _⟩ := h
    rfl
  · obtain ⟨u, t2, r, l, rfl, ⟨t1, rfl, h1⟩, h2, hl, hb, q⟩ := h
    refine ⟨_, pss_one (ps_ret (pe_callTy call_tuple_of (by rfl) T.b_tuple (by decide +kernel) (pa_cons
        (pe_lc (own := [("place", 2)]) (g := gName 2) (tt := tYes) rfl sc_cut.nd (pi_list (pv 1)) (blkOk_by (N := N_cut) (sc := defScope s_cut) (by decide +kernel)) (fun _ _ _ _ _ => pg_name (i := 2) sc_cut.nd rfl (Or.inl rfl)) (fun _ _ _ _ _ => pts_nil)
          (fun _ _ _ _ _ => pe_ix (ixT (K := K) rfl) (pv 0) (pv 2) (fun _ _ => rfl))) pa_nil))), ?_⟩
    refine ⟨_, rfl, t2, rfl, ⟨_, .of h2⟩, fun D hD => ?_⟩
    refine lc_fm (walk_list (xs := l.map V.int)) rInt (fun i => l[i]?.bind fun j => some (r.getD j.toNat 0)) hD (fun H' s' => .of (s' _ _ h2)) ?_ ?_
    · rintro i x H2 H3 hi pv ⟨rfl, hx⟩
      obtain ⟨j, hj, rfl⟩ := at_int hx
      rw [List.length_map] at hi
      obtain ⟨g1, g2⟩ := hb j (List.mem_of_getElem? hj)
      obtain ⟨m, rfl⟩ : ∃ m : Nat, j = (m : Int) := ⟨j.toNat, by omega⟩
      have hm : r[m]? = some (r[m]'(by omega)) := List.getElem?_eq_getElem (by omega)
      refine ⟨rfl, _, rfl, _, rfl, t1, _, _, _, rfl, rfl, .of (pv.1.keep.tup h1), atI_nat (int_at hm), ?_⟩
      refine fm_keep mono_int pv hD (by omega) (Same.refl _) (by rw [hj]; rfl) ?_
      rw [Int.toNat_natCast, getD_at hm]
      rfl
    · intro H2 ys s2 hD2 hp2
      rw [List.length_map, fm_some] at hp2
      have := paired_int hp2
      subst this
      refine ⟨D, _, rfl, .inl ⟨.of hD2, fun p np => ?_⟩⟩
      exact q _ _ (s2.trans (same_new np)) ⟨p, rfl, upd_same⟩
def spToldOf (cT : Addr) (mg : Str → Option Value) : Sp := fun vs H Q _ => ∃ (u v1 v2 : V) (S : RD) (n wd : Nat) (posts kept : List Int), vs = [u, v1, v2] ∧ rRO cT mg H u S ∧ RulesOk S n ∧ S.unk.sum = (wd : Int) ∧ rRow H v1 posts ∧ rRow H v2 kept ∧ posts.Nodup ∧ kept.Nodup ∧ (∀ x ∈ posts, x ∈ rng n) ∧ kept.length ≤ 60 ∧ (∀ x ∈ kept, 0 ≤ x ∧ x < (wd : Int)) ∧
  ∀ H' v lad, Same H H' → IsLad S.p (wd + 1) (rowsU S posts (ordU wd kept)) lad → rTup rRow H' v (pureU (leftU wd kept).length lad) → Q v H'
theorem ok_told_of (T : Tx K mg cT cS) {f : Addr} {fd : FuncData} (d : D K mg "told_of" s_told_of ["rules", "posts", "kept"] f fd) : FnOk P w K mg base CX0 4 f fd ["rules", "posts", "kept"] (spToldOf cT mg) := by
  obtain ⟨f1, fd1, d1⟩ := T.d_cut
  have G1 := ok_cutL (P := P) (w := w) (base := base) T d1
  obtain ⟨f2, fd2, d2⟩ := T.d_ladder_of
  have G2 := ok_lad_of (P := P) (w := w) (base := base) T d2
  refine d.F.ok sc_told_of (fun vs H Q E h => ?_) (fun cdv A outer s H vs Q E hr h => ?_)
  · obtain ⟨u, v1, v2, S, n, wd, posts, kept, rfl, _⟩ := h
    rfl
  · obtain ⟨u, v1, v2, S, n, wd, posts, kept, rfl, hR, ok, hwd, hv1, hv2, hnd, hkn, hin, hk60, hkin, q⟩ := h
    refine ⟨_, pss_cons (ps_set (i := 3) sc_told_of.nd rfl (.inl rfl) (pe_callB (cr_sumT rfl) (by rfl) T.b_sum (by decide +kernel) (pa_cons (pe_fld (pv 0) rfl) pa_nil)))
      (pss_cons (ps_set (i := 4) sc_told_of.nd rfl (.inr rfl) (pe_lc (own := [("place", 8)]) (g := (gName 8)) (tt := _) rfl sc_told_of.nd (pi_range1 rfl T.b_range (pa_cons (pv 3) pa_nil)) (blkOk_by (N := N_told_of) (sc := defScope s_told_of) (by decide +kernel)) (fun _ _ _ _ _ => (pg_name (i := 8) sc_told_of.nd rfl (Or.inl rfl))) (fun _ _ _ _ _ => (pts_one (pt_cmpR (ninS (K := K) rfl) (pv 8) (pv 2) (by rfl))))
            (fun _ _ _ _ _ => (pv 8))))
      (pss_cons (ps_set (i := 5) sc_told_of.nd rfl (.inr rfl) (pe_op op_cat (pe_op op_cat (pv 4) (pe_callTy call_list_of (by rfl) T.b_list (by decide +kernel) (pa_cons (pv 2) pa_nil))) (pe_lst (pa_cons (pv 3) pa_nil))))
      (pss_cons (ps_setLc2 (i := 6) (own := [("post", 9), ("row", 10), ("right", 11)]) (vs1 := [10, 11]) (wi1 := _) (g := (gName 9)) (g1 := (gTup K 2 (gCons (gName 10) (gCons (gName 11) gNil)))) (tt := tYes) (tt1 := tYes) rfl sc_told_of.nd rfl rfl (sw_true rfl rfl rfl (by decide +kernel))
          (pi_tup (pv 1)) (blkOk_by (N := N_told_of) (sc := defScope s_told_of) (by decide +kernel)) (by decide)
          (fun _ _ _ _ _ => (pg_name (i := 9) sc_told_of.nd rfl (Or.inl rfl))) (fun _ _ _ _ _ => pts_nil)
          (fun _ _ _ _ _ => (piT rfl (pi_tup (pe_ix (ixT (K := K) rfl) (fldK (pv 0) rfl rfl) (pv 9) (fun _ _ => rfl)))))
          (fun _ _ _ _ _ => (pgT rfl rfl (pgs_cons (pg_name (i := 10) sc_told_of.nd rfl (Or.inl rfl)) (pgs_cons (pg_name (i := 11) sc_told_of.nd rfl (Or.inl rfl)) pgs_nil)))) (fun _ _ _ _ _ => pts_nil)
          (fun _ _ _ _ _ => (pe_call G1 (hr.mono (by decide)) rfl d1.m d1.F.kp d1.b .nil pass0 (pa_cons (pe_op (catK (K := K) rfl) (pv 10) (pe_tup (pa_cons (pv 11) pa_nil))) (pa_cons (pv 5) pa_nil)))))
      (pss_cons (ps_set (i := 7) sc_told_of.nd rfl (.inl rfl) (pe_call G2 (hr.mono (by decide)) rfl d2.m d2.F.kp d2.b .nil pass0 (pa_cons (pe_fld (pv 0) rfl) (pa_cons (pe_op op_add (pv 3) pe_int) (pa_cons (pv 6) pa_nil)))))
      (pss_one (ps_ret (pe_callTy call_tuple_of (by rfl) T.b_tuple (by decide +kernel) (pa_cons (pe_lc (own := [("row", 10)]) (g := (gName 10)) (tt := _) rfl sc_told_of.nd (pi_tup (pv 7)) (blkOk_by (N := N_told_of) (sc := defScope s_told_of) (by decide +kernel)) (fun _ _ _ _ _ => (pg_name (i := 10) sc_told_of.nd rfl (Or.inl rfl))) (fun _ _ _ _ _ => (pts_one (pt_not (pt_val (pe_callB (anyTIK (K := K) rfl rfl) (by rfl) T.b_any (by decide +kernel) (pa_cons (pe_slice (slK (K := K) rfl) (pv 10) po_none (po_some (pe_callB (lenS (K := K) rfl) (by rfl) T.b_len PySem.boot_len (pa_cons (pv 4) pa_nil)))) pa_nil))))))
            (fun _ _ _ _ _ => (pe_slice (slK (K := K) rfl) (pv 10) (po_some (pe_callB (lenS (K := K) rfl) (by rfl) T.b_len PySem.boot_len (pa_cons (pv 4) pa_nil))) po_none))) pa_nil)))))))), ?_⟩
    obtain ⟨a, dx, tr, tu, tl, rfl, hI, hT, ⟨tu', e, htu⟩, ⟨tl', ws, e2, hw, hwp⟩⟩ := id hR
    cases e
    cases e2
    have nR : ∀ y ∈ (["p", "tree", "unknowns", "rules"] : List Str), NoAttr K (cR mg) y := (let ⟨_, _, kR⟩ := T.k_Rules; kR.na)
    have clR : Cls K (cR mg) := (let ⟨_, _, kR⟩ := T.k_Rules; kR.cl)
    have n1 := nR "p" (by simp)
    have n3 := nR "unknowns" (by simp)
    have n4 := nR "rules" (by simp)
    have hs60 := ok.unk.s
    have hwd60 : wd ≤ 60 := by omega
    have hlw := paired_len hwp
    have hln := ok.len
    have n24 := ok.tree.ok.n24
    obtain ⟨tp, rfl, htp⟩ := id hv1
    obtain ⟨tk, rfl, htk⟩ := id hv2
    refine ⟨_, rfl, a, cR mg, dx, _, _, rfl, hI, clR, n3, rfs_unk, tu, S.unk, rfl, .of htu, ?_⟩
    rw [hwd]
    dsimp only [gName, tSeq]
    refine ⟨_, rfl, (wd : Int), rfl, by omega, by omega, fun D hD => ?_⟩
    refine lc_fm (walk_range (lo := 0) (n := ((wd : Nat) : Int).toNat)) rInt (fun i => if (!decide (((i : Nat) : Int) ∈ kept)) = true then some ((i : Nat) : Int) else none) hD (fun _ _ => trivial) ?_ ?_
    · rintro i x H2 H3 hi pv ⟨rfl, rfl⟩
      rw [Int.toNat_natCast] at hi
      refine ⟨rfl, _, rfl, _, rfl, tk, _, rfl, .inr (.of (pv.1 _ _ htk)), rfl, flat_ints _, _, rfl, ?_⟩
      rw [if_pos rfl, inV_ints, show (0 : Int) + (i : Int) = (i : Int) by omega]
      by_cases hk : ((i : Nat) : Int) ∈ kept
      · rw [decide_eq_true hk]
        exact iteF (fm_skip mono_int pv (Same.refl _) (by simp [hk]))
      · rw [decide_eq_false hk]
        exact iteT ⟨_, rfl, fm_keep mono_int pv hD (by omega) (Same.refl _) (by simp [hk]) rfl⟩
    intro H2 ys s2 hD2 hp2
    rw [Int.toNat_natCast, fm_filterI (fun i => !decide (((i : Nat) : Int) ∈ kept))] at hp2
    have := paired_int hp2
    subst this
    have el : ((rng wd).filter fun x => !decide (((x.toNat : Nat) : Int) ∈ kept)) = leftU wd kept := by
      unfold leftU
      refine List.filter_congr fun x hx => ?_
      have := rng_mem.mp hx
      rw [Int.toNat_of_nonneg this.1]
    rw [el] at hD2
    have ll := ord_len hkn hkin
    have lin := ord_in (wd := wd) hkin
    have ll2 := (left_perm hkn hkin).length_eq
    rw [List.length_append, rng_len] at ll2
    dsimp only [gName, tSeq]
    refine ⟨_, rfl, _, rfl, tk, _, rfl, .inr (.of (s2 _ _ htk)), fun l2 nl2 => ?_⟩
    have s3 := same_new (o := .lst (kept.map V.int)) nl2
    refine ⟨D, l2, _, _, rfl, rfl, s3 _ _ hD2, upd_same, Nat.le_trans (by rw [List.length_map, List.length_map]; omega : _ ≤ 1000) (by decide), fun l4 nl4 => ?_⟩
    have s4 := same_new (o := .lst ((leftU wd kept).map V.int ++ kept.map V.int)) nl4
    refine ⟨_, rfl, by show 1 ≤ sizeLine; decide, fun l5 nl5 => ?_⟩
    have s5 := same_new (o := .lst [V.int (wd : Int)]) nl5
    refine ⟨l4, l5, _, _, rfl, rfl, s5 _ _ upd_same, upd_same, Nat.le_trans (by rw [List.length_append, List.length_map, List.length_map]; show _ + 1 ≤ _; omega : _ ≤ 1000) (by decide), fun l6 nl6 => ?_⟩
    have eo : (leftU wd kept).map V.int ++ kept.map V.int ++ [V.int (wd : Int)] = (ordU wd kept).map V.int := by unfold ordU; rw [List.map_append, List.map_append]; rfl
    have s6 := same_new (o := .lst ((leftU wd kept).map V.int ++ kept.map V.int ++ [V.int (wd : Int)])) nl6
    rw [eo] at s6 ⊢
    have t6 := s2.trans ((s3.trans s4).trans (s5.trans s6))
    have ho6 : (upd (upd (upd (upd H2 l2 (.lst (kept.map V.int))) l4 (.lst ((leftU wd kept).map V.int ++ kept.map V.int))) l5 (.lst [V.int (wd : Int)])) l6 (.lst ((ordU wd kept).map V.int))) l6 = some (.lst ((ordU wd kept).map V.int)) := upd_same
    have hD6 := ((s3.trans s4).trans (s5.trans s6)) _ _ hD2
    generalize (upd (upd (upd (upd H2 l2 (.lst (kept.map V.int))) l4 (.lst ((leftU wd kept).map V.int ++ kept.map V.int))) l5 (.lst [V.int (wd : Int)])) l6 (.lst ((ordU wd kept).map V.int))) = H6 at *
    have hw6 := t6 _ _ hw
    refine ⟨_, rfl, tp, rfl, ⟨_, .of (t6 _ _ htp)⟩, fun D7 hD7 => ?_⟩
    have hb : ∀ j : Nat, ((posts[j]?.map fun q => (S.rules.getD q.toNat []).map fun r => cutL (r.1 ++ [r.2]) (ordU wd kept)).getD []).length ≤ 8 := fun j => by
      cases posts[j]? with
      | none => simp
      | some y =>
        show ((S.rules.getD y.toNat []).map _).length ≤ 8
        rw [List.length_map]
        by_cases hy : y.toNat < S.rules.length
        · rw [getD_at (List.getElem?_eq_getElem hy)]
          exact ok.l8 _ (List.getElem_mem hy)
        · rw [List.getD_eq_getElem?_getD, List.getElem?_eq_none (by omega)]
          simp
    have hpl : posts.length ≤ 24 := by
      have := nodup_len hnd hin
      rw [rng_len] at this
      omega
    refine walk_W (walk_tup (xs := posts.map V.int)) _ (PvFl rRow (fun i => (posts[i]?.map fun q => (S.rules.getD q.toNat []).map fun r => cutL (r.1 ++ [r.2]) (ordU wd kept)).getD []) D7 H6) (fl_start hD7) (fun i H' _ h => .of (h.1.keep.tup (t6 _ _ htp))) ?_ ?_
    · rintro i x H8 H9 hi pv ⟨rfl, hx⟩
      obtain ⟨y, hy, rfl⟩ := at_int hx
      rw [List.length_map] at hi
      obtain ⟨y0, y1⟩ := rng_mem.mp (hin y (List.mem_of_getElem? hy))
      obtain ⟨m, rfl⟩ : ∃ m : Nat, y = (m : Int) := ⟨y.toNat, by omega⟩
      have hm : S.rules[m]? = some (S.rules[m]'(by omega)) := List.getElem?_eq_getElem (by omega)
      have hok := ok.ok m _ hm
      have h8 := ok.l8 _ (List.mem_of_getElem? hm)
      have t9 := t6.trans pv.1
      obtain ⟨x0, hx0, to, xo, rfl, hto, hpo⟩ := paired_get2 (paired_mono mono_own t9.keep hwp) hm
      have hlo := paired_len hpo
      refine ⟨rfl, ?_⟩
      refine ⟨_, rfl, a, cR mg, dx, _, _, rfl, t9.keep.ins hI, clR, n4, rfs_rules, _, rfl, tl, _, _, _, rfl, rfl, .of (t9 _ _ hw), atI_nat hx0, to, rfl, ⟨_, .of hto⟩, ?_⟩
      have hF : (posts[i]?.map fun q => (S.rules.getD q.toNat []).map fun r => cutL (r.1 ++ [r.2]) (ordU wd kept)).getD [] = (S.rules[m]'(by omega)).map fun r => cutL (r.1 ++ [r.2]) (ordU wd kept) := by
        rw [hy]
        show (S.rules.getD ((m : Nat) : Int).toNat []).map _ = _
        rw [Int.toNat_natCast, getD_at hm]
      generalize (S.rules[m]'(by omega)) = own at *
      have hpre := flat_lenR (i := i) (b := 8) fun j _ => hb j
      have hbi := hb i
      rw [hF, List.length_map] at hbi
      refine walk_W (walk_tup (xs := xo)) _ (PvIn rRow _ ((posts[i]?.map fun q => (S.rules.getD q.toNat []).map fun r => cutL (r.1 ++ [r.2]) (ordU wd kept)).getD []) D7 H6 H9) (fl_in mono_row pv (.refl _)) (fun j H' _ h => .of (h.2.1.tup hto)) ?_ ?_
      · rintro j y H10 H11 hj pv6 ⟨rfl, hy2⟩
        obtain ⟨r, hr, t2, x2, rfl, ht2, hx2⟩ := paired_get (paired_mono mono_rule pv6.2.1 hpo) hy2
        have hrr := (hok r (List.mem_of_getElem? hr)).row.1
        obtain ⟨tx, rfl, htx⟩ := id hx2
        refine ⟨t2, _, rfl, .of ht2, rfl, _, _, rfl, _, _, rfl, rfl, rfl, ?_⟩
        refine ⟨_, rfl, _, rfl, by show 1 ≤ sizeLine; decide, fun p12 np12 => ?_⟩
        have s12 := same_new (o := .tup [V.int r.2]) np12
        refine cat_of (s12 _ _ htx) upd_same (by rw [List.length_map]; show _ + 1 ≤ 10000; omega) fun H13 p13 s13 h13 => ?_
        have s1213 := s12.trans s13
        have ho13 : H13 l6 = some (.lst ((ordU wd kept).map V.int)) := s1213 _ _ (pv6.1 _ _ ho6)
        refine ⟨_, rfl, .ref p13, l6, r.1 ++ [r.2], ordU wd kept, rfl, ⟨p13, rfl, by rw [h13, List.map_append]; rfl⟩, ho13, by omega, fun x hx => ?_, fun H14 v14 s14 hv14 => ?_⟩
        · have := lin x hx
          rw [List.length_append]
          show 0 ≤ x ∧ x < ((r.1.length + 1 : Nat) : Int)
          omega
        · exact in_keep mono_row pv6 hD7 (by omega) (s1213.trans s14) (by rw [hF, List.getElem?_map, hr]; rfl) hv14
      · intro H10 pv6
        exact in_fl (by rw [hF, List.length_map, hlo]) pv6
    · intro H8 pv
      obtain ⟨s8, ys8, hD8, hp8⟩ := pv
      rw [List.length_map, fl_list] at hp8
      have hpre := flat_lenR (i := posts.length) (b := 8) fun j _ => hb j
      rw [fl_list] at hpre
      have erw : (posts.flatMap fun q => (S.rules.getD q.toNat []).map fun r => cutL (r.1 ++ [r.2]) (ordU wd kept)) = rowsU S posts (ordU wd kept) := rfl
      rw [erw] at hp8 hpre
      have hrows : ∀ r ∈ rowsU S posts (ordU wd kept), isRow r S.p ((wd + 1 : Nat) : Int) := fun r hr => by
        obtain ⟨q, hq, hr⟩ := List.mem_flatMap.mp hr
        obtain ⟨y, hy, rfl⟩ := List.mem_map.mp hr
        obtain ⟨q0, q1⟩ := rng_mem.mp (hin q hq)
        have hm : S.rules[q.toNat]? = some (S.rules[q.toNat]'(by omega)) := List.getElem?_eq_getElem (by omega)
        rw [getD_at hm] at hy
        have hk := ok.ok _ _ hm y hy
        refine ⟨by unfold cutL; rw [List.length_map, ll], fun v hv => ?_⟩
        obtain ⟨i, _, rfl⟩ := List.mem_map.mp hv
        refine getD_in (by have := ok.clock.1; omega) (fun v hv => ?_) _
        rcases List.mem_append.mp hv with hv | hv
        · exact hk.row.2 v hv
        · rw [List.mem_singleton.mp hv]; exact ⟨hk.b0, hk.b1⟩
      have t8 := t6.trans s8
      dsimp only [gName, tSeq]
      refine ⟨_, rfl, a, cR mg, dx, _, _, rfl, t8.keep.ins hI, clR, n1, rfs_p, _, rfl, _, _, rfl, rfl, _, rfl, D7, S.p, wd + 1, ys8, rowsU S posts (ordU wd kept), rfl, .inl hD8, hp8, by omega, ok.clock.prm, ok.clock.2.1, by omega, .inl (by omega), hrows, fun H9 v9 lad s9 hv9 hL hll => ?_⟩
      have hD9 := s9 _ _ (s8 _ _ hD6)
      have q9 := fun H' v => q H' v lad
      clear q hrows hpre erw hp8 lin el hb
      obtain ⟨tv, xv, rfl, htv, hpv⟩ := id hv9
      have hlv := paired_len hpv
      have lrow := hL.rows
      dsimp only [gName]
      generalize hL0 : (leftU wd kept).length = L at *
      refine ⟨_, rfl, tv, rfl, ⟨_, .of htv⟩, fun D10 hD10 => ?_⟩
      refine lc_fm (walk_tup (xs := xv)) rRow (fun i => lad[i]?.bind fun row => if (!((row.take L).any fun n => n != 0)) = true then some (row.drop L) else none) hD10 (fun H' s' => .of (s' _ _ htv)) ?_ ?_
      · rintro i x H11 H12 hi pv ⟨rfl, hx⟩
        obtain ⟨row, hrow, t, rfl, ht⟩ := paired_get (paired_mono mono_row pv.1.keep hpv) hx
        refine ⟨rfl, _, rfl, _, rfl, D, _, rfl, .inl (.of (pv.1 _ _ hD9)), _, rfl, ?_⟩
        rw [List.length_map, hL0]
        refine slice_upto ht fun H13 p13 s13 h13 => ⟨p13, row.take L, rfl, .of (by rw [List.map_take]; exact h13), _, rfl, ?_⟩
        cases hany : (row.take L).any fun n => n != 0 with
        | true => exact iteF (fm_skip mono_row pv s13 (by rw [hrow]; show (if (!((row.take L).any fun n => n != 0)) = true then _ else _) = _; rw [hany]; rfl))
        | false =>
          refine iteT ⟨_, rfl, _, rfl, D, _, rfl, .inl (.of (s13 _ _ (pv.1 _ _ hD9))), _, rfl, ?_⟩
          dsimp only [tNoPart]
          rw [List.length_map, hL0]
          refine slice_from (s13 _ _ ht) fun H14 p14 s14 h14 => ?_
          exact fm_keep mono_row pv hD10 (by omega) (s13.trans s14) (by rw [hrow]; show (if (!((row.take L).any fun n => n != 0)) = true then _ else _) = _; rw [hany]; rfl) ⟨p14, rfl, by rw [h14, List.map_drop]⟩
      · intro H11 ys11 s11 hD11 hp11
        rw [hlv, fm_list] at hp11
        have e : (lad.filterMap fun row => if (!((row.take L).any fun n => n != 0)) = true then some (row.drop L) else none) = pureU L lad := by
          unfold pureU
          clear hp11 hL hll hpv hlv lrow q9 hv9
          induction lad with
          | nil => rfl
          | cons a l ih =>
            rw [List.filterMap_cons, List.filter_cons]
            cases h : (!((a.take L).any fun n => n != 0)) with
            | true => rw [if_pos rfl, if_pos rfl, List.map_cons, ← ih]
            | false => rw [if_neg (by simp), if_neg (by simp), ← ih]
        rw [e] at hp11
        refine ⟨D10, _, rfl, .inl ⟨.of hD11, fun t12 nt12 => ?_⟩⟩
        have s12 := same_new (o := .tup ys11) nt12
        exact q9 _ (.ref t12) ((((t6.trans s8).trans s9).trans s11).trans s12) hL ⟨t12, ys11, rfl, upd_same, paired_mono mono_row s12.keep hp11⟩
end
end S4

namespace S4
open PySem L2 TT MM
/-! ### tidings, as data -/
open Classical in
noncomputable def sideOf (ties : List (Int × Int)) (n : Nat) (z : Int × Int) : List Int := (rng n).filter fun x => decide (Rch ties (some z.2) z.1 x)
theorem rng_up (n : Nat) : (rng n).Pairwise (· < ·) := by
  unfold rng
  rw [List.pairwise_map]
  exact List.pairwise_lt_range.imp fun h => by omega
theorem side_mem {ties : List (Int × Int)} {n : Nat} {z : Int × Int} {x : Int} : x ∈ sideOf ties n z ↔ x ∈ rng n ∧ Rch ties (some z.2) z.1 x := by
  classical
  unfold sideOf
  rw [List.mem_filter]
  exact ⟨fun h => ⟨h.1, of_decide_eq_true h.2⟩, fun h => ⟨h.1, decide_eq_true h.2⟩⟩
theorem up_same {l m : List Int} (h1 : l.Pairwise (· < ·)) (h2 : m.Pairwise (· < ·)) (h : ∀ x, x ∈ l ↔ x ∈ m) : l = m := by
  induction l generalizing m with
  | nil =>
    cases m with
    | nil => rfl
    | cons b m => exact absurd ((h b).mpr (by simp)) (by simp)
  | cons a l ih =>
    cases m with
    | nil => exact absurd ((h a).mp (by simp)) (by simp)
    | cons b m =>
      obtain ⟨a1, a2⟩ := List.pairwise_cons.mp h1
      obtain ⟨b1, b2⟩ := List.pairwise_cons.mp h2
      have e : a = b := by
        rcases List.mem_cons.mp ((h a).mp (by simp)) with e | e
        · exact e
        · rcases List.mem_cons.mp ((h b).mpr (by simp)) with f | f
          · exact f.symm
          · have := a1 b f
            have := b1 a e
            omega
      subst e
      rw [ih a2 b2 fun x => ?_]
      constructor
      · intro hx
        rcases List.mem_cons.mp ((h x).mp (by simp [hx])) with e | e
        · subst e
          exact absurd (a1 _ hx) (Int.lt_irrefl _)
        · exact e
      · intro hx
        rcases List.mem_cons.mp ((h x).mpr (by simp [hx])) with e | e
        · subst e
          exact absurd (b1 _ hx) (Int.lt_irrefl _)
        · exact e
theorem up_lt {l : List Int} (h : Up l) (nd : l.Nodup) : l.Pairwise (· < ·) := (List.Pairwise.and h nd).imp fun ⟨a, b⟩ => by omega
open Classical in
noncomputable def ladL (p : Int) (wd : Nat) (rows : List (List Int)) : List (List Int) := if h : ∃ lad, IsLad p wd rows lad then h.choose else []
theorem ladL_eq {p : Int} {wd : Nat} {rows lad : List (List Int)} (p2 : 2 ≤ p) (h : IsLad p wd rows lad) : lad = ladL p wd rows := by
  classical
  have hx : ∃ lad, IsLad p wd rows lad := ⟨lad, h⟩
  unfold ladL
  rw [dif_pos hx]
  exact IsLad.only h hx.choose_spec p2 fun v => Iff.rfl
def keptU (unk : List Int) (z : Int × Int) : List Int := heldL unk z.1 ++ heldL unk z.2
/-- what comes of the rules this side alone -/
noncomputable def tidU (S : RD) (n : Nat) (z : Int × Int) : List (List Int) := pureU (leftU S.unk.sum.toNat (keptU S.unk z)).length (ladL S.p (S.unk.sum.toNat + 1) (rowsU S (sideOf S.ties n z) (ordU S.unk.sum.toNat (keptU S.unk z))))
structure WayR (S : RD) (n : Nat) (z : Int × Int) : Prop where
  a0 : 0 ≤ z.1
  b0 : 0 ≤ z.2
  a1 : z.1 < (n : Int)
  b1 : z.2 < (n : Int)
  m : z ∈ S.ties ∨ z.swap ∈ S.ties
theorem held_in {unk : List Int} {n : Nat} (ok : CountsOk unk n) {post i : Int} (h : i ∈ heldL unk post) : (unk.take post.toNat).sum ≤ i ∧ i < (unk.take post.toNat).sum + unk.getD post.toNat 0 := by
  unfold heldL at h
  obtain ⟨j, hj, rfl⟩ := List.mem_map.mp h
  have hj' := List.mem_range.mp hj
  have := take_sum_le ok post.toNat
  omega
theorem sum_nn {l : List Int} (h : ∀ x ∈ l, 0 ≤ x) : 0 ≤ l.sum := by
  induction l with
  | nil => simp
  | cons a l ih => rw [List.sum_cons]; have := ih fun x hx => h x (by simp [hx]); have := h a (by simp); omega
theorem take_sum_step : ∀ {holds : List Int}, (∀ x ∈ holds, 0 ≤ x) → ∀ {a b : Nat}, a < b → (holds.take a).sum + holds.getD a 0 ≤ (holds.take b).sum
  | [], _, a, b, _ => by simp
  | x :: l, h, 0, b + 1, _ => by
    have := sum_nn (l := l.take b) fun y hy => h y (by simp [List.mem_of_mem_take hy])
    rw [List.take_zero, List.take_succ_cons, List.sum_cons]
    show 0 + x ≤ _
    omega
  | x :: l, h, a + 1, b + 1, hab => by
    have := take_sum_step (holds := l) (fun y hy => h y (by simp [hy])) (a := a) (b := b) (by omega)
    rw [List.take_succ_cons, List.take_succ_cons, List.sum_cons, List.sum_cons]
    show x + (l.take a).sum + l.getD a 0 ≤ _
    omega
theorem held_lt {unk : List Int} {n : Nat} (ok : CountsOk unk n) {post i : Int} (h : i ∈ heldL unk post) : 0 ≤ i ∧ i < unk.sum := by
  have hi := held_in ok h
  have h1 := take_sum_le ok post.toNat
  have nn : ∀ x ∈ unk, 0 ≤ x := fun x hx => (ok.b x hx).1
  by_cases hp : post.toNat < unk.length
  · have := take_sum_step nn (a := post.toNat) (b := unk.length) hp
    rw [List.take_length] at this
    omega
  · rw [List.getD_eq_getElem?_getD, List.getElem?_eq_none (by omega)] at hi
    have hi := hi
    simp at hi
    omega
theorem held_nodup (unk : List Int) (post : Int) : (heldL unk post).Nodup := by
  unfold heldL
  refine List.Pairwise.map _ (fun a b h e => h ?_) List.nodup_range
  omega
theorem kept_nodup {unk : List Int} {n : Nat} (ok : CountsOk unk n) {z : Int × Int} (a0 : 0 ≤ z.1) (b0 : 0 ≤ z.2) (hne : z.1 ≠ z.2) : (keptU unk z).Nodup := by
  have nn : ∀ x ∈ unk, 0 ≤ x := fun x hx => (ok.b x hx).1
  refine List.nodup_append.mpr ⟨held_nodup _ _, held_nodup _ _, fun a ha b hb e => ?_⟩
  subst e
  have h1 := held_in ok ha
  have h2 := held_in ok hb
  rcases Int.lt_or_gt_of_ne hne with h | h
  · have := take_sum_step nn (a := z.1.toNat) (b := z.2.toNat) (by omega)
    omega
  · have := take_sum_step nn (a := z.2.toNat) (b := z.1.toNat) (by omega)
    omega
section
variable {P : Program} {w : World} {K : PySem.W.Frag} {mg : Str → Option Value} {base : Heap} {cT cS : Addr}
def spTid (cT : Addr) (mg : Str → Option Value) : Sp := fun vs H Q _ => ∃ (u v : V) (S : RD) (n : Nat) (z : Int × Int), vs = [u, v] ∧ rRO cT mg H u S ∧ RulesOk S n ∧ rPI H v z ∧ WayR S n z ∧ ∀ H' v', Same H H' → rTup rRow H' v' (tidU S n z) → Q v' H'
theorem ok_tidings (T : Tx K mg cT cS) {f : Addr} {fd : FuncData} (d : D K mg "tidings" s_tidings ["rules", "way"] f fd) : FnOk P w K mg base CX0 5 f fd ["rules", "way"] (spTid cT mg) := by
  obtain ⟨f1, fd1, d1⟩ := T.d_is_way
  have G1 := ok_is_way (P := P) (w := w) (base := base) T d1
  obtain ⟨f2, fd2, d2⟩ := T.d_own_places
  have G2 := ok_own (P := P) (w := w) (base := base) T d2
  obtain ⟨f3, fd3, d3⟩ := T.d_this_side
  have G3 := ok_this_side (P := P) (w := w) (base := base) T d3
  obtain ⟨f4, fd4, d4⟩ := T.d_told_of
  have G4 := ok_told_of (P := P) (w := w) (base := base) T d4
  refine d.F.ok sc_tidings (fun vs H Q E h => ?_) (fun cdv A outer s H vs Q E hr h => ?_)
  · obtain ⟨u, v, S, n, z, rfl, _⟩ := h
    rfl
  · obtain ⟨u, v, S, n, z, rfl, hR, ok, hz, W, q⟩ := h
    refine ⟨_, pss_cons (ps_if (pt_not (pt_val (pe_call G1 (hr.mono (by decide)) rfl d1.m d1.F.kp d1.b .nil pass0 (pa_cons (pe_fld (pv 0) rfl) (pa_cons (pv 1) pa_nil))))) pss_never pss_nil)
      (pss_cons (ps_asg (pv 1) (pg_tup rfl (pgs_cons (pg_name (i := 2) sc_tidings.nd rfl (.inl rfl)) (pgs_cons (pg_name (i := 3) sc_tidings.nd rfl (.inl rfl)) pgs_nil))))
      (pss_cons (ps_set (i := 4) sc_tidings.nd rfl (.inl rfl) (pe_op op_catA (pe_call G2 (hr.mono (by decide)) rfl d2.m d2.F.kp d2.b .nil pass0 (pa_cons (pe_fld (pv 0) rfl) (pa_cons (pv 2) pa_nil))) (pe_call G2 (hr.mono (by decide)) rfl d2.m d2.F.kp d2.b .nil pass0 (pa_cons (pe_fld (pv 0) rfl) (pa_cons (pv 3) pa_nil)))))
      (pss_one (ps_ret (pe_call G4 (hr.mono (by decide)) rfl d4.m d4.F.kp d4.b .nil pass0 (pa_cons (pv 0) (pa_cons (pe_call G3 (hr.mono (by decide)) rfl d3.m d3.F.kp d3.b .nil pass0 (pa_cons (pe_fld (pv 0) rfl) (pa_cons (pv 1) pa_nil))) (pa_cons (pv 4) pa_nil)))))))), ?_⟩
    obtain ⟨a, dx, tr, tu, tl, rfl, hI, hT, hU, hL⟩ := id hR
    obtain ⟨tz, rfl, htz⟩ := id hz
    have nR : ∀ y ∈ (["p", "tree", "unknowns", "rules"] : List Str), NoAttr K (cR mg) y := (let ⟨_, _, kR⟩ := T.k_Rules; kR.na)
    have clR : Cls K (cR mg) := (let ⟨_, _, kR⟩ := T.k_Rules; kR.cl)
    have n2 := nR "tree" (by simp)
    have n3 := nR "unknowns" (by simp)
    have hn := ok.tree.ok.len
    have n24 := ok.tree.ok.n24
    have hne : z.1 ≠ z.2 := fun e => by
      rcases W.m with h | h
      · have := ok.tree.ok.b0 _ h; omega
      · have := ok.tree.ok.b0 _ h; simp only [Prod.fst_swap, Prod.snd_swap] at this; omega
    have hnn := sum_nn fun x hx => (ok.unk.b x hx).1
    obtain ⟨wd, hwd⟩ : ∃ wd : Nat, S.unk.sum = (wd : Int) := ⟨S.unk.sum.toNat, by omega⟩
    refine ⟨_, rfl, a, cR mg, dx, _, _, rfl, hI, clR, n2, rfs_tree, _, rfl, .ref tr, .ref tz, S.ties, z, rfl, hT, hz, W.a0, W.b0, by have := W.a1; omega, by have := W.b1; omega, W.m, fun H2 s2 => ⟨_, rfl, iteF ?_⟩⟩
    dsimp only [tNext, tSeq]
    refine ⟨_, rfl, tz, _, rfl, .of (s2 _ _ htz), rfl, _, _, rfl, _, _, rfl, rfl, ?_⟩
    dsimp only [gName, tSeq]
    refine ⟨_, rfl, a, cR mg, dx, _, _, rfl, s2.keep.ins hI, clR, n3, rfs_unk, _, rfl, .ref tu, S.unk, z.1, n, rfl, mono_row _ _ _ _ s2.keep hU, n24, ok.unk, W.a0, W.a1, fun H3 v3 s3 h3 => ?_⟩
    have s23 := s2.trans s3
    refine ⟨_, rfl, a, cR mg, dx, _, _, rfl, s23.keep.ins hI, clR, n3, rfs_unk, _, rfl, .ref tu, S.unk, z.2, n, rfl, mono_row _ _ _ _ s23.keep hU, n24, ok.unk, W.b0, W.b1, fun H4 v4 s4 h4 => ?_⟩
    obtain ⟨t3, rfl, ht3⟩ := h3
    obtain ⟨t4, rfl, ht4⟩ := h4
    have l1 := heldL_len ok.unk z.1
    have l2 := heldL_len ok.unk z.2
    refine cat_of (s4 _ _ ht3) ht4 (by rw [List.length_map, List.length_map]; omega) fun H5 t5 s5 ht5 => ?_
    have s25 := s23.trans (s4.trans s5)
    have ht5' : H5 t5 = some (.tup ((keptU S.unk z).map V.int)) := by rw [ht5]; unfold keptU; rw [List.map_append]
    dsimp only [gName, tSeq]
    refine ⟨_, rfl, _, rfl, a, cR mg, dx, _, _, rfl, s25.keep.ins hI, clR, n2, rfs_tree, _, rfl, .ref tr, .ref tz, S.ties, z, rng n, rfl, mono_tree cT _ _ _ _ s25.keep hT, mono_pi _ _ _ _ s25.keep hz, by omega, ok.tree.ok.shut, rng_mem.mpr ⟨W.a0, W.a1⟩, by rw [rng_len]; omega, fun H6 v6 ns s6 h6 hup hnd hmem => ?_⟩
    have hin : ∀ x ∈ ns, x ∈ rng n := fun x hx => ((hmem x).mp hx).inV ok.tree.ok.shut (rng_mem.mpr ⟨W.a0, W.a1⟩)
    have ens : ns = sideOf S.ties n z := up_same (up_lt hup hnd) (List.Pairwise.filter _ (rng_up n)) fun x => by
      rw [side_mem]
      exact ⟨fun h => ⟨hin x h, (hmem x).mp h⟩, fun h => (hmem x).mpr h.2⟩
    have hkn := kept_nodup ok.unk W.a0 W.b0 hne
    have hkin : ∀ x ∈ keptU S.unk z, 0 ≤ x ∧ x < (wd : Int) := fun x hx => by
      rw [← hwd]
      rcases List.mem_append.mp hx with h | h <;> exact held_lt ok.unk h
    have hkl : (keptU S.unk z).length ≤ 60 := by
      have h1 := (left_perm hkn hkin).length_eq
      rw [List.length_append, rng_len] at h1
      have := ok.unk.s
      omega
    have s26 := s25.trans s6
    refine ⟨_, rfl, .ref a, v6, .ref t5, S, n, wd, ns, keptU S.unk z, rfl, mono_ro cT mg _ _ _ _ s26.keep hR, ok, hwd, h6, ⟨t5, rfl, s6 _ _ ht5'⟩, hnd, hkn, hin, hkl, hkin, fun H7 v7 lad s7 hL7 h7 => ?_⟩
    refine q H7 v7 (s26.trans s7) ?_
    unfold tidU
    rw [hwd, Int.toNat_natCast, ← ens, ← ladL_eq ok.clock.1 hL7]
    exact h7
end
end S4

namespace S4
open PySem L2 TT MM
theorem pow_even (m : Int) (q : Nat) : m ^ (2 * q) = (m * m) ^ q := by
  induction q with
  | zero => rw [Nat.mul_zero, Int.pow_zero, Int.pow_zero]
  | succ q ih =>
    have e : 2 * (q + 1) = 2 * q + 1 + 1 := by omega
    rw [e, Int.pow_succ, Int.pow_succ, Int.pow_succ, ih, Int.mul_assoc]
theorem cgPow {p a b : Int} (h : Cg p a b) : ∀ n : Nat, Cg p (a ^ n) (b ^ n)
  | 0 => by rw [Int.pow_zero, Int.pow_zero]; exact .refl 1
  | n + 1 => by rw [Int.pow_succ, Int.pow_succ]; exact (cgPow h n).mul h
section
variable {P : Program} {w : World} {K : PySem.W.Frag} {mg : Str → Option Value} {base : Heap} {cT cS : Addr}
def spLPl : Sp := fun vs H Q _ => ∃ (v : V) (unk : List Int) (post : Int) (n : Nat), vs = [v, .int post] ∧ rRow H v unk ∧ CountsOk unk n ∧ n ≤ 24 ∧ 0 ≤ post ∧ post < (n : Int) ∧ ∀ H' r, Same H H' → H r = none → H' r = some (.lst ((heldL unk post).map V.int)) → Q (.ref r) H'
theorem ok_lpl (T : Tx K mg cT cS) {f : Addr} {fd : FuncData} (d : D K mg "_law_places" s_law_places ["unknowns", "post"] f fd) : FnOk P w K mg base CX0 1 f fd ["unknowns", "post"] spLPl := by
  refine d.F.ok sc_law_places (fun vs H Q E h => ?_) (fun cdv A outer s H vs Q E hr h => ?_)
  · obtain ⟨v, unk, post, n, rfl, _⟩ := h
    rfl
  · obtain ⟨v, unk, post, n, rfl, ⟨tu, rfl, hu⟩, ok, n24, h0, h1, q⟩ := h
    refine ⟨_, pss_cons (ps_set (i := 2) sc_law_places.nd rfl (.inl rfl) (pe_callB (cr_sumT rfl) (by rfl) T.b_sum (by decide +kernel) (pa_cons (pe_slice sl_tupA (pv 0) po_none (po_some (pv 1))) pa_nil)))
      (pss_one (ps_ret (pe_listRg rfl (by rfl) T.b_list (prg_2 (by rfl) T.b_range (pv 2) (pe_op op_add (pv 2) (pe_ix ix_tup (pv 0) (pv 1) (fun _ _ => rfl))))))), ?_⟩
    obtain ⟨k, rfl⟩ : ∃ k : Nat, post = (k : Int) := ⟨post.toNat, by omega⟩
    have hk : k < unk.length := by have := ok.len; omega
    have hx : unk[k]? = some unk[k] := List.getElem?_eq_getElem hk
    have e3 : unk.getD k 0 = unk[k] := getD_at hx
    obtain ⟨b1, b2, b3⟩ := take_sum_le ok k
    rw [e3] at b2 b3
    refine ⟨_, rfl, _, rfl, (k : Int), rfl, slice_upto hu fun H2 p2 s2 h2 => ⟨p2, unk.take k, rfl, .of (by rw [List.map_take]; exact h2), ?_⟩⟩
    dsimp only [gName, tSeq]
    refine ⟨_, rfl, _, rfl, _, rfl, _, rfl, tu, _, _, _, rfl, rfl, .of (s2 _ _ hu), atI_nat (int_at hx), _, _, rfl, rfl, _, _, rfl, rfl, ⟨by omega, by omega, by omega, by omega, by omega⟩, fun r nr => ?_⟩
    refine q _ r (s2.trans (same_new nr)) (s2.free nr) ?_
    rw [upd_same, rgV_int]
    unfold heldL
    rw [Int.toNat_natCast, e3]
    have e : ((unk.take k).sum + unk[k] - (unk.take k).sum).toNat = unk[k].toNat := by omega
    rw [e]
def spLNear : Sp := fun vs H Q _ => ∃ (v : V) (ties : List (Int × Int)) (post : Int), vs = [v, .int post] ∧ rTup rPI H v ties ∧ ties.length ≤ 1000 ∧ (∀ z ∈ ties, z.1 ≠ z.2) ∧
  ∀ H' p ns, Same H H' → H p = none → H' p = some (.lst (ns.map V.int)) → ns.Perm (nb ties post) → Up ns → Q (.ref p) H'
theorem ok_lnear (T : Tx K mg cT cS) {f : Addr} {fd : FuncData} (d : D K mg "_law_near" s_law_near ["ties", "post"] f fd) : FnOk P w K mg base CX0 1 f fd ["ties", "post"] spLNear := by
  refine d.F.ok sc_law_near (fun vs H Q E h => ?_) (fun cdv A outer s H vs Q E hr h => ?_)
  · obtain ⟨v, ties, post, rfl, _⟩ := h
    rfl
  · obtain ⟨v, ties, post, rfl, ⟨t, xs, rfl, ht, hp⟩, hl, hd, q⟩ := h
    refine ⟨_, pss_one (ps_ret (pe_callB cr_sortedI (by rfl) T.b_sorted (by decide +kernel) (pa_cons (pe_lc (own := [("one", 2), ("other", 3)]) (g := (gTup K 2 (gCons (gName 2) (gCons (gName 3) gNil)))) (tt := _) rfl sc_law_near.nd (pi_tup (pv 0)) (blkOk_by (N := N_law_near) (sc := defScope s_law_near) (by decide +kernel)) (fun _ _ _ _ _ => (pgT rfl rfl (pgs_cons (pg_name (i := 2) sc_law_near.nd rfl (Or.inl rfl)) (pgs_cons (pg_name (i := 3) sc_law_near.nd rfl (Or.inl rfl)) pgs_nil)))) (fun _ _ _ _ _ => (pts_one (pt_cmpR (inS (K := K) rfl) (pv 1) (pe_tup (pa_cons (pv 2) (pa_cons (pv 3) pa_nil))) (by rfl))))
            (fun _ _ _ _ _ => (pe_op op_sub (pe_op op_add (pv 2) (pv 3)) (pv 1)))) pa_nil))), ?_⟩
    have hlen := paired_len hp
    refine ⟨_, rfl, t, rfl, ⟨_, .of ht⟩, fun D hD => ?_⟩
    refine lc_fm (walk_tup (xs := xs)) rInt (fun i => ties[i]?.bind (nbOf post)) hD (fun H' s' => .of (s'.keep.tup ht)) ?_ ?_
    · rintro i x H2 H3 hi pv ⟨rfl, hx⟩
      obtain ⟨z, hz, t2, rfl, ht2⟩ := paired_get (paired_mono mono_pi pv.1.keep hp) hx
      refine ⟨t2, _, rfl, .of ht2, rfl, _, _, rfl, _, _, rfl, rfl, rfl, _, rfl, _, rfl, _, rfl, by show 2 ≤ sizeLine; decide, fun p np => ?_⟩
      have s4 := same_new (o := .tup [V.int z.1, V.int z.2]) np
      refine ⟨p, _, rfl, .inr (.of upd_same), rfl, rfl, _, rfl, ?_⟩
      rw [show [V.int z.1, V.int z.2] = ([z.1, z.2] : List Int).map V.int from rfl, inV_ints]
      by_cases h2 : post ∈ ([z.1, z.2] : List Int)
      · rw [decide_eq_true h2]
        have h2' : z.1 = post ∨ z.2 = post := by
          simp only [List.mem_cons, List.not_mem_nil, or_false] at h2
          rcases h2 with h | h
          · exact .inl h.symm
          · exact .inr h.symm
        refine iteT ⟨_, rfl, _, rfl, _, _, rfl, rfl, _, rfl, _, _, rfl, rfl, fm_keep mono_int pv hD (by omega) s4 (by rw [hz]; exact if_pos h2') ?_⟩
        show V.int (z.1 + z.2 - post) = V.int (if z.1 = post then z.2 else z.1)
        split <;> (congr 1; omega)
      · rw [decide_eq_false h2]
        have h2' : ¬ (z.1 = post ∨ z.2 = post) := fun h => h2 (by
          simp only [List.mem_cons, List.not_mem_nil, or_false]
          exact h.imp Eq.symm Eq.symm)
        exact iteF (fm_skip mono_int pv s4 (by rw [hz]; exact if_neg h2'))
    · intro H2 ys s2 hD2 hp2
      have e := paired_int hp2
      subst e
      rw [hlen, fm_list] at hD2
      refine ⟨D, nb ties post, rfl, .of hD2, fun ns r hperm hup nr => ?_⟩
      exact q _ r ns (s2.trans (same_new nr)) (s2.free nr) upd_same hperm hup
def dotU (p : Int) (l m : List Int) : Int := ((List.range l.length).map fun i => l.getD i 0 * m.getD i 0).sum % p
def spLDotV : Sp := fun vs H Q _ => ∃ (v : V) (b : Addr) (p : Int) (l m : List Int), vs = [.int p, v, .ref b] ∧ rRow H v l ∧ H b = some (.lst (m.map V.int)) ∧ 2 ≤ p ∧ p ≤ 1000000 ∧ l.length = m.length ∧ l.length ≤ 100 ∧ (∀ x ∈ l, 0 ≤ x ∧ x < p) ∧ (∀ x ∈ m, 0 ≤ x ∧ x < p) ∧ ∀ H', Same H H' → Q (.int (dotU p l m)) H'
theorem ok_ldotV (T : Tx K mg cT cS) {f : Addr} {fd : FuncData} (d : D K mg "_law_dot" s_law_dot ["p", "one", "other"] f fd) : FnOk P w K mg base CX0 1 f fd ["p", "one", "other"] spLDotV := by
  refine d.F.ok sc_law_dot (fun vs H Q E h => ?_) (fun cdv A outer s H vs Q E hr h => ?_)
  · obtain ⟨v, b, p, l, m, rfl, _⟩ := h
    rfl
  · obtain ⟨v, b, p, l, m, rfl, ⟨t, rfl, ht⟩, hb, p2, pm, hlm, hl, hlb, hmb, q⟩ := h
    refine ⟨_, pss_one (ps_ret (pe_op op_mod (pe_callTy call_int1 (by rfl) T.b_int (by decide +kernel) (pa_cons (pe_callB (cr_sum rfl) (by rfl) T.b_sum (by decide +kernel) (pa_cons (pe_lc (own := [("here", 3), ("there", 4)]) (g := (gTup K 2 (gCons (gName 3) (gCons (gName 4) gNil)))) (tt := tYes) rfl sc_law_dot.nd (pi_zipM (by rfl) T.b_zip (pa_cons (pv 1) (pa_cons (pv 2) pa_nil))) (blkOk_by (N := N_law_dot) (sc := defScope s_law_dot) (by decide +kernel)) (fun _ _ _ _ _ => (pgT rfl rfl (pgs_cons (pg_name (i := 3) sc_law_dot.nd rfl (Or.inl rfl)) (pgs_cons (pg_name (i := 4) sc_law_dot.nd rfl (Or.inl rfl)) pgs_nil)))) (fun _ _ _ _ _ => pts_nil)
            (fun _ _ _ _ _ => (pe_op op_mul (pv 3) (pv 4)))) pa_nil)) pa_nil)) (pv 0))), ?_⟩
    refine ⟨_, rfl, _, rfl, t, b, _, _, false, true, rfl, .of ht, .of hb, fun D hD => ?_⟩
    refine lc_fm (walk_zipM (b1 := false) (b2 := true) (n := l.length) (by rw [List.length_map, List.length_map]; omega)) rInt (fun i => some (l.getD i 0 * m.getD i 0)) hD (fun H' s' => ⟨.of (s' _ _ ht), .of (s' _ _ hb)⟩) ?_ ?_
    · rintro i x H2 H3 hi pv ⟨tz, u1, u2, rfl, nz, rfl, e1, e2⟩
      obtain ⟨a, ha, rfl⟩ := at_int e1
      obtain ⟨b, hb2, rfl⟩ := at_int e2
      have h1 := hlb a (List.mem_of_getElem? ha)
      have h2 := hmb b (List.mem_of_getElem? hb2)
      refine ⟨tz, _, rfl, .of upd_same, rfl, _, _, rfl, _, _, rfl, rfl, rfl, ?_⟩
      refine ⟨_, rfl, _, rfl, _, _, rfl, rfl, .inl ⟨by omega, by omega⟩, ?_⟩
      refine fm_keep mono_int pv hD (by omega) (same_new nz) rfl ?_
      show V.int (a * b) = V.int (l.getD i 0 * m.getD i 0)
      rw [getD_at ha, getD_at hb2]
    · intro H2 ys s2 hD2 hp2
      rw [fm_all] at hp2
      have := paired_int hp2
      subst this
      exact ⟨D, _, rfl, .of hD2, .inl ⟨_, rfl, _, rfl, _, _, rfl, rfl, by show 0 < p; omega, q _ s2⟩⟩
def spLDot : Sp := fun vs H Q _ => ∃ (v : V) (b : Addr) (p : Int) (l m : List Int), vs = [.int p, v, .ref b] ∧ rRow H v l ∧ H b = some (.lst (m.map V.int)) ∧ 2 ≤ p ∧ p ≤ 1000000 ∧ l.length = m.length ∧ l.length ≤ 100 ∧ (∀ x ∈ l, 0 ≤ x ∧ x < p) ∧ (∀ x ∈ m, 0 ≤ x ∧ x < p) ∧ ∀ H' k, Same H H' → 0 ≤ k → k < p → Q (.int k) H'
theorem ok_ldot (T : Tx K mg cT cS) {f : Addr} {fd : FuncData} (d : D K mg "_law_dot" s_law_dot ["p", "one", "other"] f fd) : FnOk P w K mg base CX0 1 f fd ["p", "one", "other"] spLDot :=
  (ok_ldotV T d).imp fun vs H Q E ⟨v, b, p, l, m, e, h1, h2, h3, h4, h5, h6, h7, h8, q⟩ => ⟨v, b, p, l, m, e, h1, h2, h3, h4, h5, h6, h7, h8, fun H' s => q H' _ s (mod_b (by omega)).1 (mod_b (by omega)).2⟩
def spLInv : Sp := fun vs H Q _ => ∃ (p v : Int), vs = [.int p, .int v] ∧ Prm p ∧ p ≤ 1000000 ∧ 0 < v ∧ v < p ∧ ∀ H' u, Same H H' → 0 ≤ u → u < p → Cg p (u * v) 1 → Q (.int u) H'
theorem ok_linv (T : Tx K mg cT cS) {f : Addr} {fd : FuncData} (d : D K mg "_law_inverse" s_law_inverse ["p", "value"] f fd) : FnOk P w K mg base CX0 1 f fd ["p", "value"] spLInv := by
  refine d.F.ok sc_law_inverse (fun vs H Q E h => ?_) (fun cdv A outer s H vs Q E hr h => ?_)
  · obtain ⟨p, v, rfl, _⟩ := h
    rfl
  · obtain ⟨p, v, rfl, prm, pm, v0, v1, q⟩ := h
    refine ⟨_, pss_cons (ps_par3 (i := 2) (j := 3) (l := 4) (by rfl) sc_law_inverse.nd rfl rfl rfl (by decide) (by decide) (by decide) rfl rfl rfl (pa_cons pe_int (pa_cons (pv 1) (pa_cons (pe_op op_sub (pv 0) pe_int) pa_nil))) (by rfl))
      (pss_cons (ps_for PassesOwn.never rfl (pi_range1 rfl T.b_range (pa_cons pe_int pa_nil)) (pg_name (i := 5) sc_law_inverse.nd rfl (.inl rfl))
        (pss_cons (ps_if (pt_cmpR op_eq (pe_op op_mod (pe_callTy call_int1 (by rfl) T.b_int (by decide +kernel) (pa_cons (pv 4) pa_nil)) pe_int) pe_int (nomark _)) (pss_one (ps_set (i := 2) sc_law_inverse.nd rfl (.inl rfl) (pe_op op_mod (pe_callTy call_int1 (by rfl) T.b_int (by decide +kernel) (pa_cons (pe_op op_mul (pv 2) (pv 3)) pa_nil)) (pv 0)))) pss_nil)
      (pss_one (ps_par (i := 3) (j := 4) (by rfl) sc_law_inverse.nd rfl rfl (by decide) rfl rfl (pa_cons (pe_op op_mod (pe_callTy call_int1 (by rfl) T.b_int (by decide +kernel) (pa_cons (pe_op op_mul (pv 3) (pv 3)) pa_nil)) (pv 0)) (pa_cons (pe_op op_fdiv (pv 4) pe_int) pa_nil)) (by rfl)))))
      (pss_one (ps_ret (pv 2)))), ?_⟩
    have p2 := prm.1
    refine ⟨_, rfl, _, rfl, _, _, rfl, rfl, _, _, _, rfl, ?_⟩
    dsimp only [gName, tSeq]
    refine ⟨_, rfl, by decide, by decide, ?_⟩
    refine for_it (walk_range (lo := 0) (n := ((20 : Int)).toNat)) (fun i σ H' => ∃ a m l x5, σ = [some (.int p), some (.int v), some (.int a), some (.int m), some (.int l), x5] ∧ Same H H' ∧ 0 ≤ l ∧ l * 2 ^ i ≤ p ∧ 0 ≤ a ∧ a < p ∧ 0 ≤ m ∧ m < p ∧ Cg p (a * m ^ l.toNat) (v ^ (p - 2).toNat))
      ⟨1, v, p - 2, none, rfl, .refl _, by omega, by omega, by omega, by omega, by omega, by omega, by rw [Int.one_mul]; exact .refl _⟩ (fun _ _ _ _ _ => trivial) ?_ ?_
    · rintro i x σ H1 H2 hi ⟨a, m, l, x5, rfl, s1, l0, l1, a0, a1, m0, m1, hc⟩ ⟨rfl, rfl⟩
      have lp : l ≤ p := by
        have h1 : (1 : Int) ≤ 2 ^ i := by
          have : (0 : Int) < 2 ^ i := Int.pow_pos (by omega)
          omega
        have := Int.mul_le_mul_of_nonneg_left h1 l0
        omega
      have l2 : l / 2 * 2 ^ (i + 1) ≤ p := by
        have h1 : (0 : Int) ≤ 2 ^ i := Int.le_of_lt (Int.pow_pos (by omega))
        have h2 : l / 2 * 2 ≤ l := by omega
        have := Int.mul_le_mul_of_nonneg_right h2 h1
        rw [Int.pow_succ, Int.mul_comm (2 ^ i) 2, ← Int.mul_assoc]
        omega
      have next : ∀ (a' : Int) (_ : Cg p (a' * (m * m) ^ (l / 2).toNat) (v ^ (p - 2).toNat)), Cg p (a' * (m * m % p) ^ (l / 2).toNat) (v ^ (p - 2).toNat) := fun a' h => ((Cg.refl a').mul (cgPow (Cg.mod (m * m)) _)).trans h
      have mm := mod_b (a := m * m) (m := p) (by omega)
      dsimp only [gName, tSeq]
      refine ⟨_, rfl, .inl ⟨_, rfl, _, _, rfl, rfl, (by dsimp only; decide), rfl, _, rfl, ?_⟩⟩
      by_cases ho : l % 2 = 1
      · rw [decide_eq_true (congrArg V.int ho)]
        have am := mod_b (a := a * m) (m := p) (by omega)
        refine iteT ⟨_, rfl, _, rfl, _, _, rfl, rfl, .inl ⟨by omega, by omega⟩, .inl ⟨_, rfl, _, rfl, _, _, rfl, rfl, by show 0 < p; omega, ?_⟩⟩
        dsimp only [gName]
        refine ⟨_, rfl, _, rfl, _, _, rfl, rfl, .inl ⟨by omega, by omega⟩, .inl ⟨_, rfl, _, rfl, _, _, rfl, rfl, by show 0 < p; omega, _, rfl, _, _, rfl, rfl, ⟨by decide, by decide⟩, _, _, rfl, ?_⟩⟩
        refine ⟨_, _, _, _, rfl, s1, by omega, l2, am.1, am.2, mm.1, mm.2, next _ ?_⟩
        refine ((Cg.mod (a * m)).mul (Cg.refl _)).trans ((Cg.of_eq ?_).trans hc)
        have e : l.toNat = 2 * (l / 2).toNat + 1 := by omega
        rw [e, Int.pow_succ, pow_even, Int.mul_assoc, Int.mul_comm m]
      · rw [decide_eq_false (fun e => ho (V.int.inj e))]
        refine iteF ?_
        dsimp only [tNext]
        refine ⟨_, rfl, _, rfl, _, _, rfl, rfl, .inl ⟨by omega, by omega⟩, .inl ⟨_, rfl, _, rfl, _, _, rfl, rfl, by show 0 < p; omega, _, rfl, _, _, rfl, rfl, ⟨by decide, by decide⟩, _, _, rfl, ?_⟩⟩
        refine ⟨_, _, _, _, rfl, s1, by omega, l2, a0, a1, mm.1, mm.2, next _ ?_⟩
        refine (Cg.of_eq ?_).trans hc
        have e : l.toNat = 2 * (l / 2).toNat := by omega
        rw [e, pow_even]
    · rintro σ H1 ⟨a, m, l, x5, rfl, s1, l0, l1, a0, a1, m0, m1, hc⟩
      have e0 : l.toNat = 0 := by
        have : ((20 : Int)).toNat = 20 := rfl
        rw [this] at l1
        have h2 : (2 : Int) ^ 20 = 1048576 := by decide
        rw [h2] at l1
        omega
      rw [e0, Int.pow_zero, Int.mul_one] at hc
      refine ⟨_, rfl, q H1 a s1 a0 a1 ?_⟩
      exact (hc.mul (Cg.refl v)).trans (prm.turn v0 v1)
end
end S4

namespace S4
open PySem L2 TT MM
/-! ### a side, round by round -/
theorem fm_filter {α : Type} (p : α → Bool) : ∀ l : List α, l.filterMap (fun v => if p v = true then some v else none) = l.filter p
  | [] => rfl
  | a :: l => by
    rw [List.filterMap_cons, List.filter_cons, fm_filter p l]
    by_cases h : p a = true
    · rw [if_pos h, if_pos h]
    · rw [if_neg h, if_neg h]
def Clo (ties : List (Int × Int)) (bar : Int) (F : List Int) : Prop := ∀ x ∈ F, ∀ y ∈ nb ties x, y ≠ bar → y ∈ F
structure SB (ties : List (Int × Int)) (z : Int × Int) (F : List Int) : Prop where
  nd : F.Nodup
  st : z.1 ∈ F
  rc : ∀ x ∈ F, Rch ties (some z.2) z.1 x
theorem SB.more {ties : List (Int × Int)} {n : Nat} {z : Int × Int} {F ns : List Int} (S : SB ties z F) (ok : TiesOk ties n) {x : Int} (hx : x ∈ F) (hp : ns.Perm (nb ties x)) : SB ties z (F ++ ns.filter fun v => decide (v ≠ z.2 ∧ v ∉ F)) := by
  have hnn : ns.Nodup := hp.nodup_iff.mpr (nb_nodup ok x)
  refine ⟨List.nodup_append.mpr ⟨S.nd, List.Pairwise.filter _ hnn, fun a ha b hb e => ?_⟩, List.mem_append_left _ S.st, fun y hy => ?_⟩
  · subst e
    exact (of_decide_eq_true (List.mem_filter.mp hb).2).2 ha
  · rcases List.mem_append.mp hy with hy | hy
    · exact S.rc y hy
    · obtain ⟨h1, h2⟩ := List.mem_filter.mp hy
      have h2 := (of_decide_eq_true h2).1
      exact (S.rc x hx).step (hp.mem_iff.mp h1) fun e => h2 (Option.some.inj e).symm
theorem full_of {n : Nat} {F : List Int} (nd : F.Nodup) (hin : ∀ x ∈ F, x ∈ rng n) (hl : n ≤ F.length) : ∀ x ∈ rng n, x ∈ F := fun x hx => by
  by_cases h : x ∈ F
  · exact h
  · have := nodup_len (l := x :: F) (V := rng n) (List.nodup_cons.mpr ⟨h, nd⟩) fun v hv => by
      rcases List.mem_cons.mp hv with rfl | hv
      · exact hx
      · exact hin v hv
    rw [List.length_cons, rng_len] at this
    omega
theorem SB.all {ties : List (Int × Int)} {z : Int × Int} {F : List Int} (S : SB ties z F) (c : Clo ties z.2 F) : ∀ x, x ∈ F ↔ Rch ties (some z.2) z.1 x := fun x => by
  refine ⟨S.rc x, fun h => ?_⟩
  induction h with
  | refl => exact S.st
  | step _ h1 h2 ih => exact c _ ih _ h1 fun e => h2 (by rw [e])
section
variable {P : Program} {w : World} {K : PySem.W.Frag} {mg : Str → Option Value} {base : Heap} {cT cS : Addr}
def spLWays : Sp := fun vs H Q _ => ∃ (v : V) (ties : List (Int × Int)), vs = [v] ∧ rTup rPI H v ties ∧ ties.length ≤ 1000 ∧
  ∀ H' p xs m, Same H H' → H p = none → H' p = some (.lst xs) → Paired (rPI H') xs m → m.Perm (ties ++ flipAll ties) → m.Pairwise lxLe → Q (.ref p) H'
theorem ok_lways (T : Tx K mg cT cS) {f : Addr} {fd : FuncData} (d : D K mg "_law_ways" s_law_ways ["ties"] f fd) : FnOk P w K mg base CX0 1 f fd ["ties"] spLWays := by
  refine d.F.ok sc_law_ways (fun vs H Q E h => ?_) (fun cdv A outer s H vs Q E hr h => ?_)
  · obtain ⟨v, ties, rfl, _⟩ := h
    rfl
  · obtain ⟨v, ties, rfl, ⟨t, xs, rfl, ht, hp⟩, hl, q⟩ := h
    refine ⟨_, pss_one (ps_ret (pe_callB cr_sortedPD (by rfl) T.b_sorted (by decide +kernel) (pa_cons (pe_op op_cat (pe_callTy call_list_of (by rfl) T.b_list (by decide +kernel) (pa_cons (pv 0) pa_nil)) (pe_lc (own := [("one", 1), ("other", 2)]) (g := (gTup K 2 (gCons (gName 1) (gCons (gName 2) gNil)))) (tt := tYes) rfl sc_law_ways.nd (pi_tup (pv 0)) (blkOk_by (N := N_law_ways) (sc := defScope s_law_ways) (by decide +kernel)) (fun _ _ _ _ _ => (pgT rfl rfl (pgs_cons (pg_name (i := 1) sc_law_ways.nd rfl (Or.inl rfl)) (pgs_cons (pg_name (i := 2) sc_law_ways.nd rfl (Or.inl rfl)) pgs_nil)))) (fun _ _ _ _ _ => pts_nil)
            (fun _ _ _ _ _ => (pe_tup (pa_cons (pv 2) (pa_cons (pv 1) pa_nil)))))) pa_nil))), ?_⟩
    have hlen := paired_len hp
    refine ⟨_, rfl, t, _, rfl, .inr (.of ht), fun D hD => ?_⟩
    have s2 := same_new (o := .lst xs) hD
    refine ⟨_, rfl, t, rfl, ⟨_, .of (s2.keep.tup ht)⟩, fun D2 hD' => ?_⟩
    refine lc_fm (walk_tup (xs := xs)) rPI (fun i => ties[i]?.bind fun x => some x.swap) hD' (fun H' s' => .of ((s2.trans s').keep.tup ht)) ?_ ?_
    · rintro i x H3 H4 hi pv ⟨rfl, hx⟩
      obtain ⟨z, hz, t2, rfl, ht2⟩ := paired_get (paired_mono mono_pi (s2.trans pv.1).keep hp) hx
      refine ⟨t2, _, rfl, .of ht2, rfl, _, _, rfl, _, _, rfl, rfl, rfl, _, rfl, _, rfl, by show 2 ≤ sizeLine; decide, fun p np => ?_⟩
      exact fm_keep mono_pi pv hD' (by omega) (same_new np) (by rw [hz]; rfl) ⟨p, rfl, upd_same⟩
    · intro H3 zs s3 hD3 hp3
      rw [hlen, fm_some] at hp3
      have l2 := paired_len hp3
      rw [List.length_map] at l2
      have l3 : xs.length + zs.length ≤ 2000 := by omega
      refine ⟨D, D2, xs, zs, rfl, rfl, s3 _ _ upd_same, hD3, Nat.le_trans l3 (by decide), fun p np => ?_⟩
      have s4 := same_new (o := .lst (xs ++ zs)) np
      have s6 := ((s2.trans s3).trans s4)
      refine ⟨p, _, ties ++ flipAll ties, rfl, .of upd_same, paired_app (paired_mono mono_pi s6.keep hp) (paired_mono mono_pi s4.keep hp3), fun ws m r hw hperm hs nr => ?_⟩
      have s5 := same_new (o := .lst ws) nr
      exact q _ r ws m (s6.trans s5) (s6.free nr) upd_same (paired_mono mono_pi s5.keep hw) hperm hs
def spLThis : Sp := fun vs H Q _ => ∃ (v u : V) (ties : List (Int × Int)) (z : Int × Int) (n : Nat), vs = [v, u] ∧ rTup rPI H v ties ∧ rPI H u z ∧ TiesOk ties n ∧ 0 ≤ z.1 ∧ z.1 < (n : Int) ∧
  ∀ H' p ns, Same H H' → H p = none → H' p = some (.lst (ns.map V.int)) → Up ns → ns.Nodup → (∀ x, x ∈ ns ↔ Rch ties (some z.2) z.1 x) → Q (.ref p) H'
theorem ok_lthis (T : Tx K mg cT cS) {f : Addr} {fd : FuncData} (d : D K mg "_law_this_side" s_law_this_side ["ties", "way"] f fd) : FnOk P w K mg base CX0 2 f fd ["ties", "way"] spLThis := by
  obtain ⟨f1, fd1, d1⟩ := T.d_law_near
  have G1 := ok_lnear (P := P) (w := w) (base := base) T d1
  refine d.F.ok sc_law_this_side (fun vs H Q E h => ?_) (fun cdv A outer s H vs Q E hr h => ?_)
  · obtain ⟨v, u, ties, z, n, rfl, _⟩ := h
    rfl
  · obtain ⟨v, u, ties, z, n, rfl, ⟨t, xs, rfl, ht, hp⟩, ⟨tz, rfl, hz⟩, ok, a0, a1, q⟩ := h
    refine ⟨_, pss_cons (ps_set (i := 2) sc_law_this_side.nd rfl (.inr rfl) (pe_lst (pa_cons (pe_ix ix_tup (pv 1) pe_int (fun _ _ => rfl)) pa_nil)))
      (pss_cons (ps_for PassesOwn.never rfl (pi_range1 rfl T.b_range (pa_cons (pe_callB call_len_seq (by rfl) T.b_len PySem.boot_len (pa_cons (pv 0) pa_nil)) pa_nil)) (pg_name (i := 3) sc_law_this_side.nd rfl (.inl rfl))
        (pss_one (ps_for PassesOwn.never rfl (pi_list (pe_callTy call_list_of (by rfl) T.b_list (by decide +kernel) (pa_cons (pv 2) pa_nil))) (pg_name (i := 4) sc_law_this_side.nd rfl (.inl rfl))
        (pss_one (ps_expr (pe_bm PySem.F.plainAttrs_list PySem.F.slot_list_extend PySem.F.type_list_extend mt_extend (pv 2) (pa_cons (pe_lc (own := [("near", 5)]) (g := (gName 5)) (tt := _) rfl sc_law_this_side.nd (pi_list (pe_call G1 (hr.mono (by decide)) rfl d1.m d1.F.kp d1.b .nil pass0 (pa_cons (pv 0) (pa_cons (pv 4) pa_nil)))) (blkOk_by (N := N_law_this_side) (sc := defScope s_law_this_side) (by decide +kernel)) (fun _ _ _ _ _ => (pg_name (i := 5) sc_law_this_side.nd rfl (Or.inl rfl))) (fun _ _ _ _ _ => (pts_one (PW.pt (pw_and (pt_cmpR op_ne (pv 5) (pe_ix (ixT (K := K) rfl) (pv 1) pe_int (fun _ _ => rfl)) (nomark _)) (pw_and1 (pt_cmpR (ninS (K := K) rfl) (pv 5) (pv 2) (by rfl)))))))
            (fun _ _ _ _ _ => (pv 5))) pa_nil)))))))
      (pss_one (ps_ret (pe_callB cr_sortedI (by rfl) T.b_sorted (by decide +kernel) (pa_cons (pv 2) pa_nil))))), ?_⟩
    have hn := ok.len
    have n24 := ok.n24
    have hlen := paired_len hp
    refine ⟨_, rfl, tz, _, _, _, rfl, rfl, .of hz, at_of (j := 0) rfl rfl, by show 1 ≤ sizeLine; decide, fun fa nfa => ?_⟩
    have s1 := same_new (o := .lst [V.int z.1]) nfa
    dsimp only [gName, tSeq]
    refine ⟨_, rfl, _, _, rfl, .inr (.of (s1 _ _ ht)), _, rfl, by omega, by omega, ?_⟩
    have nfa0 := nfa
    have S0 : SB ties z [z.1] := ⟨by simp, by simp, fun x hx => by rw [List.mem_singleton.mp hx]; exact .refl⟩
    have hin : ∀ F : List Int, SB ties z F → ∀ x ∈ F, x ∈ rng n := fun F S x hx => (S.rc x hx).inV ok.shut (rng_mem.mpr ⟨a0, a1⟩)
    have hdd : ∀ y ∈ ties, y.1 ≠ y.2 := fun y hy => by have := ok.b0 y hy; omega
    refine for_it (walk_range (lo := 0) (n := ((xs.length : Nat) : Int).toNat)) (fun i σ H' => ∃ x3 x4 x5 F, σ = [some (.ref t), some (.ref tz), some (.ref fa), x3, x4, x5] ∧ Same H H' ∧ H' fa = some (.lst ((F : List Int).map V.int)) ∧ SB ties z F ∧ (Clo ties z.2 F ∨ i + 1 ≤ F.length))
      ⟨none, none, none, [z.1], rfl, s1, upd_same, S0, .inr (Nat.le_refl _)⟩ (fun _ _ _ _ _ => trivial) ?_ ?_
    · rintro i x σ H2 H3 hi ⟨x3, x4, x5, F0, rfl, s2, hF, SF, hc⟩ ⟨rfl, rfl⟩
      have lF0 : F0.length ≤ 24 := by
        have := nodup_len SF.nd (hin F0 SF)
        rw [rng_len] at this
        omega
      dsimp only [gName]
      refine ⟨_, rfl, fa, _, rfl, .inl (.of hF), fun lc nlc => ⟨lc, rfl, ⟨_, .of upd_same⟩, ?_⟩⟩
      have s3 := same_new (o := .lst (F0.map V.int)) nlc
      have lcfa : fa ≠ lc := fun e => by rw [← e, hF] at nlc; cases nlc
      have nlc0 : H lc = none := s2.free nlc
      refine for_it (walk_list (xs := F0.map V.int)) (fun j σ H' => ∃ x4 x5 E, σ = [some (.ref t), some (.ref tz), some (.ref fa), some (.int (0 + (i : Int))), x4, x5] ∧ Same H H' ∧ H' lc = some (.lst (F0.map V.int)) ∧ H' fa = some (.lst ((F0 ++ E : List Int).map V.int)) ∧ SB ties z (F0 ++ E) ∧
        (∀ k x, k < j → F0[k]? = some x → ∀ y ∈ nb ties x, y ≠ z.2 → y ∈ F0 ++ E) ∧ (Clo ties z.2 F0 → E = []))
        ⟨x4, x5, [], rfl, s2.trans s3, upd_same, by rw [List.append_nil]; exact s3 _ _ hF, by rw [List.append_nil]; exact SF, fun k x h => absurd h (Nat.not_lt_zero k), fun _ => rfl⟩ (fun i σ H' _ h => .of (let ⟨_, _, _, _, _, h, _⟩ := h; h)) ?_ ?_
      · rintro j x σ H4 H5 hj ⟨x4, x5, E, rfl, s4, hlc, hfa, SE, hk, hcl⟩ ⟨rfl, hx⟩
        obtain ⟨post, hpost, rfl⟩ := at_int hx
        have hpm := List.mem_of_getElem? hpost
        have lFE : (F0 ++ E).length ≤ 24 := by
          have := nodup_len SE.nd (hin _ SE)
          rw [rng_len] at this
          omega
        dsimp only [gName]
        refine ⟨_, rfl, .inl ⟨rfl, _, .of hfa⟩, _, rfl, _, rfl, .ref t, ties, post, rfl, ⟨t, xs, rfl, s4 _ _ ht, paired_mono mono_pi s4.keep hp⟩, by omega, hdd, fun H6 r ns s6 nr hr hperm hup => ⟨r, rfl, ⟨_, .of hr⟩, fun D hD => ?_⟩⟩
        have s46 := s4.trans s6
        have nsl : ns.length ≤ 24 := by
          have := nodup_len (hperm.nodup_iff.mpr (nb_nodup ok post)) (V := rng n) fun v hv => ok.shut.cl post (hin F0 SF post hpm) v (hperm.mem_iff.mp hv)
          rw [rng_len] at this
          omega
        have hfa6 := s6 _ _ hfa
        refine lc_fm (walk_list (xs := ns.map V.int)) rInt (fun i => ns[i]?.bind fun v => if decide (v ≠ z.2 ∧ v ∉ F0 ++ E) = true then some v else none) hD (fun H' s' => .of (s' _ _ hr)) ?_ ?_
        · rintro k x H7 H8 hk2 pv ⟨rfl, hx⟩
          obtain ⟨v, hv, rfl⟩ := at_int hx
          rw [List.length_map] at hk2
          refine ⟨rfl, _, rfl, _, rfl, tz, _, _, _, rfl, rfl, .of (pv.1 _ _ (s46 _ _ hz)), at_of (j := 1) rfl rfl, rfl, _, rfl, ?_⟩
          by_cases c1 : v = z.2
          · rw [decide_eq_true (congrArg V.int c1)]
            exact iteF (iteF (fm_skip mono_int pv (Same.refl _) (by rw [hv]; exact if_neg (by rw [decide_eq_true_eq]; exact fun q => q.1 c1))))
          · rw [decide_eq_false (fun e => c1 (V.int.inj e))]
            refine iteT ⟨_, rfl, _, rfl, fa, _, rfl, .inl (.of (pv.1 _ _ hfa6)), rfl, flat_ints _, _, rfl, ?_⟩
            rw [if_pos rfl, inV_ints]
            by_cases c2 : v ∈ F0 ++ E
            · rw [decide_eq_true c2]
              exact iteF (fm_skip mono_int pv (Same.refl _) (by rw [hv]; exact if_neg (by rw [decide_eq_true_eq]; exact fun q => q.2 c2)))
            · rw [decide_eq_false c2]
              exact iteT ⟨_, rfl, fm_keep mono_int pv hD (by omega) (Same.refl _) (by rw [hv]; exact if_pos (decide_eq_true ⟨c1, c2⟩)) rfl⟩
        · intro H7 ys s7 hD7 hp7
          have e := paired_int hp7
          subst e
          rw [List.length_map, fm_list, fm_filter] at hD7
          have fl := List.length_filter_le (fun v => decide (v ≠ z.2 ∧ v ∉ F0 ++ E)) ns
          have hfa7 := s7 _ _ hfa6
          refine ⟨fa, D, _, _, rfl, rfl, hfa7, hD7, by rw [List.length_map, List.length_map]; exact Nat.le_trans (by omega : _ ≤ 48) (by decide), ?_⟩
          have SM := SE.more ok (List.mem_append_left E hpm) hperm
          rw [List.append_assoc] at SM
          refine ⟨_, _, E ++ ns.filter fun v => decide (v ≠ z.2 ∧ v ∉ F0 ++ E), rfl, same_own (s46.trans s7) nfa0, by rw [upd_ne lcfa.symm]; exact s7 _ _ (s6 _ _ hlc), by rw [upd_same, ← List.map_append, List.append_assoc], SM, fun k x hk2 hxk y hy hne => ?_, fun hcl0 => ?_⟩
          · rw [← List.append_assoc]
            by_cases hkj : k < j
            · exact List.mem_append_left _ (hk k x hkj hxk y hy hne)
            · have : k = j := by omega
              subst this
              rw [hpost] at hxk
              cases hxk
              by_cases hyF : y ∈ F0 ++ E
              · exact List.mem_append_left _ hyF
              · exact List.mem_append_right _ (List.mem_filter.mpr ⟨hperm.mem_iff.mpr hy, decide_eq_true ⟨hne, hyF⟩⟩)
          · have e0 := hcl hcl0
            subst e0
            rw [List.nil_append, List.filter_eq_nil_iff]
            intro v hv hd
            obtain ⟨d1, d2⟩ := of_decide_eq_true hd
            exact d2 (by rw [List.append_nil]; exact hcl0 post hpm v (hperm.mem_iff.mp hv) d1)
      · rintro σ H4 ⟨x4, x5, E, rfl, s4, hlc, hfa, SE, hk, hcl⟩
        refine ⟨_, x4, x5, F0 ++ E, rfl, s4, hfa, SE, ?_⟩
        have full : ∀ x ∈ F0, ∀ y ∈ nb ties x, y ≠ z.2 → y ∈ F0 ++ E := fun x hx y hy hne => by
          obtain ⟨k, hk2⟩ := List.getElem?_of_mem hx
          refine hk k x ?_ hk2 y hy hne
          rw [List.length_map]
          exact (List.getElem?_eq_some_iff.mp hk2).1
        rcases hc with hc | hc
        · have := hcl hc
          subst this
          exact .inl (by rw [List.append_nil]; exact hc)
        · cases E with
          | nil =>
            rw [List.append_nil] at full ⊢
            exact .inl full
          | cons e E =>
            refine .inr ?_
            rw [List.length_append, List.length_cons]
            omega
    · rintro σ H2 ⟨x3, x4, x5, F, rfl, s2, hF, SF, hc⟩
      rw [Int.toNat_natCast] at hc
      have hcl : Clo ties z.2 F := by
        rcases hc with hc | hc
        · exact hc
        · have full := full_of SF.nd (hin F SF) (by omega)
          exact fun x hx y hy _ => full y (ok.shut.cl x (hin F SF x hx) y hy)
      refine ⟨_, rfl, fa, F, rfl, .of hF, fun ns r hperm hup nr => ?_⟩
      exact q _ r ns (s2.trans (same_new nr)) (s2.free nr) upd_same hup (hperm.nodup_iff.mpr SF.nd) fun x => by rw [hperm.mem_iff]; exact SF.all hcl x
end
end S4

namespace S4
open PySem L2 TT MM
/-! ### rows put right place by place -/
def inRows (rows : List (List Int)) : Vc → Prop := fun v => ∃ l ∈ rows, v = vec l
structure LG (p : Int) (wd : Nat) (rows : List (List Int)) (pl : List Nat) (c : Nat) (W : List (List Int)) : Prop where
  row : ∀ r ∈ W, isRow r p wd
  len : W.length = rows.length
  sp : Same2 p (inRows W) (inRows rows)
  asc : pl.Pairwise (· < ·)
  lt : ∀ x ∈ pl, x < c
  one : ∀ (a x : Nat), pl[a]? = some x → (W.getD a []).getD x 0 = 1
  off : ∀ (a x i : Nat), pl[a]? = some x → i ≠ a → (W.getD i []).getD x 0 = 0
  low : ∀ (a x y : Nat), pl[a]? = some x → y < x → (W.getD a []).getD y 0 = 0
  rest : ∀ (i y : Nat), pl.length ≤ i → y < c → (W.getD i []).getD y 0 = 0
section
variable {p : Int} {wd : Nat} {rows W W' : List (List Int)} {pl : List Nat} {c : Nat}
theorem getD_set (W : List (List Int)) {i : Nat} (hi : i < W.length) (r : List Int) (k : Nat) : (W.set i r).getD k [] = if k = i then r else W.getD k [] := by
  rw [List.getD_eq_getElem?_getD, List.getElem?_set]
  by_cases h : k = i
  · subst h
    rw [if_pos rfl, if_pos rfl, if_pos hi]
    rfl
  · rw [if_neg (fun e => h e.symm), if_neg h, List.getD_eq_getElem?_getD]
theorem same_set {i : Nat} (hi : i < W.length) {r : List Int} (h1 : Spn p (inRows W) (vec r)) (h2 : Spn p (inRows (W.set i r)) (vec (W.getD i []))) : Same2 p (inRows (W.set i r)) (inRows W) := by
  refine same2_of (fun v ⟨l, hl, e⟩ => ?_) fun v ⟨l, hl, e⟩ => ?_
  · subst e
    rcases List.mem_or_eq_of_mem_set hl with h | h
    · exact .row ⟨l, h, rfl⟩
    · subst h; exact h1
  · subst e
    obtain ⟨k, hk, rfl⟩ := List.getElem_of_mem hl
    by_cases e : k = i
    · subst e
      have e2 : W.getD k [] = W[k] := getD_at (List.getElem?_eq_getElem hk)
      rw [← e2]; exact h2
    · refine .row ⟨W[k], ?_, rfl⟩
      have : (W.set i r)[k]? = some W[k] := by rw [List.getElem?_set, if_neg (fun q => e q.symm), List.getElem?_eq_getElem hk]
      exact List.mem_of_getElem? this
theorem same_trans {R1 R2 R3 : Vc → Prop} (a : Same2 p R1 R2) (b : Same2 p R2 R3) : Same2 p R1 R3 := fun v => (a v).trans (b v)
theorem same_swap {i j : Nat} (hi : i < W.length) (hj : j < W.length) : Same2 p (inRows ((W.set i (W.getD j [])).set j (W.getD i []))) (inRows W) := by
  have ei : W.getD i [] = W[i] := getD_at (List.getElem?_eq_getElem hi)
  have ej : W.getD j [] = W[j] := getD_at (List.getElem?_eq_getElem hj)
  refine same2_of (fun v ⟨l, hl, e⟩ => ?_) fun v ⟨l, hl, e⟩ => ?_
  · subst e
    refine .row ⟨l, ?_, rfl⟩
    rcases List.mem_or_eq_of_mem_set hl with h | h
    · rcases List.mem_or_eq_of_mem_set h with h | h
      · exact h
      · rw [h, ej]; exact List.getElem_mem hj
    · rw [h, ei]; exact List.getElem_mem hi
  · subst e
    refine .row ⟨l, ?_, rfl⟩
    obtain ⟨k, hk, rfl⟩ := List.getElem_of_mem hl
    have hl1 : j < (W.set i (W.getD j [])).length := by rw [List.length_set]; exact hj
    by_cases e1 : k = i
    · subst e1
      have : ((W.set k (W.getD j [])).set j (W.getD k []))[j]? = some W[k] := by rw [List.getElem?_set, if_pos rfl, if_pos hl1, ei]
      exact List.mem_of_getElem? this
    · by_cases e2 : k = j
      · subst e2
        have : ((W.set i (W.getD k [])).set k (W.getD i []))[i]? = some W[k] := by
          rw [List.getElem?_set, if_neg e1, List.getElem?_set, if_pos rfl, if_pos hi, ej]
        exact List.mem_of_getElem? this
      · have : ((W.set i (W.getD j [])).set j (W.getD i []))[k]? = some W[k] := by
          rw [List.getElem?_set, if_neg (fun q => e2 q.symm), List.getElem?_set, if_neg (fun q => e1 q.symm), List.getElem?_eq_getElem hk]
        exact List.mem_of_getElem? this
theorem LG.le (L : LG p wd rows pl c W) : pl.length ≤ W.length := by
  by_cases h : pl.length ≤ W.length
  · exact h
  · have hx : pl[W.length]? = some (pl[W.length]'(by omega)) := List.getElem?_eq_getElem (by omega)
    have := L.one _ _ hx
    rw [List.getD_eq_getElem?_getD (l := W), List.getElem?_eq_none (Nat.le_refl _)] at this
    simp at this
theorem LG.start (hr : ∀ r ∈ rows, isRow r p wd) : LG p wd rows [] 0 rows :=
  ⟨hr, rfl, fun v => Iff.rfl, .nil, fun x h => (nomatch h), fun a x h => by simp at h, fun a x i h => by simp at h, fun a x y h => by simp at h, fun i y _ h => absurd h (Nat.not_lt_zero y)⟩
/-- no row is left that has something at the place -/
theorem LG.none (L : LG p wd rows pl c W) (h : ∀ i, pl.length ≤ i → (W.getD i []).getD c 0 = 0) : LG p wd rows pl (c + 1) W :=
  ⟨L.row, L.len, L.sp, L.asc, fun x hx => Nat.lt_succ_of_lt (L.lt x hx), L.one, L.off, L.low, fun i y hi hy => by
    by_cases e : y = c
    · subst e; exact h i hi
    · exact L.rest i y hi (by omega)⟩
/-- a row is put at the top, all others cleared of the place -/
theorem LG.some (L : LG p wd rows pl c W) (hr : ∀ r ∈ W', isRow r p wd) (hl : W'.length = W.length) (hs : Same2 p (inRows W') (inRows W)) (un : ∀ i x, x < c → (W'.getD i []).getD x 0 = (W.getD i []).getD x 0)
    (h1 : (W'.getD pl.length []).getD c 0 = 1) (h0 : ∀ i, i ≠ pl.length → (W'.getD i []).getD c 0 = 0) : LG p wd rows (pl ++ [c]) (c + 1) W' := by
  have at_ : ∀ a x, (pl ++ [c])[a]? = Option.some x → (pl[a]? = Option.some x ∧ x < c) ∨ (a = pl.length ∧ x = c) := fun a x h => by
    by_cases ha : a < pl.length
    · rw [List.getElem?_append_left ha] at h
      exact .inl ⟨h, L.lt x (List.mem_of_getElem? h)⟩
    · rw [List.getElem?_append_right (by omega)] at h
      obtain ⟨hh, e⟩ := List.getElem?_eq_some_iff.mp h
      have : a - pl.length = 0 := by rw [List.length_singleton] at hh; omega
      simp only [this, List.getElem_singleton] at e
      exact .inr ⟨by omega, e.symm⟩
  refine ⟨hr, by rw [hl, L.len], same_trans hs L.sp, ?_, fun x hx => ?_, fun a x h => ?_, fun a x i h hi => ?_, fun a x y h hy => ?_, fun i y hi hy => ?_⟩
  · rw [List.pairwise_append]
    exact ⟨L.asc, List.pairwise_singleton _ _, fun a ha b hb => by rw [List.mem_singleton.mp hb]; exact L.lt a ha⟩
  · rcases List.mem_append.mp hx with h | h
    · have := L.lt x h; omega
    · rw [List.mem_singleton.mp h]; omega
  · rcases at_ a x h with ⟨h, hx⟩ | ⟨rfl, rfl⟩
    · rw [un a x hx]; exact L.one a x h
    · exact h1
  · rcases at_ a x h with ⟨h, hx⟩ | ⟨rfl, rfl⟩
    · rw [un i x hx]; exact L.off a x i h hi
    · exact h0 i hi
  · rcases at_ a x h with ⟨h, hx⟩ | ⟨rfl, rfl⟩
    · rw [un a y (by omega)]; exact L.low a x y h hy
    · rw [un _ y hy]; exact L.rest _ y (Nat.le_refl _) hy
  · rw [List.length_append, List.length_singleton] at hi
    by_cases e : y = c
    · subst e; exact h0 i (by omega)
    · rw [un i y (by omega)]; exact L.rest i y (by omega) (by omega)
theorem rowOf_zip : ∀ {pl : List Nat} {W : List (List Int)} {a x : Nat}, pl.Nodup → pl[a]? = Option.some x → a < W.length → rowOf (pl.zip W) x = W.getD a []
  | [], _, _, _, _, h, _ => by simp at h
  | y :: pl, [], a, x, _, _, h => by simp at h
  | y :: pl, w :: W, 0, x, nd, h, _ => by
    cases (Option.some.inj h)
    unfold rowOf
    simp
  | y :: pl, w :: W, a + 1, x, nd, h, hl => by
    obtain ⟨n1, n2⟩ := List.nodup_cons.mp nd
    have hm : x ∈ pl := List.mem_of_getElem? (by simpa using h)
    have hne : y ≠ x := fun e => n1 (e ▸ hm)
    have ih := rowOf_zip (W := W) (a := a) (x := x) n2 (by simpa using h) (by simpa using hl)
    unfold rowOf at ih ⊢
    rw [List.zip_cons_cons, List.find?_cons]
    simp only [beq_false_of_ne hne]
    rw [ih]
    simp
theorem LG.done (p2 : 2 ≤ p) (L : LG p wd rows pl wd W) : IsLad p wd rows (W.take pl.length) := by
  have hle := L.le
  have nd : pl.Nodup := L.asc.imp fun h => Nat.ne_of_lt h
  have hfst : (pl.zip W).map (·.1) = pl := by rw [List.map_fst_zip hle]
  have hro : ∀ a x, pl[a]? = Option.some x → rowOf (pl.zip W) x = W.getD a [] := fun a x h => rowOf_zip nd h (by have := (List.getElem?_eq_some_iff.mp h).1; omega)
  refine ⟨pl.zip W, pl.map fun (x : Nat) => (x : Int), ⟨⟨?_, ?_, ?_, ?_⟩, ?_, ?_⟩, ?_, ?_, ?_⟩
  · rw [hfst]; exact nd
  · rw [hfst]
    intro i hi
    obtain ⟨a, ha⟩ := List.getElem?_of_mem hi
    unfold rv vec
    rw [hro a i ha, L.one a i ha]
    exact .refl _
  · rw [hfst]
    intro i hi j hj hne
    obtain ⟨a, ha⟩ := List.getElem?_of_mem hi
    obtain ⟨b, hb⟩ := List.getElem?_of_mem hj
    unfold rv vec
    rw [hro a i ha, L.off b j a hb (fun e => by subst e; rw [ha] at hb; exact hne (Option.some.inj hb).symm)]
    exact .refl _
  · rw [hfst]
    intro i hi x hx
    obtain ⟨a, ha⟩ := List.getElem?_of_mem hi
    unfold rv vec
    rw [hro a i ha, L.low a i x ha hx]
    exact .refl _
  · intro z hz
    have h1 := List.of_mem_zip hz
    have hr := L.row z.2 h1.2
    exact ⟨L.lt z.1 h1.1, by have := hr.1; omega, hr.2⟩
  · refine same_trans ?_ L.sp
    refine same2_of (fun v hv => ?_) fun v ⟨l, hl, e⟩ => ?_
    · obtain ⟨i, hi, rfl⟩ := hv
      rw [hfst] at hi
      obtain ⟨a, ha⟩ := List.getElem?_of_mem hi
      have hlt : a < W.length := by have := (List.getElem?_eq_some_iff.mp ha).1; omega
      refine .row ⟨W[a], List.getElem_mem hlt, ?_⟩
      unfold rv
      rw [hro a i ha, getD_at (List.getElem?_eq_getElem hlt)]
    · subst e
      obtain ⟨k, hk, rfl⟩ := List.getElem_of_mem hl
      have ek : W.getD k [] = W[k] := getD_at (List.getElem?_eq_getElem hk)
      by_cases hkp : k < pl.length
      · have hx : pl[k]? = Option.some pl[k] := List.getElem?_eq_getElem hkp
        refine .row ⟨pl[k], by rw [hfst]; exact List.getElem_mem hkp, ?_⟩
        unfold rv
        rw [hro k _ hx, ek]
      · refine .zero fun x => ?_
        have hw := (L.row _ (List.getElem_mem hk)).1
        unfold vec
        by_cases hx : x < wd
        · rw [← ek, L.rest k x (by omega) hx]
          exact .refl _
        · rw [List.getD_eq_getElem?_getD, List.getElem?_eq_none (by omega)]
          exact .refl _
  · unfold keysI
    rw [← hfst, List.map_map]
    rw [hfst]
    exact .refl _
  · unfold Up
    rw [List.pairwise_map]
    exact L.asc.imp fun h => by omega
  · rw [List.map_map]
    apply List.ext_getElem?
    intro k
    rw [List.getElem?_map, List.getElem?_take]
    by_cases hk : k < pl.length
    · have hx : pl[k]? = Option.some pl[k] := List.getElem?_eq_getElem hk
      have hlt : k < W.length := by omega
      rw [if_pos hk, hx, List.getElem?_eq_getElem hlt]
      show Option.some W[k] = Option.some (rowOf (pl.zip W) ((pl[k] : Nat) : Int).toNat)
      rw [Int.toNat_natCast, hro k _ hx, getD_at (List.getElem?_eq_getElem hlt)]
    · rw [if_neg hk, List.getElem?_eq_none (by omega)]
      rfl
end
end S4

namespace S4
open PySem L2 TT MM
/-! ### the law's ladder -/
theorem ixN_nat {n j : Nat} (h : j < n) : ixN n (j : Int) = some j := by
  unfold ixN
  rw [if_pos (by omega), if_pos (by omega), Int.toNat_natCast]
def rLI : Rp (List Int) := fun H v l => ∃ a, v = .ref a ∧ H a = some (.lst (l.map V.int))
theorem li_same {H H' : Hp} (s : Same H H') : ∀ {xs : List V} {W : List (List Int)}, Paired (rLI H) xs W → Paired (rLI H') xs W := fun p => Paired.mapP p fun _ _ ⟨a, e, h⟩ => ⟨a, e, s _ _ h⟩
theorem li_upd {H : Hp} {wk : Addr} {xs ys : List V} {W : List (List Int)} (hw : H wk = some (.lst xs)) (p : Paired (rLI H) xs W) : Paired (rLI (upd H wk (.lst ys))) xs W := by
  have hne : ∀ v ∈ xs, ∀ a, v = .ref a → ∀ l : List Int, H a = some (.lst (l.map V.int)) → a ≠ wk := fun v hv a e l h q => by
    subst q
    rw [hw] at h
    have h := HO.lst.inj (Option.some.inj h)
    rw [h] at hv
    obtain ⟨n, _, e2⟩ := List.mem_map.mp hv
    rw [e] at e2
    cases e2
  have go : ∀ {zs : List V} {W : List (List Int)}, (∀ v ∈ zs, v ∈ xs) → Paired (rLI H) zs W → Paired (rLI (upd H wk (.lst ys))) zs W := by
    intro zs W hz p
    induction p with
    | nil => exact .nil
    | cons r t ih =>
      obtain ⟨a, e, h⟩ := r
      refine .cons ⟨a, e, ?_⟩ (ih fun v hv => hz v (by simp [hv]))
      rw [upd_ne (hne _ (hz _ (by simp)) a e _ h)]
      exact h
  exact go (fun _ h => h) p
theorem paired_set {α β : Type} {F : α → β → Prop} : ∀ {xs : List α} {l : List β} (i : Nat) {x : α} {y : β}, Paired F xs l → F x y → Paired F (xs.set i x) (l.set i y)
  | _, _, _, _, _, .nil, _ => .nil
  | _, _, 0, _, _, .cons _ t, r => .cons r t
  | _, _, i + 1, _, _, .cons q t, r => .cons q (paired_set i t r)
theorem listS {X : Cx} {K : PySem.W.Frag} (h : X.K = K) : CallR X (.type "list") (fun xs H Q => ∃ p ys, xs = [.ref p] ∧ (SqL K H p ys ∨ SqT K H p ys) ∧ ∀ l, H l = none → Q (.ref l) (upd H l (.lst ys))) := h ▸ call_list_of
theorem fm_first (f : Nat → Bool) (lo n : Nat) : ((List.range n).filterMap fun i => if f (lo + i) = true then some ((lo + i : Nat) : Int) else none) = [] ∧ (∀ i, lo ≤ i → i < lo + n → f i = false) ∨
    ∃ (k : Nat) (S : List Int), ((List.range n).filterMap fun i => if f (lo + i) = true then some ((lo + i : Nat) : Int) else none) = (k : Int) :: S ∧ lo ≤ k ∧ k < lo + n ∧ f k = true := by
  cases e : ((List.range n).filterMap fun i => if f (lo + i) = true then some ((lo + i : Nat) : Int) else none) with
  | nil =>
    refine .inl ⟨rfl, fun i h1 h2 => ?_⟩
    have h := List.filterMap_eq_nil_iff.mp e (i - lo) (List.mem_range.mpr (by omega))
    rw [show lo + (i - lo) = i by omega] at h
    cases hf : f i with
    | false => rfl
    | true => rw [hf, if_pos rfl] at h; cases h
  | cons x S =>
    have hx : x ∈ (List.range n).filterMap fun i => if f (lo + i) = true then some ((lo + i : Nat) : Int) else none := by rw [e]; simp
    obtain ⟨i, hi, h⟩ := List.mem_filterMap.mp hx
    have hi := List.mem_range.mp hi
    cases hf : f (lo + i) with
    | false => rw [hf, if_neg (by simp)] at h; cases h
    | true =>
      rw [hf, if_pos rfl] at h
      cases h
      exact .inr ⟨lo + i, S, rfl, by omega, by omega, hf⟩
theorem wide_of {K : PySem.W.Frag} {σ : St} {H : Hp} {wk : Addr} {ys : List V} {rows : List (List Int)} {wd : Nat} {Q : V → Hp → Prop} (h2 : σ[2]? = some (some (.ref wk))) (hw : H wk = some (.lst ys)) (hp : Paired (rLI H) ys rows) (hr : ∀ r ∈ rows, r.length = wd) (q : Q (.int ((if rows = [] then 0 else wd : Nat) : Int)) H) :
    tIf (tTest (tOp (rI0 fun i j => V.bl (decide (j < i))) (tCB (fun xs H Q => ∃ p ys, xs = [.ref p] ∧ (SqL K H p ys ∨ SqT K H p ys) ∧ Q (.int ((ys.length : Nat) : Int)) H) (tCons (tVar 2) tNil)) (tC (.int 0))))
      (tCB (fun xs H Q => ∃ p ys, xs = [.ref p] ∧ (SqL K H p ys ∨ SqT K H p ys) ∧ Q (.int ((ys.length : Nat) : Int)) H) (tCons (tOp (rIxL K) (tVar 2) (tC (.int 0))) tNil)) (tC (.int 0)) σ H Q := by
  refine ⟨_, h2, wk, ys, rfl, .inl (.of hw), _, _, rfl, rfl, _, rfl, ?_⟩
  cases hp with
  | nil =>
    rw [if_pos rfl] at q
    rw [decide_eq_false (by show ¬ (0 : Int) < (([] : List V).length : Int); decide)]
    exact iteF q
  | cons r t =>
    obtain ⟨b, rfl, hb⟩ := r
    rw [if_neg (by simp)] at q
    rw [decide_eq_true (by rw [List.length_cons]; omega)]
    refine iteT ⟨_, h2, wk, _, _, _, rfl, rfl, .of hw, at_of (j := 0) rfl rfl, b, _, rfl, .inl (.of hb), ?_⟩
    rw [List.length_map, hr _ (by simp)]
    exact q
theorem LG.widen {p : Int} {wd : Nat} {pl : List Nat} {c : Nat} {W : List (List Int)} (L : LG p wd [] pl c W) : LG p wd [] pl wd W := by
  have hW : W = [] := List.eq_nil_of_length_eq_zero L.len
  have hpl := L.le
  rw [L.len] at hpl
  have hpl : pl = [] := List.eq_nil_of_length_eq_zero (by simpa using hpl)
  subst hW hpl
  exact ⟨L.row, L.len, L.sp, .nil, fun x h => (nomatch h), L.one, L.off, L.low, fun i y _ _ => by simp⟩
section
variable {P : Program} {w : World} {K : PySem.W.Frag} {mg : Str → Option Value} {base : Heap} {cT cS : Addr}
def rLT : Rp (List Int) := fun H v l => ∃ a, v = .ref a ∧ (H a = some (.lst (l.map V.int)) ∨ H a = some (.tup (l.map V.int)))
theorem lt_same {H H' : Hp} (s : Same H H') : ∀ {xs : List V} {W : List (List Int)}, Paired (rLT H) xs W → Paired (rLT H') xs W := fun p => Paired.mapP p fun _ _ ⟨a, e, h⟩ => ⟨a, e, h.elim (fun h => .inl (s _ _ h)) (fun h => .inr (s _ _ h))⟩
def spLLadT : Sp := fun vs H Q _ => ∃ (a : Addr) (p : Int) (wd : Nat) (xs : List V) (rows : List (List Int)), vs = [.int p, .ref a] ∧ H a = some (.lst xs) ∧ Paired (rLT H) xs rows ∧ rows.length ≤ 400 ∧ Prm p ∧ p ≤ 1000000 ∧ wd ≤ 200 ∧ (∀ r ∈ rows, isRow r p wd) ∧
  ∀ H' v lad, Same H H' → rTup rRow H' v lad → IsLad p wd rows lad → Q v H'
theorem ok_lladT (T : Tx K mg cT cS) {f : Addr} {fd : FuncData} (d : D K mg "_law_ladder" s_law_ladder ["p", "rows"] f fd) : FnOk P w K mg base CX0 2 f fd ["p", "rows"] spLLadT := by
  obtain ⟨f1, fd1, d1⟩ := T.d_law_inverse
  have G1 := ok_linv (P := P) (w := w) (base := base) T d1
  refine d.F.ok sc_law_ladder (fun vs H Q E h => ?_) (fun cdv A outer s H vs Q E hr h => ?_)
  · obtain ⟨a, p, wd, xs, rows, rfl, _⟩ := h
    rfl
  · obtain ⟨a, p, wd, xs, rows, rfl, ha, hp, hl, prm, pm, hwd, hrw, q⟩ := h
    refine ⟨_, pss_cons (ps_asg (pe_tup (pa_cons (pe_lc (own := [("row", 9)]) (g := (gName 9)) (tt := tYes) rfl sc_law_ladder.nd (pi_list (pv 1)) (blkOk_by (N := N_law_ladder) (sc := defScope s_law_ladder) (by decide +kernel)) (fun _ _ _ _ _ => (pg_name (i := 9) sc_law_ladder.nd rfl (Or.inl rfl))) (fun _ _ _ _ _ => pts_nil)
            (fun _ _ _ _ _ => (pe_callTy (listS (K := K) rfl) (by rfl) T.b_list (by decide +kernel) (pa_cons (pv 9) pa_nil)))) (pa_cons pe_int pa_nil))) (pg_tup rfl (pgs_cons (pg_name (i := 2) sc_law_ladder.nd rfl (.inr rfl)) (pgs_cons (pg_name (i := 3) sc_law_ladder.nd rfl (.inl rfl)) pgs_nil))))
      (pss_cons (ps_for PassesOwn.never rfl (pi_range1 rfl T.b_range (pa_cons (pe_ifExp (pt_cmpR op_gt (pe_callB call_len_seq (by rfl) T.b_len PySem.boot_len (pa_cons (pv 2) pa_nil)) pe_int (nomark _)) (pe_callB call_len_seq (by rfl) T.b_len PySem.boot_len (pa_cons (pe_ix ix_list (pv 2) pe_int (fun _ _ => rfl)) pa_nil)) pe_int) pa_nil)) (pg_name (i := 4) sc_law_ladder.nd rfl (.inr rfl))
        (pss_cons (ps_setLc (i := 6) (own := [("at", 5)]) (g := (gName 5)) (tt := _) rfl sc_law_ladder.nd rfl rfl (sw_true rfl rfl rfl (by decide +kernel)) (pi_range2 rfl T.b_range (pa_cons (pv 3) (pa_cons (pe_callB call_len_seq (by rfl) T.b_len PySem.boot_len (pa_cons (pv 2) pa_nil)) pa_nil))) (blkOk_by (N := N_law_ladder) (sc := defScope s_law_ladder) (by decide +kernel)) (fun _ _ _ _ _ => (pg_name (i := 5) sc_law_ladder.nd rfl (Or.inl rfl))) (fun _ _ _ _ _ => (pts_one (pt_cmpR op_ne (pe_ix (ixL (K := K) rfl) (pe_ix (ixL (K := K) rfl) (pv 2) (pv 5) (fun _ _ => rfl)) (pv 4) (fun _ _ => rfl)) pe_int (nomark _))))
            (fun _ _ _ _ _ => (pv 5)))
      (pss_one (ps_if (pt_cmpR op_gt (pe_callB call_len_seq (by rfl) T.b_len PySem.boot_len (pa_cons (pv 6) pa_nil)) pe_int (nomark _)) (pss_cons (ps_asg (pe_tup (pa_cons (pe_ix ix_list (pv 2) (pe_ix ix_list (pv 6) pe_int (fun _ _ => rfl)) (fun _ _ => rfl)) (pa_cons (pe_ix ix_list (pv 2) (pv 3) (fun _ _ => rfl)) pa_nil))) (pg_tup rfl (pgs_cons (pg_sub (pv 2) (pv 3) set_list) (pgs_cons (pg_sub (pv 2) (pe_ix ix_list (pv 6) pe_int (fun _ _ => rfl)) set_list) pgs_nil))))
      (pss_cons (ps_set (i := 7) sc_law_ladder.nd rfl (.inr rfl) (pe_call G1 (hr.mono (by decide)) rfl d1.m d1.F.kp d1.b .nil pass0 (pa_cons (pv 0) (pa_cons (pe_ix ix_list (pe_ix ix_list (pv 2) (pv 3) (fun _ _ => rfl)) (pv 4) (fun _ _ => rfl)) pa_nil))))
      (pss_cons (ps_asg (pe_lc (own := [("value", 10)]) (g := (gName 10)) (tt := tYes) rfl sc_law_ladder.nd (pi_list (pe_ix ix_list (pv 2) (pv 3) (fun _ _ => rfl))) (blkOk_by (N := N_law_ladder) (sc := defScope s_law_ladder) (by decide +kernel)) (fun _ _ _ _ _ => (pg_name (i := 10) sc_law_ladder.nd rfl (Or.inl rfl))) (fun _ _ _ _ _ => pts_nil)
            (fun _ _ _ _ _ => (pe_op op_mod (pe_callTy call_int1 (by rfl) T.b_int (by decide +kernel) (pa_cons (pe_op op_mul (pv 10) (pv 7)) pa_nil)) (pv 0)))) (pg_sub (pv 2) (pv 3) set_list))
      (pss_cons (ps_for PassesOwn.never rfl (pi_range1 rfl T.b_range (pa_cons (pe_callB call_len_seq (by rfl) T.b_len PySem.boot_len (pa_cons (pv 2) pa_nil)) pa_nil)) (pg_name (i := 5) sc_law_ladder.nd rfl (.inl rfl))
        (pss_cons (ps_set (i := 8) sc_law_ladder.nd rfl (.inr rfl) (pe_ix ix_list (pe_ix ix_list (pv 2) (pv 5) (fun _ _ => rfl)) (pv 4) (fun _ _ => rfl)))
      (pss_one (ps_if (PW.pt (pw_and (pt_cmpR op_ne (pv 5) (pv 3) (nomark _)) (pw_and1 (pt_cmpR op_ne (pv 8) pe_int (nomark _))))) (pss_one (ps_asg (pe_lc (own := [("value", 10), ("own", 11)]) (g := (gTup K 2 (gCons (gName 10) (gCons (gName 11) gNil)))) (tt := tYes) rfl sc_law_ladder.nd (RZ.pi_zipA (by rfl) T.b_zip (pa_cons (pe_ix ix_list (pv 2) (pv 5) (fun _ _ => rfl)) (pa_cons (pe_ix ix_list (pv 2) (pv 3) (fun _ _ => rfl)) pa_nil))) (blkOk_by (N := N_law_ladder) (sc := defScope s_law_ladder) (by decide +kernel)) (fun _ _ _ _ _ => (pgT rfl rfl (pgs_cons (pg_name (i := 10) sc_law_ladder.nd rfl (Or.inl rfl)) (pgs_cons (pg_name (i := 11) sc_law_ladder.nd rfl (Or.inl rfl)) pgs_nil)))) (fun _ _ _ _ _ => pts_nil)
            (fun _ _ _ _ _ => (pe_op op_mod (pe_callTy call_int1 (by rfl) T.b_int (by decide +kernel) (pa_cons (pe_op op_sub (pv 10) (pe_op op_mul (pv 8) (pv 11))) pa_nil)) (pv 0)))) (pg_sub (pv 2) (pv 5) set_list))) pss_nil))))
      (pss_one (ps_set (i := 3) sc_law_ladder.nd rfl (.inl rfl) (pe_op op_add (pv 3) pe_int))))))) pss_nil))))
      (pss_one (ps_ret (pe_callTy call_tuple_of (by rfl) T.b_tuple (by decide +kernel) (pa_cons (pe_lc (own := [("row", 9)]) (g := (gName 9)) (tt := tYes) rfl sc_law_ladder.nd (pi_list (pe_slice sl_list (pv 2) po_none (po_some (pv 3)))) (blkOk_by (N := N_law_ladder) (sc := defScope s_law_ladder) (by decide +kernel)) (fun _ _ _ _ _ => (pg_name (i := 9) sc_law_ladder.nd rfl (Or.inl rfl))) (fun _ _ _ _ _ => pts_nil)
            (fun _ _ _ _ _ => (pe_callTy (tupS (K := K) rfl) (by rfl) T.b_tuple (by decide +kernel) (pa_cons (pv 9) pa_nil)))) pa_nil))))), ?_⟩
    have p2 := prm.1
    have hlr := paired_len hp
    refine ⟨_, rfl, a, rfl, ⟨_, .of ha⟩, fun wk hwk => ?_⟩
    refine walk_W (walk_list (xs := xs)) _ (fun i H' => Same H H' ∧ ∃ ys, H' wk = some (.lst ys) ∧ Paired (rLI H') ys (rows.take i)) ⟨same_new hwk, [], upd_same, .nil⟩ (fun i H' _ h => .of (h.1 _ _ ha)) ?_ ?_
    · rintro i x H2 H3 hi ⟨s2, ys, h1, h2⟩ ⟨rfl, hx⟩
      obtain ⟨l, hl, b, rfl, hb⟩ := paired_get (lt_same s2 hp) hx
      refine ⟨rfl, _, rfl, b, _, rfl, hb.elim (fun h => .inl (.of h)) (fun h => .inr (.of h)), fun nl nnl => ?_⟩
      have s3 := same_new (o := .lst (l.map V.int)) nnl
      have h13 := s3 _ _ h1
      have lys := paired_len h2
      rw [List.length_take] at lys
      refine ⟨ys, h13, Nat.lt_of_le_of_lt (by omega : _ ≤ 400) (by decide), same_own (s2.trans s3) hwk, ys ++ [.ref nl], upd_same, ?_⟩
      rw [List.take_succ, hl]
      refine paired_app (li_upd h13 (li_same s3 h2)) (.cons ⟨nl, rfl, ?_⟩ .nil)
      rw [upd_ne (fun e => by subst e; rw [nnl] at h1; cases h1)]
      exact upd_same
    rintro H2 ⟨s2, ys, h1, h2⟩
    rw [hlr, List.take_length] at h2
    refine ⟨by show 2 ≤ sizeLine; decide, fun tp ntp => ?_⟩
    have s3 := same_new (o := .tup [V.ref wk, V.int 0]) ntp
    refine ⟨tp, _, rfl, .of upd_same, rfl, _, _, rfl, _, _, rfl, rfl, ?_⟩
    dsimp only [gName, tSeq]
    have hlen : ∀ r ∈ rows, r.length = wd := fun r h => by have := (hrw r h).1; omega
    refine wide_of (rows := rows) (wd := wd) rfl (s3 _ _ h1) (li_same s3 h2) hlen ?_
    refine ⟨_, rfl, by split <;> omega, by split <;> omega, ?_⟩
    refine for_it (walk_range (lo := 0) (n := ((if rows = [] then 0 else wd : Nat) : Int).toNat)) (fun i σ H' => ∃ x4 x5 x6 x7 x8 x9 x10 x11 pl W zs, σ = [some (.int p), some (.ref a), some (.ref wk), some (.int ((pl : List Nat).length : Nat)), x4, x5, x6, x7, x8, x9, x10, x11] ∧ Same H H' ∧ H' wk = some (.lst zs) ∧ Paired (rLI H') zs W ∧ LG p wd rows pl i W)
      ⟨none, none, none, none, none, none, none, none, [], rows, ys, rfl, s2.trans s3, s3 _ _ h1, li_same s3 h2, LG.start hrw⟩ (fun _ _ _ _ _ => trivial) ?_ ?_
    · rintro c x σ H4 H5 hi ⟨x4, x5, x6, x7, x8, x9, x10, x11, pl, W, zs, rfl, s4, hwk4, hp4, L⟩ ⟨rfl, rfl⟩
      rw [Int.toNat_natCast] at hi
      have hcw : c < wd := by split at hi <;> omega
      have hle := L.le
      have hlW := L.len
      have lzs := paired_len hp4
      dsimp only [gName, tSeq]
      have hm200 : W.length ≤ 400 := by omega
      have ent : ∀ (k : Nat) (hk : k < W.length), ∃ e, (W[k]'hk)[c]? = some e ∧ (W.getD k []).getD c 0 = e ∧ 0 ≤ e ∧ e < p := fun k hk => by
        have hr := L.row _ (List.getElem_mem hk)
        have hl := hr.1
        refine ⟨_, List.getElem?_eq_getElem (by omega), ?_, hr.2 _ (List.getElem_mem _)⟩
        rw [getD_at (List.getElem?_eq_getElem hk), getD_at (List.getElem?_eq_getElem (by omega))]
      refine ⟨_, rfl, _, rfl, wk, _, rfl, .inl (.of hwk4), (pl.length : Int), (zs.length : Int), rfl, ⟨by omega, by omega, by omega, by omega⟩, fun D hD => ?_⟩
      refine lc_fm (walk_range (lo := (pl.length : Int)) (n := ((zs.length : Int) - (pl.length : Int)).toNat)) rInt (fun i => if ((W.getD (pl.length + i) []).getD c 0 != 0) = true then some ((pl.length + i : Nat) : Int) else none) hD (fun _ _ => trivial) ?_ ?_
      · rintro i x H6 H7 hi2 pv ⟨rfl, rfl⟩
        have hk : pl.length + i < W.length := by omega
        obtain ⟨v, hv, b, rfl, hb⟩ := paired_get2 (li_same pv.1 hp4) (List.getElem?_eq_getElem hk)
        obtain ⟨e, he, he2, e0, e1⟩ := ent _ hk
        refine ⟨rfl, _, rfl, _, rfl, wk, _, _, _, rfl, rfl, .of (pv.1 _ _ hwk4), at_of (j := pl.length + i) (by omega) hv, _, rfl, b, _, _, _, rfl, rfl, .of hb, at_of (j := c) (by omega) (int_at he), rfl, _, rfl, ?_⟩
        by_cases h0 : e = 0
        · subst h0
          rw [decide_eq_true rfl]
          exact iteF (fm_skip mono_int pv (Same.refl _) (by rw [he2]; rfl))
        · rw [decide_eq_false (fun z => h0 (V.int.inj z))]
          exact iteT ⟨_, rfl, fm_keep mono_int pv hD (by omega) (Same.refl _) (by rw [he2, if_pos (by simpa using h0)]) (by show V.int _ = V.int _; congr 1)⟩
      intro H6 ys6 s6 hD6 hp6
      have := paired_int hp6
      subst this
      have hfirst := fm_first (f := fun k => (W.getD k []).getD c 0 != 0) pl.length ((zs.length : Int) - (pl.length : Int)).toNat
      generalize hS : ((List.range ((zs.length : Int) - (pl.length : Int)).toNat).filterMap fun i => if ((W.getD (pl.length + i) []).getD c 0 != 0) = true then some ((pl.length + i : Nat) : Int) else none) = S at *
      dsimp only [gName, tSeq]
      refine ⟨_, rfl, D, _, rfl, .inl (.of hD6), _, _, rfl, rfl, _, rfl, ?_⟩
      have t6 := s4.trans s6
      have hwk6 := s6 _ _ hwk4
      have hp6' := li_same s6 hp4
      rcases hfirst with ⟨rfl, hno⟩ | ⟨k, S', rfl, k0, k1, hkc⟩
      · rw [decide_eq_false (by show ¬ (0 : Int) < (([] : List V).length : Int); decide)]
        refine iteF ⟨_, _, _, _, _, _, _, _, pl, W, zs, rfl, t6, hwk6, hp6', L.none fun i hi => ?_⟩
        by_cases hiW : i < W.length
        · have := hno i hi (by omega)
          simpa using this
        · rw [List.getD_eq_getElem?_getD (l := W), List.getElem?_eq_none (by omega)]
          simp
      · rw [decide_eq_true (by rw [List.length_map, List.length_cons]; omega)]
        refine iteT ?_
        have hkW : k < W.length := by omega
        have htW : pl.length < W.length := by omega
        obtain ⟨vk, hvk, bk, rfl, hbk⟩ := paired_get2 hp6' (List.getElem?_eq_getElem hkW)
        obtain ⟨vt, hvt, bt, rfl, hbt⟩ := paired_get2 hp6' (List.getElem?_eq_getElem htW)
        obtain ⟨e, he, he2, e0, e1⟩ := ent k hkW
        have ene : e ≠ 0 := by rw [he2] at hkc; simpa using hkc
        have hWk : W.getD k [] = W[k] := getD_at (List.getElem?_eq_getElem hkW)
        have hWt : W.getD pl.length [] = W[pl.length] := getD_at (List.getElem?_eq_getElem htW)
        refine ⟨_, rfl, _, rfl, D, _, _, _, rfl, rfl, .of hD6, at_of (j := 0) rfl rfl, wk, _, _, _, rfl, rfl, .of hwk6, at_of (j := k) rfl hvk, _, rfl, _, rfl, wk, _, _, _, rfl, rfl, .of hwk6, at_of (j := pl.length) rfl hvt, by show 2 ≤ sizeLine; decide, fun tq ntq => ?_⟩
        have s7 := same_new (o := .tup [V.ref bk, V.ref bt]) ntq
        have hwk7 := s7 _ _ hwk6
        have dwk : D ≠ wk := fun z => by rw [z, hwk4] at hD; cases hD
        refine ⟨tq, _, rfl, .of upd_same, rfl, _, _, rfl, ?_⟩
        refine ⟨_, rfl, _, rfl, wk, _, _, pl.length, rfl, rfl, hwk7, ixN_nat (by omega), _, _, rfl, ?_⟩
        refine ⟨_, rfl, _, rfl, D, _, _, _, rfl, rfl, .of (by rw [upd_ne dwk]; exact s7 _ _ hD6), at_of (j := 0) rfl rfl, wk, _, _, k, rfl, rfl, upd_same, ixN_nat (by rw [List.length_set]; omega), rfl, ?_⟩
        rw [upd_upd]
        have hz1 : ∃ z1, z1 = (zs.set pl.length (V.ref bk)).set k (V.ref bt) := ⟨_, rfl⟩
        obtain ⟨z1, ez1⟩ := hz1
        rw [← ez1]
        have hW1 : ∃ W1, W1 = (W.set pl.length W[k]).set k W[pl.length] := ⟨_, rfl⟩
        obtain ⟨W1, eW1⟩ := hW1
        have hp8 : Paired (rLI (upd (upd H6 tq (.tup [V.ref bk, V.ref bt])) wk (.lst z1))) z1 W1 := by
          rw [ez1, eW1]
          have h7 := li_same s7 hp6'
          have b7 := li_upd (ys := z1) hwk7 h7
          rw [ez1] at b7
          obtain ⟨u1, hu1, c1⟩ := paired_get2 b7 (List.getElem?_eq_getElem hkW)
          obtain ⟨u2, hu2, c2⟩ := paired_get2 b7 (List.getElem?_eq_getElem htW)
          rw [hvk] at hu1
          rw [hvt] at hu2
          cases hu1
          cases hu2
          exact paired_set k (paired_set pl.length b7 c1) c2
        have t8 : Same H (upd (upd H6 tq (.tup [V.ref bk, V.ref bt])) wk (.lst z1)) := same_own (t6.trans s7) hwk
        have hwk8 : (upd (upd H6 tq (.tup [V.ref bk, V.ref bt])) wk (.lst z1)) wk = some (.lst z1) := upd_same
        generalize upd (upd H6 tq (.tup [V.ref bk, V.ref bt])) wk (.lst z1) = H8 at hp8 t8 hwk8
        have lW1 : W1.length = W.length := by rw [eW1, List.length_set, List.length_set]
        have row1 : ∀ r ∈ W1, isRow r p wd := fun r hr => by
          rw [eW1] at hr
          rcases List.mem_or_eq_of_mem_set hr with h | h
          · rcases List.mem_or_eq_of_mem_set h with h | h
            · exact L.row r h
            · rw [h]; exact L.row _ (List.getElem_mem hkW)
          · rw [h]; exact L.row _ (List.getElem_mem htW)
        have sp1 : Same2 p (inRows W1) (inRows W) := by
          have := same_swap (p := p) htW hkW
          rw [hWk, hWt] at this
          rw [eW1]
          exact this
        have gd1 : ∀ i, W1.getD i [] = if i = k then W[pl.length] else if i = pl.length then W[k] else W.getD i [] := fun i => by
          rw [eW1, getD_set _ (by rw [List.length_set]; exact hkW), getD_set _ htW]
        have gt1 : W1.getD pl.length [] = W[k] := by
          rw [gd1]
          split
          · rename_i h
            subst h
            rfl
          · rw [if_pos rfl]
        have un1 : ∀ i x, x < c → (W1.getD i []).getD x 0 = (W.getD i []).getD x 0 := fun i x hx => by
          rw [gd1]
          split
          · rename_i h
            subst h
            rw [← hWt, L.rest _ x (Nat.le_refl _) hx, L.rest i x k0 hx]
          · split
            · rename_i h
              subst h
              rw [← hWk, L.rest _ x (Nat.le_refl _) hx, L.rest k x k0 hx]
            · rfl
        have lz1 := paired_len hp8
        have htW1 : pl.length < W1.length := by omega
        have eT : W1[pl.length] = W[k] := by rw [← gt1]; exact (getD_at (List.getElem?_eq_getElem htW1)).symm
        obtain ⟨v1, hv1, b1, rfl, hb1⟩ := paired_get2 hp8 (List.getElem?_eq_getElem htW1)
        rw [eT] at hb1
        refine ⟨_, rfl, _, rfl, _, rfl, wk, _, _, _, rfl, rfl, .of hwk8, at_of (j := pl.length) rfl hv1, _, rfl, b1, _, _, _, rfl, rfl, .of hb1, at_of (j := c) (by omega) (int_at he), p, e, rfl, prm, pm, by omega, e1, fun H9 u s9 u0 u1 hue => ?_⟩
        have t9 := t8.trans s9
        have hwk9 := s9 _ _ hwk8
        have hp9 := li_same s9 hp8
        have hb9 := s9 _ _ hb1
        refine ⟨_, rfl, ?_⟩
        have p0 : 0 < p := by omega
        have irT : isRow W[k] p wd := L.row _ (List.getElem_mem hkW)
        have lT : W[k].length = wd := by have := irT.1; omega
        refine ⟨_, rfl, wk, _, _, _, rfl, rfl, .of hwk9, at_of (j := pl.length) rfl hv1, b1, rfl, ⟨_, .of hb9⟩, fun SD hSD => ?_⟩
        have sdk : SD ≠ wk := fun z => by rw [z, hwk9] at hSD; cases hSD
        refine lc_fm (walk_list (xs := W[k].map V.int)) rInt (fun i => W[k][i]?.bind fun x => some (u * x % p)) hSD (fun H' s' => .of (s' _ _ hb9)) ?_ ?_
        · rintro i x H10 H11 hi pv ⟨rfl, hx⟩
          obtain ⟨j, hj, rfl⟩ := at_int hx
          have hjb := irT.2 j (List.mem_of_getElem? hj)
          rw [List.length_map] at hi
          refine ⟨rfl, _, rfl, _, rfl, _, _, rfl, rfl, .inr ⟨by omega, by omega⟩, .inl ⟨_, rfl, _, rfl, _, _, rfl, rfl, p0, ?_⟩⟩
          exact fm_keep mono_int pv hSD (by omega) (Same.refl _) (by rw [hj]; rfl) (by rw [Int.mul_comm u]; rfl)
        intro H10 ys10 s10 hD10 hp10
        rw [List.length_map, fm_some] at hp10
        have := paired_int hp10
        subst this
        have hwk10 := s10 _ _ hwk9
        have hTT : ∃ TT, TT = mulL p u W[k] := ⟨_, rfl⟩
        obtain ⟨TT, eTT⟩ := hTT
        rw [show (W[k].map fun x => u * x % p) = TT from eTT.symm] at hD10
        refine ⟨_, rfl, _, rfl, wk, _, _, pl.length, rfl, rfl, hwk10, ixN_nat (by omega), ?_⟩
        have hp11 : Paired (rLI (upd H10 wk (.lst (z1.set pl.length (.ref SD))))) (z1.set pl.length (.ref SD)) (W1.set pl.length TT) := by
          refine paired_set _ (li_upd hwk10 (li_same s10 hp9)) ⟨SD, rfl, ?_⟩
          rw [upd_ne sdk]
          exact hD10
        have t11 : Same H (upd H10 wk (.lst (z1.set pl.length (.ref SD)))) := same_own (t9.trans s10) hwk
        have hwk11 : (upd H10 wk (.lst (z1.set pl.length (.ref SD)))) wk = some (.lst (z1.set pl.length (.ref SD))) := upd_same
        generalize upd H10 wk (.lst (z1.set pl.length (.ref SD))) = H11 at hp11 t11 hwk11
        generalize z1.set pl.length (.ref SD) = z2 at hp11 hwk11
        have hTb : ∀ x, TT.getD x 0 = (u * W[k].getD x 0) % p := fun x => by
          rw [eTT]
          unfold mulL
          by_cases hx : x < W[k].length
          · rw [getD_at (l := W[k].map fun x => u * x % p) (k := x) (by rw [List.getElem?_map, List.getElem?_eq_getElem hx]; rfl), getD_at (List.getElem?_eq_getElem hx)]
          · rw [List.getD_eq_getElem?_getD, List.getD_eq_getElem?_getD, List.getElem?_eq_none (by rw [List.length_map]; omega), List.getElem?_eq_none (by omega)]
            show (0 : Int) = u * 0 % p
            rw [Int.mul_zero]
            rfl
        have irTT : isRow TT p wd := by
          refine ⟨by rw [eTT]; unfold mulL; rw [List.length_map]; omega, fun v hv => ?_⟩
          rw [eTT] at hv
          unfold mulL at hv
          obtain ⟨y, _, rfl⟩ := List.mem_map.mp hv
          exact mod_b p0
        have hTc : TT.getD c 0 = 1 := by
          rw [hTb, ← hWk, he2]
          exact ((Cg.mod _).trans hue).eq (mod_b p0).1 (mod_b p0).2 (by omega) (by omega)
        have hT0 : ∀ x, x < c → TT.getD x 0 = 0 := fun x hx => by
          rw [hTb, ← hWk, L.rest k x k0 hx, Int.mul_zero]
          rfl
        have gd2 : ∀ i, (W1.set pl.length TT).getD i [] = if i = pl.length then TT else W1.getD i [] := fun i => getD_set _ htW1 _ _
        have lz2 := paired_len hp11
        rw [List.length_set] at lz2
        have sp2 : Same2 p (inRows (W1.set pl.length TT)) (inRows W1) := by
          refine same_set htW1 ?_ ?_
          · refine .plus u (.zero (v := fun _ => 0) fun _ => .refl 0) (.row ⟨W[k], by rw [← eT]; exact List.getElem_mem htW1, rfl⟩) fun x => ?_
            rw [eTT]
            exact (mulL_vec x).trans (.of_eq (by omega))
          · rw [gt1]
            refine .plus e (.zero (v := fun _ => 0) fun _ => .refl 0) (.row ⟨TT, List.mem_set htW1 _, rfl⟩) fun x => ?_
            have h1 := (Cg.refl (p := p) e).mul (mulL_vec (p := p) (f := u) (l := W[k]) x)
            have h2 := hue.mul (Cg.refl (p := p) (vec W[k] x))
            rw [eTT]
            rw [Int.zero_add]
            rw [Int.one_mul] at h2
            refine .trans h2.symm (.trans (.of_eq ?_) h1.symm)
            rw [← Int.mul_assoc, Int.mul_comm u e]
        dsimp only [gName, tSeq]
        refine ⟨_, rfl, wk, _, rfl, .inl (.of hwk11), _, rfl, by omega, by omega, ?_⟩
        rw [show ((z2.length : Nat) : Int).toNat = z2.length from Int.toNat_natCast _]
        refine for_it (walk_range (lo := 0) (n := z2.length)) (fun i σ H' => ∃ x5 x8 zs' W', σ = [some (.int p), some (.ref a), some (.ref wk), some (.int ((pl.length : Nat) : Int)), some (.int (0 + (c : Int))), x5, some (.ref D), some (.int u), x8, x9, x10, x11] ∧ Same H H' ∧ H' wk = some (.lst zs') ∧ Paired (rLI H') zs' W' ∧
          W'.length = W.length ∧ (∀ r ∈ W', isRow r p wd) ∧ W'.getD pl.length [] = TT ∧ Same2 p (inRows W') (inRows W1) ∧ (∀ j x, x < c → (W'.getD j []).getD x 0 = (W.getD j []).getD x 0) ∧ ∀ j, j < i → j ≠ pl.length → (W'.getD j []).getD c 0 = 0)
          ⟨x5, x8, z2, _, rfl, t11, hwk11, hp11, by rw [List.length_set]; exact lW1, ?_, by rw [gd2, if_pos rfl], sp2, ?_, fun j h => absurd h (Nat.not_lt_zero j)⟩ (fun _ _ _ _ _ => trivial) ?_ ?_
        · intro r hr
          rcases List.mem_or_eq_of_mem_set hr with h | h
          · exact row1 r h
          · rw [h]; exact irTT
        · intro j x hx
          rw [gd2]
          split
          · rename_i h
            rw [h, hT0 x hx, L.rest _ x (Nat.le_refl _) hx]
          · exact un1 j x hx
        · rintro r x σ H12 H13 hr ⟨y5, y8, zs', W', rfl, sA, hA, pA, lA, rowA, tA, spA, unA, offA⟩ ⟨rfl, rfl⟩
          have lzA := paired_len pA
          have hrW : r < W'.length := by omega
          have htA : pl.length < W'.length := by omega
          have irr := rowA _ (List.getElem_mem hrW)
          have lrr : W'[r].length = wd := by have := irr.1; omega
          have grr : W'.getD r [] = W'[r] := getD_at (List.getElem?_eq_getElem hrW)
          have hc : W'[r][c]? = some (W'[r][c]'(by omega)) := List.getElem?_eq_getElem (by omega)
          have gc : (W'.getD r []).getD c 0 = W'[r][c]'(by omega) := by rw [grr]; exact getD_at hc
          have bc := irr.2 _ (List.mem_of_getElem? hc)
          generalize W'[r][c]'(by omega) = m at hc gc bc
          obtain ⟨v, hv, b, rfl, hb⟩ := paired_get2 pA (List.getElem?_eq_getElem hrW)
          obtain ⟨v2, hv2, b2, rfl, hb2⟩ := paired_get2 pA (List.getElem?_eq_getElem htA)
          have eTA : W'[pl.length] = TT := by rw [← tA]; exact (getD_at (List.getElem?_eq_getElem htA)).symm
          rw [eTA] at hb2
          refine ⟨_, rfl, _, rfl, wk, _, _, _, rfl, rfl, .of hA, at_of (j := r) (by omega) hv, _, rfl, b, _, _, _, rfl, rfl, .of hb, at_of (j := c) (by omega) (int_at hc), ?_⟩
          dsimp only [gName, tSeq]
          have skip : r = pl.length ∨ m = 0 → ∀ j, j < r + 1 → j ≠ pl.length → (W'.getD j []).getD c 0 = 0 := fun h j hj hne => by
            by_cases e : j = r
            · subst e
              rcases h with h | h
              · exact absurd h hne
              · rw [gc, h]
            · exact offA j (by omega) hne
          refine ⟨_, rfl, _, rfl, rfl, _, rfl, ?_⟩
          by_cases hrt : r = pl.length
          · rw [decide_eq_true (by subst hrt; rw [Int.zero_add])]
            refine iteF (iteF ⟨_, _, zs', W', rfl, sA, hA, pA, lA, rowA, tA, spA, unA, skip (.inl hrt)⟩)
          · rw [decide_eq_false (fun z => hrt (by have := V.int.inj z; omega))]
            refine iteT ⟨_, rfl, rfl, _, rfl, ?_⟩
            by_cases hm : m = 0
            · rw [decide_eq_true (by rw [hm])]
              refine iteF ⟨_, _, zs', W', rfl, sA, hA, pA, lA, rowA, tA, spA, unA, skip (.inr hm)⟩
            · rw [decide_eq_false (fun z => hm (V.int.inj z))]
              refine iteT ?_
              refine ⟨_, rfl, _, rfl, wk, _, _, _, rfl, rfl, .of hA, at_of (j := r) (by omega) hv, _, rfl, _, rfl, wk, _, _, _, rfl, rfl, .of hA, at_of (j := pl.length) rfl hv2, b, b2, _, _, rfl, .inl ⟨.of hb, .of hb2, fun D2 hD2 => ?_⟩⟩
              have lTT : TT.length = wd := by have := irTT.1; omega
              have dk2 : D2 ≠ wk := fun z => by rw [z, hA] at hD2; cases hD2
              refine lc_fm (walk_zip (n := W'[r].length) (by rw [List.length_map, List.length_map]; omega)) rInt (fun i => some ((W'[r].getD i 0 - m * TT.getD i 0) % p)) hD2 (fun H' s' => ⟨.of (s' _ _ hb), .of (s' _ _ hb2)⟩) ?_ ?_
              · rintro i x H14 H15 hi pv ⟨tz, u1, u2, rfl, nz, rfl, e1, e2⟩
                obtain ⟨y1, hy1, rfl⟩ := at_int e1
                obtain ⟨y2, hy2, rfl⟩ := at_int e2
                have h1 := irr.2 y1 (List.mem_of_getElem? hy1)
                have h2 := irTT.2 y2 (List.mem_of_getElem? hy2)
                refine ⟨tz, _, rfl, .of upd_same, rfl, _, _, rfl, _, _, rfl, rfl, rfl, ?_⟩
                refine ⟨_, rfl, _, rfl, _, rfl, _, _, rfl, rfl, .inl ⟨by omega, by omega⟩, _, _, rfl, rfl, .inl ⟨_, rfl, _, rfl, _, _, rfl, rfl, p0, ?_⟩⟩
                exact fm_keep mono_int pv hD2 (by omega) (same_new nz) rfl (by rw [getD_at hy1, getD_at hy2]; rfl)
              intro H14 ys s14 hD4 hp4
              rw [fm_all] at hp4
              have := paired_int hp4
              subst this
              have hA14 := s14 _ _ hA
              refine ⟨_, rfl, _, rfl, wk, _, _, r, rfl, rfl, hA14, by rw [Int.zero_add]; exact ixN_nat (by omega), ?_⟩
              have eL : ((List.range W'[r].length).map fun i => (W'[r].getD i 0 - m * TT.getD i 0) % p) = lessL p W'[r] TT m := rfl
              rw [eL] at hD4
              have lle : (lessL p W'[r] TT m).length = W'[r].length := lessL_len _ _ _ _
              have gL : ∀ x, x < wd → (lessL p W'[r] TT m).getD x 0 = (W'[r].getD x 0 - m * TT.getD x 0) % p := fun x hx => vec_map (f := fun i => (W'[r].getD i 0 - m * TT.getD i 0) % p) (n := W'[r].length) (by omega)
              have gdA : ∀ j, (W'.set r (lessL p W'[r] TT m)).getD j [] = if j = r then lessL p W'[r] TT m else W'.getD j [] := fun j => getD_set _ hrW _ _
              refine ⟨_, _, zs'.set r (.ref D2), W'.set r (lessL p W'[r] TT m), rfl, same_own (sA.trans s14) hwk, upd_same, ?_, by rw [List.length_set]; exact lA, ?_, ?_, ?_, ?_, ?_⟩
              · refine paired_set _ (li_upd hA14 (li_same s14 pA)) ⟨D2, rfl, ?_⟩
                rw [upd_ne dk2]
                exact hD4
              · intro l hl
                rcases List.mem_or_eq_of_mem_set hl with h | h
                · exact rowA l h
                · rw [h]
                  exact ⟨by rw [lle]; omega, lessL_in p0 _ _ _⟩
              · rw [gdA, if_neg (fun z => hrt z.symm)]
                exact tA
              · refine same_trans (same_set hrW ?_ ?_) spA
                · refine .plus (-m) (.row ⟨W'[r], List.getElem_mem hrW, rfl⟩) (.row ⟨TT, by rw [← eTA]; exact List.getElem_mem htA, rfl⟩) fun x => ?_
                  exact (lessL_vec (by omega) m x).trans (.of_eq (by rw [Int.neg_mul]; omega))
                · rw [grr]
                  have hmT : TT ∈ W'.set r (lessL p W'[r] TT m) := by
                    have h : (W'.set r (lessL p W'[r] TT m))[pl.length]? = some TT := by rw [List.getElem?_set, if_neg hrt, List.getElem?_eq_getElem htA, eTA]
                    exact List.mem_of_getElem? h
                  refine .plus m (.row ⟨_, List.mem_set hrW _, rfl⟩) (.row ⟨TT, hmT, rfl⟩) fun x => ?_
                  exact ((Cg.add (lessL_vec (p := p) (l := W'[r]) (r := TT) (by omega) m x) (.refl (m * vec TT x))).trans (.of_eq (by omega))).symm
              · intro j x hx
                rw [gdA]
                split
                · rename_i h
                  have hxr : W'[r][x]? = some (W'[r][x]'(by omega)) := List.getElem?_eq_getElem (by omega)
                  have hb := irr.2 _ (List.mem_of_getElem? hxr)
                  have hu := unA r x hx
                  rw [grr, getD_at hxr] at hu
                  rw [gL x (by omega), hT0 x hx, Int.mul_zero, Int.sub_zero, getD_at hxr, h, ← hu]
                  exact Int.emod_eq_of_lt hb.1 hb.2
                · exact unA j x hx
              · intro j hj hne
                rw [gdA]
                split
                · rename_i h
                  rw [gL c (by omega), hTc, ← grr, gc, Int.mul_one, Int.sub_self]
                  rfl
                · rename_i h
                  exact offA j (by omega) hne
        · rintro σ H12 ⟨y5, y8, zs', W', rfl, sA, hA, pA, lA, rowA, tA, spA, unA, offA⟩
          refine ⟨_, rfl, _, _, rfl, rfl, some (.int (0 + (c : Int))), y5, some (.ref D), some (.int u), y8, x9, x10, x11, pl ++ [c], W', zs', ?_, sA, hA, pA, L.some rowA lA (same_trans spA sp1) unA (by rw [tA]; exact hTc) fun i hi => ?_⟩
          · rw [List.length_append, List.length_singleton]
            rfl
          · by_cases h : i < W'.length
            · exact offA i (by omega) hi
            · rw [List.getD_eq_getElem?_getD (l := W'), List.getElem?_eq_none (by omega)]
              rfl
    · rintro σ H4 ⟨x4, x5, x6, x7, x8, x9, x10, x11, pl, W, zs, rfl, s4, hwk4, hp4, L⟩
      rw [Int.toNat_natCast] at L
      have L2 : LG p wd rows pl wd W := by
        split at L
        · rename_i h
          subst h
          exact L.widen
        · exact L
      have hL := LG.done p2 L2
      have lzs := paired_len hp4
      have hlW := L.len
      have hle := L.le
      refine ⟨_, rfl, _, rfl, (pl.length : Int), rfl, wk, zs, rfl, .of hwk4, fun la nla => ?_⟩
      rw [cutV_upto]
      have s5 := same_new (o := .lst (zs.take pl.length)) nla
      have hp5 := paired_take pl.length (li_same s5 hp4)
      refine ⟨la, rfl, ⟨_, .of upd_same⟩, fun D hD => ?_⟩
      refine lc_fm (walk_list (xs := zs.take pl.length)) rRow (fun i => (W.take pl.length)[i]?.bind fun r => some r) hD (fun H' s' => .of (s' _ _ upd_same)) ?_ ?_
      · rintro i x H6 H7 hi pv ⟨rfl, hx⟩
        obtain ⟨l, hl, b, rfl, hb⟩ := paired_get (li_same pv.1 hp5) hx
        rw [List.length_take] at hi
        refine ⟨rfl, _, rfl, b, _, rfl, .inl ⟨.of hb, fun t nt => ?_⟩⟩
        exact fm_keep mono_row pv hD (by omega) (same_new nt) (by rw [hl]; rfl) ⟨t, rfl, upd_same⟩
      · intro H6 ys6 s6 hD6 hp6
        rw [show (zs.take pl.length).length = (W.take pl.length).length by rw [List.length_take, List.length_take, lzs], fm_some, List.map_id'] at hp6
        refine ⟨D, _, rfl, .inl ⟨.of hD6, fun t nt => ?_⟩⟩
        have s7 := same_new (o := .tup ys6) nt
        exact q _ (.ref t) (W.take pl.length) (((s4.trans s5).trans s6).trans s7) ⟨t, ys6, rfl, upd_same, paired_mono mono_row s7.keep hp6⟩ hL
def spLLad : Sp := fun vs H Q _ => ∃ (a : Addr) (p : Int) (wd : Nat) (xs : List V) (rows : List (List Int)), vs = [.int p, .ref a] ∧ H a = some (.lst xs) ∧ Paired (rLI H) xs rows ∧ rows.length ≤ 400 ∧ Prm p ∧ p ≤ 1000000 ∧ wd ≤ 200 ∧ (∀ r ∈ rows, isRow r p wd) ∧
  ∀ H' v lad, Same H H' → rTup rRow H' v lad → IsLad p wd rows lad → Q v H'
theorem ok_llad (T : Tx K mg cT cS) {f : Addr} {fd : FuncData} (d : D K mg "_law_ladder" s_law_ladder ["p", "rows"] f fd) : FnOk P w K mg base CX0 2 f fd ["p", "rows"] spLLad :=
  (ok_lladT T d).imp fun vs H Q E ⟨a, p, wd, xs, rows, e, h1, h2, q⟩ => ⟨a, p, wd, xs, rows, e, h1, Paired.mapP h2 fun _ _ ⟨b, e, h⟩ => ⟨b, e, .inl h⟩, q⟩
end
end S4

namespace S4
open PySem L2 TT MM
/-! ### the law's own parts -/
theorem hu1 {k : Nat} {A : Around} (r : Room k A) : A.units + 1 < cLine := by have := r.un; omega
def kvsP (p : Int) (tv uv rv : V) : List (Key × V) := [(.inr "p", .int p), (.inr "ties", tv), (.inr "unknowns", uv), (.inr "rules", rv)]
theorem valV_is {k : Key} {v : V} {l : List (Key × V)} : valV ((k, v) :: l) k = some v := by
  unfold valV
  rw [List.find?_cons_of_pos (by exact decide_eq_true rfl)]
  rfl
theorem valV_no {k k' : Key} {v : V} {l : List (Key × V)} (h : k ≠ k') : valV ((k, v) :: l) k' = valV l k' := by
  unfold valV
  rw [List.find?_cons_of_neg (by exact fun z => h (of_decide_eq_true z))]
section
variable {p : Int} {tv uv rv : V}
theorem kvsP_p : valV (kvsP p tv uv rv) (.inr "p") = some (.int p) := valV_is
theorem kvsP_ties : valV (kvsP p tv uv rv) (.inr "ties") = some tv := (valV_no (by decide +kernel)).trans valV_is
theorem kvsP_unk : valV (kvsP p tv uv rv) (.inr "unknowns") = some uv := (valV_no (by decide +kernel)).trans ((valV_no (by decide +kernel)).trans valV_is)
theorem kvsP_rules : valV (kvsP p tv uv rv) (.inr "rules") = some rv := (valV_no (by decide +kernel)).trans ((valV_no (by decide +kernel)).trans ((valV_no (by decide +kernel)).trans valV_is))
end
structure PDat (H : Hp) (a : Addr) (S : RD) (tv uv rv : V) : Prop where
  d : H a = some (.dK (kvsP S.p tv uv rv))
  t : rTup rPI H tv S.ties
  u : rRow H uv S.unk
  r : rRls H rv S.rules
section
variable {H H' : Hp} {a g : Addr} {S : RD} {tv uv rv : V}
theorem PDat.same (x : PDat H a S tv uv rv) (s : Same H H') : PDat H' a S tv uv rv := ⟨s _ _ x.d, mono_tup mono_pi _ _ _ _ s.keep x.t, mono_row _ _ _ _ s.keep x.u, mono_rls _ _ _ _ s.keep x.r⟩
theorem PDat.gp (x : PDat H a S tv uv rv) : DGet H a (.str "p") (some (.int S.p)) := by rw [← kvsP_p (tv := tv) (uv := uv) (rv := rv)]; exact DGet.k (k := .inr "p") x.d
theorem PDat.gt (x : PDat H a S tv uv rv) : DGet H a (.str "ties") (some tv) := by rw [← kvsP_ties (p := S.p) (tv := tv) (uv := uv) (rv := rv)]; exact DGet.k (k := .inr "ties") x.d
theorem PDat.gu (x : PDat H a S tv uv rv) : DGet H a (.str "unknowns") (some uv) := by rw [← kvsP_unk (p := S.p) (tv := tv) (uv := uv) (rv := rv)]; exact DGet.k (k := .inr "unknowns") x.d
theorem PDat.gr (x : PDat H a S tv uv rv) : DGet H a (.str "rules") (some rv) := by rw [← kvsP_rules (p := S.p) (tv := tv) (uv := uv) (rv := rv)]; exact DGet.k (k := .inr "rules") x.d
end
def rEv : Rp (Nat × Rule) := fun H v z => ∃ t x, v = .ref t ∧ H t = some (.tup [.int (z.1 : Int), x, .int z.2.2]) ∧ rRow H x z.2.1
theorem mono_ev : Mono rEv := fun _ _ _ _ k ⟨t, x, e, h, r⟩ => ⟨t, x, e, k.tup h, mono_row _ _ _ _ k r⟩
def everyL (rules : List (List Rule)) : List (Nat × Rule) := (List.range rules.length).flatMap fun i => (rules.getD i []).map fun r => (i, r)
section
variable {P : Program} {w : World} {K : PySem.W.Frag} {mg : Str → Option Value} {base : Heap} {cT cS : Addr}
def spLEvery : Sp := fun vs H Q _ => ∃ (a : Addr) (tv uv rv : V) (S : RD), vs = [.ref a] ∧ PDat H a S tv uv rv ∧ S.rules.length ≤ 24 ∧ (∀ own ∈ S.rules, own.length ≤ 8) ∧ ∀ H' r xs, Same H H' → H' r = some (.lst xs) → Paired (rEv H') xs (everyL S.rules) → Q (.ref r) H'
theorem ok_levery (T : Tx K mg cT cS) {f : Addr} {fd : FuncData} (d : D K mg "_law_every" s_law_every ["parts"] f fd) : FnOk P w K mg base CX0 1 f fd ["parts"] spLEvery := by
  refine d.F.ok sc_law_every (fun vs H Q E h => ?_) (fun cdv A outer s H vs Q E hr h => ?_)
  · obtain ⟨a, tv, uv, rv, S, rfl, _⟩ := h
    rfl
  · obtain ⟨a, tv, uv, rv, S, rfl, hP, hn, h8, q⟩ := h
    refine ⟨_, pss_cons (ps_set (i := 1) sc_law_every.nd rfl (.inl rfl) (pe_lst pa_nil))
      (pss_cons (ps_for PassesOwn.never rfl (pi_range1 rfl T.b_range (pa_cons (pe_callB call_len_seq (by rfl) T.b_len PySem.boot_len (pa_cons (pe_dget (hu1 hr) (pv 0) pe_str (fun _ _ => rfl)) pa_nil)) pa_nil)) (pg_name (i := 2) sc_law_every.nd rfl (.inr rfl))
        (pss_one (ps_expr (pe_bm PySem.F.plainAttrs_list PySem.F.slot_list_extend PySem.F.type_list_extend mt_extend (pv 1) (pa_cons (pe_lc (own := [("row", 3), ("right", 4)]) (g := (gTup K 2 (gCons (gName 3) (gCons (gName 4) gNil)))) (tt := tYes) rfl sc_law_every.nd (pi_tup (pe_ix ix_tup (pe_dget (hu1 hr) (pv 0) pe_str (fun _ _ => rfl)) (pv 2) (fun _ _ => rfl))) (blkOk_by (N := N_law_every) (sc := defScope s_law_every) (by decide +kernel)) (fun _ _ _ _ _ => (pgT rfl rfl (pgs_cons (pg_name (i := 3) sc_law_every.nd rfl (Or.inl rfl)) (pgs_cons (pg_name (i := 4) sc_law_every.nd rfl (Or.inl rfl)) pgs_nil)))) (fun _ _ _ _ _ => pts_nil)
            (fun _ _ _ _ _ => (pe_tup (pa_cons (pv 2) (pa_cons (pv 3) (pa_cons (pv 4) pa_nil)))))) pa_nil)))))
      (pss_one (ps_ret (pv 1)))), ?_⟩
    obtain ⟨tr, xs, rfl, htr, hxs⟩ := id hP.r
    have hlr := paired_len hxs
    refine ⟨by show 0 ≤ sizeLine; decide, fun r nr => ?_⟩
    have s1 := same_new (o := .lst []) nr
    dsimp only [gName, tSeq]
    refine ⟨_, rfl, a, _, rfl, (hP.same s1).gr, tr, xs, rfl, .inr (.of (s1 _ _ htr)), _, rfl, by omega, by omega, ?_⟩
    rw [show ((xs.length : Nat) : Int).toNat = xs.length from Int.toNat_natCast _]
    refine for_it (walk_range (lo := 0) (n := xs.length)) (fun i σ H' => ∃ x2 ys, σ = [some (.ref a), some (.ref r), x2, none, none] ∧ Same H H' ∧ H' r = some (.lst ys) ∧ Paired (rEv H') ys ((List.range i).flatMap fun i => (S.rules.getD i []).map fun r => (i, r)))
      ⟨none, [], rfl, s1, upd_same, .nil⟩ (fun _ _ _ _ _ => trivial) ?_ ?_
    · rintro i x σ H2 H3 hi ⟨x2, ys, rfl, s2, hr2, hp2⟩ ⟨rfl, rfl⟩
      have hir : i < S.rules.length := by omega
      have hrl : S.rules[i]? = some (S.rules[i]'hir) := List.getElem?_eq_getElem hir
      obtain ⟨v, hv, to, ws, rfl, hto, hws⟩ := paired_get2 (paired_mono mono_own s2.keep hxs) hrl
      have hl8 := h8 _ (List.getElem_mem hir)
      have hwl := paired_len hws
      have hyl := paired_len hp2
      have hfl := flat_lenR (F := fun i => (S.rules.getD i []).map fun r => (i, r)) (i := i) (b := 8) fun j hj => by
        rw [List.length_map, getD_at (List.getElem?_eq_getElem (show j < S.rules.length by omega))]
        exact h8 _ (List.getElem_mem _)
      refine ⟨_, rfl, .inl ⟨rfl, _, .of hr2⟩, ?_⟩
      refine ⟨_, rfl, a, _, rfl, (hP.same s2).gr, _, rfl, tr, _, _, _, rfl, rfl, .of (s2 _ _ htr), at_of (j := i) (by omega) hv, to, rfl, ⟨_, .of hto⟩, fun D hD => ?_⟩
      have rd : r ≠ D := fun z => by rw [z, hD] at hr2; cases hr2
      refine lc_fm (walk_tup (xs := ws)) rEv (fun j => (S.rules[i]'hir)[j]?.bind fun r => some (i, r)) hD (fun H' s' => .of (s' _ _ hto)) ?_ ?_
      · rintro j x H4 H5 hj pv ⟨rfl, hx⟩
        obtain ⟨rl, hrl2, t2, x2, rfl, ht2, hx2⟩ := paired_get (paired_mono mono_rule pv.1.keep hws) hx
        refine ⟨t2, _, rfl, .of ht2, rfl, _, _, rfl, _, _, rfl, rfl, rfl, _, rfl, _, rfl, _, rfl, by show 3 ≤ sizeLine; decide, fun np nnp => ?_⟩
        have s5 := same_new (o := .tup [V.int (0 + (i : Int)), x2, .int rl.2]) nnp
        refine fm_keep mono_ev pv hD (by omega) s5 (by rw [hrl2]; rfl) ⟨np, x2, rfl, ?_, mono_row _ _ _ _ s5.keep hx2⟩
        rw [upd_same]
        show some (HO.tup [V.int (0 + (i : Int)), x2, V.int rl.2]) = _
        rw [Int.zero_add]
      · intro H4 zs s4 hD4 hp4
        rw [hwl, fm_some] at hp4
        have hr4 := s4 _ _ hr2
        have lz := paired_len hp4
        rw [List.length_map] at lz
        refine ⟨r, D, ys, zs, rfl, rfl, hr4, hD4, Nat.le_trans (by omega : _ ≤ 1000) (by decide), _, ys ++ zs, rfl, same_own (s2.trans s4) nr, upd_same, ?_⟩
        have k5 : Keep _ _ := keep_lst (o := .lst (ys ++ zs)) hr4
        rw [List.range_succ, List.flatMap_append, List.flatMap_singleton, getD_at hrl]
        exact paired_app (paired_mono mono_ev (s4.keep.trans k5) hp2) (paired_mono mono_ev k5 hp4)
    · rintro σ H2 ⟨x2, ys, rfl, s2, hr2, hp2⟩
      refine ⟨_, rfl, q _ r ys s2 hr2 ?_⟩
      unfold everyL
      rw [← hlr]
      exact hp2
def spLAll : Sp := fun vs H Q _ => ∃ (a : Addr) (tv uv rv : V) (S : RD) (post : Int) (n : Nat), vs = [.ref a, .int post] ∧ PDat H a S tv uv rv ∧ TiesOk S.ties n ∧ CountsOk S.unk n ∧ 0 ≤ post ∧ post < (n : Int) ∧
  ∀ H' r (l : List Int), Same H H' → H r = none → H' r = some (.lst (l.map V.int)) → l.length ≤ 1500 → (∀ x ∈ l, nearU S.ties S.unk post x) → Q (.ref r) H'
theorem ok_lall (T : Tx K mg cT cS) {f : Addr} {fd : FuncData} (d : D K mg "_law_allowed" s_law_allowed ["parts", "post"] f fd) : FnOk P w K mg base CX0 2 f fd ["parts", "post"] spLAll := by
  obtain ⟨f1, fd1, d1⟩ := T.d_law_places
  have G1 := ok_lpl (P := P) (w := w) (base := base) T d1
  obtain ⟨f2, fd2, d2⟩ := T.d_law_near
  have G2 := ok_lnear (P := P) (w := w) (base := base) T d2
  refine d.F.ok sc_law_allowed (fun vs H Q E h => ?_) (fun cdv A outer s H vs Q E hr h => ?_)
  · obtain ⟨a, tv, uv, rv, S, post, n, rfl, _⟩ := h
    rfl
  · obtain ⟨a, tv, uv, rv, S, post, n, rfl, hP, ok, oh, h0, h1, q⟩ := h
    refine ⟨_, pss_cons (ps_set (i := 2) sc_law_allowed.nd rfl (.inl rfl) (pe_call G1 (hr.mono (by decide)) rfl d1.m d1.F.kp d1.b .nil pass0 (pa_cons (pe_dget (hu1 hr) (pv 0) pe_str (fun _ _ => rfl)) (pa_cons (pv 1) pa_nil))))
      (pss_cons (ps_for PassesOwn.never rfl (pi_list (pe_call G2 (hr.mono (by decide)) rfl d2.m d2.F.kp d2.b .nil pass0 (pa_cons (pe_dget (hu1 hr) (pv 0) pe_str (fun _ _ => rfl)) (pa_cons (pv 1) pa_nil)))) (pg_name (i := 3) sc_law_allowed.nd rfl (.inl rfl))
        (pss_one (ps_set (i := 2) sc_law_allowed.nd rfl (.inl rfl) (pe_op op_cat (pv 2) (pe_call G1 (hr.mono (by decide)) rfl d1.m d1.F.kp d1.b .nil pass0 (pa_cons (pe_dget (hu1 hr) (pv 0) pe_str (fun _ _ => rfl)) (pa_cons (pv 3) pa_nil)))))))
      (pss_one (ps_ret (pv 2)))), ?_⟩
    have hn := ok.len
    have hn24 := ok.n24
    refine ⟨_, rfl, a, _, rfl, hP.gu, _, rfl, uv, S.unk, post, n, rfl, hP.u, oh, hn24, h0, h1, fun H2 r s2 nr hr2 => ?_⟩
    dsimp only [gName, tSeq]
    refine ⟨_, rfl, a, _, rfl, (hP.same s2).gt, _, rfl, tv, S.ties, post, rfl, (hP.same s2).t, by omega, fun z hz => by have := (ok.b0 z hz).2.1; omega, fun H3 p ns s3 np hp3 hperm hup => ⟨p, rfl, ⟨_, .of hp3⟩, ?_⟩⟩
    have nbl : (nb S.ties post).length ≤ S.ties.length := List.length_filterMap_le _ _
    have nsl := hperm.length_eq
    refine for_it (walk_list (xs := ns.map V.int)) (fun i σ H' => ∃ x3 r, ∃ l : List Int, σ = [some (.ref a), some (.int post), some (.ref r), x3] ∧ Same H H' ∧ Same H3 H' ∧ H r = none ∧ H' r = some (.lst (l.map V.int)) ∧ l.length ≤ 60 + 60 * i ∧ ∀ x ∈ l, nearU S.ties S.unk post x)
      ⟨none, r, _, rfl, s2.trans s3, .refl _, nr, s3 _ _ hr2, heldL_len oh post, fun x hx => .inl hx⟩ (fun i σ H' _ h => by obtain ⟨_, _, _, _, _, s, _⟩ := h; exact .of (s _ _ hp3)) ?_ ?_
    · rintro i x σ H4 H5 hi ⟨x3, r, l, rfl, s4, s5, nr4, hr4, hl, hin⟩ ⟨rfl, hx⟩
      obtain ⟨k, hk, rfl⟩ := at_int hx
      rw [List.length_map] at hi
      have hkn := hperm.mem_iff.mp (List.mem_of_getElem? hk)
      have hkb : 0 ≤ k ∧ k < (n : Int) := by
        rcases nb_mem.mp hkn with h | h
        · have := ok.b0 _ h; simp only at this; omega
        · have := ok.b0 _ h; simp only at this; omega
      refine ⟨_, rfl, _, rfl, a, _, rfl, (hP.same s4).gu, _, rfl, uv, S.unk, k, n, rfl, (hP.same s4).u, oh, hn24, hkb.1, hkb.2, fun H6 r2 s6 nr2 hr6 => ?_⟩
      have l60 := heldL_len oh k
      refine ⟨r, r2, _, _, rfl, rfl, s6 _ _ hr4, hr6, Nat.le_trans (by rw [List.length_map, List.length_map]; omega : _ ≤ 3000) (by decide), fun r3 nr3 => ?_⟩
      have s7 := same_new (o := .lst (l.map V.int ++ (heldL S.unk k).map V.int)) nr3
      refine ⟨_, r3, l ++ heldL S.unk k, rfl, (s4.trans s6).trans s7, (s5.trans s6).trans s7, (s4.trans s6).free nr3, by rw [upd_same, List.map_append], by rw [List.length_append]; omega, fun y hy => ?_⟩
      rcases List.mem_append.mp hy with h | h
      · exact hin y h
      · exact .inr ⟨k, hkn, h⟩
    · rintro σ H4 ⟨x3, r, l, rfl, s4, s5, nr4, hr4, hl, hin⟩
      rw [List.length_map] at hl
      exact ⟨_, rfl, q _ r l s4 nr4 hr4 (by omega) hin⟩
def spLMade (cT : Addr) (mg : Str → Option Value) : Sp := fun vs H Q _ => ∃ (a : Addr) (tv uv rv : V) (S : RD) (n : Nat), vs = [.ref a] ∧ PDat H a S tv uv rv ∧ RulesOk S n ∧ ∀ H' v', Same H H' → rRO cT mg H' v' S → Q v' H'
theorem ok_lmade (T : Tx K mg cT cS) {f : Addr} {fd : FuncData} (d : D K mg "_law_made" s_law_made ["parts"] f fd) : FnOk P w K mg base CX0 8 f fd ["parts"] (spLMade cT mg) := by
  obtain ⟨f1, fd1, k1⟩ := T.k_Tree
  have G1 := ok_Tree (P := P) (w := w) (base := base) T k1
  obtain ⟨f2, fd2, k2⟩ := T.k_Rules
  have G2 := ok_Rules (P := P) (w := w) (base := base) T k2
  refine d.F.ok sc_law_made (fun vs H Q E h => ?_) (fun cdv A outer s H vs Q E hr h => ?_)
  · obtain ⟨a, tv, uv, rv, S, n, rfl, _⟩ := h
    rfl
  · obtain ⟨a, tv, uv, rv, S, n, rfl, hP, ok, q⟩ := h
    refine ⟨_, pss_one (ps_ret (pe_make k2.mkf G2 (hr.mono (by decide)) rfl k2.m k2.b .nil pass0 (pa_cons (pe_dget (hu1 hr) (pv 0) pe_str (fun _ _ => rfl)) (pa_cons (pe_make k1.mkf G1 (hr.mono (by decide)) rfl k1.m k1.b .nil pass0 (pa_cons (pe_dget (hu1 hr) (pv 0) pe_str (fun _ _ => rfl)) pa_nil)) (pa_cons (pe_dget (hu1 hr) (pv 0) pe_str (fun _ _ => rfl)) (pa_cons (pe_dget (hu1 hr) (pv 0) pe_str (fun _ _ => rfl)) pa_nil)))))), ?_⟩
    refine ⟨_, rfl, a, _, rfl, hP.gp, _, rfl, a, _, rfl, hP.gt, fun y dy ny ndy ney => ?_⟩
    have s1 := same_make (C := cT) ny ndy ney
    refine ⟨y, dy, tv, S.ties, n, rfl, upd_same, (hP.same s1).t, ok.tree.ok, fun H2 k2 hT2 => ⟨rfl, ?_⟩⟩
    have s2 : Same _ H2 := fun b o e => k2 b o (fun z => by subst z; rw [ny] at e; cases e) (s1 _ _ e)
    refine ⟨_, rfl, a, _, rfl, (hP.same s2).gu, _, rfl, a, _, rfl, (hP.same s2).gr, fun x dx nx ndx nex => ?_⟩
    have s3 := same_make (C := cR mg) nx ndx nex
    have s4 := s2.trans s3
    have yx : V.ref y ≠ V.ref x := fun e => by
      obtain ⟨_, _, _, _, e2, h2, _⟩ := hT2
      cases e2
      rw [V.ref.inj e, nx] at h2
      cases h2
    refine ⟨x, dx, .ref y, uv, rv, S, n, rfl, upd_same, mono_tree cT _ _ _ _ s3.keep hT2, yx, (hP.same s4).u, (hP.same s4).r, ok, fun H5 k5 hR5 => ⟨rfl, ?_⟩⟩
    exact q _ _ (fun b o e => k5 b o (fun z => by subst z; rw [s2 _ _ e] at nx; cases nx) (s4 _ _ e)) hR5
end
end S4

namespace S4
open PySem L2 TT MM
/-! ### what is left for the kept places -/
theorem wide_at {K : PySem.W.Frag} {σ : St} {H : Hp} {j : Nat} {wk : Addr} {ys : List V} {rows : List (List Int)} {wd : Nat} {Q : V → Hp → Prop} (h2 : σ[j]? = some (some (.ref wk))) (hw : H wk = some (.lst ys)) (hp : Paired (rLI H) ys rows) (hr : ∀ r ∈ rows, r.length = wd) (q : Q (.int ((if rows = [] then 0 else wd : Nat) : Int)) H) :
    tIf (tTest (tOp (rI0 fun i j => V.bl (decide (j < i))) (tCB (fun xs H Q => ∃ p ys, xs = [.ref p] ∧ (SqL K H p ys ∨ SqT K H p ys) ∧ Q (.int ((ys.length : Nat) : Int)) H) (tCons (tVar j) tNil)) (tC (.int 0))))
      (tCB (fun xs H Q => ∃ p ys, xs = [.ref p] ∧ (SqL K H p ys ∨ SqT K H p ys) ∧ Q (.int ((ys.length : Nat) : Int)) H) (tCons (tOp (rIxL K) (tVar j) (tC (.int 0))) tNil)) (tC (.int 0)) σ H Q := by
  refine ⟨_, h2, wk, ys, rfl, .inl (.of hw), _, _, rfl, rfl, _, rfl, ?_⟩
  cases hp with
  | nil =>
    rw [if_pos rfl] at q
    rw [decide_eq_false (by show ¬ (0 : Int) < (([] : List V).length : Int); decide)]
    exact iteF q
  | cons r t =>
    obtain ⟨b, rfl, hb⟩ := r
    rw [if_neg (by simp)] at q
    rw [decide_eq_true (by rw [List.length_cons]; omega)]
    refine iteT ⟨_, h2, wk, _, _, _, rfl, rfl, .of hw, at_of (j := 0) rfl rfl, b, _, rfl, .inl (.of hb), ?_⟩
    rw [List.length_map, hr _ (by simp)]
    exact q
theorem ladL_nil {p : Int} {wd : Nat} (p2 : 2 ≤ p) : ladL p wd [] = [] := by
  have L : LG p wd [] [] 0 [] := LG.start fun _ h => (nomatch h)
  exact (ladL_eq p2 (LG.done p2 L.widen)).symm
def otU (wd : Nat) (kept : List Int) (rows : List (List Int)) : List Int := if rows = [] then [] else leftU wd kept
noncomputable def restU (p : Int) (wd : Nat) (kept : List Int) (rows : List (List Int)) : List (List Int) := pureU (leftU wd kept).length (ladL p (leftU wd kept ++ kept).length (rows.map fun r => cutL r (leftU wd kept ++ kept)))
theorem cut_isRow {r l : List Int} {p : Int} {wd : Nat} (h : isRow r p wd) (hin : ∀ i ∈ l, 0 ≤ i ∧ i < (wd : Int)) : isRow (cutL r l) p l.length := by
  have hl := h.1
  refine ⟨by unfold cutL; rw [List.length_map], fun v hv => ?_⟩
  unfold cutL at hv
  obtain ⟨i, hi, rfl⟩ := List.mem_map.mp hv
  have hb := hin i hi
  have hx : r[i.toNat]? = some (r[i.toNat]'(by omega)) := List.getElem?_eq_getElem (by omega)
  rw [getD_at hx]
  exact h.2 _ (List.mem_of_getElem? hx)
def scL : Scope := { kind := .function, names := [(".0", .local), ("row", .cell), ("kept", .cell), ("others", .cell)], isGenerator := false, isCoroutine := false }
section
variable {P : Program} {w : World} {K : PySem.W.Frag} {mg : Str → Option Value} {base : Heap} {cT cS : Addr}
def spLLeft : Sp := fun vs H Q _ => ∃ (a b : Addr) (p : Int) (wd : Nat) (xs : List V) (rows : List (List Int)) (kept : List Int), vs = [.int p, .ref a, .ref b] ∧ H a = some (.lst xs) ∧ Paired (rLI H) xs rows ∧ rows.length ≤ 400 ∧ H b = some (.lst (kept.map V.int)) ∧ Prm p ∧ p ≤ 1000000 ∧ wd ≤ 100 ∧ (∀ r ∈ rows, isRow r p wd) ∧ (∀ x ∈ kept, 0 ≤ x ∧ x < (wd : Int)) ∧ kept.length ≤ 100 ∧
  ∀ H' v, Same H H' → rTup rRow H' v (restU p wd kept rows) → Q v H'
theorem ok_lleft (T : Tx K mg cT cS) {f : Addr} {fd : FuncData} (d : D K mg "_law_left" s_law_left ["p", "rows", "kept"] f fd) : FnOk P w K mg base CX0 3 f fd ["p", "rows", "kept"] spLLeft := by
  obtain ⟨f1, fd1, d1⟩ := T.d_law_ladder
  have G1 := ok_llad (P := P) (w := w) (base := base) T d1
  refine d.F.ok sc_law_left (fun vs H Q E h => ?_) (fun cdv A outer s H vs Q E hr h => ?_)
  · obtain ⟨a, b, p, wd, xs, rows, kept, rfl, _⟩ := h
    rfl
  · obtain ⟨a, b, p, wd, xs, rows, kept, rfl, ha, hp, hl, hb, prm, pm, hwd, hrw, hin, hk, q⟩ := h
    refine ⟨_, pss_cons (ps_set (i := 3) sc_law_left.nd rfl (.inr rfl) (pe_lc (own := [("at", 6)]) (g := (gName 6)) (tt := _) rfl sc_law_left.nd (pi_range1 rfl T.b_range (pa_cons (pe_ifExp (pt_cmpR op_gt (pe_callB call_len_seq (by rfl) T.b_len PySem.boot_len (pa_cons (pv 1) pa_nil)) pe_int (nomark _)) (pe_callB call_len_seq (by rfl) T.b_len PySem.boot_len (pa_cons (pe_ix ix_list (pv 1) pe_int (fun _ _ => rfl)) pa_nil)) pe_int) pa_nil)) (blkOk_by (N := N_law_left) (sc := defScope s_law_left) (by decide +kernel)) (fun _ _ _ _ _ => (pg_name (i := 6) sc_law_left.nd rfl (Or.inl rfl))) (fun _ _ _ _ _ => (pts_one (pt_cmpR (ninS (K := K) rfl) (pv 6) (pv 2) (by rfl))))
            (fun _ _ _ _ _ => (pv 6))))
      (pss_cons (ps_set (i := 4) sc_law_left.nd rfl (.inl rfl) (pe_lst pa_nil))
      (pss_cons (ps_for PassesOwn.never rfl (pi_tup (pe_call G1 (hr.mono (by decide)) rfl d1.m d1.F.kp d1.b .nil pass0 (pa_cons (pv 0) (pa_cons (pe_lc (own := [("row", 7)]) (g := (gName 7)) (tt := tYes) rfl sc_law_left.nd (pi_list (pv 1)) (blkOk_by (N := N_law_left) (sc := defScope s_law_left) (by decide +kernel)) (fun _ _ _ _ _ => (pg_name (i := 7) sc_law_left.nd rfl (Or.inr rfl))) (fun _ _ _ _ _ => pts_nil)
            (fun _ _ _ _ _ => (pe_lc (own := [("at", 6)]) (wi := iList K (tOp rCat (tVar 3) (tVar 2))) (g := (gName 6)) (tt := tYes) rfl sc_law_left.nd (pi_list (pe_op op_cat (pv 3) (pv 2))) (blkOk_by (N := N_law_left) (sc := scL) (own := [("at", 6)]) (by decide +kernel)) (fun _ _ _ _ _ => (pg_name (i := 6) sc_law_left.nd rfl (Or.inl rfl))) (fun _ _ _ _ _ => pts_nil)
            (fun _ _ _ _ _ => (pe_ix (ixL (K := K) rfl) (pv 7) (pv 6) (fun _ _ => rfl)))))) pa_nil)))) (pg_name (i := 5) sc_law_left.nd rfl (.inl rfl))
        (pss_one (ps_if (pt_not (pt_val (pe_callB (cr_anyTI rfl) (by rfl) T.b_any (by decide +kernel) (pa_cons (pe_slice sl_tupA (pv 5) po_none (po_some (pe_callB call_len_seq (by rfl) T.b_len PySem.boot_len (pa_cons (pv 3) pa_nil)))) pa_nil)))) (pss_one (ps_expr (pe_bm PySem.F.plainAttrs_list PySem.F.slot_list_append PySem.F.type_list_append mt_append (pv 4) (pa_cons (pe_slice sl_tupA (pv 5) (po_some (pe_callB call_len_seq (by rfl) T.b_len PySem.boot_len (pa_cons (pv 3) pa_nil))) po_none) pa_nil)))) pss_nil)))
      (pss_one (ps_ret (pe_callTy call_tuple_of (by rfl) T.b_tuple (by decide +kernel) (pa_cons (pv 4) pa_nil)))))), ?_⟩
    have p2 := prm.1
    have hlr := paired_len hp
    have hlen : ∀ r ∈ rows, r.length = wd := fun r h => by have := (hrw r h).1; omega
    refine wide_at (j := 1) (rows := rows) (wd := wd) rfl ha hp hlen ?_
    refine ⟨_, rfl, by split <;> omega, by split <;> omega, fun D hD => ?_⟩
    refine lc_fm (walk_range (lo := 0) (n := ((if rows = [] then 0 else wd : Nat) : Int).toNat)) rInt (fun i => if (!decide (((i : Nat) : Int) ∈ kept)) = true then some ((i : Nat) : Int) else none) hD (fun _ _ => trivial) ?_ ?_
    · rintro i x H2 H3 hi pv ⟨rfl, rfl⟩
      rw [Int.toNat_natCast] at hi
      have hiw : i < 101 := by split at hi <;> omega
      refine ⟨rfl, _, rfl, _, rfl, b, _, rfl, .inl (.of (pv.1 _ _ hb)), rfl, flat_ints _, _, rfl, ?_⟩
      rw [if_pos rfl, inV_ints, show (0 : Int) + (i : Int) = (i : Int) by omega]
      by_cases hk : ((i : Nat) : Int) ∈ kept
      · rw [decide_eq_true hk]
        exact iteF (fm_skip mono_int pv (Same.refl _) (by simp [hk]))
      · rw [decide_eq_false hk]
        exact iteT ⟨_, rfl, fm_keep mono_int pv hD (by omega) (Same.refl _) (by simp [hk]) rfl⟩
    intro H2 ys s2 hD2 hp2
    rw [Int.toNat_natCast, fm_filterI (fun i => !decide (((i : Nat) : Int) ∈ kept))] at hp2
    have := paired_int hp2
    subst this
    have el : ((rng (if rows = [] then 0 else wd)).filter fun x => !decide (((x.toNat : Nat) : Int) ∈ kept)) = otU wd kept rows := by
      unfold otU
      split
      · rfl
      · unfold leftU
        refine List.filter_congr fun x hx => ?_
        have := rng_mem.mp hx
        rw [Int.toNat_of_nonneg this.1]
    rw [el] at hD2
    have oin : ∀ x ∈ otU wd kept rows, 0 ≤ x ∧ x < (wd : Int) := fun x hx => by
      unfold otU at hx
      split at hx
      · cases hx
      · unfold leftU at hx
        exact rng_mem.mp (List.mem_filter.mp hx).1
    have olen : (otU wd kept rows).length ≤ wd := by
      unfold otU
      split
      · exact Nat.zero_le _
      · unfold leftU
        refine Nat.le_trans (List.length_filter_le _ _) ?_
        rw [rng_len]; exact Nat.le_refl _
    have fin : ∀ lad, IsLad p (otU wd kept rows ++ kept).length (rows.map fun r => cutL r (otU wd kept rows ++ kept)) lad → pureU (otU wd kept rows).length lad = restU p wd kept rows := fun lad hL => by
      rw [ladL_eq p2 hL]
      unfold restU
      by_cases h : rows = []
      · subst h
        rw [List.map_nil, List.map_nil, ladL_nil p2, ladL_nil p2]
        rfl
      · have e : otU wd kept rows = leftU wd kept := by unfold otU; rw [if_neg h]
        rw [e]
    generalize otU wd kept rows = O at *
    have hOk : ∀ x ∈ O ++ kept, 0 ≤ x ∧ x < (wd : Int) := fun x hx => by
      rcases List.mem_append.mp hx with h | h
      · exact oin x h
      · exact hin x h
    have hOl : (O ++ kept).length ≤ 200 := by rw [List.length_append]; omega
    refine ⟨by show 0 ≤ sizeLine; decide, fun fa nfa => ?_⟩
    have s3 := same_new (o := .lst []) nfa
    have t3 := s2.trans s3
    have hD3 := s3 _ _ hD2
    refine ⟨_, rfl, _, rfl, a, rfl, ⟨_, .of (t3 _ _ ha)⟩, fun D7 hD7 => ?_⟩
    refine walk_W (walk_list (xs := xs)) _ (fun i H' => Same _ H' ∧ ∃ ys, H' D7 = some (.lst ys) ∧ Paired (rLI H') ys ((rows.take i).map fun r => cutL r (O ++ kept))) ⟨same_new hD7, [], upd_same, .nil⟩ (fun i H' _ h => .of (h.1 _ _ (t3 _ _ ha))) ?_ ?_
    · rintro i x H8 H9 hi ⟨s8, zs, h1, h2⟩ ⟨rfl, hx⟩
      obtain ⟨r, hr, t, rfl, ht⟩ := paired_get (li_same (t3.trans s8) hp) hx
      have hrm := List.mem_of_getElem? hr
      have hrl := hlen r hrm
      refine ⟨rfl, _, rfl, _, rfl, D, b, _, _, rfl, rfl, s8 _ _ hD3, (t3.trans s8) _ _ hb, Nat.le_trans (by rw [List.length_map, List.length_map]; omega : _ ≤ 1000) (by decide), fun pc npc => ⟨pc, rfl, ⟨_, .of upd_same⟩, fun D10 hD10 => ?_⟩⟩
      rw [← List.map_append] at hD10 ⊢
      have s9 := same_new (o := .lst ((O ++ kept).map V.int)) npc
      have hpc : (upd H9 pc (.lst ((O ++ kept).map V.int))) pc = some (.lst ((O ++ kept).map V.int)) := upd_same
      generalize upd H9 pc (.lst ((O ++ kept).map V.int)) = H10 at *
      refine lc_fm (walk_list (xs := (O ++ kept).map V.int)) rInt (fun i => (O ++ kept)[i]?.bind fun x => some (r.getD x.toNat 0)) hD10 (fun H' s' => .of (s' _ _ hpc)) ?_ ?_
      · rintro j y H11 H12 hj pv ⟨rfl, hy⟩
        obtain ⟨k, hk, rfl⟩ := at_int hy
        rw [List.length_map] at hj
        obtain ⟨k0, k1⟩ := hOk k (List.mem_of_getElem? hk)
        have hrk : r[k.toNat]? = some (r[k.toNat]'(by omega)) := List.getElem?_eq_getElem (by omega)
        refine ⟨rfl, _, rfl, _, rfl, t, _, _, _, rfl, rfl, .of (pv.1 _ _ (s9 _ _ ht)), at_of (j := k.toNat) (by omega) (int_at hrk), ?_⟩
        exact fm_keep mono_int pv hD10 (by omega) (Same.refl _) (by rw [hk]; rfl) (by rw [getD_at hrk]; rfl)
      · intro H11 ys11 s11 hD11 hp11
        rw [List.length_map, fm_some] at hp11
        have := paired_int hp11
        subst this
        have s12 := s9.trans s11
        have h13 := s12 _ _ h1
        have lzs := paired_len h2
        rw [List.length_map, List.length_take] at lzs
        have dne : D10 ≠ D7 := fun z => by rw [z, s9 _ _ h1] at hD10; cases hD10
        refine ⟨zs, h13, Nat.lt_of_le_of_lt (by omega : _ ≤ 400) (by decide), same_own (s8.trans s12) hD7, zs ++ [.ref D10], upd_same, ?_⟩
        rw [List.take_succ, hr, List.map_append]
        refine paired_app (li_upd h13 (li_same s12 h2)) (.cons ⟨D10, rfl, ?_⟩ .nil)
        rw [upd_ne dne]
        exact hD11
    rintro H8 ⟨s8, zs, h1, h2⟩
    rw [hlr, List.take_length] at h2
    have t8 := t3.trans s8
    have hrows : ∀ r ∈ rows.map fun r => cutL r (O ++ kept), isRow r p ((O ++ kept).length : Nat) := fun r hr => by
      obtain ⟨y, hy, rfl⟩ := List.mem_map.mp hr
      exact cut_isRow (hrw y hy) hOk
    refine ⟨D7, p, (O ++ kept).length, zs, _, rfl, h1, h2, by rw [List.length_map]; exact hl, prm, pm, hOl, hrows, fun H9 v lad s9 hv hL => ?_⟩
    obtain ⟨tl, ws, rfl, htl, hws⟩ := hv
    have hlw := paired_len hws
    have hll := hL.rows.1
    have t9 := t8.trans s9
    have hfa9 : H9 fa = some (.lst []) := s9 _ _ (s8 _ _ upd_same)
    have hD9 := s9 _ _ (s8 _ _ hD3)
    have hfn : H fa = none := s2.free nfa
    refine ⟨tl, rfl, ⟨_, .of htl⟩, ?_⟩
    refine for_it (walk_tup (xs := ws)) (fun i σ H' => ∃ x5 ys, σ = [some (.int p), some (.ref a), some (.ref b), some (.ref D), some (.ref fa), x5, none, none] ∧ Same H H' ∧ Keep H9 H' ∧ H' D = some (.lst (O.map V.int)) ∧ H' fa = some (.lst ys) ∧ Paired (rRow H') ys (pureU O.length (lad.take i)))
      ⟨none, [], rfl, t9, .refl _, hD9, hfa9, .nil⟩ (fun i σ H' _ h => by obtain ⟨_, _, _, _, k, _⟩ := h; exact .of (k.tup htl)) ?_ ?_
    · rintro i x σ H10 H11 hi ⟨x5, ys, rfl, s10, k10, hD10, hf10, hp10⟩ ⟨rfl, hx⟩
      obtain ⟨row, hrow, t, rfl, ht⟩ := paired_get (paired_mono mono_row k10 hws) hx
      have hyl := paired_len hp10
      have hyb : (pureU O.length (lad.take i)).length ≤ 200 := by
        unfold pureU
        rw [List.length_map]
        refine Nat.le_trans (List.length_filter_le _ _) ?_
        rw [List.length_take]
        omega
      refine ⟨_, rfl, _, rfl, D, _, rfl, .inl (.of hD10), _, rfl, ?_⟩
      rw [List.length_map]
      have step : pureU O.length (lad.take (i + 1)) = pureU O.length (lad.take i) ++ (if (!((row.take O.length).any fun n => n != 0)) = true then [row.drop O.length] else []) := by
        unfold pureU
        rw [List.take_succ, hrow, List.filter_append, List.map_append]
        congr 1
        show (List.filter _ [row]).map _ = _
        rw [List.filter_cons]
        split <;> rfl
      refine slice_upto ht fun H13 p13 s13 h13 => ⟨p13, row.take O.length, rfl, .of (by rw [List.map_take]; exact h13), _, rfl, ?_⟩
      cases hany : (row.take O.length).any fun n => n != 0 with
      | true =>
        refine iteF ⟨_, ys, rfl, s10.trans s13, k10.trans s13.keep, s13 _ _ hD10, s13 _ _ hf10, ?_⟩
        rw [step, hany, if_neg (by simp), List.append_nil]
        exact paired_mono mono_row s13.keep hp10
      | false =>
        refine iteT ⟨_, rfl, .inl ⟨rfl, _, .of (s13 _ _ hf10)⟩, ?_⟩
        refine ⟨_, rfl, _, rfl, D, _, rfl, .inl (.of (s13 _ _ hD10)), _, rfl, ?_⟩
        dsimp only [tNoPart]
        rw [List.length_map]
        refine slice_from (s13 _ _ ht) fun H14 p14 s14 h14 => ?_
        have s15 := s13.trans s14
        have hf15 := s15 _ _ hf10
        have k5 : Keep _ _ := keep_lst (o := .lst (ys ++ [.ref p14])) hf15
        have dne : D ≠ fa := fun z => by rw [z, nfa] at hD2; cases hD2
        refine ⟨fa, ys, _, rfl, rfl, hf15, Nat.lt_of_le_of_lt (by omega : _ ≤ 200) (by decide), _, ys ++ [.ref p14], rfl, same_own (s10.trans s15) hfn, k10.trans (s15.keep.trans k5), by rw [upd_ne dne]; exact s15 _ _ hD10, upd_same, ?_⟩
        rw [step, hany]
        show Paired _ _ (pureU O.length (lad.take i) ++ [row.drop O.length])
        refine paired_app (paired_mono mono_row (s15.keep.trans k5) hp10) (.cons ⟨p14, rfl, ?_⟩ .nil)
        rw [k5.tup h14, List.map_drop]
    · rintro σ H10 ⟨x5, ys, rfl, s10, k10, hD10, hf10, hp10⟩
      rw [hlw, List.take_length, fin lad hL] at hp10
      refine ⟨_, rfl, fa, _, rfl, .inl ⟨.of hf10, fun tq ntq => ?_⟩⟩
      have s11 := same_new (o := .tup ys) ntq
      exact q _ _ (s10.trans s11) ⟨tq, ys, rfl, upd_same, paired_mono mono_row s11.keep hp10⟩
end
end S4

/-! one != other: tuples that hold instances, instances with an own == -/
namespace GQ
open PySem PySem.SeqAt
open AutoSeq1 (wpAny_loadPart')
open MeetsSeq MeetsSeq2 MeetsSeq3 SeqRoads2
section
variable {prog : Program} {w : World} {A : Around} {R : Result → Shared → Prop}
theorem tuple_neG (l b : Addr) (items items2 : Array Value) (n n2 : Nat) (dd dd2 : Option Addr) (sl sl2 : Array (Option Value)) (hsz : items.size = items2.size) (I : Nat → Shared → Prop)
    (turn : ∀ i (h1 : i < items.size) (h2 : i < items2.size) s, I i s → wpAny (model prog w) A.in1 (eqBool items[i] items2[i]) (fun r s' => r = true ∧ I (i + 1) s') (fun e s' => R (.error e) s') s)
    (fin : ∀ s, I items.size s → R (.ok (.ret (.bool false))) s) {s : Shared} (hl1 : s.heap.get? l = some { cls := .type "tuple", dict := dd, data := .seq items n, slots := sl }) (hb1 : s.heap.get? b = some { cls := .type "tuple", dict := dd2, data := .seq items2 n2, slots := sl2 }) (h : I 0 s) :
    wpAny (model prog w) A.in1 (Builtin.«tuple.__ne__» ⟨[.ref l, .ref b], []⟩) (FinOf prog w A R) (fun e s' => R (.error e) s') s := by
  have f2 := AutoSeq1.sub_tuple_tuple
  have hZ : (items.toList.zip items2.toList).length = items.size := by simp [hsz]
  have h0 := h
  obtain ⟨hp, g, d, tk, os⟩ := s
  wp_walk using wpAny_loadPart' hl1, wpAny_loadPart' hb1, wpAny_forIn_list _ (fun rest b s' => b.1 = none ∧ ∃ i, rest = (items.toList.zip items2.toList).drop i ∧ i ≤ items.size ∧ I i s') _
  case turn =>
    rintro ⟨y, x⟩ rest b s' ⟨hb', i, hz, hi, hI⟩
    have hlt : i < (items.toList.zip items2.toList).length := by
      rcases Nat.lt_or_ge i (items.toList.zip items2.toList).length with h' | h'
      · exact h'
      · rw [List.drop_of_length_le h'] at hz; cases hz
    have h1 : i < items.size := hZ ▸ hlt
    have h2 : i < items2.size := hsz ▸ h1
    rw [List.drop_eq_getElem_cons hlt] at hz
    injection hz with hyx hrest
    have hy : y = items[i] := by have := congrArg Prod.fst hyx; simpa using this
    have hx : x = items2[i] := by have := congrArg Prod.snd hyx; simpa using this
    subst hy hx
    refine wpAny_bind (wpAny_mono (turn i h1 h2 s' hI) (fun r s2 q2 => ?_) fun _ _ x => x)
    obtain ⟨hr, q2⟩ := q2
    subst hr
    wp_walk
    exact ⟨rfl, i + 1, hrest, h1, q2⟩
  case fin =>
    rintro ⟨b1, b2⟩ s' ⟨hb', i, hz, hi, hI⟩
    simp only at hb'
    subst hb'
    have hge : items.size ≤ i := by
      rcases Nat.lt_or_ge i (items.toList.zip items2.toList).length with h' | h'
      · rw [List.drop_eq_getElem_cons h'] at hz; cases hz
      · exact hZ ▸ h'
    have hi' : i = items.size := by omega
    have hR : R (.ok (.ret (.bool false))) s' := fin s' (hi' ▸ hI)
    wp_walk
    simpa [Builtin.Tuple.tupleCompareSizes, hsz] using hR
  case h =>
    exact ⟨rfl, 0, rfl, Nat.zero_le _, h0⟩
end
section
variable {prog : Program} {w : World} {A : Around} {E : Value → Shared → Prop} {s : Shared}
theorem rcn_tupG {l b : Addr} {items items2 : Array Value} {Q : Value → Shared → Prop} (hsz : items.size = items2.size) (hu : A.units < cLine) (I : Nat → Shared → Prop)
    (hl : s.heap.IsTuple l items) (hb : s.heap.IsTuple b items2)
    (turn : ∀ i (h1 : i < items.size) (h2 : i < items2.size) s, I i s → wpAny (model prog w) A.in1 (eqBool items[i] items2[i]) (fun r s' => r = true ∧ I (i + 1) s') E s)
    (fin : ∀ s, I items.size s → Q (.bool false) s) (h : I 0 s) : wpAny (model prog w) A (richCompare .NotEq (.ref l) (.ref b)) Q E s := by
  obtain ⟨⟨cls, dd, data, sl⟩, ho, hc, n, hd⟩ := id hl
  obtain ⟨⟨cls2, dd2, data2, sl2⟩, ho2, hc2, n2, hd2⟩ := id hb
  simp only at hc hd hc2 hd2
  subst hc hd hc2 hd2
  refine wpAny_richCompare_same_room (op := .NotEq) ⟨_, ho, rfl⟩ ⟨_, ho2, rfl⟩ F.slot_tuple_ne (call_here F.slot_tuple_ne ⟨_, ho, rfl⟩ F.entry_tuple_ne (F.args_tuple_ne_2 _ _) ?_) hu
  exact tuple_neG (R := wants (fun v s' => v ≠ .notImplemented ∧ Q v s') E) l b items items2 n n2 dd dd2 sl sl2 hsz I turn (fun s' q => ⟨(fun x => nomatch x), fin s' q⟩) ho ho2 h
end
end GQ

namespace PySem.W
open PySem PySem.Calls PyProof.Rows
theorem on_bind (self : Value) : bindSpecial (.builtin "object.__ne__") self = pure (.builtin "object.__ne__", [self]) :=
  (Slot.of (T := "object") (name := "__ne__") (owner := "object") (n := "__ne__") (by rw [typeLookup_type, builtinLookup_eq_fast]; kernel_rfl) (by decide +kernel) (by decide +kernel) (by decide +kernel)
    (.inl (by decide +kernel)) (by rw [isSubtype_type]; kernel_rfl)).bind self
theorem entry_on : entryFor table "object.__ne__" = some Builtin.«object.__ne__» := entryFor_of_tree (by kernel_rfl)
theorem on_plain : plainId "object.__ne__" = true := by decide +kernel
theorem on_kind : builtinKind "object.__ne__" = some .slot := by decide +kernel
theorem on_split : splitId "object.__ne__" = some ("object", "__ne__") := by decide +kernel
theorem on_args (a b : Value) : argsOk "object.__ne__" ⟨[a, b], []⟩ := by unfold argsOk; kernel_rfl
section
variable {prog : Program} {w : World} {A : Around} {E : Value → Shared → Prop} {s : Shared} {K : Frag} {x C L f : Addr} {h₀ : Heap} {m : Str → Option Value} {ox : Obj} {od : Option Obj} {name : Str} {b tb : Value}
theorem ifBound_B {M : Model} {args : List Value} {id : String} {Q : Option Value → Shared → Prop} (X : K.In s.heap) (I : InstAt s.heap x ox C od) (hs : findIn K (.ref C) name = some (some (.builtin id))) (hbi : ∀ self, bindSpecial (.builtin id) self = pure (.builtin id, [self]))
    (h : wpAny M A (call (.builtin id) (.ref x :: args)) (fun v => Q (some v)) E s) : wpAny M A (callSpecialIfBound? (.ref x) name args) Q E s := by
  simp only [callSpecialIfBound?, bindSpecialIfBound?]
  refine wpAny_holding (wpAny_bind (wpAny_bind (wpAny_bind (I.type.here ((looks_findIn X hs).here ?_)))))
  refine wpAny_bind (wpAny_askSetting (wpAny_ite ?_))
  have fin : wpAny M A (call (.builtin id) ([.ref x] ++ args) >>= fun v => pure (some v)) Q E s := wpAny_bind (wpAny_mono h (fun v s' h' => wpAny_pure h') fun _ _ h' => h')
  split
  · rw [hbi]; exact wpAny_bind (wpAny_pure (wpAny_pure (by exact fin)))
  · rw [hbi]; exact wpAny_tryCatch (wpAny_bind (wpAny_pure (wpAny_pure (by exact fin))))
theorem ne_body {Q : Value → Shared → Prop} (hu1 : A.in1.units < cLine) (X : K.In s.heap) (I : InstAt s.heap x ox C od) (hob : subIn K (.ref C) (.type "object") = some true)
    (hs : findIn K (.ref C) "__eq__" = some (some (.ref f))) (hf : isFn K (.ref f) = true)
    (h : wpAny (model prog w) A.in1 (call (.ref f) [.ref x, b]) (fun v s' => ∃ c, v = .bool c ∧ Q (.bool (!c)) s') E s) : wpAny (model prog w) A (call (.builtin "object.__ne__") [.ref x, b]) Q E s := by
  refine wpAny_call (codeAny_call_builtin on_plain entry_on (@check_slot (model prog w) _ _ _ "object.__ne__" "object" "__ne__" (.ref x) [b] [] _ on_kind on_split (I.type.andThen (looks_subIn X hob)) (on_args (.ref x) b) ?_))
  have hb2 : wpAny (model prog w) A.in1 (callSpecialIfBound? (.ref x) "__eq__" [b]) (fun r s' => ∃ c, r = some (.bool c) ∧ Q (.bool (!c)) s') E s :=
    ifBound_K X I hs hf (wpAny_mono h (fun v s' ⟨c, e, q⟩ => ⟨c, by rw [e], q⟩) fun _ _ e => e)
  show wpAny (model prog w) A.in1 (do
    cRoomFor "comparison" [.ref x, b]
    match ← callSpecialIfBound? (.ref x) "__eq__" [b] with
    | some .notImplemented | none => ret .notImplemented
    | some r => ret (.bool (!(← truthy r)))) _ _ s
  refine wpAny_bind (wpAny_cRoomFor hu1 (wpAny_bind (wpAny_mono hb2 (fun r s' z => ?_) fun _ _ e => e)))
  obtain ⟨c, rfl, q⟩ := z
  refine wpAny_bind ?_
  show wpAny (model prog w) A.in1 (pure c) _ _ _
  exact wpAny_pure (wpAny_pure q)
theorem cmpNe_K {Q : Value → Shared → Prop} (hu : A.units < cLine) (hu1 : A.in1.units < cLine) (F : Fr h₀ L s.heap m) (X₀ : K.In h₀) (I : InstAt s.heap x ox C od) (hb : Looks (model prog w) s.heap (typeOf b) tb) (hn : notFirst K C tb = true)
    (ho : findIn K (.ref C) "__ne__" = some (some (.builtin "object.__ne__"))) (hob : subIn K (.ref C) (.type "object") = some true)
    (hs : findIn K (.ref C) "__eq__" = some (some (.ref f))) (hf : isFn K (.ref f) = true)
    (h : wpAny (model prog w) A.in1 (call (.ref f) [.ref x, b]) (fun v s' => ∃ c, v = .bool c ∧ Q (.bool (!c)) s') E s) : wpAny (model prog w) A (richCompare .NotEq (.ref x) b) Q E s := by
  have X := X₀.keeps F.keep
  have one : wpAny (model prog w) A (tryCompare (.ref x) "__ne__" b) (fun r s' => ∃ v, r = some v ∧ Q v s') E s := by
    unfold tryCompare
    refine wpAny_bind (ifBound_B X I ho on_bind (ne_body (Q := fun v s' => ∃ c, v = .bool c ∧ Q (.bool c) s') hu1 X I hob hs hf (wpAny_mono h (fun v s' ⟨c, e, q⟩ => ⟨c, e, _, rfl, q⟩) fun _ _ e => e) |> fun z => wpAny_mono z (fun v s' hv => ?_) fun _ _ e => e))
    obtain ⟨c, rfl, q⟩ := hv
    exact wpAny_pure ⟨_, rfl, q⟩
  unfold richCompare
  simp only [oneThing_ref]
  refine wpAny_holding (wpAny_bind (wpAny_cRoomFor hu ?_))
  refine wpAny_bind (I.type.here (wpAny_bind (hb.here ?_)))
  split
  · rename_i q
    have e : subIn K tb (.ref C) = some false := by
      rcases Bool.or_eq_true_iff.mp hn with e | e
      · rw [beq_iff_eq.mp e] at q; simp at q
      · exact beq_iff_eq.mp e
    refine wpAny_bind ((looks_subIn X e).here ?_)
    simp only [Bool.false_eq_true, if_false]
    refine wpAny_bind (wpAny_mono one (fun r s' z => ?_) fun _ _ e => e)
    obtain ⟨v, rfl, hq⟩ := z
    exact wpAny_pure hq
  · refine wpAny_bind (wpAny_pure ?_)
    simp only [Bool.false_eq_true, if_false]
    refine wpAny_bind (wpAny_mono one (fun r s' z => ?_) fun _ _ e => e)
    obtain ⟨v, rfl, hq⟩ := z
    exact wpAny_pure hq
end
end PySem.W
namespace L2
open PySem
/-- != gives False for what D says, and only makes objects -/
def RcNG (X : Cx) (n : Nat) (D : Eqv) : Prop :=
  ∀ (A : Around) (pins : List (Addr × Obj)) (s : Shared) (σ : St) (H : Hp) (x y : V) (u v : Value), Sub X n A → Inv X pins σ H s → RelV x u → RelV y v → D x y H →
    wpAny (model X.prog X.w) A (richCompare .NotEq u v) (fun r s' => r = .bool false ∧ ∃ H', Inv X pins σ H' s' ∧ Ext H H') X.xe s
section
variable {X : Cx} {n m : Nat} {D D' : Eqv}
theorem rcN_tup (hD : Mon D) (h : EqG X n D) : RcNG X (n + 1) (DTup X.K D) := by
  intro A pins s σ H x y u v sb I rx ry d
  obtain ⟨a, b, xs, ys, rfl, rfl, ha, hb, p⟩ := d
  cases rx
  cases ry
  obtain ⟨its, r, e, z⟩ := I.tuple ha
  obtain ⟨its2, r2, e2, z2⟩ := I.tuple hb
  have hsz : its.toArray.size = its2.toArray.size := by rw [List.size_toArray, List.size_toArray, ← r.length, ← r2.length]; exact p.1
  exact GQ.rcn_tupG hsz sb.room.units0 (fun _ s' => LoopI X pins σ H s') e e2 (fun i h1 h2 s' q => turnG hD h sb p r r2 i h1 h2 s' q) (fun s' q => ⟨rfl, q⟩) ⟨H, I, Ext.rfl'⟩
theorem rcN_ins {CX : CXT} {C f : Addr} {fd : FuncData} {ps : List Str} {R : Addr → Addr → Hp → Prop} {E : XK} (F : FnOk X.prog X.w X.K X.mg X.base CX n f fd ps (spEq R))
    (ho : PySem.W.findIn X.K (.ref C) "__ne__" = some (some (.builtin "object.__ne__"))) (hob : PySem.W.subIn X.K (.ref C) (.type "object") = some true)
    (hs : PySem.W.findIn X.K (.ref C) "__eq__" = some (some (.ref f))) (hf : PySem.W.isFn X.K (.ref f) = true) (hb : Binds X.K fd ps []) (hx : Passes CX X E) : RcNG X (n + 1) (DIns C R) := by
  intro A pins s σ H x y u v sb0 I rx ry d
  have sb := sb0.in1
  obtain ⟨a, b, dx, dy, fs, gs, rfl, rfl, ha, hb', hr⟩ := d
  cases rx
  cases ry
  obtain ⟨mA, J, _⟩ := ins_get I.hok ha
  obtain ⟨mB, J', _⟩ := ins_get I.hok hb'
  obtain ⟨od, J, _⟩ := J.look
  obtain ⟨od', J', _⟩ := J'.look
  obtain ⟨m, hF⟩ := I.fr
  refine PySem.W.cmpNe_K (tb := .ref C) sb0.room.units0 sb.room.units0 hF I.ok.mod.kin J J'.type (by simp [PySem.W.notFirst]) ho hob hs hf ?_
  have hsp : spEq R [.ref a, .ref b] H (fun v H' => v = .bl true ∧ Ext H H') E := ⟨a, b, rfl, hr, fun H' e => ⟨rfl, e⟩⟩
  have e0 : Env0 X.prog X.w X.K X.mg X.base A.in1 X.stack s H := by
    have e := I.env0
    exact ⟨by rw [sb.fr]; exact e.frames, e.mod, e.bs, e.bsz, e.funs, e.frf, e.hok, e.bare⟩
  have hl := F.len _ _ _ _ hsp
  have r2 : Vals [V.ref a, V.ref b] [Value.ref a, Value.ref b] := .cons rfl (.cons rfl .nil)
  refine wpAny_call (codeAny_mono (F.run A.in1 X.stack s H ⟨[.ref a, .ref b], []⟩ [.ref a, .ref b] [.ref a, .ref b] _ E sb.room e0 (by
    have := hb s [.ref a, .ref b] I.kIn (by simpa using hl)
    simpa using this) r2 hsp) fun r s' hq => ?_)
  cases r with
  | error e => exact hx pins σ H s e s' I hq
  | ok fl =>
    cases fl with
    | ret w =>
      obtain ⟨z, H', I', rz, ez, ex⟩ := I.after hq
      subst ez
      cases rz
      exact ⟨true, rfl, rfl, H', I', ex⟩
    | next => exact False.elim hq
    | brk => exact False.elim hq
    | cont => exact False.elim hq
/-- x != y as an expression, the two equal -/
def rNeG (D : Eqv) : R2 := fun x y H Q => D x y H ∧ ∀ H', Ext H H' → Q (.bl false) H'
theorem op_neG (h : RcNG X n D) (hr : Room n X.A) : OpR X (compareOp .NotEq) (rNeG D) := by
  intro pins s σ H x y v u Q I rx ry hq
  obtain ⟨d, q⟩ := hq
  show wpAny (model X.prog X.w) X.A (richCompare .NotEq v u) (EP X pins σ Q) X.xe s
  refine wpAny_mono (h X.A pins s σ H x y v u ⟨hr, rfl⟩ I rx ry d) (fun r s' z => ?_) fun _ _ x => x
  obtain ⟨hr', H', I', e⟩ := z
  subst hr'
  exact ⟨.bl false, H', I', rfl, q H' e⟩
end
end L2

namespace S4
open PySem L2 TT MM
/-! ### data to compare -/
def Shp (n : Nat) (d : PyData) : Prop := PyData.canLay0 d = true ∧ PyData.depth d ≤ n
theorem Shp.int (i : Int) : Shp 0 (.int i) := ⟨by simp [PyData.canLay0], by simp [PyData.depth]⟩
theorem Shp.mono {n m : Nat} {d : PyData} (h : Shp n d) (hm : n ≤ m) : Shp m d := ⟨h.1, Nat.le_trans h.2 hm⟩
theorem shp_all {n : Nat} : ∀ {l : List PyData}, (∀ x ∈ l, Shp n x) → PyData.canLayAll0 l = true ∧ PyData.depthAll l ≤ n
  | [], _ => ⟨by simp [PyData.canLayAll0], by simp [PyData.depthAll]⟩
  | x :: l, h => by
    obtain ⟨h1, h2⟩ := shp_all (l := l) fun y hy => h y (by simp [hy])
    obtain ⟨h3, h4⟩ := h x (by simp)
    exact ⟨by simp [PyData.canLayAll0, h1, h3], by simp only [PyData.depthAll]; omega⟩
theorem Shp.tup {n : Nat} {l : List PyData} (h : ∀ x ∈ l, Shp n x) : Shp (n + 1) (.tuple l) := by
  obtain ⟨h1, h2⟩ := shp_all h
  exact ⟨by simp only [PyData.canLay0]; exact h1, by simp only [PyData.depth]; omega⟩
theorem Shp.lst {n : Nat} {l : List PyData} (h : ∀ x ∈ l, Shp n x) : Shp (n + 1) (.list l) := by
  obtain ⟨h1, h2⟩ := shp_all h
  exact ⟨by simp only [PyData.canLay0]; exact h1, by simp only [PyData.depth]; omega⟩
theorem Shp.ok {n : Nat} {d : PyData} (h : Shp n d) (hn : n ≤ 64) : SeqAt.shaped d = true := by
  show (PyData.canLay0 d && decide (PyData.depth d ≤ 64)) = true
  rw [Bool.and_eq_true]
  exact ⟨h.1, decide_eq_true (Nat.le_trans h.2 hn)⟩
/-- data in the heap, told apart by == -/
structure Enc {α : Type} (R : Rp α) (enc : α → PyData) (n : Nat) : Prop where
  eq : ∀ a b, PyData.eqv (enc a) (enc b) = true ↔ a = b
  shp : ∀ a, Shp n (enc a)
  dp : ∀ (K : PySem.W.Frag) (H : Hp) (v : V) (a : α), R H v a → Dp K H v (enc a)
theorem eqvAll_iff {α : Type} {enc : α → PyData} (h : ∀ a b, PyData.eqv (enc a) (enc b) = true ↔ a = b) : ∀ l m : List α, PyData.eqvAll (l.map enc) (m.map enc) = true ↔ l = m
  | [], [] => by simp [PyData.eqvAll]
  | [], b :: m => by simp [PyData.eqvAll]
  | a :: l, [] => by simp [PyData.eqvAll]
  | a :: l, b :: m => by
    rw [List.map_cons, List.map_cons]
    simp only [PyData.eqvAll, Bool.and_eq_true]
    rw [h, eqvAll_iff h l m, List.cons.injEq]
theorem int_iff (a b : Int) : PyData.eqv (.int a) (.int b) = true ↔ a = b := by simp [PyData.eqv]
theorem enc_int : Enc rInt PyData.int 0 := ⟨int_iff, Shp.int, fun K H v a h => by rw [show v = .int a from h]; exact .int a⟩
theorem enc_tup {α : Type} {R : Rp α} {enc : α → PyData} {n : Nat} (E : Enc R enc n) : Enc (rTup R) (fun l => .tuple (l.map enc)) (n + 1) := by
  refine ⟨fun a b => ?_, fun a => .tup fun x hx => ?_, fun K H v a ⟨t, xs, e, h, p⟩ => ?_⟩
  · simp only [PyData.eqv]
    exact eqvAll_iff E.eq a b
  · obtain ⟨y, _, rfl⟩ := List.mem_map.mp hx
    exact E.shp y
  · subst e
    refine .tup (.of h) ?_
    clear h
    have go : ∀ {xs : List V} {l : List α}, Paired (R H) xs l → DpAll K H xs (l.map enc) := fun p => by
      induction p with
      | nil => exact .nil
      | cons r t ih => exact .cons (E.dp K H _ _ r) ih
    exact go p
theorem enc_row : Enc rRow (fun l => .tuple (l.map PyData.int)) 1 := by
  refine ⟨fun a b => ?_, fun a => .tup fun x hx => ?_, fun K H v a ⟨t, e, h⟩ => ?_⟩
  · simp only [PyData.eqv]
    exact eqvAll_iff int_iff a b
  · obtain ⟨y, _, rfl⟩ := List.mem_map.mp hx
    exact .int y
  · subst e
    refine .tup (.of h) ?_
    have go : ∀ l : List Int, DpAll K H (l.map V.int) (l.map PyData.int) := fun l => by
      induction l with
      | nil => exact .nil
      | cons r t ih => exact .cons (.int _) ih
    exact go a
theorem enc_pi : Enc rPI (fun z => .tuple [.int z.1, .int z.2]) 1 := by
  refine ⟨fun a b => ?_, fun a => .tup fun x hx => ?_, fun K H v a ⟨t, e, h⟩ => ?_⟩
  · simp only [PyData.eqv, PyData.eqvAll, Bool.and_true, Bool.and_eq_true]
    exact ⟨fun h => Prod.ext (by simpa using h.1) (by simpa using h.2), fun h => by subst h; simp⟩
  · simp only [List.mem_cons, List.not_mem_nil, or_false] at hx
    rcases hx with rfl | rfl <;> exact .int _
  · subst e
    exact .tup (.of h) (.cons (.int _) (.cons (.int _) .nil))
theorem enc_rule : Enc rRule (fun r => .tuple [.tuple (r.1.map PyData.int), .int r.2]) 2 := by
  refine ⟨fun a b => ?_, fun a => .tup fun x hx => ?_, fun K H v a ⟨t, y, e, h, r⟩ => ?_⟩
  · have h1 := enc_row.eq a.1 b.1
    simp only [PyData.eqv] at h1
    simp only [PyData.eqv, PyData.eqvAll, Bool.and_true, Bool.and_eq_true]
    rw [h1]
    exact ⟨fun h => Prod.ext h.1 (by simpa using h.2), fun h => by subst h; simp⟩
  · simp only [List.mem_cons, List.not_mem_nil, or_false] at hx
    rcases hx with rfl | rfl
    · exact enc_row.shp _
    · exact (Shp.int _).mono (by omega)
  · subst e
    exact .tup (.of h) (.cons (enc_row.dp K H _ _ r) (.cons (.int _) .nil))
section
variable {α : Type} {R : Rp α} {enc : α → PyData} {n : Nat} {K : PySem.W.Frag} {H : Hp} {x y : V} {a b : α} {Q : VK}
theorem Enc.eqD (E : Enc R enc n) (hn : n ≤ 64) (hx : R H x a) (hy : R H y b) [d : Decidable (a = b)] (q : Q (.bl (decide (a = b))) H) : rEqD K x y H Q := by
  refine ⟨_, _, E.dp K H _ _ hx, E.dp K H _ _ hy, (E.shp a).ok hn, (E.shp b).ok hn, ?_⟩
  rw [show PyData.eqv (enc a) (enc b) = decide (a = b) from by rw [Bool.eq_iff_iff, E.eq, decide_eq_true_iff]]
  exact q
theorem Enc.neD (E : Enc R enc n) (hn : n ≤ 64) (hx : R H x a) (hy : R H y b) [d : Decidable (a = b)] (q : Q (.bl (!decide (a = b))) H) : rNeD K x y H Q := by
  refine ⟨_, _, E.dp K H _ _ hx, E.dp K H _ _ hy, (E.shp a).ok hn, (E.shp b).ok hn, ?_⟩
  rw [show PyData.eqv (enc a) (enc b) = decide (a = b) from by rw [Bool.eq_iff_iff, E.eq, decide_eq_true_iff]]
  exact q
end
end S4

namespace S4
open PySem L2 TT MM EE
/-! ### == of trees, of rules -/
section
variable {P : Program} {w : World} {K : PySem.W.Frag} {mg : Str → Option Value} {base : Heap} {cT cS : Addr}
def spEqTree (cT : Addr) : Sp := fun vs H Q _ => ∃ (u v : V) (t1 t2 : List (Int × Int)), vs = [u, v] ∧ rTree cT H u t1 ∧ rTree cT H v t2 ∧ Q (.bl (decide (t1 = t2))) H
theorem ok_eqTree (T : Tx K mg cT cS) {f : Addr} {fd : FuncData} (d : DM K "__eq__" "Tree.__eq__" s_Tree_eq ["self", "other"] cT f fd) : FnOk P w K mg base CX0 1 f fd ["self", "other"] (spEqTree cT) := by
  obtain ⟨fT, fdT, kT⟩ := T.k_Tree
  have nt : NoAttr K cT "ties" := kT.na _ (by simp)
  refine d.F.ok sc_Tree_eq (fun vs H Q E h => ?_) (fun cdv A outer s H vs Q E hr h => ?_)
  · obtain ⟨u, v, t1, t2, rfl, _⟩ := h
    rfl
  · obtain ⟨u, v, t1, t2, rfl, ⟨a, dx, t, xs, rfl, h1, h2, h3⟩, ⟨a2, dx2, tt2, xs2, rfl, g1, g2, g3⟩, q⟩ := h
    refine ⟨_, pss_one (ps_ret (pe_and (pe_callB (C8.call_isC T.i_Tree) (by rfl) T.b_isinstance (by decide +kernel) (pa_cons (pv 1) (pa_cons (pe_glob (v := .ref cT) rfl kT.m rfl) pa_nil)))
      (pe_one (pe_cmpR (op_eqD (hu64 hr)) (pe_fld (pv 0) rfl) (pe_fld (pv 1) rfl) (nomark _))))), ?_⟩
    refine ⟨_, rfl, a2, dx2, _, rfl, g1, _, rfl, iteT ?_⟩
    refine ⟨_, rfl, a, cT, dx, _, _, rfl, h1, kT.cl, nt, tfs_ties _ _, _, rfl, a2, cT, dx2, _, _, rfl, g1, kT.cl, nt, tfs_ties _ _, ?_⟩
    exact (enc_tup enc_pi).eqD (by decide) ⟨t, xs, rfl, h2, h3⟩ ⟨tt2, xs2, rfl, g2, g3⟩ q
def rdEq (S1 S2 : RD) : Bool := decide (S1.p = S2.p) && (decide (S1.ties = S2.ties) && (decide (S1.unk = S2.unk) && decide (S1.rules = S2.rules)))
def spEqRules (cT : Addr) (mg : Str → Option Value) : Sp := fun vs H Q _ => ∃ (u v : V) (S1 S2 : RD), vs = [u, v] ∧ rRO cT mg H u S1 ∧ rRO cT mg H v S2 ∧ Q (.bl (rdEq S1 S2)) H
theorem ok_eqRules (T : Tx K mg cT cS) {f : Addr} {fd : FuncData} (d : DM K "__eq__" "Rules.__eq__" s_Rules_eq ["self", "other"] (adr mg "Rules") f fd) : FnOk P w K mg base CX0 2 f fd ["self", "other"] (spEqRules cT mg) := by
  obtain ⟨fT, fdT, kT⟩ := T.k_Tree
  obtain ⟨fR, fdR, kR⟩ := T.k_Rules
  obtain ⟨fE, fdE, dE⟩ := T.m_Tree_eq
  have GE : FnOk P w K mg base CX0 1 fE fdE ["self", "other"] (spEqTree cT) := ok_eqTree T dE
  have nR : ∀ y ∈ (["p", "tree", "unknowns", "rules"] : List Str), NoAttr K (cR mg) y := kR.na
  have n1 := nR "p" (by simp)
  have n2 := nR "tree" (by simp)
  have n3 := nR "unknowns" (by simp)
  have n4 := nR "rules" (by simp)
  have iT := T.i_Tree
  refine d.F.ok sc_Rules_eq (fun vs H Q E h => ?_) (fun cdv A outer s H vs Q E hr h => ?_)
  · obtain ⟨u, v, S1, S2, rfl, _⟩ := h
    rfl
  · obtain ⟨u, v, S1, S2, rfl, ⟨a, dx, tr, tu, tl, rfl, hI, hT, hU, hR⟩, ⟨a2, dx2, tr2, tu2, tl2, rfl, gI, gT, gU, gR⟩, q⟩ := h
    refine ⟨_, pss_one (ps_ret (pe_and (pe_callB (C8.call_isC T.i_Rules) (by rfl) T.b_isinstance (by decide +kernel) (pa_cons (pv 1) (pa_cons (pe_glob (v := .ref (adr mg "Rules")) rfl kR.m rfl) pa_nil)))
      (pe_and (pe_cmpR op_eq (pe_fld (pv 0) rfl) (pe_fld (pv 1) rfl) (nomark _))
      (pe_and (pe_cmpR (op_eqO GE (hr.mono (by decide)) dE.fi dE.fn dE.b pass0) (pe_fld (pv 0) rfl) (pe_fld (pv 1) rfl) (nomark _))
      (pe_and (pe_cmpR (op_eqD (hu64 hr)) (pe_fld (pv 0) rfl) (pe_fld (pv 1) rfl) (nomark _))
      (pe_one (pe_cmpR (op_eqD (hu64 hr)) (pe_fld (pv 0) rfl) (pe_fld (pv 1) rfl) (nomark _)))))))), ?_⟩
    have clR := kR.cl
    refine ⟨_, rfl, a2, dx2, _, rfl, gI, _, rfl, iteT ?_⟩
    refine ⟨_, rfl, a, cR mg, dx, _, _, rfl, hI, clR, n1, rfs_p, _, rfl, a2, cR mg, dx2, _, _, rfl, gI, clR, n1, rfs_p, rfl, _, rfl, ?_⟩
    unfold rdEq at q
    by_cases e1 : S1.p = S2.p
    · rw [decide_eq_true (by rw [e1])]
      rw [decide_eq_true e1, Bool.true_and] at q
      refine iteT ?_
      obtain ⟨_, dt, tt, xs, e, i1, i2, i3⟩ := id gT
      cases e
      obtain ⟨_, dt', tt', xs', e, i1', i2', i3'⟩ := id hT
      cases e
      refine ⟨_, rfl, a, cR mg, dx, _, _, rfl, hI, clR, n2, rfs_tree, _, rfl, a2, cR mg, dx2, _, _, rfl, gI, clR, n2, rfs_tree, tr, dt', _, rfl, i1', ⟨_, .base (.ins i1 iT.cl iT.ha iT.hn iT.htk iT.hm), by simp [PySem.W.notFirst]⟩, .ref tr, .ref tr2, S1.ties, S2.ties, rfl, hT, gT, ⟨_, rfl⟩, _, rfl, ?_⟩
      by_cases e2 : S1.ties = S2.ties
      · rw [decide_eq_true e2]
        rw [decide_eq_true e2, Bool.true_and] at q
        refine iteT ?_
        refine ⟨_, rfl, a, cR mg, dx, _, _, rfl, hI, clR, n3, rfs_unk, _, rfl, a2, cR mg, dx2, _, _, rfl, gI, clR, n3, rfs_unk, ?_⟩
        refine enc_row.eqD (by decide) hU gU ⟨_, rfl, ?_⟩
        by_cases e3 : S1.unk = S2.unk
        · rw [decide_eq_true e3]
          rw [decide_eq_true e3, Bool.true_and] at q
          refine iteT ?_
          refine ⟨_, rfl, a, cR mg, dx, _, _, rfl, hI, clR, n4, rfs_rules, _, rfl, a2, cR mg, dx2, _, _, rfl, gI, clR, n4, rfs_rules, ?_⟩
          exact (enc_tup (enc_tup enc_rule)).eqD (by decide) hR gR q
        · rw [decide_eq_false e3]
          rw [decide_eq_false e3] at q
          exact iteF q
      · rw [decide_eq_false e2]
        rw [decide_eq_false e2] at q
        exact iteF q
    · rw [decide_eq_false (fun z => e1 (V.int.inj z))]
      rw [decide_eq_false e1] at q
      exact iteF q
end
end S4

namespace S4
open PySem L2 TT MM EE
/-! ### changed_ways -/
theorem neDK {X : Cx} {K : PySem.W.Frag} (hK : X.K = K) (hu : X.A.units + 64 < cLine) : OpR X (compareOp .NotEq) (rNeD K) := by
  subst hK
  exact op_neD hu
def RTree (cT : Addr) : Addr → Addr → Hp → Prop := fun a b H => ∃ t, rTree cT H (.ref a) t ∧ rTree cT H (.ref b) t
def RRules (cT : Addr) (mg : Str → Option Value) : Addr → Addr → Hp → Prop := fun a b H => ∃ S, rRO cT mg H (.ref a) S ∧ rRO cT mg H (.ref b) S
section
variable {P : Program} {w : World} {K : PySem.W.Frag} {mg : Str → Option Value} {base : Heap} {cT cS : Addr}
theorem wayR_of {S : RD} {n : Nat} (ok : RulesOk S n) {z : Int × Int} (h : z ∈ S.ties ++ flipAll S.ties) : WayR S n z := by
  have hm : z ∈ S.ties ∨ z.swap ∈ S.ties := by
    rcases List.mem_append.mp h with h | h
    · exact .inl h
    · unfold flipAll at h
      obtain ⟨y, hy, rfl⟩ := List.mem_map.mp h
      exact .inr hy
  rcases hm with h | h
  · have := ok.tree.ok.b0 _ h
    exact ⟨by omega, by omega, by omega, by omega, .inl h⟩
  · have := ok.tree.ok.b0 _ h
    simp only [Prod.fst_swap, Prod.snd_swap] at this
    exact ⟨by omega, by omega, by omega, by omega, .inr h⟩
end
end S4

namespace S4
open PySem L2 TT MM
/-! ### the law's rows are the rules' rows -/
def rowsT (S : RD) (posts : List Int) : List (List Int) := posts.flatMap fun q => (S.rules.getD q.toNat []).map fun r => r.1 ++ [r.2]
def rowsE (S : RD) (ns : List Int) : List (List Int) := (everyL S.rules).filterMap fun e => if decide ((e.1 : Int) ∈ ns) = true then some (e.2.1 ++ [e.2.2]) else none
theorem flat_if {α : Type} (p : Nat → Bool) (F : Nat → List α) : ∀ l : List Nat, (l.flatMap fun i => if p i = true then F i else []) = (l.filter p).flatMap F
  | [] => rfl
  | i :: l => by
    rw [List.flatMap_cons, flat_if p F l, List.filter_cons]
    cases h : p i with
    | true => rw [if_pos rfl, if_pos rfl, List.flatMap_cons]
    | false => rw [if_neg (by simp), if_neg (by simp), List.nil_append]
theorem fm_if {α β : Type} (b : Bool) (g : α → β) : ∀ l : List α, (l.filterMap fun x => if b = true then some (g x) else none) = if b = true then l.map g else []
  | [] => by cases b <;> rfl
  | a :: l => by
    rw [List.filterMap_cons, fm_if b g l]
    cases b with
    | true => rfl
    | false => rfl
theorem filterMap_flat {α β γ : Type} (g : β → Option γ) (F : α → List β) : ∀ l : List α, (l.flatMap F).filterMap g = l.flatMap fun a => (F a).filterMap g
  | [] => rfl
  | a :: l => by rw [List.flatMap_cons, List.filterMap_append, filterMap_flat g F l, List.flatMap_cons]
theorem ns_range {ns : List Int} {n : Nat} (up : ns.Pairwise (· < ·)) (hin : ∀ x ∈ ns, x ∈ rng n) : ns = ((List.range n).filter fun (i : Nat) => decide (((i : Nat) : Int) ∈ ns)).map fun (i : Nat) => (i : Int) := by
  have h : ns = (rng n).filter fun x => decide (x ∈ ns) := up_same up (List.Pairwise.filter _ (rng_up n)) fun x => by
    rw [List.mem_filter]
    exact ⟨fun h => ⟨hin x h, decide_eq_true h⟩, fun h => of_decide_eq_true h.2⟩
  have e : (rng n).filter (fun x => decide (x ∈ ns)) = ((List.range n).filter fun (i : Nat) => decide (((i : Nat) : Int) ∈ ns)).map fun (i : Nat) => (i : Int) := by
    unfold rng
    rw [List.filter_map]
    rfl
  exact h.trans e
theorem rows_ET {S : RD} {ns : List Int} {n : Nat} (hn : S.rules.length = n) (up : ns.Pairwise (· < ·)) (hin : ∀ x ∈ ns, x ∈ rng n) : rowsE S ns = rowsT S ns := by
  unfold rowsE everyL
  rw [filterMap_flat]
  have h1 : ((List.range S.rules.length).flatMap fun (i : Nat) => ((S.rules.getD i []).map fun r => (i, r)).filterMap fun (e : Nat × Rule) => if decide ((e.1 : Int) ∈ ns) = true then some (e.2.1 ++ [e.2.2]) else none) =
      (List.range S.rules.length).flatMap fun (i : Nat) => if decide (((i : Nat) : Int) ∈ ns) = true then (S.rules.getD i []).map (fun r => r.1 ++ [r.2]) else [] := by
    congr 1
    funext i
    rw [List.filterMap_map]
    exact fm_if (decide ((i : Int) ∈ ns)) (fun r : Rule => r.1 ++ [r.2]) (S.rules.getD i [])
  rw [h1, flat_if, hn]
  unfold rowsT
  conv => rhs; rw [ns_range up hin]
  rw [List.flatMap_map]
  rfl
theorem leftU_more {wd : Nat} {kept : List Int} (hk : ∀ x ∈ kept, 0 ≤ x ∧ x < (wd : Int)) : leftU (wd + 1) (kept ++ [(wd : Int)]) = leftU wd kept := by
  unfold leftU rng
  rw [List.range_succ, List.map_append, List.filter_append]
  have e1 : (List.filter (fun x => !decide (x ∈ kept ++ [(wd : Int)])) (List.map (fun (i : Nat) => (i : Int)) [wd])) = [] := by simp
  rw [e1, List.append_nil]
  refine List.filter_congr fun x hx => ?_
  obtain ⟨i, hi, rfl⟩ := List.mem_map.mp hx
  have := List.mem_range.mp hi
  by_cases h : ((i : Nat) : Int) ∈ kept
  · simp [h]
  · have hne : ((i : Nat) : Int) ≠ (wd : Int) := by omega
    simp [h, hne]
theorem rest_tid {S : RD} {n : Nat} {z : Int × Int} {ns : List Int} (ok : RulesOk S n) (W : WayR S n z) (ens : ns = sideOf S.ties n z) {wd : Nat} (hwd : S.unk.sum = (wd : Int)) :
    restU S.p (wd + 1) (keptU S.unk z ++ [(wd : Int)]) (rowsT S ns) = tidU S n z := by
  have hne : z.1 ≠ z.2 := fun e => by
    rcases W.m with h | h
    · have := ok.tree.ok.b0 _ h; omega
    · have := ok.tree.ok.b0 _ h; simp only [Prod.fst_swap, Prod.snd_swap] at this; omega
  have hkn := kept_nodup ok.unk W.a0 W.b0 hne
  have hkin : ∀ x ∈ keptU S.unk z, 0 ≤ x ∧ x < (wd : Int) := fun x hx => by
    rw [← hwd]
    rcases List.mem_append.mp hx with h | h <;> exact held_lt ok.unk h
  have eo : leftU wd (keptU S.unk z) ++ (keptU S.unk z ++ [(wd : Int)]) = ordU wd (keptU S.unk z) := by unfold ordU; rw [List.append_assoc]
  unfold restU tidU
  rw [leftU_more hkin, eo, ord_len hkn hkin, hwd, Int.toNat_natCast, ← ens]
  congr 2
  unfold rowsT rowsU
  rw [List.map_flatMap]
  congr 1
  funext q
  rw [List.map_map]
  rfl
end S4

namespace S4
open PySem L2 TT MM EE
/-! ### the law's tidings -/
def keyW (z : Int × Int) : List Key := [.inl z.1, .inl z.2]
theorem keyW_inj {y z : Int × Int} (h : keyW y = keyW z) : y = z := by
  unfold keyW at h
  have h1 := List.cons.inj h
  have h2 := List.cons.inj h1.2
  exact Prod.ext (Sum.inl.inj h1.1) (Sum.inl.inj h2.1)
def rTd (S : RD) (n : Nat) (H : Hp) : (List Key × V) → (Int × Int) → Prop := fun kv z => kv.1 = keyW z ∧ rTup rRow H kv.2 (tidU S n z)
theorem td_keep {S : RD} {n : Nat} {H H' : Hp} (k : Keep H H') {kvs : List (List Key × V)} {m : List (Int × Int)} (h : Paired (rTd S n H) kvs m) : Paired (rTd S n H') kvs m := Paired.mapP h fun _ _ ⟨e, r⟩ => ⟨e, mono_tup mono_row _ _ _ _ k r⟩
theorem td_kt {S : RD} {n : Nat} {H H' : Hp} (kt : ∀ t xs, H t = some (.tup xs) → H' t = some (.tup xs)) {kv : List Key × V} {z : Int × Int} (h : rTd S n H kv z) : rTd S n H' kv z := by
  obtain ⟨e, t, xs, e2, h1, h2⟩ := h
  exact ⟨e, t, xs, e2, kt _ _ h1, Paired.mapP h2 fun _ _ q => row_kt kt q⟩
theorem td_val {S : RD} {n : Nat} {H : Hp} : ∀ {kvs : List (List Key × V)} {m : List (Int × Int)}, Paired (rTd S n H) kvs m → ∀ z ∈ m, ∃ v, valV kvs (keyW z) = some v ∧ rTup rRow H v (tidU S n z)
  | _, _, .nil, z, hz => nomatch hz
  | (k, v) :: kvs, y :: m, .cons ⟨e, r⟩ t, z, hz => by
    simp only at e r
    subst e
    by_cases h : y = z
    · subst h
      refine ⟨v, ?_, r⟩
      unfold valV
      rw [List.find?_cons_of_pos (by exact decide_eq_true rfl)]
      rfl
    · have hz : z ∈ m := by
        rcases List.mem_cons.mp hz with h2 | h2
        · exact absurd h2.symm h
        · exact h2
      obtain ⟨v2, hv, r2⟩ := td_val t z hz
      refine ⟨v2, ?_, r2⟩
      unfold valV at hv ⊢
      rw [List.find?_cons_of_neg (by exact fun q => h (keyW_inj (of_decide_eq_true q)))]
      exact hv
theorem td_new {S : RD} {n : Nat} {H : Hp} : ∀ {kvs : List (List Key × V)} {m : List (Int × Int)}, Paired (rTd S n H) kvs m → ∀ z, z ∉ m → valV kvs (keyW z) = none
  | _, _, .nil, z, hz => rfl
  | (k, v) :: kvs, y :: m, .cons ⟨e, r⟩ t, z, hz => by
    simp only at e
    subst e
    have h := td_new t z fun q => hz (List.mem_cons_of_mem _ q)
    unfold valV at h ⊢
    rw [List.find?_cons_of_neg (by exact fun q => hz (by rw [keyW_inj (of_decide_eq_true q)]; simp))]
    exact h
theorem mem_every {rules : List (List Rule)} {e : Nat × Rule} (h : e ∈ everyL rules) : ∃ own, rules[e.1]? = some own ∧ e.2 ∈ own := by
  unfold everyL at h
  obtain ⟨i, hi, h⟩ := List.mem_flatMap.mp h
  obtain ⟨r, hr, rfl⟩ := List.mem_map.mp h
  have hx : rules[i]? = some (rules[i]'(List.mem_range.mp hi)) := List.getElem?_eq_getElem (List.mem_range.mp hi)
  rw [getD_at hx] at hr
  exact ⟨_, hx, hr⟩
theorem len_every {rules : List (List Rule)} (h : ∀ own ∈ rules, own.length ≤ 8) : (everyL rules).length ≤ 8 * rules.length := by
  unfold everyL
  refine flat_lenR fun j hj => ?_
  rw [List.length_map, getD_at (List.getElem?_eq_getElem hj)]
  exact h _ (List.getElem_mem hj)
theorem ways_nodup {S : RD} {n : Nat} (ok : RulesOk S n) : (S.ties ++ flipAll S.ties).Nodup := by
  have h1 : S.ties.Nodup := ok.tree.ok.asc.imp fun {a b} h e => by
    subst e
    rcases h with h | h
    · omega
    · omega
  rw [List.nodup_append]
  refine ⟨h1, ?_, fun a ha b hb e => ?_⟩
  · unfold flipAll
    rw [List.Nodup, List.pairwise_map]
    exact List.Pairwise.imp (fun {a b} h e => h (by have := congrArg Prod.swap e; simpa using this)) h1
  · subst e
    unfold flipAll at hb
    obtain ⟨y, hy, e⟩ := List.mem_map.mp hb
    have b1 := ok.tree.ok.b0 _ ha
    have b2 := ok.tree.ok.b0 _ hy
    rw [← e] at b1
    simp only [Prod.fst_swap, Prod.snd_swap] at b1
    omega
theorem heldF_len {unk : List Int} {n : Nat} (oh : CountsOk unk n) : ∀ L : List Int, (L.flatMap (heldL unk)).length ≤ 60 * L.length
  | [] => Nat.zero_le _
  | a :: L => by
    rw [List.flatMap_cons, List.length_append, List.length_cons]
    have := heldL_len oh a
    have := heldF_len oh L
    omega
theorem rowsT_row {S : RD} {n : Nat} (ok : RulesOk S n) {ns : List Int} (hin : ∀ x ∈ ns, x ∈ rng n) {wd : Nat} (hwd : S.unk.sum = (wd : Int)) : ∀ r ∈ rowsT S ns, isRow r S.p ((wd + 1 : Nat) : Int) := fun r hr => by
  obtain ⟨q, hq, hr⟩ := List.mem_flatMap.mp hr
  obtain ⟨y, hy, rfl⟩ := List.mem_map.mp hr
  obtain ⟨q0, q1⟩ := rng_mem.mp (hin q hq)
  have hn := ok.len
  have hm : S.rules[q.toNat]? = some (S.rules[q.toNat]'(by omega)) := List.getElem?_eq_getElem (by omega)
  rw [getD_at hm] at hy
  have hk := ok.ok _ _ hm y hy
  have hk1 := hk.row.1
  refine ⟨by rw [List.length_append, List.length_singleton]; omega, fun v hv => ?_⟩
  rcases List.mem_append.mp hv with hv | hv
  · exact hk.row.2 v hv
  · rw [List.mem_singleton.mp hv]; exact ⟨hk.b0, hk.b1⟩
end S4

namespace S4
open PySem L2 TT MM
/-! ### ladders there are; a ladder's rows that begin behind some places -/
theorem isRow_len2 {l : List Int} {p : Int} {wd : Nat} (h : isRow l p wd) : l.length = wd := by have := h.1; omega
theorem first_nz (l : List Int) : ∀ n : Nat, (∀ x, x < n → l.getD x 0 = 0) ∨ ∃ k, k < n ∧ l.getD k 0 ≠ 0 ∧ ∀ x, x < k → l.getD x 0 = 0
  | 0 => .inl fun x h => absurd h (Nat.not_lt_zero x)
  | n + 1 => by
    rcases first_nz l n with h | ⟨k, h1, h2, h3⟩
    · by_cases e : l.getD n 0 = 0
      · refine .inl fun x hx => ?_
        by_cases q : x = n
        · rw [q]; exact e
        · exact h x (by omega)
      · exact .inr ⟨n, by omega, e, h⟩
    · exact .inr ⟨k, by omega, h2, h3⟩
theorem st_app {p : Int} {wd : Nat} (prm : Prm p) : ∀ (l : List (List Int)) {rs : RG} {acc : List (List Int)}, St1 p wd rs acc → (∀ r ∈ l, isRow r p wd) → ∃ rs', St1 p wd rs' (acc ++ l)
  | [], rs, acc, S, _ => ⟨rs, by rw [List.append_nil]; exact S⟩
  | row :: l, rs, acc, S, h => by
    have hr := h row (by simp)
    have hl := isRow_len2 hr
    have p2 := prm.1
    have e : acc ++ row :: l = (acc ++ [row]) ++ l := by rw [List.append_assoc]; rfl
    rw [e]
    rcases first_nz (clr p rs row) wd with h0 | ⟨k, k1, k2, k3⟩
    · exact st_app prm l (S.skip hl h0) fun r hr => h r (by simp [hr])
    · have hb := getD_in (by omega) (clr_in (by omega) rs hr.2) k
      obtain ⟨u, hu⟩ := prm.inv (v := (clr p rs row).getD k 0) (by omega) hb.2
      exact st_app prm l (S.put p2 hl hr.2 k1 k2 k3 hu) fun r hr => h r (by simp [hr])
theorem st_ex {p : Int} {wd : Nat} (prm : Prm p) {rows : List (List Int)} (h : ∀ r ∈ rows, isRow r p wd) : ∃ rs, St1 p wd rs rows := by
  have := st_app prm rows (St1.nil p wd) h
  rwa [List.nil_append] at this
theorem srt_ex (l : List Int) : ∃ ys : List Int, ys.Perm l ∧ Up ys := by
  induction l with
  | nil => exact ⟨[], .refl _, .nil⟩
  | cons a l ih =>
    obtain ⟨ys, h1, h2⟩ := ih
    have ins : ∀ ys : List Int, Up ys → ∃ zs : List Int, zs.Perm (a :: ys) ∧ Up zs := by
      intro ys
      induction ys with
      | nil => intro _; exact ⟨[a], .refl _, List.pairwise_singleton _ _⟩
      | cons b ys ih2 =>
        intro hu
        obtain ⟨u1, u2⟩ := List.pairwise_cons.mp hu
        by_cases hab : a ≤ b
        · refine ⟨a :: b :: ys, .refl _, List.pairwise_cons.mpr ⟨fun c hc => ?_, hu⟩⟩
          rcases List.mem_cons.mp hc with e | hc
          · rw [e]; exact hab
          · have := u1 c hc; omega
        · obtain ⟨zs, z1, z2⟩ := ih2 u2
          refine ⟨b :: zs, (List.Perm.cons b z1).trans (.swap a b ys), List.pairwise_cons.mpr ⟨fun c hc => ?_, z2⟩⟩
          rcases List.mem_cons.mp (z1.mem_iff.mp hc) with e | hc
          · omega
          · exact u1 c hc
    obtain ⟨zs, z1, z2⟩ := ins ys h2
    exact ⟨zs, z1.trans (List.Perm.cons a h1), z2⟩
theorem lad_ex {p : Int} {wd : Nat} (prm : Prm p) {rows : List (List Int)} (h : ∀ r ∈ rows, isRow r p wd) : IsLad p wd rows (ladL p wd rows) := by
  obtain ⟨rs, S⟩ := st_ex prm h
  obtain ⟨ys, h1, h2⟩ := srt_ex (keysI rs)
  have : IsLad p wd rows (ys.map fun y => rowOf rs y.toNat) := ⟨rs, ys, S, h1, h2, rfl⟩
  rw [← ladL_eq prm.1 this]
  exact this
/-! ### sums within a room -/
theorem spn_sumP {p : Int} {R : Vc → Prop} {f : Nat → Vc} {c : Nat → Int} : ∀ {P : List Nat}, (∀ i ∈ P, Spn p R (f i)) → Spn p R fun x => sumP P fun i => c i * f i x
  | [], _ => .zero fun x => .refl _
  | i :: P, h => by
    have h1 := spn_sumP (c := c) (P := P) fun j hj => h j (by simp [hj])
    refine .plus (c i) h1 (h i (by simp)) fun x => .of_eq ?_
    rw [sumP_cons]
    omega
theorem vec_drop (l : List Int) (a x : Nat) : vec (l.drop a) x = vec l (a + x) := by
  unfold vec
  rw [List.getD_eq_getElem?_getD, List.getD_eq_getElem?_getD, List.getElem?_drop]
/-- the part of a ladder that begins behind some places -/
def rsP (a : Nat) (rs : RG) : RG := (rs.filter fun z => decide (a ≤ z.1)).map fun z => (z.1 - a, z.2.drop a)
section
variable {p : Int} {a b : Nat} {rs : RG} {rows : List (List Int)}
theorem rsP_mem {z : Nat × List Int} : z ∈ rsP a rs ↔ ∃ y ∈ rs, a ≤ y.1 ∧ z = (y.1 - a, y.2.drop a) := by
  unfold rsP
  rw [List.mem_map]
  constructor
  · rintro ⟨y, hy, rfl⟩
    obtain ⟨h1, h2⟩ := List.mem_filter.mp hy
    exact ⟨y, h1, of_decide_eq_true h2, rfl⟩
  · rintro ⟨y, hy, h, rfl⟩
    exact ⟨y, List.mem_filter.mpr ⟨hy, decide_eq_true h⟩, rfl⟩
theorem rsP_key {k : Nat} : k ∈ (rsP a rs).map (·.1) ↔ a + k ∈ rs.map (·.1) := by
  rw [List.mem_map, List.mem_map]
  constructor
  · rintro ⟨z, hz, rfl⟩
    obtain ⟨y, hy, h, rfl⟩ := rsP_mem.mp hz
    exact ⟨y, hy, by show y.1 = a + (y.1 - a); omega⟩
  · rintro ⟨y, hy, e⟩
    exact ⟨(y.1 - a, y.2.drop a), rsP_mem.mpr ⟨y, hy, by omega, rfl⟩, by show y.1 - a = k; omega⟩
theorem rsP_nodup (nd : (rs.map (·.1)).Nodup) : ((rsP a rs).map (·.1)).Nodup := by
  induction rs with
  | nil => exact .nil
  | cons z rs ih =>
    obtain ⟨n1, n2⟩ := List.nodup_cons.mp nd
    unfold rsP
    rw [List.filter_cons]
    by_cases h : a ≤ z.1
    · rw [if_pos (decide_eq_true h), List.map_cons, List.map_cons]
      refine List.nodup_cons.mpr ⟨fun q => n1 ?_, ih n2⟩
      have := (rsP_key (a := a) (rs := rs)).mp q
      rwa [show a + (z.1 - a) = z.1 by omega] at this
    · rw [if_neg (by simp [h])]
      exact ih n2
theorem rsP_row (nd : (rs.map (·.1)).Nodup) {k : Nat} (h : a + k ∈ rs.map (·.1)) : rowOf (rsP a rs) k = (rowOf rs (a + k)).drop a := by
  obtain ⟨y, hy, e⟩ := List.mem_map.mp h
  have h1 := rowOf_mem nd hy
  have h2 := rowOf_mem (rsP_nodup (a := a) nd) (rsP_mem.mpr ⟨y, hy, by omega, rfl⟩)
  have e1 : y.1 - a = k := by omega
  simp only at h2
  rw [e1] at h2
  rw [h2, ← e, h1]
theorem St1.part (S : St1 p (a + b) rs rows) : Lad p ((rsP a rs).map (·.1)) (rv (rsP a rs)) ∧ (∀ z ∈ rsP a rs, z.1 < b ∧ z.2.length = b ∧ InB p z.2) ∧ ∀ k, a + k ∈ rs.map (·.1) → ∀ x, rv (rsP a rs) k x = rv rs (a + k) (a + x) := by
  have hrv : ∀ k, a + k ∈ rs.map (·.1) → ∀ x, rv (rsP a rs) k x = rv rs (a + k) (a + x) := fun k hk x => by
    unfold rv
    rw [rsP_row S.lad.nd hk, vec_drop]
  refine ⟨⟨rsP_nodup S.lad.nd, fun i hi => ?_, fun i hi j hj e => ?_, fun i hi x hx => ?_⟩, fun z hz => ?_, hrv⟩
  · have hi := rsP_key.mp hi
    rw [hrv i hi]
    exact S.lad.one _ hi
  · have hi := rsP_key.mp hi
    have hj := rsP_key.mp hj
    rw [hrv i hi]
    exact S.lad.off _ hi _ hj (by omega)
  · have hi := rsP_key.mp hi
    rw [hrv i hi]
    exact S.lad.low _ hi _ (by omega)
  · obtain ⟨y, hy, h, rfl⟩ := rsP_mem.mp hz
    obtain ⟨h1, h2, h3⟩ := S.ok y hy
    exact ⟨by show y.1 - a < b; omega, by show (y.2.drop a).length = b; rw [List.length_drop]; omega, fun x hx => h3 x (List.mem_of_mem_drop hx)⟩
/-- what the part spans -/
theorem St1.part_span (S : St1 p (a + b) rs rows) (w : Vc) : Spn p (rungs ((rsP a rs).map (·.1)) (rv (rsP a rs))) w ↔ ∃ v, Spn p (inRows rows) v ∧ (∀ i, i < a → Cg p (v i) 0) ∧ ∀ x, Cg p (w x) (v (a + x)) := by
  obtain ⟨L, ok, hrv⟩ := S.part
  constructor
  · intro h
    induction h with
    | @zero w h => exact ⟨fun _ => 0, .zero fun _ => .refl _, fun _ _ => .refl _, h⟩
    | @add u r w c hu hr h ih =>
      obtain ⟨v, v1, v2, v3⟩ := ih
      obtain ⟨k, hk, rfl⟩ := hr
      have hk := rsP_key.mp hk
      refine ⟨fun x => v x + c * rv rs (a + k) x, .plus c v1 ((S.room _).mp (.row ⟨_, hk, rfl⟩)) fun x => .refl _, fun i hi => ?_, fun x => ?_⟩
      · have := (v2 i hi).add ((Cg.refl c).mul (S.lad.low _ hk i (by omega)))
        rwa [Int.mul_zero, Int.add_zero] at this
      · refine (h x).trans ((v3 x).add ((Cg.refl c).mul (.of_eq ?_)))
        exact hrv k hk x
  · rintro ⟨v, v1, v2, v3⟩
    have hc := S.lad.coord ((S.room _).mpr v1)
    have h1 : Spn p (rungs ((rsP a rs).map (·.1)) (rv (rsP a rs))) fun x => sumP (rs.map (·.1)) fun i => (if a ≤ i then v i else 0) * (if a ≤ i then rv rs i (a + x) else 0) := by
      refine spn_sumP (f := fun i x => if a ≤ i then rv rs i (a + x) else 0) fun i hi => ?_
      by_cases h : a ≤ i
      · have hi2 : a + (i - a) ∈ rs.map (·.1) := by rwa [show a + (i - a) = i by omega]
        refine (Spn.row ⟨i - a, rsP_key.mpr hi2, rfl⟩).cg fun x => .of_eq ?_
        rw [hrv _ hi2, if_pos h, show a + (i - a) = i by omega]
      · exact .zero fun x => .of_eq (by show (if a ≤ i then _ else _) = _; rw [if_neg h])
    refine h1.cg fun x => (v3 x).trans ((hc (a + x)).trans (sumP_cg fun i hi => ?_))
    by_cases h : a ≤ i
    · rw [if_pos h, if_pos h]
      exact .refl _
    · rw [if_neg h, if_neg h]
      have := (v2 i (by omega)).mul (Cg.refl (p := p) (rv rs i (a + x)))
      rw [Int.zero_mul] at this
      exact this
theorem take_any {l : List Int} {a : Nat} : ((l.take a).any fun n => n != 0) = false ↔ ∀ x, x < a → l.getD x 0 = 0 := by
  rw [List.any_eq_false]
  constructor
  · intro h x hx
    by_cases hl : x < l.length
    · have h1 : (l.take a)[x]? = some l[x] := by rw [List.getElem?_take_of_lt hx, List.getElem?_eq_getElem hl]
      have := h _ (List.mem_of_getElem? h1)
      rw [getD_at (List.getElem?_eq_getElem hl)]
      simpa using this
    · rw [List.getD_eq_getElem?_getD, List.getElem?_eq_none (by omega)]
      rfl
  · intro h y hy
    obtain ⟨x, hx⟩ := List.getElem?_of_mem hy
    have hxa : x < a := by
      have := (List.getElem?_eq_some_iff.mp hx).1
      rw [List.length_take] at this
      omega
    rw [List.getElem?_take_of_lt hxa] at hx
    have := h x hxa
    rw [getD_at hx] at this
    simp [this]
/-- the rows of a ladder that begin behind some places are a ladder -/
theorem pure_lad {lad : List (List Int)} (p2 : 2 ≤ p) (h : IsLad p (a + b) rows lad) :
    IsLad p b (pureU a lad) (pureU a lad) ∧ ∀ w, Spn p (inRows (pureU a lad)) w ↔ ∃ v, Spn p (inRows rows) v ∧ (∀ i, i < a → Cg p (v i) 0) ∧ ∀ x, Cg p (w x) (v (a + x)) := by
  obtain ⟨rs, ys, S, hp, hu, rfl⟩ := h
  obtain ⟨L, ok, hrv⟩ := S.part
  have key : ∀ y ∈ ys, ∃ i ∈ rs.map (·.1), y = ((i : Nat) : Int) := fun y hy => keysI_mem.mp (hp.mem_iff.mp hy)
  have hbeg : ∀ i ∈ rs.map (·.1), (!(((rowOf rs i).take a).any fun n => n != 0)) = decide (a ≤ i) := fun i hi => by
    obtain ⟨z, hz, rfl⟩ := List.mem_map.mp hi
    have hrow := rowOf_mem S.lad.nd hz
    obtain ⟨_, _, hin⟩ := S.ok z hz
    by_cases hx : a ≤ z.1
    · rw [decide_eq_true hx]
      have : (((rowOf rs z.1).take a).any fun n => n != 0) = false := take_any.mpr fun x hxa => by
        have := S.lad.low z.1 hi x (by omega)
        unfold rv at this
        have hb := getD_in (by omega) (by rw [hrow]; exact hin : InB p (rowOf rs z.1)) x
        exact this.zero_of hb.1 hb.2
      rw [this]
      rfl
    · rw [decide_eq_false hx]
      have : (((rowOf rs z.1).take a).any fun n => n != 0) = true := by
        cases hq : (((rowOf rs z.1).take a).any fun n => n != 0) with
        | true => rfl
        | false =>
          have h0 := take_any.mp hq z.1 (by omega)
          have h1 := S.lad.one z.1 hi
          unfold rv at h1
          exact absurd (Cg.of_eq (p := p) h0) (one_ne p2 h1)
      rw [this]
      rfl
  let ys' : List Int := (ys.filter fun y => decide ((a : Int) ≤ y)).map fun y => y - (a : Int)
  have epure : pureU a (ys.map fun y => rowOf rs y.toNat) = ys'.map fun y => rowOf (rsP a rs) y.toNat := by
    show _ = List.map _ (List.map _ (List.filter _ ys))
    unfold pureU
    rw [List.filter_map, List.map_map, List.map_map]
    have ef : (ys.filter ((fun row => !((row.take a).any fun n => n != 0)) ∘ fun y => rowOf rs y.toNat)) = ys.filter fun y => decide ((a : Int) ≤ y) := List.filter_congr fun y hy => by
      obtain ⟨i, hi, rfl⟩ := key y hy
      show (!(((rowOf rs ((i : Nat) : Int).toNat).take a).any fun n => n != 0)) = _
      rw [Int.toNat_natCast, hbeg i hi]
      exact decide_eq_decide.mpr (by omega)
    rw [ef]
    refine List.map_congr_left fun y hy => ?_
    obtain ⟨h1, h2⟩ := List.mem_filter.mp hy
    have h2 := of_decide_eq_true h2
    obtain ⟨i, hi, rfl⟩ := key y h1
    show (rowOf rs ((i : Nat) : Int).toNat).drop a = rowOf (rsP a rs) (((i : Nat) : Int) - (a : Int)).toNat
    rw [Int.toNat_natCast, show (((i : Nat) : Int) - (a : Int)).toNat = i - a by omega, rsP_row S.lad.nd (by rw [show a + (i - a) = i by omega]; exact hi), show a + (i - a) = i by omega]
  have pk : ys'.Perm (keysI (rsP a rs)) := by
    have h1 : ys'.Nodup := by
      have nd : ys.Nodup := hp.nodup_iff.mpr (keysI_nodup S.lad.nd)
      show (List.map _ (List.filter _ ys)).Nodup
      rw [List.nodup_iff_pairwise_ne, List.pairwise_map]
      exact (List.nodup_iff_pairwise_ne.mp (List.Nodup.sublist List.filter_sublist nd)).imp fun {a b} h e => h (by omega)
    refine (List.perm_ext_iff_of_nodup h1 (keysI_nodup L.nd)).mpr fun y => ?_
    rw [keysI_mem]
    show y ∈ List.map _ (List.filter _ ys) ↔ _
    rw [List.mem_map]
    constructor
    · rintro ⟨z, hz, rfl⟩
      obtain ⟨h1, h2⟩ := List.mem_filter.mp hz
      have h2 := of_decide_eq_true h2
      obtain ⟨i, hi, rfl⟩ := key z h1
      exact ⟨i - a, rsP_key.mpr (by rw [show a + (i - a) = i by omega]; exact hi), by omega⟩
    · rintro ⟨i, hi, rfl⟩
      have hi := rsP_key.mp hi
      exact ⟨((a + i : Nat) : Int), List.mem_filter.mpr ⟨hp.mem_iff.mpr (keysI_mem.mpr ⟨a + i, hi, rfl⟩), decide_eq_true (by omega)⟩, by omega⟩
  have pu : Up ys' := by
    show (List.map _ (List.filter _ ys)).Pairwise _
    rw [List.pairwise_map]
    exact (List.Pairwise.sublist List.filter_sublist hu).imp fun {a b} h => by omega
  have room : Same2 p (rungs ((rsP a rs).map (·.1)) (rv (rsP a rs))) (inRows (pureU a (ys.map fun y => rowOf rs y.toNat))) := by
    rw [epure]
    refine same2_of (fun v h => ?_) (fun v h => ?_)
    · obtain ⟨i, hi, rfl⟩ := h
      exact .row ⟨rowOf (rsP a rs) i, List.mem_map.mpr ⟨((i : Nat) : Int), pk.mem_iff.mpr (keysI_mem.mpr ⟨i, hi, rfl⟩), by rw [Int.toNat_natCast]⟩, rfl⟩
    · obtain ⟨l, hl, rfl⟩ := h
      obtain ⟨y, hy, rfl⟩ := List.mem_map.mp hl
      obtain ⟨i, hi, rfl⟩ := keysI_mem.mp (pk.mem_iff.mp hy)
      rw [Int.toNat_natCast]
      exact .row ⟨i, hi, rfl⟩
  exact ⟨⟨rsP a rs, ys', ⟨L, ok, room⟩, pk, pu, epure⟩, fun w => (room w).symm.trans (S.part_span w)⟩
end
end S4

namespace S4
open PySem L2 TT MM
/-! ### rows cut down to places -/
def cutV (v : Vc) (ord : List Int) : Vc := fun x => if x < ord.length then v (ord.getD x 0).toNat else 0
theorem vec_cut {r ord : List Int} (x : Nat) : vec (cutL r ord) x = cutV (vec r) ord x := by
  unfold cutV
  by_cases h : x < ord.length
  · rw [if_pos h]
    unfold vec cutL
    have e : (ord.map fun i => r.getD i.toNat 0)[x]? = some (r.getD (ord[x]).toNat 0) := by rw [List.getElem?_map, List.getElem?_eq_getElem h]; rfl
    rw [getD_at e, getD_at (List.getElem?_eq_getElem h)]
  · rw [if_neg h]
    exact vec_over (by unfold cutL; rw [List.length_map]; omega)
section
variable {p : Int} {wd : Nat} {rows : List (List Int)} {ord : List Int}
theorem cut_up {v : Vc} (h : Spn p (inRows rows) v) : Spn p (inRows (rows.map fun r => cutL r ord)) (cutV v ord) := by
  induction h with
  | @zero v h => exact .zero fun x => by unfold cutV; split; exact h _; exact .refl _
  | @add u r v c hu hr h ih =>
    obtain ⟨l, hl, rfl⟩ := hr
    refine .plus c ih (.row ⟨cutL l ord, List.mem_map.mpr ⟨l, hl, rfl⟩, rfl⟩) fun x => ?_
    rw [vec_cut]
    unfold cutV
    split
    · exact h _
    · exact .of_eq (by omega)
theorem cut_down {u : Vc} (h : Spn p (inRows (rows.map fun r => cutL r ord)) u) : ∃ v, Spn p (inRows rows) v ∧ ∀ x, Cg p (u x) (cutV v ord x) := by
  induction h with
  | @zero u h => exact ⟨fun _ => 0, .zero fun _ => .refl _, fun x => (h x).trans (.of_eq (by unfold cutV; split <;> rfl))⟩
  | @add u r v c hu hr h ih =>
    obtain ⟨w, w1, w2⟩ := ih
    obtain ⟨l, hl, rfl⟩ := hr
    obtain ⟨r, hr, rfl⟩ := List.mem_map.mp hl
    refine ⟨fun x => w x + c * vec r x, .plus c w1 (.row ⟨r, hr, rfl⟩) fun x => .refl _, fun x => (h x).trans (((w2 x).add ((Cg.refl c).mul (.of_eq (vec_cut x)))).trans (.of_eq ?_))⟩
    unfold cutV
    split
    · rfl
    · omega
end
section
variable {p : Int} {wd : Nat} {rows : List (List Int)} {kept : List Int}
theorem left_mem {x : Int} : x ∈ leftU wd kept ↔ x ∈ rng wd ∧ x ∉ kept := by
  unfold leftU
  rw [List.mem_filter]
  simp
theorem kept_bound (hin : ∀ x ∈ kept, 0 ≤ x ∧ x < (wd : Int)) : ∀ i ∈ leftU wd kept ++ kept, 0 ≤ i ∧ i < (wd : Int) := fun i hi => by
  rcases List.mem_append.mp hi with h | h
  · exact rng_mem.mp (left_mem.mp h).1
  · exact hin i h
theorem rest_lad (prm : Prm p) (hin : ∀ x ∈ kept, 0 ≤ x ∧ x < (wd : Int)) (hr : ∀ r ∈ rows, isRow r p wd) : IsLad p ((leftU wd kept).length + kept.length) (rows.map fun r => cutL r (leftU wd kept ++ kept)) (ladL p (leftU wd kept ++ kept).length (rows.map fun r => cutL r (leftU wd kept ++ kept))) := by
  rw [List.length_append]
  refine lad_ex prm fun r h => ?_
  obtain ⟨r, hr', rfl⟩ := List.mem_map.mp h
  have := cut_isRow (hr r hr') (kept_bound hin)
  rwa [List.length_append] at this
theorem rest_isLad (prm : Prm p) (hin : ∀ x ∈ kept, 0 ≤ x ∧ x < (wd : Int)) (hr : ∀ r ∈ rows, isRow r p wd) : IsLad p kept.length (restU p wd kept rows) (restU p wd kept rows) := (pure_lad prm.1 (rest_lad prm hin hr)).1
/-- what comes of rows at some places alone -/
theorem rest_span (prm : Prm p) (hin : ∀ x ∈ kept, 0 ≤ x ∧ x < (wd : Int)) (hr : ∀ r ∈ rows, isRow r p wd) (w : Vc) :
    Spn p (inRows (restU p wd kept rows)) w ↔ ∃ v, Spn p (inRows rows) v ∧ (∀ i, i < wd → (i : Int) ∉ kept → Cg p (v i) 0) ∧ ∀ x, Cg p (w x) (cutV v kept x) := by
  refine ((pure_lad prm.1 (rest_lad prm hin hr)).2 w).trans ?_
  have hleft : ∀ (v : Vc) x, x < (leftU wd kept).length → cutV v (leftU wd kept ++ kept) x = v ((leftU wd kept).getD x 0).toNat := fun v x hx => by
    unfold cutV
    rw [if_pos (by rw [List.length_append]; omega), List.getD_eq_getElem?_getD, List.getD_eq_getElem?_getD, List.getElem?_append_left hx]
  have hright : ∀ (v : Vc) x, cutV v (leftU wd kept ++ kept) ((leftU wd kept).length + x) = cutV v kept x := fun v x => by
    unfold cutV
    by_cases h : x < kept.length
    · rw [if_pos (by rw [List.length_append]; omega), if_pos h, List.getD_eq_getElem?_getD, List.getD_eq_getElem?_getD, List.getElem?_append_right (by omega), Nat.add_sub_cancel_left]
    · rw [if_neg (by rw [List.length_append]; omega), if_neg h]
  constructor
  · rintro ⟨u, u1, u2, u3⟩
    obtain ⟨v, v1, v2⟩ := cut_down u1
    refine ⟨v, v1, fun i hi hk => ?_, fun x => (u3 x).trans ((v2 _).trans (.of_eq (hright v x)))⟩
    have hm : (i : Int) ∈ leftU wd kept := left_mem.mpr ⟨rng_mem.mpr ⟨by omega, by omega⟩, hk⟩
    obtain ⟨x, hx⟩ := List.getElem?_of_mem hm
    have hxl := (List.getElem?_eq_some_iff.mp hx).1
    have := (v2 x).symm.trans (u2 x hxl)
    rw [hleft v x hxl, getD_at hx] at this
    rwa [Int.toNat_natCast] at this
  · rintro ⟨v, v1, v2, v3⟩
    refine ⟨cutV v (leftU wd kept ++ kept), cut_up v1, fun x hx => ?_, fun x => (v3 x).trans (.of_eq (hright v x).symm)⟩
    rw [hleft v x hx]
    have hx' : (leftU wd kept)[x]? = some ((leftU wd kept)[x]) := List.getElem?_eq_getElem hx
    rw [getD_at hx']
    obtain ⟨h1, h2⟩ := left_mem.mp (List.getElem_mem hx)
    obtain ⟨b0, b1⟩ := rng_mem.mp h1
    refine v2 _ (by omega) ?_
    rw [Int.toNat_of_nonneg b0]
    exact h2
/-- noughts but at some places -/
def At (p : Int) (kept : List Int) (v : Vc) : Prop := ∀ i : Nat, (i : Int) ∉ kept → Cg p (v i) 0
theorem spn_over {v : Vc} (hr : ∀ r ∈ rows, isRow r p wd) (h : Spn p (inRows rows) v) {x : Nat} (hx : wd ≤ x) : Cg p (v x) 0 := h.nought fun r ⟨l, hl, e⟩ => by
  rw [e, vec_over (by rw [isRow_len2 (hr l hl)]; exact hx)]
  exact .refl _
theorem rest_only {rows' : List (List Int)} (prm : Prm p) (hin : ∀ x ∈ kept, 0 ≤ x ∧ x < (wd : Int)) (hr : ∀ r ∈ rows, isRow r p wd) (hr' : ∀ r ∈ rows', isRow r p wd)
    (h : ∀ v, At p kept v → (Spn p (inRows rows) v ↔ Spn p (inRows rows') v)) : restU p wd kept rows = restU p wd kept rows' := by
  refine (rest_isLad prm hin hr).only (rest_isLad prm hin hr') prm.1 fun w => ?_
  show Spn p (inRows _) w ↔ Spn p (inRows _) w
  rw [rest_span prm hin hr, rest_span prm hin hr']
  have hat : ∀ (R : List (List Int)), (∀ r ∈ R, isRow r p wd) → ∀ v, Spn p (inRows R) v → (∀ i, i < wd → (i : Int) ∉ kept → Cg p (v i) 0) → At p kept v := fun R hR v hv hz i hi => by
    by_cases hw : i < wd
    · exact hz i hw hi
    · exact spn_over hR hv (by omega)
  constructor
  · rintro ⟨v, v1, v2, v3⟩
    exact ⟨v, (h v (hat _ hr v v1 v2)).mp v1, v2, v3⟩
  · rintro ⟨v, v1, v2, v3⟩
    exact ⟨v, (h v (hat _ hr' v v1 v2)).mpr v1, v2, v3⟩
/-! ### a row told of some places, put to all -/
def sprL (wd : Nat) (kept : List Int) (step : List Int) : List Int := (List.range wd).map fun (i : Nat) => if (i : Int) ∈ kept then step.getD (kept.idxOf (i : Int)) 0 else 0
theorem spr_vec {step : List Int} (nd : kept.Nodup) (hin : ∀ x ∈ kept, 0 ≤ x ∧ x < (wd : Int)) :
    (∀ i : Nat, (i : Int) ∉ kept → vec (sprL wd kept step) i = 0) ∧ ∀ x (hx : x < kept.length), vec (sprL wd kept step) (kept[x]).toNat = vec step x := by
  constructor
  · intro i hi
    by_cases hw : i < wd
    · unfold sprL
      rw [vec_map hw, if_neg hi]
    · exact vec_over (by unfold sprL; rw [List.length_map, List.length_range]; omega)
  · intro x hx
    obtain ⟨b0, b1⟩ := hin _ (List.getElem_mem hx)
    unfold sprL
    rw [vec_map (by omega), Int.toNat_of_nonneg b0, if_pos (List.getElem_mem hx), nd.idxOf_getElem x hx]
    rfl
theorem spr_cut {step : List Int} (nd : kept.Nodup) (hin : ∀ x ∈ kept, 0 ≤ x ∧ x < (wd : Int)) (hl : step.length = kept.length) (x : Nat) : cutV (vec (sprL wd kept step)) kept x = vec step x := by
  unfold cutV
  by_cases h : x < kept.length
  · rw [if_pos h, getD_at (List.getElem?_eq_getElem h)]
    exact (spr_vec nd hin).2 x h
  · rw [if_neg h, vec_over (by omega)]
theorem at_cut {v w : Vc} (hv : At p kept v) (hw : At p kept w) (hin : ∀ x ∈ kept, 0 ≤ x ∧ x < (wd : Int)) (h : ∀ x, Cg p (cutV v kept x) (cutV w kept x)) : ∀ i, Cg p (v i) (w i) := fun i => by
  by_cases hk : (i : Int) ∈ kept
  · obtain ⟨x, hx⟩ := List.getElem?_of_mem hk
    have hxl := (List.getElem?_eq_some_iff.mp hx).1
    have := h x
    unfold cutV at this
    rw [if_pos hxl, if_pos hxl, getD_at hx, Int.toNat_natCast] at this
    exact this
  · exact (hv i hk).trans (hw i hk).symm
theorem at_spread (nd : kept.Nodup) (hin : ∀ x ∈ kept, 0 ≤ x ∧ x < (wd : Int)) (step : List Int) : At p kept (vec (sprL wd kept step)) := fun i hi => .of_eq ((spr_vec nd hin).1 i hi)
/-- what told rows span, put to all places -/
theorem spread_span (prm : Prm p) (nd : kept.Nodup) (hin : ∀ x ∈ kept, 0 ≤ x ∧ x < (wd : Int)) (hr : ∀ r ∈ rows, isRow r p wd) (v : Vc) :
    Spn p (inRows ((restU p wd kept rows).map (sprL wd kept))) v ↔ Spn p (inRows rows) v ∧ At p kept v := by
  have hat0 : ∀ v, Spn p (inRows rows) v → (∀ i, i < wd → (i : Int) ∉ kept → Cg p (v i) 0) → At p kept v := fun v hv hz i hi => by
    by_cases hw : i < wd
    · exact hz i hw hi
    · exact spn_over hr hv (by omega)
  have hlen : ∀ s ∈ restU p wd kept rows, s.length = kept.length := fun s hs => isRow_len2 ((rest_isLad prm hin hr).rows.2 s hs)
  constructor
  · intro h
    have hrow : ∀ r, inRows ((restU p wd kept rows).map (sprL wd kept)) r → Spn p (inRows rows) r ∧ At p kept r := fun r hr' => by
      obtain ⟨l, hl, rfl⟩ := hr'
      obtain ⟨s, hs, rfl⟩ := List.mem_map.mp hl
      obtain ⟨w, w1, w2, w3⟩ := (rest_span prm hin hr _).mp (.row ⟨s, hs, rfl⟩)
      have ha := at_spread (p := p) nd hin s
      refine ⟨w1.cg (at_cut ha (hat0 w w1 w2) hin fun x => ?_), ha⟩
      rw [spr_cut nd hin (hlen s hs)]
      exact w3 x
    refine ⟨h.sub fun r hr' => (hrow r hr').1, fun i hi => h.nought fun r hr' => (hrow r hr').2 i hi⟩
  · rintro ⟨h1, h2⟩
    have h3 := (rest_span prm hin hr (cutV v kept)).mpr ⟨v, h1, fun i _ hi => h2 i hi, fun x => .refl _⟩
    have go : ∀ w, Spn p (inRows (restU p wd kept rows)) w → ∃ u, Spn p (inRows ((restU p wd kept rows).map (sprL wd kept))) u ∧ At p kept u ∧ ∀ x, Cg p (w x) (cutV u kept x) := fun w hw => by
      induction hw with
      | @zero w h => exact ⟨fun _ => 0, .zero fun _ => .refl _, fun _ _ => .refl _, fun x => (h x).trans (.of_eq (by unfold cutV; split <;> rfl))⟩
      | @add u r w c hu hr' h ih =>
        obtain ⟨y, y1, y2, y3⟩ := ih
        obtain ⟨s, hs, rfl⟩ := hr'
        refine ⟨fun x => y x + c * vec (sprL wd kept s) x, .plus c y1 (.row ⟨_, List.mem_map.mpr ⟨s, hs, rfl⟩, rfl⟩) fun x => .refl _, fun i hi => ?_, fun x => (h x).trans ?_⟩
        · have := (y2 i hi).add ((Cg.refl c).mul (at_spread (p := p) nd hin s i hi))
          rwa [Int.mul_zero, Int.add_zero] at this
        · have := (y3 x).add ((Cg.refl (p := p) c).mul (Cg.of_eq (spr_cut nd hin (hlen s hs) x).symm))
          refine this.trans (.of_eq ?_)
          unfold cutV
          split
          · rfl
          · omega
    obtain ⟨u, u1, u2, u3⟩ := go _ h3
    exact u1.cg (at_cut h2 u2 hin u3)
end
end S4

namespace S4
open PySem L2 TT MM
/-! ### sides of a tree -/
section
variable {ties : List (Int × Int)} {post o t x : Int}
theorem side_in (r : Rooted ties post) (ho : o ∈ nb ties post) (ht : t ∈ nb ties post) (hne : o ≠ t) (h : Rch ties (some post) o x) : Rch ties (some t) post x := by
  induction h with
  | refl => exact .step .refl ho (fun e => hne (Option.some.inj e).symm)
  | @step u v hu hv hb ih =>
    refine .step ih hv fun e => ?_
    have e := Option.some.inj e
    subst e
    exact sides_apart r ho (.step .refl ht fun e => hne (Option.some.inj e)) (.step hu hv hb)
theorem side_disj (r : Rooted ties post) (ho : o ∈ nb ties post) (ht : t ∈ nb ties post) (hne : o ≠ t) (h1 : Rch ties (some post) o x) (h2 : Rch ties (some post) t x) : False :=
  sides_apart r ht (side_in r ho ht hne h1) h2
theorem side_split (h : Rch ties (some t) post x) : x = post ∨ ∃ o ∈ nb ties post, o ≠ t ∧ Rch ties (some post) o x := by
  induction h with
  | refl => exact .inl rfl
  | @step u v hu hv hb ih =>
    rcases ih with rfl | ⟨o, h1, h2, h3⟩
    · exact .inr ⟨v, hv, fun e => hb (by rw [e]), .refl⟩
    · by_cases e : v = post
      · exact .inl e
      · exact .inr ⟨o, h1, h2, .step h3 hv fun q => e (Option.some.inj q).symm⟩
theorem all_split (h : Rch ties none post x) : x = post ∨ ∃ o ∈ nb ties post, Rch ties (some post) o x := by
  induction h with
  | refl => exact .inl rfl
  | @step u v hu hv hb ih =>
    rcases ih with rfl | ⟨o, h1, h3⟩
    · exact .inr ⟨v, hv, .refl⟩
    · by_cases e : v = post
      · exact .inl e
      · exact .inr ⟨o, h1, .step h3 hv fun q => e (Option.some.inj q).symm⟩
end
/-! ### whose unknown a place is -/
theorem held_of {unk : List Int} {post i : Int} (h1 : (unk.take post.toNat).sum ≤ i) (h2 : i < (unk.take post.toNat).sum + unk.getD post.toNat 0) : i ∈ heldL unk post := by
  unfold heldL
  exact List.mem_map.mpr ⟨(i - (unk.take post.toNat).sum).toNat, List.mem_range.mpr (by omega), by omega⟩
theorem held_uniq {unk : List Int} {n : Nat} (ok : CountsOk unk n) {a b i : Int} (a0 : 0 ≤ a) (b0 : 0 ≤ b) (h1 : i ∈ heldL unk a) (h2 : i ∈ heldL unk b) : a = b := by
  have g1 := held_in ok h1
  have g2 := held_in ok h2
  rcases Int.lt_trichotomy a b with h | h | h
  · have := take_sum_step (fun x hx => (ok.b x hx).1) (a := a.toNat) (b := b.toNat) (by omega)
    omega
  · exact h
  · have := take_sum_step (fun x hx => (ok.b x hx).1) (a := b.toNat) (b := a.toNat) (by omega)
    omega
theorem cover_nat : ∀ {unk : List Int} {i : Int}, 0 ≤ i → i < unk.sum → ∃ k, k < unk.length ∧ (unk.take k).sum ≤ i ∧ i < (unk.take k).sum + unk.getD k 0
  | [], i, h0, h1 => by simp at h1; omega
  | a :: l, i, h0, h1 => by
    rw [List.sum_cons] at h1
    by_cases h : i < a
    · exact ⟨0, by simp, by simpa using h0, by simpa using h⟩
    · obtain ⟨k, k1, k2, k3⟩ := cover_nat (unk := l) (i := i - a) (by omega) (by omega)
      refine ⟨k + 1, by simpa using k1, ?_, ?_⟩
      · rw [List.take_succ_cons, List.sum_cons]; omega
      · rw [List.take_succ_cons, List.sum_cons, List.getD_cons_succ]; omega
theorem held_cover {unk : List Int} {n : Nat} (ok : CountsOk unk n) {i : Int} (h0 : 0 ≤ i) (h1 : i < unk.sum) : ∃ q ∈ rng n, i ∈ heldL unk q := by
  obtain ⟨k, k1, k2, k3⟩ := cover_nat h0 h1
  have := ok.len
  exact ⟨(k : Int), rng_mem.mpr ⟨by omega, by omega⟩, held_of (by rw [Int.toNat_natCast]; exact k2) (by rw [Int.toNat_natCast]; exact k3)⟩
/-! ### sums over a list of posts -/
def sumI (L : List Int) (f : Int → Int) : Int := (L.map f).sum
theorem sumI_cons (i : Int) (L : List Int) (f : Int → Int) : sumI (i :: L) f = f i + sumI L f := by unfold sumI; rw [List.map_cons, List.sum_cons]
theorem sumI_cg {p : Int} {L : List Int} {f g : Int → Int} (h : ∀ i ∈ L, Cg p (f i) (g i)) : Cg p (sumI L f) (sumI L g) := by
  induction L with
  | nil => exact .refl _
  | cons i L ih =>
    rw [sumI_cons, sumI_cons]
    exact (h i (by simp)).add (ih fun j hj => h j (by simp [hj]))
theorem sumI_upd {L : List Int} (nd : L.Nodup) {o : Int} (ho : o ∈ L) (f : Int → Int) (d : Int) : sumI L (fun i => if i = o then f i + d else f i) = sumI L f + d := by
  induction L with
  | nil => cases ho
  | cons i L ih =>
    obtain ⟨n1, n2⟩ := List.nodup_cons.mp nd
    rw [sumI_cons, sumI_cons]
    by_cases e : i = o
    · subst e
      rw [if_pos rfl]
      have : sumI L (fun j => if j = i then f j + d else f j) = sumI L f := by
        unfold sumI
        congr 1
        refine List.map_congr_left fun j hj => ?_
        rw [if_neg (fun q => n1 (by rw [← q]; exact hj))]
      rw [this]
      omega
    · rw [if_neg e]
      have ho' : o ∈ L := by
        rcases List.mem_cons.mp ho with q | q
        · exact absurd q.symm e
        · exact q
      rw [ih n2 ho']
      omega
theorem sumI_one {p : Int} {L : List Int} (nd : L.Nodup) {o : Int} (ho : o ∈ L) {f : Int → Int} (h : ∀ i ∈ L, i ≠ o → Cg p (f i) 0) : Cg p (sumI L f) (f o) := by
  have h1 : Cg p (sumI L f) (sumI L fun i => if i = o then 0 + f o else 0) := sumI_cg fun i hi => by
    by_cases e : i = o
    · rw [if_pos e, e]; exact .of_eq (by omega)
    · rw [if_neg e]; exact h i hi e
  rw [sumI_upd nd ho (fun _ => 0) (f o)] at h1
  have : sumI L (fun _ => 0) = 0 := by
    unfold sumI
    clear h h1 ho nd
    induction L with
    | nil => rfl
    | cons a L ih => rw [List.map_cons, List.sum_cons, ih]; rfl
  rw [this, Int.zero_add] at h1
  exact h1
theorem sumI_zero {p : Int} {L : List Int} {f : Int → Int} (h : ∀ i ∈ L, Cg p (f i) 0) : Cg p (sumI L f) 0 := by
  have := sumI_cg (g := fun _ => 0) h
  have e : sumI L (fun _ => 0) = 0 := by
    unfold sumI
    clear h this
    induction L with
    | nil => rfl
    | cons a L ih => rw [List.map_cons, List.sum_cons, ih]; rfl
  rwa [e] at this
/-! ### what the rules of a side are about -/
section
variable {S : RD} {n wd : Nat}
theorem rowsT_mem {posts : List Int} {l : List Int} : l ∈ rowsT S posts ↔ ∃ q ∈ posts, ∃ r ∈ S.rules.getD q.toNat [], l = r.1 ++ [r.2] := by
  unfold rowsT
  rw [List.mem_flatMap]
  constructor
  · rintro ⟨q, hq, h⟩
    obtain ⟨r, hr, rfl⟩ := List.mem_map.mp h
    exact ⟨q, hq, r, hr, rfl⟩
  · rintro ⟨q, hq, r, hr, rfl⟩
    exact ⟨q, hq, List.mem_map.mpr ⟨r, hr, rfl⟩⟩
theorem row_supp (ok : RulesOk S n) (hwd : S.unk.sum = (wd : Int)) {q : Int} (hq : q ∈ rng n) {r : Rule} (hr : r ∈ S.rules.getD q.toNat []) {i : Nat} (hi : i ≠ wd) (hn : ¬ nearU S.ties S.unk q (i : Int)) : vec (r.1 ++ [r.2]) i = 0 := by
  obtain ⟨q0, q1⟩ := rng_mem.mp hq
  have hlen := ok.len
  have hx : S.rules[q.toNat]? = some (S.rules[q.toNat]'(by omega)) := List.getElem?_eq_getElem (by omega)
  rw [getD_at hx] at hr
  have rk := ok.ok _ _ hx r hr
  have hl := rk.row.1
  rw [Int.toNat_of_nonneg q0] at rk
  by_cases h : i < wd
  · have hi' : r.1[i]? = some (r.1[i]'(by omega)) := List.getElem?_eq_getElem (by omega)
    unfold vec
    rw [List.getD_eq_getElem?_getD, List.getElem?_append_left (by omega), hi']
    rcases rk.near i _ hi' with h0 | h0
    · exact h0
    · exact absurd h0 hn
  · exact vec_over (by rw [List.length_append, List.length_singleton]; omega)
theorem side_rng {z : Int × Int} {q : Int} (h : q ∈ sideOf S.ties n z) : q ∈ rng n := (side_mem.mp h).1
theorem supp_side (ok : RulesOk S n) (hwd : S.unk.sum = (wd : Int)) {o post : Int} {v : Vc} (h : Spn S.p (inRows (rowsT S (sideOf S.ties n (o, post)))) v) {i : Nat} (hi : i ≠ wd)
    (hn : ∀ q, q ∈ sideOf S.ties n (o, post) ∨ q = post → (i : Int) ∉ heldL S.unk q) : Cg S.p (v i) 0 := by
  refine h.nought fun r hr => ?_
  obtain ⟨l, hl, rfl⟩ := hr
  obtain ⟨q, hq, r, hr, rfl⟩ := rowsT_mem.mp hl
  refine .of_eq (row_supp ok hwd (side_rng hq) hr hi fun hnear => ?_)
  rcases hnear with h1 | ⟨t, ht, h1⟩
  · exact hn q (.inl hq) h1
  · by_cases e : t = post
    · exact hn t (.inr e) h1
    · obtain ⟨a1, a2⟩ := side_mem.mp hq
      exact hn t (.inl (side_mem.mpr ⟨ok.tree.ok.shut.cl _ a1 _ ht, .step a2 ht fun q => e (Option.some.inj q).symm⟩)) h1
theorem rowsT_isRow (ok : RulesOk S n) (hwd : S.unk.sum = (wd : Int)) {ps : List Int} (hin : ∀ x ∈ ps, x ∈ rng n) : ∀ r ∈ rowsT S ps, isRow r S.p ((wd + 1 : Nat) : Int) := rowsT_row ok hin hwd
/-- parted by the sides -/
theorem parted (ok : RulesOk S n) {post : Int} {L ps : List Int} (hL : L.Nodup) (hps : ∀ q ∈ ps, q = post ∨ ∃ o ∈ L, q ∈ sideOf S.ties n (o, post)) {v : Vc} (h : Spn S.p (inRows (rowsT S ps)) v) :
    ∃ (u : Vc) (U : Int → Vc), Spn S.p (inRows (rowsT S [post])) u ∧ (∀ o, Spn S.p (inRows (rowsT S (sideOf S.ties n (o, post)))) (U o)) ∧ ∀ x, Cg S.p (v x) (u x + sumI L fun o => U o x) := by
  induction h with
  | @zero v h => exact ⟨fun _ => 0, fun _ _ => 0, .zero fun _ => .refl _, fun _ => .zero fun _ => .refl _, fun x => (h x).trans (by
      have := sumI_zero (p := S.p) (L := L) (f := fun _ => 0) fun _ _ => .refl _
      have h2 := (Cg.refl (p := S.p) 0).add this
      rw [Int.add_zero] at h2
      exact h2.symm)⟩
  | @add u0 r v c hu hr h ih =>
    obtain ⟨u, U, h1, h2, h3⟩ := ih
    obtain ⟨l, hl, rfl⟩ := hr
    obtain ⟨q, hq, r, hr, rfl⟩ := rowsT_mem.mp hl
    rcases hps q hq with e | ⟨o, ho, hqo⟩
    · subst e
      refine ⟨fun x => u x + c * vec (r.1 ++ [r.2]) x, U, .plus c h1 (.row ⟨_, rowsT_mem.mpr ⟨q, by simp, r, hr, rfl⟩, rfl⟩) fun x => .refl _, h2, fun x => (h x).trans (((h3 x).add (.refl _)).trans (.of_eq (by dsimp only; omega)))⟩
    · refine ⟨u, fun o' x => if o' = o then U o' x + c * vec (r.1 ++ [r.2]) x else U o' x, h1, fun o' => ?_, fun x => (h x).trans (((h3 x).add (.refl _)).trans (.of_eq ?_))⟩
      · by_cases e : o' = o
        · subst e
          refine .plus c (h2 o') (.row ⟨_, rowsT_mem.mpr ⟨q, hqo, r, hr, rfl⟩, rfl⟩) fun x => .of_eq ?_
          dsimp only
          rw [if_pos rfl]
        · refine (h2 o').cg fun x => .of_eq ?_
          dsimp only
          rw [if_neg e]
      · rw [sumI_upd hL ho (fun o' => U o' x)]
        omega
/-- THE FACT OF TIDINGS -/
theorem fact (ok : RulesOk S n) (hwd : S.unk.sum = (wd : Int)) {post : Int} (hp : post ∈ rng n) {L ps kept : List Int} (hL : L.Nodup) (hLn : ∀ o ∈ L, o ∈ nb S.ties post) (hpr : ∀ q ∈ ps, q ∈ rng n)
    (hps : ∀ q ∈ ps, q = post ∨ ∃ o ∈ L, q ∈ sideOf S.ties n (o, post)) (hp2 : post ∈ ps) (hps2 : ∀ o ∈ L, ∀ q ∈ sideOf S.ties n (o, post), q ∈ ps)
    (hkin : ∀ x ∈ kept, 0 ≤ x ∧ x < ((wd + 1 : Nat) : Int)) (hk : ∀ i ∈ kept, i = (wd : Int) ∨ i ∈ heldL S.unk post ∨ ∃ t ∈ nb S.ties post, t ∉ L ∧ i ∈ heldL S.unk t) :
    restU S.p (wd + 1) kept (rowsT S ps) = restU S.p (wd + 1) kept (rowsT S [post] ++ L.flatMap fun o => (tidU S n (o, post)).map (sprL (wd + 1) (keptU S.unk (o, post) ++ [(wd : Int)]))) := by
  have prm := ok.clock.prm
  have hrt : Rooted S.ties post := by obtain ⟨a, b⟩ := rng_mem.mp hp; exact ok.tree.rt _ a b
  have nbr : ∀ o ∈ nb S.ties post, o ∈ rng n := fun o ho => ok.tree.ok.shut.cl _ hp _ ho
  have hsr : ∀ o, ∀ x ∈ sideOf S.ties n (o, post), x ∈ rng n := fun o x hx => side_rng hx
  have hne : ∀ o ∈ nb S.ties post, o ≠ post := fun o ho e => by
    subst e
    rcases nb_mem.mp ho with h | h <;> · have := ok.tree.ok.b0 _ h; simp only at this; omega
  -- the told rows, put to all places, span what the side spans there
  have kin : ∀ o ∈ L, ∀ x ∈ keptU S.unk (o, post) ++ [(wd : Int)], 0 ≤ x ∧ x < ((wd + 1 : Nat) : Int) := fun o _ x hx => by
    rcases List.mem_append.mp hx with h | h
    · rcases List.mem_append.mp h with h | h <;> · have := held_lt ok.unk h; omega
    · rw [List.mem_singleton.mp h]; omega
  have knd : ∀ o ∈ L, (keptU S.unk (o, post) ++ [(wd : Int)]).Nodup := fun o ho => by
    obtain ⟨a0, a1⟩ := rng_mem.mp (nbr o (hLn o ho))
    obtain ⟨b0, b1⟩ := rng_mem.mp hp
    rw [List.nodup_append]
    refine ⟨kept_nodup ok.unk a0 b0 (hne o (hLn o ho)), by simp, fun a ha b hb e => ?_⟩
    rw [List.mem_singleton.mp hb] at e
    subst e
    rcases List.mem_append.mp ha with h | h <;> · have := held_lt ok.unk h; omega
  have way : ∀ o ∈ L, WayR S n (o, post) := fun o ho => by
    obtain ⟨a0, a1⟩ := rng_mem.mp (nbr o (hLn o ho))
    obtain ⟨b0, b1⟩ := rng_mem.mp hp
    refine ⟨a0, b0, a1, b1, ?_⟩
    rcases nb_mem.mp (hLn o ho) with h | h
    · exact .inr h
    · exact .inl h
  have told : ∀ o ∈ L, ∀ v, Spn S.p (inRows ((tidU S n (o, post)).map (sprL (wd + 1) (keptU S.unk (o, post) ++ [(wd : Int)])))) v ↔ Spn S.p (inRows (rowsT S (sideOf S.ties n (o, post)))) v ∧ At S.p (keptU S.unk (o, post) ++ [(wd : Int)]) v := fun o ho v => by
    rw [← rest_tid ok (way o ho) rfl hwd]
    exact spread_span prm (knd o ho) (kin o ho) (rowsT_isRow ok hwd (hsr o)) v
  have sprow : ∀ o ∈ L, ∀ r ∈ (tidU S n (o, post)).map (sprL (wd + 1) (keptU S.unk (o, post) ++ [(wd : Int)])), isRow r S.p ((wd + 1 : Nat) : Int) := fun o ho r hr => by
    obtain ⟨s, hs, rfl⟩ := List.mem_map.mp hr
    rw [← rest_tid ok (way o ho) rfl hwd] at hs
    have hs2 := ((rest_isLad prm (kin o ho) (rowsT_isRow ok hwd (hsr o))).rows.2 s hs)
    refine ⟨by unfold sprL; rw [List.length_map, List.length_range], fun x hx => ?_⟩
    unfold sprL at hx
    obtain ⟨i, _, rfl⟩ := List.mem_map.mp hx
    have p2 := prm.1
    split
    · exact getD_in (by omega) hs2.2 _
    · omega
  refine rest_only prm hkin (rowsT_isRow ok hwd hpr) (fun r hr => ?_) fun v hv => ⟨fun h => ?_, fun h => ?_⟩
  · rcases List.mem_append.mp hr with h | h
    · exact rowsT_isRow ok hwd (ps := [post]) (fun x hx => by rw [List.mem_singleton.mp hx]; exact hp) r h
    · obtain ⟨o, ho, h⟩ := List.mem_flatMap.mp h
      exact sprow o ho r h
  · obtain ⟨u, U, h1, h2, h3⟩ := parted ok hL hps h
    have hat : ∀ o ∈ L, At S.p (keptU S.unk (o, post) ++ [(wd : Int)]) (U o) := fun o ho i hi => by
      have hiw : i ≠ wd := fun e => hi (by rw [e]; simp)
      have hio : (i : Int) ∉ heldL S.unk o := fun e => hi (List.mem_append_left _ (List.mem_append_left _ e))
      have hip : (i : Int) ∉ heldL S.unk post := fun e => hi (List.mem_append_left _ (List.mem_append_right _ e))
      by_cases hlt : i < wd
      · obtain ⟨q, hq, hqi⟩ := held_cover ok.unk (i := (i : Int)) (by omega) (by omega)
        have uq : ∀ q', q' ∈ rng n → (i : Int) ∈ heldL S.unk q' → q' = q := fun q' h' hi' => held_uniq ok.unk (rng_mem.mp h').1 (rng_mem.mp hq).1 hi' hqi
        have off : ∀ o', q ∉ sideOf S.ties n (o', post) → Cg S.p (U o' i) 0 := fun o' hno => supp_side ok hwd (h2 o') hiw fun q' h' hi' => by
          rcases h' with h' | h'
          · exact hno (by rw [← uq q' (hsr o' q' h') hi']; exact h')
          · subst h'; exact hip hi'
        by_cases hqs : q ∈ sideOf S.ties n (o, post)
        · have hqR := (side_mem.mp hqs).2
          have hqo : q ≠ o := fun e => hio (by rw [← e]; exact hqi)
          have hqp : q ≠ post := fun e => hip (by rw [← e]; exact hqi)
          have nbq : q ∉ nb S.ties post := fun hn => side_disj hrt (hLn o ho) hn hqo.symm hqR .refl
          have v0 : Cg S.p (v i) 0 := hv i fun hki => by
            rcases hk _ hki with e | e | ⟨t, t1, t2, t3⟩
            · exact hiw (by omega)
            · exact hip e
            · have := uq t (nbr t t1) t3
              subst this
              exact nbq t1
          have u0 : Cg S.p (u i) 0 := h1.nought fun r hr => by
            obtain ⟨l, hl, rfl⟩ := hr
            obtain ⟨q', hq', r, hr, rfl⟩ := rowsT_mem.mp hl
            have := List.mem_singleton.mp hq'
            subst this
            refine .of_eq (row_supp ok hwd hp hr hiw fun hn => ?_)
            rcases hn with h | ⟨t, ht, h⟩
            · exact hip h
            · have := uq t (nbr t ht) h
              subst this
              exact nbq ht
          have s0 : Cg S.p (sumI L fun o' => U o' i) (U o i) := sumI_one hL ho fun o' ho' hne' => off o' fun hm => side_disj hrt (hLn o' ho') (hLn o ho) hne' (side_mem.mp hm).2 hqR
          have h4 := (h3 i).symm.trans v0
          have h5 := (u0.add s0).symm.trans h4
          rwa [Int.zero_add] at h5
        · exact off o hqs
      · exact spn_over (rowsT_isRow ok hwd (hsr o)) (h2 o) (by omega)
    have hsum : ∀ M : List Int, (∀ o ∈ M, o ∈ L) → Spn S.p (inRows (rowsT S [post] ++ L.flatMap fun o => (tidU S n (o, post)).map (sprL (wd + 1) (keptU S.unk (o, post) ++ [(wd : Int)])))) fun x => sumI M fun o => U o x := fun M => by
      induction M with
      | nil => intro _; exact .zero fun x => .refl _
      | cons o M ih =>
        intro hM
        have ho := hM o (by simp)
        have g1 := ih fun o' h' => hM o' (by simp [h'])
        have g2 := ((told o ho (U o)).mpr ⟨h2 o, hat o ho⟩).mono (R' := inRows (rowsT S [post] ++ L.flatMap fun o => (tidU S n (o, post)).map (sprL (wd + 1) (keptU S.unk (o, post) ++ [(wd : Int)])))) fun r ⟨l, hl, e⟩ => ⟨l, List.mem_append_right _ (List.mem_flatMap.mpr ⟨o, ho, hl⟩), e⟩
        refine .plus 1 g1 g2 fun x => .of_eq ?_
        rw [sumI_cons]
        omega
    have g0 := h1.mono (R' := inRows (rowsT S [post] ++ L.flatMap fun o => (tidU S n (o, post)).map (sprL (wd + 1) (keptU S.unk (o, post) ++ [(wd : Int)])))) fun r ⟨l, hl, e⟩ => ⟨l, List.mem_append_left _ hl, e⟩
    refine .plus 1 g0 (hsum L fun o ho => ho) fun x => (h3 x).trans (.of_eq (by omega))
  · refine h.sub fun r ⟨l, hl, e⟩ => ?_
    subst e
    rcases List.mem_append.mp hl with hl | hl
    · obtain ⟨q, hq, r, hr, rfl⟩ := rowsT_mem.mp hl
      have := List.mem_singleton.mp hq
      subst this
      exact .row ⟨_, rowsT_mem.mpr ⟨q, hp2, r, hr, rfl⟩, rfl⟩
    · obtain ⟨o, ho, hl⟩ := List.mem_flatMap.mp hl
      refine ((told o ho _).mp (.row ⟨l, hl, rfl⟩)).1.mono fun r ⟨l, hl, e⟩ => ?_
      obtain ⟨q, hq, r, hr, rfl⟩ := rowsT_mem.mp hl
      exact ⟨_, rowsT_mem.mpr ⟨q, hps2 o ho q hq, r, hr, rfl⟩, e⟩
end
end S4

namespace S4
open PySem L2 TT MM
/-! ### a ladder by its places, ascending -/
theorem rowOf_perm {rs rs' : RG} (nd : (rs.map (·.1)).Nodup) (h : rs.Perm rs') {i : Nat} (hi : i ∈ rs.map (·.1)) : rowOf rs i = rowOf rs' i := by
  obtain ⟨z, hz, rfl⟩ := List.mem_map.mp hi
  rw [rowOf_mem nd hz, rowOf_mem ((h.map (·.1)).nodup_iff.mp nd) (h.mem_iff.mp hz)]
theorem St1.perm {p : Int} {wd : Nat} {rs rs' : RG} {rows : List (List Int)} (S : St1 p wd rs rows) (h : rs.Perm rs') : St1 p wd rs' rows := by
  have hk : ∀ i, i ∈ rs.map (·.1) ↔ i ∈ rs'.map (·.1) := fun i => (h.map (·.1)).mem_iff
  have hr : ∀ i ∈ rs.map (·.1), rv rs i = rv rs' i := fun i hi => by unfold rv; rw [rowOf_perm S.lad.nd h hi]
  refine ⟨⟨(h.map (·.1)).nodup_iff.mp S.lad.nd, fun i hi => ?_, fun i hi j hj e => ?_, fun i hi x hx => ?_⟩, fun z hz => S.ok z (h.mem_iff.mpr hz), fun v => Iff.trans ?_ (S.room v)⟩
  · rw [← hr i ((hk i).mpr hi)]; exact S.lad.one i ((hk i).mpr hi)
  · rw [← hr i ((hk i).mpr hi)]; exact S.lad.off i ((hk i).mpr hi) j ((hk j).mpr hj) e
  · rw [← hr i ((hk i).mpr hi)]; exact S.lad.low i ((hk i).mpr hi) x hx
  · refine ⟨fun h => h.mono fun r ⟨i, hi, e⟩ => ⟨i, (hk i).mpr hi, by rw [e, hr i ((hk i).mpr hi)]⟩, fun h => h.mono fun r ⟨i, hi, e⟩ => ⟨i, (hk i).mp hi, by rw [e, hr i hi]⟩⟩
/-- the first place of a row of a ladder -/
structure Lead (z : Nat × List Int) : Prop where
  one : z.2.getD z.1 0 = 1
  low : ∀ x, x < z.1 → z.2.getD x 0 = 0
theorem St1.lead {p : Int} {wd : Nat} {rs : RG} {rows : List (List Int)} (p2 : 2 ≤ p) (S : St1 p wd rs rows) {z : Nat × List Int} (hz : z ∈ rs) : Lead z := by
  have hi : z.1 ∈ rs.map (·.1) := List.mem_map.mpr ⟨z, hz, rfl⟩
  have h1 := S.lad.one z.1 hi
  have h2 := S.lad.low z.1 hi
  unfold rv at h1 h2
  rw [rowOf_mem S.lad.nd hz] at h1 h2
  have hin := (S.ok z hz).2.2
  refine ⟨?_, fun x hx => ?_⟩
  · have b := getD_in (by omega) hin z.1
    exact h1.eq b.1 b.2 (by omega) (by omega)
  · have b := getD_in (by omega) hin x
    exact (h2 x hx).zero_of b.1 b.2
theorem IsLad.rsc {p : Int} {wd : Nat} {rows lad : List (List Int)} (h : IsLad p wd rows lad) : ∃ rs : RG, St1 p wd rs rows ∧ lad = rs.map (·.2) := by
  obtain ⟨rs, ys, S, hp, hu, rfl⟩ := h
  refine ⟨ys.map fun y => (y.toNat, rowOf rs y.toNat), S.perm ?_, by rw [List.map_map]; rfl⟩
  have h1 := hp.map fun y => (y.toNat, rowOf rs y.toNat)
  refine (h1.trans (.of_eq ?_)).symm
  unfold keysI
  rw [List.map_map]
  refine (List.map_congr_left fun z hz => ?_).trans (List.map_id rs)
  show ((((z.1 : Nat) : Int)).toNat, rowOf rs (((z.1 : Nat) : Int)).toNat) = z
  rw [Int.toNat_natCast, rowOf_mem S.lad.nd hz]
/-! ### what can be added to solutions -/
def kerRow (p : Int) (rs : RG) (wd k : Nat) : List Int := (List.range wd).map fun x => if x = k then 1 else if x ∈ rs.map (·.1) then (-((rowOf rs x).getD k 0)) % p else 0
def kerL (p : Int) (wd : Nat) (rs : RG) : List (List Int) := (List.range wd).filterMap fun k => if k ∈ rs.map (·.1) then none else some (kerRow p rs wd k)
theorem kerL_only {p : Int} {wd : Nat} {rs rs' : RG} {rows : List (List Int)} (p2 : 2 ≤ p) (S : St1 p wd rs rows) (S' : St1 p wd rs' rows) : kerL p wd rs = kerL p wd rs' := by
  obtain ⟨k1, k2⟩ := S.only S' p2 fun _ => Iff.rfl
  have hr : ∀ i ∈ rs.map (·.1), rowOf rs i = rowOf rs' i := fun i hi => by
    obtain ⟨z, hz, rfl⟩ := List.mem_map.mp hi
    rw [rowOf_mem S.lad.nd hz, rowOf_mem S'.lad.nd (k2 z hz)]
  have er : ∀ k, kerRow p rs wd k = kerRow p rs' wd k := fun k => by
    unfold kerRow
    refine List.map_congr_left fun x _ => ?_
    by_cases h : x ∈ rs.map (·.1)
    · rw [if_pos h, if_pos ((k1 x).mp h), hr x h]
    · rw [if_neg h, if_neg (fun q => h ((k1 x).mpr q))]
  unfold kerL
  congr 1
  funext k
  by_cases h : k ∈ rs.map (·.1)
  · rw [if_pos h, if_pos ((k1 k).mp h)]
  · rw [if_neg h, if_neg (fun q => h ((k1 k).mpr q)), er k]
theorem kerRow_is {p : Int} {wd k : Nat} {rs : RG} (p2 : 2 ≤ p) : isRow (kerRow p rs wd k) p wd := by
  refine ⟨by unfold kerRow; rw [List.length_map, List.length_range], fun v hv => ?_⟩
  unfold kerRow at hv
  obtain ⟨x, _, rfl⟩ := List.mem_map.mp hv
  split
  · omega
  · split
    · exact mod_b (by omega)
    · omega
theorem kerL_is {p : Int} {wd : Nat} {rs : RG} (p2 : 2 ≤ p) : ∀ r ∈ kerL p wd rs, isRow r p wd := fun r hr => by
  unfold kerL at hr
  obtain ⟨k, _, e⟩ := List.mem_filterMap.mp hr
  split at e
  · cases e
  · cases e; exact kerRow_is p2
theorem kerL_len {p : Int} {wd : Nat} {rs : RG} : (kerL p wd rs).length ≤ wd := by
  unfold kerL
  have := List.length_filterMap_le (fun k => if k ∈ rs.map (·.1) then none else some (kerRow p rs wd k)) (List.range wd)
  rwa [List.length_range] at this
open Classical in
noncomputable def rsL (p : Int) (wd : Nat) (rows : List (List Int)) : RG := if h : ∃ rs, St1 p wd rs rows then h.choose else []
theorem rsL_st {p : Int} {wd : Nat} {rows : List (List Int)} {rs : RG} (S : St1 p wd rs rows) : St1 p wd (rsL p wd rows) rows := by
  have h : ∃ rs, St1 p wd rs rows := ⟨rs, S⟩
  unfold rsL
  rw [dif_pos h]
  exact h.choose_spec
noncomputable def looseU (p : Int) (wd : Nat) (rows : List (List Int)) : List (List Int) := ladL p wd (kerL p wd (rsL p wd rows))
theorem loose_eq {p : Int} {wd : Nat} {rows lad : List (List Int)} {rs : RG} (p2 : 2 ≤ p) (S : St1 p wd rs rows) (h : IsLad p wd (kerL p wd rs) lad) : lad = looseU p wd rows := by
  unfold looseU
  rw [← kerL_only p2 S (rsL_st S)]
  exact ladL_eq p2 h
theorem loose_is {p : Int} {wd : Nat} {rows : List (List Int)} (prm : Prm p) : IsLad p wd (kerL p wd (rsL p wd rows)) (looseU p wd rows) := lad_ex prm (kerL_is prm.1)
/-! ### cleared by a ladder, in any order -/
theorem clr_only {p : Int} {wd : Nat} {rs rs' : RG} {rows l : List (List Int)} {v : List Int} (p2 : 2 ≤ p) (S : St1 p wd rs rows) (S' : St1 p wd rs' rows) (hv : isRow v p wd) : clr p rs v = clr p rs' v := by
  obtain ⟨a, c⟩ := S.clear (isRow_len2 hv)
  obtain ⟨a', c'⟩ := S'.clear (isRow_len2 hv)
  have k1 := (S.only S' p2 fun _ => Iff.rfl).1
  have hs : Spn p (rungs (rs.map (·.1)) (rv rs)) fun x => vec (clr p rs v) x - vec (clr p rs' v) x := by
    have a2 := (S.room _).mpr ((S'.room _).mp a')
    refine .plus (-1) a2 a fun x => .of_eq ?_
    omega
  have hz := S.lad.zero hs fun i hi => by
    have := (c i hi).sub (c' i ((k1 i).mp hi))
    rwa [Int.sub_self] at this
  have hl := isRow_len2 hv
  apply List.ext_getElem (by rw [clr_len, clr_len])
  intro x h1 h2
  have b1 := getD_in (by omega) (clr_in (by omega) rs hv.2) x
  have b2 := getD_in (by omega) (clr_in (by omega) rs' hv.2) x
  have e : Cg p ((clr p rs v).getD x 0) ((clr p rs' v).getD x 0) := by
    have := (hz x).add (Cg.refl (p := p) (vec (clr p rs' v) x))
    rw [Int.zero_add] at this
    refine (Cg.of_eq ?_).trans this
    show (clr p rs v).getD x 0 = vec (clr p rs v) x - vec (clr p rs' v) x + vec (clr p rs' v) x
    rw [Int.sub_add_cancel]
    rfl
  have := e.eq b1.1 b1.2 b2.1 b2.2
  rwa [getD_at (List.getElem?_eq_getElem h1), getD_at (List.getElem?_eq_getElem h2)] at this
theorem lessL_zero {p : Int} {l r : List Int} (h : InB p l) : lessL p l r 0 = l := by
  unfold lessL
  refine List.ext_getElem (by rw [List.length_map, List.length_range]) fun i h1 h2 => ?_
  rw [List.getElem_map, List.getElem_range, getD_at (List.getElem?_eq_getElem h2), Int.zero_mul, Int.sub_zero]
  have := h _ (List.getElem_mem h2)
  exact Int.emod_eq_of_lt this.1 this.2
theorem clr1_less {p : Int} {l : List Int} {z : Nat × List Int} (h : InB p l) : clr1 p l z = lessL p l z.2 (l.getD z.1 0) := by
  unfold clr1
  split
  · rename_i e
    rw [e, lessL_zero h]
  · rfl
/-! ### the least solution -/
def foundL (wd : Nat) (rs : RG) : List Int := (List.range wd).map fun i => if i ∈ rs.map (·.1) then (rowOf rs i).getD wd 0 else 0
theorem foundL_only {p : Int} {wd : Nat} {rs rs' : RG} {rows : List (List Int)} (p2 : 2 ≤ p) (S : St1 p (wd + 1) rs rows) (S' : St1 p (wd + 1) rs' rows) : foundL wd rs = foundL wd rs' ∧ (wd ∈ rs.map (·.1) ↔ wd ∈ rs'.map (·.1)) := by
  obtain ⟨k1, k2⟩ := S.only S' p2 fun _ => Iff.rfl
  refine ⟨?_, k1 wd⟩
  unfold foundL
  refine List.map_congr_left fun i _ => ?_
  by_cases h : i ∈ rs.map (·.1)
  · rw [if_pos h, if_pos ((k1 i).mp h)]
    obtain ⟨z, hz, rfl⟩ := List.mem_map.mp h
    rw [rowOf_mem S.lad.nd hz, rowOf_mem S'.lad.nd (k2 z hz)]
  · rw [if_neg h, if_neg (fun q => h ((k1 i).mpr q))]
theorem foundL_is {p : Int} {wd : Nat} {rs : RG} {rows : List (List Int)} (p2 : 2 ≤ p) (S : St1 p (wd + 1) rs rows) : isRow (foundL wd rs) p wd := by
  refine ⟨by unfold foundL; rw [List.length_map, List.length_range], fun v hv => ?_⟩
  unfold foundL at hv
  obtain ⟨i, _, rfl⟩ := List.mem_map.mp hv
  split
  · rename_i h
    obtain ⟨z, hz, rfl⟩ := List.mem_map.mp h
    rw [rowOf_mem S.lad.nd hz]
    exact getD_in (by omega) (S.ok z hz).2.2 _
  · omega
open Classical in
noncomputable def leastU (p : Int) (wd : Nat) (rows rows0 : List (List Int)) : Option (List Int) :=
  if wd ∈ (rsL p (wd + 1) rows).map (·.1) then none else some (clr p (rsL p wd (looseU p wd rows0)) (foundL wd (rsL p (wd + 1) rows)))
theorem least_none {p : Int} {wd : Nat} {rows rows0 : List (List Int)} {rs : RG} (p2 : 2 ≤ p) (S : St1 p (wd + 1) rs rows) (h : wd ∈ rs.map (·.1)) : leastU p wd rows rows0 = none := by
  unfold leastU
  rw [if_pos ((foundL_only p2 S (rsL_st S)).2.mp h)]
theorem least_some {p : Int} {wd : Nat} {rows rows0 : List (List Int)} {rs rs2 : RG} (p2 : 2 ≤ p) (S : St1 p (wd + 1) rs rows) (h : wd ∉ rs.map (·.1)) (S2 : St1 p wd rs2 (looseU p wd rows0)) : leastU p wd rows rows0 = some (clr p rs2 (foundL wd rs)) := by
  unfold leastU
  obtain ⟨e1, e2⟩ := foundL_only p2 S (rsL_st S)
  rw [if_neg (fun q => h (e2.mpr q)), ← e1]
  congr 1
  exact clr_only (l := []) p2 (rsL_st S2) S2 (foundL_is p2 S)
theorem least_is {p : Int} {wd : Nat} {rows rows0 : List (List Int)} {rs : RG} {l : List Int} (prm : Prm p) (S : St1 p (wd + 1) rs rows) (h : leastU p wd rows rows0 = some l) : isRow l p wd := by
  by_cases hw : wd ∈ rs.map (·.1)
  · rw [least_none prm.1 S hw] at h
    cases h
  · obtain ⟨rs2, S2⟩ := st_ex prm (fun r hr => (loose_is (rows := rows0) prm (wd := wd)).rows.2 r hr)
    rw [least_some prm.1 S hw S2] at h
    cases h
    have hf := foundL_is prm.1 S
    exact ⟨by rw [clr_len]; exact hf.1, clr_in (by have := prm.1; omega) _ hf.2⟩
/-! ### all mixtures -/
def mixL (p : Int) (c : List Int) (rows : List (List Int)) (wd : Nat) : List Int := (List.range wd).map fun at' => dotU p c (rows.map fun r => r.getD at' 0)
def dotC (r : List Int) (B : List (List Int)) (x : Nat) : Int := sumP (List.range B.length) fun j => r.getD j 0 * (B.getD j []).getD x 0
theorem dotU_C {p : Int} {c : List Int} {rows : List (List Int)} (hc : c.length = rows.length) (x : Nat) : Cg p (dotU p c (rows.map fun r => r.getD x 0)) (dotC c rows x) := by
  unfold dotU dotC sumP
  refine (Cg.mod _).trans (.of_eq ?_)
  rw [hc]
  congr 1
  refine List.map_congr_left fun j hj => ?_
  have hj := List.mem_range.mp hj
  rw [getD_at (List.getElem?_eq_getElem hj)]
  have e : (rows.map fun r => r.getD x 0)[j]? = some ((rows[j]).getD x 0) := by rw [List.getElem?_map, List.getElem?_eq_getElem hj]; rfl
  rw [getD_at e]
theorem mix_at {p : Int} {c : List Int} {rows : List (List Int)} {wd x : Nat} (h : x < wd) : vec (mixL p c rows wd) x = dotU p c (rows.map fun r => r.getD x 0) := by
  unfold mixL
  exact vec_map h
theorem spn_coef {p : Int} (p0 : 0 < p) {N : List (List Int)} {v : Vc} (h : Spn p (inRows N) v) : ∃ c, isRow c p N.length ∧ ∀ x, Cg p (v x) (dotC c N x) := by
  induction h with
  | @zero v hz =>
    refine ⟨List.replicate N.length 0, ⟨by rw [List.length_replicate], fun x hx => by have := (List.mem_replicate.mp hx).2; omega⟩, fun x => (hz x).trans ?_⟩
    unfold dotC
    exact (sumP_zero fun i hi => .of_eq (by rw [getD_at (d := 0) (x := 0) (List.getElem?_replicate_of_lt (List.mem_range.mp hi)), Int.zero_mul])).symm
  | @add u r v c hu hR he ih =>
    obtain ⟨l, hl, hx⟩ := ih
    obtain ⟨w, hw, rfl⟩ := hR
    obtain ⟨k, hk, rfl⟩ := List.getElem_of_mem hw
    have ek : N.getD k [] = N[k] := by rw [List.getD_eq_getElem?_getD, List.getElem?_eq_getElem hk]; rfl
    refine ⟨(List.range N.length).map fun j => (l.getD j 0 + if j = k then c else 0) % p, ⟨by simp, fun x hx => ?_⟩, fun x => (he x).trans ?_⟩
    · obtain ⟨j, _, rfl⟩ := List.mem_map.mp hx
      exact mod_b p0
    · have h1 : Cg p (dotC ((List.range N.length).map fun j => (l.getD j 0 + if j = k then c else 0) % p) N x) (sumP (List.range N.length) fun j => l.getD j 0 * (N.getD j []).getD x 0 + (if j = k then c else 0) * (N.getD j []).getD x 0) := by
        unfold dotC
        refine sumP_cg fun j hj => ?_
        have e : ((List.range N.length).map fun j => (l.getD j 0 + if j = k then c else 0) % p)[j]? = some ((l.getD j 0 + if j = k then c else 0) % p) := by rw [List.getElem?_map, List.getElem?_range (List.mem_range.mp hj)]; rfl
        rw [getD_at e, ← Int.add_mul]
        exact (Cg.mod _).mul (.refl _)
      rw [sumP_add] at h1
      have h2 : Cg p (sumP (List.range N.length) fun j => (if j = k then c else 0) * (N.getD j []).getD x 0) (c * vec N[k] x) := by
        refine (sumP_one (k := k) List.nodup_range (List.mem_range.mpr hk) fun j _ hne => .of_eq (by rw [if_neg hne, Int.zero_mul])).trans (.of_eq ?_)
        rw [if_pos rfl, ek]
        rfl
      exact ((hx x).add h2.symm).trans h1.symm
theorem coef_spn {p : Int} {N : List (List Int)} (c : List Int) : Spn p (inRows N) (dotC c N) := by
  unfold dotC
  exact spn_sumP (f := fun j x => (N.getD j []).getD x 0) fun j hj => .row ⟨N.getD j [], by rw [getD_at (List.getElem?_eq_getElem (List.mem_range.mp hj))]; exact List.getElem_mem _, rfl⟩
theorem byall_eq {p : Int} {wd : Nat} {rows found : List (List Int)} {kept : List Int} (prm : Prm p) (hin : ∀ x ∈ kept, 0 ≤ x ∧ x < (wd : Int)) (hr : ∀ r ∈ rows, isRow r p wd)
    (hf : ∀ l, l ∈ found ↔ ∃ c, isRow c p rows.length ∧ (∀ x ∈ leftU wd kept, (mixL p c rows wd).getD x.toNat 0 = 0) ∧ l = cutL (mixL p c rows wd) kept) : ladL p kept.length found = restU p wd kept rows := by
  have p2 := prm.1
  have hmix : ∀ c, isRow c p rows.length → ∀ x, Cg p (vec (mixL p c rows wd) x) (dotC c rows x) := fun c hc x => by
    by_cases h : x < wd
    · rw [mix_at h]
      exact dotU_C (isRow_len2 hc) x
    · rw [vec_over (by unfold mixL; rw [List.length_map, List.length_range]; omega)]
      exact (spn_over hr (coef_spn c) (by omega)).symm
  have hmixrow : ∀ c, isRow (mixL p c rows wd) p wd := fun c => ⟨by unfold mixL; rw [List.length_map, List.length_range], fun v hv => by
    unfold mixL at hv
    obtain ⟨x, _, rfl⟩ := List.mem_map.mp hv
    exact mod_b (by omega)⟩
  have hfr : ∀ l ∈ found, isRow l p kept.length := fun l hl => by
    obtain ⟨c, hc, _, rfl⟩ := (hf l).mp hl
    exact cut_isRow (hmixrow c) hin
  refine (lad_ex prm hfr).only (rest_isLad prm hin hr) p2 ?_
  refine same2_of (fun v h => ?_) (fun v h => ?_)
  · obtain ⟨l, hl, rfl⟩ := h
    obtain ⟨c, hc, hz, rfl⟩ := (hf l).mp hl
    refine (rest_span prm hin hr _).mpr ⟨vec (mixL p c rows wd), (coef_spn c).cg fun x => hmix c hc x, fun i hi hk => ?_, fun x => .of_eq (vec_cut x)⟩
    have := hz (i : Int) (left_mem.mpr ⟨rng_mem.mpr ⟨by omega, by omega⟩, hk⟩)
    rw [Int.toNat_natCast] at this
    exact .of_eq this
  · obtain ⟨s, hs, rfl⟩ := h
    obtain ⟨v, v1, v2, v3⟩ := (rest_span prm hin hr _).mp (.row ⟨s, hs, rfl⟩)
    obtain ⟨c, hc, hx⟩ := spn_coef (by omega) v1
    have hmv : ∀ x, Cg p (vec (mixL p c rows wd) x) (v x) := fun x => (hmix c hc x).trans (hx x).symm
    refine (Spn.row ⟨cutL (mixL p c rows wd) kept, (hf _).mpr ⟨c, hc, fun x hx' => ?_, rfl⟩, rfl⟩).cg fun x => (v3 x).trans ?_
    · rw [vec_cut]
      unfold cutV
      split
      · exact (hmv _).symm
      · exact .refl _
    · obtain ⟨h1, h2⟩ := left_mem.mp hx'
      obtain ⟨b0, b1⟩ := rng_mem.mp h1
      have hb := getD_in (by omega) (hmixrow c).2 x.toNat
      refine Cg.zero_of ((hmv x.toNat).trans (v2 _ (by omega) ?_)) hb.1 hb.2
      rw [Int.toNat_of_nonneg b0]
      exact h2
end S4

/-! any(a), a a list of ints -/
namespace TT
open PySem PySem.Spec PyProof.Rows L2
def rAnyLI (K : PySem.W.Frag) : List V → Hp → VK → Prop := fun vs H Q => ∃ (a : Addr) (ns : List Int), vs = [V.ref a] ∧ SqL K H a (ns.map V.int) ∧ Q (.bl (ns.any fun n => n != 0)) H
theorem cr_anyLI {X : Cx} (hc : X.calm = true) : CallR X (.builtin "any") (rAnyLI X.K) := by
  intro pins s σ H vs us Q I r h
  obtain ⟨a, ns, rfl, hs, q⟩ := h
  obtain ⟨its, rv, hl, _⟩ := I.list hs
  rw [Vals.ref1 r]
  have hlen := rv.length
  rw [List.length_map] at hlen
  refine call_any_walk (iter_any hl.isList fun s₂ e2 st hne => ?_)
  subst e2
  refine ⟨_, _, _, _, _, _, _, rfl, Walks.list (A := X.A.in1) (I.ok.hd hc) _ a hne its.toArray, st, truth_ints rv, fun h' tk hk => ?_⟩
  refine ⟨.bl _, H, I.kept fun b o eo => hk b o (fun hmem => ?_) (Heap.get?_push_of_some _ eo), ?_, q⟩
  · rcases List.mem_cons.mp hmem with e1 | hmem
    · exact absurd (e1 ▸ Heap.lt_size eo) (Nat.lt_irrefl _)
    · cases hmem
  · show Value.bool _ = Value.bool _
    rw [← any_rangeI, List.size_toArray, hlen]
theorem anyLIK {X : Cx} {K : PySem.W.Frag} (h : X.K = K) (hc : X.calm = true) : CallR X (.builtin "any") (rAnyLI K) := h ▸ cr_anyLI hc
theorem anyLK {X : Cx} {K : PySem.W.Frag} (h : X.K = K) (hc : X.calm = true) : CallR X (.builtin "any") (rAny K) := h ▸ cr_any hc
theorem piLK {X : Cx} {K : PySem.W.Frag} {tg l : Expr} {tl : TE} (hh : X.K = K) (hl : PI X tg l (iList X.K tl)) : PI X tg l (iList K tl) := hh ▸ hl
end TT

namespace S4
open PySem L2 TT MM
/-! ### comprehensions that draw -/
section
variable {J : It} {n : Nat} {G : Hp → Prop} {Y : Nat → Hp → V → Hp → Prop} {H1 : Hp} {g c D : Addr} {α : Type}
def PvDr (R : Rp α) (F : α → Prop) (g c D : Addr) (H1 : Hp) (i : Nat) (H : Hp) : Prop := But g H1 H ∧ Hand g c H ∧ ∃ xs l, H D = some (.lst xs) ∧ Paired (R H) xs l ∧ l.length = i ∧ ∀ a ∈ l, F a
theorem dr_ne (h : Hand g c H1) (hD : H1 D = none) : D ≠ g ∧ D ≠ c := by
  obtain ⟨_, e⟩ := h.lst
  obtain ⟨_, e2⟩ := h.cells
  exact ⟨fun q => (by rw [q, e] at hD; cases hD), fun q => (by rw [q, e2] at hD; cases hD)⟩
theorem dr_start {R : Rp α} {F : α → Prop} (h : Hand g c H1) (hD : H1 D = none) : PvDr R F g c D H1 0 (upd H1 D (.lst [])) :=
  ⟨(same_new hD).but g, h.same (same_new hD), [], [], upd_same, .nil, rfl, fun _ h => nomatch h⟩
theorem dr_keep {R : Rp α} (m : Mono R) {F : α → Prop} {i : Nat} {H H4 : Hp} {y : V} {a : α} (h : Hand g c H1) (p : PvDr R F g c D H1 i H) (hD : H1 D = none) (hi : i ≤ 100000) (b4 : But g H H4) (h4 : Hand g c H4) (ra : R H4 y a) (fa : F a) :
    ∃ acc, H4 D = some (.lst acc) ∧ acc.length < sizeLine ∧ PvDr R F g c D H1 (i + 1) (upd H4 D (.lst (acc ++ [y]))) := by
  obtain ⟨b, hh, xs, l, h1, h2, h3, hf⟩ := p
  obtain ⟨d1, d2⟩ := dr_ne h hD
  have hD4 : H4 D = some (.lst xs) := b4.lst d1 h1
  have k5 : Keep H4 (upd H4 D (.lst (xs ++ [y]))) := keep_lst hD4
  have hlen := paired_len h2
  refine ⟨xs, hD4, Nat.lt_of_le_of_lt (Nat.le_trans (by omega) hi) (by decide), fun x o hx e => ?_, h4.setD d1 d2, xs ++ [y], l ++ [a], upd_same, ?_, by rw [List.length_append, h3]; rfl, fun z hz => ?_⟩
  · have hxD : x ≠ D := fun q => by subst q; rw [hD] at e; cases e
    rw [upd_ne hxD]
    exact (b.trans b4) x o hx e
  · exact paired_app (paired_mono m k5 (paired_mono m (hh.keep b4) h2)) (.cons (m _ _ _ _ k5 ra) .nil)
  · rcases List.mem_append.mp hz with hz | hz
    · exact hf z hz
    · rw [List.mem_singleton.mp hz]
      exact fa
end
theorem erase_map {α β : Type} (f : α → β) (l : List α) (i : Nat) : (l.map f).eraseIdx i = (l.eraseIdx i).map f := by
  rw [List.eraseIdx_eq_take_drop_succ, List.eraseIdx_eq_take_drop_succ, List.map_append, List.map_take, List.map_drop]
theorem erase_perm {α : Type} {l : List α} {i : Nat} (h : i < l.length) : (l[i] :: l.eraseIdx i).Perm l := by
  rw [List.eraseIdx_eq_take_drop_succ]
  have e : l = l.take i ++ l[i] :: l.drop (i + 1) := by rw [← List.drop_eq_getElem_cons h, List.take_append_drop]
  exact List.perm_middle.symm.trans (.of_eq e.symm)
theorem seqIx_nat {j n : Nat} (h : j < n) : seqIndex? (j : Int) n = some j := by
  unfold seqIndex?
  have e1 : (if (j : Int) < 0 then (j : Int) + (n : Int) else (j : Int)) = j := if_neg (by omega)
  simp only [e1]
  rw [if_pos (by rw [Bool.and_eq_true]; exact ⟨decide_eq_true (by omega), decide_eq_true (by omega)⟩), Int.toNat_natCast]
theorem hand_new {g c p : Addr} {H : Hp} (h : Hand g c H) (hp : H p = none) : p ≠ g ∧ p ≠ c := dr_ne h hp
theorem rgV_rng (n : Nat) : rgV 0 (n : Int) = (rng n).map V.int := by
  rw [rgV_int]
  unfold rng
  have e : ((n : Int) - 0).toNat = n := by omega
  rw [e]
  congr 1
  refine List.map_congr_left fun i _ => ?_
  omega
theorem tieOf_mm (l q : Int) : tieOf l q = (if l < q then l else q, if l > q then l else q) := by
  unfold tieOf
  by_cases h : l < q
  · rw [if_pos h, if_pos h, if_neg (by omega)]
  · rw [if_neg h, if_neg h]
    by_cases h2 : l > q
    · rw [if_pos h2]
    · have : l = q := by omega
      subst this
      simp
end S4

namespace S4
open PySem L2 TT MM EE
/-! ### the law's ties, its rows -/
section
variable {P : Program} {w : World} {K : PySem.W.Frag} {mg : Str → Option Value} {base : Heap} {cT cS : Addr}
def spLTies : Sp := fun vs H Q _ => ∃ (g c : Addr) (most : Nat), vs = [.ref g, .int (most : Int)] ∧ 1 ≤ most ∧ most ≤ 24 ∧ Hand g c H ∧ ∀ H' v ties n, But g H H' → Hand g c H' → rTup rPI H' v ties → TreeOk ties n → n ≤ most → Q v H'
theorem ok_lties (T : Tx K mg cT cS) {f : Addr} {fd : FuncData} (d : D K mg "_law_ties" s_law_ties ["hand", "most"] f fd) : FnOk P w K mg base CX0 2 f fd ["hand", "most"] spLTies := by
  obtain ⟨f1, fd1, d1⟩ := T.d_law_draw
  have G1 := ok_draw (P := P) (w := w) (base := base) T d1
  refine d.F.ok sc_law_ties (fun vs H Q E h => ?_) (fun cdv A outer s H vs Q E hr h => ?_)
  · obtain ⟨g, c, most, rfl, _⟩ := h
    rfl
  · obtain ⟨g, c, most, rfl, m1, m24, hh, q⟩ := h
    refine ⟨_, pss_cons (ps_set (i := 2) sc_law_ties.nd rfl (.inl rfl) (pe_op op_add pe_int (pe_call G1 (hr.mono (by decide)) rfl d1.m d1.F.kp d1.b .nil pass0 (pa_cons (pv 0) (pa_cons (pv 1) pa_nil)))))
      (pss_cons (ps_par (i := 3) (j := 4) (by rfl) sc_law_ties.nd rfl rfl (by decide) rfl rfl (pa_cons (pe_lst pa_nil) (pa_cons (pe_listRg rfl (by rfl) T.b_list (prg_1 (by rfl) T.b_range (pv 2))) pa_nil)) (by rfl))
      (pss_cons (ps_while PassesOwn.never (pt_cmpR op_gt (pe_callB call_len_seq (by rfl) T.b_len PySem.boot_len (pa_cons (pv 4) pa_nil)) pe_int (nomark _))
        (pss_one (ps_expr (pe_bm PySem.F.plainAttrs_list PySem.F.slot_list_append PySem.F.type_list_append mt_append (pv 3) (pa_cons (pe_bm PySem.F.plainAttrs_list PySem.F.slot_list_pop PySem.F.type_list_pop mt_popAt (pv 4) (pa_cons (pe_call G1 (hr.mono (by decide)) rfl d1.m d1.F.kp d1.b .nil pass0 (pa_cons (pv 0) (pa_cons (pe_callB call_len_seq (by rfl) T.b_len PySem.boot_len (pa_cons (pv 4) pa_nil)) pa_nil))) pa_nil)) pa_nil)))))
      (pss_cons (ps_set (i := 5) sc_law_ties.nd rfl (.inl rfl) (pe_lst pa_nil))
      (pss_cons (ps_for PassesOwn.never rfl (pi_range2 rfl T.b_range (pa_cons pe_int (pa_cons (pv 2) pa_nil))) (pg_name (i := 6) sc_law_ties.nd rfl (.inl rfl))
        (pss_cons (ps_par (i := 7) (j := 8) (by rfl) sc_law_ties.nd rfl rfl (by decide) rfl rfl (pa_cons (pe_ix ix_list (pv 3) (pe_call G1 (hr.mono (by decide)) rfl d1.m d1.F.kp d1.b .nil pass0 (pa_cons (pv 0) (pa_cons (pv 6) pa_nil))) (fun _ _ => rfl)) (pa_cons (pe_ix ix_list (pv 3) (pv 6) (fun _ _ => rfl)) pa_nil)) (by rfl))
      (pss_one (ps_expr (pe_bm PySem.F.plainAttrs_list PySem.F.slot_list_append PySem.F.type_list_append mt_append (pv 5) (pa_cons (pe_tup (pa_cons (pe_callB (call_min2 rfl) (by rfl) T.b_min (by decide +kernel) (pa_cons (pv 7) (pa_cons (pv 8) pa_nil))) (pa_cons (pe_callB (call_max2 rfl) (by rfl) T.b_max (by decide +kernel) (pa_cons (pv 7) (pa_cons (pv 8) pa_nil))) pa_nil))) pa_nil))))))
      (pss_one (ps_ret (pe_callTy call_tuple_of (by rfl) T.b_tuple (by decide +kernel) (pa_cons (pe_callB cr_sortedPD (by rfl) T.b_sorted (by decide +kernel) (pa_cons (pv 5) pa_nil)) pa_nil)))))))), ?_⟩
    refine ⟨_, rfl, _, rfl, g, c, most, rfl, by omega, by omega, hh, fun H2 k b2 hh2 k0 k1 => ⟨_, _, rfl, rfl, ?_⟩⟩
    obtain ⟨kn, rfl⟩ : ∃ kn : Nat, k = (kn : Int) := ⟨k.toNat, by omega⟩
    have e1 : (1 + (kn : Int)) = ((kn + 1 : Nat) : Int) := by omega
    dsimp only [gName, tSeq]
    rw [e1]
    generalize hn : kn + 1 = n at *
    have n1 : 1 ≤ n := by omega
    have n24 : n ≤ 24 := by omega
    refine ⟨by show 0 ≤ sizeLine; decide, fun nm nnm => ?_⟩
    have s3 := same_new (o := .lst []) nnm
    refine ⟨_, rfl, _, rfl, ⟨by omega, by omega, by omega, by omega, by omega⟩, fun lf nlf => ?_⟩
    have s4 := same_new (o := .lst (rgV 0 (n : Int))) nlf
    refine ⟨_, _, rfl, ?_⟩
    dsimp only [gName, tSeq]
    have nmg := hand_new hh2 nnm
    have lfg := hand_new (hh2.same s3) nlf
    have hnl : nm ≠ lf := fun e => by subst e; rw [upd_same] at nlf; cases nlf
    have nm0 : H nm = none := b2.free nnm nmg.1
    have lf0 : H lf = none := b2.free (s3.free nlf) lfg.1
    refine while_by (fun σ H' => ∃ (ms1 ms2 : List Int), σ = [some (.ref g), some (.int (most : Int)), some (.int (n : Int)), some (.ref nm), some (.ref lf), none, none, none, none] ∧ But g H H' ∧ Hand g c H' ∧ H' lf = some (.lst (ms1.map V.int)) ∧ H' nm = some (.lst (ms2.map V.int)) ∧ (ms2 ++ ms1).Perm (rng n))
      (fun σ H' => match H' lf with | some (.lst l) => l.length | _ => 0) ⟨rng n, [], rfl, b2.trans ((s3.trans s4).but g), hh2.same (s3.trans s4), by rw [upd_same, rgV_rng], s4 _ _ upd_same, .refl _⟩ ?_ ?_
    · rintro σ H3 ⟨ms1, ms2, rfl, bt, hh3, h1, h2, hp⟩
      have hmu : (match H3 lf with | some (.lst l) => l.length | _ => 0) = ms1.length := by
        rw [h1]
        show (ms1.map V.int).length = _
        rw [List.length_map]
      rw [hmu]
      have hlen := hp.length_eq
      rw [List.length_append, rng_len] at hlen
      refine ⟨_, rfl, _, _, rfl, .inl (.of h1), _, _, rfl, rfl, _, rfl, ?_⟩
      rw [List.length_map]
      by_cases h0 : 0 < ms1.length
      · rw [decide_eq_true (by omega)]
        refine iteT ⟨_, rfl, .inl ⟨rfl, _, .of h2⟩, _, rfl, .inl ⟨rfl, _, .of h1⟩, _, rfl, _, rfl, _, _, rfl, .inl (.of h1), g, c, _, rfl, by rw [List.length_map]; omega, by rw [List.length_map]; omega, hh3, fun H4 k b4 hh4 k0 k1 => ?_⟩
        rw [List.length_map] at k1
        obtain ⟨j, rfl⟩ : ∃ j : Nat, k = (j : Int) := ⟨k.toNat, by omega⟩
        have hj : ms1[j]? = some (ms1[j]'(by omega)) := List.getElem?_eq_getElem (by omega)
        have h14 := b4.lst lfg.1 h1
        have h24 := b4.lst nmg.1 h2
        refine ⟨lf, _, _, j, _, rfl, rfl, h14, by omega, by omega, ?_, int_at hj, ?_⟩
        · exact seqIx_nat (by rw [List.length_map]; omega)
        refine ⟨nm, _, _, rfl, rfl, by rw [upd_ne hnl]; exact h24, by rw [List.length_map]; exact Nat.lt_of_le_of_lt (by omega : ms2.length ≤ 1000) (by decide), ?_⟩
        refine ⟨⟨ms1.eraseIdx j, ms2 ++ [ms1[j]'(by omega)], rfl, fun a u ha e => ?_, ?_, ?_, ?_, ?_⟩, ?_⟩
        · rw [upd_ne (fun z => by subst z; rw [nm0] at e; cases e), upd_ne (fun z => by subst z; rw [lf0] at e; cases e)]
          exact (bt.trans b4) a u ha e
        · exact (hh4.setD lfg.1 lfg.2).setD nmg.1 nmg.2
        · rw [upd_ne hnl.symm, upd_same, erase_map]
        · rw [upd_same, List.map_append]
          rfl
        · have e1 := erase_perm (l := ms1) (i := j) (by omega)
          rw [List.append_assoc]
          exact (List.Perm.append_left ms2 e1).trans hp
        · rw [upd_ne hnl.symm, upd_same, erase_map]
          show ((ms1.eraseIdx j).map V.int).length < _
          rw [List.length_map, List.length_eraseIdx, if_pos (by omega)]
          omega
      · rw [decide_eq_false (by omega)]
        refine iteF ?_
        have : ms1 = [] := List.eq_nil_of_length_eq_zero (by omega)
        subst this
        rw [List.append_nil] at hp
        generalize ms2 = names at *
        dsimp only [gName, tSeq]
        refine ⟨by show 0 ≤ sizeLine; decide, fun fo hfo => ?_⟩
        have s5 := same_new (o := .lst []) hfo
        have fog := hand_new hh3 hfo
        have hne : nm ≠ fo := fun e => by subst e; rw [h2] at hfo; cases hfo
        have fo0 : H fo = none := bt.free hfo fog.1
        have nml : names.length = n := by rw [hp.length_eq, rng_len]
        have nmnd : names.Nodup := hp.nodup_iff.mpr (rng_nodup n)
        refine ⟨_, rfl, _, _, rfl, ⟨by omega, by omega, by omega, by omega⟩, ?_⟩
        have x0 : names[0]? = some (names[0]'(by omega)) := List.getElem?_eq_getElem (by omega)
        refine for_it (walk_range (lo := 1) (n := ((n : Int) - 1).toNat)) (fun i σ H' => ∃ x y z, σ = [some (.ref g), some (.int (most : Int)), some (.int (n : Int)), some (.ref nm), some (.ref lf), some (.ref fo), x, y, z] ∧ But g H H' ∧ Hand g c H' ∧ H' nm = some (.lst (names.map V.int)) ∧
          ∃ xs es, H' fo = some (.lst xs) ∧ Paired (rPI H') xs es ∧ Tr (names.take (i + 1)) es)
          ⟨none, none, none, rfl, bt.trans (s5.but g), hh3.same s5, s5 _ _ h2, [], [], upd_same, .nil, by rw [List.take_succ, x0]; exact .one _⟩ (fun i σ H' _ h => trivial) ?_ ?_
        · rintro i x σ H5 H6 hi ⟨x1, y1, z1, rfl, bt5, hh5, hnm5, xs, es, hfo5, hxp, tr⟩ ⟨rfl, rfl⟩
          have hi2 : i + 1 < n := by omega
          have hxl := paired_len hxp
          have htl := tr.len
          rw [List.length_take] at htl
          refine ⟨_, rfl, _, rfl, _, rfl, g, c, _, rfl, by omega, by omega, hh5, fun H7 o b7 hh7 o0 o1 => ?_⟩
          obtain ⟨o, rfl⟩ : ∃ oo : Nat, o = (oo : Int) := ⟨o.toNat, by omega⟩
          have hnm7 := b7.lst nmg.1 hnm5
          have hfo7 := b7.lst fog.1 hfo5
          have ai : names[i + 1]? = some (names[i + 1]'(by omega)) := List.getElem?_eq_getElem (by omega)
          have ao : names[o]? = some (names[o]'(by omega)) := List.getElem?_eq_getElem (by omega)
          have ea : (1 + (i : Int)) = ((i + 1 : Nat) : Int) := by omega
          refine ⟨nm, _, _, _, rfl, rfl, .of hnm7, atI_nat (int_at ao), _, rfl, _, rfl, nm, _, _, _, rfl, rfl, .of hnm7, by rw [ea]; exact atI_nat (int_at ai), _, _, rfl, ?_⟩
          dsimp only [gName, tSeq]
          generalize names[i + 1]'(by omega) = l at ai
          generalize hq : names[o]'(by omega) = qq at ao
          refine ⟨_, rfl, .inl ⟨rfl, _, .of hfo7⟩, ?_⟩
          refine ⟨_, rfl, _, rfl, _, _, rfl, _, rfl, _, rfl, _, _, rfl, by show 2 ≤ sizeLine; decide, fun tp ntp => ?_⟩
          have s8 := same_new (o := .tup [V.int (if l < qq then l else qq), V.int (if l > qq then l else qq)]) ntp
          have hfo8 := s8 _ _ hfo7
          have k9 : Keep _ _ := keep_lst (o := .lst (xs ++ [V.ref tp])) hfo8
          have bz := b7.trans (s8.but g)
          refine ⟨fo, _, _, rfl, rfl, hfo8, Nat.lt_of_le_of_lt (by omega : xs.length ≤ 24) (by decide), ?_⟩
          refine ⟨_, _, _, rfl, fun a u ha e => ?_, (hh7.same s8).setD fog.1 fog.2, ?_, _, es ++ [tieOf l qq], upd_same, paired_app (paired_mono mono_pi ((hh5.keep bz).trans k9) hxp) (.cons (mono_pi _ _ _ _ k9 ⟨tp, rfl, by rw [upd_same, tieOf_mm]⟩) .nil), ?_⟩
          · rw [upd_ne (fun q => by subst q; rw [fo0] at e; cases e)]
            exact (bt5.trans bz) a u ha e
          · rw [upd_ne hne]
            exact s8 _ _ hnm7
          · have et : names.take (i + 1 + 1) = names.take (i + 1) ++ [l] := by rw [List.take_succ, ai]; rfl
            rw [et]
            refine .leaf tr ?_ ?_
            · have : (names.take (i + 1))[o]? = some qq := by rw [List.getElem?_take_of_lt (by omega), ao]
              exact List.mem_of_getElem? this
            · intro hm
              have nd := List.Nodup.sublist (List.take_sublist (i + 1 + 1) names) nmnd
              rw [et, List.nodup_append] at nd
              exact nd.2.2 _ hm _ (by simp) rfl
        · rintro σ H5 ⟨x1, y1, z1, rfl, bt5, hh5, hnm5, xs, es, hfo5, hxp, tr⟩
          have e0 : ((n : Int) - 1).toNat + 1 = n := by omega
          rw [e0, ← nml, List.take_length] at tr
          refine ⟨_, rfl, fo, xs, es, rfl, .of hfo5, hxp, fun ys m p hys hm hs np => ⟨p, ys, rfl, .inl ⟨.of upd_same, fun l nl => ?_⟩⟩⟩
          have sz := (same_new (o := .lst ys) np).trans (same_new (o := .tup ys) nl)
          exact q _ _ m n (bt5.trans (sz.but g)) (hh5.same sz) ⟨l, ys, rfl, upd_same, paired_mono mono_pi sz.keep hys⟩ (treeOk_of tr hp n24 hm hs) (by omega)
    · rintro σ H' Q1 Q2 i ⟨x, e1, p, ys, e2, h1, i1, j1, e3, e4, k, e5, h⟩
      exact ⟨x, e1, p, ys, e2, h1, i1, j1, e3, e4, k, e5, i _ _ h⟩
end
end S4

namespace S4
open PySem L2 TT MM EE
/-! ### the law's row -/
theorem PDat.ne {H : Hp} {a g c : Addr} {S : RD} {tv uv rv : V} (x : PDat H a S tv uv rv) (hh : Hand g c H) : a ≠ g := fun e => by
  obtain ⟨_, h⟩ := hh.lst
  rw [← e, x.d] at h
  cases h
theorem PDat.but {H H' : Hp} {a g c : Addr} {S : RD} {tv uv rv : V} (x : PDat H a S tv uv rv) (hh : Hand g c H) (b : But g H H') : PDat H' a S tv uv rv :=
  ⟨b a _ (x.ne hh) x.d, mono_tup mono_pi _ _ _ _ (hh.keep b) x.t, mono_row _ _ _ _ (hh.keep b) x.u, mono_rls _ _ _ _ (hh.keep b) x.r⟩
theorem near_in {ties : List (Int × Int)} {n : Nat} {unk : List Int} (oh : CountsOk unk n) {post x : Int} (h : nearU ties unk post x) : 0 ≤ x ∧ x < unk.sum := by
  rcases h with h | ⟨_, _, h⟩ <;> exact held_lt oh h
theorem hand_ints {g c r : Addr} {H : Hp} {l : List Int} (hh : Hand g c H) (h : H r = some (.lst (l.map V.int))) : r ≠ g := fun e => by
  obtain ⟨cells, i1, i2, i3, i4, w⟩ := hh
  have h1 := w.h
  rw [← e, h] at h1
  have h1 := HO.lst.inj (Option.some.inj h1)
  unfold hl at h1
  cases l with
  | nil => cases h1
  | cons a l => cases h1
theorem rep_zero (k : Nat) : (List.replicate k [V.int 0]).flatten = (List.replicate k (0 : Int)).map V.int := by
  induction k with
  | zero => rfl
  | succ k ih => rw [List.replicate_succ, List.flatten_cons, ih, List.replicate_succ, List.map_cons]; rfl
section
variable {P : Program} {w : World} {K : PySem.W.Frag} {mg : Str → Option Value} {base : Heap} {cT cS : Addr}
def spLRow : Sp := fun vs H Q _ => ∃ (g c a : Addr) (tv uv rv : V) (S : RD) (post : Int) (n : Nat), vs = [.ref g, .ref a, .int post] ∧ PDat H a S tv uv rv ∧ TiesOk S.ties n ∧ CountsOk S.unk n ∧ 0 ≤ post ∧ post < (n : Int) ∧ 2 ≤ S.p ∧ S.p ≤ 1000000 ∧ Hand g c H ∧
  ∀ H' v l, But g H H' → Hand g c H' → rRow H' v l → isRow l S.p S.unk.sum → (∀ i v, l[i]? = some v → v = 0 ∨ nearU S.ties S.unk post (i : Nat)) → Q v H'
theorem ok_lrow (T : Tx K mg cT cS) {f : Addr} {fd : FuncData} (d : D K mg "_law_row" s_law_row ["hand", "parts", "post"] f fd) : FnOk P w K mg base CX0 3 f fd ["hand", "parts", "post"] spLRow := by
  obtain ⟨f1, fd1, d1⟩ := T.d_law_allowed
  have G1 := ok_lall (P := P) (w := w) (base := base) T d1
  obtain ⟨f2, fd2, d2⟩ := T.d_law_draw
  have G2 := ok_draw (P := P) (w := w) (base := base) T d2
  obtain ⟨f3, fd3, d3⟩ := T.d_law_any
  have G3 := ok_any (P := P) (w := w) (base := base) T d3
  refine d.F.ok sc_law_row (fun vs H Q E h => ?_) (fun cdv A outer s H vs Q E hr h => ?_)
  · obtain ⟨g, c, a, tv, uv, rv, S, post, n, rfl, _⟩ := h
    rfl
  · obtain ⟨g, c, a, tv, uv, rv, S, post, n, rfl, hP, ok, oh, h0, h1, p2, pm, hh, q⟩ := h
    refine ⟨_, pss_cons (ps_set (i := 3) sc_law_row.nd rfl (.inl rfl) (pe_op op_rep (pe_lst (pa_cons pe_int pa_nil)) (pe_callB (cr_sumT rfl) (by rfl) T.b_sum (by decide +kernel) (pa_cons (pe_dget (hu1 hr) (pv 1) pe_str (fun _ _ => rfl)) pa_nil))))
      (pss_cons (ps_for PassesOwn.never rfl (pi_list (pe_call G1 (hr.mono (by decide)) rfl d1.m d1.F.kp d1.b .nil pass0 (pa_cons (pv 1) (pa_cons (pv 2) pa_nil)))) (pg_name (i := 4) sc_law_row.nd rfl (.inl rfl))
        (pss_one (ps_if (pt_cmpR op_gt (pe_call G2 (hr.mono (by decide)) rfl d2.m d2.F.kp d2.b .nil pass0 (pa_cons (pv 0) (pa_cons pe_int pa_nil))) pe_int (nomark _)) (pss_one (ps_asg (pe_call G3 (hr.mono (by decide)) rfl d3.m d3.F.kp d3.b .nil pass0 (pa_cons (pv 0) (pa_cons (pe_lst (pa_cons pe_int (pa_cons (pe_call G2 (hr.mono (by decide)) rfl d2.m d2.F.kp d2.b .nil pass0 (pa_cons (pv 0) (pa_cons (pe_dget (hu1 hr) (pv 1) pe_str (fun _ _ => rfl)) pa_nil))) (pa_cons (pe_call G2 (hr.mono (by decide)) rfl d2.m d2.F.kp d2.b .nil pass0 (pa_cons (pv 0) (pa_cons (pe_dget (hu1 hr) (pv 1) pe_str (fun _ _ => rfl)) pa_nil))) pa_nil)))) pa_nil))) (pg_sub (pv 3) (pv 4) set_list))) pss_nil)))
      (pss_one (ps_ret (pe_callTy call_tuple_of (by rfl) T.b_tuple (by decide +kernel) (pa_cons (pv 3) pa_nil))))), ?_⟩
    have hnn := sum_nn fun x hx => (oh.b x hx).1
    obtain ⟨wd, hwd⟩ : ∃ wd : Nat, S.unk.sum = (wd : Int) := ⟨S.unk.sum.toNat, by omega⟩
    have hs60 := oh.s
    obtain ⟨tu, eu, htu⟩ := id hP.u
    subst eu
    refine ⟨by show 1 ≤ sizeLine; decide, fun l0 nl0 => ?_⟩
    have s1 := same_new (o := .lst [V.int 0]) nl0
    refine ⟨_, rfl, a, _, rfl, (hP.same s1).gu, tu, S.unk, rfl, .of (s1 _ _ htu), l0, _, _, rfl, rfl, upd_same, by omega, by omega, Nat.le_trans (by show 1 * _ ≤ _; omega : _ ≤ 100) (by decide), fun rw0 nrw => ?_⟩
    have ewd : S.unk.sum.toNat = wd := by omega
    rw [ewd, rep_zero]
    have s2 := same_new (o := .lst ((List.replicate wd (0 : Int)).map V.int)) nrw
    have s12 := s1.trans s2
    have rwg := hand_new (hh.same s1) nrw
    have rw00 : H rw0 = none := s1.free nrw
    refine ⟨_, rfl, _, rfl, a, tv, .ref tu, rv, S, post, n, rfl, hP.same s12, ok, oh, h0, h1, fun H4 r l s4 nr0 hr4 hl hin => ⟨r, rfl, ⟨_, .of hr4⟩, ?_⟩⟩
    have s14 := s12.trans s4
    have hh4 := hh.same s14
    have rg := hand_ints hh4 hr4
    have hrw4 := s4 _ _ (upd_same (H := upd H l0 (.lst [V.int 0])) (a := rw0) (o := .lst ((List.replicate wd (0 : Int)).map V.int)))
    have nrr : r ≠ rw0 := fun e => by rw [e, upd_same] at nr0; cases nr0
    refine for_it (walk_list (xs := l.map V.int)) (fun i σ H' => ∃ x4, ∃ row : List Int, σ = [some (.ref g), some (.ref a), some (.int post), some (.ref rw0), x4] ∧ But g H H' ∧ Hand g c H' ∧ H' r = some (.lst (l.map V.int)) ∧ H' rw0 = some (.lst (row.map V.int)) ∧ isRow row S.p S.unk.sum ∧ ∀ i v, row[i]? = some v → v = 0 ∨ nearU S.ties S.unk post (i : Nat))
      ⟨none, List.replicate wd 0, rfl, s14.but g, hh4, hr4, hrw4, ⟨by rw [List.length_replicate, hwd], fun v hv => by rw [(List.mem_replicate.mp hv).2]; omega⟩, fun i v hv => .inl (List.mem_replicate.mp (List.mem_of_getElem? hv)).2⟩ (fun i σ H' _ h => by obtain ⟨_, _, _, _, _, h, _⟩ := h; exact .of h) ?_ ?_
    · rintro i x σ H5 H6 hi ⟨x4, row, rfl, b5, hh5, hr5, hrw5, ir, nr⟩ ⟨rfl, hx⟩
      obtain ⟨k, hk, rfl⟩ := at_int hx
      have hkn := hin k (List.mem_of_getElem? hk)
      have hkb := near_in (n := n) (ties := S.ties) oh hkn
      obtain ⟨kn, rfl⟩ : ∃ kn : Nat, k = (kn : Int) := ⟨k.toNat, by omega⟩
      have irl := ir.1
      refine ⟨_, rfl, g, c, 3, rfl, by decide, by decide, hh5, fun H7 e b7 hh7 e0 e1 => ⟨_, _, rfl, rfl, _, rfl, ?_⟩⟩
      have b57 := b5.trans b7
      by_cases he : 0 < e
      · rw [decide_eq_true he]
        refine iteT ?_
        refine ⟨_, rfl, _, rfl, _, rfl, a, _, rfl, (hP.but hh b57).gp, g, c, S.p, rfl, by omega, by omega, hh7, fun H8 v1 b8 hh8 v10 v11 => ?_⟩
        have b58 := b57.trans b8
        refine ⟨_, rfl, _, rfl, a, _, rfl, (hP.but hh b58).gp, g, c, S.p, rfl, by omega, by omega, hh8, fun H9 v2 b9 hh9 v20 v21 => ?_⟩
        have b59 := b58.trans b9
        refine ⟨by show 3 ≤ sizeLine; decide, fun lb nlb => ?_⟩
        have s10 := same_new (o := .lst [V.int 1, V.int v1, V.int v2]) nlb
        refine ⟨g, c, lb, _, rfl, upd_same, (hand_new hh9 nlb).1, by show 0 < 3; decide, by show 3 < 1000000; decide, hh9.same s10, fun H11 j y b11 hh11 hy => ?_⟩
        obtain ⟨u, rfl, u0, u1⟩ : ∃ u, y = V.int u ∧ 0 ≤ u ∧ u < S.p := by
          rcases (show j = 0 ∨ j = 1 ∨ j = 2 by have := (List.getElem?_eq_some_iff.mp hy).1; simp only [List.length_cons, List.length_nil] at this; omega) with rfl | rfl | rfl
          · exact ⟨1, (Option.some.inj hy).symm, by omega, by omega⟩
          · exact ⟨v1, (Option.some.inj hy).symm, v10, v11⟩
          · exact ⟨v2, (Option.some.inj hy).symm, v20, v21⟩
        have bz := ((b7.trans b8).trans b9).trans ((s10.but g).trans b11)
        have hrw11 := bz.lst rwg.1 hrw5
        have hr11 := bz.lst rg hr5
        refine ⟨_, rfl, _, rfl, rw0, _, _, kn, rfl, rfl, hrw11, ixN_nat (by rw [List.length_map]; omega), ?_⟩
        refine ⟨_, row.set kn u, rfl, fun a u ha e => ?_, hh11.setD rwg.1 rwg.2, by rw [upd_ne nrr]; exact hr11, by rw [upd_same, List.map_set], ⟨by rw [List.length_set]; exact ir.1, fun v hv => ?_⟩, fun j v hv => ?_⟩
        · rw [upd_ne (fun q => by subst q; rw [rw00] at e; cases e)]
          exact (b5.trans bz) a u ha e
        · rcases List.mem_or_eq_of_mem_set hv with h | h
          · exact ir.2 v h
          · rw [h]; exact ⟨u0, u1⟩
        · rw [List.getElem?_set] at hv
          split at hv
          · rename_i h
            subst h
            exact .inr hkn
          · exact nr j v hv
      · rw [decide_eq_false he]
        exact iteF ⟨_, row, rfl, b57, hh7, b7.lst rg hr5, b7.lst rwg.1 hrw5, ir, nr⟩
    · rintro σ H5 ⟨x4, row, rfl, b5, hh5, hr5, hrw5, ir, nr⟩
      refine ⟨_, rfl, rw0, _, rfl, .inl ⟨.of hrw5, fun t nt => ?_⟩⟩
      have sz := same_new (o := .tup (row.map V.int)) nt
      exact q _ (.ref t) row (b5.trans (sz.but g)) (hh5.same sz) ⟨t, rfl, upd_same⟩ ir nr
end
end S4

namespace S4
open PySem L2 TT MM EE
/-! ### the law's parts, made -/
theorem dr_fin {p : Int} {g c D : Addr} {H3 H4 : Hp} {n : Nat} (pv : PvDr rInt (fun x => 0 ≤ x ∧ x < p) g c D H3 n H4) : ∃ l : List Int, H4 D = some (.lst (l.map V.int)) ∧ l.length = n ∧ (∀ x ∈ l, 0 ≤ x ∧ x < p) ∧ But g H3 H4 ∧ Hand g c H4 := by
  obtain ⟨b4, hh4, ys, l, hD4, hp4, hl4, hf4⟩ := pv
  have := paired_int hp4
  subst this
  exact ⟨l, hD4, hl4, hf4, b4, hh4⟩
theorem atI_last (xs : List V) (y : V) : atI (xs ++ [y]) (-1) = some y := by
  unfold atI ixN
  rw [if_neg (by decide), List.length_append, List.length_singleton, if_pos (by omega)]
  have e : ((-1 : Int) + ((xs.length + 1 : Nat) : Int)).toNat = xs.length := by omega
  rw [e]
  show (xs ++ [y])[xs.length]? = some y
  rw [List.getElem?_append_right (Nat.le_refl _), Nat.sub_self]
  rfl
theorem merge_kvsP (p : Int) (tv uv rv : V) : mergeK [] (kvsP p tv uv rv) = kvsP p tv uv rv := by
  have e1 : putK [] (.inr "p" : Key) (.int p) = [(.inr "p", .int p)] := putK_new _ rfl
  have e2 : putK [((.inr "p" : Key), V.int p)] (.inr "ties") tv = [(.inr "p", .int p), (.inr "ties", tv)] := putK_new _ ((valV_no (by decide +kernel)).trans rfl)
  have e3 : putK [((.inr "p" : Key), V.int p), (.inr "ties", tv)] (.inr "unknowns") uv = [(.inr "p", .int p), (.inr "ties", tv), (.inr "unknowns", uv)] := putK_new _ ((valV_no (by decide +kernel)).trans ((valV_no (by decide +kernel)).trans rfl))
  have e4 : putK [((.inr "p" : Key), V.int p), (.inr "ties", tv), (.inr "unknowns", uv)] (.inr "rules") rv = [(.inr "p", .int p), (.inr "ties", tv), (.inr "unknowns", uv), (.inr "rules", rv)] := putK_new _ ((valV_no (by decide +kernel)).trans ((valV_no (by decide +kernel)).trans ((valV_no (by decide +kernel)).trans rfl)))
  unfold mergeK kvsP
  simp only [List.foldl_cons, List.foldl_nil]
  rw [e1, e2, e3, e4]
theorem put_rules (p : Int) (tv uv rv x : V) : putK (kvsP p tv uv rv) (.inr "rules") x = kvsP p tv uv x := by
  have n1 : ¬ ((.inr "p" : Key) = .inr "rules") := by decide +kernel
  have n2 : ¬ ((.inr "ties" : Key) = .inr "rules") := by decide +kernel
  have n3 : ¬ ((.inr "unknowns" : Key) = .inr "rules") := by decide +kernel
  unfold putK kvsP
  rw [if_pos (by simp only [List.any_cons, decide_true, Bool.true_or, Bool.or_true])]
  simp only [List.map_cons, List.map_nil, if_true]
  rw [if_neg n1, if_neg n2, if_neg n3]
section
variable {P : Program} {w : World} {K : PySem.W.Frag} {mg : Str → Option Value} {base : Heap} {cT cS : Addr}
/-- few rules -/
def few (S : RD) (k : Nat) : Prop := (S.rules.map List.length).sum ≤ k
def spLParts : Sp := fun vs H Q _ => ∃ (g c : Addr) (p : Int) (posts most rules : Nat), vs = [.ref g, .int p, .int (posts : Int), .int (most : Int), .int (rules : Int)] ∧ NoDiv p ∧ 1 ≤ posts ∧ posts ≤ 7 ∧ most ≤ 14 ∧ rules ≤ 4 ∧ Hand g c H ∧
  ∀ H' a tv uv rv S n, But g H H' → Hand g c H' → PDat H' a S tv uv rv → RulesOk S n → S.p = p → few S 28 → Q (.ref a) H'
theorem ok_lparts (T : Tx K mg cT cS) {f : Addr} {fd : FuncData} (d : D K mg "_law_parts" s_law_parts ["hand", "p", "posts", "most", "rules"] f fd) : FnOk P w K mg base CX0 4 f fd ["hand", "p", "posts", "most", "rules"] spLParts := by
  obtain ⟨f1, fd1, d1⟩ := T.d_law_ties
  have G1 := ok_lties (P := P) (w := w) (base := base) T d1
  obtain ⟨f2, fd2, d2⟩ := T.d_law_any
  have G2 := ok_any (P := P) (w := w) (base := base) T d2
  obtain ⟨f3, fd3, d3⟩ := T.d_law_draw
  have G3 := ok_draw (P := P) (w := w) (base := base) T d3
  obtain ⟨f4, fd4, d4⟩ := T.d_law_row
  have G4 := ok_lrow (P := P) (w := w) (base := base) T d4
  obtain ⟨f5, fd5, d5⟩ := T.d_law_dot
  have G5 := ok_ldot (P := P) (w := w) (base := base) T d5
  refine d.F.ok sc_law_parts (fun vs H Q E h => ?_) (fun cdv A outer s H vs Q E hr h => ?_)
  · obtain ⟨g, c, p, posts, most, rules, rfl, _⟩ := h
    rfl
  · obtain ⟨g, c, p, posts, most, rules, rfl, cl, po1, po6, mo10, ru2, hh, q⟩ := h
    refine ⟨_, pss_cons (ps_set (i := 5) sc_law_parts.nd rfl (.inl rfl) (pe_call G1 (hr.mono (by decide)) rfl d1.m d1.F.kp d1.b .nil pass0 (pa_cons (pv 0) (pa_cons (pv 2) pa_nil))))
      (pss_cons (ps_par (i := 6) (j := 7) (by rfl) sc_law_parts.nd rfl rfl (by decide) rfl rfl (pa_cons (pv 3) (pa_cons (pe_lst pa_nil) pa_nil)) (by rfl))
      (pss_cons (ps_for PassesOwn.never rfl (pi_range1 rfl T.b_range (pa_cons (pe_op op_add (pe_callB call_len_seq (by rfl) T.b_len PySem.boot_len (pa_cons (pv 5) pa_nil)) pe_int) pa_nil)) (pg_name (i := 8) sc_law_parts.nd rfl (.inl rfl))
        (pss_cons (ps_expr (pe_bm PySem.F.plainAttrs_list PySem.F.slot_list_append PySem.F.type_list_append mt_append (pv 7) (pa_cons (pe_callB (call_min2 rfl) (by rfl) T.b_min (by decide +kernel) (pa_cons (pv 6) (pa_cons (pe_call G2 (hr.mono (by decide)) rfl d2.m d2.F.kp d2.b .nil pass0 (pa_cons (pv 0) (pa_cons (pe_lst (pa_cons pe_int (pa_cons pe_int (pa_cons pe_int (pa_cons pe_int (pa_cons pe_int (pa_cons pe_int pa_nil))))))) pa_nil))) pa_nil))) pa_nil)))
      (pss_one (ps_set (i := 6) sc_law_parts.nd rfl (.inl rfl) (pe_op op_sub (pv 6) (pe_ix ix_list (pv 7) (pe_un un_neg pe_int) (fun _ _ => rfl)))))))
      (pss_cons (ps_set (i := 9) sc_law_parts.nd rfl (.inl rfl) (pe_disp (pps_cons pe_str (pv 1) (pps_cons pe_str (pv 5) (pps_cons pe_str (pe_callTy call_tuple_of (by rfl) T.b_tuple (by decide +kernel) (pa_cons (pv 7) pa_nil)) (pps_cons pe_str (pe_tup pa_nil) pps_nil)))) rfl rfl (fun h => nomatch h) (by decide)))
      (pss_cons (ps_par (i := 10) (j := 11) (by rfl) sc_law_parts.nd rfl rfl (by decide) rfl rfl (pa_cons (pe_lc (own := [("place", 16)]) (g := (gName 16)) (tt := tYes) rfl sc_law_parts.nd (pi_range1 rfl T.b_range (pa_cons (pe_callB (cr_sum rfl) (by rfl) T.b_sum (by decide +kernel) (pa_cons (pv 7) pa_nil)) pa_nil)) (blkOk_by (N := N_law_parts) (sc := defScope s_law_parts) (by decide +kernel)) (fun _ _ _ _ _ => (pg_name (i := 16) sc_law_parts.nd rfl (Or.inl rfl))) (fun _ _ _ _ _ => pts_nil)
            (fun _ _ _ _ _ => (pe_call G3 (hr.mono (by decide)) rfl d3.m d3.F.kp d3.b .nil pass0 (pa_cons (pv 0) (pa_cons (pv 1) pa_nil))))) (pa_cons (pe_cmpR op_eq (pe_call G3 (hr.mono (by decide)) rfl d3.m d3.F.kp d3.b .nil pass0 (pa_cons (pv 0) (pa_cons pe_int pa_nil))) pe_int (nomark _)) pa_nil)) (by rfl))
      (pss_cons (ps_for PassesOwn.never rfl (pi_range1 rfl T.b_range (pa_cons (pe_op op_add (pe_callB call_len_seq (by rfl) T.b_len PySem.boot_len (pa_cons (pv 5) pa_nil)) pe_int) pa_nil)) (pg_name (i := 8) sc_law_parts.nd rfl (.inl rfl))
        (pss_cons (ps_set (i := 12) sc_law_parts.nd rfl (.inl rfl) (pe_tup pa_nil))
      (pss_cons (ps_for PassesOwn.never rfl (pi_range1 rfl T.b_range (pa_cons (pe_call G3 (hr.mono (by decide)) rfl d3.m d3.F.kp d3.b .nil pass0 (pa_cons (pv 0) (pa_cons (pe_op op_add (pv 4) pe_int) pa_nil))) pa_nil)) (pg_name (i := 13) sc_law_parts.nd rfl (.inl rfl))
        (pss_cons (ps_set (i := 14) sc_law_parts.nd rfl (.inl rfl) (pe_call G4 (hr.mono (by decide)) rfl d4.m d4.F.kp d4.b .nil pass0 (pa_cons (pv 0) (pa_cons (pv 9) (pa_cons (pv 8) pa_nil)))))
      (pss_cons (ps_set (i := 15) sc_law_parts.nd rfl (.inl rfl) (pe_call G5 (hr.mono (by decide)) rfl d5.m d5.F.kp d5.b .nil pass0 (pa_cons (pv 1) (pa_cons (pv 14) (pa_cons (pv 10) pa_nil)))))
      (pss_cons (ps_if (PW.pt (pw_and (pt_val (pv 11)) (pw_and1 (pt_cmpR op_eq (pe_call G3 (hr.mono (by decide)) rfl d3.m d3.F.kp d3.b .nil pass0 (pa_cons (pv 0) (pa_cons pe_int pa_nil))) pe_int (nomark _))))) (pss_one (ps_set (i := 15) sc_law_parts.nd rfl (.inl rfl) (pe_call G3 (hr.mono (by decide)) rfl d3.m d3.F.kp d3.b .nil pass0 (pa_cons (pv 0) (pa_cons (pv 1) pa_nil))))) pss_nil)
      (pss_one (ps_set (i := 12) sc_law_parts.nd rfl (.inl rfl) (pe_op op_catA (pv 12) (pe_tup (pa_cons (pe_tup (pa_cons (pv 14) (pa_cons (pv 15) pa_nil))) pa_nil)))))))))
      (pss_one (ps_asg (pe_op op_catA (pe_dget (hu1 hr) (pv 9) pe_str (fun _ _ => rfl)) (pe_tup (pa_cons (pv 12) pa_nil))) (pg_sub (pv 9) pe_str (set_dict (hu1 hr))))))))
      (pss_one (ps_ret (pv 9)))))))), ?_⟩
    refine ⟨_, rfl, _, rfl, g, c, posts, rfl, po1, by omega, hh, fun H2 v2 ties n b2 hh2 hv2 tok hn => ?_⟩
    obtain ⟨tt, xs, rfl, htt, hxs⟩ := id hv2
    have hlx := paired_len hxs
    have hn' := tok.ok.len
    have hn24 := tok.ok.n24
    dsimp only [gName, tSeq]
    refine ⟨_, rfl, by show 0 ≤ sizeLine; decide, fun ul nul => ⟨_, _, rfl, ?_⟩⟩
    have s3 := same_new (o := .lst []) nul
    have ulg := hand_new hh2 nul
    have ul0 : H ul = none := b2.free nul ulg.1
    dsimp only [gName, tSeq]
    refine ⟨_, rfl, tt, _, rfl, .inr (.of (s3 _ _ htt)), _, _, rfl, rfl, _, rfl, by omega, by omega, ?_⟩
    have en : ((xs.length : Int) + 1).toNat = n := by omega
    rw [en]
    refine for_it (walk_range (lo := 0) (n := n)) (fun i σ H' => ∃ x8 left, ∃ us : List Int, σ = [some (.ref g), some (.int p), some (.int (posts : Int)), some (.int (most : Int)), some (.int (rules : Int)), some (.ref tt), some (.int left), some (.ref ul), x8, none, none, none, none, none, none, none, none] ∧ But g H H' ∧ Hand g c H' ∧ H' tt = some (.tup xs) ∧ Paired (rPI H') xs ties ∧
      H' ul = some (.lst (us.map V.int)) ∧ us.length = i ∧ (∀ u ∈ us, 0 ≤ u ∧ u < 9) ∧ us.sum + left = most ∧ 0 ≤ left)
      ⟨none, most, [], rfl, b2.trans (s3.but g), hh2.same s3, s3 _ _ htt, paired_mono mono_pi s3.keep hxs, upd_same, rfl, fun _ h => (nomatch h), by simp, by omega⟩ (fun _ _ _ _ _ => trivial) ?_ ?_
    · rintro i x σ H4 H5 hi ⟨x8, left, us, rfl, b5, hh5, htt5, hxs5, hul5, hlu, hub, hsum, hl0⟩ ⟨rfl, rfl⟩
      refine ⟨_, rfl, .inl ⟨rfl, _, .of hul5⟩, ?_⟩
      refine ⟨_, rfl, _, rfl, by show 6 ≤ sizeLine; decide, fun lb nlb => ?_⟩
      have s6 := same_new (o := .lst [V.int 0, V.int 1, V.int 1, V.int 2, V.int 2, V.int 3]) nlb
      refine ⟨g, c, lb, _, rfl, upd_same, (hand_new hh5 nlb).1, by show 0 < 6; decide, by show 6 < 1000000; decide, hh5.same s6, fun H7 j y b7 hh7 hy => ?_⟩
      obtain ⟨u, rfl, u0, u1⟩ : ∃ u, y = V.int u ∧ 0 ≤ u ∧ u < 4 := by
        have hj := (List.getElem?_eq_some_iff.mp hy).1
        simp only [List.length_cons, List.length_nil] at hj
        rcases (show j = 0 ∨ j = 1 ∨ j = 2 ∨ j = 3 ∨ j = 4 ∨ j = 5 by omega) with rfl | rfl | rfl | rfl | rfl | rfl
        · exact ⟨0, (Option.some.inj hy).symm, by decide, by decide⟩
        · exact ⟨1, (Option.some.inj hy).symm, by decide, by decide⟩
        · exact ⟨1, (Option.some.inj hy).symm, by decide, by decide⟩
        · exact ⟨2, (Option.some.inj hy).symm, by decide, by decide⟩
        · exact ⟨2, (Option.some.inj hy).symm, by decide, by decide⟩
        · exact ⟨3, (Option.some.inj hy).symm, by decide, by decide⟩
      have bz := (s6.but g).trans b7
      have hul7 := bz.lst ulg.1 hul5
      refine ⟨_, _, rfl, ?_⟩
      refine ⟨ul, _, _, rfl, rfl, hul7, Nat.lt_of_le_of_lt (by rw [List.length_map]; omega : _ ≤ 1000) (by decide), ?_⟩
      refine ⟨_, rfl, _, rfl, _, rfl, ul, _, _, _, rfl, rfl, .of upd_same, atI_last _ _, _, _, rfl, rfl, ?_⟩
      refine ⟨_, _, us ++ [if u < left then u else left], rfl, fun a u ha e => ?_, hh7.setD ulg.1 ulg.2, ?_, ?_, by rw [upd_same, List.map_append]; rfl, by rw [List.length_append, hlu]; rfl, ?_, ?_, ?_⟩
      · rw [upd_ne (fun q => by subst q; rw [ul0] at e; cases e)]
        exact (b5.trans bz) a u ha e
      · have := (keep_lst (o := .lst (us.map V.int ++ [V.int (if u < left then u else left)])) hul7).tup ((hh5.keep bz).tup htt5)
        exact this
      · exact paired_mono mono_pi ((hh5.keep bz).trans (keep_lst hul7)) hxs5
      · intro v hv
        rcases List.mem_append.mp hv with h | h
        · exact hub v h
        · rw [List.mem_singleton.mp h]
          split <;> omega
      · rw [List.sum_append, List.sum_singleton]
        omega
      · split <;> omega
    · rintro σ H4 ⟨x8, left, us, rfl, b4, hh4, htt4, hxs4, hul4, hlu, hub, hsum, hl0⟩
      have oh : CountsOk us n := ⟨hlu, hub, by omega⟩
      have hus0 := sum_nn fun x hx => (hub x hx).1
      dsimp only [gName, tSeq]
      refine fun pd npd => ⟨_, rfl, _, rfl, _, rfl, ?_⟩
      have s5 := same_new (o := .dK []) npd
      refine ⟨ul, _, rfl, .inl ⟨.of (s5 _ _ hul4), fun tu ntu => ?_⟩⟩
      have s6 := same_new (o := .tup (us.map V.int)) ntu
      refine ⟨by show 0 ≤ sizeLine; decide, fun tr ntr => ?_⟩
      have s7 := same_new (o := .tup []) ntr
      have hpd7 := (s6.trans s7) _ _ (upd_same (H := H4) (a := pd) (o := .dK []))
      refine ⟨hpd7, kvsP p (.ref tt) (.ref tu) (.ref tr), rfl, by show 4 ≤ 15; decide, ?_⟩
      rw [merge_kvsP]
      have pdu : tu ≠ pd := fun e => by rw [e, upd_same] at ntu; cases ntu
      have pdr : tr ≠ pd := fun e => by rw [e, s6 _ _ upd_same] at ntr; cases ntr
      have htu7 := s7 _ _ (upd_same (H := upd H4 pd (.dK [])) (a := tu) (o := .tup (us.map V.int)))
      have htr7 := upd_same (H := upd (upd H4 pd (.dK [])) tu (.tup (us.map V.int))) (a := tr) (o := .tup [])
      have s8 : Same H4 (upd (upd (upd (upd H4 pd (.dK [])) tu (.tup (us.map V.int))) tr (.tup [])) pd (.dK (kvsP p (.ref tt) (.ref tu) (.ref tr)))) := same_own ((s5.trans s6).trans s7) npd
      have hP8 : PDat (upd (upd (upd (upd H4 pd (.dK [])) tu (.tup (us.map V.int))) tr (.tup [])) pd (.dK (kvsP p (.ref tt) (.ref tu) (.ref tr)))) pd ⟨p, ties, us, []⟩ (.ref tt) (.ref tu) (.ref tr) :=
        ⟨upd_same, ⟨tt, xs, rfl, s8 _ _ htt4, paired_mono mono_pi s8.keep hxs4⟩, ⟨tu, rfl, by rw [upd_ne pdu]; exact htu7⟩, ⟨tr, [], rfl, by rw [upd_ne pdr]; exact htr7, .nil⟩⟩
      generalize upd (upd (upd (upd H4 pd (.dK [])) tu (.tup (us.map V.int))) tr (.tup [])) pd (.dK (kvsP p (.ref tt) (.ref tu) (.ref tr))) = H8 at *
      have hh8 := hh4.same s8
      have pdg := hand_new hh4 npd
      have pd0 : H pd = none := b4.free npd pdg.1
      have p2 := cl.1
      have pm := cl.2.1
      have hs60 := oh.s
      refine ⟨_, rfl, ul, us, rfl, .of (s8 _ _ hul4), _, rfl, by omega, by omega, fun D hD => ?_⟩
      refine walk_W (walk_range (lo := 0) (n := us.sum.toNat)) _ (PvDr rInt (fun x => 0 ≤ x ∧ x < p) g c D H8) (dr_start hh8 hD) (fun _ _ _ _ => trivial) ?_ ?_
      · rintro i x H9 H10 hi pv ⟨rfl, rfl⟩
        refine ⟨rfl, _, rfl, _, rfl, g, c, p, rfl, by omega, by omega, pv.2.1, fun H11 e b hh e0 e1 => ?_⟩
        exact dr_keep mono_int hh8 pv hD (by omega) b hh rfl ⟨e0, e1⟩
      rintro H9 pv
      obtain ⟨hid, hD9, lhid, bhid, b9, hh9⟩ := dr_fin pv
      have Dg := hand_new hh8 hD
      have D0 : H D = none := b4.free (s8.free hD) Dg.1
      refine ⟨_, rfl, g, c, 2, rfl, by decide, by decide, hh9, fun H10 e b10 hh10 e0 e1 => ⟨rfl, _, _, rfl, ?_⟩⟩
      have hP10 := (hP8.but hh8 b9).but hh9 b10
      have hD10 := b10.lst Dg.1 hD9
      have t10 := ((b4.trans (s8.but g)).trans b9).trans b10
      generalize decide (V.int e = V.int 0) = sp
      dsimp only [gName, tSeq]
      have htt10 := (hh9.keep b10).tup ((hh8.keep b9).tup (s8 _ _ htt4))
      refine ⟨_, rfl, tt, _, rfl, .inr (.of htt10), _, _, rfl, rfl, _, rfl, by omega, by omega, ?_⟩
      rw [en]
      refine for_it (walk_range (lo := 0) (n := n)) (fun i σ H' => ∃ x8 x12 x13 x14 x15 rv rls, σ = [some (.ref g), some (.int p), some (.int (posts : Int)), some (.int (most : Int)), some (.int (rules : Int)), some (.ref tt), some (.int left), some (.ref ul), x8, some (.ref pd), some (.ref D), some (.bl sp), x12, x13, x14, x15, none] ∧ But g H H' ∧ Hand g c H' ∧
        PDat H' pd ⟨p, ties, us, rls⟩ (.ref tt) (.ref tu) rv ∧ H' D = some (.lst (hid.map V.int)) ∧ (rls : List (List Rule)).length = i ∧ (∀ own ∈ rls, own.length ≤ 4) ∧ ∀ post own, rls[post]? = some own → ∀ r ∈ own, RuleOk p ties us (post : Nat) r)
        ⟨_, none, none, none, none, _, [], rfl, t10, hh10, hP10, hD10, rfl, fun _ h => (nomatch h), fun post own h => by simp at h⟩ (fun _ _ _ _ _ => trivial) ?_ ?_
      · rintro i x σ H11 H12 hi ⟨x8, x12, x13, x14, x15, rv, rls, rfl, b12, hh12, hP12, hD12, hlr, h2, hok⟩ ⟨rfl, rfl⟩
        refine ⟨by show 0 ≤ sizeLine; decide, fun to nto => ?_⟩
        have s13 := same_new (o := .tup []) nto
        dsimp only [gName, tSeq]
        refine ⟨_, rfl, _, rfl, _, _, rfl, rfl, g, c, _, rfl, by omega, by omega, hh12.same s13, fun H14 m b14 hh14 m0 m1 => ⟨_, rfl, by omega, by omega, ?_⟩⟩
        have bb := (s13.but g).trans b14
        have hP14 := hP12.but hh12 bb
        have hD14 := bb.lst Dg.1 hD12
        have hto14 := (hh12.same s13).keep b14 |>.tup (upd_same (H := H12) (a := to) (o := .tup []))
        refine for_it (walk_range (lo := 0) (n := m.toNat)) (fun j σ H' => ∃ v12 x13 x14 x15 own, σ = [some (.ref g), some (.int p), some (.int (posts : Int)), some (.int (most : Int)), some (.int (rules : Int)), some (.ref tt), some (.int left), some (.ref ul), some (.int (0 + (i : Int))), some (.ref pd), some (.ref D), some (.bl sp), some v12, x13, x14, x15, none] ∧ But g H H' ∧ Hand g c H' ∧
          PDat H' pd ⟨p, ties, us, rls⟩ (.ref tt) (.ref tu) rv ∧ H' D = some (.lst (hid.map V.int)) ∧ rOwn H' v12 own ∧ own.length = j ∧ ∀ r ∈ own, RuleOk p ties us (i : Nat) r)
          ⟨.ref to, x13, x14, x15, [], rfl, b12.trans bb, hh14, hP14, hD14, ⟨to, [], rfl, hto14, .nil⟩, rfl, fun _ h => (nomatch h)⟩ (fun _ _ _ _ _ => trivial) ?_ ?_
        · rintro j x σ H15 H16 hj ⟨v12, y13, y14, y15, own, rfl, b16, hh16, hP16, hD16, hown, hlo, hro⟩ ⟨rfl, rfl⟩
          dsimp only [gName, tSeq]
          refine ⟨_, rfl, _, rfl, _, rfl, g, c, pd, .ref tt, .ref tu, rv, ⟨p, ties, us, rls⟩, 0 + (i : Int), n, rfl, hP16, tok.ok, oh, by omega, by omega, p2, pm, hh16, fun H17 v l b17 hh17 hrow hir hnear => ?_⟩
          have hP17 := hP16.but hh16 b17
          have hD17 := b17.lst Dg.1 hD16
          have hll := hir.1
          simp only at hll
          dsimp only [gName, tSeq]
          refine ⟨_, rfl, _, rfl, _, rfl, v, D, p, l, hid, rfl, hrow, hD17, p2, pm, by omega, by omega, hir.2, bhid, fun H18 k s18 k0 k1 => ?_⟩
          dsimp only [gName, tSeq]
          simp only [Int.zero_add] at hnear
          refine ⟨_, rfl, _, rfl, ?_⟩
          cases sp with
          | false =>
            refine iteF (iteF ?_)
            dsimp only [tNext, tSeq]
            refine ⟨_, rfl, _, rfl, _, rfl, by show 2 ≤ sizeLine; decide, fun t2 nt2 => ⟨by show 1 ≤ sizeLine; decide, fun t3 nt3 => ?_⟩⟩
            have q2 := same_new (o := .tup [v, .int k]) nt2
            have q3 := same_new (o := .tup [V.ref t2]) nt3
            have bq := (b17.trans (s18.but g)).trans ((q2.trans q3).but g)
            obtain ⟨to', xo, eo, hto', hxo⟩ := mono_own _ _ _ _ (hh16.keep bq) hown
            subst eo
            have lxo := paired_len hxo
            have hrow2 := mono_row _ _ _ _ ((hh17.keep (s18.but g)).trans (q2.trans q3).keep) hrow
            refine cat_of hto' upd_same (by have h3 : m.toNat ≤ 5 := (by omega); show xo.length + 1 ≤ 10000; omega) fun H20 t4 s20 ht4 => ?_
            refine ⟨_, _, _, _, own ++ [(l, k)], rfl, (b16.trans bq).trans (s20.but g), ((hh17.same s18).same (q2.trans q3)).same s20, (hP16.but hh16 bq).same s20, s20 _ _ (bq.lst Dg.1 hD16), ⟨t4, xo ++ [.ref t2], rfl, ht4, paired_app (paired_mono mono_rule s20.keep hxo) (.cons ⟨t2, v, rfl, s20 _ _ (q3 _ _ upd_same), mono_row _ _ _ _ s20.keep hrow2⟩ .nil)⟩, by rw [List.length_append, hlo]; rfl, fun r' hr' => ?_⟩
            rcases List.mem_append.mp hr' with h | h
            · exact hro r' h
            · rw [List.mem_singleton.mp h]
              exact ⟨hir, k0, k1, hnear⟩
          | true =>
            refine iteT ⟨_, rfl, g, c, 2, rfl, by decide, by decide, hh17.same s18, fun H19 e2 b19 hh19 e20 e21 => ⟨rfl, _, rfl, ?_⟩⟩
            by_cases he : e2 = 0
            · rw [decide_eq_true (by rw [he])]
              refine iteT ⟨_, rfl, _, rfl, g, c, p, rfl, by omega, by omega, hh19, fun H21 k2 b21 hh21 k20 k21 => ?_⟩
              dsimp only [gName, tSeq]
              refine ⟨_, rfl, _, rfl, _, rfl, by show 2 ≤ sizeLine; decide, fun t2 nt2 => ⟨by show 1 ≤ sizeLine; decide, fun t3 nt3 => ?_⟩⟩
              have q2 := same_new (o := .tup [v, .int k2]) nt2
              have q3 := same_new (o := .tup [V.ref t2]) nt3
              have bq := (b17.trans (((s18.but g).trans b19).trans b21)).trans ((q2.trans q3).but g)
              obtain ⟨to', xo, eo, hto', hxo⟩ := mono_own _ _ _ _ (hh16.keep bq) hown
              subst eo
              have lxo := paired_len hxo
              have hrow2 := mono_row _ _ _ _ ((hh17.keep (((s18.but g).trans b19).trans b21)).trans (q2.trans q3).keep) hrow
              refine cat_of hto' upd_same (by have h3 : m.toNat ≤ 5 := (by omega); show xo.length + 1 ≤ 10000; omega) fun H20 t4 s20 ht4 => ?_
              refine ⟨_, _, _, _, own ++ [(l, k2)], rfl, (b16.trans bq).trans (s20.but g), ((hh21).same (q2.trans q3)).same s20, (hP16.but hh16 bq).same s20, s20 _ _ (bq.lst Dg.1 hD16), ⟨t4, xo ++ [.ref t2], rfl, ht4, paired_app (paired_mono mono_rule s20.keep hxo) (.cons ⟨t2, v, rfl, s20 _ _ (q3 _ _ upd_same), mono_row _ _ _ _ s20.keep hrow2⟩ .nil)⟩, by rw [List.length_append, hlo]; rfl, fun r' hr' => ?_⟩
              rcases List.mem_append.mp hr' with h | h
              · exact hro r' h
              · rw [List.mem_singleton.mp h]
                exact ⟨hir, k20, k21, hnear⟩
            · rw [decide_eq_false (fun z => he (V.int.inj z))]
              refine iteF ?_
              dsimp only [tNext, tSeq]
              refine ⟨_, rfl, _, rfl, _, rfl, by show 2 ≤ sizeLine; decide, fun t2 nt2 => ⟨by show 1 ≤ sizeLine; decide, fun t3 nt3 => ?_⟩⟩
              have q2 := same_new (o := .tup [v, .int k]) nt2
              have q3 := same_new (o := .tup [V.ref t2]) nt3
              have bq := (b17.trans ((s18.but g).trans b19)).trans ((q2.trans q3).but g)
              obtain ⟨to', xo, eo, hto', hxo⟩ := mono_own _ _ _ _ (hh16.keep bq) hown
              subst eo
              have lxo := paired_len hxo
              have hrow2 := mono_row _ _ _ _ ((hh17.keep ((s18.but g).trans b19)).trans (q2.trans q3).keep) hrow
              refine cat_of hto' upd_same (by have h3 : m.toNat ≤ 5 := (by omega); show xo.length + 1 ≤ 10000; omega) fun H20 t4 s20 ht4 => ?_
              refine ⟨_, _, _, _, own ++ [(l, k)], rfl, (b16.trans bq).trans (s20.but g), ((hh19).same (q2.trans q3)).same s20, (hP16.but hh16 bq).same s20, s20 _ _ (bq.lst Dg.1 hD16), ⟨t4, xo ++ [.ref t2], rfl, ht4, paired_app (paired_mono mono_rule s20.keep hxo) (.cons ⟨t2, v, rfl, s20 _ _ (q3 _ _ upd_same), mono_row _ _ _ _ s20.keep hrow2⟩ .nil)⟩, by rw [List.length_append, hlo]; rfl, fun r' hr' => ?_⟩
              rcases List.mem_append.mp hr' with h | h
              · exact hro r' h
              · rw [List.mem_singleton.mp h]
                exact ⟨hir, k0, k1, hnear⟩
        · rintro σ H15 ⟨v12, y13, y14, y15, own, rfl, b16, hh16, hP16, hD16, hown, hlo, hro⟩
          refine ⟨_, rfl, pd, _, rfl, hP16.gr, _, rfl, by show 1 ≤ sizeLine; decide, fun t2 nt2 => ?_⟩
          have q2 := same_new (o := .tup [v12]) nt2
          have hP17 := hP16.same q2
          have hown17 := mono_own _ _ _ _ q2.keep hown
          obtain ⟨tr', xr, er, htr', hxr⟩ := id hP17.r
          subst er
          have lxr := paired_len hxr
          refine cat_of htr' upd_same (by show xr.length + 1 ≤ 10000; simp only at lxr; omega) fun H20 t4 s20 ht4 => ?_
          have hP20 := hP17.same s20
          refine ⟨_, rfl, pd, _, rfl, DPut.k (k := .inr "rules") hP20.d (by show 4 < sizeLine; decide), ?_⟩
          rw [put_rules]
          have kt : ∀ t xs, H20 t = some (.tup xs) → (upd H20 pd (.dK (kvsP p (.ref tt) (.ref tu) (.ref t4)))) t = some (.tup xs) := fun t xs h => by
            rw [upd_ne (fun e => by rw [e, hP20.d] at h; cases h)]
            exact h
          have s15 := q2.trans s20
          obtain ⟨tt', xt, et, htt', hxt⟩ := id hP20.t
          have hr20 : rRls (upd H20 pd (.dK (kvsP p (.ref tt) (.ref tu) (.ref t4)))) (.ref t4) (rls ++ [own]) :=
            ⟨t4, xr ++ [v12], rfl, kt _ _ ht4, paired_app (Paired.mapP (paired_mono mono_own s20.keep hxr) fun _ _ q => own_kt kt q) (.cons (own_kt kt (mono_own _ _ _ _ s20.keep hown17)) .nil)⟩
          refine ⟨_, _, _, _, _, _, rls ++ [own], rfl, fun a u ha e => ?_, ((hh16.same s15)).setD pdg.1 pdg.2, ⟨upd_same, ⟨tt', xt, et, kt _ _ htt', Paired.mapP hxt fun _ _ q => pi_kt kt q⟩, row_kt kt hP20.u, hr20⟩, ?_, by rw [List.length_append, hlr]; rfl, ?_, ?_⟩
          · rw [upd_ne (fun q => by subst q; rw [pd0] at e; cases e)]
            exact (b16.trans (s15.but g)) a u ha e
          · rw [upd_ne (fun e => by rw [e, hP16.d] at hD16; cases hD16)]
            exact s15 _ _ hD16
          · intro o ho
            rcases List.mem_append.mp ho with h | h
            · exact h2 o h
            · rw [List.mem_singleton.mp h]; omega
          · intro post o ho
            by_cases hp : post < rls.length
            · rw [List.getElem?_append_left hp] at ho
              exact hok post o ho
            · rw [List.getElem?_append_right (by omega)] at ho
              have h0 : post - rls.length = 0 := by have := (List.getElem?_eq_some_iff.mp ho).1; rw [List.length_singleton] at this; omega
              rw [h0] at ho
              have e1 : post = i := by omega
              cases (Option.some.inj ho)
              rw [e1]
              exact hro
      · rintro σ H11 ⟨x8, x12, x13, x14, x15, rv, rls, rfl, b12, hh12, hP12, hD12, hlr, h2, hok⟩
        have h12 : (rls.map List.length).sum ≤ 4 * rls.length := by
          clear hok hP12 hlr
          induction rls with
          | nil => exact Nat.zero_le _
          | cons a l ih =>
            have h1 := h2 a (by simp)
            have h3 := ih fun own h => h2 own (by simp [h])
            rw [List.map_cons, List.sum_cons, List.length_cons]
            omega
        refine ⟨_, rfl, q H11 pd _ _ _ ⟨p, ties, us, rls⟩ n b12 hh12 hP12 ⟨tok, cl, oh, hlr, fun own h => by have := h2 own h; omega, ?_, hok⟩ rfl ?_⟩
        · show (rls.map List.length).sum ≤ 60
          omega
        · show (rls.map List.length).sum ≤ 28
          omega
end
end S4

namespace S4
open PySem L2 TT MM EE
/-! ### rows that are 1 in one place alone -/
theorem vec_zero (n x : Nat) : vec (List.replicate n 0) x = 0 := by
  unfold vec
  rw [List.getD_eq_getElem?_getD]
  cases e : (List.replicate n (0 : Int))[x]? with
  | none => rfl
  | some y => exact (List.mem_replicate.mp (List.mem_of_getElem? e)).2
theorem rep_row (H : Hp) (k : Nat) : (List.replicate k [V.int 0]).flatten = (List.replicate k (0 : Int)).map V.int := by
  induction k with
  | zero => rfl
  | succ k ih => rw [List.replicate_succ, List.replicate_succ, List.flatten_cons, ih, List.map_cons]; rfl
/-- (0,) * k -/
theorem zeros {K : PySem.W.Frag} {H : Hp} {t : Addr} {k : Nat} {Q : V → Hp → Prop} (ht : H t = some (.tup [V.int 0])) (hk : k ≤ 1000) (q : ∀ H' v, Same H H' → rRow H' v (List.replicate k 0) → Q v H') : rRepA K (.ref t) (.int (k : Int)) H Q := by
  refine ⟨t, k, [V.int 0], rfl, rfl, .of ht, by simp, by omega, by omega, by show 1 ≤ 1000; decide, fun e => ?_, fun e p np => ?_⟩
  · have : k = 1 := by omega
    subst this
    exact q H _ (.refl _) ⟨t, rfl, ht⟩
  · refine q _ _ (same_new np) ⟨p, rfl, ?_⟩
    rw [upd_same, Int.toNat_natCast, rep_row H k]
theorem cat_rows {K : PySem.W.Frag} {H : Hp} {u v : V} {l m : List Int} {Q : V → Hp → Prop} (hu : rRow H u l) (hv : rRow H v m) (hz : l.length + m.length ≤ 100000) (q : ∀ H' w, Same H H' → rRow H' w (l ++ m) → Q w H') : rCatA K u v H Q := by
  obtain ⟨a, rfl, ha⟩ := hu
  obtain ⟨b, rfl, hb⟩ := hv
  refine ⟨a, b, _, _, rfl, rfl, .of ha, .of hb, by rw [List.length_map, List.length_map]; exact Nat.le_trans hz (by decide), fun e => ?_, fun _ e => ?_, fun _ _ p np => ?_⟩
  · refine q H _ (.refl _) ⟨b, rfl, ?_⟩
    rw [List.map_eq_nil_iff.mp e]
    exact hb
  · refine q H _ (.refl _) ⟨a, rfl, ?_⟩
    rw [List.map_eq_nil_iff.mp e, List.append_nil]
    exact ha
  · exact q _ _ (same_new np) ⟨p, rfl, by rw [upd_same, List.map_append]⟩
/-- the row that is 1 in a place alone -/
def uRow (n i : Nat) : List Int := List.replicate i 0 ++ [1] ++ List.replicate (n - i - 1) 0
theorem uRow_len {n i : Nat} (h : i < n) : (uRow n i).length = n := by
  unfold uRow
  rw [List.length_append, List.length_append, List.length_replicate, List.length_replicate, List.length_singleton]
  omega
theorem rep_getD (k x : Nat) : (List.replicate k (0 : Int)).getD x 0 = 0 := vec_zero k x
theorem uRow_at {n i : Nat} (x : Nat) : (uRow n i).getD x 0 = if x = i then 1 else 0 := by
  unfold uRow
  rw [List.append_assoc, List.getD_eq_getElem?_getD]
  by_cases h : x < i
  · rw [List.getElem?_append_left (by rw [List.length_replicate]; exact h), ← List.getD_eq_getElem?_getD, rep_getD, if_neg (by omega)]
  · rw [List.getElem?_append_right (by rw [List.length_replicate]; omega), List.length_replicate]
    by_cases e : x = i
    · subst e
      rw [Nat.sub_self, if_pos rfl]
      rfl
    · obtain ⟨y, hy⟩ : ∃ y, x - i = y + 1 := ⟨x - i - 1, by omega⟩
      rw [hy, if_neg e]
      show ((List.replicate (n - i - 1) (0 : Int))[y]?).getD 0 = 0
      rw [← List.getD_eq_getElem?_getD, rep_getD]
def uRows (n : Nat) : List (List Int) := (List.range n).map (uRow n)
section
variable {P : Program} {w : World} {K : PySem.W.Frag} {mg : Str → Option Value} {base : Heap} {cT cS : Addr}
def spUnits : Sp := fun vs H Q _ => ∃ (n : Nat), vs = [.int (n : Int)] ∧ n ≤ 1000 ∧ ∀ H' a xs, Same H H' → H a = none → H' a = some (.lst xs) → Paired (rRow H') xs (uRows n) → Q (.ref a) H'
theorem ok_units (T : Tx K mg cT cS) {f : Addr} {fd : FuncData} (d : D K mg "unit_rows" s_unit_rows ["wide"] f fd) : FnOk P w K mg base CX0 1 f fd ["wide"] spUnits := by
  refine d.F.ok sc_unit_rows (fun vs H Q E h => ?_) (fun cdv A outer s H vs Q E hr h => ?_)
  · obtain ⟨n, rfl, _⟩ := h
    rfl
  · obtain ⟨n, rfl, hn, q⟩ := h
    refine ⟨_, pss_one (ps_ret (pe_lc (own := [("place", 1)]) (g := gName 1) (tt := tYes) rfl sc_unit_rows.nd (pi_range1 rfl T.b_range (pa_cons (pv 0) pa_nil)) (blkOk_by (N := N_unit_rows) (sc := defScope s_unit_rows) (by decide +kernel))
          (fun _ _ _ _ _ => pg_name (i := 1) sc_unit_rows.nd rfl (Or.inl rfl)) (fun _ _ _ _ _ => pts_nil)
          (fun _ _ _ _ _ => pe_op (catK (K := K) rfl) (pe_op (catK (K := K) rfl) (pe_op (repK (K := K) rfl) (pe_tup (pa_cons pe_int pa_nil)) (pv 1)) (pe_tup (pa_cons pe_int pa_nil))) (pe_op (repK (K := K) rfl) (pe_tup (pa_cons pe_int pa_nil)) (pe_op op_sub (pe_op op_sub (pv 0) (pv 1)) pe_int))))), ?_⟩
    refine ⟨_, rfl, _, rfl, by omega, by omega, fun D hD => ?_⟩
    refine lc_fm (walk_range (lo := 0) (n := ((n : Nat) : Int).toNat)) rRow (fun i => some (uRow n i)) hD (fun _ _ => trivial) ?_ ?_
    · rintro i x H2 H3 hi pv ⟨rfl, rfl⟩
      rw [Int.toNat_natCast] at hi
      refine ⟨rfl, by show 1 ≤ sizeLine; decide, fun t nt => ⟨_, rfl, ?_⟩⟩
      show rRepA K (.ref t) (.int (0 + (i : Int))) _ _
      rw [Int.zero_add]
      refine zeros upd_same (by omega) fun H4 v4 s4 h4 => ?_
      have s04 := (same_new (o := .tup [V.int 0]) nt).trans s4
      refine ⟨by show 1 ≤ sizeLine; decide, fun t1 nt1 => ?_⟩
      have s5 := same_new (o := .tup [V.int 1]) nt1
      refine cat_rows (m := [1]) (mono_row _ _ _ _ s5.keep h4) ⟨t1, rfl, upd_same⟩ (by rw [List.length_replicate]; show i + 1 ≤ 100000; omega) fun H6 v6 s6 h6 => ?_
      have s06 := (s04.trans s5).trans s6
      refine ⟨by show 1 ≤ sizeLine; decide, fun t2 nt2 => ⟨_, rfl, _, rfl, _, _, rfl, rfl, _, _, rfl, rfl, ?_⟩⟩
      have s7 := same_new (o := .tup [V.int 0]) nt2
      have e : (n : Int) - (0 + (i : Int)) - 1 = ((n - i - 1 : Nat) : Int) := by omega
      show rRepA K (.ref t2) (.int ((n : Int) - (0 + (i : Int)) - 1)) _ _
      rw [e]
      refine zeros upd_same (by omega) fun H8 v8 s8 h8 => ?_
      have s78 := s7.trans s8
      refine cat_rows (mono_row _ _ _ _ s78.keep h6) h8 (by rw [List.length_append, List.length_replicate, List.length_replicate, List.length_singleton]; omega) fun H9 v9 s9 h9 => ?_
      exact fm_keep mono_row pv hD (by omega) ((s06.trans s78).trans s9) rfl h9
    · intro H2 ys s2 hD2 hp2
      rw [fm_all, Int.toNat_natCast] at hp2
      exact q _ D ys s2 hD hD2 hp2
end
end S4

namespace S4
open PySem L2 TT MM EE
/-! ### kernel_of, all_rules, loose -/
theorem val_some {kvs : List (L2.Key × V)} {rs : RG} {H : Hp} (h : Paired (kvR H) kvs rs) (nd : (rs.map (·.1)).Nodup) {z : Nat × List Int} (hz : z ∈ rs) : ∃ v, valV kvs (Sum.inl ((z.1 : Nat) : Int)) = some v ∧ rRow H v z.2 := by
  obtain ⟨j, hj⟩ := List.getElem?_of_mem hz
  obtain ⟨⟨k, v⟩, hkv, e1, r⟩ := paired_get2 h hj
  have e1 : k = Sum.inl ((z.1 : Nat) : Int) := e1
  subst e1
  exact ⟨v, val_at h nd hkv, r⟩
/-- the row of a kernel, so far -/
def kerPre (p : Int) (rs : RG) (wd k j : Nat) : List Int := (List.range wd).map fun x => if x = k then 1 else if x ∈ (rs.take j).map (·.1) then (-((rowOf rs x).getD k 0)) % p else 0
theorem kerPre_zero {p : Int} {rs : RG} {wd k : Nat} (hk : k < wd) : kerPre p rs wd k 0 = uRow wd k := by
  unfold kerPre
  refine List.ext_getElem (by rw [List.length_map, List.length_range, uRow_len hk]) fun x h1 h2 => ?_
  rw [List.getElem_map, List.getElem_range]
  have := uRow_at (n := wd) (i := k) x
  rw [getD_at (List.getElem?_eq_getElem h2)] at this
  rw [this]
  split
  · rfl
  · rw [if_neg (by simp)]
theorem kerPre_all {p : Int} {rs : RG} {wd k : Nat} : kerPre p rs wd k rs.length = kerRow p rs wd k := by unfold kerPre kerRow; rw [List.take_length]
theorem kerPre_step {p : Int} {rs : RG} {wd k j : Nat} (nd : (rs.map (·.1)).Nodup) {z : Nat × List Int} (hj : rs[j]? = some z) (hz : z.1 < wd) (hk : k ≠ z.1) : (kerPre p rs wd k j).set z.1 ((-(z.2.getD k 0)) % p) = kerPre p rs wd k (j + 1) := by
  have hrow := rowOf_mem nd (List.mem_of_getElem? hj)
  unfold kerPre
  refine List.ext_getElem (by rw [List.length_set, List.length_map, List.length_map]) fun x h1 h2 => ?_
  rw [List.getElem_set, List.getElem_map, List.getElem_map, List.getElem_range]
  have et : (rs.take (j + 1)).map (·.1) = (rs.take j).map (·.1) ++ [z.1] := by rw [List.take_succ, hj, List.map_append]; rfl
  rw [et]
  by_cases e : z.1 = x
  · subst e
    rw [if_pos rfl, if_neg (fun q => hk q.symm), if_pos (by simp), hrow]
  · rw [if_neg e]
    by_cases e2 : x = k
    · rw [if_pos e2, if_pos e2]
    · rw [if_neg e2, if_neg e2]
      by_cases h : x ∈ (rs.take j).map (·.1)
      · rw [if_pos h, if_pos (List.mem_append_left _ h)]
      · rw [if_neg h, if_neg (fun q => (List.mem_append.mp q).elim h fun q => e (List.mem_singleton.mp q).symm)]
theorem neg_mod {p a : Int} (p0 : 0 < p) : 0 ≤ (-a) % p ∧ (-a) % p < p := mod_b p0
def rowsA (S : RD) : List (List Int) := S.rules.flatMap fun own => own.map fun r => r.1 ++ [r.2]
def rows0 (S : RD) : List (List Int) := S.rules.flatMap fun own => own.map fun r => r.1
section
variable {P : Program} {w : World} {K : PySem.W.Frag} {mg : Str → Option Value} {base : Heap} {cT cS : Addr}
def spKer (K : PySem.W.Frag) : Sp := fun vs H Q _ => ∃ (a : Addr) (p : Int) (wd : Nat) (xs : List V) (rws : List (List Int)), vs = [.int p, .int (wd : Int), .ref a] ∧ SqS K H a xs ∧ Paired (rRow H) xs rws ∧ rws.length ≤ 1000 ∧ Prm p ∧ p ≤ 1000000 ∧ wd < 64 ∧ (∀ r ∈ rws, isRow r p wd) ∧
  ∀ H' v, Same H H' → rTup rRow H' v (looseU p wd rws) → Q v H'
theorem ok_ker (T : Tx K mg cT cS) {f : Addr} {fd : FuncData} (d : D K mg "kernel_of" s_kernel_of ["p", "wide", "rows"] f fd) : FnOk P w K mg base CX0 4 f fd ["p", "wide", "rows"] (spKer K) := by
  obtain ⟨f1, fd1, d1⟩ := T.d_rungs_of
  have G1 := ok_rungs (P := P) (w := w) (base := base) T d1
  obtain ⟨f2, fd2, d2⟩ := T.d_unit_rows
  have G2 := ok_units (P := P) (w := w) (base := base) T d2
  obtain ⟨f3, fd3, d3⟩ := T.d_ladder_of
  have G3 := ok_lad_of (P := P) (w := w) (base := base) T d3
  refine d.F.ok sc_kernel_of (fun vs H Q E h => ?_) (fun cdv A outer s H vs Q E hr h => ?_)
  · obtain ⟨a, p, wd, xs, rws, rfl, _⟩ := h
    rfl
  · obtain ⟨a, p, wd, xs, rws, rfl, hS, hp, hn, prm, pm, hw, hrw, q⟩ := h
    refine ⟨_, pss_cons (ps_set (i := 3) sc_kernel_of.nd rfl (.inl rfl) (pe_ix ix_tup (pe_call G1 (hr.mono (by decide)) rfl d1.m d1.F.kp d1.b .nil pass0 (pa_cons (pv 0) (pa_cons (pv 1) (pa_cons (pv 2) pa_nil)))) pe_int (fun _ _ => rfl)))
      (pss_cons (ps_set (i := 4) sc_kernel_of.nd rfl (.inl rfl) (pe_lst pa_nil))
      (pss_cons (ps_for PassesOwn.never rfl (pi_enum (by rfl) T.b_enumerate (pa_cons (pe_call G2 (hr.mono (by decide)) rfl d2.m d2.F.kp d2.b .nil pass0 (pa_cons (pv 1) pa_nil)) pa_nil)) (pg_tup rfl (pgs_cons (pg_name (i := 5) sc_kernel_of.nd rfl (.inl rfl)) (pgs_cons (pg_name (i := 6) sc_kernel_of.nd rfl (.inl rfl)) pgs_nil)))
        (pss_one (ps_if (pt_cmp (pc_dnotin (hu1 hr) (pv 5) (pv 3))) (pss_cons (ps_set (i := 7) sc_kernel_of.nd rfl (.inl rfl) (pe_callTy call_list_of (by rfl) T.b_list (by decide +kernel) (pa_cons (pv 6) pa_nil)))
      (pss_cons (ps_lock (ps_for PassesOwn.never rfl (pi_keys (pv 3)) (pg_name (i := 8) sc_kernel_of.nd rfl (.inl rfl))
        (pss_one (ps_asg (pe_op op_mod (pe_un un_neg (pe_ix ix_tup (pe_dget (hu1 hr) (pv 3) (pv 8) (fun _ _ => rfl)) (pv 5) (fun _ _ => rfl))) (pv 0)) (pg_sub (pv 7) (pv 8) set_list)))))
      (pss_one (ps_expr (pe_bm PySem.F.plainAttrs_list PySem.F.slot_list_append PySem.F.type_list_append mt_append (pv 4) (pa_cons (pe_callTy call_tuple_of (by rfl) T.b_tuple (by decide +kernel) (pa_cons (pv 7) pa_nil)) pa_nil)))))) pss_nil)))
      (pss_one (ps_ret (pe_call G3 (hr.mono (by decide)) rfl d3.m d3.F.kp d3.b .nil pass0 (pa_cons (pv 0) (pa_cons (pv 1) (pa_cons (pv 4) pa_nil)))))))), ?_⟩
    have p2 := prm.1
    refine ⟨_, rfl, _, rfl, _, rfl, a, p, wd, xs, rws, rfl, hS, hp, hn, prm, pm, by omega, hrw, fun H1 t dr nw rs s1 ht hdr0 hdk S hlen => ?_⟩
    obtain ⟨kvs, hdr, hkv⟩ := hdk
    have nd := S.lad.nd
    have hkl := paired_len hkv
    have hrl := S.len
    refine ⟨t, _, _, _, rfl, rfl, .of ht, at_of (j := 0) rfl rfl, by show 0 ≤ sizeLine; decide, fun fo nfo => ?_⟩
    have s2 := same_new (o := .lst []) nfo
    have hfo2 := upd_same (H := H1) (a := fo) (o := .lst [])
    dsimp only [gName, tSeq]
    refine ⟨_, rfl, wd, rfl, by omega, fun H3 ua uxs s3 nua hua hup => ⟨ua, uxs, rfl, .of hua, ?_⟩⟩
    have hul := paired_len hup
    have hul2 : uxs.length = wd := by rw [hul]; unfold uRows; rw [List.length_map, List.length_range]
    have hdrF : fo ≠ dr := fun e => by rw [← e, nfo] at hdr; cases hdr
    have hfo3 := s3 _ _ hfo2
    have uafo : ua ≠ fo := fun e => by rw [e, hfo2] at nua; cases nua
    have s13 := s2.trans s3
    clear hfo2 s3
    let kf : Nat → Option (List Int) := fun k => if k ∈ rs.map (·.1) then none else some (kerRow p rs wd k)
    refine for_it (walk_enum (xs := uxs)) (fun i σ H' => ∃ x5 x6 x7 x8 ys, σ = [some (.int p), some (.int (wd : Int)), some (.ref a), some (.ref dr), some (.ref fo), x5, x6, x7, x8] ∧ Same H1 H' ∧ H' fo = some (.lst ys) ∧ Paired (rRow H') ys ((List.range i).filterMap kf) ∧ H' ua = some (.lst uxs) ∧ Paired (rRow H') uxs (uRows wd))
      ⟨none, none, none, none, [], rfl, s13, hfo3, .nil, hua, hup⟩ (fun i σ H' _ h => .of (let ⟨_, _, _, _, _, _, _, _, _, h, _⟩ := h; h)) ?_ ?_
    · rintro i x σ H4 H5 hi ⟨x5, x6, x7, x8, ys, rfl, s4, hfo, hpf, hua4, hup4⟩ ⟨tz, u1, u2, rfl, nz, rfl, e1, e2⟩
      cases (Option.some.inj e1)
      have hiw : i < wd := by omega
      have s5 := same_new (o := .tup [V.int (i : Nat), u2]) nz
      have htz := upd_same (H := H4) (a := tz) (o := .tup [V.int (i : Nat), u2])
      generalize upd H4 tz (.tup [V.int (i : Nat), u2]) = H5 at *
      have t5 := s4.trans s5
      have hfo5 := s5 _ _ hfo
      have hua5 := s5 _ _ hua4
      have hpf5 := paired_mono mono_row s5.keep hpf
      have hup5 := paired_mono mono_row s5.keep hup4
      obtain ⟨row, hrow, tu, rfl, htu⟩ := paired_get hup5 e2
      have hrow : row = uRow wd i := by
        unfold uRows at hrow
        rw [List.getElem?_map, List.getElem?_range hiw] at hrow
        exact (Option.some.inj hrow).symm
      subst hrow
      have hdr5 := t5 _ _ hdr
      refine ⟨tz, _, rfl, .of htz, rfl, _, _, rfl, _, _, rfl, rfl, ?_⟩
      dsimp only [gName, tSeq]
      refine ⟨_, rfl, _, rfl, dr, _, rfl, DGet.k (k := .inl (i : Int)) hdr5, _, rfl, ?_⟩
      have hylen : ys.length ≤ i := by rw [paired_len hpf]; exact fm_len
      by_cases hk : i ∈ rs.map (·.1)
      · obtain ⟨z, hz, ez⟩ := List.mem_map.mp hk
        obtain ⟨v, hv, _⟩ := val_some hkv nd hz
        rw [ez] at hv
        rw [hv]
        refine iteF ⟨_, _, _, _, ys, rfl, t5, hfo5, ?_, hua5, hup5⟩
        rw [range_fm, show kf i = none from if_pos hk]
        simpa using hpf5
      · rw [val_none hkv hk]
        refine iteT ⟨_, rfl, tu, _, rfl, .inr (.of htu), fun lr nlr => ?_⟩
        have s6 := same_new (o := .lst ((uRow wd i).map V.int)) nlr
        have hlr6 := upd_same (H := H5) (a := lr) (o := .lst ((uRow wd i).map V.int))
        have nlr0 : H1 lr = none := t5.free nlr
        have lrfo : lr ≠ fo := fun e => by rw [e, hfo5] at nlr; cases nlr
        have lrua : lr ≠ ua := fun e => by rw [e, hua5] at nlr; cases nlr
        have lrdr : lr ≠ dr := fun e => by rw [e, hdr] at nlr0; cases nlr0
        generalize upd H5 lr (.lst ((uRow wd i).map V.int)) = H6 at *
        dsimp only [gName, tSeq]
        have hdr6 := s6 _ _ hdr5
        refine ⟨dr, .dK kvs, hdr6, trivial, fun od => ?_⟩
        refine ⟨_, rfl, dr, od, rfl, .inl ⟨kvs, upd_same, ?_⟩⟩
        have k6 : ∀ b o, b ≠ dr → H6 b = some o → (upd H6 dr (.frz od (.dK kvs))) b = some o := fun b o hb h => by rw [upd_ne hb]; exact h
        have hkvF : Paired (kvR (upd H6 dr (.frz od (.dK kvs)))) kvs rs := kvR_mono (fun t xs h => k6 _ _ (fun e => by rw [e, hdr6] at h; cases h) h) (kvR_mono (fun t xs h => (t5.trans s6) _ _ h) hkv)
        have hlrF := k6 _ _ lrdr hlr6
        have hdrF' : (upd H6 dr (.frz od (.dK kvs))) dr = some (.frz od (.dK kvs)) := upd_same
        have backF : ∀ H7, (∀ b o, b ≠ lr → (upd H6 dr (.frz od (.dK kvs))) b = some o → H7 b = some o) → ∀ b o, b ≠ lr → H6 b = some o → (upd H7 dr (.dK kvs)) b = some o := fun H7 s7 b o hb h => by
          by_cases e : b = dr
          · subst e
            rw [hdr6] at h
            cases h
            exact upd_same
          · rw [upd_ne e]
            exact s7 b o hb (by rw [upd_ne e]; exact h)
        generalize upd H6 dr (.frz od (.dK kvs)) = HF at *
        refine for_it (walk_keys (kvs := kvs)) (fun j σ H' => ∃ x8, σ = [some (.int p), some (.int (wd : Int)), some (.ref a), some (.ref dr), some (.ref fo), some (.int (i : Nat)), some (.ref tu), some (.ref lr), x8] ∧ (∀ b o, b ≠ lr → HF b = some o → H' b = some o) ∧ H' lr = some (.lst ((kerPre p rs wd i j).map V.int)))
          ⟨x8, rfl, fun _ _ _ h => h, by rw [kerPre_zero hiw]; exact hlrF⟩ (fun j σ H' _ h => let ⟨_, _, h, _⟩ := h; h _ _ lrdr.symm hdrF') ?_ ?_
        · rintro j x σ H7 H8 hj ⟨y8, rfl, s7, hlr7⟩ ⟨rfl, k, vv, hkv7, rfl⟩
          obtain ⟨z, hz, e1', _⟩ := paired_get hkvF hkv7
          have e1' : k = Sum.inl ((z.1 : Nat) : Int) := e1'
          subst e1'
          have hzm := List.mem_of_getElem? hz
          obtain ⟨v, hv, tv, rfl, htv⟩ := val_some hkvF nd hzm
          obtain ⟨zw, zl, zin⟩ := S.ok z hzm
          have hkz : i ≠ z.1 := fun e => hk (by rw [e]; exact List.mem_map.mpr ⟨z, hzm, rfl⟩)
          have hvi : z.2[i]? = some (z.2[i]'(by omega)) := List.getElem?_eq_getElem (by omega)
          have htv7 := s7 _ _ (fun e => by rw [e, hlrF] at htv; cases htv) htv
          have hdr7 := s7 _ _ lrdr.symm hdrF'
          refine ⟨_, rfl, _, rfl, dr, _, rfl, .inl ⟨kvs, _, .inr ⟨od, hdr7⟩, rfl, hv.symm⟩, _, rfl, tv, _, _, _, rfl, rfl, .of htv7, atI_nat (int_at hvi), ?_⟩
          refine ⟨_, rfl, _, rfl, _, _, rfl, rfl, by show 0 < p; omega, ?_⟩
          have hlk : (kerPre p rs wd i j).length = wd := by unfold kerPre; rw [List.length_map, List.length_range]
          refine ⟨_, rfl, _, rfl, lr, _, _, z.1, rfl, rfl, hlr7, ixN_nat (by rw [List.length_map, hlk]; exact zw), ?_⟩
          refine ⟨_, rfl, fun b o hb h => by rw [upd_ne hb]; exact s7 b o hb h, ?_⟩
          rw [upd_same, ← kerPre_step nd hz zw hkz, getD_at hvi, List.map_set]
        · rintro σ H7 ⟨y8, rfl, s7, hlr7⟩
          rw [hkl, kerPre_all] at hlr7
          refine ⟨s7 _ _ lrdr.symm hdrF', ?_⟩
          have b7 := backF H7 s7
          have hlr8 : (upd H7 dr (.dK kvs)) lr = some (.lst ((kerRow p rs wd i).map V.int)) := by rw [upd_ne lrdr]; exact hlr7
          generalize upd H7 dr (.dK kvs) = H8 at *
          have t8 : Same H1 H8 := fun b o h => b7 b o (fun e => by rw [e, nlr0] at h; cases h) ((t5.trans s6) b o h)
          have hfo8 := b7 _ _ lrfo.symm (s6 _ _ hfo5)
          have hua8 := b7 _ _ lrua.symm (s6 _ _ hua5)
          have k58 : Keep H5 H8 := fun b o n h => b7 b o (fun e => by rw [e, nlr] at h; cases h) (s6 _ _ h)
          refine ⟨_, rfl, .inl ⟨rfl, _, .of hfo8⟩, _, rfl, lr, _, rfl, .inl ⟨.of hlr8, fun tt ntt => ?_⟩⟩
          have s9 := same_new (o := .tup ((kerRow p rs wd i).map V.int)) ntt
          have htt9 := upd_same (H := H8) (a := tt) (o := .tup ((kerRow p rs wd i).map V.int))
          have hfo9 := s9 _ _ hfo8
          generalize upd H8 tt (.tup ((kerRow p rs wd i).map V.int)) = H9 at *
          have kA : Keep H9 (upd H9 fo (.lst (ys ++ [V.ref tt]))) := keep_lst hfo9
          refine ⟨fo, _, _, rfl, rfl, hfo9, Nat.lt_of_le_of_lt (by omega : ys.length ≤ 64) (by decide), ?_⟩
          refine ⟨_, _, _, _, ys ++ [V.ref tt], rfl, same_own (t8.trans s9) nfo, upd_same, ?_, by rw [upd_ne uafo]; exact s9 _ _ hua8, paired_mono mono_row ((k58.trans s9.keep).trans kA) hup5⟩
          rw [range_fm, show kf i = some (kerRow p rs wd i) from if_neg hk]
          exact paired_app (paired_mono mono_row ((k58.trans s9.keep).trans kA) hpf5) (.cons ⟨tt, rfl, kA.tup htt9⟩ .nil)
    · rintro σ H4 ⟨x5, x6, x7, x8, ys, rfl, s4, hfo, hpf, hua4, hup4⟩
      rw [hul2] at hpf
      have hlen : ys.length ≤ wd := by rw [paired_len hpf]; exact kerL_len (p := p) (rs := rs)
      refine ⟨_, rfl, _, rfl, _, rfl, fo, p, wd, ys, kerL p wd rs, rfl, .inl hfo, hpf, Nat.le_trans kerL_len (by omega), prm, pm, by omega, .inl hw, kerL_is p2, fun H5 v lad s5 hv hlad _ => ?_⟩
      rw [loose_eq p2 S hlad] at hv
      exact q _ v ((s1.trans s4).trans s5) hv
def spAllR (cT : Addr) (mg : Str → Option Value) : Sp := fun vs H Q _ => ∃ (u : V) (S : RD) (n : Nat), vs = [u] ∧ rRO cT mg H u S ∧ RulesOk S n ∧ ∀ H' r xs, Same H H' → H r = none → H' r = some (.lst xs) → Paired (rRow H') xs (rowsA S) → Q (.ref r) H'
theorem ok_allR (T : Tx K mg cT cS) {f : Addr} {fd : FuncData} (d : D K mg "all_rules" s_all_rules ["rules"] f fd) : FnOk P w K mg base CX0 1 f fd ["rules"] (spAllR cT mg) := by
  refine d.F.ok sc_all_rules (fun vs H Q E h => ?_) (fun cdv A outer s H vs Q E hr h => ?_)
  · obtain ⟨u, S, n, rfl, _⟩ := h
    rfl
  · obtain ⟨u, S, n, rfl, hR, ok, q⟩ := h
    refine ⟨_, pss_one (ps_ret (pe_lc2 (own := [("own", 1), ("row", 2), ("right", 3)]) (vs1 := [2, 3]) (wi1 := _) (g := (gName 1)) (g1 := (gTup K 2 (gCons (gName 2) (gCons (gName 3) gNil)))) (tt := tYes) (tt1 := tYes) rfl sc_all_rules.nd
          (pi_tup (pe_fld (pv 0) rfl)) (blkOk_by (N := N_all_rules) (sc := defScope s_all_rules) (by decide +kernel)) (by decide)
          (fun _ _ _ _ _ => (pg_name (i := 1) sc_all_rules.nd rfl (Or.inl rfl))) (fun _ _ _ _ _ => pts_nil)
          (fun _ _ _ _ _ => (piT rfl (pi_tup (pv 1))))
          (fun _ _ _ _ _ => (pgT rfl rfl (pgs_cons (pg_name (i := 2) sc_all_rules.nd rfl (Or.inl rfl)) (pgs_cons (pg_name (i := 3) sc_all_rules.nd rfl (Or.inl rfl)) pgs_nil)))) (fun _ _ _ _ _ => pts_nil)
          (fun _ _ _ _ _ => (pe_op (catK (K := K) rfl) (pv 2) (pe_tup (pa_cons (pv 3) pa_nil)))))), ?_⟩
    obtain ⟨fR, fdR, kR⟩ := T.k_Rules
    have n4 : NoAttr K (cR mg) "rules" := kR.na _ (by simp)
    obtain ⟨a, dx, tr, tu, tl, rfl, hI, hT, hU, hL⟩ := id hR
    obtain ⟨_, xs, e, htl, hxs⟩ := id hL
    cases e
    have lxs := paired_len hxs
    have hln := ok.len
    have hn24 := ok.tree.ok.n24
    have hb : ∀ j : Nat, ((S.rules[j]?.map fun own => own.map fun r : Rule => r.1 ++ [r.2]).getD []).length ≤ 8 := fun j => by
      cases h : S.rules[j]? with
      | none => exact Nat.zero_le _
      | some own => show (own.map _).length ≤ 8; rw [List.length_map]; exact ok.l8 _ (List.mem_of_getElem? h)
    refine ⟨_, rfl, a, cR mg, dx, _, _, rfl, hI, kR.cl, n4, rfs_rules, tl, rfl, ⟨_, .of htl⟩, fun D7 hD7 => ?_⟩
    refine walk_W (walk_tup (xs := xs)) _ (PvFl rRow (fun i => (S.rules[i]?.map fun own => own.map fun r : Rule => r.1 ++ [r.2]).getD []) D7 H) (fl_start hD7) (fun i H' _ h => .of (h.1.keep.tup htl)) ?_ ?_
    · rintro i x H8 H9 hi pv ⟨rfl, hx⟩
      obtain ⟨own, hown, to, xo, rfl, hto, hpo⟩ := paired_get (paired_mono mono_own pv.1.keep hxs) hx
      have hlo := paired_len hpo
      have hok := ok.ok i _ hown
      refine ⟨rfl, ?_⟩
      refine ⟨_, rfl, to, rfl, ⟨_, .of hto⟩, ?_⟩
      have hF : (S.rules[i]?.map fun own => own.map fun r : Rule => r.1 ++ [r.2]).getD [] = own.map fun r : Rule => r.1 ++ [r.2] := by rw [hown]; rfl
      have hpre := flat_lenR (F := fun i => (S.rules[i]?.map fun own => own.map fun r : Rule => r.1 ++ [r.2]).getD []) (i := i) (b := 8) fun j _ => hb j
      have hbi := hb i
      rw [hF, List.length_map] at hbi
      refine walk_W (walk_tup (xs := xo)) _ (PvIn rRow _ ((S.rules[i]?.map fun own => own.map fun r : Rule => r.1 ++ [r.2]).getD []) D7 H H9) (fl_in mono_row pv (.refl _)) (fun j H' _ h => .of (h.2.1.tup hto)) ?_ ?_
      · rintro j y H10 H11 hj pv6 ⟨rfl, hy2⟩
        obtain ⟨r, hr, t2, x2, rfl, ht2, hx2⟩ := paired_get (paired_mono mono_rule pv6.2.1 hpo) hy2
        have hrr := (hok r (List.mem_of_getElem? hr)).row.1
        have hs60 := ok.unk.s
        obtain ⟨tx, rfl, htx⟩ := id hx2
        refine ⟨t2, _, rfl, .of ht2, rfl, _, _, rfl, _, _, rfl, rfl, rfl, ?_⟩
        refine ⟨_, rfl, _, rfl, by show 1 ≤ sizeLine; decide, fun p12 np12 => ?_⟩
        have s12 := same_new (o := .tup [V.int r.2]) np12
        refine cat_of (s12 _ _ htx) upd_same (by rw [List.length_map]; show _ + 1 ≤ 10000; omega) fun H13 p13 s13 h13 => ?_
        exact in_keep mono_row pv6 hD7 (by omega) (s12.trans s13) (by rw [hF, List.getElem?_map, hr]; rfl) ⟨p13, rfl, by rw [h13, List.map_append]; rfl⟩
      · intro H10 pv6
        exact in_fl (by rw [hF, List.length_map, hlo]) pv6
    · rintro H8 ⟨s8, ys8, hD8, hp8⟩
      rw [lxs, fl_list] at hp8
      exact q _ D7 ys8 s8 hD7 hD8 hp8
def spLoose (cT : Addr) (mg : Str → Option Value) : Sp := fun vs H Q _ => ∃ (u : V) (S : RD) (n wd : Nat), vs = [u] ∧ rRO cT mg H u S ∧ RulesOk S n ∧ S.unk.sum = (wd : Int) ∧ ∀ H' v, Same H H' → rTup rRow H' v (looseU S.p wd (rows0 S)) → Q v H'
theorem ok_loose (T : Tx K mg cT cS) {f : Addr} {fd : FuncData} (d : D K mg "loose" s_loose ["rules"] f fd) : FnOk P w K mg base CX0 5 f fd ["rules"] (spLoose cT mg) := by
  obtain ⟨f1, fd1, d1⟩ := T.d_all_rules
  have G1 := ok_allR (P := P) (w := w) (base := base) T d1
  obtain ⟨f2, fd2, d2⟩ := T.d_kernel_of
  have G2 := ok_ker (P := P) (w := w) (base := base) T d2
  refine d.F.ok sc_loose (fun vs H Q E h => ?_) (fun cdv A outer s H vs Q E hr h => ?_)
  · obtain ⟨u, S, n, wd, rfl, _⟩ := h
    rfl
  · obtain ⟨u, S, n, wd, rfl, hR, ok, hwd, q⟩ := h
    refine ⟨_, pss_cons (ps_set (i := 1) sc_loose.nd rfl (.inr rfl) (pe_callB (cr_sumT rfl) (by rfl) T.b_sum (by decide +kernel) (pa_cons (pe_fld (pv 0) rfl) pa_nil)))
      (pss_one (ps_ret (pe_call G2 (hr.mono (by decide)) rfl d2.m d2.F.kp d2.b .nil pass0 (pa_cons (pe_fld (pv 0) rfl) (pa_cons (pv 1) (pa_cons (pe_lc (own := [("row", 2)]) (g := (gName 2)) (tt := tYes) rfl sc_loose.nd (pi_list (pe_call G1 (hr.mono (by decide)) rfl d1.m d1.F.kp d1.b .nil pass0 (pa_cons (pv 0) pa_nil))) (blkOk_by (N := N_loose) (sc := defScope s_loose) (by decide +kernel)) (fun _ _ _ _ _ => (pg_name (i := 2) sc_loose.nd rfl (Or.inl rfl))) (fun _ _ _ _ _ => pts_nil)
            (fun _ _ _ _ _ => (pe_slice (slK (K := K) rfl) (pv 2) po_none (po_some (pv 1))))) pa_nil)))))), ?_⟩
    obtain ⟨fR, fdR, kR⟩ := T.k_Rules
    have nR : ∀ y ∈ (["p", "tree", "unknowns", "rules"] : List Str), NoAttr K (cR mg) y := kR.na
    have n1 := nR "p" (by simp)
    have n3 := nR "unknowns" (by simp)
    have clR : Cls K (cR mg) := kR.cl
    obtain ⟨a, dx, tr, tu, tl, rfl, hI, hT, hU, hL⟩ := id hR
    obtain ⟨_, e, htu⟩ := id hU
    cases e
    have hs60 := ok.unk.s
    have p2 := ok.clock.1
    refine ⟨_, rfl, a, cR mg, dx, _, _, rfl, hI, clR, n3, rfs_unk, tu, S.unk, rfl, .of htu, ?_⟩
    rw [hwd]
    dsimp only [gName, tSeq]
    refine ⟨_, rfl, a, cR mg, dx, _, _, rfl, hI, clR, n1, rfs_p, _, rfl, _, rfl, .ref a, S, n, rfl, hR, ok, fun H1 r xs s1 nr hr1 hp1 => ⟨r, rfl, ⟨_, .of hr1⟩, fun D hD => ?_⟩⟩
    have hA : ∀ l ∈ rowsA S, ∃ x : Rule, l = x.1 ++ [x.2] ∧ isRow x.1 S.p (wd : Int) := fun l hl => by
      obtain ⟨own, ho, hl⟩ := List.mem_flatMap.mp hl
      obtain ⟨x, hx, rfl⟩ := List.mem_map.mp hl
      obtain ⟨i, hi⟩ := List.getElem?_of_mem ho
      have := (ok.ok i own hi x hx).row
      rw [hwd] at this
      exact ⟨x, rfl, this⟩
    have hlen : (rowsA S).length ≤ 60 := by
      unfold rowsA
      rw [List.length_flatMap]
      refine Nat.le_trans (Nat.le_of_eq ?_) ok.l60
      congr 1
      refine List.map_congr_left fun own _ => ?_
      rw [List.length_map]
    refine lc_fm (walk_list (xs := xs)) rRow (fun i => (rowsA S)[i]?.bind fun l => some (l.take wd)) hD (fun H' s' => .of (s' _ _ hr1)) ?_ ?_
    · rintro i x H2 H3 hi pv ⟨rfl, hx⟩
      obtain ⟨l, hl, t, rfl, ht⟩ := paired_get (paired_mono mono_row pv.1.keep hp1) hx
      have h1 := paired_len hp1
      refine ⟨rfl, _, rfl, _, rfl, (wd : Int), rfl, slice_upto ht fun H4 t4 s4 ht4 => ?_⟩
      exact fm_keep mono_row pv hD (by omega) s4 (by rw [hl]; rfl) ⟨t4, rfl, by rw [ht4, List.map_take]⟩
    · intro H2 ys s2 hD2 hp2
      have h1 := paired_len hp1
      rw [h1, fm_list, List.filterMap_eq_map'] at hp2
      have e0 : (rowsA S).map (fun l => l.take wd) = rows0 S := by
        unfold rowsA rows0
        rw [List.map_flatMap]
        rw [List.flatMap_def, List.flatMap_def]
        congr 1
        refine List.map_congr_left fun own ho => ?_
        rw [List.map_map]
        refine List.map_congr_left fun x hx => ?_
        obtain ⟨i, hi⟩ := List.getElem?_of_mem ho
        have := (ok.ok i own hi x hx).row.1
        show (x.1 ++ [x.2]).take wd = x.1
        rw [List.take_append_of_le_length (by omega), List.take_of_length_le (by omega)]
      rw [e0] at hp2
      have h0 : ∀ l ∈ rows0 S, isRow l S.p (wd : Int) := fun l hl => by
        rw [← e0] at hl
        obtain ⟨y, hy, rfl⟩ := List.mem_map.mp hl
        obtain ⟨x, rfl, hx⟩ := hA y hy
        have := hx.1
        rw [List.take_append_of_le_length (by omega), List.take_of_length_le (by omega)]
        exact hx
      have hl0 : (rows0 S).length ≤ 60 := by rw [← e0, List.length_map]; exact hlen
      exact ⟨D, S.p, wd, ys, rows0 S, rfl, .inl hD2, hp2, by omega, ok.clock.prm, ok.clock.2.1, by omega, h0, fun H3 v s3 hv => q _ v ((s1.trans s2).trans s3) hv⟩
end
end S4

namespace S4
open PySem L2 TT MM EE
/-! ### solution, told_at, sure_values -/
def rOpt {α : Type} (R : Rp α) : Rp (Option α) := fun H v o => match o with
  | none => v = .non
  | some a => R H v a
theorem mono_opt {α : Type} {R : Rp α} (m : Mono R) : Mono (rOpt R) := fun H H' v o k h => by
  cases o with
  | none => exact h
  | some a => exact m _ _ _ _ k h
def rOI : Rp (Option Int) := rOpt rInt
theorem mono_oi : Mono rOI := mono_opt mono_int
def sureL (rows : List (List Int)) (l : List Int) (places : List Int) : List (Option Int) := places.map fun x => if (rows.any fun r => r.getD x.toNat 0 != 0) = true then none else some (l.getD x.toNat 0)
noncomputable def solU (S : RD) (wd : Nat) : Option (List Int) := leastU S.p wd (rowsA S) (rows0 S)
noncomputable def sureU (S : RD) (wd : Nat) (post : Int) : Option (List (Option Int)) := (solU S wd).map fun l => sureL (looseU S.p wd (rows0 S)) l (heldL S.unk post)
noncomputable def atU (S : RD) (n wd : Nat) (post : Int) : List (List Int) := restU S.p (wd + 1) (heldL S.unk post ++ [(wd : Int)]) (rowsT S (rng n))
theorem rowsA_row {S : RD} {n wd : Nat} (ok : RulesOk S n) (hwd : S.unk.sum = (wd : Int)) : ∀ l ∈ rowsA S, isRow l S.p ((wd + 1 : Nat) : Int) := fun l hl => by
  obtain ⟨own, ho, hl⟩ := List.mem_flatMap.mp hl
  obtain ⟨x, hx, rfl⟩ := List.mem_map.mp hl
  obtain ⟨i, hi⟩ := List.getElem?_of_mem ho
  have h := ok.ok i own hi x hx
  have h1 := h.row.1
  refine ⟨by rw [List.length_append, List.length_singleton]; omega, fun v hv => ?_⟩
  rcases List.mem_append.mp hv with hv | hv
  · exact h.row.2 v hv
  · rw [List.mem_singleton.mp hv]; exact ⟨h.b0, h.b1⟩
theorem rowsA_len {S : RD} {n : Nat} (ok : RulesOk S n) : (rowsA S).length ≤ 60 := by
  unfold rowsA
  rw [List.length_flatMap]
  refine Nat.le_trans (Nat.le_of_eq ?_) ok.l60
  congr 1
  refine List.map_congr_left fun own _ => ?_
  rw [List.length_map]
theorem rows0_row {S : RD} {n wd : Nat} (ok : RulesOk S n) (hwd : S.unk.sum = (wd : Int)) : ∀ l ∈ rows0 S, isRow l S.p (wd : Int) := fun l hl => by
  obtain ⟨own, ho, hl⟩ := List.mem_flatMap.mp hl
  obtain ⟨x, hx, rfl⟩ := List.mem_map.mp hl
  obtain ⟨i, hi⟩ := List.getElem?_of_mem ho
  have := (ok.ok i own hi x hx).row
  rwa [hwd] at this
theorem sol_is {S : RD} {n wd : Nat} (ok : RulesOk S n) (hwd : S.unk.sum = (wd : Int)) {l : List Int} (h : solU S wd = some l) : isRow l S.p wd := by
  obtain ⟨rs, St⟩ := st_ex ok.clock.prm (rowsA_row ok hwd)
  exact least_is ok.clock.prm St h
theorem loose_row {S : RD} {n wd : Nat} (ok : RulesOk S n) : (looseU S.p wd (rows0 S)).length ≤ wd ∧ ∀ l ∈ looseU S.p wd (rows0 S), isRow l S.p wd := (loose_is ok.clock.prm).rows
theorem told_rest {S : RD} {n wd : Nat} (ok : RulesOk S n) (hwd : S.unk.sum = (wd : Int)) {ns kept : List Int} (hkn : kept.Nodup) (hkin : ∀ x ∈ kept, 0 ≤ x ∧ x < (wd : Int)) :
    pureU (leftU wd kept).length (ladL S.p (wd + 1) (rowsU S ns (ordU wd kept))) = restU S.p (wd + 1) (kept ++ [(wd : Int)]) (rowsT S ns) := by
  have eo : leftU wd kept ++ (kept ++ [(wd : Int)]) = ordU wd kept := by unfold ordU; rw [List.append_assoc]
  unfold restU
  rw [leftU_more hkin, eo, ord_len hkn hkin]
  congr 2
  unfold rowsT rowsU
  rw [List.map_flatMap]
  congr 1
  funext q
  rw [List.map_map]
  rfl
def scSure : Scope := { kind := .function, names := [(".0", .local), ("place", .cell), ("any", .globalImplicit), ("found", .cell), ("rows", .cell)], isGenerator := false, isCoroutine := false }
section
variable {P : Program} {w : World} {K : PySem.W.Frag} {mg : Str → Option Value} {base : Heap} {cT cS : Addr}
def spSol (cT : Addr) (mg : Str → Option Value) : Sp := fun vs H Q _ => ∃ (u : V) (S : RD) (n wd : Nat), vs = [u] ∧ rRO cT mg H u S ∧ RulesOk S n ∧ S.unk.sum = (wd : Int) ∧ ∀ H' v, Same H H' → rOpt rRow H' v (solU S wd) → Q v H'
theorem ok_sol (T : Tx K mg cT cS) {f : Addr} {fd : FuncData} (d : D K mg "solution" s_solution ["rules"] f fd) : FnOk P w K mg base CX0 6 f fd ["rules"] (spSol cT mg) := by
  obtain ⟨f1, fd1, d1⟩ := T.d_all_rules
  have G1 := ok_allR (P := P) (w := w) (base := base) T d1
  obtain ⟨f2, fd2, d2⟩ := T.d_rungs_of
  have G2 := ok_rungs (P := P) (w := w) (base := base) T d2
  obtain ⟨f3, fd3, d3⟩ := T.d_loose
  have G3 := ok_loose (P := P) (w := w) (base := base) T d3
  obtain ⟨f4, fd4, d4⟩ := T.d_cleared
  have G4 := ok_cleared (P := P) (w := w) (base := base) T d4
  refine d.F.ok sc_solution (fun vs H Q E h => ?_) (fun cdv A outer s H vs Q E hr h => ?_)
  · obtain ⟨u, S, n, wd, rfl, _⟩ := h
    rfl
  · obtain ⟨u, S, n, wd, rfl, hR, ok, hwd, q⟩ := h
    refine ⟨_, pss_cons (ps_set (i := 1) sc_solution.nd rfl (.inr rfl) (pe_callB (cr_sumT rfl) (by rfl) T.b_sum (by decide +kernel) (pa_cons (pe_fld (pv 0) rfl) pa_nil)))
      (pss_cons (ps_set (i := 2) sc_solution.nd rfl (.inr rfl) (pe_ix ix_tup (pe_call G2 (hr.mono (by decide)) rfl d2.m d2.F.kp d2.b .nil pass0 (pa_cons (pe_fld (pv 0) rfl) (pa_cons (pe_op op_add (pv 1) pe_int) (pa_cons (pe_call G1 (hr.mono (by decide)) rfl d1.m d1.F.kp d1.b .nil pass0 (pa_cons (pv 0) pa_nil)) pa_nil)))) pe_int (fun _ _ => rfl)))
      (pss_cons (ps_if (pt_cmp (pc_din (hu1 hr) (pv 1) (pv 2))) (pss_one (ps_ret pe_non)) pss_nil)
      (pss_cons (ps_set (i := 3) sc_solution.nd rfl (.inl rfl) (pe_callTy call_tuple_of (by rfl) T.b_tuple (by decide +kernel) (pa_cons (pe_lc (own := [("place", 4)]) (g := (gName 4)) (tt := tYes) rfl sc_solution.nd (pi_range1 rfl T.b_range (pa_cons (pv 1) pa_nil)) (blkOk_by (N := N_solution) (sc := defScope s_solution) (by decide +kernel)) (fun _ _ _ _ _ => (pg_name (i := 4) sc_solution.nd rfl (Or.inl rfl))) (fun _ _ _ _ _ => pts_nil)
            (fun _ _ _ _ _ => (pe_ifExp (pt_cmp (pc_din (hu1 hr) (pv 4) (pv 2))) (pe_ix (ixT (K := K) rfl) (pe_dget (hu1 hr) (pv 2) (pv 4) (fun _ _ => rfl)) (pv 1) (fun _ _ => rfl)) pe_int))) pa_nil)))
      (pss_one (ps_ret (pe_call G4 (hr.mono (by decide)) rfl d4.m d4.F.kp d4.b .nil pass0 (pa_cons (pe_fld (pv 0) rfl) (pa_cons (pe_ix ix_tup (pe_call G2 (hr.mono (by decide)) rfl d2.m d2.F.kp d2.b .nil pass0 (pa_cons (pe_fld (pv 0) rfl) (pa_cons (pv 1) (pa_cons (pe_call G3 (hr.mono (by decide)) rfl d3.m d3.F.kp d3.b .nil pass0 (pa_cons (pv 0) pa_nil)) pa_nil)))) pe_int (fun _ _ => rfl)) (pa_cons (pv 3) pa_nil))))))))), ?_⟩
    obtain ⟨fR, fdR, kR⟩ := T.k_Rules
    have nR : ∀ y ∈ (["p", "tree", "unknowns", "rules"] : List Str), NoAttr K (cR mg) y := kR.na
    have n1 := nR "p" (by simp)
    have n3 := nR "unknowns" (by simp)
    have clR : Cls K (cR mg) := kR.cl
    obtain ⟨a, dx, tr, tu, tl, rfl, hI, hT, hU, hL⟩ := id hR
    obtain ⟨_, e, htu⟩ := id hU
    cases e
    have hs60 := ok.unk.s
    have p2 := ok.clock.1
    have prm := ok.clock.prm
    have hA := rowsA_row ok hwd
    have hAl := rowsA_len ok
    refine ⟨_, rfl, a, cR mg, dx, _, _, rfl, hI, clR, n3, rfs_unk, tu, S.unk, rfl, .of htu, ?_⟩
    rw [hwd]
    dsimp only [gName, tSeq]
    refine ⟨_, rfl, a, cR mg, dx, _, _, rfl, hI, clR, n1, rfs_p, _, rfl, _, _, rfl, rfl, _, rfl, .ref a, S, n, rfl, hR, ok, fun H1 r xs s1 nr hr1 hp1 => ?_⟩
    refine ⟨r, S.p, wd + 1, xs, rowsA S, rfl, .inl hr1, hp1, by omega, prm, ok.clock.2.1, by omega, hA, fun H2 t dr nw rs s2 ht hdr0 hdk St hlen => ?_⟩
    obtain ⟨kvs, hdr, hkv⟩ := hdk
    have nd := St.lad.nd
    have s12 := s1.trans s2
    refine ⟨t, _, _, _, rfl, rfl, .of ht, at_of (j := 0) rfl rfl, ?_⟩
    dsimp only [gName, tSeq]
    refine ⟨_, rfl, _, rfl, dr, _, rfl, DGet.k (k := .inl (wd : Int)) hdr, _, rfl, ?_⟩
    by_cases hk : wd ∈ rs.map (·.1)
    · obtain ⟨z, hz, ez⟩ := List.mem_map.mp hk
      obtain ⟨v, hv, _⟩ := val_some hkv nd hz
      rw [ez] at hv
      rw [hv]
      refine iteT (q _ _ s12 ?_)
      unfold solU
      rw [least_none p2 St hk]
      rfl
    · rw [val_none hkv hk]
      refine iteF ?_
      dsimp only [tNext, tSeq]
      refine ⟨_, rfl, (wd : Int), rfl, by omega, by omega, fun D hD => ?_⟩
      refine lc_fm (walk_range (lo := 0) (n := ((wd : Nat) : Int).toNat)) rInt (fun i => some (if i ∈ rs.map (·.1) then (rowOf rs i).getD wd 0 else 0)) hD (fun _ _ => trivial) ?_ ?_
      · rintro i x H3 H4 hi pv ⟨rfl, rfl⟩
        have hdr3 := pv.1 _ _ hdr
        have hiw : i < wd := by omega
        refine ⟨rfl, _, rfl, _, rfl, dr, _, rfl, DGet.k (k := .inl (0 + (i : Int))) hdr3, _, rfl, ?_⟩
        rw [Int.zero_add]
        by_cases hki : i ∈ rs.map (·.1)
        · obtain ⟨z, hz, ez⟩ := List.mem_map.mp hki
          obtain ⟨v, hv, tv, rfl, htv⟩ := val_some hkv nd hz
          obtain ⟨zw, zl, zin⟩ := St.ok z hz
          subst ez
          rw [hv]
          have hvi : z.2[wd]? = some (z.2[wd]'(by omega)) := List.getElem?_eq_getElem (by omega)
          refine iteT ⟨_, rfl, _, rfl, dr, _, rfl, .inl ⟨kvs, .inl ((z.1 : Nat) : Int), .inl hdr3, by show V.int _ = V.int _; rw [Int.zero_add], hv.symm⟩, _, rfl, tv, _, _, _, rfl, rfl, .of (pv.1 _ _ htv), atI_nat (int_at hvi), ?_⟩
          exact fm_keep mono_int pv hD (by omega) (Same.refl _) (by rw [if_pos hki, rowOf_mem nd hz, getD_at hvi]) rfl
        · rw [val_none hkv hki]
          exact iteF (fm_keep mono_int pv hD (by omega) (Same.refl _) (by rw [if_neg hki]) rfl)
      · intro H3 ys s3 hD3 hp3
        rw [fm_all, Int.toNat_natCast] at hp3
        have := paired_int hp3
        subst this
        have efo : ((List.range wd).map fun i => if i ∈ rs.map (·.1) then (rowOf rs i).getD wd 0 else 0) = foundL wd rs := rfl
        rw [efo] at hD3
        refine ⟨D, _, rfl, .inl ⟨.of hD3, fun tf ntf => ?_⟩⟩
        have s4 := same_new (o := .tup ((foundL wd rs).map V.int)) ntf
        have htf4 := upd_same (H := H3) (a := tf) (o := .tup ((foundL wd rs).map V.int))
        generalize upd H3 tf (.tup ((foundL wd rs).map V.int)) = H4 at *
        have s14 := s12.trans (s3.trans s4)
        dsimp only [gName, tSeq]
        have hR4 := mono_ro cT mg _ _ _ _ s14.keep hR
        refine ⟨_, rfl, a, cR mg, dx, _, _, rfl, s14.keep.ins hI, clR, n1, rfs_p, _, rfl, a, cR mg, dx, _, _, rfl, s14.keep.ins hI, clR, n1, rfs_p, _, rfl, _, rfl, .ref a, S, n, wd, rfl, hR4, ok, hwd, fun H5 v5 s5 hv5 => ?_⟩
        obtain ⟨tv5, xs5, rfl, htv5, hxs5⟩ := id hv5
        obtain ⟨ll, lr⟩ := loose_row (wd := wd) ok
        refine ⟨tv5, S.p, wd, xs5, looseU S.p wd (rows0 S), rfl, .inr htv5, hxs5, by omega, prm, ok.clock.2.1, by omega, lr, fun H6 t6 dr6 nw6 rs6 s6 ht6 hdr60 hdk6 St6 hlen6 => ?_⟩
        obtain ⟨kvs6, hdr6, hkv6⟩ := hdk6
        have hf := foundL_is p2 St
        have hfl := isRow_len2 hf
        refine ⟨t6, _, _, _, rfl, rfl, .of ht6, at_of (j := 0) rfl rfl, _, rfl, dr6, .dK kvs6, .ref tf, foundL wd rs, rs6, S.p, rfl, hdr6, ⟨kvs6, rfl, hkv6⟩, St6.lad.nd, ⟨tf, rfl, (s5.trans s6) _ _ htf4⟩, by omega, ok.clock.2.1, hf.2, by omega, by omega, fun z hz => ?_, fun H7 v7 s7 hv7 => ?_⟩
        · obtain ⟨z1, z2, _⟩ := St6.ok z hz
          omega
        · refine q _ v7 (((s14.trans s5).trans s6).trans s7) ?_
          unfold solU
          rw [least_some p2 St hk St6]
          exact hv7
def spEvP (cT : Addr) (mg : Str → Option Value) : Sp := fun vs H Q _ => ∃ (u : V) (S : RD) (n : Nat), vs = [u] ∧ rRO cT mg H u S ∧ RulesOk S n ∧ ∀ H' v, Same H H' → rRow H' v (rng n) → Q v H'
theorem ok_evP (T : Tx K mg cT cS) {f : Addr} {fd : FuncData} (d : D K mg "every_post" s_every_post ["rules"] f fd) : FnOk P w K mg base CX0 1 f fd ["rules"] (spEvP cT mg) := by
  refine d.F.ok sc_every_post (fun vs H Q E h => ?_) (fun cdv A outer s H vs Q E hr h => ?_)
  · obtain ⟨u, S, n, rfl, _⟩ := h
    rfl
  · obtain ⟨u, S, n, rfl, hR, ok, q⟩ := h
    refine ⟨_, pss_one (ps_ret (pe_tupRg rfl (by rfl) T.b_tuple (prg_1 (by rfl) T.b_range (pe_fld (pe_fld (pv 0) rfl) rfl)))), ?_⟩
    obtain ⟨fR, fdR, kR⟩ := T.k_Rules
    obtain ⟨fT, fdT, kT⟩ := T.k_Tree
    have nP : NoAttr K cT "posts" := kT.na _ (by simp)
    have n2 : NoAttr K (cR mg) "tree" := kR.na _ (by simp)
    obtain ⟨a, dx, tr, tu, tl, rfl, hI, hT, hU, hL⟩ := id hR
    obtain ⟨_, dt, tt, xs, e, i1, i2, i3⟩ := id hT
    cases e
    have hn := ok.tree.ok.len
    have n24 := ok.tree.ok.n24
    refine ⟨_, rfl, a, cR mg, dx, _, _, rfl, hI, kR.cl, n2, rfs_tree, tr, cT, dt, _, _, rfl, i1, kT.cl, nP, tfs_posts _ _, _, rfl, .of_le (by omega) (by omega) (by omega) (by omega), fun r nr => ?_⟩
    refine q _ _ (same_new nr) ⟨r, rfl, ?_⟩
    rw [upd_same, show ((S.ties.length : Nat) : Int) + 1 = (n : Int) by omega, rgV_rng]
def spChP (cT : Addr) (mg : Str → Option Value) : Sp := fun vs H Q _ => ∃ (u : V) (S : RD) (n : Nat) (post : Int), vs = [u, .int post] ∧ rRO cT mg H u S ∧ RulesOk S n ∧ post ∈ rng n ∧ Q .non H
theorem ok_chP (T : Tx K mg cT cS) {f : Addr} {fd : FuncData} (d : D K mg "check_post" s_check_post ["rules", "post"] f fd) : FnOk P w K mg base CX0 3 f fd ["rules", "post"] (spChP cT mg) := by
  obtain ⟨f1, fd1, d1⟩ := T.d_is_below
  have G1 := ok_is_below (P := P) (w := w) (base := base) T d1
  refine d.F.ok sc_check_post (fun vs H Q E h => ?_) (fun cdv A outer s H vs Q E hr h => ?_)
  · obtain ⟨u, S, n, post, rfl, _⟩ := h
    rfl
  · obtain ⟨u, S, n, post, rfl, hR, ok, hp, q⟩ := h
    refine ⟨_, pss_one (ps_if (pt_not (pt_val (pe_call G1 (hr.mono (by decide)) rfl d1.m d1.F.kp d1.b .nil pass0 (pa_cons (pv 1) (pa_cons (pe_fld (pe_fld (pv 0) rfl) rfl) pa_nil))))) pss_never pss_nil), ?_⟩
    obtain ⟨fR, fdR, kR⟩ := T.k_Rules
    obtain ⟨fT, fdT, kT⟩ := T.k_Tree
    have nP : NoAttr K cT "posts" := kT.na _ (by simp)
    have n2 : NoAttr K (cR mg) "tree" := kR.na _ (by simp)
    obtain ⟨a, dx, tr, tu, tl, rfl, hI, hT, hU, hL⟩ := id hR
    obtain ⟨_, dt, tt, xs, e, i1, i2, i3⟩ := id hT
    cases e
    have hn := ok.tree.ok.len
    obtain ⟨p0, p1⟩ := rng_mem.mp hp
    refine ⟨_, rfl, _, rfl, a, cR mg, dx, _, _, rfl, hI, kR.cl, n2, rfs_tree, tr, cT, dt, _, _, rfl, i1, kT.cl, nP, tfs_posts _ _, _, _, rfl, _, rfl, ?_⟩
    rw [decide_eq_true (by omega)]
    exact iteF q
def spToldAt (cT : Addr) (mg : Str → Option Value) : Sp := fun vs H Q _ => ∃ (u : V) (S : RD) (n wd : Nat) (post : Int), vs = [u, .int post] ∧ rRO cT mg H u S ∧ RulesOk S n ∧ S.unk.sum = (wd : Int) ∧ post ∈ rng n ∧ ∀ H' v, Same H H' → rTup rRow H' v (atU S n wd post) → Q v H'
theorem ok_told_at (T : Tx K mg cT cS) {f : Addr} {fd : FuncData} (d : D K mg "told_at" s_told_at ["rules", "post"] f fd) : FnOk P w K mg base CX0 5 f fd ["rules", "post"] (spToldAt cT mg) := by
  obtain ⟨f1, fd1, d1⟩ := T.d_check_post
  have G1 := ok_chP (P := P) (w := w) (base := base) T d1
  obtain ⟨f2, fd2, d2⟩ := T.d_every_post
  have G2 := ok_evP (P := P) (w := w) (base := base) T d2
  obtain ⟨f3, fd3, d3⟩ := T.d_own_places
  have G3 := ok_own (P := P) (w := w) (base := base) T d3
  obtain ⟨f4, fd4, d4⟩ := T.d_told_of
  have G4 := ok_told_of (P := P) (w := w) (base := base) T d4
  refine d.F.ok sc_told_at (fun vs H Q E h => ?_) (fun cdv A outer s H vs Q E hr h => ?_)
  · obtain ⟨u, S, n, wd, post, rfl, _⟩ := h
    rfl
  · obtain ⟨u, S, n, wd, post, rfl, hR, ok, hwd, hp, q⟩ := h
    refine ⟨_, pss_cons (ps_expr (pe_call G1 (hr.mono (by decide)) rfl d1.m d1.F.kp d1.b .nil pass0 (pa_cons (pv 0) (pa_cons (pv 1) pa_nil))))
      (pss_one (ps_ret (pe_call G4 (hr.mono (by decide)) rfl d4.m d4.F.kp d4.b .nil pass0 (pa_cons (pv 0) (pa_cons (pe_call G2 (hr.mono (by decide)) rfl d2.m d2.F.kp d2.b .nil pass0 (pa_cons (pv 0) pa_nil)) (pa_cons (pe_call G3 (hr.mono (by decide)) rfl d3.m d3.F.kp d3.b .nil pass0 (pa_cons (pe_fld (pv 0) rfl) (pa_cons (pv 1) pa_nil))) pa_nil)))))), ?_⟩
    obtain ⟨fR, fdR, kR⟩ := T.k_Rules
    have n3 : NoAttr K (cR mg) "unknowns" := kR.na _ (by simp)
    obtain ⟨a, dx, tr, tu, tl, rfl, hI, hT, hU, hL⟩ := id hR
    obtain ⟨p0, p1⟩ := rng_mem.mp hp
    refine ⟨_, rfl, _, rfl, .ref a, S, n, post, rfl, hR, ok, hp, ?_⟩
    dsimp only [tNext, tSeq]
    refine ⟨_, rfl, _, rfl, .ref a, S, n, rfl, hR, ok, fun H1 v1 s1 hv1 => ?_⟩
    refine ⟨_, rfl, a, cR mg, dx, _, _, rfl, s1.keep.ins hI, kR.cl, n3, rfs_unk, _, rfl, .ref tu, S.unk, post, n, rfl, mono_row _ _ _ _ s1.keep hU, ok.tree.ok.n24, ok.unk, p0, p1, fun H2 v2 s2 hv2 => ?_⟩
    have hkin : ∀ x ∈ heldL S.unk post, 0 ≤ x ∧ x < (wd : Int) := fun x hx => by rw [← hwd]; exact held_lt ok.unk hx
    have hkn := held_nodup S.unk post
    refine ⟨.ref a, v1, v2, S, n, wd, rng n, heldL S.unk post, rfl, mono_ro cT mg _ _ _ _ (s1.trans s2).keep hR, ok, hwd, mono_row _ _ _ _ s2.keep hv1, hv2, rng_nodup n, hkn, fun x hx => hx, heldL_len ok.unk post, hkin, fun H3 v3 lad s3 hlad hv3 => ?_⟩
    refine q _ v3 ((s1.trans s2).trans s3) ?_
    unfold atU
    rw [← told_rest ok hwd hkn hkin, ← ladL_eq ok.clock.1 hlad]
    exact hv3
def spSure (cT : Addr) (mg : Str → Option Value) : Sp := fun vs H Q _ => ∃ (u : V) (S : RD) (n wd : Nat) (post : Int), vs = [u, .int post] ∧ rRO cT mg H u S ∧ RulesOk S n ∧ S.unk.sum = (wd : Int) ∧ post ∈ rng n ∧ ∀ H' v, Same H H' → rOpt (rTup rOI) H' v (sureU S wd post) → Q v H'
theorem ok_sure (T : Tx K mg cT cS) {f : Addr} {fd : FuncData} (d : D K mg "sure_values" s_sure_values ["rules", "post"] f fd) : FnOk P w K mg base CX0 7 f fd ["rules", "post"] (spSure cT mg) := by
  obtain ⟨f1, fd1, d1⟩ := T.d_check_post
  have G1 := ok_chP (P := P) (w := w) (base := base) T d1
  obtain ⟨f2, fd2, d2⟩ := T.d_solution
  have G2 := ok_sol (P := P) (w := w) (base := base) T d2
  obtain ⟨f3, fd3, d3⟩ := T.d_loose
  have G3 := ok_loose (P := P) (w := w) (base := base) T d3
  obtain ⟨f4, fd4, d4⟩ := T.d_own_places
  have G4 := ok_own (P := P) (w := w) (base := base) T d4
  refine d.F.ok sc_sure_values (fun vs H Q E h => ?_) (fun cdv A outer s H vs Q E hr h => ?_)
  · obtain ⟨u, S, n, wd, post, rfl, _⟩ := h
    rfl
  · obtain ⟨u, S, n, wd, post, rfl, hR, ok, hwd, hp, q⟩ := h
    refine ⟨_, pss_cons (ps_expr (pe_call G1 (hr.mono (by decide)) rfl d1.m d1.F.kp d1.b .nil pass0 (pa_cons (pv 0) (pa_cons (pv 1) pa_nil))))
      (pss_cons (ps_set (i := 2) sc_sure_values.nd rfl (.inr rfl) (pe_call G2 (hr.mono (by decide)) rfl d2.m d2.F.kp d2.b .nil pass0 (pa_cons (pv 0) pa_nil)))
      (pss_cons (ps_if (pt_cmp (pc_isN (pv 2))) (pss_one (ps_ret pe_non)) pss_nil)
      (pss_cons (ps_set (i := 3) sc_sure_values.nd rfl (.inr rfl) (pe_call G3 (hr.mono (by decide)) rfl d3.m d3.F.kp d3.b .nil pass0 (pa_cons (pv 0) pa_nil)))
      (pss_cons (ps_set (i := 4) sc_sure_values.nd rfl (.inl rfl) (pe_call G4 (hr.mono (by decide)) rfl d4.m d4.F.kp d4.b .nil pass0 (pa_cons (pe_fld (pv 0) rfl) (pa_cons (pv 1) pa_nil))))
      (pss_one (ps_ret (pe_callTy call_tuple_of (by rfl) T.b_tuple (by decide +kernel) (pa_cons (pe_lc (own := [("place", 6)]) (g := (gName 6)) (tt := tYes) rfl sc_sure_values.nd (pi_tup (pv 4)) (blkOk_by (N := N_sure_values) (sc := defScope s_sure_values) (by decide +kernel)) (fun _ _ _ _ _ => (pg_name (i := 6) sc_sure_values.nd rfl (Or.inr rfl))) (fun _ _ _ _ _ => pts_nil)
            (fun _ _ _ _ _ => (pe_ifExp (pt_val (pe_callB (anyLIK (K := K) rfl rfl) (by rfl) T.b_any (by decide +kernel) (pa_cons (pe_lc (own := [("row", 5)]) (g := (gName 5)) (tt := tYes) rfl sc_sure_values.nd (piT rfl (pi_tup (pv 3))) (blkOk_by (N := N_sure_values) (sc := scSure) (own := [("row", 5)]) (by decide +kernel)) (fun _ _ _ _ _ => (pg_name (i := 5) sc_sure_values.nd rfl (Or.inl rfl))) (fun _ _ _ _ _ => pts_nil)
            (fun _ _ _ _ _ => (pe_ix (ixT (K := K) rfl) (pv 5) (pv 6) (fun _ _ => rfl)))) pa_nil))) pe_non (pe_ix (ixT (K := K) rfl) (pv 2) (pv 6) (fun _ _ => rfl))))) pa_nil)))))))), ?_⟩
    obtain ⟨fR, fdR, kR⟩ := T.k_Rules
    have n3 : NoAttr K (cR mg) "unknowns" := kR.na _ (by simp)
    obtain ⟨a, dx, tr, tu, tl, rfl, hI, hT, hU, hL⟩ := id hR
    obtain ⟨p0, p1⟩ := rng_mem.mp hp
    have hs60 := ok.unk.s
    refine ⟨_, rfl, _, rfl, .ref a, S, n, post, rfl, hR, ok, hp, ?_⟩
    dsimp only [tNext, tSeq]
    refine ⟨_, rfl, .ref a, S, n, wd, rfl, hR, ok, hwd, fun H1 v1 s1 hv1 => ?_⟩
    cases hso : solU S wd with
    | none =>
      rw [hso] at hv1
      have hv1 : v1 = .non := hv1
      subst hv1
      dsimp only [gName, tSeq]
      refine ⟨_, rfl, _, rfl, ?_⟩
      rw [decide_eq_true rfl]
      exact iteT (q _ _ s1 (by unfold sureU; rw [hso]; rfl))
    | some l =>
      rw [hso] at hv1
      obtain ⟨tf, rfl, htf⟩ := id (show rRow H1 v1 l from hv1)
      have hl := isRow_len2 (sol_is ok hwd hso)
      dsimp only [gName, tSeq]
      refine ⟨_, rfl, _, rfl, ?_⟩
      rw [decide_eq_false (by simp)]
      refine iteF ?_
      dsimp only [tNext, tSeq]
      refine ⟨_, rfl, .ref a, S, n, wd, rfl, mono_ro cT mg _ _ _ _ s1.keep hR, ok, hwd, fun H2 v2 s2 hv2 => ?_⟩
      have s12 := s1.trans s2
      dsimp only [gName, tSeq]
      refine ⟨_, rfl, a, cR mg, dx, _, _, rfl, s12.keep.ins hI, kR.cl, n3, rfs_unk, _, rfl, .ref tu, S.unk, post, n, rfl, mono_row _ _ _ _ s12.keep hU, ok.tree.ok.n24, ok.unk, p0, p1, fun H3 v3 s3 hv3 => ?_⟩
      obtain ⟨to, rfl, hto⟩ := id hv3
      obtain ⟨tw, xs2, rfl, htw, hxs2⟩ := id hv2
      obtain ⟨ll, lr⟩ := loose_row (wd := wd) ok
      have lx2 := paired_len hxs2
      have htw3 := s3 _ _ htw
      have htf3 := (s2.trans s3) _ _ htf
      have hxs3 := paired_mono mono_row s3.keep hxs2
      have ho60 := heldL_len ok.unk post
      dsimp only [gName, tSeq]
      refine ⟨_, rfl, to, rfl, ⟨_, .of hto⟩, fun D hD => ?_⟩
      generalize hrw : looseU S.p wd (rows0 S) = rows at *
      refine lc_fm (walk_tup (xs := (heldL S.unk post).map V.int)) rOI (fun i => (heldL S.unk post)[i]?.bind fun x => some (if (rows.any fun r => r.getD x.toNat 0 != 0) = true then none else some (l.getD x.toNat 0))) hD (fun H' s' => .of (s' _ _ hto)) ?_ ?_
      · rintro i x H4 H5 hi pv ⟨rfl, hx⟩
        obtain ⟨y, hy, rfl⟩ := at_int hx
        rw [List.length_map] at hi
        obtain ⟨y0, y1⟩ := held_lt ok.unk (List.mem_of_getElem? hy)
        obtain ⟨k, rfl⟩ : ∃ k : Nat, y = (k : Int) := ⟨y.toNat, by omega⟩
        refine ⟨rfl, _, rfl, tw, rfl, ⟨_, .of (pv.1 _ _ htw3)⟩, fun D2 hD2 => ?_⟩
        refine lc_fm (walk_tup (xs := xs2)) rInt (fun j => rows[j]?.bind fun r => some (r.getD k 0)) hD2 (fun H' s' => .of (s' _ _ (pv.1 _ _ htw3))) ?_ ?_
        · rintro j x H6 H7 hj pw ⟨rfl, hx⟩
          obtain ⟨r, hr, tr', rfl, htr⟩ := paired_get (paired_mono mono_row (pv.1.trans pw.1).keep hxs3) hx
          have hrl := isRow_len2 (lr r (List.mem_of_getElem? hr))
          have hrk : r[k]? = some (r[k]'(by omega)) := List.getElem?_eq_getElem (by omega)
          refine ⟨rfl, _, rfl, _, rfl, tr', _, _, _, rfl, rfl, .of htr, atI_nat (int_at hrk), ?_⟩
          exact fm_keep mono_int pw hD2 (by omega) (Same.refl _) (by rw [hr]; show some (r.getD k 0) = _; rw [getD_at hrk]) rfl
        · intro H6 zs s6 hD6 hp6
          rw [lx2, fm_some] at hp6
          have := paired_int hp6
          subst this
          refine ⟨D2, _, rfl, .of hD6, _, rfl, ?_⟩
          have ea : ((rows.map fun r => r.getD k 0).any fun n => n != 0) = rows.any fun r => r.getD k 0 != 0 := by rw [List.any_map]; rfl
          rw [ea]
          have hlk : l[k]? = some (l[k]'(by omega)) := List.getElem?_eq_getElem (by omega)
          cases hb : rows.any fun r => r.getD k 0 != 0 with
          | true =>
            refine iteT ?_
            refine fm_keep mono_oi pv hD (by omega) s6 (a := none) ?_ rfl
            rw [hy]
            show some (if (rows.any fun r => r.getD ((k : Nat) : Int).toNat 0 != 0) = true then none else _) = _
            rw [Int.toNat_natCast, hb]
            rfl
          | false =>
            refine iteF ⟨_, rfl, _, rfl, tf, _, _, _, rfl, rfl, .of ((pv.1.trans s6) _ _ htf3), atI_nat (int_at hlk), ?_⟩
            refine fm_keep mono_oi pv hD (by omega) s6 (a := some (l[k]'(by omega))) ?_ rfl
            rw [hy]
            show some (if (rows.any fun r => r.getD ((k : Nat) : Int).toNat 0 != 0) = true then none else some (l.getD ((k : Nat) : Int).toNat 0)) = _
            rw [Int.toNat_natCast, hb, getD_at hlk]
            rfl
      · intro H4 ys s4 hD4 hp4
        rw [List.length_map, fm_some] at hp4
        refine ⟨D, _, rfl, .inl ⟨.of hD4, fun tq ntq => ?_⟩⟩
        have s5 := same_new (o := .tup ys) ntq
        refine q _ _ ((s12.trans s3).trans (s4.trans s5)) ?_
        unfold sureU
        rw [hso, hrw]
        exact ⟨tq, ys, rfl, upd_same, paired_mono mono_oi s5.keep hp4⟩
end
end S4

namespace S4
open PySem L2 TT MM EE
/-! ### all tuples; small rules and great ones -/
def allT (p : Int) : Nat → List (List Int)
  | 0 => [[]]
  | n + 1 => (allT p n).flatMap fun c => (List.range p.toNat).map fun (v : Nat) => c ++ [(v : Int)]
theorem allT_len (p : Int) : ∀ n, (allT p n).length = p.toNat ^ n
  | 0 => rfl
  | n + 1 => by
    have : ∀ l : List (List Int), (l.flatMap fun c => (List.range p.toNat).map fun (v : Nat) => c ++ [(v : Int)]).length = l.length * p.toNat := by
      intro l
      induction l with
      | nil => simp
      | cons a l ih => rw [List.flatMap_cons, List.length_append, ih, List.length_map, List.length_range, List.length_cons, Nat.succ_mul, Nat.add_comm]
    unfold allT
    rw [this, allT_len p n, Nat.pow_succ]
theorem allT_mem {p : Int} : ∀ {n : Nat} {c : List Int}, c ∈ allT p n ↔ isRow c p n
  | 0, c => by
    unfold allT
    rw [List.mem_singleton]
    constructor
    · rintro rfl; exact ⟨rfl, fun _ h => nomatch h⟩
    · intro h; exact List.eq_nil_of_length_eq_zero (isRow_len2 h)
  | n + 1, c => by
    unfold allT
    rw [List.mem_flatMap]
    constructor
    · rintro ⟨d, hd, h⟩
      obtain ⟨v, hv, rfl⟩ := List.mem_map.mp h
      have hd := allT_mem.mp hd
      have hv := List.mem_range.mp hv
      have := isRow_len2 hd
      refine ⟨by rw [List.length_append]; show ((_ + 1 : Nat) : Int) = _; omega, fun x hx => ?_⟩
      rcases List.mem_append.mp hx with hx | hx
      · exact hd.2 x hx
      · rw [List.mem_singleton.mp hx]; omega
    · intro h
      have hl := isRow_len2 h
      have hne : c ≠ [] := fun e => by subst e; simp at hl
      have e := List.dropLast_concat_getLast hne
      have hb := h.2 _ (List.getLast_mem hne)
      refine ⟨c.dropLast, allT_mem.mpr ⟨by rw [List.length_dropLast]; omega, fun x hx => h.2 x (List.dropLast_subset _ hx)⟩, List.mem_map.mpr ⟨(c.getLast hne).toNat, List.mem_range.mpr (by omega), ?_⟩⟩
      rw [Int.toNat_of_nonneg hb.1]
      exact e
def noDivB (n : Nat) : Bool := decide (2 ≤ n) && decide (n ≤ 1000000) && (List.range 1001).all fun k => decide (k < 2) || decide (n < k * k) || decide (n % k ≠ 0)
theorem noDiv_of {n : Nat} (h : noDivB n = true) : NoDiv (n : Int) := by
  unfold noDivB at h
  rw [Bool.and_eq_true, Bool.and_eq_true] at h
  obtain ⟨⟨h1, h2⟩, h3⟩ := h
  have h1 := of_decide_eq_true h1
  have h2 := of_decide_eq_true h2
  refine ⟨by omega, by omega, fun k hk hkk => ?_⟩
  have hk1 := sq_small hk (Int.le_trans hkk (by omega))
  obtain ⟨j, rfl⟩ : ∃ j : Nat, k = (j : Int) := ⟨k.toNat, by omega⟩
  have h4 := List.all_eq_true.mp h3 j (List.mem_range.mpr (by omega))
  rw [Bool.or_eq_true, Bool.or_eq_true] at h4
  rcases h4 with (h4 | h4) | h4
  · have := of_decide_eq_true h4
    omega
  · have := of_decide_eq_true h4
    have e : ((j * j : Nat) : Int) = (j : Int) * (j : Int) := Int.natCast_mul j j
    omega
  · have := of_decide_eq_true h4
    intro e
    apply this
    have e2 : ((n % j : Nat) : Int) = (n : Int) % (j : Int) := Int.natCast_emod n j
    omega
section
variable {P : Program} {w : World} {K : PySem.W.Frag} {mg : Str → Option Value} {base : Heap} {cT cS : Addr}
def spLAllT : Sp := fun vs H Q _ => ∃ (p : Int) (wd : Nat), vs = [.int p, .int (wd : Int)] ∧ 2 ≤ p ∧ p.toNat ^ wd ≤ 1000 ∧ wd ≤ 60 ∧ ∀ H' r xs, Same H H' → H r = none → H' r = some (.lst xs) → Paired (rRow H') xs (allT p wd) → Q (.ref r) H'
theorem ok_lallT (T : Tx K mg cT cS) {f : Addr} {fd : FuncData} (d : D K mg "_law_all" s_law_all ["p", "many"] f fd) : FnOk P w K mg base CX0 1 f fd ["p", "many"] spLAllT := by
  refine d.F.ok sc_law_all (fun vs H Q E h => ?_) (fun cdv A outer s H vs Q E hr h => ?_)
  · obtain ⟨p, wd, rfl, _⟩ := h
    rfl
  · obtain ⟨p, wd, rfl, p2, hpw, hwd, q⟩ := h
    refine ⟨_, pss_cons (ps_set (i := 2) sc_law_all.nd rfl (.inl rfl) (pe_lst (pa_cons (pe_tup pa_nil) pa_nil)))
      (pss_cons (ps_for PassesOwn.never rfl (pi_range1 rfl T.b_range (pa_cons (pv 1) pa_nil)) (pg_name (i := 3) sc_law_all.nd rfl (.inl rfl))
        (pss_cons (ps_set (i := 4) sc_law_all.nd rfl (.inl rfl) (pe_lst pa_nil))
      (pss_cons (ps_for PassesOwn.never rfl (pi_list (pv 2)) (pg_name (i := 5) sc_law_all.nd rfl (.inr rfl))
        (pss_one (ps_expr (pe_bm PySem.F.plainAttrs_list PySem.F.slot_list_extend PySem.F.type_list_extend mt_extend (pv 4) (pa_cons (pe_lc (own := [("value", 6)]) (g := (gName 6)) (tt := tYes) rfl sc_law_all.nd (pi_range1 rfl T.b_range (pa_cons (pv 0) pa_nil)) (blkOk_by (N := N_law_all) (sc := defScope s_law_all) (by decide +kernel)) (fun _ _ _ _ _ => (pg_name (i := 6) sc_law_all.nd rfl (Or.inl rfl))) (fun _ _ _ _ _ => pts_nil)
            (fun _ _ _ _ _ => (pe_op (catK (K := K) rfl) (pv 5) (pe_tup (pa_cons (pv 6) pa_nil))))) pa_nil)))))
      (pss_one (ps_set (i := 2) sc_law_all.nd rfl (.inl rfl) (pv 4))))))
      (pss_one (ps_ret (pv 2)))), ?_⟩
    have pw : ∀ i, i ≤ wd → p.toNat ^ i ≤ 1000 := fun i hi => Nat.le_trans (Nat.pow_le_pow_right (by omega) hi) hpw
    refine ⟨by show 0 ≤ sizeLine; decide, fun te nte => ⟨by show 1 ≤ sizeLine; decide, fun gl ngl => ?_⟩⟩
    have u1 := same_new (o := .tup []) nte
    have u2 := same_new (o := .lst [V.ref te]) ngl
    have s3 := u1.trans u2
    have hte := u2 _ _ (upd_same (H := H) (a := te) (o := .tup []))
    dsimp only [gName, tSeq]
    refine ⟨_, rfl, _, rfl, by omega, by omega, ?_⟩
    refine for_it (walk_range (lo := 0) (n := ((wd : Nat) : Int).toNat)) (fun i σ H' => ∃ gl ys x3 x4 x5, σ = [some (.int p), some (.int (wd : Int)), some (.ref gl), x3, x4, x5, none] ∧ Same H H' ∧ H gl = none ∧ H' gl = some (.lst ys) ∧ Paired (rRow H') ys (allT p i))
      ⟨gl, _, none, none, none, rfl, s3, u1.free ngl, upd_same, .cons ⟨te, rfl, hte⟩ .nil⟩ (fun i σ H' _ h => trivial) ?_ ?_
    · rintro i x σ H3 H4 hi ⟨gl, ys, x3, x4, x5, rfl, s4, ngl0, hgl, hpy⟩ ⟨rfl, rfl⟩
      rw [Int.toNat_natCast] at hi
      have ly := paired_len hpy
      rw [allT_len] at ly
      have hpi := pw i (by omega)
      have hpi1 := pw (i + 1) (by omega)
      have hp1 : p.toNat ≤ 1000 := by
        have := pw 1 (by omega)
        rwa [Nat.pow_one] at this
      refine ⟨by show 0 ≤ sizeLine; decide, fun la nla => ?_⟩
      have s5 := same_new (o := .lst []) nla
      have nla0 := s4.free nla
      have hla1 : la ≠ gl := fun e => by subst e; rw [hgl] at nla; cases nla
      dsimp only [gName, tSeq]
      refine ⟨_, rfl, gl, rfl, ⟨_, .of (s5 _ _ hgl)⟩, ?_⟩
      refine for_it (walk_list (xs := ys)) (fun j σ H' => ∃ zs y5, σ = [some (.int p), some (.int (wd : Int)), some (.ref gl), some (.int (0 + (i : Int))), some (.ref la), y5, none] ∧ Same H H' ∧ H' gl = some (.lst ys) ∧ Paired (rRow H') ys (allT p i) ∧ H' la = some (.lst zs) ∧ Paired (rRow H') zs (((allT p i).take j).flatMap fun c => (List.range p.toNat).map fun (v : Nat) => c ++ [(v : Int)]) ∧ zs.length = j * p.toNat)
        ⟨[], x5, rfl, s4.trans s5, s5 _ _ hgl, paired_mono mono_row s5.keep hpy, upd_same, by rw [List.take_zero]; exact .nil, by rw [Nat.zero_mul]; rfl⟩ (fun j σ H' _ h => let ⟨_, _, _, _, z, _⟩ := h; .of z) ?_ ?_
      · rintro j x σ H6 H7 hj ⟨zs, y5, rfl, s7, hgl7, hpy7, hla7, hpz, lz⟩ ⟨rfl, hx⟩
        obtain ⟨c, hc, tc, rfl, htc⟩ := paired_get hpy7 hx
        have lc := isRow_len2 (allT_mem.mp (List.mem_of_getElem? hc))
        have hjp : (j + 1) * p.toNat ≤ 1000 := by
          rw [Nat.pow_succ] at hpi1
          exact Nat.le_trans (Nat.mul_le_mul_right _ (by omega)) hpi1
        rw [Nat.succ_mul] at hjp
        refine ⟨_, rfl, .inl ⟨rfl, _, .of hla7⟩, _, rfl, _, rfl, by omega, by omega, fun D hD => ?_⟩
        refine lc_fm (walk_range (lo := 0) (n := p.toNat)) rRow (fun v => some (c ++ [(v : Int)])) hD (fun _ _ => trivial) ?_ ?_
        · rintro k y H8 H9 hk pv ⟨rfl, rfl⟩
          refine ⟨rfl, _, rfl, _, rfl, by show 1 ≤ sizeLine; decide, fun tv ntv => ?_⟩
          have s9 := same_new (o := .tup [V.int (0 + (k : Int))]) ntv
          refine cat_rows (l := c) (m := [(0 + (k : Int))]) ⟨tc, rfl, s9 _ _ (pv.1 _ _ htc)⟩ ⟨tv, rfl, upd_same⟩ (by show _ + 1 ≤ _; omega) fun H10 w10 s10 hw10 => ?_
          refine fm_keep mono_row pv hD (by omega) (s9.trans s10) rfl ?_
          rw [Int.zero_add] at hw10
          exact hw10
        · intro H8 ws s8 hD8 hp8
          rw [fm_all] at hp8
          have lws := paired_len hp8
          rw [List.length_map, List.length_range] at lws
          have hla8 := s8 _ _ hla7
          refine ⟨la, D, zs, ws, rfl, rfl, hla8, hD8, Nat.le_of_lt (Nat.lt_of_le_of_lt (by omega : zs.length + ws.length ≤ 1000) (by decide)), ?_⟩
          have kk : Keep H8 (upd H8 la (.lst (zs ++ ws))) := keep_lst hla8
          refine ⟨zs ++ ws, _, rfl, same_own (s7.trans s8) nla0, by rw [upd_ne hla1.symm]; exact s8 _ _ hgl7, paired_mono mono_row (s8.keep.trans kk) hpy7, upd_same, ?_, by rw [List.length_append, Nat.succ_mul]; omega⟩
          have etk : (allT p i).take (j + 1) = (allT p i).take j ++ [c] := by rw [List.take_succ, hc]; rfl
          rw [etk, List.flatMap_append]
          refine paired_app (paired_mono mono_row (s8.keep.trans kk) hpz) ?_
          rw [List.flatMap_singleton]
          exact paired_mono mono_row kk hp8
      · rintro σ H6 ⟨zs, y5, rfl, s7, hgl7, hpy7, hla7, hpz, lz⟩
        rw [paired_len hpy, List.take_length] at hpz
        exact ⟨_, rfl, la, zs, _, _, _, rfl, s7, nla0, hla7, hpz⟩
    · rintro σ H3 ⟨gl, ys, x3, x4, x5, rfl, s4, ngl0, hgl, hpy⟩
      rw [Int.toNat_natCast] at hpy
      exact ⟨_, rfl, q _ gl ys s4 ngl0 hgl hpy⟩
def spLFew : Sp := fun vs H Q _ => ∃ (g c : Addr), vs = [.ref g] ∧ Hand g c H ∧ ∀ H' a tv uv rv S n, But g H H' → Hand g c H' → PDat H' a S tv uv rv → RulesOk S n → (S.p = 2 ∨ S.p = 3 ∨ S.p = 5 ∨ 7 ≤ S.p) → few S 28 → Q (.ref a) H'
theorem ok_lfew (T : Tx K mg cT cS) {f : Addr} {fd : FuncData} (d : D K mg "_law_few" s_law_few ["hand"] f fd) : FnOk P w K mg base CX0 5 f fd ["hand"] spLFew := by
  obtain ⟨f1, fd1, d1⟩ := T.d_law_any
  have G1 := ok_any (P := P) (w := w) (base := base) T d1
  obtain ⟨f2, fd2, d2⟩ := T.d_law_parts
  have G2 := ok_lparts (P := P) (w := w) (base := base) T d2
  refine d.F.ok sc_law_few (fun vs H Q E h => ?_) (fun cdv A outer s H vs Q E hr h => ?_)
  · obtain ⟨g, c, rfl, _⟩ := h
    rfl
  · obtain ⟨g, c, rfl, hh, q⟩ := h
    refine ⟨_, pss_cons (ps_asg (pe_call G1 (hr.mono (by decide)) rfl d1.m d1.F.kp d1.b .nil pass0 (pa_cons (pv 0) (pa_cons (pe_lst (pa_cons (pe_tup (pa_cons pe_int (pa_cons pe_int pa_nil))) (pa_cons (pe_tup (pa_cons pe_int (pa_cons pe_int pa_nil))) (pa_cons (pe_tup (pa_cons pe_int (pa_cons pe_int pa_nil))) (pa_cons (pe_tup (pa_cons pe_int (pa_cons pe_int pa_nil))) (pa_cons (pe_tup (pa_cons pe_int (pa_cons pe_int pa_nil))) (pa_cons (pe_tup (pa_cons pe_int (pa_cons pe_int pa_nil))) pa_nil))))))) pa_nil))) (pg_tup rfl (pgs_cons (pg_name (i := 1) sc_law_few.nd rfl (.inl rfl)) (pgs_cons (pg_name (i := 2) sc_law_few.nd rfl (.inl rfl)) pgs_nil))))
      (pss_one (ps_ret (pe_call G2 (hr.mono (by decide)) rfl d2.m d2.F.kp d2.b .nil pass0 (pa_cons (pv 0) (pa_cons (pv 1) (pa_cons pe_int (pa_cons (pv 2) (pa_cons pe_int pa_nil)))))))), ?_⟩
    refine ⟨_, rfl, by show 2 ≤ sizeLine; decide, fun w1 n1 => ?_⟩
    have sw1 := same_new (o := .tup [V.int 2, V.int 8]) n1
    have hw1 := upd_same (H := H) (a := w1) (o := .tup [V.int 2, V.int 8])
    refine ⟨by show 2 ≤ sizeLine; decide, fun w2 n2 => ?_⟩
    have sw2 := same_new (o := .tup [V.int 2, V.int 6]) n2
    have hw2 := upd_same (H := (upd H w1 (.tup [V.int 2, V.int 8]))) (a := w2) (o := .tup [V.int 2, V.int 6])
    refine ⟨by show 2 ≤ sizeLine; decide, fun w3 n3 => ?_⟩
    have sw3 := same_new (o := .tup [V.int 3, V.int 5]) n3
    have hw3 := upd_same (H := (upd (upd H w1 (.tup [V.int 2, V.int 8])) w2 (.tup [V.int 2, V.int 6]))) (a := w3) (o := .tup [V.int 3, V.int 5])
    refine ⟨by show 2 ≤ sizeLine; decide, fun w4 n4 => ?_⟩
    have sw4 := same_new (o := .tup [V.int 3, V.int 4]) n4
    have hw4 := upd_same (H := (upd (upd (upd H w1 (.tup [V.int 2, V.int 8])) w2 (.tup [V.int 2, V.int 6])) w3 (.tup [V.int 3, V.int 5]))) (a := w4) (o := .tup [V.int 3, V.int 4])
    refine ⟨by show 2 ≤ sizeLine; decide, fun w5 n5 => ?_⟩
    have sw5 := same_new (o := .tup [V.int 5, V.int 3]) n5
    have hw5 := upd_same (H := (upd (upd (upd (upd H w1 (.tup [V.int 2, V.int 8])) w2 (.tup [V.int 2, V.int 6])) w3 (.tup [V.int 3, V.int 5])) w4 (.tup [V.int 3, V.int 4]))) (a := w5) (o := .tup [V.int 5, V.int 3])
    refine ⟨by show 2 ≤ sizeLine; decide, fun w6 n6 => ?_⟩
    have sw6 := same_new (o := .tup [V.int 7, V.int 3]) n6
    have hw6 := upd_same (H := (upd (upd (upd (upd (upd H w1 (.tup [V.int 2, V.int 8])) w2 (.tup [V.int 2, V.int 6])) w3 (.tup [V.int 3, V.int 5])) w4 (.tup [V.int 3, V.int 4])) w5 (.tup [V.int 5, V.int 3]))) (a := w6) (o := .tup [V.int 7, V.int 3])
    refine ⟨by show 6 ≤ sizeLine; decide, fun lb nlb => ?_⟩
    have slb := same_new (o := .lst [V.ref w1, V.ref w2, V.ref w3, V.ref w4, V.ref w5, V.ref w6]) nlb
    have sA := (((((sw1.trans sw2).trans sw3).trans sw4).trans sw5).trans sw6)
    have sW := sA.trans slb
    have hw6 := slb _ _ hw6
    have hw5 := (sw6.trans slb) _ _ hw5
    have hw4 := ((sw5.trans sw6).trans slb) _ _ hw4
    have hw3 := (((sw4.trans sw5).trans sw6).trans slb) _ _ hw3
    have hw2 := ((((sw3.trans sw4).trans sw5).trans sw6).trans slb) _ _ hw2
    have hw1 := (((((sw2.trans sw3).trans sw4).trans sw5).trans sw6).trans slb) _ _ hw1
    have hhW := hh.same sW
    have nlg := (hand_new (hh.same sA) nlb).1
    refine ⟨g, c, lb, _, rfl, upd_same, nlg, by show 0 < 6; decide, by show 6 < 1000000; decide, hhW, fun H3 j y b3 hh3 hy => ?_⟩
    have kW := hhW.keep b3
    have hsel : ∃ (wp : Addr) (pk mo : Nat), y = .ref wp ∧ H3 wp = some (.tup [.int (pk : Int), .int (mo : Int)]) ∧ noDivB pk = true ∧ mo ≤ 14 ∧ (pk = 2 ∨ pk = 3 ∨ pk = 5 ∨ 7 ≤ pk) := by
      have hm := List.mem_of_getElem? hy
      simp only [List.mem_cons, List.not_mem_nil, or_false] at hm
      rcases hm with rfl | rfl | rfl | rfl | rfl | rfl
      · exact ⟨w1, 2, 8, rfl, kW.tup hw1, by decide +kernel, by decide, by omega⟩
      · exact ⟨w2, 2, 6, rfl, kW.tup hw2, by decide +kernel, by decide, by omega⟩
      · exact ⟨w3, 3, 5, rfl, kW.tup hw3, by decide +kernel, by decide, by omega⟩
      · exact ⟨w4, 3, 4, rfl, kW.tup hw4, by decide +kernel, by decide, by omega⟩
      · exact ⟨w5, 5, 3, rfl, kW.tup hw5, by decide +kernel, by decide, by omega⟩
      · exact ⟨w6, 7, 3, rfl, kW.tup hw6, by decide +kernel, by decide, by omega⟩
    obtain ⟨wp, pk, mo, rfl, hwp, hpk, hmo, hpp⟩ := hsel
    have cl := noDiv_of hpk
    have bW := (sW.but g).trans b3
    refine ⟨wp, _, rfl, .of hwp, rfl, _, _, rfl, _, _, rfl, rfl, ?_⟩
    dsimp only [gName, tSeq]
    refine ⟨_, rfl, _, rfl, _, rfl, g, c, (pk : Int), 5, mo, 3, rfl, cl, by decide, by decide, hmo, by decide, hh3, fun H4 a tv uv rv S n b4 hh4 hP4 ok4 ep4 hf4 => ?_⟩
    exact q _ a _ _ _ S n (bW.trans b4) hh4 hP4 ok4 (by rw [ep4]; omega) hf4
theorem ok_lgreat (T : Tx K mg cT cS) {f : Addr} {fd : FuncData} (d : D K mg "_law_great" s_law_great ["hand"] f fd) : FnOk P w K mg base CX0 5 f fd ["hand"] spLFew := by
  obtain ⟨f1, fd1, d1⟩ := T.d_law_any
  have G1 := ok_any (P := P) (w := w) (base := base) T d1
  obtain ⟨f2, fd2, d2⟩ := T.d_law_parts
  have G2 := ok_lparts (P := P) (w := w) (base := base) T d2
  refine d.F.ok sc_law_great (fun vs H Q E h => ?_) (fun cdv A outer s H vs Q E hr h => ?_)
  · obtain ⟨g, c, rfl, _⟩ := h
    rfl
  · obtain ⟨g, c, rfl, hh, q⟩ := h
    refine ⟨_, pss_cons (ps_set (i := 1) sc_law_great.nd rfl (.inl rfl) (pe_call G1 (hr.mono (by decide)) rfl d1.m d1.F.kp d1.b .nil pass0 (pa_cons (pv 0) (pa_cons (pe_lst (pa_cons pe_int (pa_cons pe_int (pa_cons pe_int (pa_cons pe_int (pa_cons pe_int (pa_cons pe_int pa_nil))))))) pa_nil))))
      (pss_one (ps_ret (pe_call G2 (hr.mono (by decide)) rfl d2.m d2.F.kp d2.b .nil pass0 (pa_cons (pv 0) (pa_cons (pv 1) (pa_cons pe_int (pa_cons pe_int (pa_cons pe_int pa_nil)))))))), ?_⟩
    refine ⟨_, rfl, by show 6 ≤ sizeLine; decide, fun lb nlb => ?_⟩
    have slb := same_new (o := .lst (([2, 3, 11, 101, 65537, 999983] : List Int).map V.int)) nlb
    refine ⟨g, c, lb, ([2, 3, 11, 101, 65537, 999983] : List Int).map V.int, rfl, upd_same, (hand_new hh nlb).1, by decide, by decide, hh.same slb, fun H3 j y b3 hh3 hy => ?_⟩
    obtain ⟨pz, hp, rfl⟩ := at_int hy
    have hm := List.mem_of_getElem? hp
    have : ∃ k : Nat, pz = (k : Int) ∧ noDivB k = true ∧ (k = 2 ∨ k = 3 ∨ k = 5 ∨ 7 ≤ k) := by
      simp only [List.mem_cons, List.not_mem_nil, or_false] at hm
      rcases hm with rfl | rfl | rfl | rfl | rfl | rfl
      · exact ⟨2, rfl, by decide +kernel, by omega⟩
      · exact ⟨3, rfl, by decide +kernel, by omega⟩
      · exact ⟨11, rfl, by decide +kernel, by omega⟩
      · exact ⟨101, rfl, by decide +kernel, by omega⟩
      · exact ⟨65537, rfl, by decide +kernel, by omega⟩
      · exact ⟨999983, rfl, by decide +kernel, by omega⟩
    obtain ⟨pk, rfl, hpk, hpp⟩ := this
    have cl := noDiv_of hpk
    dsimp only [gName, tSeq]
    refine ⟨_, rfl, _, rfl, g, c, (pk : Int), 7, 14, 4, rfl, cl, by decide, by decide, by decide, by decide, hh3, fun H4 a tv uv rv S n b4 hh4 hP4 ok4 ep4 hf4 => ?_⟩
    exact q _ a _ _ _ S n (((slb.but g).trans b3).trans b4) hh4 hP4 ok4 (by rw [ep4]; omega) hf4
end
end S4

namespace S4
open PySem L2 TT MM EE
/-! ### the law's loose rows -/
/-- the first place of a row -/
theorem lead_list {z : Nat × List Int} {wd : Nat} (h : Lead z) (hz : z.1 < wd) : ∃ tl, ((List.range wd).filterMap fun (i : Nat) => if (!decide (z.2.getD i 0 = 0)) = true then some (i : Int) else none) = ((z.1 : Nat) : Int) :: tl := by
  have e : List.range wd = List.range z.1 ++ (z.1 :: (List.range (wd - z.1 - 1)).map fun i => z.1 + 1 + i) := by
    have h1 : wd = z.1 + (1 + (wd - z.1 - 1)) := by omega
    rw [h1, List.range_add, List.range_add]
    rw [show z.1 + (1 + (wd - z.1 - 1)) - z.1 - 1 = wd - z.1 - 1 by omega]
    simp [List.range_succ, Nat.add_assoc, Function.comp_def]
  rw [e, List.filterMap_append]
  have h0 : ((List.range z.1).filterMap fun (i : Nat) => if (!decide (z.2.getD i 0 = 0)) = true then some (i : Int) else none) = [] := by
    rw [List.filterMap_eq_nil_iff]
    intro i hi
    rw [h.low i (List.mem_range.mp hi)]
    rfl
  rw [h0, List.nil_append, List.filterMap_cons, h.one]
  exact ⟨_, rfl⟩
theorem set_unit {wd i : Nat} (h : i < wd) : (List.replicate wd (0 : Int)).set i 1 = uRow wd i := by
  refine List.ext_getElem (by rw [List.length_set, List.length_replicate, uRow_len h]) fun x h1 h2 => ?_
  have := uRow_at (n := wd) (i := i) x
  rw [getD_at (List.getElem?_eq_getElem h2)] at this
  rw [this, List.getElem_set]
  by_cases e : x = i
  · rw [if_pos e.symm, if_pos e]
  · rw [if_neg (fun q => e q.symm), if_neg e, List.getElem_replicate]
def scLo : Scope := { kind := .function, names := [(".0", .local), ("row", .cell), ("range", .globalImplicit), ("many", .cell)], isGenerator := false, isCoroutine := false }
section
variable {P : Program} {w : World} {K : PySem.W.Frag} {mg : Str → Option Value} {base : Heap} {cT cS : Addr}
def spLLoose : Sp := fun vs H Q _ => ∃ (a : Addr) (p : Int) (wd : Nat) (xs : List V) (rows : List (List Int)), vs = [.int p, .ref a, .int (wd : Int)] ∧ H a = some (.lst xs) ∧ Paired (rLT H) xs rows ∧ rows.length ≤ 200 ∧ Prm p ∧ p ≤ 1000000 ∧ wd ≤ 60 ∧ (∀ r ∈ rows, isRow r p wd) ∧
  ∀ H' v, Same H H' → rTup rRow H' v (looseU p wd rows) → Q v H'
theorem ok_lloose (T : Tx K mg cT cS) {f : Addr} {fd : FuncData} (d : D K mg "_law_loose" s_law_loose ["p", "rows", "many"] f fd) : FnOk P w K mg base CX0 3 f fd ["p", "rows", "many"] spLLoose := by
  obtain ⟨f1, fd1, d1⟩ := T.d_law_ladder
  have G1 := ok_lladT (P := P) (w := w) (base := base) T d1
  refine d.F.ok sc_law_loose (fun vs H Q E h => ?_) (fun cdv A outer s H vs Q E hr h => ?_)
  · obtain ⟨a, p, wd, xs, rows, rfl, _⟩ := h
    rfl
  · obtain ⟨a, p, wd, xs, rows, rfl, ha, hp, hl, prm, pm, hw, hrw, q⟩ := h
    refine ⟨_, pss_cons (ps_set (i := 3) sc_law_loose.nd rfl (.inl rfl) (pe_call G1 (hr.mono (by decide)) rfl d1.m d1.F.kp d1.b .nil pass0 (pa_cons (pv 0) (pa_cons (pv 1) pa_nil))))
      (pss_cons (ps_setLc (i := 5) (own := [("row", 4)]) (g := (gName 4)) (tt := tYes) rfl sc_law_loose.nd rfl rfl (sw_true rfl rfl rfl (by decide +kernel)) (pi_tup (pv 3)) (blkOk_by (N := N_law_loose) (sc := defScope s_law_loose) (by decide +kernel)) (fun _ _ _ _ _ => (pg_name (i := 4) sc_law_loose.nd rfl (Or.inr rfl))) (fun _ _ _ _ _ => pts_nil)
            (fun _ _ _ _ _ => (pe_ix (ixL (K := K) rfl) (pe_lc (own := [("at", 10)]) (g := (gName 10)) (tt := _) rfl sc_law_loose.nd (pi_range1 rfl T.b_range (pa_cons (pv 2) pa_nil)) (blkOk_by (N := N_law_loose) (sc := scLo) (own := [("at", 10)]) (by decide +kernel)) (fun _ _ _ _ _ => (pg_name (i := 10) sc_law_loose.nd rfl (Or.inl rfl))) (fun _ _ _ _ _ => (pts_one (pt_cmpR op_ne (pe_ix (ixT (K := K) rfl) (pv 4) (pv 10) (fun _ _ => rfl)) pe_int (nomark _))))
            (fun _ _ _ _ _ => (pv 10))) pe_int (fun _ _ => rfl))))
      (pss_cons (ps_set (i := 6) sc_law_loose.nd rfl (.inl rfl) (pe_lst pa_nil))
      (pss_cons (ps_for PassesOwn.never rfl (pi_range1 rfl T.b_range (pa_cons (pv 2) pa_nil)) (pg_name (i := 7) sc_law_loose.nd rfl (.inl rfl))
        (pss_one (ps_if (pt_cmpR (ninS (K := K) rfl) (pv 7) (pv 5) (by rfl)) (pss_cons (ps_set (i := 4) sc_law_loose.nd rfl (.inl rfl) (pe_op op_rep (pe_lst (pa_cons pe_int pa_nil)) (pv 2)))
      (pss_cons (ps_asg pe_int (pg_sub (pv 4) (pv 7) set_list))
      (pss_cons (ps_for PassesOwn.never rfl (pi_zipM (by rfl) T.b_zip (pa_cons (pv 5) (pa_cons (pv 3) pa_nil))) (pg_tup rfl (pgs_cons (pg_name (i := 8) sc_law_loose.nd rfl (.inl rfl)) (pgs_cons (pg_name (i := 9) sc_law_loose.nd rfl (.inl rfl)) pgs_nil)))
        (pss_one (ps_asg (pe_op op_mod (pe_callTy call_int1 (by rfl) T.b_int (by decide +kernel) (pa_cons (pe_op op_sub pe_int (pe_ix ix_tup (pv 9) (pv 7) (fun _ _ => rfl))) pa_nil)) (pv 0)) (pg_sub (pv 4) (pv 8) set_list))))
      (pss_one (ps_expr (pe_bm PySem.F.plainAttrs_list PySem.F.slot_list_append PySem.F.type_list_append mt_append (pv 6) (pa_cons (pv 4) pa_nil))))))) pss_nil)))
      (pss_one (ps_ret (pe_call G1 (hr.mono (by decide)) rfl d1.m d1.F.kp d1.b .nil pass0 (pa_cons (pv 0) (pa_cons (pv 6) pa_nil)))))))), ?_⟩
    have p2 := prm.1
    refine ⟨_, rfl, _, rfl, a, p, wd, xs, rows, rfl, ha, hp, by omega, prm, pm, by omega, hrw, fun H1 v1 lad s1 hv1 hlad => ?_⟩
    obtain ⟨rs, S, rfl⟩ := hlad.rsc
    obtain ⟨ts, xs1, rfl, hts, hx1⟩ := id hv1
    have hrl := S.len
    have hx1l := paired_len hx1
    rw [List.length_map] at hx1l
    have nd := S.lad.nd
    dsimp only [gName, tSeq]
    refine ⟨_, rfl, ts, rfl, ⟨_, .of hts⟩, fun D hD => ?_⟩
    refine lc_fm (walk_tup (xs := xs1)) rInt (fun i => rs[i]?.bind fun z => some ((z.1 : Nat) : Int)) hD (fun H' s' => .of (s' _ _ hts)) ?_ ?_
    · rintro i x H2 H3 hi pv ⟨rfl, hx⟩
      obtain ⟨row, hrow, t, rfl, ht⟩ := paired_get (paired_mono mono_row pv.1.keep hx1) hx
      rw [List.getElem?_map] at hrow
      obtain ⟨z, hz, hrow⟩ := Option.map_eq_some_iff.mp hrow
      subst hrow
      have hzm := List.mem_of_getElem? hz
      obtain ⟨zw, zl, zin⟩ := S.ok z hzm
      have hld := S.lead p2 hzm
      refine ⟨rfl, _, rfl, _, rfl, by omega, by omega, fun D2 hD2 => ?_⟩
      refine lc_fm (walk_range (lo := 0) (n := ((wd : Nat) : Int).toNat)) rInt (fun j => if (!decide (z.2.getD j 0 = 0)) = true then some ((j : Nat) : Int) else none) hD2 (fun _ _ => trivial) ?_ ?_
      · rintro j x H4 H5 hj pw ⟨rfl, rfl⟩
        have hjx : z.2[j]? = some (z.2[j]'(by omega)) := List.getElem?_eq_getElem (by omega)
        refine ⟨rfl, _, rfl, _, rfl, t, _, _, _, rfl, rfl, .of (pw.1 _ _ ht), by rw [Int.zero_add]; exact atI_nat (int_at hjx), rfl, _, rfl, ?_⟩
        by_cases h0 : z.2[j]'(by omega) = 0
        · rw [decide_eq_true (congrArg V.int h0)]
          exact iteF (fm_skip mono_int pw (Same.refl _) (by rw [getD_at hjx, decide_eq_true h0]; rfl))
        · rw [decide_eq_false (fun e => h0 (V.int.inj e))]
          exact iteT ⟨_, rfl, fm_keep mono_int pw hD2 (by omega) (Same.refl _) (by rw [getD_at hjx, decide_eq_false h0]; rfl) (by show V.int _ = V.int _; rw [Int.zero_add])⟩
      · intro H4 zs s4 hD4 hp4
        rw [Int.toNat_natCast] at hp4
        obtain ⟨tl, etl⟩ := lead_list hld zw
        rw [etl] at hp4
        have := paired_int hp4
        subst this
        refine ⟨D2, _, _, _, rfl, rfl, .of hD4, at_of (j := 0) rfl rfl, ?_⟩
        exact fm_keep mono_int pv hD (by omega) s4 (by rw [hz]; rfl) rfl
    intro H2 fis s2 hD2 hp2
    rw [hx1l, fm_some] at hp2
    have := paired_int hp2
    subst this
    have hts2 := s2 _ _ hts
    have hx2 := paired_mono mono_row s2.keep hx1
    have s12 := s1.trans s2
    dsimp only [gName, tSeq]
    refine ⟨by show 0 ≤ sizeLine; decide, fun fo nfo => ?_⟩
    have s3 := same_new (o := .lst []) nfo
    have hfo3 := upd_same (H := H2) (a := fo) (o := .lst [])
    generalize upd H2 fo (.lst []) = H3 at *
    dsimp only [gName, tSeq]
    refine ⟨_, rfl, (wd : Int), rfl, by omega, by omega, ?_⟩
    let kf : Nat → Option (List Int) := fun k => if k ∈ rs.map (·.1) then none else some (kerRow p rs wd k)
    refine for_it (walk_range (lo := 0) (n := ((wd : Nat) : Int).toNat)) (fun i σ H' => ∃ x4 x7 x8 x9 ys, σ = [some (.int p), some (.ref a), some (.int (wd : Int)), some (.ref ts), x4, some (.ref D), some (.ref fo), x7, x8, x9, none] ∧ Same H2 H' ∧ H' fo = some (.lst ys) ∧ Paired (rLI H') ys ((List.range i).filterMap kf))
      ⟨_, none, none, none, [], rfl, s3, hfo3, .nil⟩ (fun _ _ _ _ _ => trivial) ?_ ?_
    · rintro i x σ H4 H5 hi ⟨x4, x7, x8, x9, ys, rfl, s4, hfo, hpf⟩ ⟨rfl, rfl⟩
      rw [Int.toNat_natCast] at hi
      have hD4 := s4 _ _ hD2
      have hylen : ys.length ≤ i := by rw [paired_len hpf]; exact fm_len
      rw [show ((fun i : Nat => V.int (0 + (i : Int))) i) = V.int (i : Int) from congrArg V.int (Int.zero_add _)]
      dsimp only [gName, tSeq]
      have em : (rs.map fun x => ((x.1 : Nat) : Int)).map V.int = ((rs.map fun x => ((x.1 : Nat) : Int)).map V.int) := rfl
      refine ⟨_, rfl, _, rfl, D, _, rfl, .inl (.of hD4), rfl, flat_ints _, _, rfl, ?_⟩
      rw [inV_ints]
      have edec : decide ((i : Int) ∈ rs.map fun x => ((x.1 : Nat) : Int)) = decide (i ∈ rs.map (·.1)) := by
        refine decide_eq_decide.mpr ?_
        rw [List.mem_map, List.mem_map]
        exact ⟨fun ⟨z, h1, h2⟩ => ⟨z, h1, by omega⟩, fun ⟨z, h1, h2⟩ => ⟨z, h1, by omega⟩⟩
      rw [edec]
      by_cases hk : i ∈ rs.map (·.1)
      · rw [decide_eq_true hk]
        refine iteF ⟨_, _, _, _, ys, rfl, s4, hfo, ?_⟩
        rw [range_fm, show kf i = none from if_pos hk]
        simpa using hpf
      · rw [decide_eq_false hk]
        refine iteT ?_
        refine ⟨by show 1 ≤ sizeLine; decide, fun l0 nl0 => ?_⟩
        have s5 := same_new (o := .lst [V.int 0]) nl0
        refine ⟨_, rfl, l0, _, _, rfl, rfl, upd_same, by omega, by omega, Nat.le_trans (by show 1 * _ ≤ _; omega : _ ≤ 100) (by decide), fun lr nlr => ?_⟩
        rw [Int.toNat_natCast, rep_zero]
        have s6 := same_new (o := .lst ((List.replicate wd (0 : Int)).map V.int)) nlr
        have s46 := s5.trans s6
        have nlr4 := s5.free nlr
        have hlr6 := upd_same (H := upd H5 l0 (.lst [V.int 0])) (a := lr) (o := .lst ((List.replicate wd (0 : Int)).map V.int))
        generalize upd (upd H5 l0 (.lst [V.int 0])) lr (.lst ((List.replicate wd (0 : Int)).map V.int)) = H6 at *
        dsimp only [gName, tSeq]
        refine ⟨_, rfl, _, rfl, lr, _, _, i, rfl, rfl, hlr6, ixN_nat (by rw [List.length_map, List.length_replicate]; exact hi), ?_⟩
        have s7 : Same H5 (upd H6 lr (.lst (((List.replicate wd (0 : Int)).map V.int).set i (.int 1)))) := same_own s46 nlr4
        have hlr7 : (upd H6 lr (.lst (((List.replicate wd (0 : Int)).map V.int).set i (.int 1)))) lr = some (.lst ((kerPre p rs wd i 0).map V.int)) := by
          rw [upd_same, ← List.map_set, set_unit hi, kerPre_zero hi]
        generalize upd H6 lr (.lst (((List.replicate wd (0 : Int)).map V.int).set i (.int 1))) = H7 at *
        have t7 := s4.trans s7
        refine ⟨_, rfl, _, rfl, D, ts, _, _, true, false, rfl, .of (t7 _ _ hD2), .of (t7 _ _ hts2), ?_⟩
        refine for_it (walk_zipM (b1 := true) (b2 := false) (n := rs.length) (by rw [List.length_map, List.length_map, hx1l, Nat.min_self])) (fun j σ H' => ∃ x8 x9, σ = [some (.int p), some (.ref a), some (.int (wd : Int)), some (.ref ts), some (.ref lr), some (.ref D), some (.ref fo), some (.int (i : Int)), x8, x9, none] ∧ Same H5 H' ∧ H' lr = some (.lst ((kerPre p rs wd i j).map V.int)))
          ⟨x8, x9, rfl, s7, hlr7⟩ (fun j σ H' _ h => let ⟨_, _, _, h, _⟩ := h; ⟨.of ((s4.trans h) _ _ hD2), .of ((s4.trans h) _ _ hts2)⟩) ?_ ?_
        · rintro j x σ H8 H9 hj ⟨y8, y9, rfl, s8, hlr8⟩ ⟨tz, u1, u2, rfl, nz, rfl, e1, e2⟩
          obtain ⟨q1, hq1, rfl⟩ := at_int e1
          rw [List.getElem?_map] at hq1
          obtain ⟨z, hz, hq1⟩ := Option.map_eq_some_iff.mp hq1
          subst hq1
          obtain ⟨row, hrow, t, rfl, ht⟩ := paired_get (paired_mono mono_row (s4.trans s8).keep hx2) e2
          rw [List.getElem?_map, hz] at hrow
          have hrow := Option.some.inj hrow
          subst hrow
          have hzm := List.mem_of_getElem? hz
          obtain ⟨zw, zl, zin⟩ := S.ok z hzm
          have hkz : i ≠ z.1 := fun e => hk (by rw [e]; exact List.mem_map.mpr ⟨z, hzm, rfl⟩)
          have hvi : z.2[i]? = some (z.2[i]'(by omega)) := List.getElem?_eq_getElem (by omega)
          have hbi := zin _ (List.mem_of_getElem? hvi)
          have s9 := same_new (o := .tup [V.int ((z.1 : Nat) : Int), V.ref t]) nz
          have hlk : (kerPre p rs wd i j).length = wd := by unfold kerPre; rw [List.length_map, List.length_range]
          refine ⟨tz, _, rfl, .of upd_same, rfl, _, _, rfl, _, _, rfl, rfl, ?_⟩
          refine ⟨_, rfl, _, rfl, t, _, _, _, rfl, rfl, .of (s9 _ _ ht), atI_nat (int_at hvi), _, _, rfl, rfl, .inl ⟨_, rfl, _, rfl, _, _, rfl, rfl, by show 0 < p; omega, _, rfl, _, rfl, lr, _, _, z.1, rfl, rfl, s9 _ _ hlr8, ixN_nat (by rw [List.length_map, hlk]; exact zw), ?_⟩⟩
          refine ⟨_, _, rfl, same_own (s8.trans s9) nlr4, ?_⟩
          rw [upd_same, ← kerPre_step nd hz zw hkz, getD_at hvi, List.map_set, Int.zero_sub]
        · rintro σ H8 ⟨y8, y9, rfl, s8, hlr8⟩
          rw [kerPre_all] at hlr8
          have hfo8 := s8 _ _ hfo
          refine ⟨_, rfl, .inl ⟨rfl, _, .of hfo8⟩, _, rfl, fo, _, _, rfl, rfl, hfo8, Nat.lt_of_le_of_lt (by omega : ys.length ≤ 64) (by decide), ?_⟩
          have lrfo : lr ≠ fo := fun e => by rw [e, hfo] at nlr4; cases nlr4
          refine ⟨_, _, _, _, ys ++ [V.ref lr], rfl, fun b o hb => ?_, upd_same, ?_⟩
          · rw [upd_ne (fun e => by rw [e, nfo] at hb; cases hb)]
            exact (s4.trans s8) b o hb
          · rw [range_fm, show kf i = some (kerRow p rs wd i) from if_neg hk]
            exact paired_app (li_upd hfo8 (li_same s8 hpf)) (.cons ⟨lr, rfl, by rw [upd_ne lrfo]; exact hlr8⟩ .nil)
    · rintro σ H4 ⟨x4, x7, x8, x9, ys, rfl, s4, hfo, hpf⟩
      rw [Int.toNat_natCast] at hpf
      have hlt : (kerL p wd rs).length ≤ 60 := Nat.le_trans kerL_len hw
      refine ⟨_, rfl, _, rfl, fo, p, wd, ys, kerL p wd rs, rfl, hfo, Paired.mapP hpf fun _ _ ⟨b, e, h⟩ => ⟨b, e, .inl h⟩, by omega, prm, pm, by omega, kerL_is p2, fun H5 v lad5 s5 hv hlad5 => ?_⟩
      rw [loose_eq p2 S hlad5] at hv
      exact q _ v ((s12.trans s4).trans s5) hv
end
end S4

namespace S4
open PySem L2 TT MM EE
/-! ### the law's least solution -/
theorem St1.room_of {p : Int} {wd : Nat} {rs : RG} {rows rows' : List (List Int)} (S : St1 p wd rs rows) (h : Same2 p (inRows rows) (inRows rows')) : St1 p wd rs rows' := ⟨S.lad, S.ok, S.room.trans h⟩
theorem loose_st {p : Int} {wd : Nat} {rows : List (List Int)} (prm : Prm p) : ∃ rs, St1 p wd rs (looseU p wd rows) ∧ looseU p wd rows = rs.map (·.2) := by
  have h := loose_is (wd := wd) (rows := rows) prm
  obtain ⟨rs, S, e⟩ := h.rsc
  exact ⟨rs, S.room_of h.room.symm, e⟩
def fdPre (wd : Nat) (rs : RG) (j : Nat) : List Int := (List.range wd).map fun i => if i ∈ (rs.take j).map (·.1) then (rowOf rs i).getD wd 0 else 0
theorem fdPre_all (wd : Nat) (rs : RG) : fdPre wd rs rs.length = foundL wd rs := by unfold fdPre foundL; rw [List.take_length]
theorem fdPre_zero (wd : Nat) (rs : RG) : fdPre wd rs 0 = List.replicate wd 0 := by
  unfold fdPre
  refine List.ext_getElem (by simp) fun x h1 h2 => ?_
  rw [List.getElem_map, List.getElem_replicate, if_neg (by simp)]
theorem fdPre_step {rs : RG} {wd j : Nat} (nd : (rs.map (·.1)).Nodup) {z : Nat × List Int} (hj : rs[j]? = some z) : (fdPre wd rs j).set z.1 (z.2.getD wd 0) = fdPre wd rs (j + 1) := by
  have hrow := rowOf_mem nd (List.mem_of_getElem? hj)
  unfold fdPre
  refine List.ext_getElem (by rw [List.length_set, List.length_map, List.length_map]) fun x h1 h2 => ?_
  rw [List.getElem_set, List.getElem_map, List.getElem_map, List.getElem_range]
  have et : (rs.take (j + 1)).map (·.1) = (rs.take j).map (·.1) ++ [z.1] := by rw [List.take_succ, hj, List.map_append]; rfl
  rw [et]
  by_cases e : z.1 = x
  · subst e
    rw [if_pos rfl, if_pos (by simp), hrow]
  · rw [if_neg e]
    by_cases h : x ∈ (rs.take j).map (·.1)
    · rw [if_pos h, if_pos (List.mem_append_left _ h)]
    · rw [if_neg h, if_neg (fun q => (List.mem_append.mp q).elim h fun q => e (List.mem_singleton.mp q).symm)]
def augL (prs : List Rule) : List (List Int) := prs.map fun r => r.1 ++ [r.2]
section
variable {P : Program} {w : World} {K : PySem.W.Frag} {mg : Str → Option Value} {base : Heap} {cT cS : Addr}
def spLLeast : Sp := fun vs H Q _ => ∃ (a b : Addr) (p : Int) (wd : Nat) (xs : List V) (prs : List Rule), vs = [.int p, .ref a, .ref b, .int (wd : Int)] ∧ H a = some (.lst xs) ∧ Paired (rRow H) xs (prs.map (·.1)) ∧ H b = some (.lst ((prs.map (·.2)).map V.int)) ∧ prs.length ≤ 100 ∧ Prm p ∧ p ≤ 1000000 ∧ wd ≤ 60 ∧ (∀ r ∈ prs, isRow r.1 p wd ∧ 0 ≤ r.2 ∧ r.2 < p) ∧
  ∀ H' v, Same H H' → rOpt rRow H' v (leastU p wd (augL prs) (prs.map (·.1))) → Q v H'
theorem ok_lleast (T : Tx K mg cT cS) {f : Addr} {fd : FuncData} (d : D K mg "_law_least" s_law_least ["p", "rows", "rights", "many"] f fd) : FnOk P w K mg base CX0 4 f fd ["p", "rows", "rights", "many"] spLLeast := by
  obtain ⟨f1, fd1, d1⟩ := T.d_law_ladder
  have G1 := ok_lladT (P := P) (w := w) (base := base) T d1
  obtain ⟨f2, fd2, d2⟩ := T.d_law_loose
  have G2 := ok_lloose (P := P) (w := w) (base := base) T d2
  refine d.F.ok sc_law_least (fun vs H Q E h => ?_) (fun cdv A outer s H vs Q E hr h => ?_)
  · obtain ⟨a, b, p, wd, xs, prs, rfl, _⟩ := h
    rfl
  · obtain ⟨a, b, p, wd, xs, prs, rfl, ha, hp, hb, hl, prm, pm, hw, hrw, q⟩ := h
    refine ⟨_, pss_cons (ps_set (i := 4) sc_law_least.nd rfl (.inl rfl) (pe_op op_rep (pe_lst (pa_cons pe_int pa_nil)) (pv 3)))
      (pss_cons (ps_for PassesOwn.never rfl (pi_tup (pe_call G1 (hr.mono (by decide)) rfl d1.m d1.F.kp d1.b .nil pass0 (pa_cons (pv 0) (pa_cons (pe_lc (own := [("row", 5), ("right", 9)]) (g := (gTup K 2 (gCons (gName 5) (gCons (gName 9) gNil)))) (tt := tYes) rfl sc_law_least.nd (RZ.pi_zipA (by rfl) T.b_zip (pa_cons (pv 1) (pa_cons (pv 2) pa_nil))) (blkOk_by (N := N_law_least) (sc := defScope s_law_least) (by decide +kernel)) (fun _ _ _ _ _ => (pgT rfl rfl (pgs_cons (pg_name (i := 5) sc_law_least.nd rfl (Or.inl rfl)) (pgs_cons (pg_name (i := 9) sc_law_least.nd rfl (Or.inl rfl)) pgs_nil)))) (fun _ _ _ _ _ => pts_nil)
            (fun _ _ _ _ _ => (pe_op (catK (K := K) rfl) (pv 5) (pe_tup (pa_cons (pv 9) pa_nil))))) pa_nil)))) (pg_name (i := 6) sc_law_least.nd rfl (.inr rfl))
        (pss_cons (ps_set (i := 7) sc_law_least.nd rfl (.inl rfl) (pe_ix ix_list (pe_lc (own := [("at", 10)]) (g := (gName 10)) (tt := _) rfl sc_law_least.nd (pi_range1 rfl T.b_range (pa_cons (pe_op op_add (pv 3) pe_int) pa_nil)) (blkOk_by (N := N_law_least) (sc := defScope s_law_least) (by decide +kernel)) (fun _ _ _ _ _ => (pg_name (i := 10) sc_law_least.nd rfl (Or.inl rfl))) (fun _ _ _ _ _ => (pts_one (pt_cmpR op_ne (pe_ix (ixT (K := K) rfl) (pv 6) (pv 10) (fun _ _ => rfl)) pe_int (nomark _))))
            (fun _ _ _ _ _ => (pv 10))) pe_int (fun _ _ => rfl)))
      (pss_cons (ps_if (pt_cmpR op_eq (pv 7) (pv 3) (nomark _)) (pss_one (ps_ret pe_non)) pss_nil)
      (pss_one (ps_asg (pe_ix ix_tup (pv 6) (pv 3) (fun _ _ => rfl)) (pg_sub (pv 4) (pv 7) set_list))))))
      (pss_cons (ps_for PassesOwn.never rfl (pi_tup (pe_call G2 (hr.mono (by decide)) rfl d2.m d2.F.kp d2.b .nil pass0 (pa_cons (pv 0) (pa_cons (pv 1) (pa_cons (pv 3) pa_nil))))) (pg_name (i := 5) sc_law_least.nd rfl (.inr rfl))
        (pss_cons (ps_set (i := 8) sc_law_least.nd rfl (.inr rfl) (pe_ix ix_list (pv 4) (pe_ix ix_list (pe_lc (own := [("at", 10)]) (g := (gName 10)) (tt := _) rfl sc_law_least.nd (pi_range1 rfl T.b_range (pa_cons (pv 3) pa_nil)) (blkOk_by (N := N_law_least) (sc := defScope s_law_least) (by decide +kernel)) (fun _ _ _ _ _ => (pg_name (i := 10) sc_law_least.nd rfl (Or.inl rfl))) (fun _ _ _ _ _ => (pts_one (pt_cmpR op_ne (pe_ix (ixT (K := K) rfl) (pv 5) (pv 10) (fun _ _ => rfl)) pe_int (nomark _))))
            (fun _ _ _ _ _ => (pv 10))) pe_int (fun _ _ => rfl)) (fun _ _ => rfl)))
      (pss_one (ps_setLc (i := 4) (own := [("value", 11), ("own", 12)]) (g := (gTup K 2 (gCons (gName 11) (gCons (gName 12) gNil)))) (tt := tYes) rfl sc_law_least.nd rfl rfl (sw_true rfl rfl rfl (by decide +kernel)) (pi_zipM (by rfl) T.b_zip (pa_cons (pv 4) (pa_cons (pv 5) pa_nil))) (blkOk_by (N := N_law_least) (sc := defScope s_law_least) (by decide +kernel)) (fun _ _ _ _ _ => (pgT rfl rfl (pgs_cons (pg_name (i := 11) sc_law_least.nd rfl (Or.inl rfl)) (pgs_cons (pg_name (i := 12) sc_law_least.nd rfl (Or.inl rfl)) pgs_nil)))) (fun _ _ _ _ _ => pts_nil)
            (fun _ _ _ _ _ => (pe_op op_mod (pe_callTy call_int1 (by rfl) T.b_int (by decide +kernel) (pa_cons (pe_op op_sub (pv 11) (pe_op op_mul (pv 8) (pv 12))) pa_nil)) (pv 0)))))))
      (pss_one (ps_ret (pe_callTy call_tuple_of (by rfl) T.b_tuple (by decide +kernel) (pa_cons (pv 4) pa_nil)))))), ?_⟩
    have p2 := prm.1
    have lxs := paired_len hp
    rw [List.length_map] at lxs
    have haug : ∀ r ∈ augL prs, isRow r p ((wd + 1 : Nat) : Int) := fun r hr => by
      obtain ⟨x, hx, rfl⟩ := List.mem_map.mp hr
      obtain ⟨h1, h2, h3⟩ := hrw x hx
      have := h1.1
      refine ⟨by rw [List.length_append, List.length_singleton]; omega, fun v hv => ?_⟩
      rcases List.mem_append.mp hv with hv | hv
      · exact h1.2 v hv
      · rw [List.mem_singleton.mp hv]; exact ⟨h2, h3⟩
    refine ⟨by show 1 ≤ sizeLine; decide, fun l0 nl0 => ?_⟩
    have s1 := same_new (o := .lst [V.int 0]) nl0
    refine ⟨_, rfl, l0, _, _, rfl, rfl, upd_same, by omega, by omega, Nat.le_trans (by show 1 * _ ≤ _; omega : _ ≤ 100) (by decide), fun fl nfl => ?_⟩
    rw [Int.toNat_natCast, rep_zero]
    have s2 := same_new (o := .lst ((List.replicate wd (0 : Int)).map V.int)) nfl
    have s12 := s1.trans s2
    have nfl0 := s1.free nfl
    have hfl2 := upd_same (H := upd H l0 (.lst [V.int 0])) (a := fl) (o := .lst ((List.replicate wd (0 : Int)).map V.int))
    generalize upd (upd H l0 (.lst [V.int 0])) fl (.lst ((List.replicate wd (0 : Int)).map V.int)) = H2 at *
    dsimp only [gName, tSeq]
    have ha2 := s12 _ _ ha
    have hb2 := s12 _ _ hb
    refine ⟨_, rfl, _, rfl, _, rfl, a, b, _, _, rfl, .inl ⟨.of ha2, .of hb2, fun D hD => ?_⟩⟩
    refine lc_fm (walk_zip (n := prs.length) (by rw [List.length_map, List.length_map, lxs, Nat.min_self])) rRow (fun i => prs[i]?.bind fun r => some (r.1 ++ [r.2])) hD (fun H' s' => ⟨.of (s' _ _ ha2), .of (s' _ _ hb2)⟩) ?_ ?_
    · rintro i x H4 H5 hi pv ⟨tz, u1, u2, rfl, nz, rfl, e1, e2⟩
      obtain ⟨row, hrow, t, rfl, ht⟩ := paired_get (paired_mono mono_row (s12.trans pv.1).keep hp) e1
      rw [List.getElem?_map] at hrow
      obtain ⟨x, hx, hrow⟩ := Option.map_eq_some_iff.mp hrow
      subst hrow
      obtain ⟨y, hy, rfl⟩ := at_int e2
      rw [List.getElem?_map, hx] at hy
      have hy := Option.some.inj hy
      subst hy
      have hxl := (hrw x (List.mem_of_getElem? hx)).1.1
      have s5 := same_new (o := .tup [V.ref t, V.int x.2]) nz
      refine ⟨tz, _, rfl, .of upd_same, rfl, _, _, rfl, _, _, rfl, rfl, rfl, ?_⟩
      refine ⟨_, rfl, _, rfl, by show 1 ≤ sizeLine; decide, fun t1 nt1 => ?_⟩
      have s6 := same_new (o := .tup [V.int x.2]) nt1
      refine cat_rows (l := x.1) (m := [x.2]) ⟨t, rfl, (s5.trans s6) _ _ ht⟩ ⟨t1, rfl, upd_same⟩ (by show _ + 1 ≤ 100000; omega) fun H7 v7 s7 hv7 => ?_
      exact fm_keep mono_row pv hD (by omega) ((s5.trans s6).trans s7) (by rw [hx]; rfl) hv7
    intro H3 ys s3 hD3 hp3
    rw [fm_some] at hp3
    have s13 := s12.trans s3
    have hfl3 := s3 _ _ hfl2
    have lys := paired_len hp3
    rw [List.length_map] at lys
    refine ⟨D, p, wd + 1, ys, augL prs, rfl, hD3, Paired.mapP hp3 fun _ _ ⟨b, e, h⟩ => ⟨b, e, .inr h⟩, by unfold augL; rw [List.length_map]; omega, prm, pm, by omega, haug, fun H4 v4 lad s4 hv4 hlad => ?_⟩
    obtain ⟨rs, S, rfl⟩ := hlad.rsc
    obtain ⟨ts, xs4, rfl, hts, hx4⟩ := id hv4
    have hrl := S.len
    have nd := S.lad.nd
    have hx4l := paired_len hx4
    rw [List.length_map] at hx4l
    have s14 := s13.trans s4
    have hfl4 := s4 _ _ hfl3
    have hfdl : ∀ j, (fdPre wd rs j).length = wd := fun j => by unfold fdPre; rw [List.length_map, List.length_range]
    refine ⟨ts, rfl, ⟨_, .of hts⟩, ?_⟩
    refine for_it (walk_tup (xs := xs4)) (fun i σ H' => ∃ x6 x7, σ = [some (.int p), some (.ref a), some (.ref b), some (.int (wd : Int)), some (.ref fl), none, x6, x7, none, none, none, none, none] ∧ Same H H' ∧ H' ts = some (.tup xs4) ∧ Paired (rRow H') xs4 (rs.map (·.2)) ∧ H' fl = some (.lst ((fdPre wd rs i).map V.int)) ∧ wd ∉ (rs.take i).map (·.1))
      ⟨none, none, rfl, s14, hts, hx4, by rw [fdPre_zero]; exact hfl4, by simp⟩ (fun i σ H' _ h => .of (let ⟨_, _, _, _, h, _⟩ := h; h)) ?_ ?_
    · rintro i x σ H5 H6 hi ⟨x6, x7, rfl, s5, hts5, hx5, hfl5, hno⟩ ⟨rfl, hx⟩
      obtain ⟨row, hrow, t, rfl, ht⟩ := paired_get hx5 hx
      rw [List.getElem?_map] at hrow
      obtain ⟨z, hz, hrow⟩ := Option.map_eq_some_iff.mp hrow
      subst hrow
      have hzm := List.mem_of_getElem? hz
      obtain ⟨zw, zl, zin⟩ := S.ok z hzm
      have hld := S.lead p2 hzm
      dsimp only [gName, tSeq]
      refine ⟨_, rfl, _, _, rfl, rfl, _, rfl, by omega, by omega, fun D2 hD2 => ?_⟩
      refine lc_fm (walk_range (lo := 0) (n := ((wd : Int) + 1).toNat)) rInt (fun j => if (!decide (z.2.getD j 0 = 0)) = true then some ((j : Nat) : Int) else none) hD2 (fun _ _ => trivial) ?_ ?_
      · rintro j x H7 H8 hj pw ⟨rfl, rfl⟩
        have hjx : z.2[j]? = some (z.2[j]'(by omega)) := List.getElem?_eq_getElem (by omega)
        refine ⟨rfl, _, rfl, _, rfl, t, _, _, _, rfl, rfl, .of (pw.1 _ _ ht), by rw [Int.zero_add]; exact atI_nat (int_at hjx), rfl, _, rfl, ?_⟩
        by_cases h0 : z.2[j]'(by omega) = 0
        · rw [decide_eq_true (congrArg V.int h0)]
          exact iteF (fm_skip mono_int pw (Same.refl _) (by rw [getD_at hjx, decide_eq_true h0]; rfl))
        · rw [decide_eq_false (fun e => h0 (V.int.inj e))]
          exact iteT ⟨_, rfl, fm_keep mono_int pw hD2 (by omega) (Same.refl _) (by rw [getD_at hjx, decide_eq_false h0]; rfl) (by show V.int _ = V.int _; rw [Int.zero_add])⟩
      intro H7 zs s7 hD7 hp7
      rw [show ((wd : Int) + 1).toNat = wd + 1 by omega] at hp7
      obtain ⟨tl, etl⟩ := lead_list hld zw
      rw [etl] at hp7
      have := paired_int hp7
      subst this
      have t7 := s5.trans s7
      have hts7 := s7 _ _ hts5
      have hx7 := paired_mono mono_row s7.keep hx5
      have hfl7 := s7 _ _ hfl5
      have ht7 := s7 _ _ ht
      refine ⟨D2, _, _, _, rfl, rfl, .of hD7, at_of (j := 0) rfl rfl, ?_⟩
      dsimp only [gName, tSeq]
      refine ⟨_, rfl, _, rfl, rfl, _, rfl, ?_⟩
      by_cases he : z.1 = wd
      · rw [decide_eq_true (by rw [he])]
        refine iteT (q _ _ t7 ?_)
        rw [least_none p2 S (by rw [← he]; exact List.mem_map.mpr ⟨z, hzm, rfl⟩)]
        rfl
      · rw [decide_eq_false (fun e => he (by have := V.int.inj e; omega))]
        refine iteF ?_
        have hwx : z.2[wd]? = some (z.2[wd]'(by omega)) := List.getElem?_eq_getElem (by omega)
        refine ⟨_, rfl, _, rfl, t, _, _, _, rfl, rfl, .of ht7, atI_nat (int_at hwx), _, rfl, _, rfl, fl, _, _, z.1, rfl, rfl, hfl7, ixN_nat (by rw [List.length_map, hfdl]; omega), ?_⟩
        have kfl : ∀ {o : HO}, Keep H7 (upd H7 fl o) := fun {o} => keep_lst hfl7
        refine ⟨_, _, rfl, same_own t7 nfl0, kfl.tup hts7, paired_mono mono_row kfl hx7, ?_, ?_⟩
        · rw [upd_same, ← fdPre_step nd hz, getD_at hwx, List.map_set]
        · rw [List.take_succ, hz, List.map_append]
          exact fun q => (List.mem_append.mp q).elim hno fun q => he (List.mem_singleton.mp q).symm
    · rintro σ H5 ⟨x6, x7, rfl, s5, hts5, hx5, hfl5, hno⟩
      rw [hx4l] at hfl5 hno
      rw [List.take_length] at hno
      rw [fdPre_all] at hfl5
      have hf := foundL_is p2 S
      have ha5 := s5 _ _ ha
      have hp5 := paired_mono mono_row s5.keep hp
      refine ⟨_, rfl, _, rfl, _, rfl, a, p, wd, xs, prs.map (·.1), rfl, ha5, Paired.mapP hp5 fun _ _ ⟨b, e, h⟩ => ⟨b, e, .inr h⟩, by rw [List.length_map]; omega, prm, pm, by omega, fun r hr => ?_, fun H6 v6 s6 hv6 => ?_⟩
      · obtain ⟨x, hx, rfl⟩ := List.mem_map.mp hr
        exact (hrw x hx).1
      obtain ⟨rs2, S2, e2⟩ := loose_st (wd := wd) (rows := prs.map (·.1)) prm
      rw [e2] at hv6
      obtain ⟨tl, xs6, rfl, htl, hx6⟩ := id hv6
      have hrl2 := S2.len
      have hx6l := paired_len hx6
      rw [List.length_map] at hx6l
      have hfl6 := s6 _ _ hfl5
      have s16 := s5.trans s6
      refine ⟨tl, rfl, ⟨_, .of htl⟩, ?_⟩
      refine for_it (walk_tup (xs := xs6)) (fun i σ H' => ∃ x5 x8 fl, σ = [some (.int p), some (.ref a), some (.ref b), some (.int (wd : Int)), some (.ref fl), x5, x6, x7, x8, none, none, none, none] ∧ Same H6 H' ∧ H' fl = some (.lst ((clr p (rs2.take i) (foundL wd rs)).map V.int)))
        ⟨none, none, fl, rfl, .refl _, hfl6⟩ (fun i σ H' _ h => .of (let ⟨_, _, _, _, h, _⟩ := h; h _ _ htl)) ?_ ?_
      · rintro i x σ H7 H8 hi ⟨x5, x8, fl, rfl, s7, hfl7⟩ ⟨rfl, hx⟩
        obtain ⟨row, hrow, t, rfl, ht⟩ := paired_get (paired_mono mono_row s7.keep hx6) hx
        rw [List.getElem?_map] at hrow
        obtain ⟨z, hz, hrow⟩ := Option.map_eq_some_iff.mp hrow
        subst hrow
        have hzm := List.mem_of_getElem? hz
        obtain ⟨zw, zl, zin⟩ := S2.ok z hzm
        have hld := S2.lead p2 hzm
        generalize hcur : clr p (rs2.take i) (foundL wd rs) = cur at hfl7
        have hcl : cur.length = wd := by rw [← hcur, clr_len]; exact isRow_len2 hf
        have hci : InB p cur := by rw [← hcur]; exact clr_in (by omega) _ hf.2
        have hstep : clr p (rs2.take (i + 1)) (foundL wd rs) = lessL p cur z.2 (cur.getD z.1 0) := by
          rw [← clr1_less hci, ← hcur, List.take_succ, hz]
          unfold clr
          rw [List.foldl_append]
          rfl
        dsimp only [gName, tSeq]
        refine ⟨_, rfl, _, rfl, _, rfl, by omega, by omega, fun D2 hD2 => ?_⟩
        refine lc_fm (walk_range (lo := 0) (n := ((wd : Nat) : Int).toNat)) rInt (fun j => if (!decide (z.2.getD j 0 = 0)) = true then some ((j : Nat) : Int) else none) hD2 (fun _ _ => trivial) ?_ ?_
        · rintro j x H9 H10 hj pw ⟨rfl, rfl⟩
          have hjx : z.2[j]? = some (z.2[j]'(by omega)) := List.getElem?_eq_getElem (by omega)
          refine ⟨rfl, _, rfl, _, rfl, t, _, _, _, rfl, rfl, .of (pw.1 _ _ ht), by rw [Int.zero_add]; exact atI_nat (int_at hjx), rfl, _, rfl, ?_⟩
          by_cases h0 : z.2[j]'(by omega) = 0
          · rw [decide_eq_true (congrArg V.int h0)]
            exact iteF (fm_skip mono_int pw (Same.refl _) (by rw [getD_at hjx, decide_eq_true h0]; rfl))
          · rw [decide_eq_false (fun e => h0 (V.int.inj e))]
            exact iteT ⟨_, rfl, fm_keep mono_int pw hD2 (by omega) (Same.refl _) (by rw [getD_at hjx, decide_eq_false h0]; rfl) (by show V.int _ = V.int _; rw [Int.zero_add])⟩
        intro H9 zs s9 hD9 hp9
        rw [Int.toNat_natCast] at hp9
        obtain ⟨tl', etl⟩ := lead_list hld zw
        rw [etl] at hp9
        have := paired_int hp9
        subst this
        have hzx : cur[z.1]? = some (cur[z.1]'(by omega)) := List.getElem?_eq_getElem (by omega)
        have hgz : cur.getD z.1 0 = cur[z.1]'(by omega) := getD_at hzx
        have hbz := hci _ (List.mem_of_getElem? hzx)
        have hfl9 := s9 _ _ hfl7
        have ht9 := s9 _ _ ht
        refine ⟨D2, _, _, _, rfl, rfl, .of hD9, at_of (j := 0) rfl rfl, fl, _, _, _, rfl, rfl, .of hfl9, atI_nat (int_at hzx), ?_⟩
        dsimp only [gName, tSeq]
        refine ⟨_, rfl, _, rfl, fl, t, _, _, true, false, rfl, .of hfl9, .of ht9, fun D3 hD3 => ?_⟩
        refine lc_fm (walk_zipM (b1 := true) (b2 := false) (n := cur.length) (by rw [List.length_map, List.length_map]; omega)) rInt (fun i => some ((cur.getD i 0 - cur.getD z.1 0 * z.2.getD i 0) % p)) hD3 (fun H' s' => ⟨.of (s' _ _ hfl9), .of (s' _ _ ht9)⟩) ?_ ?_
        · rintro j x H10 H11 hj pw ⟨tz, u1, u2, rfl, nz, rfl, e1, e2⟩
          obtain ⟨y1, hy1, rfl⟩ := at_int e1
          obtain ⟨y2, hy2, rfl⟩ := at_int e2
          have h1 := hci y1 (List.mem_of_getElem? hy1)
          have h2 := zin y2 (List.mem_of_getElem? hy2)
          refine ⟨tz, _, rfl, .of upd_same, rfl, _, _, rfl, _, _, rfl, rfl, rfl, ?_⟩
          refine ⟨_, rfl, _, rfl, _, rfl, _, _, rfl, rfl, .inl ⟨by omega, by omega⟩, _, _, rfl, rfl, .inl ⟨_, rfl, _, rfl, _, _, rfl, rfl, by show 0 < p; omega, ?_⟩⟩
          exact fm_keep mono_int pw hD3 (by omega) (same_new nz) rfl (by rw [getD_at hy1, getD_at hy2, hgz]; rfl)
        · intro H10 ws s10 hD10 hp10
          rw [fm_all] at hp10
          have := paired_int hp10
          subst this
          refine ⟨_, _, D3, rfl, (s7.trans s9).trans s10, ?_⟩
          rw [hstep]
          exact hD10
      · rintro σ H7 ⟨x5, x8, fl, rfl, s7, hfl7⟩
        rw [hx6l, List.take_length] at hfl7
        refine ⟨_, rfl, fl, _, rfl, .inl ⟨.of hfl7, fun tt ntt => ?_⟩⟩
        refine q _ _ ((s16.trans s7).trans (same_new ntt)) ?_
        rw [least_some p2 S hno S2]
        exact ⟨tt, rfl, upd_same⟩
end
end S4

namespace S4
open PySem L2 TT MM EE
/-! ### the law's rows of posts, all mixtures, what is due -/
def scAll : Scope := { kind := .function, names := [(".0", .local), ("at", .cell), ("_law_dot", .globalImplicit), ("p", .cell), ("rows", .cell), ("times", .cell)], isGenerator := false, isCoroutine := false }
/-- the mixtures that are 0 elsewhere, cut down -/
def byF (p : Int) (wd : Nat) (kept : List Int) (rows : List (List Int)) (c : List Int) : Option (List Int) := if ((leftU wd kept).any fun x => (mixL p c rows wd).getD x.toNat 0 != 0) = true then none else some (cutL (mixL p c rows wd) kept)
theorem byF_mem {p : Int} {wd : Nat} {kept : List Int} {rows : List (List Int)} {l : List Int} : l ∈ (allT p rows.length).filterMap (byF p wd kept rows) ↔ ∃ c, isRow c p rows.length ∧ (∀ x ∈ leftU wd kept, (mixL p c rows wd).getD x.toNat 0 = 0) ∧ l = cutL (mixL p c rows wd) kept := by
  rw [List.mem_filterMap]
  have key : ∀ c, byF p wd kept rows c = some l ↔ (∀ x ∈ leftU wd kept, (mixL p c rows wd).getD x.toNat 0 = 0) ∧ l = cutL (mixL p c rows wd) kept := fun c => by
    unfold byF
    cases h : (leftU wd kept).any fun x => (mixL p c rows wd).getD x.toNat 0 != 0 with
    | true =>
      rw [if_pos rfl]
      obtain ⟨x, hx, e⟩ := List.any_eq_true.mp h
      exact ⟨fun q => (nomatch q), fun q => by rw [q.1 x hx] at e; simp at e⟩
    | false =>
      rw [if_neg (by simp)]
      rw [List.any_eq_false] at h
      refine ⟨fun q => ⟨fun x hx => by simpa using h x hx, (Option.some.inj q).symm⟩, fun q => by rw [q.2]⟩
  constructor
  · rintro ⟨c, hc, h⟩
    obtain ⟨h1, h2⟩ := (key c).mp h
    exact ⟨c, allT_mem.mp hc, h1, h2⟩
  · rintro ⟨c, hc, h1, h2⟩
    exact ⟨c, allT_mem.mpr hc, (key c).mpr ⟨h1, h2⟩⟩
section
variable {P : Program} {w : World} {K : PySem.W.Frag} {mg : Str → Option Value} {base : Heap} {cT cS : Addr}
def spLRowsOf : Sp := fun vs H Q _ => ∃ (a b : Addr) (tv uv rv : V) (S : RD) (n : Nat) (ns : List Int), vs = [.ref a, .ref b] ∧ PDat H a S tv uv rv ∧ RulesOk S n ∧ H b = some (.lst (ns.map V.int)) ∧ ns.Pairwise (· < ·) ∧ (∀ x ∈ ns, x ∈ rng n) ∧
  ∀ H' r xs, Same H H' → H r = none → H' r = some (.lst xs) → Paired (rLI H') xs (rowsT S ns) → Q (.ref r) H'
theorem ok_lrowsof (T : Tx K mg cT cS) {f : Addr} {fd : FuncData} (d : D K mg "_law_rows_of" s_law_rows_of ["parts", "posts"] f fd) : FnOk P w K mg base CX0 2 f fd ["parts", "posts"] spLRowsOf := by
  obtain ⟨f1, fd1, d1⟩ := T.d_law_every
  have G1 := ok_levery (P := P) (w := w) (base := base) T d1
  refine d.F.ok sc_law_rows_of (fun vs H Q E h => ?_) (fun cdv A outer s H vs Q E hr h => ?_)
  · obtain ⟨a, b, tv, uv, rv, S, n, ns, rfl, _⟩ := h
    rfl
  · obtain ⟨a, b, tv, uv, rv, S, n, ns, rfl, hP, ok, hb, nup, hin, q⟩ := h
    refine ⟨_, pss_one (ps_ret (pe_lc (own := [("post", 2), ("row", 3), ("right", 4)]) (g := (gTup K 3 (gCons (gName 2) (gCons (gName 3) (gCons (gName 4) gNil))))) (tt := _) rfl sc_law_rows_of.nd (pi_list (pe_call G1 (hr.mono (by decide)) rfl d1.m d1.F.kp d1.b .nil pass0 (pa_cons (pv 0) pa_nil))) (blkOk_by (N := N_law_rows_of) (sc := defScope s_law_rows_of) (by decide +kernel)) (fun _ _ _ _ _ => (pgT rfl rfl (pgs_cons (pg_name (i := 2) sc_law_rows_of.nd rfl (Or.inl rfl)) (pgs_cons (pg_name (i := 3) sc_law_rows_of.nd rfl (Or.inl rfl)) (pgs_cons (pg_name (i := 4) sc_law_rows_of.nd rfl (Or.inl rfl)) pgs_nil))))) (fun _ _ _ _ _ => (pts_one (pt_cmpR (inS (K := K) rfl) (pv 2) (pv 1) (by rfl))))
            (fun _ _ _ _ _ => (pe_op op_cat (pe_callTy (listS (K := K) rfl) (by rfl) T.b_list (by decide +kernel) (pa_cons (pv 3) pa_nil)) (pe_lst (pa_cons (pv 4) pa_nil)))))), ?_⟩
    have h24 : S.rules.length ≤ 24 := by have := ok.len; have := ok.tree.ok.n24; omega
    have hs60 := ok.unk.s
    refine ⟨_, rfl, a, tv, uv, rv, S, rfl, hP, h24, ok.l8, fun H8 ra ev s8 hra hev => ⟨ra, rfl, ⟨_, .of hra⟩, fun D hD => ?_⟩⟩
    have hle := paired_len hev
    have hl8 := len_every ok.l8
    refine walk_W (walk_list (xs := ev)) _ (fun i H' => Same H8 H' ∧ ∃ ys, H' D = some (.lst ys) ∧ Paired (rLI H') ys (((everyL S.rules).take i).filterMap fun e => if decide ((e.1 : Int) ∈ ns) = true then some (e.2.1 ++ [e.2.2]) else none)) ⟨same_new hD, [], upd_same, .nil⟩ (fun i H' _ h => .of (h.1 _ _ hra)) ?_ ?_
    · rintro j y H9 H10 hj ⟨s9, ys, h1, h2⟩ ⟨rfl, hy⟩
      obtain ⟨e, he, te, xr, rfl, hte, txr, rfl, htx⟩ := paired_get (paired_mono mono_ev s9.keep hev) hy
      obtain ⟨own, ho, hro⟩ := mem_every (List.mem_of_getElem? he)
      have rok := ok.ok _ _ ho _ hro
      have rlen := rok.row.1
      have hys := paired_len h2
      have hyb : ((((everyL S.rules).take j).filterMap fun e => if decide ((e.1 : Int) ∈ ns) = true then some (e.2.1 ++ [e.2.2]) else none)).length ≤ 200 := by
        refine Nat.le_trans (List.length_filterMap_le _ _) ?_
        rw [List.length_take]
        omega
      have hpn10 := (s8.trans s9) _ _ hb
      refine ⟨te, _, rfl, .of hte, rfl, _, _, rfl, _, _, rfl, _, _, rfl, rfl, rfl, ?_⟩
      refine ⟨_, rfl, _, rfl, b, _, rfl, .inl (.of hpn10), rfl, flat_ints _, _, rfl, ?_⟩
      rw [if_neg (by simp), inV_ints]
      by_cases hin2 : ((e.1 : Nat) : Int) ∈ ns
      · rw [decide_eq_true hin2]
        refine iteT ?_
        refine ⟨_, rfl, txr, _, rfl, .inr (.of htx), fun l1 nl1 => ⟨_, rfl, by show 1 ≤ sizeLine; decide, fun l2 nl2 => ?_⟩⟩
        have q1 := same_new (o := .lst (e.2.1.map V.int)) nl1
        have q2 := same_new (o := .lst [V.int e.2.2]) nl2
        refine ⟨l1, l2, _, _, rfl, rfl, q2 _ _ upd_same, upd_same, Nat.le_trans (by rw [List.length_map]; show _ + 1 ≤ _; omega : _ ≤ 100) (by decide), fun l3 nl3 => ?_⟩
        have q3 := same_new (o := .lst (e.2.1.map V.int ++ [V.int e.2.2])) nl3
        have q13 := (q1.trans q2).trans q3
        have h3 : (upd (upd (upd H10 l1 (.lst (e.2.1.map V.int))) l2 (.lst [V.int e.2.2])) l3 (.lst (e.2.1.map V.int ++ [V.int e.2.2]))) l3 = some (.lst ((e.2.1 ++ [e.2.2]).map V.int)) := by rw [upd_same, List.map_append]; rfl
        generalize upd (upd (upd H10 l1 (.lst (e.2.1.map V.int))) l2 (.lst [V.int e.2.2])) l3 (.lst (e.2.1.map V.int ++ [V.int e.2.2])) = H11 at *
        have hne : l3 ≠ D := fun z => by
          subst z
          rw [(q1.trans q2) _ _ h1] at nl3
          cases nl3
        refine ⟨ys, q13 _ _ h1, Nat.lt_of_le_of_lt (by omega : _ ≤ 200) (by decide), same_own (s9.trans q13) hD, ys ++ [.ref l3], upd_same, ?_⟩
        rw [List.take_succ, he, List.filterMap_append]
        show Paired _ _ (_ ++ List.filterMap _ [e])
        rw [List.filterMap_cons, if_pos (decide_eq_true hin2)]
        refine paired_app (li_upd (q13 _ _ h1) (li_same q13 h2)) (.cons ⟨l3, rfl, ?_⟩ .nil)
        rw [upd_ne hne]
        exact h3
      · rw [decide_eq_false hin2]
        refine iteF ⟨s9, ys, h1, ?_⟩
        rw [List.take_succ, he, List.filterMap_append]
        show Paired _ ys (_ ++ List.filterMap _ [e])
        rw [List.filterMap_cons, if_neg (by simp [hin2])]
        rw [List.filterMap_nil, List.append_nil]
        exact h2
    · rintro H9 ⟨s9, ys, h1, h2⟩
      rw [hle, List.take_length] at h2
      have erw : ((everyL S.rules).filterMap fun e => if decide ((e.1 : Int) ∈ ns) = true then some (e.2.1 ++ [e.2.2]) else none) = rowsT S ns := rows_ET (n := n) ok.len nup hin
      rw [erw] at h2
      exact q _ D ys (s8.trans s9) (s8.free hD) h1 h2
def spLByAll : Sp := fun vs H Q _ => ∃ (a b : Addr) (p : Int) (wd : Nat) (xs : List V) (rows : List (List Int)) (kept : List Int), vs = [.int p, .ref a, .ref b] ∧ H a = some (.lst xs) ∧ Paired (rLI H) xs rows ∧ p.toNat ^ rows.length ≤ 400 ∧ rows.length ≤ 60 ∧ H b = some (.lst (kept.map V.int)) ∧ Prm p ∧ p ≤ 1000000 ∧ wd ≤ 100 ∧ (∀ r ∈ rows, isRow r p wd) ∧ (∀ x ∈ kept, 0 ≤ x ∧ x < (wd : Int)) ∧ kept.length ≤ 100 ∧
  ∀ H' v, Same H H' → rTup rRow H' v (restU p wd kept rows) → Q v H'
theorem ok_lbyall (T : Tx K mg cT cS) {f : Addr} {fd : FuncData} (d : D K mg "_law_by_all" s_law_by_all ["p", "rows", "kept"] f fd) : FnOk P w K mg base CX0 3 f fd ["p", "rows", "kept"] spLByAll := by
  obtain ⟨f1, fd1, d1⟩ := T.d_law_all
  have G1 := ok_lallT (P := P) (w := w) (base := base) T d1
  obtain ⟨f2, fd2, d2⟩ := T.d_law_dot
  have G2 := ok_ldotV (P := P) (w := w) (base := base) T d2
  obtain ⟨f3, fd3, d3⟩ := T.d_law_ladder
  have G3 := ok_lladT (P := P) (w := w) (base := base) T d3
  refine d.F.ok sc_law_by_all (fun vs H Q E h => ?_) (fun cdv A outer s H vs Q E hr h => ?_)
  · obtain ⟨a, b, p, wd, xs, rows, kept, rfl, _⟩ := h
    rfl
  · obtain ⟨a, b, p, wd, xs, rows, kept, rfl, ha, hp, hpw, hl, hb, prm, pm, hw, hrw, hkin, hkl, q⟩ := h
    refine ⟨_, pss_cons (ps_set (i := 3) sc_law_by_all.nd rfl (.inl rfl) (pe_lst pa_nil))
      (pss_cons (ps_if (pt_cmpR op_gt (pe_callB call_len_seq (by rfl) T.b_len PySem.boot_len (pa_cons (pv 1) pa_nil)) pe_int (nomark _)) (pss_cons (ps_setLc (i := 4) (own := [("at", 7)]) (g := (gName 7)) (tt := _) rfl sc_law_by_all.nd rfl rfl (sw_true rfl rfl rfl (by decide +kernel)) (pi_range1 rfl T.b_range (pa_cons (pe_callB call_len_seq (by rfl) T.b_len PySem.boot_len (pa_cons (pe_ix ix_list (pv 1) pe_int (fun _ _ => rfl)) pa_nil)) pa_nil)) (blkOk_by (N := N_law_by_all) (sc := defScope s_law_by_all) (by decide +kernel)) (fun _ _ _ _ _ => (pg_name (i := 7) sc_law_by_all.nd rfl (Or.inl rfl))) (fun _ _ _ _ _ => (pts_one (pt_cmpR (ninS (K := K) rfl) (pv 7) (pv 2) (by rfl))))
            (fun _ _ _ _ _ => (pv 7)))
      (pss_one (ps_for PassesOwn.never rfl (pi_list (pe_call G1 (hr.mono (by decide)) rfl d1.m d1.F.kp d1.b .nil pass0 (pa_cons (pv 0) (pa_cons (pe_callB call_len_seq (by rfl) T.b_len PySem.boot_len (pa_cons (pv 1) pa_nil)) pa_nil)))) (pg_name (i := 5) sc_law_by_all.nd rfl (.inr rfl))
        (pss_cons (ps_set (i := 6) sc_law_by_all.nd rfl (.inr rfl) (pe_lc (own := [("at", 7)]) (g := (gName 7)) (tt := tYes) rfl sc_law_by_all.nd (pi_range1 rfl T.b_range (pa_cons (pe_callB call_len_seq (by rfl) T.b_len PySem.boot_len (pa_cons (pe_ix ix_list (pv 1) pe_int (fun _ _ => rfl)) pa_nil)) pa_nil)) (blkOk_by (N := N_law_by_all) (sc := defScope s_law_by_all) (by decide +kernel)) (fun _ _ _ _ _ => (pg_name (i := 7) sc_law_by_all.nd rfl (Or.inr rfl))) (fun _ _ _ _ _ => pts_nil)
            (fun _ _ _ _ _ => (pe_call G2 (hr.mono (by decide)) rfl d2.m d2.F.kp d2.b .nil pass0 (pa_cons (pv 0) (pa_cons (pv 5) (pa_cons (pe_lc (own := [("own", 8)]) (g := (gName 8)) (tt := tYes) rfl sc_law_by_all.nd (piLK rfl (pi_list (pv 1))) (blkOk_by (N := N_law_by_all) (sc := scAll) (own := [("own", 8)]) (by decide +kernel)) (fun _ _ _ _ _ => (pg_name (i := 8) sc_law_by_all.nd rfl (Or.inl rfl))) (fun _ _ _ _ _ => pts_nil)
            (fun _ _ _ _ _ => (pe_ix (ixL (K := K) rfl) (pv 8) (pv 7) (fun _ _ => rfl)))) pa_nil)))))))
      (pss_one (ps_if (pt_not (pt_val (pe_callB (cr_anyLI rfl) (by rfl) T.b_any (by decide +kernel) (pa_cons (pe_lc (own := [("at", 7)]) (g := (gName 7)) (tt := tYes) rfl sc_law_by_all.nd (pi_list (pv 4)) (blkOk_by (N := N_law_by_all) (sc := defScope s_law_by_all) (by decide +kernel)) (fun _ _ _ _ _ => (pg_name (i := 7) sc_law_by_all.nd rfl (Or.inl rfl))) (fun _ _ _ _ _ => pts_nil)
            (fun _ _ _ _ _ => (pe_ix (ixL (K := K) rfl) (pv 6) (pv 7) (fun _ _ => rfl)))) pa_nil)))) (pss_one (ps_expr (pe_bm PySem.F.plainAttrs_list PySem.F.slot_list_append PySem.F.type_list_append mt_append (pv 3) (pa_cons (pe_lc (own := [("at", 7)]) (g := (gName 7)) (tt := tYes) rfl sc_law_by_all.nd (pi_list (pv 2)) (blkOk_by (N := N_law_by_all) (sc := defScope s_law_by_all) (by decide +kernel)) (fun _ _ _ _ _ => (pg_name (i := 7) sc_law_by_all.nd rfl (Or.inl rfl))) (fun _ _ _ _ _ => pts_nil)
            (fun _ _ _ _ _ => (pe_ix (ixL (K := K) rfl) (pv 6) (pv 7) (fun _ _ => rfl)))) pa_nil)))) pss_nil)))))) pss_nil)
      (pss_one (ps_ret (pe_call G3 (hr.mono (by decide)) rfl d3.m d3.F.kp d3.b .nil pass0 (pa_cons (pv 0) (pa_cons (pv 3) pa_nil)))))), ?_⟩
    have p2 := prm.1
    have lxs := paired_len hp
    refine ⟨by show 0 ≤ sizeLine; decide, fun fo nfo => ?_⟩
    have s1 := same_new (o := .lst []) nfo
    have hfo1 := upd_same (H := H) (a := fo) (o := .lst [])
    generalize upd H fo (.lst []) = H1 at *
    dsimp only [gName, tSeq]
    have ha1 := s1 _ _ ha
    refine ⟨_, rfl, a, _, rfl, .inl (.of ha1), _, _, rfl, rfl, _, rfl, ?_⟩
    by_cases h0 : rows = []
    · subst h0
      have h0l : xs.length = 0 := lxs
      rw [decide_eq_false (by rw [h0l]; simp)]
      refine iteF ?_
      dsimp only [tNext, tSeq]
      refine ⟨_, rfl, _, rfl, fo, p, kept.length, [], [], rfl, hfo1, .nil, Nat.zero_le _, prm, pm, by omega, fun _ h => (nomatch h), fun H2 v lad s2 hv hlad => ?_⟩
      refine q _ v (s1.trans s2) ?_
      have e1 := ladL_eq p2 hlad
      rw [ladL_nil p2] at e1
      have e2 : restU p wd kept [] = [] := by
        unfold restU
        rw [List.map_nil, ladL_nil p2]
        rfl
      rw [e2, ← e1]
      exact hv
    · obtain ⟨r0, rtl, rfl⟩ : ∃ r0 tl, rows = r0 :: tl := by
        cases rows with
        | nil => exact absurd rfl h0
        | cons a b => exact ⟨a, b, rfl⟩
      rw [decide_eq_true (by rw [lxs, List.length_cons]; omega)]
      refine iteT ?_
      obtain ⟨v0, xt, rfl, ⟨t0, rfl, ht0⟩, hpt⟩ : ∃ v0 xt, xs = v0 :: xt ∧ rLI H v0 r0 ∧ Paired (rLI H) xt rtl := by
        cases hp with
        | cons r t => exact ⟨_, _, rfl, r, t⟩
      have lr0 := isRow_len2 (hrw r0 (by simp))
      generalize hrows : r0 :: rtl = rows at *
      have hb1 := s1 _ _ hb
      have ht1 := s1 _ _ ht0
      have hp1 := li_same s1 hp
      have hwid : ∀ r ∈ rows, r.length = wd := fun r hr => isRow_len2 (hrw r hr)
      dsimp only [gName, tSeq]
      refine ⟨_, rfl, a, _, _, _, rfl, rfl, .of ha1, at_of (j := 0) rfl rfl, t0, _, rfl, .inl (.of ht1), ?_⟩
      rw [List.length_map, lr0]
      refine ⟨_, rfl, by omega, by omega, fun D hD => ?_⟩
      refine lc_fm (walk_range (lo := 0) (n := ((wd : Nat) : Int).toNat)) rInt (fun i => if (!decide (((i : Nat) : Int) ∈ kept)) = true then some ((i : Nat) : Int) else none) hD (fun _ _ => trivial) ?_ ?_
      · rintro i x H2 H3 hi pv ⟨rfl, rfl⟩
        rw [Int.toNat_natCast] at hi
        refine ⟨rfl, _, rfl, _, rfl, b, _, rfl, .inl (.of (pv.1 _ _ hb1)), rfl, flat_ints _, _, rfl, ?_⟩
        rw [if_pos rfl, inV_ints, show (0 : Int) + (i : Int) = (i : Int) by omega]
        by_cases hk : ((i : Nat) : Int) ∈ kept
        · rw [decide_eq_true hk]
          exact iteF (fm_skip mono_int pv (Same.refl _) (by simp [hk]))
        · rw [decide_eq_false hk]
          exact iteT ⟨_, rfl, fm_keep mono_int pv hD (by omega) (Same.refl _) (by simp [hk]) rfl⟩
      intro H2 ys s2 hD2 hp2
      rw [Int.toNat_natCast, fm_filterI (fun i => !decide (((i : Nat) : Int) ∈ kept))] at hp2
      have := paired_int hp2
      subst this
      have el : ((rng wd).filter fun x => !decide (((x.toNat : Nat) : Int) ∈ kept)) = leftU wd kept := by
        unfold leftU
        refine List.filter_congr fun x hx => ?_
        have := rng_mem.mp hx
        rw [Int.toNat_of_nonneg this.1]
      rw [el] at hD2
      have t2 := s1.trans s2
      have ha2 := s2 _ _ ha1
      have hfo2 := s2 _ _ hfo1
      have hll : (leftU wd kept).length ≤ 100 := by
        have := List.length_filter_le (fun x => !decide (x ∈ kept)) (rng wd)
        rw [rng_len] at this
        unfold leftU
        omega
      have llb : ∀ x ∈ leftU wd kept, 0 ≤ x ∧ x < (wd : Int) := fun x hx => rng_mem.mp (left_mem.mp hx).1
      dsimp only [gName, tSeq]
      refine ⟨_, rfl, _, rfl, a, _, rfl, .inl (.of ha2), ?_⟩
      rw [lxs]
      refine ⟨p, rows.length, rfl, p2, by omega, hl, fun H3 ra cs s3 nra hra hcs => ⟨ra, rfl, ⟨_, .of hra⟩, ?_⟩⟩
      have t3 := t2.trans s3
      have raF : ra ≠ fo := fun e => by rw [e, hfo2] at nra; cases nra
      have DF : D ≠ fo := fun e => by rw [e, hfo1] at hD; cases hD
      have lcs := paired_len hcs
      have lcs2 : (allT p rows.length).length ≤ 400 := by rw [allT_len]; exact hpw
      refine for_it (walk_list (xs := cs)) (fun i σ H' => ∃ x5 x6 ys, σ = [some (.int p), some (.ref a), some (.ref b), some (.ref fo), some (.ref D), x5, x6, none, none] ∧ Same H H' ∧ H' fo = some (.lst ys) ∧ Paired (rLI H') ys (((allT p rows.length).take i).filterMap (byF p wd kept rows)) ∧ H' ra = some (.lst cs) ∧ Paired (rRow H') cs (allT p rows.length) ∧ H' D = some (.lst ((leftU wd kept).map V.int)))
        ⟨none, none, [], rfl, t3, s3 _ _ hfo2, .nil, hra, hcs, s3 _ _ hD2⟩ (fun i σ H' _ h => .of (let ⟨_, _, _, _, _, _, _, h, _⟩ := h; h)) ?_ ?_
      · rintro i x σ H4 H5 hi ⟨x5, x6, ys, rfl, s4, hfo4, hp4, hra4, hcs4, hD4⟩ ⟨rfl, hx⟩
        obtain ⟨c, hc, hcr⟩ := paired_get hcs4 hx
        have hcm := allT_mem.mp (List.mem_of_getElem? hc)
        have hcl := isRow_len2 hcm
        have ha4 := s4 _ _ ha
        have ht4 := s4 _ _ ht0
        have hp4' := li_same s4 hp
        dsimp only [gName, tSeq]
        refine ⟨_, rfl, a, _, _, _, rfl, rfl, .of ha4, at_of (j := 0) rfl rfl, t0, _, rfl, .inl (.of ht4), ?_⟩
        rw [List.length_map, lr0]
        refine ⟨_, rfl, by omega, by omega, fun D2 hD2 => ?_⟩
        refine lc_fm (walk_range (lo := 0) (n := ((wd : Nat) : Int).toNat)) rInt (fun k => some (dotU p c (rows.map fun r => r.getD k 0))) hD2 (fun _ _ => trivial) ?_ ?_
        · rintro k x H6 H7 hk pv ⟨rfl, rfl⟩
          rw [Int.toNat_natCast] at hk
          have ha6 := pv.1 _ _ ha4
          have hp6 := li_same pv.1 hp4'
          refine ⟨rfl, _, rfl, _, rfl, _, rfl, a, rfl, ⟨_, .of ha6⟩, fun D3 hD3 => ?_⟩
          refine lc_fm (walk_list (xs := V.ref t0 :: xt)) rInt (fun j => rows[j]?.bind fun r => some (r.getD k 0)) hD3 (fun H' s' => .of (s' _ _ ha6)) ?_ ?_
          · rintro j y H8 H9 hj pw ⟨rfl, hy⟩
            obtain ⟨r, hr, tr, rfl, htr⟩ := paired_get (li_same pw.1 hp6) hy
            have hrl := hwid r (List.mem_of_getElem? hr)
            have hrk : r[k]? = some (r[k]'(by omega)) := List.getElem?_eq_getElem (by omega)
            refine ⟨rfl, _, rfl, _, rfl, tr, _, _, _, rfl, rfl, .of htr, by rw [Int.zero_add]; exact atI_nat (int_at hrk), ?_⟩
            exact fm_keep mono_int pw hD3 (by omega) (Same.refl _) (by rw [hr]; show some (r.getD k 0) = _; rw [getD_at hrk]) rfl
          · intro H8 zs s8 hD8 hp8
            rw [lxs, fm_some] at hp8
            have := paired_int hp8
            subst this
            refine ⟨_, D3, p, c, rows.map fun r => r.getD k 0, rfl, mono_row _ _ _ _ (pv.1.trans s8).keep hcr, hD8, p2, pm, by rw [List.length_map]; omega, by omega, hcm.2, fun v hv => ?_, fun H9 s9 => ?_⟩
            · obtain ⟨r, hr, rfl⟩ := List.mem_map.mp hv
              exact getD_in (by omega) (hrw r hr).2 k
            · exact fm_keep mono_int pv hD2 (by omega) (s8.trans s9) rfl rfl
        · intro H6 ms s6 hD6 hp6
          rw [fm_all, Int.toNat_natCast] at hp6
          have := paired_int hp6
          subst this
          have emix : ((List.range wd).map fun k => dotU p c (rows.map fun r => r.getD k 0)) = mixL p c rows wd := rfl
          rw [emix] at hD6
          have hml : (mixL p c rows wd).length = wd := by unfold mixL; rw [List.length_map, List.length_range]
          have hlD6 := s6 _ _ hD4
          have hfo6 := s6 _ _ hfo4
          have hb6 := (s4.trans s6) _ _ hb
          have hyl : ys.length ≤ 400 := by
            rw [paired_len hp4]
            refine Nat.le_trans (List.length_filterMap_le _ _) ?_
            rw [List.length_take]
            omega
          dsimp only [gName, tSeq]
          refine ⟨_, rfl, D, rfl, ⟨_, .of hlD6⟩, fun D4 hD4' => ?_⟩
          refine lc_fm (walk_list (xs := (leftU wd kept).map V.int)) rInt (fun j => (leftU wd kept)[j]?.bind fun x => some ((mixL p c rows wd).getD x.toNat 0)) hD4' (fun H' s' => .of (s' _ _ hlD6)) ?_ ?_
          · rintro j y H8 H9 hj pw ⟨rfl, hy⟩
            obtain ⟨v, hv, rfl⟩ := at_int hy
            rw [List.length_map] at hj
            obtain ⟨v0, v1⟩ := llb v (List.mem_of_getElem? hv)
            obtain ⟨k, rfl⟩ : ∃ k : Nat, v = (k : Int) := ⟨v.toNat, by omega⟩
            have hmk : (mixL p c rows wd)[k]? = some ((mixL p c rows wd)[k]'(by omega)) := List.getElem?_eq_getElem (by omega)
            refine ⟨rfl, _, rfl, _, rfl, D2, _, _, _, rfl, rfl, .of (pw.1 _ _ hD6), atI_nat (int_at hmk), ?_⟩
            exact fm_keep mono_int pw hD4' (by omega) (Same.refl _) (by rw [hv]; show some ((mixL p c rows wd).getD ((k : Nat) : Int).toNat 0) = _; rw [Int.toNat_natCast, getD_at hmk]) rfl
          · intro H8 zs s8 hD8 hp8
            rw [List.length_map, fm_some] at hp8
            have := paired_int hp8
            subst this
            refine ⟨D4, _, rfl, .of hD8, _, rfl, ?_⟩
            have ea : (((leftU wd kept).map fun x => (mixL p c rows wd).getD x.toNat 0).any fun n => n != 0) = (leftU wd kept).any fun x => (mixL p c rows wd).getD x.toNat 0 != 0 := by rw [List.any_map]; rfl
            rw [ea]
            have t8 := (s4.trans s6).trans s8
            have k48 : Same H5 H8 := s6.trans s8
            have hfo8 := s8 _ _ hfo6
            have etk : (allT p rows.length).take (i + 1) = (allT p rows.length).take i ++ [c] := by rw [List.take_succ, hc]; rfl
            cases hany : (leftU wd kept).any fun x => (mixL p c rows wd).getD x.toNat 0 != 0 with
            | true =>
              refine iteF ⟨_, _, ys, rfl, t8, hfo8, ?_, k48 _ _ hra4, paired_mono mono_row k48.keep hcs4, k48 _ _ hD4⟩
              have e1 : byF p wd kept rows c = none := by unfold byF; rw [hany]; exact if_pos rfl
              rw [etk, List.filterMap_append]
              show Paired _ ys (_ ++ List.filterMap _ [c])
              rw [List.filterMap_cons, e1]
              rw [List.filterMap_nil, List.append_nil]
              exact li_same k48 hp4
            | false =>
              have e1 : byF p wd kept rows c = some (cutL (mixL p c rows wd) kept) := by unfold byF; rw [hany]; exact if_neg (by simp)
              have hb8 := s8 _ _ hb6
              refine iteT ⟨_, rfl, .inl ⟨rfl, _, .of hfo8⟩, _, rfl, b, rfl, ⟨_, .of hb8⟩, fun D5 hD5 => ?_⟩
              refine lc_fm (walk_list (xs := kept.map V.int)) rInt (fun j => kept[j]?.bind fun x => some ((mixL p c rows wd).getD x.toNat 0)) hD5 (fun H' s' => .of (s' _ _ hb8)) ?_ ?_
              · rintro j y H9 H10 hj pw ⟨rfl, hy⟩
                obtain ⟨v, hv, rfl⟩ := at_int hy
                rw [List.length_map] at hj
                obtain ⟨v0, v1⟩ := hkin v (List.mem_of_getElem? hv)
                obtain ⟨k, rfl⟩ : ∃ k : Nat, v = (k : Int) := ⟨v.toNat, by omega⟩
                have hmk : (mixL p c rows wd)[k]? = some ((mixL p c rows wd)[k]'(by omega)) := List.getElem?_eq_getElem (by omega)
                refine ⟨rfl, _, rfl, _, rfl, D2, _, _, _, rfl, rfl, .of ((s8.trans pw.1) _ _ hD6), atI_nat (int_at hmk), ?_⟩
                exact fm_keep mono_int pw hD5 (by omega) (Same.refl _) (by rw [hv]; show some ((mixL p c rows wd).getD ((k : Nat) : Int).toNat 0) = _; rw [Int.toNat_natCast, getD_at hmk]) rfl
              · intro H9 zs s9 hD9 hp9
                rw [List.length_map, fm_some] at hp9
                have := paired_int hp9
                subst this
                have hfo9 := s9 _ _ hfo8
                have fD5 : D5 ≠ fo := fun e => by rw [e, hfo8] at hD5; cases hD5
                have k49 := k48.trans s9
                have h5' := hD9
                refine ⟨fo, _, _, rfl, rfl, hfo9, Nat.lt_of_le_of_lt (by omega : ys.length ≤ 400) (by decide), ?_⟩
                have kA : Keep H9 (upd H9 fo (.lst (ys ++ [V.ref D5]))) := keep_lst hfo9
                refine ⟨_, _, ys ++ [V.ref D5], rfl, same_own (t8.trans s9) nfo, upd_same, ?_, by rw [upd_ne raF]; exact k49 _ _ hra4, paired_mono mono_row (k49.keep.trans kA) hcs4, by rw [upd_ne DF]; exact k49 _ _ hD4⟩
                rw [etk, List.filterMap_append]
                show Paired _ _ (_ ++ List.filterMap _ [c])
                rw [List.filterMap_cons, e1]
                exact paired_app (li_upd hfo9 (li_same k49 hp4)) (.cons ⟨D5, rfl, by rw [upd_ne fD5]; exact hD9⟩ .nil)
      · rintro σ H4 ⟨x5, x6, ys, rfl, s4, hfo4, hp4, hra4, hcs4, hD4⟩
        rw [lcs, List.take_length] at hp4
        dsimp only [tNext, tSeq]
        have hfr : ∀ l ∈ (allT p rows.length).filterMap (byF p wd kept rows), isRow l p kept.length := fun l hl => by
          obtain ⟨c, hc, _, rfl⟩ := byF_mem.mp hl
          refine cut_isRow (wd := wd) ⟨by unfold mixL; rw [List.length_map, List.length_range], fun v hv => ?_⟩ hkin
          unfold mixL at hv
          obtain ⟨x, _, rfl⟩ := List.mem_map.mp hv
          exact mod_b (by omega)
        refine ⟨_, rfl, _, rfl, fo, p, kept.length, ys, _, rfl, hfo4, Paired.mapP hp4 fun _ _ ⟨b, e, h⟩ => ⟨b, e, .inl h⟩, Nat.le_trans (List.length_filterMap_le _ _) lcs2, prm, pm, by omega, hfr, fun H5 v lad s5 hv hlad => ?_⟩
        refine q _ v (s4.trans s5) ?_
        rw [← byall_eq prm hkin hrw fun l => byF_mem, ← ladL_eq p2 hlad]
        exact hv
theorem rowsT_len {S : RD} {n : Nat} (ok : RulesOk S n) {ns : List Int} (nup : ns.Pairwise (· < ·)) (hin : ∀ x ∈ ns, x ∈ rng n) : (rowsT S ns).length ≤ 192 := by
  rw [← rows_ET (n := n) ok.len nup hin]
  unfold rowsE
  have h1 := List.length_filterMap_le (fun e : Nat × Rule => if decide ((e.1 : Int) ∈ ns) = true then some (e.2.1 ++ [e.2.2]) else none) (everyL S.rules)
  have h2 := len_every ok.l8
  have h3 := ok.len
  have h4 := ok.tree.ok.n24
  omega
def spLDue : Sp := fun vs H Q _ => ∃ (a b d : Addr) (tv uv rv : V) (S : RD) (n wd : Nat) (ns kept : List Int), vs = [.ref a, .ref b, .ref d] ∧ PDat H a S tv uv rv ∧ RulesOk S n ∧ (S.p = 2 ∨ S.p = 3 ∨ S.p = 5 ∨ 7 ≤ S.p) ∧ S.unk.sum = (wd : Int) ∧ H b = some (.lst (ns.map V.int)) ∧ ns.Pairwise (· < ·) ∧ (∀ x ∈ ns, x ∈ rng n) ∧
  H d = some (.lst (kept.map V.int)) ∧ (∀ x ∈ kept, 0 ≤ x ∧ x < ((wd + 1 : Nat) : Int)) ∧ kept.length ≤ 100 ∧ ∀ H' v, Same H H' → rTup rRow H' v (restU S.p (wd + 1) kept (rowsT S ns)) → Q v H'
theorem ok_ldue (T : Tx K mg cT cS) {f : Addr} {fd : FuncData} (d : D K mg "_law_due" s_law_due ["parts", "posts", "kept"] f fd) : FnOk P w K mg base CX0 4 f fd ["parts", "posts", "kept"] spLDue := by
  obtain ⟨f1, fd1, d1⟩ := T.d_law_rows_of
  have G1 := ok_lrowsof (P := P) (w := w) (base := base) T d1
  obtain ⟨f2, fd2, d2⟩ := T.d_law_by_all
  have G2 := ok_lbyall (P := P) (w := w) (base := base) T d2
  obtain ⟨f3, fd3, d3⟩ := T.d_law_left
  have G3 := ok_lleft (P := P) (w := w) (base := base) T d3
  refine d.F.ok sc_law_due (fun vs H Q E h => ?_) (fun cdv A outer s H vs Q E hr h => ?_)
  · obtain ⟨a, b, d, tv, uv, rv, S, n, wd, ns, kept, rfl, _⟩ := h
    rfl
  · obtain ⟨a, b, d, tv, uv, rv, S, n, wd, ns, kept, rfl, hP, ok, hpp, hwd, hb, nup, hin, hd, hkin, hkl, q⟩ := h
    refine ⟨_, pss_cons (ps_set (i := 3) sc_law_due.nd rfl (.inl rfl) (pe_call G1 (hr.mono (by decide)) rfl d1.m d1.F.kp d1.b .nil pass0 (pa_cons (pv 0) (pa_cons (pv 1) pa_nil))))
      (pss_cons (ps_set (i := 4) sc_law_due.nd rfl (.inl rfl) (pe_lst (pa_cons pe_int (pa_cons pe_int (pa_cons pe_int (pa_cons pe_int (pa_cons pe_int (pa_cons pe_int (pa_cons pe_int (pa_cons pe_int pa_nil))))))))))
      (pss_cons (ps_if (PW.pt (pw_and (pt_cmpR op_lt (pe_dget (hu1 hr) (pv 0) pe_str (fun _ _ => rfl)) pe_int (nomark _)) (pw_and1 (pt_cmpR op_le (pe_callB call_len_seq (by rfl) T.b_len PySem.boot_len (pa_cons (pv 3) pa_nil)) (pe_ix ix_list (pv 4) (pe_dget (hu1 hr) (pv 0) pe_str (fun _ _ => rfl)) (fun _ _ => rfl)) (nomark _))))) (pss_one (ps_ret (pe_call G2 (hr.mono (by decide)) rfl d2.m d2.F.kp d2.b .nil pass0 (pa_cons (pe_dget (hu1 hr) (pv 0) pe_str (fun _ _ => rfl)) (pa_cons (pv 3) (pa_cons (pv 2) pa_nil)))))) pss_nil)
      (pss_one (ps_ret (pe_call G3 (hr.mono (by decide)) rfl d3.m d3.F.kp d3.b .nil pass0 (pa_cons (pe_dget (hu1 hr) (pv 0) pe_str (fun _ _ => rfl)) (pa_cons (pv 3) (pa_cons (pv 2) pa_nil)))))))), ?_⟩
    have hs60 := ok.unk.s
    have hrl := rowsT_len ok nup hin
    have hrow := rowsT_isRow ok hwd hin
    have prm := ok.clock.prm
    have pm := ok.clock.2.1
    refine ⟨_, rfl, _, rfl, a, b, tv, uv, rv, S, n, ns, rfl, hP, ok, hb, nup, hin, fun H1 r xs s1 nr hr1 hp1 => ?_⟩
    have lxs := paired_len hp1
    dsimp only [gName, tSeq]
    refine ⟨by show 8 ≤ sizeLine; decide, fun m nm => ?_⟩
    have s2 := same_new (o := .lst (([0, 0, 7, 5, 0, 3, 0, 3] : List Int).map V.int)) nm
    have hm := upd_same (H := H1) (a := m) (o := .lst (([0, 0, 7, 5, 0, 3, 0, 3] : List Int).map V.int))
    show (fun H2 : Hp => _) (upd H1 m (.lst (([0, 0, 7, 5, 0, 3, 0, 3] : List Int).map V.int)))
    generalize upd H1 m (.lst (([0, 0, 7, 5, 0, 3, 0, 3] : List Int).map V.int)) = H2 at *
    have t2 := s1.trans s2
    have hr2 := s2 _ _ hr1
    have hp2 := li_same s2 hp1
    have hP2 := hP.same t2
    have hd2 := t2 _ _ hd
    dsimp only [gName, tSeq]
    refine ⟨_, rfl, a, _, rfl, hP2.gp, _, _, rfl, rfl, _, rfl, ?_⟩
    have p2 := prm.1
    by_cases hp8 : S.p < 8
    · rw [decide_eq_true hp8]
      refine iteT ?_
      obtain ⟨mv, hmv, hmb⟩ : ∃ mv : Nat, atI (([0, 0, 7, 5, 0, 3, 0, 3] : List Int).map V.int) S.p = some (V.int (mv : Int)) ∧ S.p.toNat ^ mv ≤ 400 := by
        rcases hpp with e | e | e | e
        · exact ⟨7, by rw [e]; rfl, by rw [e]; decide⟩
        · exact ⟨5, by rw [e]; rfl, by rw [e]; decide⟩
        · exact ⟨3, by rw [e]; rfl, by rw [e]; decide⟩
        · have e : S.p = 7 := by omega
          exact ⟨3, by rw [e]; rfl, by rw [e]; decide⟩
      refine ⟨_, rfl, r, _, rfl, .inl (.of hr2), _, rfl, _, rfl, a, _, rfl, hP2.gp, m, _, _, _, rfl, rfl, .of hm, hmv, _, _, rfl, rfl, _, rfl, ?_⟩
      by_cases hle : (rowsT S ns).length ≤ mv
      · rw [decide_eq_true (by rw [lxs]; omega)]
        refine iteT ?_
        have hpow : S.p.toNat ^ (rowsT S ns).length ≤ 400 := Nat.le_trans (Nat.pow_le_pow_right (by omega) hle) hmb
        have h60 : (rowsT S ns).length ≤ 60 := by
          have h2p : 2 ^ (rowsT S ns).length ≤ 400 := Nat.le_trans (Nat.pow_le_pow_left (by omega) _) hpow
          by_cases h : (rowsT S ns).length ≤ 60
          · exact h
          · have : 2 ^ 61 ≤ 2 ^ (rowsT S ns).length := Nat.pow_le_pow_right (by decide) (by omega)
            have : (2 : Nat) ^ 61 = 2305843009213693952 := by decide
            omega
        refine ⟨_, rfl, a, _, rfl, hP2.gp, _, rfl, _, rfl, r, d, S.p, wd + 1, xs, rowsT S ns, kept, rfl, hr2, hp2, hpow, h60, hd2, prm, pm, by omega, hrow, hkin, hkl, fun H3 v s3 hv => q _ v (t2.trans s3) hv⟩
      · rw [decide_eq_false (by rw [lxs]; omega)]
        refine iteF ?_
        dsimp only [tNext, tSeq]
        exact ⟨_, rfl, a, _, rfl, hP2.gp, _, rfl, _, rfl, r, d, S.p, wd + 1, xs, rowsT S ns, kept, rfl, hr2, hp2, by omega, hd2, prm, pm, by omega, hrow, hkin, hkl, fun H3 v s3 hv => q _ v (t2.trans s3) hv⟩
    · rw [decide_eq_false hp8]
      refine iteF (iteF ?_)
      dsimp only [tNext, tSeq]
      exact ⟨_, rfl, a, _, rfl, hP2.gp, _, rfl, _, rfl, r, d, S.p, wd + 1, xs, rowsT S ns, kept, rfl, hr2, hp2, by omega, hd2, prm, pm, by omega, hrow, hkin, hkl, fun H3 v s3 hv => q _ v (t2.trans s3) hv⟩
end
end S4

namespace S4
open PySem L2 TT MM EE
/-! ### the law's places that are kept, spread rows, sure values -/
def sprPre (wd : Nat) (kept step : List Int) (j : Nat) : List Int := (List.range wd).map fun (i : Nat) => if (i : Int) ∈ kept.take j then step.getD (kept.idxOf (i : Int)) 0 else 0
theorem sprPre_all {wd : Nat} {kept step : List Int} : sprPre wd kept step kept.length = sprL wd kept step := by unfold sprPre sprL; rw [List.take_length]
theorem sprPre_zero {wd : Nat} {kept step : List Int} : sprPre wd kept step 0 = List.replicate wd 0 := by
  unfold sprPre
  refine List.ext_getElem (by simp) fun x h1 h2 => ?_
  rw [List.getElem_map, List.getElem_replicate, if_neg (by simp)]
theorem sprPre_step {wd : Nat} {kept step : List Int} (nd : kept.Nodup) {j : Nat} {k : Nat} {v : Int} (hk : kept[j]? = some (k : Int)) (hv : step[j]? = some v) : (sprPre wd kept step j).set k v = sprPre wd kept step (j + 1) := by
  have hj := (List.getElem?_eq_some_iff.mp hk).1
  have hkj : kept[j]'hj = (k : Int) := (List.getElem?_eq_some_iff.mp hk).2
  have hix : kept.idxOf (k : Int) = j := by rw [← hkj]; exact nd.idxOf_getElem j hj
  unfold sprPre
  refine List.ext_getElem (by rw [List.length_set, List.length_map, List.length_map]) fun x h1 h2 => ?_
  rw [List.getElem_set, List.getElem_map, List.getElem_map, List.getElem_range]
  have et : kept.take (j + 1) = kept.take j ++ [(k : Int)] := by rw [List.take_succ, hk]; rfl
  rw [et]
  by_cases e : k = x
  · subst e
    rw [if_pos rfl, if_pos (by simp), hix, getD_at hv]
  · rw [if_neg e]
    by_cases h : (x : Int) ∈ kept.take j
    · rw [if_pos h, if_pos (List.mem_append_left _ h)]
    · rw [if_neg h, if_neg (fun q => (List.mem_append.mp q).elim h fun q => e (by have := List.mem_singleton.mp q; omega))]
def prsL (rules : List (List Rule)) : List Rule := (everyL rules).map (·.2)
theorem prs_flat (rules : List (List Rule)) : prsL rules = rules.flatten := by
  unfold prsL everyL
  rw [List.map_flatMap]
  have h := fl_list rules (fun own : List Rule => own)
  rw [List.flatMap_id'] at h
  rw [← h]
  congr 1
  funext i
  rw [List.map_map]
  show (rules.getD i []).map (fun r => r) = _
  rw [List.map_id', List.getD_eq_getElem?_getD]
  cases rules[i]? <;> rfl
theorem aug_rows (S : RD) : augL (prsL S.rules) = rowsA S := by
  rw [prs_flat]
  unfold augL rowsA
  rw [List.map_flatten, List.flatMap_def]
theorem fst_rows (S : RD) : (prsL S.rules).map (·.1) = rows0 S := by
  rw [prs_flat]
  unfold rows0
  rw [List.map_flatten, List.flatMap_def]
section
variable {P : Program} {w : World} {K : PySem.W.Frag} {mg : Str → Option Value} {base : Heap} {cT cS : Addr}
def spLKept : Sp := fun vs H Q _ => ∃ (a b : Addr) (tv uv rv : V) (S : RD) (n wd : Nat) (posts : List Int), vs = [.ref a, .ref b] ∧ PDat H a S tv uv rv ∧ RulesOk S n ∧ S.unk.sum = (wd : Int) ∧ (H b = some (.lst (posts.map V.int)) ∨ H b = some (.tup (posts.map V.int))) ∧ posts.length ≤ 3 ∧ (∀ x ∈ posts, x ∈ rng n) ∧
  ∀ H' r, Same H H' → H r = none → H' r = some (.lst ((posts.flatMap (heldL S.unk) ++ [(wd : Int)]).map V.int)) → Q (.ref r) H'
theorem ok_lkept (T : Tx K mg cT cS) {f : Addr} {fd : FuncData} (d : D K mg "_law_kept" s_law_kept ["parts", "posts"] f fd) : FnOk P w K mg base CX0 2 f fd ["parts", "posts"] spLKept := by
  obtain ⟨f1, fd1, d1⟩ := T.d_law_places
  have G1 := ok_lpl (P := P) (w := w) (base := base) T d1
  refine d.F.ok sc_law_kept (fun vs H Q E h => ?_) (fun cdv A outer s H vs Q E hr h => ?_)
  · obtain ⟨a, b, tv, uv, rv, S, n, wd, posts, rfl, _⟩ := h
    rfl
  · obtain ⟨a, b, tv, uv, rv, S, n, wd, posts, rfl, hP, ok, hwd, hb, hl3, hin, q⟩ := h
    refine ⟨_, pss_cons (ps_set (i := 2) sc_law_kept.nd rfl (.inl rfl) (pe_lst pa_nil))
      (pss_cons (ps_for PassesOwn.never rfl (pi_or (pi_list (pv 1)) (pi_tup (pv 1))) (pg_name (i := 3) sc_law_kept.nd rfl (.inl rfl))
        (pss_one (ps_set (i := 2) sc_law_kept.nd rfl (.inl rfl) (pe_op op_cat (pv 2) (pe_call G1 (hr.mono (by decide)) rfl d1.m d1.F.kp d1.b .nil pass0 (pa_cons (pe_dget (hu1 hr) (pv 0) pe_str (fun _ _ => rfl)) (pa_cons (pv 3) pa_nil)))))))
      (pss_one (ps_ret (pe_op op_cat (pv 2) (pe_lst (pa_cons (pe_callB (cr_sumT rfl) (by rfl) T.b_sum (by decide +kernel) (pa_cons (pe_dget (hu1 hr) (pv 0) pe_str (fun _ _ => rfl)) pa_nil)) pa_nil)))))), ?_⟩
    have hs60 := ok.unk.s
    refine ⟨by show 0 ≤ sizeLine; decide, fun f0 nf0 => ?_⟩
    have s1 := same_new (o := .lst []) nf0
    have hf0 := upd_same (H := H) (a := f0) (o := .lst [])
    generalize upd H f0 (.lst []) = H1 at *
    dsimp only [gName, tSeq]
    obtain ⟨tu, eu, htu⟩ := id hP.u
    subst eu
    rcases hb with hb | hb
    · skip
      refine .inl ⟨_, rfl, b, rfl, ⟨_, .of (s1 _ _ hb)⟩, ?_⟩
      refine for_it (walk_list (xs := posts.map V.int)) (fun i σ H' => ∃ x3 fl l, σ = [some (.ref a), some (.ref b), some (.ref fl), x3] ∧ Same H H' ∧ H' fl = some (.lst ((l : List Int).map V.int)) ∧ l = (posts.take i).flatMap (heldL S.unk))
        ⟨none, f0, [], rfl, s1, hf0, by rw [List.take_zero]; rfl⟩ (fun i σ H' _ h => .of (let ⟨_, _, _, _, h, _⟩ := h; h _ _ hb)) ?_ ?_
      · rintro i x σ H3 H4 hi ⟨x3, fl, l, rfl, s3, hfl, hl⟩ ⟨rfl, hx⟩
        obtain ⟨post, hpost, rfl⟩ := at_int hx
        have hpm := List.mem_of_getElem? hpost
        obtain ⟨q0, q1⟩ := rng_mem.mp (hin post hpm)
        rw [List.length_map] at hi
        have hll : l.length ≤ 180 := by
          rw [hl]
          have := heldF_len ok.unk (posts.take i)
          rw [List.length_take] at this
          omega
        have hh60 := heldL_len ok.unk post
        dsimp only [gName, tSeq]
        refine ⟨_, rfl, _, rfl, a, _, rfl, (hP.same s3).gu, _, rfl, .ref tu, S.unk, post, n, rfl, ⟨tu, rfl, s3 _ _ htu⟩, ok.unk, ok.tree.ok.n24, q0, q1, fun H5 r s5 nr hr5 => ?_⟩
        refine ⟨fl, r, _, _, rfl, rfl, s5 _ _ hfl, hr5, Nat.le_trans (by rw [List.length_map, List.length_map]; omega : _ ≤ 1000) (by decide), fun r2 nr2 => ?_⟩
        have s6 := same_new (o := .lst (l.map V.int ++ (heldL S.unk post).map V.int)) nr2
        refine ⟨_, r2, l ++ heldL S.unk post, rfl, (s3.trans s5).trans s6, by rw [upd_same, List.map_append], ?_⟩
        rw [List.take_succ, hpost, List.flatMap_append, hl]
        show _ = _ ++ List.flatMap _ [post]
        rw [List.flatMap_singleton]
      · rintro σ H3 ⟨x3, fl, l, rfl, s3, hfl, hl⟩
        rw [List.length_map, List.take_length] at hl
        have hll : l.length ≤ 180 := by
          rw [hl]
          have := heldF_len ok.unk posts
          omega
        dsimp only [tNext, tSeq]
        refine ⟨_, rfl, _, rfl, a, _, rfl, (hP.same s3).gu, tu, S.unk, rfl, .of (s3 _ _ htu), by show 1 ≤ sizeLine; decide, fun l1 nl1 => ?_⟩
        rw [hwd]
        have s4 := same_new (o := .lst [V.int (wd : Int)]) nl1
        refine ⟨fl, l1, _, _, rfl, rfl, s4 _ _ hfl, upd_same, Nat.le_trans (by rw [List.length_map]; show _ + 1 ≤ 1000; omega : _ ≤ 1000) (by decide), fun r2 nr2 => ?_⟩
        have s5 := same_new (o := .lst (l.map V.int ++ [V.int (wd : Int)])) nr2
        refine q _ r2 ((s3.trans s4).trans s5) ((s3.trans s4).free nr2) ?_
        rw [upd_same, ← hl, List.map_append]
        rfl
    · skip
      refine .inr ⟨_, rfl, b, rfl, ⟨_, .of (s1 _ _ hb)⟩, ?_⟩
      refine for_it (walk_tup (xs := posts.map V.int)) (fun i σ H' => ∃ x3 fl l, σ = [some (.ref a), some (.ref b), some (.ref fl), x3] ∧ Same H H' ∧ H' fl = some (.lst ((l : List Int).map V.int)) ∧ l = (posts.take i).flatMap (heldL S.unk))
        ⟨none, f0, [], rfl, s1, hf0, by rw [List.take_zero]; rfl⟩ (fun i σ H' _ h => .of (let ⟨_, _, _, _, h, _⟩ := h; h _ _ hb)) ?_ ?_
      · rintro i x σ H3 H4 hi ⟨x3, fl, l, rfl, s3, hfl, hl⟩ ⟨rfl, hx⟩
        obtain ⟨post, hpost, rfl⟩ := at_int hx
        have hpm := List.mem_of_getElem? hpost
        obtain ⟨q0, q1⟩ := rng_mem.mp (hin post hpm)
        rw [List.length_map] at hi
        have hll : l.length ≤ 180 := by
          rw [hl]
          have := heldF_len ok.unk (posts.take i)
          rw [List.length_take] at this
          omega
        have hh60 := heldL_len ok.unk post
        dsimp only [gName, tSeq]
        refine ⟨_, rfl, _, rfl, a, _, rfl, (hP.same s3).gu, _, rfl, .ref tu, S.unk, post, n, rfl, ⟨tu, rfl, s3 _ _ htu⟩, ok.unk, ok.tree.ok.n24, q0, q1, fun H5 r s5 nr hr5 => ?_⟩
        refine ⟨fl, r, _, _, rfl, rfl, s5 _ _ hfl, hr5, Nat.le_trans (by rw [List.length_map, List.length_map]; omega : _ ≤ 1000) (by decide), fun r2 nr2 => ?_⟩
        have s6 := same_new (o := .lst (l.map V.int ++ (heldL S.unk post).map V.int)) nr2
        refine ⟨_, r2, l ++ heldL S.unk post, rfl, (s3.trans s5).trans s6, by rw [upd_same, List.map_append], ?_⟩
        rw [List.take_succ, hpost, List.flatMap_append, hl]
        show _ = _ ++ List.flatMap _ [post]
        rw [List.flatMap_singleton]
      · rintro σ H3 ⟨x3, fl, l, rfl, s3, hfl, hl⟩
        rw [List.length_map, List.take_length] at hl
        have hll : l.length ≤ 180 := by
          rw [hl]
          have := heldF_len ok.unk posts
          omega
        dsimp only [tNext, tSeq]
        refine ⟨_, rfl, _, rfl, a, _, rfl, (hP.same s3).gu, tu, S.unk, rfl, .of (s3 _ _ htu), by show 1 ≤ sizeLine; decide, fun l1 nl1 => ?_⟩
        rw [hwd]
        have s4 := same_new (o := .lst [V.int (wd : Int)]) nl1
        refine ⟨fl, l1, _, _, rfl, rfl, s4 _ _ hfl, upd_same, Nat.le_trans (by rw [List.length_map]; show _ + 1 ≤ 1000; omega : _ ≤ 1000) (by decide), fun r2 nr2 => ?_⟩
        have s5 := same_new (o := .lst (l.map V.int ++ [V.int (wd : Int)])) nr2
        refine q _ r2 ((s3.trans s4).trans s5) ((s3.trans s4).free nr2) ?_
        rw [upd_same, ← hl, List.map_append]
        rfl
def spLSpread : Sp := fun vs H Q _ => ∃ (a b : Addr) (v : V) (tv uv rv : V) (S : RD) (n wd : Nat) (posts step : List Int), vs = [.ref a, .ref b, v] ∧ PDat H a S tv uv rv ∧ RulesOk S n ∧ S.unk.sum = (wd : Int) ∧ H b = some (.tup (posts.map V.int)) ∧ posts.length ≤ 3 ∧ (∀ x ∈ posts, x ∈ rng n) ∧ rRow H v step ∧ step.length = (posts.flatMap (heldL S.unk) ++ [(wd : Int)]).length ∧ (posts.flatMap (heldL S.unk) ++ [(wd : Int)]).Nodup ∧
  ∀ H' r, Same H H' → H r = none → H' r = some (.lst ((sprL (wd + 1) (posts.flatMap (heldL S.unk) ++ [(wd : Int)]) step).map V.int)) → Q (.ref r) H'
theorem ok_lspread (T : Tx K mg cT cS) {f : Addr} {fd : FuncData} (d : D K mg "_law_spread" s_law_spread ["parts", "posts", "step"] f fd) : FnOk P w K mg base CX0 3 f fd ["parts", "posts", "step"] spLSpread := by
  obtain ⟨f1, fd1, d1⟩ := T.d_law_kept
  have G1 := ok_lkept (P := P) (w := w) (base := base) T d1
  refine d.F.ok sc_law_spread (fun vs H Q E h => ?_) (fun cdv A outer s H vs Q E hr h => ?_)
  · obtain ⟨a, b, v, tv, uv, rv, S, n, wd, posts, step, rfl, _⟩ := h
    rfl
  · obtain ⟨a, b, v, tv, uv, rv, S, n, wd, posts, step, rfl, hP, ok, hwd, hb, hl3, hin, hst, hsl, hnd, q⟩ := h
    refine ⟨_, pss_cons (ps_set (i := 3) sc_law_spread.nd rfl (.inl rfl) (pe_op op_rep (pe_lst (pa_cons pe_int pa_nil)) (pe_op op_add (pe_callB (cr_sumT rfl) (by rfl) T.b_sum (by decide +kernel) (pa_cons (pe_dget (hu1 hr) (pv 0) pe_str (fun _ _ => rfl)) pa_nil)) pe_int)))
      (pss_cons (ps_for PassesOwn.never rfl (pi_zipM (by rfl) T.b_zip (pa_cons (pe_call G1 (hr.mono (by decide)) rfl d1.m d1.F.kp d1.b .nil pass0 (pa_cons (pv 0) (pa_cons (pv 1) pa_nil))) (pa_cons (pv 2) pa_nil))) (pg_tup rfl (pgs_cons (pg_name (i := 4) sc_law_spread.nd rfl (.inl rfl)) (pgs_cons (pg_name (i := 5) sc_law_spread.nd rfl (.inl rfl)) pgs_nil)))
        (pss_one (ps_asg (pv 5) (pg_sub (pv 3) (pv 4) set_list))))
      (pss_one (ps_ret (pv 3)))), ?_⟩
    have hs60 := ok.unk.s
    obtain ⟨tu, eu, htu⟩ := id hP.u
    subst eu
    obtain ⟨tst, rfl, htst⟩ := id hst
    generalize hkp : posts.flatMap (heldL S.unk) ++ [(wd : Int)] = kept at *
    have hkin : ∀ x ∈ kept, 0 ≤ x ∧ x < ((wd + 1 : Nat) : Int) := fun x hx => by
      rw [← hkp] at hx
      rcases List.mem_append.mp hx with h | h
      · obtain ⟨o, ho, h⟩ := List.mem_flatMap.mp h
        have := held_lt ok.unk h
        omega
      · rw [List.mem_singleton.mp h]; omega
    refine ⟨by show 1 ≤ sizeLine; decide, fun l0 nl0 => ?_⟩
    have s1 := same_new (o := .lst [V.int 0]) nl0
    refine ⟨_, rfl, a, _, rfl, (hP.same s1).gu, tu, S.unk, rfl, .of (s1 _ _ htu), ?_⟩
    rw [hwd]
    refine ⟨_, _, rfl, rfl, l0, _, _, rfl, rfl, upd_same, by omega, by omega, Nat.le_trans (by show 1 * _ ≤ _; omega : _ ≤ 100) (by decide), fun rw0 nrw => ?_⟩
    have ewd : ((wd : Int) + 1).toNat = wd + 1 := by omega
    rw [ewd, rep_zero]
    have s2 := same_new (o := .lst ((List.replicate (wd + 1) (0 : Int)).map V.int)) nrw
    have s12 := s1.trans s2
    have nrw0 := s1.free nrw
    have hrw2 := upd_same (H := upd H l0 (.lst [V.int 0])) (a := rw0) (o := .lst ((List.replicate (wd + 1) (0 : Int)).map V.int))
    generalize upd (upd H l0 (.lst [V.int 0])) rw0 (.lst ((List.replicate (wd + 1) (0 : Int)).map V.int)) = H2 at *
    dsimp only [gName, tSeq]
    refine ⟨_, rfl, _, rfl, a, b, tv, .ref tu, rv, S, n, wd, posts, rfl, hP.same s12, ok, hwd, .inr (s12 _ _ hb), hl3, hin, fun H3 k s3 nk hk3 => ?_⟩
    rw [hkp] at hk3
    have t3 := s12.trans s3
    refine ⟨_, rfl, k, tst, _, _, true, false, rfl, .of hk3, .of (t3 _ _ htst), ?_⟩
    have krw : k ≠ rw0 := fun e => by rw [e, hrw2] at nk; cases nk
    refine for_it (walk_zipM (b1 := true) (b2 := false) (n := kept.length) (by rw [List.length_map, List.length_map, hsl, Nat.min_self])) (fun j σ H' => ∃ x4 x5, σ = [some (.ref a), some (.ref b), some (.ref tst), some (.ref rw0), x4, x5] ∧ Same H H' ∧ H' rw0 = some (.lst ((sprPre (wd + 1) kept step j).map V.int)) ∧ H' k = some (.lst (kept.map V.int)))
      ⟨none, none, rfl, t3, by rw [sprPre_zero]; exact s3 _ _ hrw2, hk3⟩ (fun j σ H' _ h => let ⟨_, _, _, h1, _, h2⟩ := h; ⟨.of h2, .of (h1 _ _ htst)⟩) ?_ ?_
    · rintro j x σ H4 H5 hj ⟨x4, x5, rfl, s4, hrw4, hk4⟩ ⟨tz, u1, u2, rfl, nz, rfl, e1, e2⟩
      obtain ⟨y, hy, rfl⟩ := at_int e1
      obtain ⟨v, hv, rfl⟩ := at_int e2
      obtain ⟨y0, y1⟩ := hkin y (List.mem_of_getElem? hy)
      obtain ⟨m, rfl⟩ : ∃ m : Nat, y = (m : Int) := ⟨y.toNat, by omega⟩
      have s5 := same_new (o := .tup [V.int (m : Int), V.int v]) nz
      have hpl : (sprPre (wd + 1) kept step j).length = wd + 1 := by unfold sprPre; rw [List.length_map, List.length_range]
      refine ⟨tz, _, rfl, .of upd_same, rfl, _, _, rfl, _, _, rfl, rfl, ?_⟩
      refine ⟨_, rfl, _, rfl, _, rfl, rw0, _, _, m, rfl, rfl, s5 _ _ hrw4, ixN_nat (by rw [List.length_map, hpl]; omega), ?_⟩
      refine ⟨_, _, rfl, same_own (s4.trans s5) nrw0, ?_, by rw [upd_ne krw]; exact s5 _ _ hk4⟩
      rw [upd_same, ← sprPre_step hnd hy hv, List.map_set]
    · rintro σ H4 ⟨x4, x5, rfl, s4, hrw4, hk4⟩
      rw [sprPre_all] at hrw4
      exact ⟨_, rfl, q _ rw0 s4 nrw0 hrw4⟩
def spLValues : Sp := fun vs H Q _ => ∃ (a : Addr) (tv uv rv : V) (S : RD) (n wd : Nat) (post : Int), vs = [.ref a, .int post] ∧ PDat H a S tv uv rv ∧ RulesOk S n ∧ S.unk.sum = (wd : Int) ∧ post ∈ rng n ∧ ∀ H' v, Same H H' → rOpt (rTup rOI) H' v (sureU S wd post) → Q v H'
theorem ok_lvalues (T : Tx K mg cT cS) {f : Addr} {fd : FuncData} (d : D K mg "_law_values" s_law_values ["parts", "post"] f fd) : FnOk P w K mg base CX0 5 f fd ["parts", "post"] spLValues := by
  obtain ⟨f1, fd1, d1⟩ := T.d_law_every
  have G1 := ok_levery (P := P) (w := w) (base := base) T d1
  obtain ⟨f2, fd2, d2⟩ := T.d_law_least
  have G2 := ok_lleast (P := P) (w := w) (base := base) T d2
  obtain ⟨f3, fd3, d3⟩ := T.d_law_loose
  have G3 := ok_lloose (P := P) (w := w) (base := base) T d3
  obtain ⟨f4, fd4, d4⟩ := T.d_law_places
  have G4 := ok_lpl (P := P) (w := w) (base := base) T d4
  refine d.F.ok sc_law_values (fun vs H Q E h => ?_) (fun cdv A outer s H vs Q E hr h => ?_)
  · obtain ⟨a, tv, uv, rv, S, n, wd, post, rfl, _⟩ := h
    rfl
  · obtain ⟨a, tv, uv, rv, S, n, wd, post, rfl, hP, ok, hwd, hp, q⟩ := h
    refine ⟨_, pss_cons (ps_par3 (i := 2) (j := 3) (l := 4) (by rfl) sc_law_values.nd rfl rfl rfl (by decide) (by decide) (by decide) rfl rfl rfl (pa_cons (pe_dget (hu1 hr) (pv 0) pe_str (fun _ _ => rfl)) (pa_cons (pe_call G1 (hr.mono (by decide)) rfl d1.m d1.F.kp d1.b .nil pass0 (pa_cons (pv 0) pa_nil)) (pa_cons (pe_callB (cr_sumT rfl) (by rfl) T.b_sum (by decide +kernel) (pa_cons (pe_dget (hu1 hr) (pv 0) pe_str (fun _ _ => rfl)) pa_nil)) pa_nil))) (by rfl))
      (pss_cons (ps_setLc (i := 5) (own := [("other", 10), ("row", 11), ("right", 12)]) (g := (gTup K 3 (gCons (gName 10) (gCons (gName 11) (gCons (gName 12) gNil))))) (tt := tYes) rfl sc_law_values.nd rfl rfl (sw_true rfl rfl rfl (by decide +kernel)) (pi_list (pv 3)) (blkOk_by (N := N_law_values) (sc := defScope s_law_values) (by decide +kernel)) (fun _ _ _ _ _ => (pgT rfl rfl (pgs_cons (pg_name (i := 10) sc_law_values.nd rfl (Or.inl rfl)) (pgs_cons (pg_name (i := 11) sc_law_values.nd rfl (Or.inl rfl)) (pgs_cons (pg_name (i := 12) sc_law_values.nd rfl (Or.inl rfl)) pgs_nil))))) (fun _ _ _ _ _ => pts_nil)
            (fun _ _ _ _ _ => (pv 11)))
      (pss_cons (ps_set (i := 6) sc_law_values.nd rfl (.inl rfl) (pe_call G2 (hr.mono (by decide)) rfl d2.m d2.F.kp d2.b .nil pass0 (pa_cons (pv 2) (pa_cons (pv 5) (pa_cons (pe_lc (own := [("other", 10), ("row", 11), ("right", 12)]) (g := (gTup K 3 (gCons (gName 10) (gCons (gName 11) (gCons (gName 12) gNil))))) (tt := tYes) rfl sc_law_values.nd (pi_list (pv 3)) (blkOk_by (N := N_law_values) (sc := defScope s_law_values) (by decide +kernel)) (fun _ _ _ _ _ => (pgT rfl rfl (pgs_cons (pg_name (i := 10) sc_law_values.nd rfl (Or.inl rfl)) (pgs_cons (pg_name (i := 11) sc_law_values.nd rfl (Or.inl rfl)) (pgs_cons (pg_name (i := 12) sc_law_values.nd rfl (Or.inl rfl)) pgs_nil))))) (fun _ _ _ _ _ => pts_nil)
            (fun _ _ _ _ _ => (pv 12))) (pa_cons (pv 4) pa_nil))))))
      (pss_cons (ps_if (pt_cmp (pc_isN (pv 6))) (pss_one (ps_ret pe_non)) pss_nil)
      (pss_cons (ps_set (i := 7) sc_law_values.nd rfl (.inl rfl) (pe_call G3 (hr.mono (by decide)) rfl d3.m d3.F.kp d3.b .nil pass0 (pa_cons (pv 2) (pa_cons (pv 5) (pa_cons (pv 4) pa_nil)))))
      (pss_cons (ps_set (i := 8) sc_law_values.nd rfl (.inl rfl) (pe_lst pa_nil))
      (pss_cons (ps_for PassesOwn.never rfl (pi_list (pe_call G4 (hr.mono (by decide)) rfl d4.m d4.F.kp d4.b .nil pass0 (pa_cons (pe_dget (hu1 hr) (pv 0) pe_str (fun _ _ => rfl)) (pa_cons (pv 1) pa_nil)))) (pg_name (i := 9) sc_law_values.nd rfl (.inr rfl))
        (pss_one (ps_expr (pe_bm PySem.F.plainAttrs_list PySem.F.slot_list_append PySem.F.type_list_append mt_append (pv 8) (pa_cons (pe_ifExp (pt_val (pe_callB (cr_anyLI rfl) (by rfl) T.b_any (by decide +kernel) (pa_cons (pe_lc (own := [("row", 11)]) (g := (gName 11)) (tt := tYes) rfl sc_law_values.nd (pi_tup (pv 7)) (blkOk_by (N := N_law_values) (sc := defScope s_law_values) (by decide +kernel)) (fun _ _ _ _ _ => (pg_name (i := 11) sc_law_values.nd rfl (Or.inl rfl))) (fun _ _ _ _ _ => pts_nil)
            (fun _ _ _ _ _ => (pe_ix (ixT (K := K) rfl) (pv 11) (pv 9) (fun _ _ => rfl)))) pa_nil))) pe_non (pe_ix ix_tup (pv 6) (pv 9) (fun _ _ => rfl))) pa_nil)))))
      (pss_one (ps_ret (pe_callTy call_tuple_of (by rfl) T.b_tuple (by decide +kernel) (pa_cons (pv 8) pa_nil)))))))))), ?_⟩
    have hs60 := ok.unk.s
    have prm := ok.clock.prm
    have pm := ok.clock.2.1
    obtain ⟨tu, eu, htu⟩ := id hP.u
    subst eu
    obtain ⟨p0, p1⟩ := rng_mem.mp hp
    have h24 : S.rules.length ≤ 24 := by have := ok.len; have := ok.tree.ok.n24; omega
    refine ⟨_, rfl, a, _, rfl, hP.gp, _, rfl, a, tv, .ref tu, rv, S, rfl, hP, h24, ok.l8, fun H1 ra ev s1 hra hev => ?_⟩
    have hP1 := hP.same s1
    refine ⟨_, rfl, a, _, rfl, hP1.gu, tu, S.unk, rfl, .of (s1 _ _ htu), ?_⟩
    rw [hwd]
    refine ⟨_, _, _, rfl, ?_⟩
    have hpl : ∀ r ∈ prsL S.rules, isRow r.1 S.p (wd : Int) ∧ 0 ≤ r.2 ∧ r.2 < S.p := fun r hr => by
      unfold prsL at hr
      obtain ⟨e, he, rfl⟩ := List.mem_map.mp hr
      obtain ⟨own, ho, hro⟩ := mem_every he
      have h := ok.ok _ _ ho _ hro
      have h1 := h.row
      rw [hwd] at h1
      exact ⟨h1, h.b0, h.b1⟩
    have hle := paired_len hev
    have hl8 : (prsL S.rules).length ≤ 60 := by
      rw [prs_flat, List.length_flatten]
      exact ok.l60
    have hln : (everyL S.rules).length = (prsL S.rules).length := by unfold prsL; rw [List.length_map]
    dsimp only [tSeq]
    refine ⟨_, rfl, ra, rfl, ⟨_, .of hra⟩, fun D hD => ?_⟩
    refine lc_fm (walk_list (xs := ev)) rRow (fun i => (everyL S.rules)[i]?.bind fun e => some e.2.1) hD (fun H' s' => .of (s' _ _ hra)) ?_ ?_
    · rintro i x H2 H3 hi pv ⟨rfl, hx⟩
      obtain ⟨e, he, te, xr, rfl, hte, hxr⟩ := paired_get (paired_mono mono_ev pv.1.keep hev) hx
      refine ⟨te, _, rfl, .of hte, rfl, _, _, rfl, _, _, rfl, _, _, rfl, rfl, rfl, _, rfl, ?_⟩
      exact fm_keep mono_row pv hD (by omega) (Same.refl _) (by rw [he]; rfl) hxr
    intro H2 ys s2 hD2 hp2
    rw [hle, fm_some] at hp2
    have e1 : (everyL S.rules).map (fun e => e.2.1) = (prsL S.rules).map (·.1) := by unfold prsL; rw [List.map_map]; rfl
    rw [e1] at hp2
    have t2 := s1.trans s2
    have hra2 := s2 _ _ hra
    have hev2 := paired_mono mono_ev s2.keep hev
    dsimp only [gName, tSeq]
    refine ⟨_, rfl, _, rfl, _, rfl, ra, rfl, ⟨_, .of hra2⟩, fun D2 hDD => ?_⟩
    refine lc_fm (walk_list (xs := ev)) rInt (fun i => (everyL S.rules)[i]?.bind fun e => some e.2.2) hDD (fun H' s' => .of (s' _ _ hra2)) ?_ ?_
    · rintro i x H3 H4 hi pv ⟨rfl, hx⟩
      obtain ⟨e, he, te, xr, rfl, hte, hxr⟩ := paired_get (paired_mono mono_ev pv.1.keep hev2) hx
      refine ⟨te, _, rfl, .of hte, rfl, _, _, rfl, _, _, rfl, _, _, rfl, rfl, rfl, _, rfl, ?_⟩
      exact fm_keep mono_int pv hDD (by omega) (Same.refl _) (by rw [he]; rfl) rfl
    intro H3 zs s3 hD3 hp3
    rw [hle, fm_some] at hp3
    have e2 : (everyL S.rules).map (fun e => e.2.2) = (prsL S.rules).map (·.2) := by unfold prsL; rw [List.map_map]; rfl
    rw [e2] at hp3
    have := paired_int hp3
    subst this
    have t3 := t2.trans s3
    have hDr3 := s3 _ _ hD2
    have hp23 := paired_mono mono_row s3.keep hp2
    refine ⟨_, rfl, D, D2, S.p, wd, ys, prsL S.rules, rfl, hDr3, hp23, hD3, by omega, prm, pm, by omega, hpl, fun H4 v4 s4 hv4 => ?_⟩
    rw [aug_rows, fst_rows] at hv4
    have t4 := t3.trans s4
    have hv4 : rOpt rRow H4 v4 (solU S wd) := hv4
    cases hso : solU S wd with
    | none =>
      rw [hso] at hv4
      have hv4 : v4 = .non := hv4
      subst hv4
      dsimp only [gName, tSeq]
      refine ⟨_, rfl, _, rfl, ?_⟩
      rw [decide_eq_true rfl]
      exact iteT (q _ _ t4 (by unfold sureU; rw [hso]; rfl))
    | some l =>
      rw [hso] at hv4
      obtain ⟨tf, rfl, htf⟩ := id (show rRow H4 v4 l from hv4)
      have hl := isRow_len2 (sol_is ok hwd hso)
      dsimp only [gName, tSeq]
      refine ⟨_, rfl, _, rfl, ?_⟩
      rw [decide_eq_false (by simp)]
      refine iteF ?_
      dsimp only [tNext, tSeq]
      have hDr4 := s4 _ _ hDr3
      have hp24 := paired_mono mono_row s4.keep hp23
      refine ⟨_, rfl, _, rfl, _, rfl, D, S.p, wd, ys, (prsL S.rules).map (·.1), rfl, hDr4, Paired.mapP hp24 fun _ _ ⟨b, e, h⟩ => ⟨b, e, .inr h⟩, by rw [List.length_map]; omega, prm, pm, by omega, fun r hr => ?_, fun H5 v5 s5 hv5 => ?_⟩
      · obtain ⟨x, hx, rfl⟩ := List.mem_map.mp hr
        exact (hpl x hx).1
      rw [fst_rows] at hv5
      have t5 := t4.trans s5
      have htf5 := s5 _ _ htf
      obtain ⟨tw, xs2, rfl, htw, hxs2⟩ := id hv5
      obtain ⟨ll, lr⟩ := loose_row (wd := wd) ok
      have lx2 := paired_len hxs2
      generalize hrw : looseU S.p wd (rows0 S) = rows at *
      dsimp only [gName, tSeq]
      refine ⟨by show 0 ≤ sizeLine; decide, fun fo nfo => ?_⟩
      have s6 := same_new (o := .lst []) nfo
      have hfo6 := upd_same (H := H5) (a := fo) (o := .lst [])
      have nfo5 : H5 fo = none := nfo
      generalize upd H5 fo (.lst []) = H6 at *
      have t6 := t5.trans s6
      dsimp only [gName, tSeq]
      refine ⟨_, rfl, a, _, rfl, (hP.same t6).gu, _, rfl, .ref tu, S.unk, post, n, rfl, ⟨tu, rfl, t6 _ _ htu⟩, ok.unk, ok.tree.ok.n24, p0, p1, fun H7 r s7 nr hr7 => ⟨r, rfl, ⟨_, .of hr7⟩, ?_⟩⟩
      have rfo : r ≠ fo := fun e => by rw [e, hfo6] at nr; cases nr
      have h60 := heldL_len ok.unk post
      have hplc : ∀ x ∈ heldL S.unk post, 0 ≤ x ∧ x < (wd : Int) := fun x hx => by rw [← hwd]; exact held_lt ok.unk hx
      refine for_it (walk_list (xs := (heldL S.unk post).map V.int)) (fun i σ H' => ∃ x9 zs, σ = [some (.ref a), some (.int post), some (.int S.p), some (.ref ra), some (.int (wd : Int)), some (.ref D), some (.ref tf), some (.ref tw), some (.ref fo), x9, none, none, none] ∧ Same H5 H' ∧ H' fo = some (.lst zs) ∧ Paired (rOI H') zs (sureL rows l ((heldL S.unk post).take i)) ∧ H' r = some (.lst ((heldL S.unk post).map V.int)))
        ⟨none, [], rfl, s6.trans s7, s7 _ _ hfo6, by rw [List.take_zero]; exact .nil, hr7⟩ (fun i σ H' _ h => .of (let ⟨_, _, _, _, _, _, h⟩ := h; h)) ?_ ?_
      · rintro i x σ H8 H9 hi ⟨x9, zs, rfl, s8, hfo8, hpz, hr8⟩ ⟨rfl, hx⟩
        obtain ⟨y, hy, rfl⟩ := at_int hx
        rw [List.length_map] at hi
        obtain ⟨y0, y1⟩ := hplc y (List.mem_of_getElem? hy)
        obtain ⟨k, rfl⟩ : ∃ k : Nat, y = (k : Int) := ⟨y.toNat, by omega⟩
        have hzl : zs.length ≤ 60 := by
          rw [paired_len hpz]
          unfold sureL
          rw [List.length_map, List.length_take]
          omega
        have htw8 := s8 _ _ htw
        refine ⟨_, rfl, .inl ⟨rfl, _, .of hfo8⟩, _, rfl, tw, rfl, ⟨_, .of htw8⟩, fun D3 hD3' => ?_⟩
        refine lc_fm (walk_tup (xs := xs2)) rInt (fun j => rows[j]?.bind fun r => some (r.getD k 0)) hD3' (fun H' s' => .of (s' _ _ htw8)) ?_ ?_
        · rintro j x H10 H11 hj pw ⟨rfl, hx⟩
          obtain ⟨rw', hr', tr', rfl, htr⟩ := paired_get (paired_mono mono_row (s8.trans pw.1).keep hxs2) hx
          have hrl := isRow_len2 (lr rw' (List.mem_of_getElem? hr'))
          have hrk : rw'[k]? = some (rw'[k]'(by omega)) := List.getElem?_eq_getElem (by omega)
          refine ⟨rfl, _, rfl, _, rfl, tr', _, _, _, rfl, rfl, .of htr, atI_nat (int_at hrk), ?_⟩
          exact fm_keep mono_int pw hD3' (by omega) (Same.refl _) (by rw [hr']; show some (rw'.getD k 0) = _; rw [getD_at hrk]) rfl
        · intro H10 ws s10 hD10 hp10
          rw [lx2, fm_some] at hp10
          have := paired_int hp10
          subst this
          refine ⟨D3, _, rfl, .of hD10, _, rfl, ?_⟩
          have ea : ((rows.map fun r => r.getD k 0).any fun n => n != 0) = rows.any fun r => r.getD k 0 != 0 := by rw [List.any_map]; rfl
          rw [ea]
          have hlk : l[k]? = some (l[k]'(by omega)) := List.getElem?_eq_getElem (by omega)
          have hfo10 := s10 _ _ hfo8
          have hr10 := s10 _ _ hr8
          have esu : sureL rows l ((heldL S.unk post).take (i + 1)) = sureL rows l ((heldL S.unk post).take i) ++ [if (rows.any fun r => r.getD k 0 != 0) = true then none else some (l.getD k 0)] := by
            unfold sureL
            rw [List.take_succ, hy, List.map_append]
            rfl
          have kA : ∀ {o : HO}, Keep H10 (upd H10 fo o) := fun {o} => keep_lst hfo10
          cases hb : rows.any fun r => r.getD k 0 != 0 with
          | true =>
            refine iteT ⟨fo, _, _, rfl, rfl, hfo10, Nat.lt_of_le_of_lt hzl (by decide), ?_⟩
            refine ⟨_, zs ++ [.non], rfl, same_own (s8.trans s10) nfo5, upd_same, ?_, by rw [upd_ne rfo]; exact hr10⟩
            rw [esu, hb]
            exact paired_app (paired_mono mono_oi (s10.keep.trans kA) hpz) (.cons (show rOI _ _ none from rfl) .nil)
          | false =>
            refine iteF ⟨_, rfl, _, rfl, tf, _, _, _, rfl, rfl, .of ((s8.trans s10) _ _ htf5), atI_nat (int_at hlk), fo, _, _, rfl, rfl, hfo10, Nat.lt_of_le_of_lt hzl (by decide), ?_⟩
            refine ⟨_, zs ++ [.int (l[k]'(by omega))], rfl, same_own (s8.trans s10) nfo5, upd_same, ?_, by rw [upd_ne rfo]; exact hr10⟩
            rw [esu, hb, getD_at hlk]
            exact paired_app (paired_mono mono_oi (s10.keep.trans kA) hpz) (.cons (show rOI _ _ (some _) from rfl) .nil)
      · rintro σ H8 ⟨x9, zs, rfl, s8, hfo8, hpz, hr8⟩
        rw [List.length_map, List.take_length] at hpz
        refine ⟨_, rfl, fo, _, rfl, .inl ⟨.of hfo8, fun tq ntq => ?_⟩⟩
        have s9 := same_new (o := .tup zs) ntq
        refine q _ _ ((t5.trans s8).trans s9) ?_
        unfold sureU
        rw [hso, hrw]
        exact ⟨tq, zs, rfl, upd_same, paired_mono mono_oi s9.keep hpz⟩
end
end S4

namespace S4
open PySem L2 TT MM
/-! ### the fact, for a post and for a way -/
noncomputable def spT (S : RD) (n wd : Nat) (post o : Int) : List (List Int) := (tidU S n (o, post)).map (sprL (wd + 1) (keptU S.unk (o, post) ++ [(wd : Int)]))
section
variable {S : RD} {n wd : Nat} {post : Int} {ns : List Int}
theorem kept_in (ok : RulesOk S n) (hwd : S.unk.sum = (wd : Int)) (posts : List Int) : ∀ x ∈ posts.flatMap (heldL S.unk) ++ [(wd : Int)], 0 ≤ x ∧ x < ((wd + 1 : Nat) : Int) := fun x hx => by
  rcases List.mem_append.mp hx with h | h
  · obtain ⟨o, ho, h⟩ := List.mem_flatMap.mp h
    have := held_lt ok.unk h
    omega
  · rw [List.mem_singleton.mp h]; omega
theorem nb_rng (ok : RulesOk S n) (hp : post ∈ rng n) : ∀ o ∈ nb S.ties post, o ∈ rng n := fun o ho => ok.tree.ok.shut.cl _ hp _ ho
theorem nb_ne (ok : RulesOk S n) : ∀ o ∈ nb S.ties post, o ≠ post := fun o ho e => by
  subst e
  rcases nb_mem.mp ho with h | h <;> · have := ok.tree.ok.b0 _ h; simp only at this; omega
theorem nb_way (ok : RulesOk S n) (hp : post ∈ rng n) {o : Int} (ho : o ∈ nb S.ties post) : WayR S n (o, post) := by
  obtain ⟨a0, a1⟩ := rng_mem.mp (nb_rng ok hp o ho)
  obtain ⟨b0, b1⟩ := rng_mem.mp hp
  refine ⟨a0, b0, a1, b1, ?_⟩
  rcases nb_mem.mp ho with h | h
  · exact .inr h
  · exact .inl h
theorem nb_way2 (ok : RulesOk S n) (hp : post ∈ rng n) {o : Int} (ho : o ∈ nb S.ties post) : WayR S n (post, o) := by
  obtain ⟨a0, a1⟩ := rng_mem.mp (nb_rng ok hp o ho)
  obtain ⟨b0, b1⟩ := rng_mem.mp hp
  refine ⟨b0, a0, b1, a1, ?_⟩
  rcases nb_mem.mp ho with h | h
  · exact .inl h
  · exact .inr h
theorem fact_none (ok : RulesOk S n) (hwd : S.unk.sum = (wd : Int)) (hp : post ∈ rng n) (hperm : ns.Perm (nb S.ties post)) :
    restU S.p (wd + 1) ([post].flatMap (heldL S.unk) ++ [(wd : Int)]) (rowsT S [post] ++ ns.flatMap (spT S n wd post)) = atU S n wd post := by
  obtain ⟨p0, p1⟩ := rng_mem.mp hp
  have e : [post].flatMap (heldL S.unk) = heldL S.unk post := List.flatMap_singleton ..
  unfold atU
  rw [← e]
  refine (fact ok hwd hp (L := ns) (ps := rng n) (hperm.nodup_iff.mpr (nb_nodup ok.tree.ok post)) (fun o ho => hperm.mem_iff.mp ho) (fun q hq => hq) (fun q hq => ?_) hp (fun o _ q hq => side_rng hq) (kept_in ok hwd _) (fun i hi => ?_)).symm
  · obtain ⟨q0, q1⟩ := rng_mem.mp hq
    have hr : Rch S.ties none post q := Rch.trans (Rch.symm (ok.tree.ok.all post p0 p1)) (ok.tree.ok.all q q0 q1)
    rcases all_split hr with h | ⟨o, h1, h2⟩
    · exact .inl h
    · exact .inr ⟨o, hperm.mem_iff.mpr h1, side_mem.mpr ⟨hq, h2⟩⟩
  · rcases List.mem_append.mp hi with h | h
    · rw [e] at h; exact .inr (.inl h)
    · exact .inl (List.mem_singleton.mp h)
theorem fact_way (ok : RulesOk S n) (hwd : S.unk.sum = (wd : Int)) (hp : post ∈ rng n) (hperm : ns.Perm (nb S.ties post)) {t : Int} (ht : t ∈ ns) :
    restU S.p (wd + 1) ([post, t].flatMap (heldL S.unk) ++ [(wd : Int)]) (rowsT S [post] ++ (ns.filter fun o => !decide (V.int o = V.int t)).flatMap (spT S n wd post)) = tidU S n (post, t) := by
  have htn := hperm.mem_iff.mp ht
  have W := nb_way2 ok hp htn
  have hrt : Rooted S.ties post := by obtain ⟨a, b⟩ := rng_mem.mp hp; exact ok.tree.rt _ a b
  have e : [post, t].flatMap (heldL S.unk) = keptU S.unk (post, t) := by unfold keptU; simp
  have hmem : ∀ o, o ∈ (ns.filter fun o => !decide (V.int o = V.int t)) ↔ o ∈ ns ∧ o ≠ t := fun o => by
    rw [List.mem_filter]
    simp
  rw [← rest_tid ok W rfl hwd, ← e]
  refine (fact ok hwd hp (L := ns.filter fun o => !decide (V.int o = V.int t)) (ps := sideOf S.ties n (post, t)) (List.Nodup.sublist List.filter_sublist (hperm.nodup_iff.mpr (nb_nodup ok.tree.ok post))) (fun o ho => hperm.mem_iff.mp ((hmem o).mp ho).1) (fun q hq => side_rng hq) (fun q hq => ?_) (side_mem.mpr ⟨hp, .refl⟩) (fun o ho q hq => ?_) (kept_in ok hwd _) (fun i hi => ?_)).symm
  · rcases side_split (side_mem.mp hq).2 with h | ⟨o, h1, h2, h3⟩
    · exact .inl h
    · exact .inr ⟨o, (hmem o).mpr ⟨hperm.mem_iff.mpr h1, h2⟩, side_mem.mpr ⟨side_rng hq, h3⟩⟩
  · obtain ⟨h1, h2⟩ := (hmem o).mp ho
    exact side_mem.mpr ⟨side_rng hq, side_in hrt (hperm.mem_iff.mp h1) htn h2 (side_mem.mp hq).2⟩
  · rcases List.mem_append.mp hi with h | h
    · obtain ⟨o, ho, h'⟩ := List.mem_flatMap.mp h
      simp only [List.mem_cons, List.not_mem_nil, or_false] at ho
      rcases ho with ho | ho
      · rw [ho] at h'
        exact .inr (.inl h')
      · rw [ho] at h'
        exact .inr (.inr ⟨t, htn, fun q => ((hmem t).mp q).2 rfl, h'⟩)
    · exact .inl (List.mem_singleton.mp h)
theorem held_len8 (ok : RulesOk S n) (q : Int) : (heldL S.unk q).length ≤ 8 := by
  unfold heldL
  rw [List.length_map, List.length_range]
  by_cases h : q.toNat < S.unk.length
  · rw [getD_at (List.getElem?_eq_getElem h)]
    have := ok.unk.b _ (List.getElem_mem h)
    omega
  · rw [List.getD_eq_getElem?_getD, List.getElem?_eq_none (by omega)]
    simp
theorem tid_rows (ok : RulesOk S n) (hwd : S.unk.sum = (wd : Int)) {z : Int × Int} (W : WayR S n z) : (tidU S n z).length ≤ 17 ∧ ∀ s ∈ tidU S n z, isRow s S.p ((keptU S.unk z ++ [(wd : Int)]).length : Nat) := by
  rw [← rest_tid ok W rfl hwd]
  have h := (rest_isLad (wd := wd + 1) (kept := keptU S.unk z ++ [(wd : Int)]) (rows := rowsT S (sideOf S.ties n z)) ok.clock.prm (fun x hx => by
    rcases List.mem_append.mp hx with h | h
    · rcases List.mem_append.mp h with h | h <;> · have := held_lt ok.unk h; omega
    · rw [List.mem_singleton.mp h]; omega) (rowsT_isRow ok hwd fun x hx => side_rng hx)).rows
  refine ⟨Nat.le_trans h.1 ?_, h.2⟩
  unfold keptU
  rw [List.length_append, List.length_append, List.length_singleton]
  have h1 := held_len8 ok z.1
  have h2 := held_len8 ok z.2
  omega
theorem kept_nd (ok : RulesOk S n) (hwd : S.unk.sum = (wd : Int)) {z : Int × Int} (W : WayR S n z) (hne : z.1 ≠ z.2) : (keptU S.unk z ++ [(wd : Int)]).Nodup := by
  rw [List.nodup_append]
  refine ⟨kept_nodup ok.unk W.a0 W.b0 hne, by simp, fun a ha b hb e => ?_⟩
  rw [List.mem_singleton.mp hb] at e
  subst e
  rcases List.mem_append.mp ha with h | h <;> · have := held_lt ok.unk h; omega
theorem way_mem {z : Int × Int} (W : WayR S n z) : z ∈ S.ties ++ flipAll S.ties := by
  rcases W.m with h | h
  · exact List.mem_append_left _ h
  · exact List.mem_append_right _ (List.mem_map.mpr ⟨z.swap, h, by simp⟩)
theorem spr_row {step kept : List Int} {p : Int} (p2 : 2 ≤ p) (h : ∀ x ∈ step, 0 ≤ x ∧ x < p) : isRow (sprL (wd + 1) kept step) p ((wd + 1 : Nat) : Int) := by
  refine ⟨by unfold sprL; rw [List.length_map, List.length_range], fun x hx => ?_⟩
  unfold sprL at hx
  obtain ⟨i, _, rfl⟩ := List.mem_map.mp hx
  split
  · exact getD_in (by omega) h _
  · omega
theorem ns_len (ok : RulesOk S n) (hp : post ∈ rng n) (hperm : ns.Perm (nb S.ties post)) : ns.length ≤ 23 := by
  have hnd : (post :: ns).Nodup := List.nodup_cons.mpr ⟨fun h => nb_ne ok post (hperm.mem_iff.mp h) rfl, hperm.nodup_iff.mpr (nb_nodup ok.tree.ok post)⟩
  have := nodup_len hnd (V := rng n) fun v hv => by
    rcases List.mem_cons.mp hv with h | h
    · rw [h]; exact hp
    · exact nb_rng ok hp v (hperm.mem_iff.mp h)
  rw [List.length_cons, rng_len] at this
  have := ok.tree.ok.n24
  omega
theorem post_rows (ok : RulesOk S n) (hp : post ∈ rng n) : (rowsT S [post]).length ≤ 8 := by
  obtain ⟨p0, p1⟩ := rng_mem.mp hp
  have hl := ok.len
  unfold rowsT
  rw [List.flatMap_singleton, List.length_map]
  have hx : S.rules[post.toNat]? = some (S.rules[post.toNat]'(by omega)) := List.getElem?_eq_getElem (by omega)
  rw [getD_at hx]
  exact ok.l8 _ (List.getElem_mem _)
theorem flat17 {F : Int → List (List Int)} : ∀ {L : List Int}, (∀ o ∈ L, (F o).length ≤ 17) → (L.flatMap F).length ≤ 17 * L.length
  | [], _ => Nat.zero_le _
  | a :: L, h => by
    rw [List.flatMap_cons, List.length_append, List.length_cons]
    have := h a (by simp)
    have := flat17 (L := L) fun o ho => h o (by simp [ho])
    omega
end
/-! ### none and ints to compare -/
def encO : Option Int → PyData
  | none => .none
  | some i => .int i
theorem enc_oi : Enc rOI encO 0 := by
  refine ⟨fun a b => ?_, fun a => ?_, fun K H v a h => ?_⟩
  · cases a <;> cases b <;> simp [encO, PyData.eqv]
  · cases a
    · exact ⟨by simp [encO, PyData.canLay0], by simp [encO, PyData.depth]⟩
    · exact .int _
  · cases a with
    | none => have h : v = .non := h; subst h; exact .non
    | some i => have h : v = .int i := h; subst h; exact .int i
def encT : Option (List (Option Int)) → PyData
  | none => .none
  | some l => .tuple (l.map encO)
theorem enc_ot : Enc (rOpt (rTup rOI)) encT 1 := by
  have ET := enc_tup enc_oi
  refine ⟨fun a b => ?_, fun a => ?_, fun K H v a h => ?_⟩
  · cases a with
    | none => cases b <;> simp [encT, PyData.eqv]
    | some l =>
      cases b with
      | none => simp [encT, PyData.eqv]
      | some m =>
        have := ET.eq l m
        show PyData.eqv (.tuple (l.map encO)) (.tuple (m.map encO)) = true ↔ _
        rw [this, Option.some.injEq]
  · cases a with
    | none => exact ⟨by simp [encT, PyData.canLay0], by simp [encT, PyData.depth]⟩
    | some l => exact ET.shp l
  · cases a with
    | none => have h : v = .non := h; subst h; exact .non
    | some l => exact ET.dp K H v l h
end S4

namespace S4
open PySem L2 TT MM EE
/-! ### whether all is told as it must -/
section
variable {P : Program} {w : World} {K : PySem.W.Frag} {mg : Str → Option Value} {base : Heap} {cT cS : Addr}
def spLRight (cT : Addr) (mg : Str → Option Value) : Sp := fun vs H Q _ => ∃ (a : Addr) (tv uv rv : V) (S : RD) (n : Nat), vs = [.ref a] ∧ PDat H a S tv uv rv ∧ RulesOk S n ∧ (S.p = 2 ∨ S.p = 3 ∨ S.p = 5 ∨ 7 ≤ S.p) ∧ ∀ H', Same H H' → Q (.bl true) H'
theorem ok_lright (T : Tx K mg cT cS) {f : Addr} {fd : FuncData} (d : D K mg "_law_right" s_law_right ["parts"] f fd) : FnOk P w K mg base CX0 11 f fd ["parts"] (spLRight cT mg) := by
  obtain ⟨f1, fd1, d1⟩ := T.d_law_made
  have G1 := ok_lmade (P := P) (w := w) (base := base) T d1
  obtain ⟨f2, fd2, d2⟩ := T.d_law_ways
  have G2 := ok_lways (P := P) (w := w) (base := base) T d2
  obtain ⟨f3, fd3, d3⟩ := T.d_tidings
  have G3 := ok_tidings (P := P) (w := w) (base := base) T d3
  obtain ⟨f4, fd4, d4⟩ := T.d_law_this_side
  have G4 := ok_lthis (P := P) (w := w) (base := base) T d4
  obtain ⟨f5, fd5, d5⟩ := T.d_law_kept
  have G5 := ok_lkept (P := P) (w := w) (base := base) T d5
  obtain ⟨f6, fd6, d6⟩ := T.d_law_due
  have G6 := ok_ldue (P := P) (w := w) (base := base) T d6
  obtain ⟨f7, fd7, d7⟩ := T.d_told_at
  have G7 := ok_told_at (P := P) (w := w) (base := base) T d7
  obtain ⟨f8, fd8, d8⟩ := T.d_sure_values
  have G8 := ok_sure (P := P) (w := w) (base := base) T d8
  obtain ⟨f9, fd9, d9⟩ := T.d_law_values
  have G9 := ok_lvalues (P := P) (w := w) (base := base) T d9
  obtain ⟨f10, fd10, d10⟩ := T.d_law_near
  have G10 := ok_lnear (P := P) (w := w) (base := base) T d10
  obtain ⟨f11, fd11, d11⟩ := T.d_law_rows_of
  have G11 := ok_lrowsof (P := P) (w := w) (base := base) T d11
  obtain ⟨f12, fd12, d12⟩ := T.d_law_spread
  have G12 := ok_lspread (P := P) (w := w) (base := base) T d12
  obtain ⟨f13, fd13, d13⟩ := T.d_law_left
  have G13 := ok_lleft (P := P) (w := w) (base := base) T d13
  refine d.F.ok sc_law_right (fun vs H Q E h => ?_) (fun cdv A outer s H vs Q E hr h => ?_)
  · obtain ⟨a, tv, uv, rv, S, n, rfl, _⟩ := h
    rfl
  · obtain ⟨a, tv, uv, rv, S, n, rfl, hP, ok, hpp, q⟩ := h
    refine ⟨_, pss_cons (ps_par3 (i := 1) (j := 2) (l := 3) (by rfl) sc_law_right.nd rfl rfl rfl (by decide) (by decide) (by decide) rfl rfl rfl (pa_cons (pe_call G1 (hr.mono (by decide)) rfl d1.m d1.F.kp d1.b .nil pass0 (pa_cons (pv 0) pa_nil)) (pa_cons (pe_dget (hu1 hr) (pv 0) pe_str (fun _ _ => rfl)) (pa_cons (pe_dget (hu1 hr) (pv 0) pe_str (fun _ _ => rfl)) pa_nil))) (by rfl))
      (pss_cons (ps_set (i := 4) sc_law_right.nd rfl (.inl rfl) pe_dnewT)
      (pss_cons (ps_for PassesOwn.never rfl (pi_list (pe_call G2 (hr.mono (by decide)) rfl d2.m d2.F.kp d2.b .nil pass0 (pa_cons (pv 3) pa_nil))) (pg_name (i := 5) sc_law_right.nd rfl (.inl rfl))
        (pss_cons (ps_dput (hu_of hr) (pv 4) (pv 5) (pe_call G3 (hr.mono (by decide)) rfl d3.m d3.F.kp d3.b .nil pass0 (pa_cons (pv 1) (pa_cons (pv 5) pa_nil))) rfl)
      (pss_one (ps_if (pt_cmpR (op_neD (hu64 hr)) (pe_dget (hu1 hr) (pv 4) (pv 5) (fun _ _ => rfl)) (pe_call G6 (hr.mono (by decide)) rfl d6.m d6.F.kp d6.b .nil pass0 (pa_cons (pv 0) (pa_cons (pe_call G4 (hr.mono (by decide)) rfl d4.m d4.F.kp d4.b .nil pass0 (pa_cons (pv 3) (pa_cons (pv 5) pa_nil))) (pa_cons (pe_call G5 (hr.mono (by decide)) rfl d5.m d5.F.kp d5.b .nil pass0 (pa_cons (pv 0) (pa_cons (pv 5) pa_nil))) pa_nil)))) (nomark _)) pss_never pss_nil))))
      (pss_cons (ps_for PassesOwn.never rfl (pi_range1 rfl T.b_range (pa_cons (pe_op op_add (pe_callB call_len_seq (by rfl) T.b_len PySem.boot_len (pa_cons (pv 3) pa_nil)) pe_int) pa_nil)) (pg_name (i := 6) sc_law_right.nd rfl (.inr rfl))
        (pss_cons (ps_set (i := 7) sc_law_right.nd rfl (.inl rfl) (pe_call G7 (hr.mono (by decide)) rfl d7.m d7.F.kp d7.b .nil pass0 (pa_cons (pv 1) (pa_cons (pv 6) pa_nil))))
      (pss_cons (ps_set (i := 8) sc_law_right.nd rfl (.inl rfl) (pe_listRg rfl (by rfl) T.b_list (prg_1 (by rfl) T.b_range (pe_op op_add (pe_callB call_len_seq (by rfl) T.b_len PySem.boot_len (pa_cons (pv 3) pa_nil)) pe_int))))
      (pss_cons (ps_if (pt_cmpR (op_neD (hu64 hr)) (pv 7) (pe_call G6 (hr.mono (by decide)) rfl d6.m d6.F.kp d6.b .nil pass0 (pa_cons (pv 0) (pa_cons (pv 8) (pa_cons (pe_call G5 (hr.mono (by decide)) rfl d5.m d5.F.kp d5.b .nil pass0 (pa_cons (pv 0) (pa_cons (pe_lst (pa_cons (pv 6) pa_nil)) pa_nil))) pa_nil)))) (nomark _)) pss_never pss_nil)
      (pss_cons (ps_if (pt_cmpR (op_neD (hu64 hr)) (pe_call G8 (hr.mono (by decide)) rfl d8.m d8.F.kp d8.b .nil pass0 (pa_cons (pv 1) (pa_cons (pv 6) pa_nil))) (pe_call G9 (hr.mono (by decide)) rfl d9.m d9.F.kp d9.b .nil pass0 (pa_cons (pv 0) (pa_cons (pv 6) pa_nil))) (nomark _)) pss_never pss_nil)
      (pss_cons (ps_set (i := 9) sc_law_right.nd rfl (.inl rfl) (pe_call G10 (hr.mono (by decide)) rfl d10.m d10.F.kp d10.b .nil pass0 (pa_cons (pv 3) (pa_cons (pv 6) pa_nil))))
      (pss_one (ps_for PassesOwn.never rfl (pi_list (pe_op op_cat (pv 9) (pe_lst (pa_cons pe_non pa_nil)))) (pg_name (i := 10) sc_law_right.nd rfl (.inl rfl))
        (pss_cons (ps_set (i := 11) sc_law_right.nd rfl (.inl rfl) (pe_call G11 (hr.mono (by decide)) rfl d11.m d11.F.kp d11.b .nil pass0 (pa_cons (pv 0) (pa_cons (pe_lst (pa_cons (pv 6) pa_nil)) pa_nil))))
      (pss_cons (ps_for PassesOwn.never rfl (pi_list (pv 9)) (pg_name (i := 12) sc_law_right.nd rfl (.inr rfl))
        (pss_one (ps_if (pt_cmpR op_ne (pv 12) (pv 10) (nomark _)) (pss_one (ps_set (i := 11) sc_law_right.nd rfl (.inl rfl) (pe_op op_cat (pv 11) (pe_lc (own := [("step", 14)]) (g := (gName 14)) (tt := tYes) rfl sc_law_right.nd (pi_tup (pe_dget (hu1 hr) (pv 4) (pe_tup (pa_cons (pv 12) (pa_cons (pv 6) pa_nil))) (fun _ _ => rfl))) (blkOk_by (N := N_law_right) (sc := defScope s_law_right) (by decide +kernel)) (fun _ _ _ _ _ => (pg_name (i := 14) sc_law_right.nd rfl (Or.inl rfl))) (fun _ _ _ _ _ => pts_nil)
            (fun _ _ _ _ _ => (pe_call G12 (hr.mono (by decide)) rfl d12.m d12.F.kp d12.b .nil pass0 (pa_cons (pv 0) (pa_cons (pe_tup (pa_cons (pv 12) (pa_cons (pv 6) pa_nil))) (pa_cons (pv 14) pa_nil))))))))) pss_nil)))
      (pss_cons (ps_set (i := 13) sc_law_right.nd rfl (.inl rfl) (pe_ifExp (pt_cmp (pc_isN (pv 10))) (pe_lst (pa_cons (pv 6) pa_nil)) (pe_lst (pa_cons (pv 6) (pa_cons (pv 10) pa_nil)))))
      (pss_one (ps_if (pt_cmpR (op_neD (hu64 hr)) (pe_call G13 (hr.mono (by decide)) rfl d13.m d13.F.kp d13.b .nil pass0 (pa_cons (pv 2) (pa_cons (pv 11) (pa_cons (pe_call G5 (hr.mono (by decide)) rfl d5.m d5.F.kp d5.b .nil pass0 (pa_cons (pv 0) (pa_cons (pv 13) pa_nil))) pa_nil)))) (pe_ifExp (pt_cmp (pc_isN (pv 10))) (pv 7) (pe_dget (hu1 hr) (pv 4) (pe_tup (pa_cons (pv 6) (pa_cons (pv 10) pa_nil))) (fun _ _ => rfl))) (nomark _)) pss_never pss_nil)))))))))))))
      (pss_one (ps_ret pe_bl))))), ?_⟩
    have n24 := ok.tree.ok.n24
    have hnl := ok.tree.ok.len
    have hnn := sum_nn fun x hx => (ok.unk.b x hx).1
    obtain ⟨wd, hwd⟩ : ∃ wd : Nat, S.unk.sum = (wd : Int) := ⟨S.unk.sum.toNat, by omega⟩
    have hs60 := ok.unk.s
    have p2 := ok.clock.1
    refine ⟨_, rfl, a, tv, uv, rv, S, n, rfl, hP, ok, fun H1 ru s1 hru => ?_⟩
    refine ⟨_, rfl, a, _, rfl, (hP.same s1).gp, _, rfl, a, _, rfl, (hP.same s1).gt, _, _, _, rfl, ?_⟩
    dsimp only [tSeq]
    intro td ntd
    have s2 := same_new (o := .dT []) ntd
    have htd2 := upd_same (H := H1) (a := td) (o := .dT [])
    generalize upd H1 td (.dT []) = H2 at *
    dsimp only [gName, tSeq]
    have hP1 := hP.same s1
    refine ⟨_, rfl, tv, S.ties, rfl, (hP1.same s2).t, by omega, fun H3 pw xs m s3 npw hpw hpr hperm hsort => ⟨pw, rfl, ⟨_, .of hpw⟩, ?_⟩⟩
    have hlm := paired_len hpr
    have hml : m.length ≤ 100 := by
      rw [hperm.length_eq, List.length_append]
      unfold flipAll
      rw [List.length_map]
      omega
    have hnd : m.Nodup := hperm.nodup_iff.mpr (ways_nodup ok)
    have pwtd : pw ≠ td := fun e => by rw [e, htd2] at npw; cases npw
    refine for_it (walk_list (xs := xs)) (fun i σ H' => ∃ x5 kvs, σ = [some (.ref a), some ru, some (.int S.p), some tv, some (.ref td), x5, none, none, none, none, none, none, none, none, none] ∧ Same H1 H' ∧ H' pw = some (.lst xs) ∧ Paired (rPI H') xs m ∧ H' td = some (.dT kvs) ∧ Paired (rTd S n H') kvs (m.take i))
      ⟨none, [], rfl, s2.trans s3, hpw, hpr, s3 _ _ htd2, .nil⟩ (fun i σ H' _ h => by obtain ⟨_, _, _, _, h, _⟩ := h; exact .of h) ?_ ?_
    · rintro i x σ H4 H5 hi ⟨x5, kvs, rfl, s4, hpw4, hpr4, htd4, hk4⟩ ⟨rfl, hx⟩
      obtain ⟨z, hz, t, rfl, ht⟩ := paired_get hpr4 hx
      have hzm := hperm.mem_iff.mp (List.mem_of_getElem? hz)
      have W := wayR_of ok hzm
      have hzi : z ∉ m.take i := fun q => by
        obtain ⟨j, hj, e⟩ := List.getElem_of_mem q
        rw [List.getElem_take] at e
        rw [List.length_take] at hj
        have h2 := (List.getElem?_eq_some_iff.mp hz)
        obtain ⟨hi2, e2⟩ := h2
        have := (List.getElem_inj hnd).mp (e.trans e2.symm)
        omega
      dsimp only [gName, tSeq]
      refine ⟨_, rfl, _, rfl, ru, .ref t, S, n, z, rfl, mono_ro cT mg _ _ _ _ s4.keep hru, ok, ⟨t, rfl, ht⟩, W, fun H6 v6 s6 hv6 => ?_⟩
      have lk := paired_len hk4
      rw [List.length_take] at lk
      have htd6 := s6 _ _ htd4
      refine ⟨_, rfl, _, rfl, td, _, rfl, DPut.t (k := keyW z) htd6 (s6 _ _ ht) (Nat.lt_of_le_of_lt (by omega : _ ≤ 100) (by decide)), ?_⟩
      have ekv : putK kvs (keyW z) v6 = kvs ++ [(keyW z, v6)] := putK_new v6 (td_new hk4 z hzi)
      rw [ekv]
      have kt : ∀ t xs, H6 t = some (.tup xs) → (upd H6 td (.dT (kvs ++ [(keyW z, v6)]))) t = some (.tup xs) := fun t xs h => by
        rw [upd_ne (fun e => by rw [e, htd6] at h; cases h)]
        exact h
      have t6 := s4.trans s6
      have s7 : Same H1 (upd H6 td (.dT (kvs ++ [(keyW z, v6)]))) := same_own t6 ntd
      have hpw7 : (upd H6 td (.dT (kvs ++ [(keyW z, v6)]))) pw = some (.lst xs) := by rw [upd_ne pwtd]; exact s6 _ _ hpw4
      have hpr7 : Paired (rPI (upd H6 td (.dT (kvs ++ [(keyW z, v6)])))) xs m := Paired.mapP (paired_mono mono_pi s6.keep hpr4) fun _ _ q => pi_kt kt q
      have htd7 := upd_same (H := H6) (a := td) (o := .dT (kvs ++ [(keyW z, v6)]))
      have hk7 : Paired (rTd S n (upd H6 td (.dT (kvs ++ [(keyW z, v6)])))) (kvs ++ [(keyW z, v6)]) (m.take (i + 1)) := by
        rw [List.take_succ, hz]
        exact paired_app (Paired.mapP (td_keep s6.keep hk4) fun _ _ q => td_kt kt q) (.cons (td_kt kt ⟨rfl, hv6⟩) .nil)
      have ht7 := kt _ _ (s6 _ _ ht)
      have hv7 : rTup rRow (upd H6 td (.dT (kvs ++ [(keyW z, v6)]))) v6 (tidU S n z) := (td_kt kt (kv := (keyW z, v6)) (z := z) ⟨rfl, hv6⟩).2
      have hgv : valV (kvs ++ [(keyW z, v6)]) (keyW z) = some v6 := by
        have h1 := td_new hk4 z hzi
        unfold valV at h1 ⊢
        rw [List.find?_append]
        cases hf : kvs.find? fun p => decide (p.1 = keyW z) with
        | none => rw [List.find?_cons_of_pos (by exact decide_eq_true rfl)]; rfl
        | some y => rw [hf] at h1; cases h1
      generalize upd H6 td (.dT (kvs ++ [(keyW z, v6)])) = H7 at *
      have hP7 := hP1.same s7
      dsimp only [tNext, tSeq]
      refine ⟨_, rfl, _, rfl, td, v6, rfl, by rw [← hgv]; exact DGet.t htd7 ht7, ?_⟩
      refine ⟨_, rfl, _, rfl, _, rfl, tv, .ref t, S.ties, z, n, rfl, hP7.t, ⟨t, rfl, ht7⟩, ok.tree.ok, W.a0, W.a1, fun H8 pn ns s8 npn hpn hup hnd2 hmem => ?_⟩
      have hin : ∀ x ∈ ns, x ∈ rng n := fun x hx => ((hmem x).mp hx).inV ok.tree.ok.shut (rng_mem.mpr ⟨W.a0, W.a1⟩)
      have nup := up_lt hup hnd2
      have ens : ns = sideOf S.ties n z := up_same nup (List.Pairwise.filter _ (rng_up n)) fun x => by
        rw [side_mem]
        exact ⟨fun h => ⟨hin x h, (hmem x).mp h⟩, fun h => (hmem x).mpr h.2⟩
      have hzin : ∀ x ∈ ([z.1, z.2] : List Int), x ∈ rng n := fun x hx => by
        simp only [List.mem_cons, List.not_mem_nil, or_false] at hx
        rcases hx with rfl | rfl
        · exact rng_mem.mpr ⟨W.a0, W.a1⟩
        · exact rng_mem.mpr ⟨W.b0, W.b1⟩
      refine ⟨_, rfl, _, rfl, a, t, tv, uv, rv, S, n, wd, [z.1, z.2], rfl, hP7.same s8, ok, hwd, .inr (s8 _ _ ht7), by show 2 ≤ 3; decide, hzin, fun H9 rk s9 nrk hrk => ?_⟩
      have hkl : ([z.1, z.2].flatMap (heldL S.unk) ++ [(wd : Int)]).length ≤ 100 := by
        have h1 := held_len8 ok z.1
        have h2 := held_len8 ok z.2
        simp
        omega
      refine ⟨a, pn, rk, tv, uv, rv, S, n, wd, ns, _, rfl, (hP7.same s8).same s9, ok, hpp, hwd, s9 _ _ hpn, nup, hin, hrk, kept_in ok hwd _, hkl, fun H10 v10 s10 hv10 => ?_⟩
      have t10 := (s8.trans s9).trans s10
      have ek : [z.1, z.2].flatMap (heldL S.unk) = keptU S.unk z := by unfold keptU; simp
      rw [ek, rest_tid ok W ens hwd] at hv10
      refine (enc_tup enc_row).neD (by decide) (mono_tup mono_row _ _ _ _ t10.keep hv7) hv10 ⟨_, rfl, ?_⟩
      rw [decide_eq_true rfl]
      refine iteF ?_
      exact ⟨_, kvs ++ [(keyW z, v6)], rfl, s7.trans t10, t10 _ _ hpw7, paired_mono mono_pi t10.keep hpr7, t10 _ _ htd7, td_keep t10.keep hk7⟩
    · rintro σ H4 ⟨x5, kvs, rfl, s4, hpw4, hpr4, htd4, hk4⟩
      rw [hlm, List.take_length] at hk4
      clear hpw4 hpr4 hpr hpw
      have hP4 := hP1.same s4
      have hru4 := mono_ro cT mg _ _ _ _ s4.keep hru
      obtain ⟨tt, txs, et, htt, htx⟩ := id hP4.t
      have ltx := paired_len htx
      subst et
      dsimp only [gName, tSeq]
      refine ⟨_, rfl, tt, _, rfl, .inr (.of htt), _, _, rfl, rfl, _, rfl, by omega, by omega, ?_⟩
      have en : ((((txs.length : Nat) : Int) + 1)).toNat = n := by omega
      rw [en]
      refine for_it (walk_range (lo := 0) (n := n)) (fun i σ H' => ∃ x5 x6 x7 x8 x9 x10 x11 x12 x13, σ = [some (.ref a), some ru, some (.int S.p), some (.ref tt), some (.ref td), x5, x6, x7, x8, x9, x10, x11, x12, x13, none] ∧ Same H4 H')
        ⟨_, none, none, none, none, none, none, none, none, rfl, .refl _⟩ (fun _ _ _ _ _ => trivial) ?_ ?_
      · rintro i x σ H5 H6 hi ⟨x5, x6, x7, x8, x9, x10, x11, x12, x13, rfl, s5⟩ ⟨rfl, rfl⟩
        have ep : (0 : Int) + (i : Int) = (i : Int) := by omega
        rw [show ((fun i : Nat => V.int (0 + (i : Int))) i) = V.int (i : Int) from congrArg V.int ep]
        have hpi : ((i : Nat) : Int) ∈ rng n := rng_mem.mpr ⟨by omega, by omega⟩
        generalize hpost : ((i : Nat) : Int) = post at *
        dsimp only [gName, tSeq]
        refine ⟨_, rfl, _, rfl, ru, S, n, wd, post, rfl, mono_ro cT mg _ _ _ _ s5.keep hru4, ok, hwd, hpi, fun H7 v7 s7 hv7 => ?_⟩
        have t7 := s5.trans s7
        dsimp only [gName, tSeq]
        refine ⟨_, rfl, tt, _, rfl, .inr (.of (t7 _ _ htt)), _, _, rfl, rfl, _, rfl, .of_le (by omega) (by omega) (by omega) (by omega), fun le nle => ?_⟩
        have erg : rgV 0 (((txs.length : Nat) : Int) + 1) = (rng n).map V.int := by rw [show ((txs.length : Nat) : Int) + 1 = (n : Int) by omega, rgV_rng]
        rw [erg]
        have s8 := same_new (o := .lst ((rng n).map V.int)) nle
        have hle8 := upd_same (H := H7) (a := le) (o := .lst ((rng n).map V.int))
        generalize upd H7 le (.lst ((rng n).map V.int)) = H8 at *
        have t8 := t7.trans s8
        have hP8 := hP4.same t8
        have e1 : [post].flatMap (heldL S.unk) = heldL S.unk post := List.flatMap_singleton ..
        have h8 := held_len8 ok post
        have hkl1 : ([post].flatMap (heldL S.unk) ++ [(wd : Int)]).length ≤ 100 := by
          rw [e1, List.length_append, List.length_singleton]
          omega
        have hin1 : ∀ x ∈ ([post] : List Int), x ∈ rng n := fun x hx => by rw [List.mem_singleton.mp hx]; exact hpi
        dsimp only [gName, tSeq]
        refine ⟨_, rfl, _, rfl, _, rfl, _, rfl, _, rfl, by show 1 ≤ sizeLine; decide, fun lp nlp => ?_⟩
        have s9 := same_new (o := .lst [V.int post]) nlp
        refine ⟨a, lp, .ref tt, uv, rv, S, n, wd, [post], rfl, hP8.same s9, ok, hwd, .inl upd_same, by show 1 ≤ 3; decide, hin1, fun H10 rk s10 nrk hrk => ?_⟩
        have t10 := s9.trans s10
        refine ⟨a, le, rk, .ref tt, uv, rv, S, n, wd, rng n, _, rfl, hP8.same t10, ok, hpp, hwd, t10 _ _ hle8, rng_up n, fun _ h => h, hrk, kept_in ok hwd _, hkl1, fun H11 v11 s11 hv11 => ?_⟩
        rw [e1] at hv11
        have hv7' := mono_tup mono_row _ _ _ _ ((s8.trans t10).trans s11).keep hv7
        refine (enc_tup enc_row).neD (by decide) hv7' hv11 ⟨_, rfl, ?_⟩
        rw [show decide (atU S n wd post = restU S.p (wd + 1) (heldL S.unk post ++ [(wd : Int)]) (rowsT S (rng n))) = true from decide_eq_true rfl]
        refine iteF ?_
        dsimp only [tNext, tSeq]
        have t11 := t8.trans (t10.trans s11)
        have hP11 := hP4.same t11
        refine ⟨_, rfl, _, rfl, ru, S, n, wd, post, rfl, mono_ro cT mg _ _ _ _ t11.keep hru4, ok, hwd, hpi, fun H12 v12 s12 hv12 => ?_⟩
        refine ⟨_, rfl, _, rfl, a, .ref tt, uv, rv, S, n, wd, post, rfl, hP11.same s12, ok, hwd, hpi, fun H13 v13 s13 hv13 => ?_⟩
        refine enc_ot.neD (by decide) (mono_opt (mono_tup mono_oi) _ _ _ _ s13.keep hv12) hv13 ⟨_, rfl, ?_⟩
        rw [decide_eq_true rfl]
        refine iteF ?_
        dsimp only [tNext, tSeq]
        have t13 := t11.trans (s12.trans s13)
        have hP13 := hP4.same t13
        have hv13' := mono_tup mono_row _ _ _ _ (s12.trans s13).keep hv7'
        have hdd : ∀ y ∈ S.ties, y.1 ≠ y.2 := fun y hy => by have := ok.tree.ok.b0 y hy; omega
        refine ⟨_, rfl, _, rfl, .ref tt, S.ties, post, rfl, hP13.t, by omega, hdd, fun H14 nr ns s14 nnr hnr hpm hup => ?_⟩
        have hnsl := ns_len ok hpi hpm
        dsimp only [gName, tSeq]
        refine ⟨_, rfl, by show 1 ≤ sizeLine; decide, fun l1 nl1 => ?_⟩
        have s15 := same_new (o := .lst [V.non]) nl1
        refine ⟨nr, l1, _, _, rfl, rfl, s15 _ _ hnr, upd_same, Nat.le_trans (by rw [List.length_map]; show _ + 1 ≤ _; omega : _ ≤ 100) (by decide), fun ln nln => ?_⟩
        have s16 := same_new (o := .lst (ns.map V.int ++ [V.non])) nln
        have hln := upd_same (H := upd H14 l1 (.lst [V.non])) (a := ln) (o := .lst (ns.map V.int ++ [V.non]))
        have hnr16 := (s15.trans s16) _ _ hnr
        have t16 := t13.trans (s14.trans (s15.trans s16))
        have hv16 := mono_tup mono_row _ _ _ _ (s14.trans (s15.trans s16)).keep hv13'
        generalize upd (upd H14 l1 (.lst [V.non])) ln (.lst (ns.map V.int ++ [V.non])) = H16 at *
        refine ⟨ln, rfl, ⟨_, .of hln⟩, ?_⟩
        refine for_it (walk_list (xs := ns.map V.int ++ [V.non])) (fun k σ H' => ∃ x10 x11 x12 x13, σ = [some (.ref a), some ru, some (.int S.p), some (.ref tt), some (.ref td), x5, some (.int post), some v7, some (.ref le), some (.ref nr), x10, x11, x12, x13, none] ∧ Same H16 H')
          ⟨_, _, _, _, rfl, .refl _⟩ (fun k σ H' _ h => .of (let ⟨_, _, _, _, _, h⟩ := h; h _ _ hln)) ?_ ?_
        · rintro k x σ H17 H18 hk ⟨y10, y11, y12, y13, rfl, s17⟩ ⟨rfl, hx⟩
          have t17 := t16.trans s17
          have hP17 := hP4.same t17
          dsimp only [gName, tSeq]
          refine ⟨_, rfl, _, rfl, by show 1 ≤ sizeLine; decide, fun lq nlq => ?_⟩
          have s18 := same_new (o := .lst [V.int post]) nlq
          refine ⟨a, lq, .ref tt, uv, rv, S, n, [post], rfl, hP17.same s18, ok, upd_same, List.pairwise_singleton _ _, hin1, fun H19 rr rxs s19 nrr hrr hrp => ?_⟩
          have hpr8 := post_rows ok hpi
          have t19 := s17.trans (s18.trans s19)
          dsimp only [gName, tSeq]
          have hnr19 := t19 _ _ hnr16
          refine ⟨_, rfl, nr, rfl, ⟨_, .of hnr19⟩, ?_⟩
          have hxs : x = .non ∨ ∃ t ∈ ns, x = .int t := by
            rcases List.mem_append.mp (List.mem_of_getElem? hx) with h | h
            · obtain ⟨t, h1, h2⟩ := List.mem_map.mp h
              exact .inr ⟨t, h1, h2.symm⟩
            · exact .inl (List.mem_singleton.mp h)
          have hscal : ∀ o : Int, scal (.int o) x = true := fun o => by rcases hxs with rfl | ⟨t, _, rfl⟩ <;> rfl
          have spl : ∀ o ∈ ns, (spT S n wd post o).length ≤ 17 := fun o ho => by
            unfold spT
            rw [List.length_map]
            exact (tid_rows ok hwd (nb_way ok hpi (hpm.mem_iff.mp ho))).1
          have hLlen : ∀ L : List Int, (∀ o ∈ L, o ∈ ns) → L.length ≤ 23 → (rowsT S [post] ++ L.flatMap (spT S n wd post)).length ≤ 399 := fun L h1 h2 => by
            have := flat17 (L := L) (F := spT S n wd post) fun o ho => spl o (h1 o ho)
            rw [List.length_append]
            omega
          refine for_it (walk_list (xs := ns.map V.int)) (fun j σ H' => ∃ x12 rl ys, σ = [some (.ref a), some ru, some (.int S.p), some (.ref tt), some (.ref td), x5, some (.int post), some v7, some (.ref le), some (.ref nr), some x, some (.ref rl), x12, y13, none] ∧ Same H16 H' ∧ H' rl = some (.lst ys) ∧ Paired (rLI H') ys (rowsT S [post] ++ ((ns.take j).filter fun o => !decide (V.int o = x)).flatMap (spT S n wd post)))
            ⟨_, rr, rxs, rfl, t19, hrr, by rw [List.take_zero]; simpa using hrp⟩ (fun j σ H' _ h => .of (let ⟨_, _, _, _, h, _⟩ := h; h _ _ hnr16)) ?_ ?_
          · rintro j y σ H20 H21 hj ⟨x12, rl, ys, rfl, s20, hrl, hpl⟩ ⟨rfl, hy⟩
            obtain ⟨o, ho, rfl⟩ := at_int hy
            have hon := List.mem_of_getElem? ho
            have hom := hpm.mem_iff.mp hon
            have W := nb_way ok hpi hom
            have etk : ns.take (j + 1) = ns.take j ++ [o] := by rw [List.take_succ, ho]; rfl
            dsimp only [gName, tSeq]
            refine ⟨_, rfl, _, rfl, hscal o, _, rfl, ?_⟩
            by_cases hx12 : V.int o = x
            · rw [decide_eq_true hx12]
              refine iteF ⟨_, rl, ys, rfl, s20, hrl, ?_⟩
              rw [etk, List.filter_append, List.filter_cons, decide_eq_true hx12]
              simpa using hpl
            · rw [decide_eq_false hx12]
              obtain ⟨vt, hvt, hrt⟩ := td_val hk4 (o, post) (hperm.mem_iff.mpr (way_mem W))
              have t20 := t16.trans s20
              refine iteT ⟨_, rfl, _, rfl, _, rfl, _, rfl, by show 2 ≤ sizeLine; decide, fun tk ntk => ?_⟩
              have s21 := same_new (o := .tup [V.int o, V.int post]) ntk
              have t21 := t20.trans s21
              obtain ⟨tv2, vxs, rfl, htv2, hvx⟩ := mono_tup mono_row _ _ _ _ t21.keep hrt
              refine ⟨td, .ref tv2, rfl, by rw [← hvt]; exact DGet.t (k := keyW (o, post)) (t21 _ _ htd4) upd_same, tv2, rfl, ⟨_, .of htv2⟩, fun D hD => ?_⟩
              generalize upd H21 tk (.tup [V.int o, V.int post]) = H22 at *
              obtain ⟨tl17, trow⟩ := tid_rows ok hwd W
              have lvx := paired_len hvx
              have e2 : [o, post].flatMap (heldL S.unk) = keptU S.unk (o, post) := by unfold keptU; simp
              have hin2 : ∀ x ∈ ([o, post] : List Int), x ∈ rng n := fun x hx => by
                simp only [List.mem_cons, List.not_mem_nil, or_false] at hx
                rcases hx with hx | hx
                · rw [hx]; exact nb_rng ok hpi o hom
                · rw [hx]; exact hpi
              have hnd2 : ([o, post].flatMap (heldL S.unk) ++ [(wd : Int)]).Nodup := by
                rw [e2]
                exact kept_nd ok hwd W (nb_ne ok o hom)
              refine walk_W (walk_tup (xs := vxs)) _ (fun i H' => Same H22 H' ∧ ∃ zs, H' D = some (.lst zs) ∧ Paired (rLI H') zs (((tidU S n (o, post)).take i).map (sprL (wd + 1) (keptU S.unk (o, post) ++ [(wd : Int)])))) ⟨same_new hD, [], upd_same, .nil⟩ (fun i H' _ h => .of (h.1 _ _ htv2)) ?_ ?_
              · rintro i2 st H23 H24 hi2 ⟨s23, zs, h1, h2⟩ ⟨rfl, hst⟩
                obtain ⟨step, hstep, hsr⟩ := paired_get (paired_mono mono_row s23.keep hvx) hst
                have hsl := isRow_len2 (trow step (List.mem_of_getElem? hstep))
                have hzl := paired_len h2
                rw [List.length_map, List.length_take] at hzl
                refine ⟨rfl, _, rfl, _, rfl, _, rfl, by show 2 ≤ sizeLine; decide, fun t2 nt2 => ?_⟩
                have s25 := same_new (o := .tup [V.int o, V.int post]) nt2
                refine ⟨_, rfl, a, t2, st, .ref tt, uv, rv, S, n, wd, [o, post], step, rfl, hP4.same ((t21.trans s23).trans s25), ok, hwd, upd_same, by show 2 ≤ 3; decide, hin2, mono_row _ _ _ _ s25.keep hsr, by rw [e2]; exact hsl, hnd2, fun H26 r26 s26 nr26 hr26 => ?_⟩
                rw [e2] at hr26
                have s56 := s25.trans s26
                have hD26 := s56 _ _ h1
                have hne : r26 ≠ D := fun e => by rw [e] at nr26; rw [s25 _ _ h1] at nr26; cases nr26
                refine ⟨zs, hD26, Nat.lt_of_le_of_lt (by omega : zs.length ≤ 17) (by decide), same_own (s23.trans s56) hD, zs ++ [.ref r26], upd_same, ?_⟩
                rw [List.take_succ, hstep, List.map_append]
                exact paired_app (li_upd hD26 (li_same s56 h2)) (.cons ⟨r26, rfl, by rw [upd_ne hne]; exact hr26⟩ .nil)
              · rintro H23 ⟨s23, zs, h1, h2⟩
                rw [lvx, List.take_length] at h2
                have hzl := paired_len h2
                rw [List.length_map] at hzl
                have hyl := paired_len hpl
                have hyb := hLlen ((ns.take j).filter fun o => !decide (V.int o = x)) (fun o h => List.mem_of_mem_take (List.mem_filter.mp h).1) (Nat.le_trans (List.length_filter_le _ _) (by rw [List.length_take]; omega))
                have s203 := s21.trans s23
                refine ⟨rl, D, ys, zs, rfl, rfl, s203 _ _ hrl, h1, Nat.le_trans (by omega : _ ≤ 1000) (by decide), fun r2 nr2 => ?_⟩
                have s24 := same_new (o := .lst (ys ++ zs)) nr2
                refine ⟨_, r2, ys ++ zs, rfl, (s20.trans s203).trans s24, upd_same, ?_⟩
                rw [etk, List.filter_append, List.filter_cons, decide_eq_false hx12, List.flatMap_append, ← List.append_assoc]
                refine paired_app (li_same (s203.trans s24) hpl) ?_
                simp only [Bool.not_false, if_true, List.filter_nil, List.flatMap_singleton]
                exact li_same s24 h2
          · rintro σ H21 ⟨x12, rl, ys, rfl, s20, hrl, hpl⟩
            rw [List.length_map, List.take_length] at hpl
            have hrlen : (rowsT S [post] ++ (ns.filter fun o => !decide (V.int o = x)).flatMap (spT S n wd post)).length ≤ 400 := Nat.le_trans (hLlen _ (fun o h => (List.mem_filter.mp h).1) (Nat.le_trans (List.length_filter_le _ _) hnsl)) (by decide)
            have hrows : ∀ r ∈ rowsT S [post] ++ (ns.filter fun o => !decide (V.int o = x)).flatMap (spT S n wd post), isRow r S.p ((wd + 1 : Nat) : Int) := fun r hr => by
              rcases List.mem_append.mp hr with h | h
              · exact rowsT_isRow ok hwd hin1 r h
              · obtain ⟨o, ho, h⟩ := List.mem_flatMap.mp h
                unfold spT at h
                obtain ⟨s, hs, rfl⟩ := List.mem_map.mp h
                exact spr_row p2 ((tid_rows ok hwd (nb_way ok hpi (hpm.mem_iff.mp (List.mem_filter.mp ho).1))).2 s hs).2
            dsimp only [tNext, tSeq]
            rcases hxs with rfl | ⟨t, htn, rfl⟩
            · refine ⟨_, rfl, _, rfl, ?_⟩
              rw [decide_eq_true rfl]
              refine iteT ⟨_, rfl, by show 1 ≤ sizeLine; decide, fun lz nlz => ?_⟩
              have s21 := same_new (o := .lst [V.int post]) nlz
              have hlz := upd_same (H := H21) (a := lz) (o := .lst [V.int post])
              generalize upd H21 lz (.lst [V.int post]) = H22 at *
              dsimp only [gName, tSeq]
              have t22 := t16.trans (s20.trans s21)
              refine ⟨_, rfl, _, rfl, _, rfl, _, rfl, a, lz, .ref tt, uv, rv, S, n, wd, [post], rfl, hP4.same t22, ok, hwd, .inl hlz, by show 1 ≤ 3; decide, hin1, fun H23 rk2 s23 nrk2 hrk2 => ?_⟩
              refine ⟨rl, rk2, S.p, wd + 1, ys, _, _, rfl, (s21.trans s23) _ _ hrl, li_same (s21.trans s23) hpl, hrlen, hrk2, ok.clock.prm, ok.clock.2.1, by omega, hrows, kept_in ok hwd _, hkl1, fun H24 v24 s24 hv24 => ?_⟩
              have ef : (ns.filter fun o => !decide (V.int o = V.non)) = ns := List.filter_eq_self.mpr fun o _ => by simp
              rw [ef, fact_none ok hwd hpi hpm] at hv24
              refine ⟨_, rfl, _, rfl, ?_⟩
              rw [decide_eq_true rfl]
              refine iteT ⟨_, rfl, ?_⟩
              have sA := s21.trans (s23.trans s24)
              refine (enc_tup enc_row).neD (by decide) hv24 (mono_tup mono_row _ _ _ _ (s20.trans sA).keep hv16) ⟨_, rfl, ?_⟩
              rw [decide_eq_true rfl]
              exact iteF ⟨_, _, _, _, rfl, s20.trans sA⟩
            · refine ⟨_, rfl, _, rfl, ?_⟩
              rw [decide_eq_false (by simp)]
              refine iteF ⟨_, rfl, _, rfl, by show 2 ≤ sizeLine; decide, fun lz nlz => ?_⟩
              have s21 := same_new (o := .lst [V.int post, V.int t]) nlz
              have hlz := upd_same (H := H21) (a := lz) (o := .lst [V.int post, V.int t])
              generalize upd H21 lz (.lst [V.int post, V.int t]) = H22 at *
              dsimp only [gName, tSeq]
              have t22 := t16.trans (s20.trans s21)
              have htm := hpm.mem_iff.mp htn
              have W2 := nb_way2 ok hpi htm
              have hin2 : ∀ x ∈ ([post, t] : List Int), x ∈ rng n := fun x hx => by
                simp only [List.mem_cons, List.not_mem_nil, or_false] at hx
                rcases hx with hx | hx
                · rw [hx]; exact hpi
                · rw [hx]; exact nb_rng ok hpi t htm
              have hkl2 : ([post, t].flatMap (heldL S.unk) ++ [(wd : Int)]).length ≤ 100 := by
                have h1 := held_len8 ok post
                have h2 := held_len8 ok t
                simp
                omega
              refine ⟨_, rfl, _, rfl, _, rfl, _, rfl, a, lz, .ref tt, uv, rv, S, n, wd, [post, t], rfl, hP4.same t22, ok, hwd, .inl hlz, by show 2 ≤ 3; decide, hin2, fun H23 rk2 s23 nrk2 hrk2 => ?_⟩
              refine ⟨rl, rk2, S.p, wd + 1, ys, _, _, rfl, (s21.trans s23) _ _ hrl, li_same (s21.trans s23) hpl, hrlen, hrk2, ok.clock.prm, ok.clock.2.1, by omega, hrows, kept_in ok hwd _, hkl2, fun H24 v24 s24 hv24 => ?_⟩
              rw [fact_way ok hwd hpi hpm htn] at hv24
              refine ⟨_, rfl, _, rfl, ?_⟩
              rw [decide_eq_false (by simp)]
              obtain ⟨vt, hvt, hrt⟩ := td_val hk4 (post, t) (hperm.mem_iff.mpr (way_mem W2))
              refine iteF ⟨_, rfl, _, rfl, _, rfl, by show 2 ≤ sizeLine; decide, fun tk ntk => ?_⟩
              have s25 := same_new (o := .tup [V.int post, V.int t]) ntk
              have sA := s21.trans (s23.trans (s24.trans s25))
              have sB := t16.trans (s20.trans sA)
              refine ⟨td, vt, rfl, by rw [← hvt]; exact DGet.t (k := keyW (post, t)) (sB _ _ htd4) upd_same, ?_⟩
              refine (enc_tup enc_row).neD (by decide) (mono_tup mono_row _ _ _ _ s25.keep hv24) (mono_tup mono_row _ _ _ _ sB.keep hrt) ⟨_, rfl, ?_⟩
              rw [decide_eq_true rfl]
              exact iteF ⟨_, _, _, _, rfl, s20.trans sA⟩
        · rintro σ H17 ⟨y10, y11, y12, y13, rfl, s17⟩
          exact ⟨_, _, _, _, _, _, _, _, _, rfl, t16.trans s17⟩
      · rintro σ H5 ⟨x5, x6, x7, x8, x9, x10, x11, x12, x13, rfl, s5⟩
        exact q _ ((s1.trans s4).trans s5)
end
end S4

namespace S4
open PySem L2 TT MM EE
/-! ### the law -/
section
variable {P : Program} {w : World} {K : PySem.W.Frag} {mg : Str → Option Value} {base : Heap} {cT cS : Addr}
def spLaw (K : PySem.W.Frag) : Sp := fun vs H Q _ => ∃ (a : Addr) (ns : List Int), vs = [.ref a] ∧ SqL K H a (ns.map V.int) ∧ ns.length ≤ 63 ∧ ∀ H', Q (.bl true) H'
theorem ok_law (T : Tx K mg cT cS) {f : Addr} {fd : FuncData} (d : D K mg "law" s_law ["script"] f fd) : FnOk P w K mg base CX0 12 f fd ["script"] (spLaw K) := by
  obtain ⟨f1, fd1, d1⟩ := T.d_law_hand
  have G1 := ok_hand (P := P) (w := w) (base := base) T d1
  obtain ⟨f2, fd2, d2⟩ := T.d_law_few
  have G2 := ok_lfew (P := P) (w := w) (base := base) T d2
  obtain ⟨f3, fd3, d3⟩ := T.d_law_right
  have G3 := ok_lright (P := P) (w := w) (base := base) T d3
  obtain ⟨f4, fd4, d4⟩ := T.d_law_great
  have G4 := ok_lgreat (P := P) (w := w) (base := base) T d4
  refine d.F.ok sc_law (fun vs H Q E h => ?_) (fun cdv A outer s H vs Q E hr h => ?_)
  · obtain ⟨a0, ns, rfl, _⟩ := h
    rfl
  · obtain ⟨a0, ns, rfl, hS, hl, q⟩ := h
    refine ⟨_, pss_cons (ps_set (i := 1) sc_law.nd rfl (.inl rfl) (pe_call G1 (hr.mono (by decide)) rfl d1.m d1.F.kp d1.b .nil pass0 (pa_cons (pv 0) pa_nil)))
      (pss_cons (ps_for PassesOwn.never rfl (pi_range1 rfl T.b_range (pa_cons pe_int pa_nil)) (pg_name (i := 2) sc_law.nd rfl (.inl rfl))
        (pss_one (ps_if (pt_not (pt_val (pe_call G3 (hr.mono (by decide)) rfl d3.m d3.F.kp d3.b .nil pass0 (pa_cons (pe_call G2 (hr.mono (by decide)) rfl d2.m d2.F.kp d2.b .nil pass0 (pa_cons (pv 1) pa_nil)) pa_nil)))) pss_never pss_nil)))
      (pss_one (ps_ret (pe_call G3 (hr.mono (by decide)) rfl d3.m d3.F.kp d3.b .nil pass0 (pa_cons (pe_call G4 (hr.mono (by decide)) rfl d4.m d4.F.kp d4.b .nil pass0 (pa_cons (pv 1) pa_nil)) pa_nil))))), ?_⟩
    refine ⟨_, rfl, a0, ns, rfl, hS, hl, fun H1 g c s1 ng hh1 => ?_⟩
    dsimp only [gName, tSeq]
    refine ⟨3, rfl, by decide, by decide, ?_⟩
    refine for_range (lo := 0) (n := 3) (fun i σ H' => Hand g c H' ∧ ∃ o2, σ = [some (.ref a0), some (.ref g), o2])
      ⟨hh1, none, rfl⟩ ?_ ?_
    · rintro i σ H2 hi ⟨hh2, o2, rfl⟩
      dsimp only [gName, tSeq]
      refine ⟨_, rfl, g, c, rfl, hh2, fun H3 a tv uv rv S n b3 hh3 hP3 ok hpp hf => ?_⟩
      refine ⟨a, tv, uv, rv, S, n, rfl, hP3, ok, hpp, fun H4 s4 => ?_⟩
      exact ⟨_, rfl, iteF ⟨hh3.same s4, _, rfl⟩⟩
    · rintro σ H2 ⟨hh2, o2, rfl⟩
      refine ⟨_, rfl, g, c, rfl, hh2, fun H3 a tv uv rv S n b3 hh3 hP3 ok hpp hf => ?_⟩
      exact ⟨a, tv, uv, rv, S, n, rfl, hP3, ok, hpp, fun H4 s4 => q _⟩
end
end S4

namespace S4
open PySem L2 TT EE MM
theorem dc_mk {K : PySem.W.Frag} {h : Heap} {mg : Str → Option Value} {x q : Str} {st : Stmt} {ps fl : List Str} {C f : Addr} {oc : Value} {od an : Option Addr} {osl : Array (Option Value)} {kV doc pm cdv ct : Value} (X : K.In h) (G : h.Ns mainGlobals mg)
    (hb : ∀ (kV doc pm : Value) (an : Option Addr) (cdv ct : Value) (us : List Value), us.length = ps.length → bindArgs (PySem.W.fnOf "__init__" q (defArgs st) (defBody st) (defScope st) .none kV doc pm an cdv ct) ⟨us, []⟩ = pure (ps.zip us))
    (aC : mg x = some (.ref C))
    (a : PySem.W.findIn K (.ref C) "__init__" = some (some (.ref f))) (i : PySem.W.isFn K (.ref f) = true)
    (l : K.lookup f = some ⟨oc, od, .func (PySem.W.fnOf "__init__" q (defArgs st) (defBody st) (defScope st) .none kV doc pm an cdv ct), osl⟩) (c : PySem.W.codeIn K cdv q = true) (k : PySem.W.keepIn K (.ref f) = true)
    (mk : PySem.W.makesIn K C = true) (kc : PySem.W.keepIn K (.ref C) = true)
    (pg : PySem.W.plainGet K C Str.empty = true) (hd : PySem.W.hasDictIn K C = true) (po : PySem.W.plainOver K C = true) (sa : PySem.W.findIn K (.ref C) "__setattr__" = some (some (.builtin "object.__setattr__")))
    (na : ∀ y ∈ fl, NoAttr K C y) : ∃ f fd, DC K mg x q st ps fl C f fd :=
  ⟨f, _, fun_mk l c k, (fun_mk l c k).binds hb, aC, ⟨mk, a, i, kc⟩, ⟨pg, hd, po, sa⟩, na⟩
theorem dm_mk {K : PySem.W.Frag} {m q : Str} {st : Stmt} {ps : List Str} {C f : Addr} {oc : Value} {od an : Option Addr} {osl : Array (Option Value)} {kV doc pm cdv ct : Value}
    (hb : ∀ (kV doc pm : Value) (an : Option Addr) (cdv ct : Value) (us : List Value), us.length = ps.length → bindArgs (PySem.W.fnOf m q (defArgs st) (defBody st) (defScope st) .none kV doc pm an cdv ct) ⟨us, []⟩ = pure (ps.zip us))
    (a : PySem.W.findIn K (.ref C) m = some (some (.ref f))) (i : PySem.W.isFn K (.ref f) = true)
    (l : K.lookup f = some ⟨oc, od, .func (PySem.W.fnOf m q (defArgs st) (defBody st) (defScope st) .none kV doc pm an cdv ct), osl⟩) (c : PySem.W.codeIn K cdv q = true) (k : PySem.W.keepIn K (.ref f) = true) : ∃ f fd, DM K m q st ps C f fd :=
  ⟨f, _, fun_mk l c k, (fun_mk l c k).binds hb, a, i⟩
theorem ei_mk {K : PySem.W.Frag} {q : Str} {st : Stmt} {ps fl : List Str} {C f : Addr} {oc : Value} {od an : Option Addr} {osl : Array (Option Value)} {kV doc pm cdv ct : Value}
    {nm qn : Str} {N : Addr} {bs bm : List Value} {sn : List Str} {sub : List Value} {ab : Bool} {col : Option Bool} {dd : Option Addr} {m0 m1 m2 m3 m5 : Option Value}
    (hb : ∀ (kV doc pm : Value) (an : Option Addr) (cdv ct : Value) (us : List Value), us.length = ps.length → bindArgs (PySem.W.fnOf "__init__" q (defArgs st) (defBody st) (defScope st) .none kV doc pm an cdv ct) ⟨us, []⟩ = pure (ps.zip us))
    (xL : K.lookup C = some (PySem.excClassObj nm qn C N bs bm true sn sub ab col dd m0 m1 m2 m3 m5 "ValueError.__new__")) (rv : PySem.HandSPX.refsVE bm = true)
    (sa : PySem.W.findIn K (.ref C) "__setattr__" = some (some (.builtin "object.__setattr__"))) (eC : PySem.W.subIn K (.ref C) (.type "BaseException") = some true) (tC : PySem.W.typeIn K (.ref C) = some (.type "type")) (kC : PySem.W.keepIn K (.ref C) = true)
    (a : PySem.W.findIn K (.ref C) "__init__" = some (some (.ref f))) (t1 : PySem.W.typeIn K (.ref f) = some (.type "function"))
    (l : K.lookup f = some ⟨oc, od, .func (PySem.W.fnOf "__init__" q (defArgs st) (defBody st) (defScope st) .none kV doc pm an cdv ct), osl⟩) (c : PySem.W.codeIn K cdv q = true) (k : PySem.W.keepIn K (.ref f) = true)
    (no : ∀ y ∈ fl, PySem.W.findIn K (.ref C) y = some none) : ∃ f fd, EI K q st ps fl C f fd :=
  ⟨f, _, fun_mk l c k, (fun_mk l c k).binds hb, ⟨⟨nm, qn, N, bs, bm, sn, sub, ab, col, dd, m0, m1, m2, m3, m5, xL, rv⟩, sa, eC, tC, kC⟩, a, t1, no⟩
theorem cls_of {K : PySem.W.Frag} {h : Heap} {mg : Str → Option Value} {x : Str} {C : Addr} (X : K.In h) (G : h.Ns mainGlobals mg) (a : PySem.W.nsIn K mainGlobals x = some (some (.ref C))) : mg x = some (.ref C) := PySem.W.mg_of X G a
theorem kit_ve {K : PySem.W.Frag} {C : Addr} (h : PySem.W.subIn K (.ref C) (.type "ValueError") = some true) : PySem.W.kitOne K (.ref C) (.type "ValueError") = some true := by
  unfold PySem.W.kitOne
  rw [if_neg (by simp)]
  show (if PySem.W.kitMeta "ValueError" = true then PySem.W.subIn K (.ref C) (.type "ValueError") else none) = some true
  rw [if_pos (by decide +kernel)]
  exact h
theorem kit_self (K : PySem.W.Frag) (C : Addr) : PySem.W.kitOne K (.ref C) (.ref C) = some true := if_pos (beq_self_eq_true _)
theorem use {a b : Prop} (h : a) (f : a → b) : b := f h
theorem int_mk {mg : Str → Option Value} {x : Str} {v : Value} {n : Int} (h : mg x = some v) (e : ∃ t, v = .int n t) : ∃ t, mg x = some (.int n t) := by
  obtain ⟨t, rfl⟩ := e
  exact ⟨t, h⟩
theorem all_mk {l : PySem.W.OpenLaw} {w : World} {K : PySem.W.Frag} {mg : Str → Option Value} {fa : Addr} {cT cS : Addr} (hfa : mg "law" = some (.ref fa)) (T : Tx K mg cT cS) :
    ∃ fd : FuncData, (∀ (s : Shared) (v : Value), BindsTo s fd ⟨[v], []⟩ [("script", v)]) ∧ ∀ base : Heap, K.In base → base.Ns mainGlobals mg → FnOk l.prog w K mg base CX0 12 fa fd ["script"] (spLaw K) := by
  obtain ⟨f, fd, d⟩ := T.d_law
  have e := hfa.symm.trans d.m
  cases e
  refine ⟨fd, ?_, fun base _ _ => ok_law T d⟩
  obtain ⟨oc, od, kV, doc, pm, an, cdv, ct, osl, rfl, lk, hcd⟩ := d.F.ex
  exact fun s v => .of_eq rfl
theorem walk {l : PySem.W.OpenLaw} {q : Program} {loose : List Str} {XP : (Str → Option Value) → Heap → Prop} {YP : World → Heap → Prop} {d : DefRec} {K : Params → PySem.W.Frag} (hn : l.most = some 63) (hdf : d.params.defaults = [])
    (hY : ∀ (w : World) (h : Heap), YP w h → (K w.params).In h)
    (F : ∀ (w : World) (mg : Str → Option Value) (fa : Addr) (h : Heap), (K w.params).In h → h.Ns mainGlobals mg → mg d.name = some (.ref fa) →
      ∃ fd : FuncData, (∀ (s : Shared) (u : Value), BindsTo s fd ⟨[u], []⟩ [("script", u)]) ∧ ∀ base : Heap, (K w.params).In base → base.Ns mainGlobals mg → FnOk l.prog w (K w.params) mg base CX0 12 fa fd ["script"] (spLaw (K w.params))) :
    PySem.W.WalkO q loose XP YP l.row.toRowW d [] (fun f vs => PySem.call f vs) :=
  L2.walk_of (n := 63) (k := 12) (x := "script") (CX := fun _ => CX0) (sp := fun w => spLaw (K w.params)) hn (by decide) hdf ⟨rfl, by decide, by decide⟩ hY F (fun _ _ a ns hl _ hS => ⟨a, ns, rfl, hS, hl, fun _ => rfl⟩) fun _ _ _ _ _ z => z
end S4

open PySem PySem.W PyProof.Rows in
set_option maxRecDepth 100000 in
set_option maxHeartbeats 0 in
theorem PySem.Challenge.cw_sametolls_k20_whole_tidings_along_ways_holds : PySem.Challenge.rw_sametolls_k20_whole_tidings_along_ways.Holds := by
  w_on; o_law; k_head; (case hw => w_witness2)
  k_fill
  refine S4.walk (l := PySem.Challenge.rw_sametolls_k20_whole_tidings_along_ways) rfl rfl (fun w h Y => PySem.W.kIn_of Y) ?F
  case F =>
    intro w mg fa h KX G hmg
    refine' S4.use (S4.cls_of (x := "Rules") KX G ?a) (fun m_Rules => ?_)
    (case a => k_is)
    refine' S4.use (S4.cls_of (x := "TollError") KX G ?a) (fun m_TollError => ?_)
    (case a => k_is)
    refine' S4.use (S4.cls_of (x := "NoPost") KX G ?a) (fun m_NoPost => ?_)
    (case a => k_is)
    refine' S4.use (S4.cls_of (x := "NoWay") KX G ?a) (fun m_NoWay => ?_)
    (case a => k_is)
    refine' S4.use (S4.cls_of (x := "BadTree") KX G ?a) (fun m_BadTree => ?_)
    (case a => k_is)
    refine' S4.use (S4.cls_of (x := "BadRules") KX G ?a) (fun m_BadRules => ?_)
    (case a => k_is)
    have b_abs : mg "abs" = none := PySem.W.mg_none_of KX G (by k_is)
    have b_all : mg "all" = none := PySem.W.mg_none_of KX G (by k_is)
    have b_any : mg "any" = none := PySem.W.mg_none_of KX G (by k_is)
    have b_bool : mg "bool" = none := PySem.W.mg_none_of KX G (by k_is)
    have b_enumerate : mg "enumerate" = none := PySem.W.mg_none_of KX G (by k_is)
    have b_int : mg "int" = none := PySem.W.mg_none_of KX G (by k_is)
    have b_isinstance : mg "isinstance" = none := PySem.W.mg_none_of KX G (by k_is)
    have b_len : mg "len" = none := PySem.W.mg_none_of KX G (by k_is)
    have b_list : mg "list" = none := PySem.W.mg_none_of KX G (by k_is)
    have b_max : mg "max" = none := PySem.W.mg_none_of KX G (by k_is)
    have b_min : mg "min" = none := PySem.W.mg_none_of KX G (by k_is)
    have b_range : mg "range" = none := PySem.W.mg_none_of KX G (by k_is)
    have b_sorted : mg "sorted" = none := PySem.W.mg_none_of KX G (by k_is)
    have b_sum : mg "sum" = none := PySem.W.mg_none_of KX G (by k_is)
    have b_tuple : mg "tuple" = none := PySem.W.mg_none_of KX G (by k_is)
    have b_zip : mg "zip" = none := PySem.W.mg_none_of KX G (by k_is)
    have c_MOST_HOURS : ∃ t, mg "MOST_HOURS" = some (.int 1000000 t) := by
      refine' S4.int_mk (PySem.W.mg_of KX G ?a) ?e
      (case a => k_is)
      (case e => exact ⟨_, rfl⟩)
    have c_MOST_TIES : ∃ t, mg "MOST_TIES" = some (.int 23 t) := by
      refine' S4.int_mk (PySem.W.mg_of KX G ?a) ?e
      (case a => k_is)
      (case e => exact ⟨_, rfl⟩)
    have c_MOST_AT_POST : ∃ t, mg "MOST_AT_POST" = some (.int 8 t) := by
      refine' S4.int_mk (PySem.W.mg_of KX G ?a) ?e
      (case a => k_is)
      (case e => exact ⟨_, rfl⟩)
    have c_MOST_IN_ALL : ∃ t, mg "MOST_IN_ALL" = some (.int 60 t) := by
      refine' S4.int_mk (PySem.W.mg_of KX G ?a) ?e
      (case a => k_is)
      (case e => exact ⟨_, rfl⟩)
    refine' S4.use (S4.DE.mk (x := "is_integer") (st := S4.s_is_integer) (ps := ["thing"]) KX G (fun _ _ _ _ _ _ us hl => match us, hl with | [_], _ => rfl) ?a ?l ?c ?k) (fun d_is_integer => ?_)
    (case a => k_is)
    (case l => k_is)
    (case c => k_is)
    (case k => k_is)
    refine' S4.use (S4.DE.mk (x := "is_below") (st := S4.s_is_below) (ps := ["thing", "end"]) KX G (fun _ _ _ _ _ _ us hl => match us, hl with | [_, _], _ => rfl) ?a ?l ?c ?k) (fun d_is_below => ?_)
    (case a => k_is)
    (case l => k_is)
    (case c => k_is)
    (case k => k_is)
    refine' S4.use (S4.DE.mk (x := "is_pair") (st := S4.s_is_pair) (ps := ["thing"]) KX G (fun _ _ _ _ _ _ us hl => match us, hl with | [_], _ => rfl) ?a ?l ?c ?k) (fun d_is_pair => ?_)
    (case a => k_is)
    (case l => k_is)
    (case c => k_is)
    (case k => k_is)
    refine' S4.use (S4.DE.mk (x := "is_row") (st := S4.s_is_row) (ps := ["thing", "p", "wide"]) KX G (fun _ _ _ _ _ _ us hl => match us, hl with | [_, _, _], _ => rfl) ?a ?l ?c ?k) (fun d_is_row => ?_)
    (case a => k_is)
    (case l => k_is)
    (case c => k_is)
    (case k => k_is)
    refine' S4.use (S4.DE.mk (x := "is_clock") (st := S4.s_is_clock) (ps := ["thing"]) KX G (fun _ _ _ _ _ _ us hl => match us, hl with | [_], _ => rfl) ?a ?l ?c ?k) (fun d_is_clock => ?_)
    (case a => k_is)
    (case l => k_is)
    (case c => k_is)
    (case k => k_is)
    refine' S4.use (S4.DE.mk (x := "ladder_of") (st := S4.s_ladder_of) (ps := ["p", "wide", "rows"]) KX G (fun _ _ _ _ _ _ us hl => match us, hl with | [_, _, _], _ => rfl) ?a ?l ?c ?k) (fun d_ladder_of => ?_)
    (case a => k_is)
    (case l => k_is)
    (case c => k_is)
    (case k => k_is)
    refine' S4.use (S4.DE.mk (x := "kernel_of") (st := S4.s_kernel_of) (ps := ["p", "wide", "rows"]) KX G (fun _ _ _ _ _ _ us hl => match us, hl with | [_, _, _], _ => rfl) ?a ?l ?c ?k) (fun d_kernel_of => ?_)
    (case a => k_is)
    (case l => k_is)
    (case c => k_is)
    (case k => k_is)
    refine' S4.use (S4.DE.mk (x := "rungs_of") (st := S4.s_rungs_of) (ps := ["p", "wide", "rows"]) KX G (fun _ _ _ _ _ _ us hl => match us, hl with | [_, _, _], _ => rfl) ?a ?l ?c ?k) (fun d_rungs_of => ?_)
    (case a => k_is)
    (case l => k_is)
    (case c => k_is)
    (case k => k_is)
    refine' S4.use (S4.DE.mk (x := "cleared") (st := S4.s_cleared) (ps := ["p", "rungs", "row"]) KX G (fun _ _ _ _ _ _ us hl => match us, hl with | [_, _, _], _ => rfl) ?a ?l ?c ?k) (fun d_cleared => ?_)
    (case a => k_is)
    (case l => k_is)
    (case c => k_is)
    (case k => k_is)
    refine' S4.use (S4.DE.mk (x := "multiplied") (st := S4.s_multiplied) (ps := ["p", "factor", "row"]) KX G (fun _ _ _ _ _ _ us hl => match us, hl with | [_, _, _], _ => rfl) ?a ?l ?c ?k) (fun d_multiplied => ?_)
    (case a => k_is)
    (case l => k_is)
    (case c => k_is)
    (case k => k_is)
    refine' S4.use (S4.DE.mk (x := "inverse") (st := S4.s_inverse) (ps := ["p", "value"]) KX G (fun _ _ _ _ _ _ us hl => match us, hl with | [_, _], _ => rfl) ?a ?l ?c ?k) (fun d_inverse => ?_)
    (case a => k_is)
    (case l => k_is)
    (case c => k_is)
    (case k => k_is)
    refine' S4.use (S4.DE.mk (x := "first_place") (st := S4.s_first_place) (ps := ["row", "wide"]) KX G (fun _ _ _ _ _ _ us hl => match us, hl with | [_, _], _ => rfl) ?a ?l ?c ?k) (fun d_first_place => ?_)
    (case a => k_is)
    (case l => k_is)
    (case c => k_is)
    (case k => k_is)
    refine' S4.use (S4.DE.mk (x := "unit_rows") (st := S4.s_unit_rows) (ps := ["wide"]) KX G (fun _ _ _ _ _ _ us hl => match us, hl with | [_], _ => rfl) ?a ?l ?c ?k) (fun d_unit_rows => ?_)
    (case a => k_is)
    (case l => k_is)
    (case c => k_is)
    (case k => k_is)
    refine' S4.use (S4.DE.mk (x := "check_ties") (st := S4.s_check_ties) (ps := ["ties"]) KX G (fun _ _ _ _ _ _ us hl => match us, hl with | [_], _ => rfl) ?a ?l ?c ?k) (fun d_check_ties => ?_)
    (case a => k_is)
    (case l => k_is)
    (case c => k_is)
    (case k => k_is)
    refine' S4.use (S4.DE.mk (x := "is_tie") (st := S4.s_is_tie) (ps := ["thing", "posts"]) KX G (fun _ _ _ _ _ _ us hl => match us, hl with | [_, _], _ => rfl) ?a ?l ?c ?k) (fun d_is_tie => ?_)
    (case a => k_is)
    (case l => k_is)
    (case c => k_is)
    (case k => k_is)
    refine' S4.use (S4.DE.mk (x := "tied") (st := S4.s_tied) (ps := ["tree", "post"]) KX G (fun _ _ _ _ _ _ us hl => match us, hl with | [_, _], _ => rfl) ?a ?l ?c ?k) (fun d_tied => ?_)
    (case a => k_is)
    (case l => k_is)
    (case c => k_is)
    (case k => k_is)
    refine' S4.use (S4.DE.mk (x := "this_side") (st := S4.s_this_side) (ps := ["tree", "way"]) KX G (fun _ _ _ _ _ _ us hl => match us, hl with | [_, _], _ => rfl) ?a ?l ?c ?k) (fun d_this_side => ?_)
    (case a => k_is)
    (case l => k_is)
    (case c => k_is)
    (case k => k_is)
    refine' S4.use (S4.DE.mk (x := "neighbours") (st := S4.s_neighbours) (ps := ["ties", "post"]) KX G (fun _ _ _ _ _ _ us hl => match us, hl with | [_, _], _ => rfl) ?a ?l ?c ?k) (fun d_neighbours => ?_)
    (case a => k_is)
    (case l => k_is)
    (case c => k_is)
    (case k => k_is)
    refine' S4.use (S4.DE.mk (x := "reached") (st := S4.s_reached) (ps := ["ties", "start", "barred"]) KX G (fun _ _ _ _ _ _ us hl => match us, hl with | [_, _, _], _ => rfl) ?a ?l ?c ?k) (fun d_reached => ?_)
    (case a => k_is)
    (case l => k_is)
    (case c => k_is)
    (case k => k_is)
    refine' S4.use (S4.DE.mk (x := "is_way") (st := S4.s_is_way) (ps := ["tree", "thing"]) KX G (fun _ _ _ _ _ _ us hl => match us, hl with | [_, _], _ => rfl) ?a ?l ?c ?k) (fun d_is_way => ?_)
    (case a => k_is)
    (case l => k_is)
    (case c => k_is)
    (case k => k_is)
    refine' S4.use (S4.DE.mk (x := "are_counts") (st := S4.s_are_counts) (ps := ["tree", "thing"]) KX G (fun _ _ _ _ _ _ us hl => match us, hl with | [_, _], _ => rfl) ?a ?l ?c ?k) (fun d_are_counts => ?_)
    (case a => k_is)
    (case l => k_is)
    (case c => k_is)
    (case k => k_is)
    refine' S4.use (S4.DE.mk (x := "own_places") (st := S4.s_own_places) (ps := ["counts", "post"]) KX G (fun _ _ _ _ _ _ us hl => match us, hl with | [_, _], _ => rfl) ?a ?l ?c ?k) (fun d_own_places => ?_)
    (case a => k_is)
    (case l => k_is)
    (case c => k_is)
    (case k => k_is)
    refine' S4.use (S4.DE.mk (x := "cut") (st := S4.s_cut) (ps := ["row", "lot"]) KX G (fun _ _ _ _ _ _ us hl => match us, hl with | [_, _], _ => rfl) ?a ?l ?c ?k) (fun d_cut => ?_)
    (case a => k_is)
    (case l => k_is)
    (case c => k_is)
    (case k => k_is)
    refine' S4.use (S4.DE.mk (x := "check_rules") (st := S4.s_check_rules) (ps := ["p", "tree", "unknowns", "rules"]) KX G (fun _ _ _ _ _ _ us hl => match us, hl with | [_, _, _, _], _ => rfl) ?a ?l ?c ?k) (fun d_check_rules => ?_)
    (case a => k_is)
    (case l => k_is)
    (case c => k_is)
    (case k => k_is)
    refine' S4.use (S4.DE.mk (x := "near_unknowns") (st := S4.s_near_unknowns) (ps := ["tree", "unknowns", "post"]) KX G (fun _ _ _ _ _ _ us hl => match us, hl with | [_, _, _], _ => rfl) ?a ?l ?c ?k) (fun d_near_unknowns => ?_)
    (case a => k_is)
    (case l => k_is)
    (case c => k_is)
    (case k => k_is)
    refine' S4.use (S4.DE.mk (x := "is_rule") (st := S4.s_is_rule) (ps := ["p", "wide", "near", "thing"]) KX G (fun _ _ _ _ _ _ us hl => match us, hl with | [_, _, _, _], _ => rfl) ?a ?l ?c ?k) (fun d_is_rule => ?_)
    (case a => k_is)
    (case l => k_is)
    (case c => k_is)
    (case k => k_is)
    refine' S4.use (S4.DE.mk (x := "solution") (st := S4.s_solution) (ps := ["rules"]) KX G (fun _ _ _ _ _ _ us hl => match us, hl with | [_], _ => rfl) ?a ?l ?c ?k) (fun d_solution => ?_)
    (case a => k_is)
    (case l => k_is)
    (case c => k_is)
    (case k => k_is)
    refine' S4.use (S4.DE.mk (x := "loose") (st := S4.s_loose) (ps := ["rules"]) KX G (fun _ _ _ _ _ _ us hl => match us, hl with | [_], _ => rfl) ?a ?l ?c ?k) (fun d_loose => ?_)
    (case a => k_is)
    (case l => k_is)
    (case c => k_is)
    (case k => k_is)
    refine' S4.use (S4.DE.mk (x := "tidings") (st := S4.s_tidings) (ps := ["rules", "way"]) KX G (fun _ _ _ _ _ _ us hl => match us, hl with | [_, _], _ => rfl) ?a ?l ?c ?k) (fun d_tidings => ?_)
    (case a => k_is)
    (case l => k_is)
    (case c => k_is)
    (case k => k_is)
    refine' S4.use (S4.DE.mk (x := "told_at") (st := S4.s_told_at) (ps := ["rules", "post"]) KX G (fun _ _ _ _ _ _ us hl => match us, hl with | [_, _], _ => rfl) ?a ?l ?c ?k) (fun d_told_at => ?_)
    (case a => k_is)
    (case l => k_is)
    (case c => k_is)
    (case k => k_is)
    refine' S4.use (S4.DE.mk (x := "sure_values") (st := S4.s_sure_values) (ps := ["rules", "post"]) KX G (fun _ _ _ _ _ _ us hl => match us, hl with | [_, _], _ => rfl) ?a ?l ?c ?k) (fun d_sure_values => ?_)
    (case a => k_is)
    (case l => k_is)
    (case c => k_is)
    (case k => k_is)
    refine' S4.use (S4.DE.mk (x := "check_post") (st := S4.s_check_post) (ps := ["rules", "post"]) KX G (fun _ _ _ _ _ _ us hl => match us, hl with | [_, _], _ => rfl) ?a ?l ?c ?k) (fun d_check_post => ?_)
    (case a => k_is)
    (case l => k_is)
    (case c => k_is)
    (case k => k_is)
    refine' S4.use (S4.DE.mk (x := "every_post") (st := S4.s_every_post) (ps := ["rules"]) KX G (fun _ _ _ _ _ _ us hl => match us, hl with | [_], _ => rfl) ?a ?l ?c ?k) (fun d_every_post => ?_)
    (case a => k_is)
    (case l => k_is)
    (case c => k_is)
    (case k => k_is)
    refine' S4.use (S4.DE.mk (x := "all_rules") (st := S4.s_all_rules) (ps := ["rules"]) KX G (fun _ _ _ _ _ _ us hl => match us, hl with | [_], _ => rfl) ?a ?l ?c ?k) (fun d_all_rules => ?_)
    (case a => k_is)
    (case l => k_is)
    (case c => k_is)
    (case k => k_is)
    refine' S4.use (S4.DE.mk (x := "told_of") (st := S4.s_told_of) (ps := ["rules", "posts", "kept"]) KX G (fun _ _ _ _ _ _ us hl => match us, hl with | [_, _, _], _ => rfl) ?a ?l ?c ?k) (fun d_told_of => ?_)
    (case a => k_is)
    (case l => k_is)
    (case c => k_is)
    (case k => k_is)
    refine' S4.use (S4.DE.mk (x := "_law_hand") (st := S4.s_law_hand) (ps := ["script"]) KX G (fun _ _ _ _ _ _ us hl => match us, hl with | [_], _ => rfl) ?a ?l ?c ?k) (fun d_law_hand => ?_)
    (case a => k_is)
    (case l => k_is)
    (case c => k_is)
    (case k => k_is)
    refine' S4.use (S4.DE.mk (x := "_law_draw") (st := S4.s_law_draw) (ps := ["hand", "many"]) KX G (fun _ _ _ _ _ _ us hl => match us, hl with | [_, _], _ => rfl) ?a ?l ?c ?k) (fun d_law_draw => ?_)
    (case a => k_is)
    (case l => k_is)
    (case c => k_is)
    (case k => k_is)
    refine' S4.use (S4.DE.mk (x := "_law_any") (st := S4.s_law_any) (ps := ["hand", "some"]) KX G (fun _ _ _ _ _ _ us hl => match us, hl with | [_, _], _ => rfl) ?a ?l ?c ?k) (fun d_law_any => ?_)
    (case a => k_is)
    (case l => k_is)
    (case c => k_is)
    (case k => k_is)
    refine' S4.use (S4.DE.mk (x := "_law_ties") (st := S4.s_law_ties) (ps := ["hand", "most"]) KX G (fun _ _ _ _ _ _ us hl => match us, hl with | [_, _], _ => rfl) ?a ?l ?c ?k) (fun d_law_ties => ?_)
    (case a => k_is)
    (case l => k_is)
    (case c => k_is)
    (case k => k_is)
    refine' S4.use (S4.DE.mk (x := "_law_near") (st := S4.s_law_near) (ps := ["ties", "post"]) KX G (fun _ _ _ _ _ _ us hl => match us, hl with | [_, _], _ => rfl) ?a ?l ?c ?k) (fun d_law_near => ?_)
    (case a => k_is)
    (case l => k_is)
    (case c => k_is)
    (case k => k_is)
    refine' S4.use (S4.DE.mk (x := "_law_ways") (st := S4.s_law_ways) (ps := ["ties"]) KX G (fun _ _ _ _ _ _ us hl => match us, hl with | [_], _ => rfl) ?a ?l ?c ?k) (fun d_law_ways => ?_)
    (case a => k_is)
    (case l => k_is)
    (case c => k_is)
    (case k => k_is)
    refine' S4.use (S4.DE.mk (x := "_law_this_side") (st := S4.s_law_this_side) (ps := ["ties", "way"]) KX G (fun _ _ _ _ _ _ us hl => match us, hl with | [_, _], _ => rfl) ?a ?l ?c ?k) (fun d_law_this_side => ?_)
    (case a => k_is)
    (case l => k_is)
    (case c => k_is)
    (case k => k_is)
    refine' S4.use (S4.DE.mk (x := "_law_places") (st := S4.s_law_places) (ps := ["unknowns", "post"]) KX G (fun _ _ _ _ _ _ us hl => match us, hl with | [_, _], _ => rfl) ?a ?l ?c ?k) (fun d_law_places => ?_)
    (case a => k_is)
    (case l => k_is)
    (case c => k_is)
    (case k => k_is)
    refine' S4.use (S4.DE.mk (x := "_law_dot") (st := S4.s_law_dot) (ps := ["p", "one", "other"]) KX G (fun _ _ _ _ _ _ us hl => match us, hl with | [_, _, _], _ => rfl) ?a ?l ?c ?k) (fun d_law_dot => ?_)
    (case a => k_is)
    (case l => k_is)
    (case c => k_is)
    (case k => k_is)
    refine' S4.use (S4.DE.mk (x := "_law_inverse") (st := S4.s_law_inverse) (ps := ["p", "value"]) KX G (fun _ _ _ _ _ _ us hl => match us, hl with | [_, _], _ => rfl) ?a ?l ?c ?k) (fun d_law_inverse => ?_)
    (case a => k_is)
    (case l => k_is)
    (case c => k_is)
    (case k => k_is)
    refine' S4.use (S4.DE.mk (x := "_law_ladder") (st := S4.s_law_ladder) (ps := ["p", "rows"]) KX G (fun _ _ _ _ _ _ us hl => match us, hl with | [_, _], _ => rfl) ?a ?l ?c ?k) (fun d_law_ladder => ?_)
    (case a => k_is)
    (case l => k_is)
    (case c => k_is)
    (case k => k_is)
    refine' S4.use (S4.DE.mk (x := "_law_all") (st := S4.s_law_all) (ps := ["p", "many"]) KX G (fun _ _ _ _ _ _ us hl => match us, hl with | [_, _], _ => rfl) ?a ?l ?c ?k) (fun d_law_all => ?_)
    (case a => k_is)
    (case l => k_is)
    (case c => k_is)
    (case k => k_is)
    refine' S4.use (S4.DE.mk (x := "_law_allowed") (st := S4.s_law_allowed) (ps := ["parts", "post"]) KX G (fun _ _ _ _ _ _ us hl => match us, hl with | [_, _], _ => rfl) ?a ?l ?c ?k) (fun d_law_allowed => ?_)
    (case a => k_is)
    (case l => k_is)
    (case c => k_is)
    (case k => k_is)
    refine' S4.use (S4.DE.mk (x := "_law_row") (st := S4.s_law_row) (ps := ["hand", "parts", "post"]) KX G (fun _ _ _ _ _ _ us hl => match us, hl with | [_, _, _], _ => rfl) ?a ?l ?c ?k) (fun d_law_row => ?_)
    (case a => k_is)
    (case l => k_is)
    (case c => k_is)
    (case k => k_is)
    refine' S4.use (S4.DE.mk (x := "_law_parts") (st := S4.s_law_parts) (ps := ["hand", "p", "posts", "most", "rules"]) KX G (fun _ _ _ _ _ _ us hl => match us, hl with | [_, _, _, _, _], _ => rfl) ?a ?l ?c ?k) (fun d_law_parts => ?_)
    (case a => k_is)
    (case l => k_is)
    (case c => k_is)
    (case k => k_is)
    refine' S4.use (S4.DE.mk (x := "_law_few") (st := S4.s_law_few) (ps := ["hand"]) KX G (fun _ _ _ _ _ _ us hl => match us, hl with | [_], _ => rfl) ?a ?l ?c ?k) (fun d_law_few => ?_)
    (case a => k_is)
    (case l => k_is)
    (case c => k_is)
    (case k => k_is)
    refine' S4.use (S4.DE.mk (x := "_law_great") (st := S4.s_law_great) (ps := ["hand"]) KX G (fun _ _ _ _ _ _ us hl => match us, hl with | [_], _ => rfl) ?a ?l ?c ?k) (fun d_law_great => ?_)
    (case a => k_is)
    (case l => k_is)
    (case c => k_is)
    (case k => k_is)
    refine' S4.use (S4.DE.mk (x := "_law_every") (st := S4.s_law_every) (ps := ["parts"]) KX G (fun _ _ _ _ _ _ us hl => match us, hl with | [_], _ => rfl) ?a ?l ?c ?k) (fun d_law_every => ?_)
    (case a => k_is)
    (case l => k_is)
    (case c => k_is)
    (case k => k_is)
    refine' S4.use (S4.DE.mk (x := "_law_made") (st := S4.s_law_made) (ps := ["parts"]) KX G (fun _ _ _ _ _ _ us hl => match us, hl with | [_], _ => rfl) ?a ?l ?c ?k) (fun d_law_made => ?_)
    (case a => k_is)
    (case l => k_is)
    (case c => k_is)
    (case k => k_is)
    refine' S4.use (S4.DE.mk (x := "_law_loose") (st := S4.s_law_loose) (ps := ["p", "rows", "many"]) KX G (fun _ _ _ _ _ _ us hl => match us, hl with | [_, _, _], _ => rfl) ?a ?l ?c ?k) (fun d_law_loose => ?_)
    (case a => k_is)
    (case l => k_is)
    (case c => k_is)
    (case k => k_is)
    refine' S4.use (S4.DE.mk (x := "_law_least") (st := S4.s_law_least) (ps := ["p", "rows", "rights", "many"]) KX G (fun _ _ _ _ _ _ us hl => match us, hl with | [_, _, _, _], _ => rfl) ?a ?l ?c ?k) (fun d_law_least => ?_)
    (case a => k_is)
    (case l => k_is)
    (case c => k_is)
    (case k => k_is)
    refine' S4.use (S4.DE.mk (x := "_law_left") (st := S4.s_law_left) (ps := ["p", "rows", "kept"]) KX G (fun _ _ _ _ _ _ us hl => match us, hl with | [_, _, _], _ => rfl) ?a ?l ?c ?k) (fun d_law_left => ?_)
    (case a => k_is)
    (case l => k_is)
    (case c => k_is)
    (case k => k_is)
    refine' S4.use (S4.DE.mk (x := "_law_rows_of") (st := S4.s_law_rows_of) (ps := ["parts", "posts"]) KX G (fun _ _ _ _ _ _ us hl => match us, hl with | [_, _], _ => rfl) ?a ?l ?c ?k) (fun d_law_rows_of => ?_)
    (case a => k_is)
    (case l => k_is)
    (case c => k_is)
    (case k => k_is)
    refine' S4.use (S4.DE.mk (x := "_law_by_all") (st := S4.s_law_by_all) (ps := ["p", "rows", "kept"]) KX G (fun _ _ _ _ _ _ us hl => match us, hl with | [_, _, _], _ => rfl) ?a ?l ?c ?k) (fun d_law_by_all => ?_)
    (case a => k_is)
    (case l => k_is)
    (case c => k_is)
    (case k => k_is)
    refine' S4.use (S4.DE.mk (x := "_law_due") (st := S4.s_law_due) (ps := ["parts", "posts", "kept"]) KX G (fun _ _ _ _ _ _ us hl => match us, hl with | [_, _, _], _ => rfl) ?a ?l ?c ?k) (fun d_law_due => ?_)
    (case a => k_is)
    (case l => k_is)
    (case c => k_is)
    (case k => k_is)
    refine' S4.use (S4.DE.mk (x := "_law_kept") (st := S4.s_law_kept) (ps := ["parts", "posts"]) KX G (fun _ _ _ _ _ _ us hl => match us, hl with | [_, _], _ => rfl) ?a ?l ?c ?k) (fun d_law_kept => ?_)
    (case a => k_is)
    (case l => k_is)
    (case c => k_is)
    (case k => k_is)
    refine' S4.use (S4.DE.mk (x := "_law_spread") (st := S4.s_law_spread) (ps := ["parts", "posts", "step"]) KX G (fun _ _ _ _ _ _ us hl => match us, hl with | [_, _, _], _ => rfl) ?a ?l ?c ?k) (fun d_law_spread => ?_)
    (case a => k_is)
    (case l => k_is)
    (case c => k_is)
    (case k => k_is)
    refine' S4.use (S4.DE.mk (x := "_law_values") (st := S4.s_law_values) (ps := ["parts", "post"]) KX G (fun _ _ _ _ _ _ us hl => match us, hl with | [_, _], _ => rfl) ?a ?l ?c ?k) (fun d_law_values => ?_)
    (case a => k_is)
    (case l => k_is)
    (case c => k_is)
    (case k => k_is)
    refine' S4.use (S4.DE.mk (x := "_law_right") (st := S4.s_law_right) (ps := ["parts"]) KX G (fun _ _ _ _ _ _ us hl => match us, hl with | [_], _ => rfl) ?a ?l ?c ?k) (fun d_law_right => ?_)
    (case a => k_is)
    (case l => k_is)
    (case c => k_is)
    (case k => k_is)
    refine' S4.use (S4.DE.mk (x := "law") (st := S4.s_law) (ps := ["script"]) KX G (fun _ _ _ _ _ _ us hl => match us, hl with | [_], _ => rfl) ?a ?l ?c ?k) (fun d_law => ?_)
    (case a => k_is)
    (case l => k_is)
    (case c => k_is)
    (case k => k_is)
    have b_ValueError : mg "ValueError" = none := PySem.W.mg_none_of KX G (by k_is)
    refine' S4.all_mk (cS := 0) hmg (S4.Tx.mk b_abs b_all b_any b_bool b_enumerate b_int b_isinstance b_len b_list b_max b_min b_range b_sorted b_sum b_tuple b_zip c_MOST_HOURS c_MOST_TIES c_MOST_AT_POST c_MOST_IN_ALL d_is_integer d_is_below d_is_pair d_is_row d_is_clock d_ladder_of d_kernel_of d_rungs_of d_cleared d_multiplied d_inverse d_first_place d_unit_rows d_check_ties d_is_tie d_tied d_this_side d_neighbours d_reached d_is_way d_are_counts d_own_places d_cut d_check_rules d_near_unknowns d_is_rule d_solution d_loose d_tidings d_told_at d_sure_values d_check_post d_every_post d_all_rules d_told_of d_law_hand d_law_draw d_law_any d_law_ties d_law_near d_law_ways d_law_this_side d_law_places d_law_dot d_law_inverse d_law_ladder d_law_all d_law_allowed d_law_row d_law_parts d_law_few d_law_great d_law_every d_law_made d_law_loose d_law_least d_law_left d_law_rows_of d_law_by_all d_law_due d_law_kept d_law_spread d_law_values d_law_right d_law ?h0 ?h1 ?h2 ?h3 ?h4 ?h5 ?h6 ?h7 ?h8 ?h9 ?h10 ?h11 ?h12 ?h13 ?h14 ?h15 ?h16 ?h17 ?h18 ?h19 ?h20 ?h21 ?h22 ?h23 ?h24 ?h25 ?h26 ?h27 ?h28 ?h29 ?h30 ?h31 ?h32 ?h33 ?h34 ?h35 ?h36 ?h37 ?h38 ?h39 ?h40 ?h41 ?h42 ?h43 ?h44 b_ValueError)
    case h0 =>
      skip
      refine' S4.dc_mk KX G (fun _ _ _ _ _ _ us hl => match us, hl with | [_, _], _ => rfl) ?aC ?a ?i ?l ?c ?k ?mk ?kc ?pg ?hd ?po ?sa ?na
      (case aC => exact PySem.W.mg_of KX G (by k_is))
      (case a => k_is)
      (case i => k_is)
      (case l => k_is)
      (case c => k_is)
      (case k => k_is)
      (case mk => k_is)
      (case kc => k_is)
      (case pg => k_is)
      (case hd => k_is)
      (case po => k_is)
      (case sa => k_is)
      case na =>
        intro y hy
        simp only [List.mem_cons, List.not_mem_nil, or_false] at hy
        rcases hy with rfl | rfl
        · show PySem.W.findIn _ _ _ = some none
          k_is
        · show PySem.W.findIn _ _ _ = some none
          k_is
    case h1 =>
      skip
      refine' ⟨⟨?pg, ?hd, ?po, ?sa⟩, ?ha, ?hn, ?htk, ?hm, S4.kit_self _ _⟩
      (case pg => k_is)
      (case hd => k_is)
      (case po => k_is)
      (case sa => k_is)
      (case ha => k_is)
      (case hn => k_is)
      (case htk => k_is)
      (case hm => k_is)
    case h2 =>
      skip
      k_is
    case h3 =>
      skip
      refine' S4.dm_mk (fun _ _ _ _ _ _ us hl => match us, hl with | [_, _], _ => rfl) ?a ?i ?l ?c ?k
      (case a => k_is)
      (case i => k_is)
      (case l => k_is)
      (case c => k_is)
      (case k => k_is)
    case h4 =>
      skip
      k_is
    case h5 =>
      rw [S4.adr_of m_Rules]
      refine' S4.dc_mk KX G (fun _ _ _ _ _ _ us hl => match us, hl with | [_, _, _, _, _], _ => rfl) m_Rules ?a ?i ?l ?c ?k ?mk ?kc ?pg ?hd ?po ?sa ?na
      (case a => k_is)
      (case i => k_is)
      (case l => k_is)
      (case c => k_is)
      (case k => k_is)
      (case mk => k_is)
      (case kc => k_is)
      (case pg => k_is)
      (case hd => k_is)
      (case po => k_is)
      (case sa => k_is)
      case na =>
        intro y hy
        simp only [List.mem_cons, List.not_mem_nil, or_false] at hy
        rcases hy with rfl | rfl | rfl | rfl
        · show PySem.W.findIn _ _ _ = some none
          k_is
        · show PySem.W.findIn _ _ _ = some none
          k_is
        · show PySem.W.findIn _ _ _ = some none
          k_is
        · show PySem.W.findIn _ _ _ = some none
          k_is
    case h6 =>
      rw [S4.adr_of m_Rules]
      refine' ⟨⟨?pg, ?hd, ?po, ?sa⟩, ?ha, ?hn, ?htk, ?hm, S4.kit_self _ _⟩
      (case pg => k_is)
      (case hd => k_is)
      (case po => k_is)
      (case sa => k_is)
      (case ha => k_is)
      (case hn => k_is)
      (case htk => k_is)
      (case hm => k_is)
    case h7 =>
      rw [S4.adr_of m_Rules]
      k_is
    case h8 =>
      rw [S4.adr_of m_Rules]
      refine' S4.dm_mk (fun _ _ _ _ _ _ us hl => match us, hl with | [_, _], _ => rfl) ?a ?i ?l ?c ?k
      (case a => k_is)
      (case i => k_is)
      (case l => k_is)
      (case c => k_is)
      (case k => k_is)
    case h9 =>
      rw [S4.adr_of m_Rules]
      k_is
    case h10 =>
      rw [S4.adr_of m_TollError]
      refine' ⟨m_TollError, ?kp, ?ty, ⟨?hg, ?hk, ?hs, ?hd, ?ha, ?hn, ?ht, ?hm⟩, ?ve⟩
      (case kp => k_is)
      (case ty => k_is)
      (case hg => k_is)
      (case hk => k_is)
      (case hs => k_is)
      (case hd => k_is)
      (case ha => k_is)
      (case hn => k_is)
      (case ht => k_is)
      (case hm => k_is)
      (case ve => first | (refine' S4.kit_ve ?w; done) | (refine' S4.kit_ve ?vw; k_is) | (refine' S4.kit_ve ?_; exact (by k_is)))
    case h11 =>
      rw [S4.adr_of m_TollError]
      show PySem.W.excIn _ _ _ _ = true
      k_exc
    case h12 =>
      rw [S4.adr_of m_NoPost]
      refine' ⟨m_NoPost, ?kp, ?ty, ⟨?hg, ?hk, ?hs, ?hd, ?ha, ?hn, ?ht, ?hm⟩, ?ve⟩
      (case kp => k_is)
      (case ty => k_is)
      (case hg => k_is)
      (case hk => k_is)
      (case hs => k_is)
      (case hd => k_is)
      (case ha => k_is)
      (case hn => k_is)
      (case ht => k_is)
      (case hm => k_is)
      (case ve => first | (refine' S4.kit_ve ?w; done) | (refine' S4.kit_ve ?vw; k_is) | (refine' S4.kit_ve ?_; exact (by k_is)))
    case h13 =>
      rw [S4.adr_of m_NoPost]
      show PySem.W.excIn _ _ _ _ = true
      k_exc
    case h14 =>
      rw [S4.adr_of m_NoWay]
      refine' ⟨m_NoWay, ?kp, ?ty, ⟨?hg, ?hk, ?hs, ?hd, ?ha, ?hn, ?ht, ?hm⟩, ?ve⟩
      (case kp => k_is)
      (case ty => k_is)
      (case hg => k_is)
      (case hk => k_is)
      (case hs => k_is)
      (case hd => k_is)
      (case ha => k_is)
      (case hn => k_is)
      (case ht => k_is)
      (case hm => k_is)
      (case ve => first | (refine' S4.kit_ve ?w; done) | (refine' S4.kit_ve ?vw; k_is) | (refine' S4.kit_ve ?_; exact (by k_is)))
    case h15 =>
      rw [S4.adr_of m_NoWay]
      show PySem.W.excIn _ _ _ _ = true
      k_exc
    case h16 =>
      rw [S4.adr_of m_BadTree]
      refine' ⟨m_BadTree, ?kp, ?ty, ⟨?hg, ?hk, ?hs, ?hd, ?ha, ?hn, ?ht, ?hm⟩, ?ve⟩
      (case kp => k_is)
      (case ty => k_is)
      (case hg => k_is)
      (case hk => k_is)
      (case hs => k_is)
      (case hd => k_is)
      (case ha => k_is)
      (case hn => k_is)
      (case ht => k_is)
      (case hm => k_is)
      (case ve => first | (refine' S4.kit_ve ?w; done) | (refine' S4.kit_ve ?vw; k_is) | (refine' S4.kit_ve ?_; exact (by k_is)))
    case h17 =>
      rw [S4.adr_of m_BadTree]
      refine' S4.ei_mk (fun _ _ _ _ _ _ us hl => match us, hl with | [_, _], _ => rfl) ?xL ?rv ?sa ?eC ?tC ?kC ?a ?t1 ?l ?c ?k ?no
      (case xL => k_is)
      (case rv => first | rfl | decide +kernel)
      (case sa => k_is)
      (case eC => k_is)
      (case tC => k_is)
      (case kC => k_is)
      (case a => k_is)
      (case t1 => k_is)
      (case l => k_is)
      (case c => k_is)
      (case k => k_is)
      case no =>
        intro y hy
        simp only [List.mem_cons, List.not_mem_nil, or_false] at hy
        rcases hy with rfl
        · k_is
    case h18 =>
      rw [S4.adr_of m_BadRules]
      refine' ⟨m_BadRules, ?kp, ?ty, ⟨?hg, ?hk, ?hs, ?hd, ?ha, ?hn, ?ht, ?hm⟩, ?ve⟩
      (case kp => k_is)
      (case ty => k_is)
      (case hg => k_is)
      (case hk => k_is)
      (case hs => k_is)
      (case hd => k_is)
      (case ha => k_is)
      (case hn => k_is)
      (case ht => k_is)
      (case hm => k_is)
      (case ve => first | (refine' S4.kit_ve ?w; done) | (refine' S4.kit_ve ?vw; k_is) | (refine' S4.kit_ve ?_; exact (by k_is)))
    case h19 =>
      rw [S4.adr_of m_BadRules]
      refine' S4.ei_mk (fun _ _ _ _ _ _ us hl => match us, hl with | [_, _], _ => rfl) ?xL ?rv ?sa ?eC ?tC ?kC ?a ?t1 ?l ?c ?k ?no
      (case xL => k_is)
      (case rv => first | rfl | decide +kernel)
      (case sa => k_is)
      (case eC => k_is)
      (case tC => k_is)
      (case kC => k_is)
      (case a => k_is)
      (case t1 => k_is)
      (case l => k_is)
      (case c => k_is)
      (case k => k_is)
      case no =>
        intro y hy
        simp only [List.mem_cons, List.not_mem_nil, or_false] at hy
        rcases hy with rfl
        · k_is
    case h20 =>
      rw [S4.adr_of m_TollError]
      k_is
    case h21 =>
      rw [S4.adr_of m_TollError, S4.adr_of m_NoPost]
      k_is
    case h22 =>
      rw [S4.adr_of m_TollError, S4.adr_of m_NoWay]
      k_is
    case h23 =>
      rw [S4.adr_of m_TollError, S4.adr_of m_BadTree]
      k_is
    case h24 =>
      rw [S4.adr_of m_TollError, S4.adr_of m_BadRules]
      k_is
    case h25 =>
      rw [S4.adr_of m_NoPost, S4.adr_of m_TollError]
      k_is
    case h26 =>
      rw [S4.adr_of m_NoPost]
      k_is
    case h27 =>
      rw [S4.adr_of m_NoPost, S4.adr_of m_NoWay]
      k_is
    case h28 =>
      rw [S4.adr_of m_NoPost, S4.adr_of m_BadTree]
      k_is
    case h29 =>
      rw [S4.adr_of m_NoPost, S4.adr_of m_BadRules]
      k_is
    case h30 =>
      rw [S4.adr_of m_NoWay, S4.adr_of m_TollError]
      k_is
    case h31 =>
      rw [S4.adr_of m_NoWay, S4.adr_of m_NoPost]
      k_is
    case h32 =>
      rw [S4.adr_of m_NoWay]
      k_is
    case h33 =>
      rw [S4.adr_of m_NoWay, S4.adr_of m_BadTree]
      k_is
    case h34 =>
      rw [S4.adr_of m_NoWay, S4.adr_of m_BadRules]
      k_is
    case h35 =>
      rw [S4.adr_of m_BadTree, S4.adr_of m_TollError]
      k_is
    case h36 =>
      rw [S4.adr_of m_BadTree, S4.adr_of m_NoPost]
      k_is
    case h37 =>
      rw [S4.adr_of m_BadTree, S4.adr_of m_NoWay]
      k_is
    case h38 =>
      rw [S4.adr_of m_BadTree]
      k_is
    case h39 =>
      rw [S4.adr_of m_BadTree, S4.adr_of m_BadRules]
      k_is
    case h40 =>
      rw [S4.adr_of m_BadRules, S4.adr_of m_TollError]
      k_is
    case h41 =>
      rw [S4.adr_of m_BadRules, S4.adr_of m_NoPost]
      k_is
    case h42 =>
      rw [S4.adr_of m_BadRules, S4.adr_of m_NoWay]
      k_is
    case h43 =>
      rw [S4.adr_of m_BadRules, S4.adr_of m_BadTree]
      k_is
    case h44 =>
      rw [S4.adr_of m_BadRules]
      k_is
