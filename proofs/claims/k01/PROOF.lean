import PyProof.Rows.All
import Wide.All
import OpenK.AllK
import Wide.FinOn
import HandS.ForMost
import HandS.Sort
import HandS.SortRule
import HandS.SortInts
import HandS.Conv
import HandS.Codes
import HandS.Deep
import HandS.TupLe
import HandS.TupAny
import HandS.TupMul
import HandS.Style
import HandS.Zip
import HandS.More
import HandS.Flow
import HandS.Walk
import HandS.IsInst
import KE.KTupSum
import PyProof.TupleOfSeq
import PyProof.Draws
import PyProof.EnumMake
import KE.GoesMore
import KE.GoesEnum
import KE.KDictDisplayH
import HandS.WordsDict
import PySem.Challenge.RW_sametolls_k01_whole_ladders_and_ranks
set_option Elab.async false
set_option autoImplicit false
set_option linter.all false
set_option maxRecDepth 100000
set_option maxHeartbeats 4000000
/-! rules that the hand layer lacks: sum, sorted, enumerate, in, [::-1], * of tuples -/
namespace TT
open PySem PySem.Spec PyProof.Rows L2
section
variable {X : Cx}
/-! ### sum(t), t a tuple of ints -/
def rSumT (K : PySem.W.Frag) : List V → Hp → VK → Prop := fun vs H Q => ∃ (a : Addr) (ns : List Int), vs = [V.ref a] ∧ SqT K H a (ns.map V.int) ∧ Q (.int ns.sum) H
theorem cr_sumT (hc : X.calm = true) : CallR X (.builtin "sum") (rSumT X.K) := by
  intro pins s σ H vs us Q I r h
  obtain ⟨a, ns, rfl, hs, q⟩ := h
  obtain ⟨its, rv, hl, _⟩ := I.tuple hs
  rw [Vals.ref1 r]
  have hi : IntsAre its ns := rv.ints
  obtain ⟨xs, e⟩ := hi.allInts.items
  have hn : numsOf (intItems xs).toList = ns := by rw [← e]; exact hi.numsOf
  rw [nums_intItems] at hn
  obtain ⟨o, ho, hc', n, hd⟩ := id hl
  have hl2 : s.heap.IsTuple a (intItems xs) := by
    rw [← e]
    exact ⟨o, ho, hc', n, hd⟩
  refine PySem.W.ktm_sumG (I.ok.hd hc) hl2 fun h' tk t' hk => ?_
  rw [preSum_eq, List.take_of_length_le (by simp), hn]
  exact ⟨.int _, H, I.kept hk, ⟨_, rfl⟩, q⟩
/-! ### x in t, t a tuple of data -/
def rInT (K : PySem.W.Frag) : R2 := fun x y H Q => ∃ d ds, Dp K H x d ∧ Dp K H y (.tuple ds) ∧ SeqAt.shaped d = true ∧ SeqAt.shaped (.tuple ds) = true ∧ Q (.bl (ds.any fun z => PyData.eqv z d)) H
theorem op_inT (hu : X.A.units + 65 < cLine) : OpR X (compareOp .In) (rInT X.K) := by
  intro pins s σ H x y v u Q I rx ry h
  obtain ⟨d, ds, hd, he, sd, se, q⟩ := h
  obtain ⟨as, r1⟩ := Dp.reads I d x v hd rx
  obtain ⟨bs, r2⟩ := Dp.reads I (.tuple ds) y u he ry
  exact SeqAt.in_tuple_reads r2 r1 (SeqAt.canLay_of_shaped se) (SeqAt.canLay_of_shaped sd) (room_in_shaped sd hu) ⟨.bl _, H, I, rfl, q⟩
end
/-! ### t[::-1] -/
section
variable {prog : Program} {w : World} {A : Around} {E : Value → Shared → Prop} {s : Shared}
theorem adjust_rev (n : Nat) : Builtin.Slice.sliceAdjust none none (-1) (n : Int) = ((n : Int) - 1, -1) := rfl
theorem places_rev (n : Nat) : Builtin.Slice.slicePlaces ((n : Int) - 1) (-1) (-1) = n := by
  unfold Builtin.Slice.slicePlaces
  rw [if_neg (by decide)]
  have e : (-(-1 : Int)) = 1 := by decide
  rw [e, Int.ediv_one]
  split <;> omega
theorem pick_rev (xs : Array Value) : ((List.range xs.size).filterMap fun (k : Nat) => xs[(((xs.size : Int) - 1) + (k : Int) * (-1)).toNat]?).toArray = xs.toList.reverse.toArray := by
  have e : (List.range xs.size).filterMap (fun (k : Nat) => xs[(((xs.size : Int) - 1) + (k : Int) * (-1)).toNat]?) = xs.toList.reverse := by
    have h : ∀ (n : Nat), n ≤ xs.size → (List.range n).filterMap (fun (k : Nat) => xs[(((xs.size : Int) - 1) + (k : Int) * (-1)).toNat]?) = xs.toList.reverse.take n := by
      intro n
      induction n with
      | zero => intro _; simp
      | succ n ih =>
        intro hn
        rw [List.range_succ, List.filterMap_append, ih (by omega), List.take_succ]
        congr 1
        have e1 : (((xs.size : Int) - 1) + (n : Int) * (-1)).toNat = xs.size - 1 - n := by omega
        rw [List.filterMap_cons, e1, List.getElem?_reverse (by rw [Array.length_toList]; omega), Array.length_toList, Array.getElem?_toList]
        cases xs[xs.size - 1 - n]? <;> rfl
    have := h xs.size (Nat.le_refl _)
    rw [this, List.take_of_length_le (by rw [List.length_reverse, Array.length_toList]; exact Nat.le_refl _)]
  rw [e]
theorem getItem_tuple_rev {t sl : Addr} {items : Array Value} {u : Tok} {Q : Value → Shared → Prop} (ht : IsTup s.heap t items) (hs : s.heap.IsSliceOf sl .none .none (.int (-1) u))
    (h : Q (.ref s.heap.objs.size) { s with heap := s.heap.push { cls := .type "tuple", data := .seq items.toList.reverse.toArray } })
    (hsz : items.size ≤ sizeLine) : wpAny (model prog w) A (getItem (.ref t) (.ref sl)) Q E s := by
  have htake : sizeOk (.seq items.toList.reverse.toArray) := by
    show items.toList.reverse.toArray.size ≤ sizeLine
    rw [List.size_toArray, List.length_reverse, Array.length_toList]
    exact hsz
  obtain ⟨os, hos, hcs, hds⟩ := id hs
  have hTs : s.TypeIs (.ref sl) "slice" := ⟨os, hos, hcs⟩
  unfold getItem
  try with_reducible refine wpAny_holding ?_
  first | refine wpAny_bind (wpAny_pure ?_) | skip
  refine wpAny_bind (wpAny_sequenceKey ht.typeIs (by decide) ?_)
  refine wpAny_bind (wpAny_callSpecial?_slot (name := Str.ofString "__getitem__") ht.typeIs PyProof.Rows.slot_tuple_getitem
    (wpAny_call_entry PyProof.Rows.slot_tuple_getitem ht.typeIs entry_tuple_getitem ?_ (args_tuple_getitem _ _)))
  show wpAny _ _ (Builtin.Tuple.tupleItemsOf (.ref t) >>= _) _ _ s
  refine wpAny_bind (tupleItemsOf_ ht ?_)
  refine wpAny_bind (wpAny_typeOf hTs ?_)
  rw [if_pos (by decide)]
  refine wpAny_bind ?_
  unfold Builtin.Slice.sliceApplied Builtin.Slice.sliceFields
  refine wpAny_bind (wpAny_bind (wpAny_field hos hds (x := .none) rfl (wpAny_bind (wpAny_field hos hds (x := .none) rfl (wpAny_bind (wpAny_field hos hds (x := .int (-1) u) rfl (wpAny_pure ?_)))))))
  refine wpAny_bind (slicePart_int ?_)
  show wpAny _ _ (if ((-1 : Int) == 0) = true then _ else _) _ _ s
  rw [if_neg (by decide)]
  refine wpAny_bind (slicePart_none (wpAny_bind (slicePart_none (wpAny_bind (wpAny_pure ?_)))))
  show wpAny _ _ (match Builtin.Slice.sliceAdjust none none (-1) (items.size : Int) with | (lo, hi) => pure (lo, (-1 : Int), Builtin.Slice.slicePlaces lo hi (-1))) _ _ s
  rw [adjust_rev]
  show wpAny _ _ (pure (((items.size : Int) - 1), (-1 : Int), Builtin.Slice.slicePlaces ((items.size : Int) - 1) (-1) (-1))) _ _ s
  rw [places_rev]
  refine wpAny_pure ?_
  have hno : ¬ ((((items.size : Int) - 1) == 0 && (-1 : Int) == 1 && (items.size == items.size)) = true) := by
    rw [show ((-1 : Int) == 1) = false from by decide, Bool.and_false, Bool.false_and]
    exact Bool.false_ne_true
  show wpAny _ _ (if (((items.size : Int) - 1) == 0 && (-1 : Int) == 1 && (items.size == items.size)) = true then _ else _) _ _ s
  rw [if_neg hno, pick_rev]
  first
    | exact wpAny_bind (m := Builtin.Tuple.tupleExact _) (wpAny_newObj_type (wpAny_pure ⟨_, rfl, wpAny_pure h⟩) htake)
    | exact wpAny_bind (m := Builtin.Tuple.tupleExact _) (wpAny_newObj_type (wpAny_bind (wpAny_pure (wpAny_pure ⟨_, rfl, wpAny_pure h⟩))) htake)
    | exact wpAny_bind (wpAny_bind (m := Builtin.Tuple.tupleExact _) (wpAny_newObj_type (wpAny_pure (wpAny_pure ⟨_, rfl, wpAny_pure h⟩)) htake))
    | exact wpAny_bind (wpAny_bind (m := Builtin.Tuple.tupleExact _) (wpAny_newObj_type (wpAny_pure ⟨_, rfl, wpAny_pure h⟩) htake))
end
section
variable {X : Cx}
def tRevT (K : PySem.W.Frag) (te : TE) : TE := fun σ H Q => te σ H fun x H1 => ∃ a xs, x = .ref a ∧ SqT K H1 a xs ∧ ∀ p, H1 p = none → Q (.ref p) (upd H1 p (.tup xs.reverse))
theorem pe_revT {e : Expr} {te : TE} {k : Nat} {p1 p2 p3 pos : Pos} (he : PE X e te) : PE X (.Subscript e (.Slice none none (some (.UnaryOp .USub (.Constant (.int 1) k p1) p2)) p3) pos) (tRevT X.K te) := by
  refine ⟨fun pins s σ H Q I h => ?_⟩
  refine Subscript_ (thn (he.run pins s σ H _ I h) fun v s1 ⟨x, H1, I1, r1, q1⟩ => ?_)
  obtain ⟨a, xs, ex, hx, q⟩ := q1
  subst ex
  cases r1
  have hst : PO X (some (.UnaryOp .USub (.Constant (.int 1) k p1) p2)) (tPart (tUn (rU fun i => .int (-i)) (tC (.int 1)))) := po_some (pe_un un_neg pe_int)
  refine wpAny_Slice (thn (po_none.run pins s1 σ H1 (fun o H2 => o = none ∧ H2 = H1) I1 ⟨rfl, rfl⟩) fun vl s2 ⟨l, H2, I2, pl, el, e2⟩ => ?_)
  subst el e2
  refine thn (po_none.run pins s2 σ H2 (fun o H3 => o = none ∧ H3 = H2) I2 ⟨rfl, rfl⟩) fun vu s3 ⟨u, H3, I3, pu, eu, e3⟩ => ?_
  subst eu e3
  refine thn (hst.run pins s3 σ H3 (fun o H4 => o = some (-1) ∧ H4 = H3) I3 ⟨1, rfl, -1, rfl, rfl, rfl⟩) fun vs s4 ⟨o, H4, I4, ps, eo, e4⟩ => ?_
  subst eo e4
  have I5 : Inv X pins σ H4 { s4 with heap := s4.heap.push { cls := .type "slice", data := .fields #[vl, vu, vs] } } := I4.kept (t' := s4.toks) fun b ob q => Heap.get?_push_of_some _ q
  obtain ⟨its, r, ht, hz⟩ := I5.tuple hx
  have hlen := r.length
  show wpAny (model X.prog X.w) X.A (subscriptTail e (.Slice none none (some (.UnaryOp .USub (.Constant (.int 1) k p1) p2)) p3) (.ref a) (.ref s4.heap.objs.size)) (EP X pins σ Q) X.xe { s4 with heap := s4.heap.push { cls := .type "slice", data := .fields #[vl, vu, vs] } }
  cases pl
  cases pu
  cases ps with
  | int i t =>
    refine tail_any (ops := [.ref a, .ref s4.heap.objs.size]) ht.typeIs (PyProof.Rows.slot_tuple_getitem.lookup) ?_ (by with_unfolding_all rfl)
    refine getItem_tuple_rev ht (Heap.IsSliceOf.new _ .none .none (.int (-1) t)) ?_ (by rw [List.size_toArray]; omega)
    refine ⟨.ref _, _, I5.laid (t' := s4.toks) (o := .tup xs.reverse) (fun b ob q => Heap.get?_push_of_some _ q) (Nat.le_refl _) ?_, rfl, q _ (I5.hok.fresh (Nat.le_refl _))⟩
    exact ⟨by rw [List.length_reverse]; exact hz, _, r.reverse, IsTup.new _ _⟩
end
/-! ### enumerate(t), t a tuple -/
def IteT (K : PySem.W.Frag) (a : Addr) : It :=
  ⟨fun i H => ∃ (xs : List V) (x : V), SqT K H a xs ∧ xs[i]? = some x, fun i H v H' => ∃ T x, v = .ref T ∧ H T = none ∧ H' = upd H T (.tup [.int (i : Nat), x]) ∧ ∀ xs, SqT K H a xs → xs[i]? = some x, fun i H => ∃ xs : List V, SqT K H a xs ∧ i = xs.length⟩
theorem turn_enumT {P : Program} {w : World} {K : PySem.W.Frag} {elts : List Expr} {kk : Nat} {tpos : Pos} (a e it : Addr) (hai : a ≠ it) :
    Turn P w K (.Tuple elts kk tpos) (IteT K a) [e, it] e (fun i h => (∃ old, IsEnum h e it ((i : Nat) : Int) old) ∧ h.IsTupleIter it a i ∧ e ≠ it ∧ e ≠ a) where
  mem := by simp
  obj := fun i h st b hb => by
    obtain ⟨⟨old, he⟩, ⟨o, ho, hc, hd⟩, _⟩ := st
    have e' : b = e ∨ b = it := by simpa using hb
    rcases e' with z | z
    · rw [z]; exact ⟨_, he, fun v q => nomatch q⟩
    · rw [z]; exact ⟨o, ho, fun v q => by rw [hd] at q; cases q⟩
  keep := fun i h h' st k => let ⟨⟨old, he⟩, hi, hne⟩ := st; ⟨⟨old, k e (by simp) _ he⟩, hi.at fun o q => k it (by simp) o q, hne⟩
  item := by
    intro X hP hw hK hc i pins s σ H E I hf st hg
    subst hP hw hK
    obtain ⟨⟨old, he⟩, hit, hne, hnea⟩ := st
    obtain ⟨xs, x, hq, hx⟩ := hg
    obtain ⟨its, rv, p, hz⟩ := I.tuple hq
    obtain ⟨u, hu, ru⟩ := rv.get hx
    have hel : e < s.heap.objs.size := Heap.lt_size he
    have hil : it < s.heap.objs.size := by obtain ⟨_, q, _⟩ := hit; exact Heap.lt_size q
    have hlt : i < its.toArray.size := by
      rw [List.size_toArray]
      exact (List.getElem?_eq_some_iff.mp hu).1
    have p' : s.heap.IsTuple a its.toArray := p
    have D := Draws.tuple (prog := X.prog) (w := X.w) (A := X.A.in1) (I.ok.hd hc) it a hai its.toArray
    refine wpAny_pyNext_enum_itemD D he ⟨hit, p'⟩ hlt hne (by simp [hne, hnea]) fun u' h' tk hP' ho st' hT hsz hk => ?_
    have hu2 : u' = u := by
      have : its.toArray[i]? = some u' := hP'
      rw [show its.toArray[i]? = its[i]? by simp] at this
      rw [hu] at this
      exact (Option.some.inj this).symm
    subst hu2
    have hit' := st'.1
    refine ⟨_, rfl, wpAny_letOwnedTupleGo_enum (s := { s with heap := h', toks := tk + 1 }) ho fun h'' he' sb => ?_⟩
    have hT2 : h''.get? s.heap.objs.size = some { cls := .type "tuple", data := .seq #[.int i tk, u'] } := (sb.2 _ (Nat.ne_of_gt hel)).trans hT
    have new : ObjOk X.prog X.w (upd H s.heap.objs.size (.tup [.int (i : Nat), x])) h'' s.heap.objs.size (.tup [.int (i : Nat), x]) :=
      ⟨by show 2 ≤ sizeLine; decide, [.int i tk, u'], .cons ⟨_, rfl⟩ (.cons ru .nil), ⟨_, hT2, rfl, _, rfl⟩⟩
    have I1 : Inv X pins σ (upd H s.heap.objs.size (.tup [.int (i : Nat), x])) { s with heap := h'', toks := tk + 1 } :=
      I.turnedNew (ch := [e, it]) (fun b ob hb q => (sb.2 b (fun z => hb (by simp [z]))).trans (hk b ob (fun z => hb (by simp [z])) (fun z => hb (by simp [z])) q)) hf (Nat.le_refl _) new
    refine ⟨.ref s.heap.objs.size, _, I1, rfl, ⟨_, x, rfl, I.hok.fresh (Nat.le_refl _), rfl, fun ys hy => by rw [I.tuple_inj hy hq]; exact hx⟩, ⟨⟨u', ?_⟩, hit'.at fun o q => (sb.2 it (Ne.symm hne)).trans q, hne, hnea⟩, fun b hb => ?_⟩
    · have e1 : ((i + 1 : Nat) : Int) = (i : Int) + 1 := by omega
      rw [e1]; exact he'
    · have hb' : b < s.heap.objs.size := by
        have e' : b = e ∨ b = it := by simpa using hb
        rcases e' with z | z
        · rw [z]; exact hel
        · rw [z]; exact hil
      rw [upd_ne (Nat.ne_of_lt hb')]
      exact (hf b hb).1
  done := by
    intro X hP hw hK hc i pins s σ H E I hf st hg
    subst hP hw hK
    obtain ⟨⟨old, he⟩, hit, hne, hnea⟩ := st
    obtain ⟨xs, hq, hx⟩ := hg
    obtain ⟨its, rv, p, hz⟩ := I.tuple hq
    obtain ⟨f0, f1, f2, f3, f4, f5⟩ := hf it (by simp)
    have hl := rv.length
    have p' : s.heap.IsTuple a its.toArray := p
    have D := Draws.tuple (prog := X.prog) (w := X.w) (A := X.A.in1) (I.ok.hd hc) it a hai its.toArray
    have hi : i = its.toArray.size := by rw [List.size_toArray]; omega
    rw [hi] at hit
    exact wpAny_pyNext_enum_endD D he ⟨hit, p'⟩ fun h' eb => ⟨rfl, I.turned (t' := s.toks) (fun b o hb q => eb b o hb q) f0 f1 f3 f4 f5⟩
  self := fun A i s Q E st h => let ⟨⟨_, he⟩, _⟩ := st; wpAny_pyIter_enum he h
def iEnumT (K : PySem.W.Frag) (ta : TA) : TI := fun σ H R => ta σ H fun vs H1 => ∃ a xs, vs = [.ref a] ∧ SqT K H1 a xs ∧ R (IteT K a) H1
theorem meets_enumerate_newT (t : Addr) (items : Array Value) :
    Meets (Builtin.«enumerate.__new__» ⟨[.type "enumerate", .ref t], []⟩) (fun _ R s => s.heap.IsTuple t items ∧
      R (.ok (.ret (.ref (s.heap.push { cls := .type "tuple_iterator", data := .fields #[.ref t, .int 0 0] }).objs.size)))
        { s with heap := (s.heap.push { cls := .type "tuple_iterator", data := .fields #[.ref t, .int 0 0] }).push { cls := .type "enumerate", data := .fields #[.none, .bool false, .ref s.heap.objs.size, rawInt 0, .none, .none] } }) :=
  .of_wp fun prog w A R s h => by
    obtain ⟨hp, g, d, tk, os⟩ := s
    obtain ⟨hL, h⟩ := h
    have hsub := sub_enumerate
    have q1 : ∀ {A' : Around} {E : Value → Shared → Prop} {Q : Value → Shared → Prop}, Q (.ref hp.objs.size) ⟨hp.push { cls := .type "tuple_iterator", data := .fields #[.ref t, .int 0 0] }, g, d, tk, os⟩ → wpAny (model prog w) A' (pyIter (.ref t)) Q E ⟨hp, g, d, tk, os⟩ :=
      fun q => wpAny_pyIter_tuple hL q
    wp_walk using q1
    refine wpAny_stack_any fun st => wpAny_pure ?_
    split
    · rename_i c _ _ _ _ _
      cases (c == Value.type "enumerate")
      · wp_walk using q1
        exact ⟨_, rfl, h⟩
      · wp_walk using q1
        exact ⟨_, rfl, h⟩
    · wp_walk using q1
      exact ⟨_, rfl, h⟩
theorem call_enumerate_tuple {prog : Program} {w : World} {A : Around} {E : Value → Shared → Prop} {s : Shared} {t : Addr} {items : Array Value} {Q : Value → Shared → Prop} (ht : s.heap.IsTuple t items)
    (h : ∀ h', IsEnum h' (s.heap.objs.size + 1) s.heap.objs.size 0 .none → h'.IsTupleIter s.heap.objs.size t 0 → h'.objs.size = s.heap.objs.size + 2 →
      (∀ b o, s.heap.get? b = some o → h'.get? b = some o) → Q (.ref (s.heap.objs.size + 1)) { s with heap := h' }) :
    wpAny (model prog w) A (call (.type "enumerate") [.ref t]) Q E s := by
  refine callType_new F.called_enumerate (by decide) (F.typeCall_enumerate_1 _) (F.newCall_enumerate_1 _) (fun obj => F.args_object_init_2 obj _) F.entry_enumerate_new
    (meets_enumerate_newT t items) ⟨ht, ?_⟩
  have hz : (s.heap.push { cls := .type "tuple_iterator", data := .fields #[.ref t, .int 0 0] }).objs.size = s.heap.objs.size + 1 := Heap.size_push ..
  show _ ∧ _
  rw [hz]
  have he : IsEnum ((s.heap.push { cls := .type "tuple_iterator", data := .fields #[.ref t, .int 0 0] }).push
      { cls := .type "enumerate", data := .fields #[.none, .bool false, .ref s.heap.objs.size, rawInt 0, .none, .none] }) (s.heap.objs.size + 1) s.heap.objs.size 0 .none := by
    have := Heap.get?_push_size (s.heap.push { cls := .type "tuple_iterator", data := .fields #[.ref t, .int 0 0] }) (o := { cls := .type "enumerate", data := .fields #[.none, .bool false, .ref s.heap.objs.size, rawInt 0, .none, .none] }) rfl
    rw [hz] at this; exact this
  have hi : s.heap.push { cls := .type "tuple_iterator", data := .fields #[.ref t, .int 0 0] } |>.IsTupleIter s.heap.objs.size t 0 := ⟨_, Heap.get?_push_size _ rfl, rfl, rfl⟩
  refine ⟨⟨_, he, rfl⟩, h _ he (hi.at fun o e => Heap.get?_push_of_some _ e) (by rw [Heap.size_push, hz]) fun b o x => Heap.get?_push_of_some _ (Heap.get?_push_of_some _ x)⟩
theorem pi_enumT {X : Cx} {e : Expr} {ta : TA} {p pos tpos : Pos} {elts : List Expr} {kk : Nat} (hg : Gl X "enumerate") (hm : X.mg "enumerate" = none) (ha : PA X [e] ta) (hs : starEach [e] X.env = [(false, eval e X.env)] := by rfl) :
    PI X (.Tuple elts kk tpos) (.Call (.Name "enumerate" p) [e] [] pos) (iEnumT X.K ta) := by
  refine ⟨fun pins s σ H R I h => ?_⟩
  refine Call_ (ld_blt I hg hm boot_enumerate (PyProof.Rows.callWith_type1 (thn (ha.run pos pins s σ H _ I h) fun us s1 ⟨vs, H1, I1, r1, q1⟩ => ?_) hs rfl))
  obtain ⟨a, xs, ex, hq, q⟩ := q1
  subst ex
  cases r1 with
  | cons r rr =>
    cases rr
    cases r
    obtain ⟨its, rv, p', hz⟩ := I1.tuple hq
    have hlt : a < s1.heap.objs.size := p'.lt
    refine call_enumerate_tuple p' fun h' he hit hsz hk => wpAny_pyIter_enum he ?_
    have I2 : Inv X pins σ H1 { s1 with heap := h' } := I1.kept (t' := s1.toks) hk
    refine ⟨s1.heap.objs.size + 1, [s1.heap.objs.size + 1, s1.heap.objs.size], _, _, H1, rfl, I2, turn_enumT a (s1.heap.objs.size + 1) s1.heap.objs.size (Nat.ne_of_lt hlt), ⟨⟨.none, he⟩, hit, Nat.succ_ne_self _, Nat.ne_of_gt (Nat.lt_succ_of_lt hlt)⟩, fun b hb => ?_, q⟩
    have e' : b = s1.heap.objs.size + 1 ∨ b = s1.heap.objs.size := by simpa using hb
    have hle : s1.heap.objs.size ≤ b := by
      rcases e' with z | z
      · rw [z]; exact Nat.le_add_right _ _
      · rw [z]; exact Nat.le_refl _
    exact I1.fpOk hle (I1.hok.fresh hle)
theorem walk_enumT {K : PySem.W.Frag} {a : Addr} {xs : List V} : Walk (IteT K a) xs.length (fun H => SqT K H a xs) (YPair (fun i => some (.int (i : Nat))) (fun i => xs[i]?)) := by
  refine ⟨fun i _ hi q => ⟨xs, xs[i], q, by simp [hi]⟩, fun _ q => ⟨xs, q, rfl⟩, fun i H v H' _ q y => ?_⟩
  obtain ⟨T, x, h1, h2, h3, h4⟩ := y
  exact ⟨T, .int (i : Nat), x, h1, h2, h3, rfl, h4 xs q⟩
/-! ### sorted(t), t a tuple of ints -/
section
variable {prog : Program} {w : World} {A : Around} {E : Value → Shared → Prop} {s : Shared}
open SrtO in
theorem sorted_ordT {t : Addr} {vs : List Value} {ltv : Value → Value → Bool} {Q : Value → Shared → Prop} (O : SrtO.Swo ltv) (ht : IsTup s.heap t vs.toArray) (hz : vs.length ≤ sizeLine)
    (hS : 2 ≤ vs.length → ∀ (h₁ : Heap) (a : Addr), h₁.get? a = some (seqObj "list" vs.toArray 0) → (∀ b o, s.heap.get? b = some o → b ≠ a ∧ h₁.get? b = some o) → SrtO.SortableO prog w A.in1.in1 { s with heap := h₁ } a vs ltv)
    (h : ∀ (h' : Heap) (out : List Value), SrtO.Srtd ltv out → SrtO.Stb ltv out vs → (∀ b o, s.heap.get? b = some o → h'.get? b = some o) →
      Q (.ref h'.objs.size) { s with heap := sortedHeap (h'.push (seqObj "list" vs.toArray 0)) h'.objs.size vs out.toArray }) :
    wpAny (model prog w) A (call (.builtin "sorted") [.ref t]) Q E s := by
  obtain ⟨o, ho, hc, n, hd⟩ := id ht
  refine Calls.call_function_entry kind_sorted plain_sorted entry_sorted (args_sorted1 _) ?_
  unfold Builtin.«sorted»
  refine wpAny_bind (m := checkCount "sorted" 1 1 _) (wpAny_pure ?_)
  refine wpAny_bind (wpAny_collect_seq (hsz := by rw [List.size_toArray]; exact hz) t (.inr rfl) ho hc hd fun h' hk => ?_)
  refine wpAny_bind (wpAny_newList ?_ hz)
  have hoL : (h'.push (seqObj "list" vs.toArray 0)).get? h'.objs.size = some (seqObj "list" vs.toArray 0) := Heap.get?_push_size _ rfl
  have keep : ∀ b o, s.heap.get? b = some o → b ≠ h'.objs.size ∧ (h'.push (seqObj "list" vs.toArray 0)).get? b = some o := fun b o q =>
    ⟨Nat.ne_of_lt (Heap.lt_size (hk b o q)), Heap.get?_push_of_some _ (hk b o q)⟩
  show wpAny _ _ _ _ _ { s with heap := h'.push (seqObj "list" vs.toArray 0) }
  refine wpAny_bind (wpAny_holding (wpAny_call_entry slot_list_sort ⟨_, hoL, rfl⟩ entry_list_sort (SrtO.list_sort_ord O hoL hz (fun h2 => hS h2 _ _ hoL keep) fun out hs hb => ⟨_, rfl, ?_⟩) (args_list_sort _)))
  exact wpAny_pure ⟨_, rfl, h h' out hs hb hk⟩
end
section
variable {X : Cx}
def rSortedTI (K : PySem.W.Frag) : List V → Hp → VK → Prop := fun vs H Q => ∃ (a : Addr) (ns : List Int), vs = [V.ref a] ∧ SqT K H a (ns.map V.int) ∧
  ∀ (ns' : List Int) (p : Addr), ns'.Perm ns → ns'.Pairwise (· ≤ ·) → H p = none → Q (.ref p) (upd H p (.lst (ns'.map V.int)))
theorem cr_sortedTI : CallR X (.builtin "sorted") (rSortedTI X.K) := by
  intro pins s σ H vs us Q I r h
  obtain ⟨a, ns, rfl, hs, q⟩ := h
  obtain ⟨its, rv, hl, hz⟩ := I.tuple hs
  rw [Vals.ref1 r]
  have hi := rv.ints
  refine sorted_ordT SrtO.swo_int hl (by rw [← rv.length]; exact hz) (fun h2 h₁ a' _ _ => SrtO.ints_sortable hi h2) fun h' out h1 h2 hk => ?_
  obtain ⟨k1, k2, k3⟩ := SrtO.ints_out hi h1 h2
  obtain ⟨ep, he'⟩ := PyProof.Rows.sortedHeap_at (h := h'.push (seqObj "list" its.toArray 0)) (a := h'.objs.size) (vs := its) (out := out.toArray) (Heap.get?_push_size _ rfl)
  have hlen : ((out.map SrtO.iv).map V.int).length ≤ sizeLine := by
    rw [List.length_map, k2.length_eq]
    rw [List.length_map] at hz
    exact hz
  have I1 : Inv X pins σ H { s with heap := h' } := I.kept (t' := s.toks) hk
  refine ⟨.ref _, upd H h'.objs.size (.lst ((out.map SrtO.iv).map V.int)), I1.laid (t' := s.toks) (fun b ob e => ?_) (Nat.le_refl _) ⟨hlen, out, ep, vals_of_ints k1, he'⟩, rfl, q _ _ k2 k3 (I1.hok.fresh (Nat.le_refl _))⟩
  have hb : b < h'.objs.size := Heap.lt_size e
  rw [sortedHeap_old (Nat.ne_of_lt hb) (by rw [Heap.size_push]; exact Nat.lt_succ_of_lt hb)]
  exact Heap.get?_push_of_some _ e
end
/-! ### t * k, any small k from 0 on -/
section
variable {X : Cx}
theorem tuple_mul1 (l : Addr) (items : Array Value) (n : Nat) (dd : Option Addr) (sl : Array (Option Value)) (u : Tok) :
    Meets (Builtin.«tuple.__mul__» ⟨[.ref l, .int 1 u], []⟩) (fun _ R s => s.heap.get? l = some { cls := .type "tuple", dict := dd, data := .seq items n, slots := sl } ∧
      R (.ok (.ret (Value.ref l))) s) :=
  .of_wp fun prog w A R s h => by
    obtain ⟨hp, g, d, tk, os⟩ := s
    obtain ⟨hl, h⟩ := h
    have f1 := AutoSeq1.idx_int
    wp_walk using wpAny_loadPart' hl
    exact ⟨_, rfl, h⟩
theorem tuple_mul0 (l : Addr) (items : Array Value) (n : Nat) (dd : Option Addr) (sl : Array (Option Value)) (u : Tok) (c1 : items.isEmpty = false) :
    Meets (Builtin.«tuple.__mul__» ⟨[.ref l, .int 0 u], []⟩) (fun _ R s => s.heap.get? l = some { cls := .type "tuple", dict := dd, data := .seq items n, slots := sl } ∧
      R (.ok (.ret (Value.ref s.heap.objs.size))) { s with heap := s.heap.push { cls := Value.type "tuple", data := Data.seq #[] } }) :=
  .of_wp fun prog w A R s h => by
    obtain ⟨hp, g, d, tk, os⟩ := s
    obtain ⟨hl, h⟩ := h
    have f1 := AutoSeq1.idx_int
    wp_walk using wpAny_loadPart' hl
    repeat (first
      | (refine wpAny_ite_false (decide_eq_false (by rw [c1]; decide)) ?_; wp_walk using wpAny_loadPart' hl)
      | (refine wpAny_ite_true (decide_eq_true (by rw [c1]; decide)) ?_; wp_walk using wpAny_loadPart' hl))
    exact ⟨_, rfl, h⟩
def rRepA (K : PySem.W.Frag) : R2 := fun x y H Q => ∃ l k xs, x = .ref l ∧ y = .int k ∧ SqT K H l xs ∧ xs ≠ [] ∧ 0 ≤ k ∧ k ≤ 1000 ∧ xs.length ≤ 1000 ∧
  (k = 1 → Q (.ref l) H) ∧ (k ≠ 1 → ∀ p, H p = none → Q (.ref p) (upd H p (.tup (List.replicate k.toNat xs).flatten)))
theorem op_repA : OpR X (binaryOp .Mult) (rRepA X.K) := by
  intro pins s σ H x y v u Q I rx ry h
  obtain ⟨l, k, xs, rfl, rfl, hT, hne, h1, h2, hz, q1, q2⟩ := h
  by_cases hk : 2 ≤ k
  · exact op_repT pins s σ H _ _ v u Q I rx ry ⟨l, k, xs, rfl, rfl, hT, hne, hk, h2, hz, q2 (by omega)⟩
  cases rx
  obtain ⟨t, rfl⟩ := ry
  obtain ⟨its, r, ⟨⟨cls, dd, data, sl⟩, ho, hc, n, hd⟩, hs⟩ := I.tuple hT
  simp only at hc hd
  subst hc hd
  have hle : its.length = xs.length := r.length.symm
  have hn : its ≠ [] := fun e => hne (by
    rw [e] at hle
    exact List.eq_nil_of_length_eq_zero hle.symm)
  have hi : its.toArray.isEmpty = false := by
    cases its with
    | nil => exact absurd rfl hn
    | cons a b => rfl
  rcases (show k = 0 ∨ k = 1 by omega) with rfl | rfl
  · refine wpAny_binaryOp_repeat_ref (T := "tuple") (U := "int") (by decide) ⟨_, ho, rfl⟩ (fun s' => typeIs_int s' 0 t) noFill_tuple_mul F.fills_int_mul F.slot_int_rmul repeat_tuple F.slot_int_index.lookup
      (call_meets F.slot_int_rmul (typeIs_int s 0 t) F.entry_int_rmul (F.args_int_rmul_2 _ _) (int_rmul_tuple 0 t l its.toArray n dd sl)
        ⟨ho, rfl, ⟨_, ho, rfl⟩, call_meets F.slot_tuple_mul ⟨_, ho, rfl⟩ F.entry_tuple_mul (F.args_tuple_mul_2 _ _) (tuple_mul0 l its.toArray n dd sl t hi) ⟨ho, ?_⟩⟩)
    refine ⟨.ref s.heap.objs.size, _, I.laid (t' := s.toks) (o := .tup (List.replicate (0 : Int).toNat xs).flatten) (fun b ob q => Heap.get?_push_of_some _ q) (Nat.le_refl _) ?_, rfl, q2 (by decide) _ (I.hok.fresh (Nat.le_refl _))⟩
    exact ⟨Nat.zero_le _, [], .nil, IsTup.new _ _⟩
  · refine wpAny_binaryOp_repeat_ref (T := "tuple") (U := "int") (by decide) ⟨_, ho, rfl⟩ (fun s' => typeIs_int s' 1 t) noFill_tuple_mul F.fills_int_mul F.slot_int_rmul repeat_tuple F.slot_int_index.lookup
      (call_meets F.slot_int_rmul (typeIs_int s 1 t) F.entry_int_rmul (F.args_int_rmul_2 _ _) (int_rmul_tuple 1 t l its.toArray n dd sl)
        ⟨ho, rfl, ⟨_, ho, rfl⟩, call_meets F.slot_tuple_mul ⟨_, ho, rfl⟩ F.entry_tuple_mul (F.args_tuple_mul_2 _ _) (tuple_mul1 l its.toArray n dd sl t) ⟨ho, ?_⟩⟩)
    exact ⟨.ref l, H, I, rfl, q1 rfl⟩
end
end TT

/-! what stands for data in the heap; short rules -/
namespace TT
open PySem L2
/-! ### what stays: every object but lists -/
def Keep (H H' : Hp) : Prop := ∀ b o, (∀ xs, o ≠ .lst xs) → H b = some o → H' b = some o
theorem Keep.refl (H : Hp) : Keep H H := fun _ _ _ h => h
theorem Keep.trans {H H1 H2 : Hp} (a : Keep H H1) (b : Keep H1 H2) : Keep H H2 := fun c o n h => b c o n (a c o n h)
theorem _root_.L2.Same.keep {H H' : Hp} (s : Same H H') : Keep H H' := fun b o _ h => s b o h
theorem Keep.tup {H H' : Hp} (k : Keep H H') {t : Addr} {xs : List V} (h : H t = some (.tup xs)) : H' t = some (.tup xs) := k t _ (fun _ q => nomatch q) h
theorem Keep.ins {H H' : Hp} (k : Keep H H') {t C dx : Addr} {xs : List (Str × V)} (h : H t = some (.ins C dx xs)) : H' t = some (.ins C dx xs) := k t _ (fun _ q => nomatch q) h
theorem same_new {H : Hp} {p : Addr} {o : HO} (h : H p = none) : Same H (upd H p o) := fun b u e => by rw [upd_ne (ne_of_none e h)]; exact e
theorem same_own {H0 H : Hp} {p : Addr} {o : HO} (s : Same H0 H) (h : H0 p = none) : Same H0 (upd H p o) := fun b u e => by rw [upd_ne (ne_of_none e h)]; exact s b u e
theorem keep_lst {H : Hp} {p : Addr} {xs : List V} {o : HO} (h : H p = some (.lst xs)) : Keep H (upd H p o) := fun b u n e => by
  have : b ≠ p := fun q => by subst q; rw [h] at e; cases e; exact n _ rfl
  rw [upd_ne this]; exact e
/-- all but the list at g -/
def But (g : Addr) (H H' : Hp) : Prop := ∀ b o, b ≠ g → H b = some o → H' b = some o
theorem But.refl (g : Addr) (H : Hp) : But g H H := fun _ _ _ h => h
theorem But.trans {g : Addr} {H H1 H2 : Hp} (a : But g H H1) (b : But g H1 H2) : But g H H2 := fun c o n h => b c o n (a c o n h)
theorem _root_.L2.Same.but {H H' : Hp} (s : Same H H') (g : Addr) : But g H H' := fun b o _ h => s b o h
theorem But.keep {g : Addr} {H H' : Hp} (k : But g H H') {ys : List V} (hg : H g = some (.lst ys)) : Keep H H' := fun b o n h => by
  by_cases e : b = g
  · subst e; rw [hg] at h; cases h; exact absurd rfl (n _)
  · exact k b o e h
theorem But.free {g : Addr} {H H' : Hp} (k : But g H H') {p : Addr} (hp : H' p = none) (h : p ≠ g) : H p = none := by
  cases q : H p with
  | none => rfl
  | some o => rw [k p o h q] at hp; cases hp
theorem but_upd {g : Addr} {H : Hp} {o : HO} : But g H (upd H g o) := fun b u n e => by rw [upd_ne n]; exact e
/-! ### data -/
abbrev Rp (α : Type) := Hp → V → α → Prop
def Mono {α : Type} (R : Rp α) : Prop := ∀ H H' v x, Keep H H' → R H v x → R H' v x
def rInt : Rp Int := fun _ v n => v = .int n
def rRow : Rp (List Int) := fun H v l => ∃ t, v = .ref t ∧ H t = some (.tup (l.map V.int))
def rPI : Rp (Int × Int) := fun H v p => ∃ t, v = .ref t ∧ H t = some (.tup [.int p.1, .int p.2])
def rTup {α : Type} (R : Rp α) : Rp (List α) := fun H v l => ∃ t xs, v = .ref t ∧ H t = some (.tup xs) ∧ Paired (R H) xs l
theorem mono_int : Mono rInt := fun _ _ _ _ _ h => h
theorem mono_row : Mono rRow := fun _ _ _ _ k ⟨t, e, h⟩ => ⟨t, e, k.tup h⟩
theorem mono_pi : Mono rPI := fun _ _ _ _ k ⟨t, e, h⟩ => ⟨t, e, k.tup h⟩
theorem paired_mono {α : Type} {R : Rp α} (m : Mono R) {H H' : Hp} (k : Keep H H') {xs : List V} {l : List α} (p : Paired (R H) xs l) : Paired (R H') xs l := Paired.mapP p fun _ _ h => m _ _ _ _ k h
theorem mono_tup {α : Type} {R : Rp α} (m : Mono R) : Mono (rTup R) := fun _ _ _ _ k ⟨t, xs, e, h, p⟩ => ⟨t, xs, e, k.tup h, paired_mono m k p⟩
theorem paired_len {α β : Type} {F : α → β → Prop} : ∀ {xs : List α} {l : List β}, Paired F xs l → xs.length = l.length := Paired.length
theorem paired_get2 {α β : Type} {F : α → β → Prop} : ∀ {xs : List α} {l : List β} {i : Nat} {y : β}, Paired F xs l → l[i]? = some y → ∃ x, xs[i]? = some x ∧ F x y
  | _, _, _, _, .nil, e => by simp at e
  | _, _, 0, _, .cons r _, e => by simp at e; subst e; exact ⟨_, rfl, r⟩
  | _, _, i + 1, x, .cons _ t, e => by
    obtain ⟨u, h1, h2⟩ := paired_get2 (i := i) (y := x) t (by simpa using e)
    exact ⟨u, by simpa using h1, h2⟩
theorem paired_int : ∀ {xs : List V} {l : List Int} {H : Hp}, Paired (rInt H) xs l → xs = l.map V.int
  | _, _, _, .nil => rfl
  | _, _, _, .cons r t => by cases r; rw [List.map_cons, paired_int t]
theorem paired_ints {H : Hp} : ∀ (l : List Int), Paired (rInt H) (l.map V.int) l
  | [] => .nil
  | _ :: r => .cons rfl (paired_ints r)
theorem paired_app {α β : Type} {F : α → β → Prop} : ∀ {xs : List α} {l : List β} {ys : List α} {m : List β}, Paired F xs l → Paired F ys m → Paired F (xs ++ ys) (l ++ m)
  | _, _, _, _, .nil, q => q
  | _, _, _, _, .cons r t, q => .cons r (paired_app t q)
theorem paired_perm {α β : Type} {F : α → β → Prop} : ∀ {ys xs : List α}, ys.Perm xs → ∀ {l : List β}, Paired F xs l → ∃ m, m.Perm l ∧ Paired F ys m := by
  intro ys xs h
  induction h with
  | nil => intro l p; cases p; exact ⟨[], .refl _, .nil⟩
  | cons x h ih => intro l p; cases p with | cons r t => obtain ⟨m, h1, h2⟩ := ih t; exact ⟨_ :: m, .cons _ h1, .cons r h2⟩
  | swap x y t => intro l p; cases p with | cons r1 p => cases p with | cons r2 p => exact ⟨_ :: _ :: _, .swap _ _ _, .cons r2 (.cons r1 p)⟩
  | trans h1 h2 ih1 ih2 => intro l p; obtain ⟨m, a, b⟩ := ih2 p; obtain ⟨m', c, d⟩ := ih1 b; exact ⟨m', c.trans a, d⟩
theorem seqt_row {K : PySem.W.Frag} {H : Hp} {t : Addr} {xs : List V} (h : H t = some (.tup xs)) : SqT K H t xs := .of h
theorem at_int {l : List Int} {i : Nat} {x : V} (h : (l.map V.int)[i]? = some x) : ∃ n, l[i]? = some n ∧ x = .int n := by
  rw [List.getElem?_map] at h
  cases e : l[i]? with
  | none => rw [e] at h; cases h
  | some n => rw [e] at h; exact ⟨n, rfl, (Option.some.inj h).symm⟩
theorem int_at {l : List Int} {i : Nat} {n : Int} (h : l[i]? = some n) : (l.map V.int)[i]? = some (.int n) := by rw [List.getElem?_map, h]; rfl
/-! ### short rules -/
section
variable {X : Cx}
theorem ty_int {p : Pos} (hm : X.mg "int" = none) (hg : Gl X "int" := by rfl) : PE X (.Name "int" p) (tC (.ty "int")) := pe_bltn hg hm (by decide +kernel) (u := .type "int") rfl
theorem ty_bool {p : Pos} (hm : X.mg "bool" = none) (hg : Gl X "bool" := by rfl) : PE X (.Name "bool" p) (tC (.ty "bool")) := pe_bltn hg hm (by decide +kernel) (u := .type "bool") rfl
theorem ty_tuple {p : Pos} (hm : X.mg "tuple" = none) (hg : Gl X "tuple" := by rfl) : PE X (.Name "tuple" p) (tC (.ty "tuple")) := pe_bltn hg hm (by decide +kernel) (u := .type "tuple") rfl
theorem ty_list {p : Pos} (hm : X.mg "list" = none) (hg : Gl X "list" := by rfl) : PE X (.Name "list" p) (tC (.ty "list")) := pe_bltn hg hm (by decide +kernel) (u := .type "list") rfl
end
section
variable {K : PySem.W.Frag}
theorem kit_ii : PySem.W.kitOne K (.type "int") (.type "int") = some true := kit_ty (by decide +kernel)
theorem kit_ib : PySem.W.kitOne K (.type "int") (.type "bool") = some false := kit_ty (by decide +kernel)
theorem kit_tt : PySem.W.kitOne K (.type "tuple") (.type "tuple") = some true := kit_ty (by decide +kernel)
end
/-! ### rules whose reading speaks of K, for the blocks of comprehensions -/
section
variable {X : Cx} {K : PySem.W.Frag}
theorem ixT (h : X.K = K) : IxR X (rIxT K) := h ▸ ix_tup
theorem ixL (h : X.K = K) : IxR X (rIxL K) := h ▸ ix_list
theorem inS (h : X.K = K) : OpR X (compareOp .In) (rIn K false) := h ▸ op_in_seq
theorem ninS (h : X.K = K) : OpR X (compareOp .NotIn) (rIn K true) := h ▸ op_notIn_seq
theorem lenS (h : X.K = K) : CallR X (.builtin "len") (fun xs H Q => ∃ p ys, xs = [.ref p] ∧ (SqL K H p ys ∨ SqT K H p ys) ∧ Q (.int ys.length) H) := h ▸ call_len_seq
theorem isiS (h : X.K = K) : CallR X (.builtin "isinstance") (rIsi K) := h ▸ call_isi
theorem piT {tg l : Expr} {tl : TE} (hh : X.K = K) (hl : PI X tg l (iTup X.K tl)) : PI X tg l (iTup K tl) := hh ▸ hl
theorem pgT {es : List Expr} {k : Nat} {t : TGs} {n : Nat} {pos : Pos} (hh : X.K = K) (hc : X.calm = true) (h : PGs X es t) (hn : (assignEach es X.env).length = n := by rfl) (hst : (assignEach es X.env).findIdx? (·.1) = none := by rfl) : PG X (.Tuple es k pos) (gTup K n t) := hh ▸ pg_tup hc h hn hst
theorem fldK {o : Expr} {ta : TE} {f : Str} {pos : Pos} (he : PE X o ta) (hh : X.K = K) (hb : attributeBase o f X.env (eval o X.env) = eval o X.env) : PE X (.Attribute o f pos) (tFld K ta f) := hh ▸ pe_fld he hb
theorem tupS (h : X.K = K) : CallR X (.type "tuple") (fun xs H Q => ∃ p ys, xs = [.ref p] ∧ ((SqL K H p ys ∧ ∀ l, H l = none → Q (.ref l) (upd H l (.tup ys))) ∨ (SqT K H p ys ∧ Q (.ref p) H))) := h ▸ call_tuple_of
end
/-! ### comprehensions -/
section
variable {J : It} {n : Nat} {G : Hp → Prop} {Y : Nat → Hp → V → Hp → Prop} {g : TG} {tt : TT} {te : TE} {vs : List Nat} {σ : St} {H1 : Hp} {D : Addr} {Qd : Hp → Prop} {α : Type}
theorem range_fm {f : Nat → Option α} {i : Nat} : (List.range (i + 1)).filterMap f = (List.range i).filterMap f ++ (f i).toList := by
  rw [List.range_succ, List.filterMap_append]
  congr 1
theorem fm_len {f : Nat → Option α} {i : Nat} : ((List.range i).filterMap f).length ≤ i := by
  have := List.length_filterMap_le f (List.range i)
  rw [List.length_range] at this
  exact this
/-- the list at D holds what f tells of the turns so far, all else stays -/
def PvFm (R : Rp α) (f : Nat → Option α) (D : Addr) (H1 : Hp) (i : Nat) (H : Hp) : Prop := Same H1 H ∧ ∃ xs, H D = some (.lst xs) ∧ Paired (R H) xs ((List.range i).filterMap f)
theorem fm_keep {R : Rp α} (m : Mono R) {f : Nat → Option α} {i : Nat} {H H4 : Hp} {y : V} {a : α} (p : PvFm R f D H1 i H) (hD : H1 D = none) (hi : i ≤ 100000) (s4 : Same H H4) (ea : f i = some a) (ra : R H4 y a) :
    ∃ acc, H4 D = some (.lst acc) ∧ acc.length < sizeLine ∧ PvFm R f D H1 (i + 1) (upd H4 D (.lst (acc ++ [y]))) := by
  obtain ⟨s, xs, h1, h2⟩ := p
  have hl : xs.length ≤ i := by rw [paired_len h2]; exact fm_len
  have hD4 : H4 D = some (.lst xs) := s4 _ _ h1
  have k5 : Keep H4 (upd H4 D (.lst (xs ++ [y]))) := keep_lst hD4
  refine ⟨xs, hD4, Nat.lt_of_le_of_lt (Nat.le_trans hl hi) (by decide), same_own (s.trans s4) hD, xs ++ [y], upd_same, ?_⟩
  rw [range_fm, ea]
  exact paired_app (paired_mono m k5 (paired_mono m s4.keep h2)) (.cons (m _ _ _ _ k5 ra) .nil)
theorem fm_skip {R : Rp α} (m : Mono R) {f : Nat → Option α} {i : Nat} {H H3 : Hp} (p : PvFm R f D H1 i H) (s3 : Same H H3) (e : f i = none) : PvFm R f D H1 (i + 1) H3 := by
  obtain ⟨s, xs, h1, h2⟩ := p
  refine ⟨s.trans s3, xs, s3 _ _ h1, ?_⟩
  rw [range_fm, e]
  simpa using paired_mono m s3.keep h2
/-- a comprehension that makes a list of what f tells, all else staying -/
theorem lc_fm (w : Walk J n G Y) (R : Rp α) (f : Nat → Option α) (hD : H1 D = none) (hG : ∀ H, Same H1 H → G H)
    (hs : ∀ i x H H', i < n → PvFm R f D H1 i H → Y i H x H' → g x (wipe σ vs) H' fun σ2 H2 => wipe σ2 vs = wipe σ vs ∧ tt σ2 H2 fun b H3 =>
      if b = true then te σ2 H3 fun y H4 => ∃ acc, H4 D = some (.lst acc) ∧ acc.length < sizeLine ∧ PvFm R f D H1 (i + 1) (upd H4 D (.lst (acc ++ [y]))) else PvFm R f D H1 (i + 1) H3)
    (hd : ∀ H xs, Same H1 H → H D = some (.lst xs) → Paired (R H) xs ((List.range n).filterMap f) → Qd H) :
    ∃ W : Nat → Nat → Hp → Prop, (∃ m, W 0 m (upd H1 D (.lst []))) ∧ ∀ i m H, W i m H →
      (J.stop i H ∧ Qd H) ∨ (J.go i H ∧ ∃ Nx : Hp → Prop, (∀ H', Nx H' → ∃ m', m' < m ∧ W (i + 1) m' H') ∧ ∀ x H', J.yld i H x H' → g x (wipe σ vs) H' fun σ2 H2 => wipe σ2 vs = wipe σ vs ∧ tt σ2 H2 fun b H3 =>
        if b = true then te σ2 H3 fun y H4 => ∃ acc, H4 D = some (.lst acc) ∧ acc.length < sizeLine ∧ Nx (upd H4 D (.lst (acc ++ [y]))) else Nx H3) :=
  lc_it w (PvFm R f D H1) ⟨same_new hD, [], upd_same, .nil⟩ (fun i H _ h => hG H h.1) hs (fun H ⟨s, xs, h1, h2⟩ => hd H xs s h1 h2)
theorem fm_all {β : Type} (h : Nat → β) : ∀ n : Nat, (List.range n).filterMap (fun i => some (h i)) = (List.range n).map h := fun n => by rw [List.filterMap_eq_map']
theorem fm_list {β : Type} (l : List α) (h : α → Option β) : (List.range l.length).filterMap (fun i => l[i]?.bind h) = l.filterMap h := by
  have e : ∀ (m : Nat), m ≤ l.length → (List.range m).filterMap (fun i => l[i]?.bind h) = (l.take m).filterMap h := by
    intro m
    induction m with
    | zero => intro _; rfl
    | succ m ih =>
      intro hm
      rw [range_fm, ih (by omega), List.take_succ, List.filterMap_append]
      congr 1
      have hl : l[m]? = some l[m] := List.getElem?_eq_getElem (by omega)
      rw [hl]
      show (h l[m]).toList = List.filterMap h [l[m]]
      rw [List.filterMap_cons]
      cases h l[m] <;> rfl
  have := e l.length (Nat.le_refl _)
  rwa [List.take_length] at this
end
/-! ### sorted(a list of pairs of ints), by what the pairs are -/
def lxLt (a b : Int × Int) : Prop := a.1 < b.1 ∨ (a.1 = b.1 ∧ a.2 < b.2)
instance (a b : Int × Int) : Decidable (lxLt a b) := by unfold lxLt; infer_instance
def lxLe (a b : Int × Int) : Prop := ¬ lxLt b a
noncomputable def kOf (H : Hp) (v : V) : Int × Int := open Classical in if h : ∃ z, rPI H v z then h.choose else (0, 0)
theorem kOf_eq {H : Hp} {v : V} {z : Int × Int} (h : rPI H v z) : kOf H v = z := by
  have hx : ∃ z, rPI H v z := ⟨z, h⟩
  have e : kOf H v = hx.choose := by unfold kOf; rw [dif_pos hx]
  rw [e]
  obtain ⟨t, e1, h1⟩ := hx.choose_spec
  obtain ⟨t', e2, h2⟩ := h
  rw [e1] at e2
  cases e2
  rw [h1] at h2
  have h3 := Option.some.inj h2
  injection h3 with h3
  injection h3 with a b
  injection b with b _
  exact Prod.ext (V.int.inj a) (V.int.inj b)
theorem kOf_map {H : Hp} : ∀ {xs : List V} {l : List (Int × Int)}, Paired (rPI H) xs l → xs.map (kOf H) = l
  | _, _, .nil => rfl
  | _, _, .cons r t => by rw [List.map_cons, kOf_eq r, kOf_map t]
theorem paired_kOf {H : Hp} : ∀ {ys : List V}, (∀ y ∈ ys, rPI H y (kOf H y)) → Paired (rPI H) ys (ys.map (kOf H))
  | [], _ => .nil
  | y :: ys, h => .cons (h y (by simp)) (paired_kOf fun z hz => h z (by simp [hz]))
theorem paired_mem {α β : Type} {F : α → β → Prop} : ∀ {xs : List α} {l : List β} {x : α}, Paired F xs l → x ∈ xs → ∃ y ∈ l, F x y
  | _, _, _, .nil, h => by simp at h
  | _, _, _, .cons r t, h => by
    rcases List.mem_cons.mp h with rfl | h
    · exact ⟨_, by simp, r⟩
    · obtain ⟨y, hy, f⟩ := paired_mem t h
      exact ⟨y, by simp [hy], f⟩
def rSortedPD (K : PySem.W.Frag) : List V → Hp → VK → Prop := fun vs H Q => ∃ (a : Addr) (xs : List V) (l : List (Int × Int)), vs = [V.ref a] ∧ SqL K H a xs ∧ Paired (rPI H) xs l ∧
  ∀ ys m p, Paired (rPI H) ys m → m.Perm l → m.Pairwise lxLe → H p = none → Q (.ref p) (upd H p (.lst ys))
theorem cr_sortedPD {X : Cx} : CallR X (.builtin "sorted") (rSortedPD X.K) := by
  intro pins s σ H vs us Q I r h
  obtain ⟨a, xs, l, rfl, hs, hp, q⟩ := h
  refine cr_sortedPO pins s σ H _ us Q I r ⟨a, xs, kOf H, rfl, hs, fun x hx => ?_, fun ys p h1 h2 np => ?_⟩
  · obtain ⟨z, _, hz⟩ := paired_mem hp hx
    rw [kOf_eq hz]
    exact hz
  · refine q ys (ys.map (kOf H)) p (paired_kOf fun y hy => ?_) ?_ ?_ np
    · obtain ⟨z, _, hz⟩ := paired_mem hp (h2.perm.mem_iff.mp hy)
      rw [kOf_eq hz]
      exact hz
    · rw [← kOf_map hp]
      exact h2.perm.map _
    · rw [List.pairwise_map]
      exact h1.imp fun {a b} h q => by
        have := SrtO.lexB_iff.mpr q
        rw [show ltP (kOf H) b a = true from this] at h
        cases h
theorem lxLt_tri (a b : Int × Int) : lxLt a b ∨ a = b ∨ lxLt b a := by
  unfold lxLt
  by_cases h1 : a.1 = b.1
  · by_cases h2 : a.2 = b.2
    · exact .inr (.inl (Prod.ext h1 h2))
    · omega
  · omega
theorem lxLe_antisymm {a b : Int × Int} (h1 : lxLe a b) (h2 : lxLe b a) : a = b := by
  rcases lxLt_tri a b with h | h | h
  · exact absurd h h2
  · exact h
  · exact absurd h h1
theorem lxLe_trans {a b c : Int × Int} (h1 : lxLe a b) (h2 : lxLe b c) : lxLe a c := by
  unfold lxLe lxLt at *
  omega
/-- two ascending lists of the same pairs are one -/
theorem lex_same : ∀ {l m : List (Int × Int)}, l.Perm m → l.Pairwise lxLe → m.Pairwise lxLe → l = m := fun {l m} h h1 h2 =>
  h.eq_of_pairwise (fun a b _ _ p q => lxLe_antisymm p q) h1 h2
theorem up_same : ∀ {l m : List Int}, l.Perm m → l.Pairwise (· ≤ ·) → m.Pairwise (· ≤ ·) → l = m := fun {l m} h h1 h2 =>
  h.eq_of_pairwise (fun a b _ _ p q => Int.le_antisymm p q) h1 h2
/-- ascending, none twice -/
theorem lex_strict {l : List (Int × Int)} (h1 : l.Pairwise lxLe) (h2 : l.Nodup) : l.Pairwise lxLt := by
  have := List.pairwise_and_iff.mpr ⟨h1, h2⟩
  exact this.imp fun {a b} ⟨p, q⟩ => by
    rcases lxLt_tri a b with h | h | h
    · exact h
    · exact absurd h q
    · exact absurd h p
/-! ### a walk, whatever its turn asks; comprehensions with two loops -/
section
variable {J : It} {n : Nat} {G : Hp → Prop} {Y : Nat → Hp → V → Hp → Prop} {H0 H1 : Hp} {D : Addr} {Qd : Hp → Prop} {α : Type}
theorem walk_W (w : Walk J n G Y) (B : (Hp → Prop) → V → Hp → Prop) (Pv : Nat → Hp → Prop) (h0 : Pv 0 H0) (hG : ∀ i H, i ≤ n → Pv i H → G H)
    (hs : ∀ i x H H', i < n → Pv i H → Y i H x H' → B (Pv (i + 1)) x H') (hd : ∀ H, Pv n H → Qd H) :
    ∃ W : Nat → Nat → Hp → Prop, (∃ m, W 0 m H0) ∧ ∀ i m H, W i m H →
      (J.stop i H ∧ Qd H) ∨ (J.go i H ∧ ∃ Nx : Hp → Prop, (∀ H', Nx H' → ∃ m', m' < m ∧ W (i + 1) m' H') ∧ ∀ x H', J.yld i H x H' → B Nx x H') := by
  refine ⟨fun i m H => m = n - i ∧ i ≤ n ∧ Pv i H, ⟨n, by simp, Nat.zero_le _, h0⟩, ?_⟩
  rintro i m H ⟨rfl, hi, p⟩
  have q := hG i H hi p
  by_cases hlt : i < n
  · exact .inr ⟨w.goes i H hlt q, Pv (i + 1), fun H' p' => ⟨n - (i + 1), by omega, rfl, hlt, p'⟩, fun x H' y => hs i x H H' hlt p (w.yields i H x H' hlt q y)⟩
  · have e : i = n := by omega
    subst e
    exact .inl ⟨w.stops H q, hd H p⟩
/-- the list at D holds what the turns of the outer loop have told -/
def PvFl (R : Rp α) (F : Nat → List α) (D : Addr) (H1 : Hp) (i : Nat) (H : Hp) : Prop := Same H1 H ∧ ∃ xs, H D = some (.lst xs) ∧ Paired (R H) xs ((List.range i).flatMap F)
/-- within a turn: the first j of l have come -/
def PvIn (R : Rp α) (pre l : List α) (D : Addr) (H1 Hb : Hp) (j : Nat) (H : Hp) : Prop := Same H1 H ∧ Keep Hb H ∧ ∃ xs, H D = some (.lst xs) ∧ Paired (R H) xs (pre ++ l.take j)
theorem fl_start {R : Rp α} {F : Nat → List α} (hD : H1 D = none) : PvFl R F D H1 0 (upd H1 D (.lst [])) := ⟨same_new hD, [], upd_same, .nil⟩
theorem fl_in {R : Rp α} (m : Mono R) {F : Nat → List α} {i : Nat} {H H4 : Hp} (p : PvFl R F D H1 i H) (s : Same H H4) : PvIn R ((List.range i).flatMap F) (F i) D H1 H4 0 H4 := by
  obtain ⟨s1, xs, h1, h2⟩ := p
  refine ⟨s1.trans s, .refl _, xs, s _ _ h1, ?_⟩
  rw [List.take_zero, List.append_nil]
  exact paired_mono m s.keep h2
theorem in_keep {R : Rp α} (m : Mono R) {pre l : List α} {j : Nat} {H H4 Hb : Hp} {y : V} {a : α} (p : PvIn R pre l D H1 Hb j H) (hD : H1 D = none) (hz : pre.length + j ≤ 100000) (s4 : Same H H4) (ea : l[j]? = some a) (ra : R H4 y a) :
    ∃ acc, H4 D = some (.lst acc) ∧ acc.length < sizeLine ∧ PvIn R pre l D H1 Hb (j + 1) (upd H4 D (.lst (acc ++ [y]))) := by
  obtain ⟨s, kb, xs, h1, h2⟩ := p
  have hl : xs.length ≤ pre.length + j := by rw [paired_len h2, List.length_append, List.length_take]; omega
  have hD4 : H4 D = some (.lst xs) := s4 _ _ h1
  have k5 : Keep H4 (upd H4 D (.lst (xs ++ [y]))) := keep_lst hD4
  refine ⟨xs, hD4, Nat.lt_of_le_of_lt (Nat.le_trans hl hz) (by decide), same_own (s.trans s4) hD, (kb.trans s4.keep).trans k5, xs ++ [y], upd_same, ?_⟩
  rw [List.take_succ, ea, ← List.append_assoc]
  exact paired_app (paired_mono m k5 (paired_mono m s4.keep h2)) (.cons (m _ _ _ _ k5 ra) .nil)
theorem in_fl {R : Rp α} {F : Nat → List α} {i n : Nat} {H Hb : Hp} (hn : n = (F i).length) (p : PvIn R ((List.range i).flatMap F) (F i) D H1 Hb n H) : PvFl R F D H1 (i + 1) H := by
  obtain ⟨s, _, xs, h1, h2⟩ := p
  refine ⟨s, xs, h1, ?_⟩
  rw [hn, List.take_length] at h2
  rw [List.range_succ, List.flatMap_append, List.flatMap_singleton]
  exact h2
theorem fl_list {β : Type} (l : List β) (h : β → List α) : (List.range l.length).flatMap (fun i => (l[i]?.map h).getD []) = l.flatMap h := by
  have e : ∀ (m : Nat), m ≤ l.length → (List.range m).flatMap (fun i => (l[i]?.map h).getD []) = (l.take m).flatMap h := by
    intro m
    induction m with
    | zero => intro _; rfl
    | succ m ih =>
      intro hm
      have hl : l[m]? = some l[m] := List.getElem?_eq_getElem (by omega)
      rw [List.range_succ, List.flatMap_append, ih (by omega), List.take_succ, List.flatMap_append, hl, List.flatMap_singleton, hl]
      simp
  have := e l.length (Nat.le_refl _)
  rwa [List.take_length] at this
end
theorem rgV_int (a b : Int) : rgV a b = ((List.range (b - a).toNat).map fun (i : Nat) => a + (i : Int)).map V.int := by
  unfold rgV
  rw [List.map_map]
  rfl
theorem cutV_upto (xs : List V) (k : Nat) : cutV xs none (some (k : Int)) = xs.take k := by
  unfold cutV
  rw [HT.sIx_none, HT.sIx_nat, List.drop_zero, Nat.sub_zero]
  by_cases h : k ≤ xs.length
  · rw [Nat.min_eq_left h]
  · rw [Nat.min_eq_right (by omega), List.take_of_length_le (Nat.le_refl _), List.take_of_length_le (by omega)]
/-- t[:k] -/
theorem slice_upto {K : PySem.W.Frag} {H : Hp} {a : Addr} {xs : List V} {k : Nat} {Q : VK} (h : H a = some (.tup xs)) (q : ∀ H' p, Same H H' → H' p = some (.tup (xs.take k)) → Q (.ref p) H') : rSlA K (.ref a) none (some (k : Int)) H Q := by
  refine ⟨a, xs, rfl, .of h, fun e => q H a (.refl _) ?_, fun _ p np => ?_⟩
  · rw [HT.sIx_nat] at e
    rw [List.take_of_length_le (by omega)]
    exact h
  · rw [cutV_upto]
    exact q _ p (same_new np) upd_same
end TT

namespace S4
open PySem L2 TT
/-! ### the text by places -/
def top (i : Nat) : Stmt := PySem.Challenge.pw_sametolls_k01_whole_ladders_and_ranks.main.body.getD i (.Pass ⟨0, 0, 0, 0⟩)
abbrev s_is_integer : Stmt := top 6
abbrev s_is_below : Stmt := top 7
abbrev s_is_row : Stmt := top 8
abbrev s_is_clock : Stmt := top 13
abbrev s_ladder : Stmt := top 14
abbrev s_rank : Stmt := top 15
abbrev s_check_clock : Stmt := top 16
abbrev s_check_rows : Stmt := top 17
abbrev s_check_each : Stmt := top 18
abbrev s_ladder_of : Stmt := top 19
abbrev s_rank_of : Stmt := top 20
abbrev s_widened : Stmt := top 21
abbrev s_rungs_of : Stmt := top 22
abbrev s_cleared : Stmt := top 23
abbrev s_multiplied : Stmt := top 24
abbrev s_inverse : Stmt := top 25
abbrev s_first_place : Stmt := top 26
abbrev s_law_hand : Stmt := top 28
abbrev s_law_draw : Stmt := top 29
abbrev s_law_any : Stmt := top 30
abbrev s_law_is : Stmt := top 31
abbrev s_law_int : Stmt := top 32
abbrev s_law_mixed : Stmt := top 33
abbrev s_law_turn : Stmt := top 34
abbrev s_law_less : Stmt := top 35
abbrev s_law_ladder : Stmt := top 36
abbrev s_law_summed : Stmt := top 37
abbrev s_law_clock : Stmt := top 38
abbrev s_law_some_row : Stmt := top 39
abbrev s_law_some_rows : Stmt := top 40
abbrev s_law_all_mixtures : Stmt := top 41
abbrev s_law_is_prime : Stmt := top 42
abbrev s_law_many : Stmt := top 43
abbrev s_law_other_rows : Stmt := top 44
abbrev s_law : Stmt := top 45
abbrev N_is_integer : List Str := ["thing"]
theorem sc_is_integer : FnScope N_is_integer ["thing"] (defScope s_is_integer) := ⟨rfl, rfl, rfl, by decide +kernel, rfl, by decide +kernel, by decide +kernel⟩
abbrev N_is_below : List Str := ["thing", "end"]
theorem sc_is_below : FnScope N_is_below ["thing", "end"] (defScope s_is_below) := ⟨rfl, rfl, rfl, by decide +kernel, rfl, by decide +kernel, by decide +kernel⟩
abbrev N_is_row : List Str := ["thing", "p", "wide", "value"]
theorem sc_is_row : FnScope N_is_row ["thing", "p", "wide"] (defScope s_is_row) := ⟨rfl, rfl, rfl, by decide +kernel, rfl, by decide +kernel, by decide +kernel⟩
abbrev N_is_clock : List Str := ["thing", "factor"]
theorem sc_is_clock : FnScope N_is_clock ["thing"] (defScope s_is_clock) := ⟨rfl, rfl, rfl, by decide +kernel, rfl, by decide +kernel, by decide +kernel⟩
abbrev N_ladder : List Str := ["p", "wide", "rows"]
theorem sc_ladder : FnScope N_ladder ["p", "wide", "rows"] (defScope s_ladder) := ⟨rfl, rfl, rfl, by decide +kernel, rfl, by decide +kernel, by decide +kernel⟩
abbrev N_rank : List Str := ["p", "wide", "rows"]
theorem sc_rank : FnScope N_rank ["p", "wide", "rows"] (defScope s_rank) := ⟨rfl, rfl, rfl, by decide +kernel, rfl, by decide +kernel, by decide +kernel⟩
abbrev N_check_clock : List Str := ["p"]
theorem sc_check_clock : FnScope N_check_clock ["p"] (defScope s_check_clock) := ⟨rfl, rfl, rfl, by decide +kernel, rfl, by decide +kernel, by decide +kernel⟩
abbrev N_check_rows : List Str := ["p", "wide", "rows"]
theorem sc_check_rows : FnScope N_check_rows ["p", "wide", "rows"] (defScope s_check_rows) := ⟨rfl, rfl, rfl, by decide +kernel, rfl, by decide +kernel, by decide +kernel⟩
abbrev N_check_each : List Str := ["p", "wide", "rows", "index", "row"]
theorem sc_check_each : FnScope N_check_each ["p", "wide", "rows"] (defScope s_check_each) := ⟨rfl, rfl, rfl, by decide +kernel, rfl, by decide +kernel, by decide +kernel⟩
abbrev N_ladder_of : List Str := ["p", "wide", "rows", "rungs", "place"]
theorem sc_ladder_of : FnScope N_ladder_of ["p", "wide", "rows"] (defScope s_ladder_of) := ⟨rfl, rfl, rfl, by decide +kernel, rfl, by decide +kernel, by decide +kernel⟩
abbrev N_rank_of : List Str := ["p", "wide", "rows"]
theorem sc_rank_of : FnScope N_rank_of ["p", "wide", "rows"] (defScope s_rank_of) := ⟨rfl, rfl, rfl, by decide +kernel, rfl, by decide +kernel, by decide +kernel⟩
abbrev N_widened : List Str := ["p", "wide", "rungs", "rows", "row", "rest", "place"]
theorem sc_widened : FnScope N_widened ["p", "wide", "rungs", "rows"] (defScope s_widened) := ⟨rfl, rfl, rfl, by decide +kernel, rfl, by decide +kernel, by decide +kernel⟩
abbrev N_rungs_of : List Str := ["p", "wide", "rows", "rungs", "news", "number", "row", "rest", "place", "rung", "other"]
theorem sc_rungs_of : FnScope N_rungs_of ["p", "wide", "rows"] (defScope s_rungs_of) := ⟨rfl, rfl, rfl, by decide +kernel, rfl, by decide +kernel, by decide +kernel⟩
abbrev N_cleared : List Str := ["p", "rungs", "row", "place", "factor", "value", "less"]
theorem sc_cleared : FnScope N_cleared ["p", "rungs", "row"] (defScope s_cleared) := ⟨rfl, rfl, rfl, by decide +kernel, rfl, by decide +kernel, by decide +kernel⟩
abbrev N_multiplied : List Str := ["p", "factor", "row", "value"]
theorem sc_multiplied : FnScope N_multiplied ["p", "factor", "row"] (defScope s_multiplied) := ⟨rfl, rfl, rfl, by decide +kernel, rfl, by decide +kernel, by decide +kernel⟩
abbrev N_inverse : List Str := ["p", "value", "ahead", "now", "before", "factor", "times"]
theorem sc_inverse : FnScope N_inverse ["p", "value"] (defScope s_inverse) := ⟨rfl, rfl, rfl, by decide +kernel, rfl, by decide +kernel, by decide +kernel⟩
abbrev N_first_place : List Str := ["row", "wide", "place"]
theorem sc_first_place : FnScope N_first_place ["row", "wide"] (defScope s_first_place) := ⟨rfl, rfl, rfl, by decide +kernel, rfl, by decide +kernel, by decide +kernel⟩
abbrev N_law_hand : List Str := ["script", "cells", "cell"]
theorem sc_law_hand : FnScope N_law_hand ["script"] (defScope s_law_hand) := ⟨rfl, rfl, rfl, by decide +kernel, rfl, by decide +kernel, by decide +kernel⟩
abbrev N_law_draw : List Str := ["hand", "many", "cell", "digit", "number"]
theorem sc_law_draw : FnScope N_law_draw ["hand", "many"] (defScope s_law_draw) := ⟨rfl, rfl, rfl, by decide +kernel, rfl, by decide +kernel, by decide +kernel⟩
abbrev N_law_any : List Str := ["hand", "items"]
theorem sc_law_any : FnScope N_law_any ["hand", "items"] (defScope s_law_any) := ⟨rfl, rfl, rfl, by decide +kernel, rfl, by decide +kernel, by decide +kernel⟩
abbrev N_law_is : List Str := ["told", "due", "one", "two"]
theorem sc_law_is : FnScope N_law_is ["told", "due"] (defScope s_law_is) := ⟨rfl, rfl, rfl, by decide +kernel, rfl, by decide +kernel, by decide +kernel⟩
abbrev N_law_int : List Str := ["thing", "least", "most"]
theorem sc_law_int : FnScope N_law_int ["thing", "least", "most"] (defScope s_law_int) := ⟨rfl, rfl, rfl, by decide +kernel, rfl, by decide +kernel, by decide +kernel⟩
abbrev N_law_mixed : List Str := ["hand", "items", "left", "found", "turn"]
theorem sc_law_mixed : FnScope N_law_mixed ["hand", "items"] (defScope s_law_mixed) := ⟨rfl, rfl, rfl, by decide +kernel, rfl, by decide +kernel, by decide +kernel⟩
abbrev N_law_turn : List Str := ["p", "value", "found", "many", "left"]
theorem sc_law_turn : FnScope N_law_turn ["p", "value"] (defScope s_law_turn) := ⟨rfl, rfl, rfl, by decide +kernel, rfl, by decide +kernel, by decide +kernel⟩
abbrev N_law_less : List Str := ["p", "row", "other", "many", "one", "two"]
theorem sc_law_less : FnScope N_law_less ["p", "row", "other", "many"] (defScope s_law_less) := ⟨rfl, rfl, rfl, by decide +kernel, rfl, by decide +kernel, by decide +kernel⟩
abbrev N_law_ladder : List Str := ["p", "wide", "rows", "left", "found", "place", "some", "head", "turn", "at", "row", "one"]
theorem sc_law_ladder : FnScope N_law_ladder ["p", "wide", "rows"] (defScope s_law_ladder) := ⟨rfl, rfl, rfl, by decide +kernel, rfl, by decide +kernel, by decide +kernel⟩
abbrev N_law_summed : List Str := ["p", "wide", "rows", "many", "found", "row", "value"]
theorem sc_law_summed : FnScope N_law_summed ["p", "wide", "rows", "many"] (defScope s_law_summed) := ⟨rfl, rfl, rfl, by decide +kernel, rfl, by decide +kernel, by decide +kernel⟩
abbrev N_law_clock : List Str := ["hand"]
theorem sc_law_clock : FnScope N_law_clock ["hand"] (defScope s_law_clock) := ⟨rfl, rfl, rfl, by decide +kernel, rfl, by decide +kernel, by decide +kernel⟩
abbrev N_law_some_row : List Str := ["hand", "p", "wide", "rows", "kind", "at", "many", "place", "row"]
theorem sc_law_some_row : FnScope N_law_some_row ["hand", "p", "wide", "rows"] (defScope s_law_some_row) := ⟨rfl, rfl, rfl, by decide +kernel, rfl, by decide +kernel, by decide +kernel⟩
abbrev N_law_some_rows : List Str := ["hand", "p", "wide", "many", "found", "turn"]
theorem sc_law_some_rows : FnScope N_law_some_rows ["hand", "p", "wide", "many"] (defScope s_law_some_rows) := ⟨rfl, rfl, rfl, by decide +kernel, rfl, by decide +kernel, by decide +kernel⟩
abbrev N_law_all_mixtures : List Str := ["p", "wide", "rows", "found", "row", "more", "one", "many"]
theorem sc_law_all_mixtures : FnScope N_law_all_mixtures ["p", "wide", "rows"] (defScope s_law_all_mixtures) := ⟨rfl, rfl, rfl, by decide +kernel, rfl, by decide +kernel, by decide +kernel⟩
abbrev N_law_is_prime : List Str := ["thing", "other"]
theorem sc_law_is_prime : FnScope N_law_is_prime ["thing"] (defScope s_law_is_prime) := ⟨rfl, rfl, rfl, by decide +kernel, rfl, by decide +kernel, by decide +kernel⟩
abbrev N_law_many : List Str := ["p", "times", "found", "turn"]
theorem sc_law_many : FnScope N_law_many ["p", "times"] (defScope s_law_many) := ⟨rfl, rfl, rfl, by decide +kernel, rfl, by decide +kernel, by decide +kernel⟩
abbrev N_law_other_rows : List Str := ["hand", "p", "wide", "rows", "found", "turn", "at", "to", "many", "extra", "value", "row"]
theorem sc_law_other_rows : FnScope N_law_other_rows ["hand", "p", "wide", "rows"] (defScope s_law_other_rows) := ⟨rfl, rfl, rfl, by decide +kernel, rfl, by decide +kernel, by decide +kernel⟩
abbrev N_law : List Str := ["script", "hand", "odd", "thing", "turn", "p", "wide", "many", "rows", "given", "kept", "due", "told", "other"]
theorem sc_law : FnScope N_law ["script"] (defScope s_law) := ⟨rfl, rfl, rfl, by decide +kernel, rfl, by decide +kernel, by decide +kernel⟩
/-! ### the facts of the top -/
structure D (K : PySem.W.Frag) (mg : Str → Option Value) (x : Str) (st : Stmt) (ps : List Str) (f : Addr) (fd : FuncData) : Prop where
  F : Fun K x x st f fd
  b : Binds K fd ps []
  m : mg x = some (.ref f)
abbrev DE (K : PySem.W.Frag) (mg : Str → Option Value) (x : Str) (st : Stmt) (ps : List Str) : Prop := ∃ f fd, D K mg x st ps f fd
theorem DE.mk {K : PySem.W.Frag} {h : Heap} {mg : Str → Option Value} {x : Str} {st : Stmt} {ps : List Str} {f : Addr} {oc : Value} {od an : Option Addr} {osl : Array (Option Value)} {kV doc pm cdv ct : Value} (X : K.In h) (G : h.Ns mainGlobals mg)
    (hb : ∀ (kV doc pm : Value) (an : Option Addr) (cdv ct : Value) (us : List Value), us.length = ps.length → bindArgs (PySem.W.fnOf x x (defArgs st) (defBody st) (defScope st) .none kV doc pm an cdv ct) ⟨us, []⟩ = pure (ps.zip us))
    (a : PySem.W.nsIn K mainGlobals x = some (some (.ref f)))
    (l : K.lookup f = some ⟨oc, od, .func (PySem.W.fnOf x x (defArgs st) (defBody st) (defScope st) .none kV doc pm an cdv ct), osl⟩) (c : PySem.W.codeIn K cdv x = true) (k : PySem.W.keepIn K (.ref f) = true) : DE K mg x st ps :=
  ⟨f, _, fun_mk l c k, (fun_mk l c k).binds hb, PySem.W.mg_of X G a⟩
/-- a class with its __init__ -/
structure DC (K : PySem.W.Frag) (mg : Str → Option Value) (x : Str) (q : Str) (st : Stmt) (ps : List Str) (fl : List Str) (C f : Addr) (fd : FuncData) : Prop where
  F : Fun K "__init__" q st f fd
  b : Binds K fd ps []
  m : mg x = some (.ref C)
  mkf : Mk K C f
  cl : Cls K C
  na : ∀ y ∈ fl, NoAttr K C y
structure Tx (K : PySem.W.Frag) (mg : Str → Option Value) (cT cS : Addr) : Prop where
  b_abs : mg "abs" = none
  b_all : mg "all" = none
  b_bool : mg "bool" = none
  b_enumerate : mg "enumerate" = none
  b_int : mg "int" = none
  b_isinstance : mg "isinstance" = none
  b_len : mg "len" = none
  b_list : mg "list" = none
  b_min : mg "min" = none
  b_range : mg "range" = none
  b_sorted : mg "sorted" = none
  b_tuple : mg "tuple" = none
  b_zip : mg "zip" = none
  c_MOST_HOURS : ∃ t, mg "MOST_HOURS" = some (.int 1000000 t)
  c_MOST_WIDE : ∃ t, mg "MOST_WIDE" = some (.int 200 t)
  c_MOST_ROWS : ∃ t, mg "MOST_ROWS" = some (.int 200 t)
  d_is_integer : DE K mg "is_integer" s_is_integer ["thing"]
  d_is_below : DE K mg "is_below" s_is_below ["thing", "end"]
  d_is_row : DE K mg "is_row" s_is_row ["thing", "p", "wide"]
  d_is_clock : DE K mg "is_clock" s_is_clock ["thing"]
  d_ladder : DE K mg "ladder" s_ladder ["p", "wide", "rows"]
  d_rank : DE K mg "rank" s_rank ["p", "wide", "rows"]
  d_check_clock : DE K mg "check_clock" s_check_clock ["p"]
  d_check_rows : DE K mg "check_rows" s_check_rows ["p", "wide", "rows"]
  d_check_each : DE K mg "check_each" s_check_each ["p", "wide", "rows"]
  d_ladder_of : DE K mg "ladder_of" s_ladder_of ["p", "wide", "rows"]
  d_rank_of : DE K mg "rank_of" s_rank_of ["p", "wide", "rows"]
  d_widened : DE K mg "widened" s_widened ["p", "wide", "rungs", "rows"]
  d_rungs_of : DE K mg "rungs_of" s_rungs_of ["p", "wide", "rows"]
  d_cleared : DE K mg "cleared" s_cleared ["p", "rungs", "row"]
  d_multiplied : DE K mg "multiplied" s_multiplied ["p", "factor", "row"]
  d_inverse : DE K mg "inverse" s_inverse ["p", "value"]
  d_first_place : DE K mg "first_place" s_first_place ["row", "wide"]
  d_law_hand : DE K mg "_law_hand" s_law_hand ["script"]
  d_law_draw : DE K mg "_law_draw" s_law_draw ["hand", "many"]
  d_law_any : DE K mg "_law_any" s_law_any ["hand", "items"]
  d_law_is : DE K mg "_law_is" s_law_is ["told", "due"]
  d_law_int : DE K mg "_law_int" s_law_int ["thing", "least", "most"]
  d_law_mixed : DE K mg "_law_mixed" s_law_mixed ["hand", "items"]
  d_law_turn : DE K mg "_law_turn" s_law_turn ["p", "value"]
  d_law_less : DE K mg "_law_less" s_law_less ["p", "row", "other", "many"]
  d_law_ladder : DE K mg "_law_ladder" s_law_ladder ["p", "wide", "rows"]
  d_law_summed : DE K mg "_law_summed" s_law_summed ["p", "wide", "rows", "many"]
  d_law_clock : DE K mg "_law_clock" s_law_clock ["hand"]
  d_law_some_row : DE K mg "_law_some_row" s_law_some_row ["hand", "p", "wide", "rows"]
  d_law_some_rows : DE K mg "_law_some_rows" s_law_some_rows ["hand", "p", "wide", "many"]
  d_law_all_mixtures : DE K mg "_law_all_mixtures" s_law_all_mixtures ["p", "wide", "rows"]
  d_law_is_prime : DE K mg "_law_is_prime" s_law_is_prime ["thing"]
  d_law_many : DE K mg "_law_many" s_law_many ["p", "times"]
  d_law_other_rows : DE K mg "_law_other_rows" s_law_other_rows ["hand", "p", "wide", "rows"]
  d_law : DE K mg "law" s_law ["script"]
end S4

namespace S4
open PySem L2 TT
section
variable {P : Program} {w : World} {K : PySem.W.Frag} {mg : Str → Option Value} {base : Heap} {cT cS : Addr}
/-! ### kinds -/
def spIsInteger : Sp := fun vs H Q _ => ∃ (n : Int), vs = [.int n] ∧ Q (.bl true) H
theorem ok_is_integer (T : Tx K mg cT cS) {f : Addr} {fd : FuncData} (d : D K mg "is_integer" s_is_integer ["thing"] f fd) : FnOk P w K mg base CX0 1 f fd ["thing"] spIsInteger := by
  refine d.F.ok sc_is_integer (fun vs H Q E h => ?_) (fun cdv A outer s H vs Q E hr h => ?_)
  · obtain ⟨n, rfl, _⟩ := h
    rfl
  · obtain ⟨n, rfl, q⟩ := h
    refine ⟨_, pss_one (ps_ret (pe_and (pe_callB call_isi (by rfl) T.b_isinstance (by decide +kernel) (pa_cons (pv 0) (pa_cons (ty_int T.b_int) pa_nil)))
      (pe_one (pe_not (pe_callB call_isi (by rfl) T.b_isinstance (by decide +kernel) (pa_cons (pv 0) (pa_cons (ty_bool T.b_bool) pa_nil))))))), ?_⟩
    exact ⟨_, rfl, _, _, _, _, _, rfl, .ty _, .base (.int _), kit_ii, _, rfl, iteT ⟨_, rfl, _, _, _, _, _, rfl, .ty _, .base (.int _), kit_ib, _, rfl, q⟩⟩
def spIsBelow : Sp := fun vs H Q _ => ∃ (n e : Int), vs = [.int n, .int e] ∧ Q (.bl (decide (0 ≤ n ∧ n < e))) H
theorem ok_is_below (T : Tx K mg cT cS) {f : Addr} {fd : FuncData} (d : D K mg "is_below" s_is_below ["thing", "end"] f fd) : FnOk P w K mg base CX0 2 f fd ["thing", "end"] spIsBelow := by
  obtain ⟨f1, fd1, d1⟩ := T.d_is_integer
  have G1 : FnOk P w K mg base CX0 1 f1 fd1 ["thing"] spIsInteger := ok_is_integer T d1
  refine d.F.ok sc_is_below (fun vs H Q E h => ?_) (fun cdv A outer s H vs Q E hr h => ?_)
  · obtain ⟨n, e, rfl, _⟩ := h
    rfl
  · obtain ⟨n, e, rfl, q⟩ := h
    refine ⟨_, pss_one (ps_ret (pe_and (pe_call G1 hr rfl d1.m d1.F.kp d1.b .nil pass0 (pa_cons (pv 0) pa_nil)) (pe_one (pe_chain op_le op_lt pe_int (pv 0) (pv 1))))), ?_⟩
    refine ⟨_, rfl, n, rfl, _, rfl, iteT ⟨_, rfl, _, _, rfl, rfl, _, rfl, ?_⟩⟩
    by_cases h0 : 0 ≤ n
    · rw [decide_eq_true h0]
      refine iteT ⟨_, rfl, _, _, rfl, rfl, ?_⟩
      simpa [h0] using q
    · rw [decide_eq_false h0]
      refine iteF ?_
      simpa [h0] using q
end
end S4

namespace S4
open PySem L2 TT
section
variable {P : Program} {w : World} {K : PySem.W.Frag} {mg : Str → Option Value} {base : Heap} {cT cS : Addr}
def isRow (l : List Int) (p : Int) (wd : Int) : Prop := (l.length : Int) = wd ∧ ∀ v ∈ l, 0 ≤ v ∧ v < p
/-- a row that is right -/
def spIsRow : Sp := fun vs H Q _ => ∃ (v : V) (l : List Int) (p wd : Int), vs = [v, .int p, .int wd] ∧ rRow H v l ∧ l.length ≤ 100000 ∧ isRow l p wd ∧ ∀ H', Same H H' → Q (.bl true) H'
theorem all_true : ∀ {bs : List Bool}, (∀ b ∈ bs, b = true) → bs.all id = true := fun {bs} h => by
  rw [List.all_eq_true]
  exact fun x hx => h x hx
def rBl : Rp Bool := fun _ v b => v = .bl b
theorem mono_bl : Mono rBl := fun _ _ _ _ _ h => h
theorem paired_bl {H : Hp} : ∀ {xs : List V} {l : List Bool}, Paired (rBl H) xs l → xs = l.map V.bl
  | _, _, .nil => rfl
  | _, _, .cons r t => by cases r; rw [List.map_cons, paired_bl t]
theorem ok_is_row (T : Tx K mg cT cS) {f : Addr} {fd : FuncData} (d : D K mg "is_row" s_is_row ["thing", "p", "wide"] f fd) : FnOk P w K mg base CX0 3 f fd ["thing", "p", "wide"] spIsRow := by
  obtain ⟨f1, fd1, d1⟩ := T.d_is_below
  have G1 : FnOk P w K mg base CX0 2 f1 fd1 ["thing", "end"] spIsBelow := ok_is_below T d1
  refine d.F.ok sc_is_row (fun vs H Q E h => ?_) (fun cdv A outer s H vs Q E hr h => ?_)
  · obtain ⟨v, l, p, wd, rfl, _⟩ := h
    rfl
  · obtain ⟨v, l, p, wd, rfl, ⟨t, rfl, ht⟩, hl, ⟨hw, hv⟩, q⟩ := h
    refine ⟨_, pss_cons (ps_if (PW.pt (pw_or (pt_not (pt_val (pe_callB call_isi (by rfl) T.b_isinstance (by decide +kernel) (pa_cons (pv 0) (pa_cons (ty_tuple T.b_tuple) pa_nil)))))
        (pw_or1 (pt_cmpR op_ne (pe_callB call_len_seq (by rfl) T.b_len PySem.boot_len (pa_cons (pv 0) pa_nil)) (pv 2) (nomark _))))) (pss_one (ps_ret pe_bl)) pss_nil)
      (pss_one (ps_ret (pe_callB (cr_all rfl) (by rfl) T.b_all (by decide +kernel) (pa_cons
        (pe_lc (own := [("value", 3)]) (g := gName 3) (tt := tYes) rfl sc_is_row.nd (pi_tup (pv 0)) (blkOk_by (N := N_is_row) (sc := defScope s_is_row) (by decide +kernel)) (fun _ _ _ _ _ => pg_name (i := 3) sc_is_row.nd rfl (Or.inl rfl)) (fun _ _ _ _ _ => pts_nil)
          (fun _ _ _ _ _ => pe_call G1 hr rfl d1.m d1.F.kp d1.b .nil pass0 (pa_cons (pv 3) (pa_cons (pv 1) pa_nil)))) pa_nil)))), ?_⟩
    refine ⟨_, rfl, _, _, _, _, _, rfl, .ty _, .base (.tup ht), kit_tt, _, rfl, iteF ?_⟩
    refine ⟨_, rfl, _, _, rfl, .inr (.of ht), _, rfl, rfl, _, rfl, ?_⟩
    have e1 : V.int (((l.map V.int).length : Nat) : Int) = V.int wd := by rw [List.length_map, hw]
    rw [e1, decide_eq_true rfl]
    refine iteF ⟨_, rfl, t, rfl, ⟨_, .of ht⟩, fun D hD => ?_⟩
    refine lc_fm (walk_tup (xs := l.map V.int)) rBl (fun _ => some true) hD (fun H' s' => .of (s'.keep.tup ht)) ?_ ?_
    · rintro i x H2 H3 hi pv ⟨rfl, hx⟩
      obtain ⟨n, hn, rfl⟩ := at_int hx
      rw [List.length_map] at hi
      obtain ⟨g1, g2⟩ := hv n (List.mem_of_getElem? hn)
      refine ⟨rfl, _, rfl, _, rfl, n, p, rfl, ?_⟩
      rw [decide_eq_true ⟨g1, g2⟩]
      exact fm_keep mono_bl pv hD (by omega) (Same.refl _) rfl rfl
    · intro H2 xs s2 hD2 hp
      have := paired_bl hp
      subst this
      refine ⟨_, _, rfl, .of hD2, ?_⟩
      rw [all_true fun b hb => by
        obtain ⟨_, _, e⟩ := List.mem_filterMap.mp hb
        exact (Option.some.inj e).symm]
      exact q _ s2
end
end S4

namespace S4
open PySem L2 TT
section
variable {P : Program} {w : World} {K : PySem.W.Frag} {mg : Str → Option Value} {base : Heap} {cT cS : Addr}
def NoDiv (n : Int) : Prop := 2 ≤ n ∧ n ≤ 1000000 ∧ ∀ k : Int, 2 ≤ k → k * k ≤ n → n % k ≠ 0
def spIsClock : Sp := fun vs H Q _ => ∃ (n : Int), vs = [.int n] ∧ NoDiv n ∧ Q (.bl true) H
theorem sq_small {f : Int} (h : 2 ≤ f) (h2 : f * f ≤ 1000000) : f ≤ 1000 := by
  by_cases q : f ≤ 1000
  · exact q
  · have a : 1001 * 1001 ≤ f * f := Int.mul_le_mul (by omega) (by omega) (by decide) (by omega)
    omega
theorem ok_is_clock (T : Tx K mg cT cS) {f : Addr} {fd : FuncData} (d : D K mg "is_clock" s_is_clock ["thing"] f fd) : FnOk P w K mg base CX0 2 f fd ["thing"] spIsClock := by
  obtain ⟨f1, fd1, d1⟩ := T.d_is_integer
  have G1 : FnOk P w K mg base CX0 1 f1 fd1 ["thing"] spIsInteger := ok_is_integer T d1
  obtain ⟨tk, hM⟩ := T.c_MOST_HOURS
  refine d.F.ok sc_is_clock (fun vs H Q E h => ?_) (fun cdv A outer s H vs Q E hr h => ?_)
  · obtain ⟨n, rfl, _⟩ := h
    rfl
  · obtain ⟨n, rfl, ⟨n2, n6, nd⟩, q⟩ := h
    refine ⟨_, pss_cons (ps_if (PW.pt (pw_or (pt_not (pt_val (pe_call G1 hr rfl d1.m d1.F.kp d1.b .nil pass0 (pa_cons (pv 0) pa_nil))))
        (pw_or1 (pt_not (pt_chain op_le op_le pe_int (pv 0) (pe_glob (v := .int 1000000) rfl hM ⟨_, rfl⟩)))))) (pss_one (ps_ret pe_bl)) pss_nil)
      (pss_cons (ps_set (i := 1) sc_is_clock.nd rfl (.inl rfl) pe_int)
      (pss_cons (ps_while PassesOwn.never (pt_cmpR op_le (pe_op op_mul (pv 1) (pv 1)) (pv 0) (nomark _))
        (pss_cons (ps_if (pt_cmpR op_eq (pe_op op_mod (pv 0) (pv 1)) pe_int (nomark _)) (pss_one (ps_ret pe_bl)) pss_nil)
          (pss_one (ps_aug (i := 1) sc_is_clock.nd rfl (.inl rfl) pe_int ip_add))))
      (pss_one (ps_ret pe_bl)))), ?_⟩
    refine ⟨_, rfl, n, rfl, _, rfl, iteF ?_⟩
    refine ⟨_, rfl, _, _, rfl, rfl, _, rfl, ?_⟩
    rw [decide_eq_true n2]
    refine iteT ⟨_, _, rfl, rfl, _, rfl, ?_⟩
    rw [decide_eq_true n6]
    refine iteF ?_
    refine while_by (fun σ H' => H' = H ∧ ∃ k : Int, σ = [some (.int n), some (.int k)] ∧ 2 ≤ k ∧ k ≤ 1001) (fun σ _ => match σ with | [_, some (.int k)] => (2000 - k).toNat | _ => 0) ⟨rfl, 2, rfl, by decide, by decide⟩ ?_ ?_
    · rintro σ H' ⟨rfl, k, rfl, k2, k3⟩
      refine ⟨_, rfl, _, rfl, _, _, rfl, rfl, .inl ⟨by omega, by omega⟩, _, rfl, _, _, rfl, rfl, _, rfl, ?_⟩
      by_cases hk : k * k ≤ n
      · rw [decide_eq_true hk]
        refine iteT ?_
        refine ⟨_, rfl, _, rfl, _, _, rfl, rfl, by omega, rfl, _, rfl, ?_⟩
        have hne : ¬ V.int (n % k) = V.int 0 := fun e => nd k k2 hk (V.int.inj e)
        rw [decide_eq_false hne]
        refine iteF ⟨_, rfl, _, _, rfl, rfl, ⟨rfl, k + 1, rfl, by omega, ?_⟩, ?_⟩
        · have := sq_small k2 (Int.le_trans hk n6)
          omega
        · show (2000 - (k + 1)).toNat < (2000 - k).toNat
          omega
      · rw [decide_eq_false hk]
        exact iteF q
    · rintro σ H' Q1 Q2 i ⟨v, e1, v2, e2, a, b, e3, e4, c, v3, e5, a1, b1, e6, e7, k, e8, h⟩
      exact ⟨v, e1, v2, e2, a, b, e3, e4, c, v3, e5, a1, b1, e6, e7, k, e8, i _ _ h⟩
end
end S4

/-! rows modulo a number: what they span, the ladder of a room is only one -/
namespace MM
/-- alike modulo p -/
def Cg (p a b : Int) : Prop := p ∣ a - b
theorem Cg.refl {p : Int} (a : Int) : Cg p a a := by unfold Cg; rw [Int.sub_self]; exact Int.dvd_zero p
theorem Cg.of_eq {p a b : Int} (h : a = b) : Cg p a b := h ▸ .refl a
theorem Cg.symm {p a b : Int} (h : Cg p a b) : Cg p b a := by
  obtain ⟨k, hk⟩ := h
  exact ⟨-k, by rw [Int.mul_neg, ← hk]; omega⟩
theorem Cg.trans {p a b c : Int} (h : Cg p a b) (g : Cg p b c) : Cg p a c := by
  obtain ⟨k, hk⟩ := h
  obtain ⟨l, hl⟩ := g
  exact ⟨k + l, by rw [Int.mul_add, ← hk, ← hl]; omega⟩
theorem Cg.add {p a b c d : Int} (h : Cg p a b) (g : Cg p c d) : Cg p (a + c) (b + d) := by
  obtain ⟨k, hk⟩ := h
  obtain ⟨l, hl⟩ := g
  exact ⟨k + l, by rw [Int.mul_add, ← hk, ← hl]; omega⟩
theorem Cg.mul {p a b c d : Int} (h : Cg p a b) (g : Cg p c d) : Cg p (a * c) (b * d) := by
  obtain ⟨k, hk⟩ := h
  obtain ⟨l, hl⟩ := g
  refine ⟨k * c + b * l, ?_⟩
  have e1 : a = b + p * k := by omega
  have e2 : c = d + p * l := by omega
  subst e1 e2
  simp only [Int.mul_add, Int.add_mul]
  have h1 : p * k * d = p * (k * d) := Int.mul_assoc _ _ _
  have h2 : p * k * (p * l) = p * (k * (p * l)) := Int.mul_assoc _ _ _
  have h3 : b * (p * l) = p * (b * l) := by rw [← Int.mul_assoc, Int.mul_comm b p, Int.mul_assoc]
  omega
theorem Cg.neg {p a b : Int} (h : Cg p a b) : Cg p (-a) (-b) := by
  obtain ⟨k, hk⟩ := h
  exact ⟨-k, by rw [Int.mul_neg, ← hk]; omega⟩
theorem Cg.sub {p a b c d : Int} (h : Cg p a b) (g : Cg p c d) : Cg p (a - c) (b - d) := by
  have := h.add g.neg
  rwa [← Int.sub_eq_add_neg, ← Int.sub_eq_add_neg] at this
theorem Cg.mod {p : Int} (a : Int) : Cg p (a % p) a := by
  refine ⟨-(a / p), ?_⟩
  have := Int.mul_ediv_add_emod a p
  rw [Int.mul_neg]
  omega
theorem Cg.eq {p a b : Int} (h : Cg p a b) (a0 : 0 ≤ a) (a1 : a < p) (b0 : 0 ≤ b) (b1 : b < p) : a = b := by
  obtain ⟨k, hk⟩ := h
  have p0 : 0 < p := by omega
  rcases Int.lt_trichotomy k 0 with h | h | h
  · have : p * k ≤ p * (-1) := Int.mul_le_mul_of_nonneg_left (by omega) (by omega)
    omega
  · subst h
    omega
  · have : p * 1 ≤ p * k := Int.mul_le_mul_of_nonneg_left (by omega) (by omega)
    omega
theorem Cg.zero_of {p a : Int} (h : Cg p a 0) (a0 : 0 ≤ a) (a1 : a < p) : a = 0 := h.eq a0 a1 (by omega) (by omega)
/-! ### what rows span -/
abbrev Vc := Nat → Int
inductive Spn (p : Int) (R : Vc → Prop) : Vc → Prop
  | zero {v : Vc} : (∀ x, Cg p (v x) 0) → Spn p R v
  | add {u r v : Vc} (c : Int) : Spn p R u → R r → (∀ x, Cg p (v x) (u x + c * r x)) → Spn p R v
section
variable {p : Int} {R R' : Vc → Prop}
theorem Spn.cg {u v : Vc} (h : Spn p R u) (e : ∀ x, Cg p (v x) (u x)) : Spn p R v := by
  cases h with
  | zero h => exact .zero fun x => (e x).trans (h x)
  | add c hu hr h => exact .add c hu hr fun x => (e x).trans (h x)
theorem Spn.row {r : Vc} (h : R r) : Spn p R r := .add 1 (.zero (v := fun _ => 0) fun _ => .refl 0) h fun x => .of_eq (by omega)
theorem Spn.plus {u w v : Vc} (c : Int) (hu : Spn p R u) (hw : Spn p R w) (e : ∀ x, Cg p (v x) (u x + c * w x)) : Spn p R v := by
  induction hw generalizing v with
  | @zero w h =>
    refine hu.cg fun x => (e x).trans ?_
    have := (Cg.refl (p := p) (u x)).add ((Cg.refl c).mul (h x))
    rwa [Int.mul_zero, Int.add_zero] at this
  | @add w' r w d hw' hr h ih =>
    have h1 : Spn p R (fun x => u x + c * w' x) := ih fun x => .refl _
    refine .add (c * d) h1 hr fun x => (e x).trans ?_
    have := (Cg.refl (p := p) (u x)).add ((Cg.refl c).mul (h x))
    refine this.trans (.of_eq ?_)
    rw [Int.mul_add, ← Int.mul_assoc]
    omega
theorem Spn.sub (hs : ∀ r, R r → Spn p R' r) {v : Vc} (h : Spn p R v) : Spn p R' v := by
  induction h with
  | zero h => exact .zero h
  | add c _ hr h ih => exact .plus c ih (hs _ hr) h
theorem Spn.mono (hs : ∀ r, R r → R' r) {v : Vc} (h : Spn p R v) : Spn p R' v := h.sub fun r hr => .row (hs r hr)
/-- two lots of rows, each in the room of the other -/
def Same2 (p : Int) (R R' : Vc → Prop) : Prop := ∀ v, Spn p R v ↔ Spn p R' v
theorem same2_of (h1 : ∀ r, R r → Spn p R' r) (h2 : ∀ r, R' r → Spn p R r) : Same2 p R R' := fun v => ⟨fun h => h.sub h1, fun h => h.sub h2⟩
/-- what is 0 in the places of all rows is so in all of the room -/
theorem Spn.nought {v : Vc} {x : Nat} (h : Spn p R v) (hr : ∀ r, R r → Cg p (r x) 0) : Cg p (v x) 0 := by
  induction h with
  | zero h => exact h x
  | @add u r v c hu hr' h ih =>
    have := ih.add ((Cg.refl c).mul (hr r hr'))
    rw [Int.mul_zero, Int.add_zero] at this
    exact (h x).trans this
end
/-! ### sums over a list of places -/
def sumP (P : List Nat) (f : Nat → Int) : Int := (P.map f).sum
theorem sumP_cons (i : Nat) (P : List Nat) (f : Nat → Int) : sumP (i :: P) f = f i + sumP P f := by unfold sumP; rw [List.map_cons, List.sum_cons]
theorem sumP_add (P : List Nat) (f g : Nat → Int) : sumP P (fun i => f i + g i) = sumP P f + sumP P g := by
  induction P with
  | nil => rfl
  | cons i P ih => rw [sumP_cons, sumP_cons, sumP_cons, ih]; omega
theorem sumP_mul (P : List Nat) (c : Int) (f : Nat → Int) : sumP P (fun i => c * f i) = c * sumP P f := by
  induction P with
  | nil => show (0 : Int) = c * 0; rw [Int.mul_zero]
  | cons i P ih => rw [sumP_cons, sumP_cons, ih, Int.mul_add]
theorem sumP_cg {p : Int} {P : List Nat} {f g : Nat → Int} (h : ∀ i ∈ P, Cg p (f i) (g i)) : Cg p (sumP P f) (sumP P g) := by
  induction P with
  | nil => exact .refl _
  | cons i P ih =>
    rw [sumP_cons, sumP_cons]
    exact (h i (by simp)).add (ih fun j hj => h j (by simp [hj]))
theorem sumP_zero {p : Int} {P : List Nat} {f : Nat → Int} (h : ∀ i ∈ P, Cg p (f i) 0) : Cg p (sumP P f) 0 := by
  have := sumP_cg (g := fun _ => 0) h
  have e : sumP P (fun _ => 0) = 0 := by
    clear this h
    induction P with
    | nil => rfl
    | cons i P ih => rw [sumP_cons, ih]; rfl
  rwa [e] at this
/-- only one of the places counts -/
theorem sumP_one {p : Int} {P : List Nat} {f : Nat → Int} {k : Nat} (nd : P.Nodup) (hk : k ∈ P) (h : ∀ i ∈ P, i ≠ k → Cg p (f i) 0) : Cg p (sumP P f) (f k) := by
  induction P with
  | nil => cases hk
  | cons i P ih =>
    obtain ⟨n1, n2⟩ := List.nodup_cons.mp nd
    rw [sumP_cons]
    by_cases e : i = k
    · subst e
      have := (Cg.refl (p := p) (f i)).add (sumP_zero (p := p) (P := P) (f := f) fun j hj => h j (by simp [hj]) fun q => n1 (q ▸ hj))
      rwa [Int.add_zero] at this
    · have hk' : k ∈ P := by
        rcases List.mem_cons.mp hk with q | q
        · exact absurd q.symm e
        · exact q
      have := (h i (by simp) e).add (ih n2 hk' fun j hj => h j (by simp [hj]))
      rwa [Int.zero_add] at this
/-! ### ladders -/
/-- rows by their first places -/
structure Lad (p : Int) (P : List Nat) (r : Nat → Vc) : Prop where
  nd : P.Nodup
  one : ∀ i ∈ P, Cg p (r i i) 1
  off : ∀ i ∈ P, ∀ j ∈ P, j ≠ i → Cg p (r i j) 0
  low : ∀ i ∈ P, ∀ x, x < i → Cg p (r i x) 0
def rungs (P : List Nat) (r : Nat → Vc) : Vc → Prop := fun v => ∃ i ∈ P, v = r i
section
variable {p : Int} {P P' : List Nat} {r r' : Nat → Vc}
theorem Lad.self (L : Lad p P r) {k : Nat} (hk : k ∈ P) (x : Nat) : Cg p (sumP P fun i => r k i * r i x) (r k x) := by
  refine (sumP_one L.nd hk fun i hi e => ?_).trans ?_
  · have := (L.off k hk i hi e).mul (Cg.refl (r i x))
    rwa [Int.zero_mul] at this
  · have := (L.one k hk).mul (Cg.refl (r k x))
    rwa [Int.one_mul] at this
/-- a row of the room is told by its values in the first places -/
theorem Lad.coord (L : Lad p P r) {v : Vc} (h : Spn p (rungs P r) v) (x : Nat) : Cg p (v x) (sumP P fun i => v i * r i x) := by
  induction h with
  | @zero v h =>
    refine (h x).trans (sumP_zero fun i hi => ?_).symm
    have := (h i).mul (Cg.refl (r i x))
    rwa [Int.zero_mul] at this
  | @add u w v c hu hw h ih =>
    obtain ⟨k, hk, rfl⟩ := hw
    have h1 : Cg p (sumP P fun i => v i * r i x) (sumP P fun i => u i * r i x + c * (r k i * r i x)) := sumP_cg fun i hi => by
      have := (h i).mul (Cg.refl (p := p) (r i x))
      refine this.trans (.of_eq ?_)
      rw [Int.add_mul, Int.mul_assoc]
    rw [sumP_add, sumP_mul] at h1
    exact (h x).trans (((ih.add ((Cg.refl c).mul (L.self hk x).symm))).trans h1.symm)
theorem Lad.zero (L : Lad p P r) {v : Vc} (h : Spn p (rungs P r) v) (hz : ∀ i ∈ P, Cg p (v i) 0) (x : Nat) : Cg p (v x) 0 := (L.coord h x).trans (sumP_zero fun i hi => by
  have := (hz i hi).mul (Cg.refl (p := p) (r i x))
  rwa [Int.zero_mul] at this)
/-- the first place of a row of the room is one of the first places -/
theorem Lad.lead (L : Lad p P r) {v : Vc} (h : Spn p (rungs P r) v) {x : Nat} (hx : ¬ Cg p (v x) 0) (hl : ∀ y, y < x → Cg p (v y) 0) : x ∈ P := by
  by_cases hm : x ∈ P
  · exact hm
  · exfalso
    refine hx ((L.coord h x).trans (sumP_zero fun i hi => ?_))
    rcases Nat.lt_trichotomy i x with q | q | q
    · have := (hl i q).mul (Cg.refl (p := p) (r i x))
      rwa [Int.zero_mul] at this
    · exact absurd (q ▸ hi) hm
    · have := (Cg.refl (p := p) (v i)).mul (L.low i hi x q)
      rwa [Int.mul_zero] at this
theorem one_ne {p a : Int} (p2 : 2 ≤ p) (h : Cg p a 1) : ¬ Cg p a 0 := fun h0 => by
  have := (h.symm.trans h0).eq (by omega) (by omega) (by omega) (by omega)
  omega
/-- the ladder of a room is only one: the places -/
theorem Lad.places (L : Lad p P r) (L' : Lad p P' r') (p2 : 2 ≤ p) (hs : Same2 p (rungs P r) (rungs P' r')) {i : Nat} (hi : i ∈ P) : i ∈ P' :=
  L'.lead ((hs _).mp (.row ⟨i, hi, rfl⟩)) (one_ne p2 (L.one i hi)) (L.low i hi)
theorem Same2.symm {R R' : Vc → Prop} (h : Same2 p R R') : Same2 p R' R := fun v => (h v).symm
theorem Same2.trans {R R' R2 : Vc → Prop} (h : Same2 p R R') (g : Same2 p R' R2) : Same2 p R R2 := fun v => (h v).trans (g v)
/-- and the rows -/
theorem Lad.rows (L : Lad p P r) (L' : Lad p P' r') (p2 : 2 ≤ p) (hs : Same2 p (rungs P r) (rungs P' r')) {i : Nat} (hi : i ∈ P) (x : Nat) : Cg p (r i x) (r' i x) := by
  have hi' := L.places L' p2 hs hi
  have hc := L'.coord ((hs _).mp (.row ⟨i, hi, rfl⟩)) x
  refine hc.trans ((sumP_one L'.nd hi' fun j hj e => ?_).trans ?_)
  · have hj' := L'.places L p2 hs.symm hj
    have := (L.off i hi j hj' e).mul (Cg.refl (p := p) (r' j x))
    rwa [Int.zero_mul] at this
  · have := (L.one i hi).mul (Cg.refl (p := p) (r' i x))
    rwa [Int.one_mul] at this
/-- one row more: the rest of it, cleared of the ladder, made to begin with 1 -/
theorem Lad.more (L : Lad p P r) {g : Vc} {k : Nat} (hk : k ∉ P) (g1 : Cg p (g k) 1) (g0 : ∀ i ∈ P, Cg p (g i) 0) (gl : ∀ x, x < k → Cg p (g x) 0)
    {q : Nat → Vc} (hq : ∀ x, Cg p (q k x) (g x)) (ho : ∀ i ∈ P, ∀ x, Cg p (q i x) (r i x - r i k * g x)) : Lad p (P ++ [k]) q := by
  have hne : ∀ i ∈ P, i ≠ k := fun i hi e => hk (e ▸ hi)
  have low0 : ∀ i ∈ P, ∀ x, x < i → Cg p (r i k * g x) 0 := fun i hi x hx => by
    by_cases h : x < k
    · have := (Cg.refl (p := p) (r i k)).mul (gl x h)
      rwa [Int.mul_zero] at this
    · have := (L.low i hi k (by omega)).mul (Cg.refl (p := p) (g x))
      rwa [Int.zero_mul] at this
  refine ⟨?_, fun i hi => ?_, fun i hi j hj e => ?_, fun i hi x hx => ?_⟩
  · rw [List.nodup_append]
    exact ⟨L.nd, by simp, fun a ha b hb => by rw [List.mem_singleton.mp hb]; exact hne a ha⟩
  · rcases List.mem_append.mp hi with hi | hi
    · have := (L.one i hi).sub ((Cg.refl (p := p) (r i k)).mul (g0 i hi))
      rw [Int.mul_zero, Int.sub_zero] at this
      exact (ho i hi i).trans this
    · rw [List.mem_singleton.mp hi]
      exact (hq k).trans g1
  · rcases List.mem_append.mp hi with hi | hi
    · rcases List.mem_append.mp hj with hj | hj
      · have := (L.off i hi j hj e).sub ((Cg.refl (p := p) (r i k)).mul (g0 j hj))
        rw [Int.mul_zero, Int.sub_zero] at this
        exact (ho i hi j).trans this
      · rw [List.mem_singleton.mp hj]
        have := (Cg.refl (p := p) (r i k)).sub ((Cg.refl (p := p) (r i k)).mul g1)
        rw [Int.mul_one, Int.sub_self] at this
        exact (ho i hi k).trans this
    · rw [List.mem_singleton.mp hi] at e ⊢
      rcases List.mem_append.mp hj with hj | hj
      · exact (hq j).trans (g0 j hj)
      · exact absurd (List.mem_singleton.mp hj) e
  · rcases List.mem_append.mp hi with hi | hi
    · have := (L.low i hi x hx).sub (low0 i hi x hx)
      rw [Int.sub_zero] at this
      exact (ho i hi x).trans this
    · rw [List.mem_singleton.mp hi] at hx ⊢
      exact (hq x).trans (gl x hx)
theorem Lad.nil (p : Int) (r : Nat → Vc) : Lad p [] r := ⟨.nil, fun _ h => (nomatch h), fun _ h => (nomatch h), fun _ h => (nomatch h)⟩
end
end MM

namespace MM
section
variable {p : Int} {P : List Nat} {r : Nat → Vc}
/-- the room of one row more -/
theorem Lad.moreSpan (L : Lad p P r) {g : Vc} {k : Nat} {q : Nat → Vc} (hq : ∀ x, Cg p (q k x) (g x)) (ho : ∀ i ∈ P, ∀ x, Cg p (q i x) (r i x - r i k * g x)) :
    Same2 p (rungs (P ++ [k]) q) (fun v => rungs P r v ∨ v = g) := by
  refine same2_of (fun v hv => ?_) (fun v hv => ?_)
  · obtain ⟨i, hi, rfl⟩ := hv
    rcases List.mem_append.mp hi with hi | hi
    · refine .plus (-(r i k)) (.row (.inl ⟨i, hi, rfl⟩)) (.row (.inr rfl)) fun x => (ho i hi x).trans (.of_eq ?_)
      rw [Int.neg_mul]
      omega
    · rw [List.mem_singleton.mp hi]
      exact (Spn.row (.inr rfl)).cg hq
  · have hg : Spn p (rungs (P ++ [k]) q) g := (Spn.row ⟨k, by simp, rfl⟩).cg fun x => (hq x).symm
    rcases hv with ⟨i, hi, rfl⟩ | rfl
    · refine .plus (r i k) (.row ⟨i, by simp [hi], rfl⟩) hg fun x => ?_
      have := (ho i hi x).add (Cg.refl (p := p) (r i k * g x))
      refine (this.trans (.of_eq ?_)).symm
      omega
    · exact hg
/-- the same room, with one row more each -/
theorem same2_more {R R' : Vc → Prop} (h : Same2 p R R') {g row rest : Vc} {c d : Int} (hw : Spn p R' (fun x => row x - rest x)) (hg : ∀ x, Cg p (g x) (c * rest x)) (hr : ∀ x, Cg p (rest x) (d * g x)) :
    Same2 p (fun v => R v ∨ v = g) (fun v => R' v ∨ v = row) := by
  have up : ∀ {R : Vc → Prop} {u v : Vc}, Spn p R v → Spn p (fun v => R v ∨ v = u) v := fun h => h.mono fun _ q => .inl q
  refine same2_of (fun v hv => ?_) (fun v hv => ?_)
  · rcases hv with hv | rfl
    · exact up ((h v).mp (.row hv))
    · have h1 : Spn p (fun v => R' v ∨ v = row) rest := .plus (-1) (.row (.inr rfl)) (up hw) fun x => .of_eq (by omega)
      refine .plus c (.zero (v := fun _ => 0) fun _ => .refl 0) h1 fun x => (hg x).trans (.of_eq (by omega))
  · rcases hv with hv | rfl
    · exact up ((h v).mpr (.row hv))
    · have h1 : Spn p (fun v => R v ∨ v = g) rest := .plus d (.zero (v := fun _ => 0) fun _ => .refl 0) (.row (.inr rfl)) fun x => (hr x).trans (.of_eq (by omega))
      exact .plus 1 h1 (up ((h _).mpr hw)) fun x => .of_eq (by omega)
theorem same2_in {R R' : Vc → Prop} (h : Same2 p R R') {row : Vc} (hw : Spn p R' row) : Same2 p R (fun v => R' v ∨ v = row) := by
  refine same2_of (fun v hv => ?_) (fun v hv => ?_)
  · exact ((h v).mp (.row hv)).mono fun _ q => .inl q
  · rcases hv with hv | rfl
    · exact (h v).mpr (.row hv)
    · exact (h _).mpr hw
end
/-! ### the inverse, by the steps of the program -/
/-- what holds of ahead, now, before, factor -/
structure Eu (p v a n b f : Int) : Prop where
  ha : Cg p (b * v) a
  hn : Cg p (f * v) n
  g : Int.gcd a n = 1
  n0 : 0 < n
  na : n ≤ a
  sz : ∃ s t u : Int, (s = 1 ∨ s = -1) ∧ 0 ≤ t ∧ 0 ≤ u ∧ b = -s * t ∧ f = s * u ∧ t * n + u * a = p
theorem Eu.step {p v a n b f : Int} (E : Eu p v a n b f) (h1 : n ≠ 1) : Eu p v n (a - a / n * n) f (b - a / n * f) ∧ a - a / n * n < n := by
  have hn := E.n0
  have hm : a - a / n * n = a % n := by
    have := Int.mul_ediv_add_emod a n
    rw [Int.mul_comm] at this
    omega
  have h0 := Int.emod_nonneg a (by omega : n ≠ 0)
  have hlt := Int.emod_lt_of_pos a hn
  have q0 : 0 ≤ a / n := Int.ediv_nonneg (by have := E.na; omega) (by omega)
  have hg : Int.gcd n (a % n) = 1 := by
    rw [← hm, Int.gcd_sub_mul_right_right, Int.gcd_comm]
    exact E.g
  have hne : a % n ≠ 0 := fun e => by
    rw [e, Int.gcd_zero_right] at hg
    omega
  obtain ⟨s, t, u, hs, ht, hu, hb, hf, he⟩ := E.sz
  refine ⟨⟨E.hn, ?_, by rw [hm]; exact hg, by omega, by omega, ⟨-s, u, t + a / n * u, by omega, hu, ?_, ?_, ?_, ?_⟩⟩, by omega⟩
  · have := E.ha.sub ((Cg.refl (p := p) (a / n)).mul E.hn)
    refine (Cg.of_eq ?_).trans this
    rw [Int.sub_mul, Int.mul_assoc]
  · have := Int.mul_nonneg q0 hu
    omega
  · rw [hf, Int.neg_neg]
  · rw [hb, hf, Int.mul_add, Int.neg_mul, Int.neg_mul]
    have : a / n * (s * u) = s * (a / n * u) := by rw [← Int.mul_assoc, Int.mul_comm (a / n) s, Int.mul_assoc]
    omega
  · rw [← he, Int.mul_sub, Int.add_mul]
    have e1 : u * (a / n * n) = a / n * u * n := by rw [← Int.mul_assoc, Int.mul_comm u (a / n)]
    omega
theorem Eu.start {p v : Int} (v0 : 0 < v) (v1 : v < p) (g : Int.gcd p v = 1) : Eu p v p v 0 1 :=
  ⟨by rw [Int.zero_mul]; exact ⟨-1, by rw [Int.mul_neg, Int.mul_one]; omega⟩, by rw [Int.one_mul]; exact .refl v, g, v0, by omega, 1, 0, 1, .inl rfl, by omega, by omega, by omega, by omega, by omega⟩
theorem Eu.exists {p v : Int} : ∀ (m : Nat) {a n b f : Int}, Eu p v a n b f → n ≤ (m : Int) → ∃ u, Cg p (u * v) 1
  | 0, _, _, _, _, E, h => by have := E.n0; omega
  | m + 1, a, n, b, f, E, h => by
    by_cases h1 : n = 1
    · subst h1
      exact ⟨f, E.hn⟩
    · obtain ⟨E2, hlt⟩ := E.step h1
      exact Eu.exists m E2 (by omega)
/-- bounded throughout -/
theorem Eu.small {p v a n b f : Int} (E : Eu p v a n b f) : -p ≤ b ∧ b ≤ p ∧ -p ≤ f ∧ f ≤ p ∧ a ≤ p ∨ f = 0 := by
  obtain ⟨s, t, u, hs, ht, hu, hb, hf, he⟩ := E.sz
  have hn := E.n0
  have ha := E.na
  have e1 : t ≤ t * n := by
    have := Int.mul_le_mul_of_nonneg_left (show (1 : Int) ≤ n by omega) ht
    rwa [Int.mul_one] at this
  have e2 : u ≤ u * a := by
    have := Int.mul_le_mul_of_nonneg_left (show (1 : Int) ≤ a by omega) hu
    rwa [Int.mul_one] at this
  have f1 : 0 ≤ t * n := Int.mul_nonneg ht (by omega)
  have f2 : 0 ≤ u * a := Int.mul_nonneg hu (by omega)
  by_cases hu0 : u = 0
  · right
    rw [hf, hu0, Int.mul_zero]
  · left
    have e3 : a ≤ u * a := by
      have := Int.mul_le_mul_of_nonneg_right (show (1 : Int) ≤ u by omega) (show 0 ≤ a by omega)
      rwa [Int.one_mul] at this
    rcases hs with rfl | rfl
    · rw [Int.one_mul] at hf
      rw [Int.neg_mul, Int.one_mul] at hb
      exact ⟨by omega, by omega, by omega, by omega, by omega⟩
    · rw [Int.neg_neg, Int.one_mul] at hb
      rw [Int.neg_mul, Int.one_mul] at hf
      exact ⟨by omega, by omega, by omega, by omega, by omega⟩
end MM

namespace MM
/-! ### primes -/
/-- no divisor but 1 and itself, by divisors up to the root -/
def Prm (p : Int) : Prop := 2 ≤ p ∧ ∀ k : Int, 2 ≤ k → k * k ≤ p → p % k ≠ 0
theorem Prm.gcd {p v : Int} (h : Prm p) (v0 : 0 < v) (v1 : v < p) : Int.gcd p v = 1 := by
  obtain ⟨p2, hd⟩ := h
  have g1 : ((Int.gcd p v : Nat) : Int) ∣ p := Int.gcd_dvd_left ..
  have g2 : ((Int.gcd p v : Nat) : Int) ∣ v := Int.gcd_dvd_right ..
  have gle : ((Int.gcd p v : Nat) : Int) ≤ v := Int.le_of_dvd v0 g2
  have g0 : Int.gcd p v ≠ 0 := fun e => by
    rw [e] at g2
    have := Int.zero_dvd.mp g2
    omega
  by_cases h1 : Int.gcd p v = 1
  · exact h1
  · exfalso
    generalize hd' : ((Int.gcd p v : Nat) : Int) = d at *
    have d2 : 2 ≤ d := by omega
    obtain ⟨e, he⟩ := g1
    have e2 : 2 ≤ e := by
      rcases Int.lt_trichotomy e 1 with q | q | q
      · have : d * e ≤ d * 0 := Int.mul_le_mul_of_nonneg_left (by omega) (by omega)
        omega
      · subst q
        omega
      · omega
    rcases Int.le_total d e with q | q
    · refine hd d d2 ?_ ?_
      · rw [he]
        exact Int.mul_le_mul_of_nonneg_left q (by omega)
      · rw [he]
        exact Int.mul_emod_right d e
    · refine hd e e2 ?_ ?_
      · rw [he]
        exact Int.mul_le_mul_of_nonneg_right q (by omega)
      · rw [he]
        exact Int.mul_emod_left d e
theorem Prm.inv {p v : Int} (h : Prm p) (v0 : 0 < v) (v1 : v < p) : ∃ u, Cg p (u * v) 1 :=
  Eu.exists v.toNat (Eu.start v0 v1 (h.gcd v0 v1)) (by omega)
/-- an inverse is only one -/
theorem inv_one {p u w v : Int} (h1 : Cg p (u * v) 1) (h2 : Cg p (w * v) 1) : Cg p u w := by
  have a1 := (h2.mul (Cg.refl (p := p) u))
  rw [Int.one_mul] at a1
  have a2 := (h1.mul (Cg.refl (p := p) w))
  rw [Int.one_mul] at a2
  refine a1.symm.trans ((Cg.of_eq ?_).trans a2)
  rw [Int.mul_assoc, Int.mul_comm v u, Int.mul_comm w]
/-! ### Fermat -/
def prodL : List Int → Int
  | [] => 1
  | a :: l => a * prodL l
theorem prodL_perm {l m : List Int} (h : l.Perm m) : prodL l = prodL m := by
  induction h with
  | nil => rfl
  | cons a _ ih => show a * _ = a * _; rw [ih]
  | swap a b l => show b * (a * _) = a * (b * _); rw [← Int.mul_assoc, ← Int.mul_assoc, Int.mul_comm a b]
  | trans _ _ h1 h2 => rw [h1, h2]
def ones (p : Int) : List Int := (List.range (p - 1).toNat).map fun (i : Nat) => (i : Int) + 1
theorem ones_mem {p x : Int} : x ∈ ones p ↔ 0 < x ∧ x < p := by
  unfold ones
  rw [List.mem_map]
  constructor
  · rintro ⟨i, hi, rfl⟩
    have := List.mem_range.mp hi
    omega
  · rintro ⟨a, b⟩
    exact ⟨(x - 1).toNat, List.mem_range.mpr (by omega), by omega⟩
theorem ones_nodup (p : Int) : (ones p).Nodup := by
  unfold ones
  rw [List.nodup_iff_pairwise_ne, List.pairwise_map]
  exact List.nodup_range.imp fun {a b} h e => h (by omega)
theorem ones_len (p : Int) : (ones p).length = (p - 1).toNat := by simp [ones]
theorem prodL_map {p a : Int} : ∀ l : List Int, Cg p (prodL (l.map fun x => a * x % p)) (a ^ l.length * prodL l)
  | [] => .of_eq (by show (1 : Int) = a ^ 0 * 1; rw [Int.pow_zero]; rfl)
  | x :: l => by
    have h := (Cg.mod (p := p) (a * x)).mul (prodL_map (p := p) (a := a) l)
    refine h.trans (.of_eq ?_)
    show a * x * (a ^ l.length * prodL l) = a ^ (l.length + 1) * (x * prodL l)
    rw [Int.pow_succ, Int.mul_assoc, Int.mul_assoc, ← Int.mul_assoc x, Int.mul_comm x, Int.mul_assoc, ← Int.mul_assoc a, Int.mul_comm a, Int.mul_assoc]
theorem Prm.prod_inv {p : Int} (h : Prm p) : ∀ l : List Int, (∀ x ∈ l, 0 < x ∧ x < p) → ∃ w, Cg p (w * prodL l) 1
  | [], _ => ⟨1, .refl _⟩
  | x :: l, hl => by
    obtain ⟨w, hw⟩ := h.prod_inv l fun y hy => hl y (by simp [hy])
    obtain ⟨x0, x1⟩ := hl x (by simp)
    obtain ⟨u, hu⟩ := h.inv x0 x1
    refine ⟨u * w, ?_⟩
    have := hu.mul hw
    refine (Cg.of_eq ?_).trans this
    show u * w * (x * prodL l) = u * x * (w * prodL l)
    rw [Int.mul_assoc, Int.mul_assoc, ← Int.mul_assoc w, Int.mul_comm w, Int.mul_assoc]
theorem Prm.fermat {p a : Int} (h : Prm p) (a0 : 0 < a) (a1 : a < p) : Cg p (a ^ (p - 1).toNat) 1 := by
  have p2 := h.1
  obtain ⟨u, hu⟩ := h.inv a0 a1
  have cancel : ∀ x : Int, Cg p (u * (a * x)) x := fun x => by
    have := hu.mul (Cg.refl (p := p) x)
    rw [Int.one_mul, Int.mul_assoc] at this
    exact this
  have inR : ∀ x, 0 < x → x < p → 0 < a * x % p ∧ a * x % p < p := fun x x0 x1 => by
    have n0 := Int.emod_nonneg (a * x) (by omega : p ≠ 0)
    have n1 := Int.emod_lt_of_pos (a * x) (by omega : 0 < p)
    refine ⟨?_, n1⟩
    rcases Int.lt_or_eq_of_le n0 with q | q
    · exact q
    · exfalso
      have c0 : Cg p (a * x) 0 := (Cg.mod (a * x)).symm.trans (.of_eq q.symm)
      have := (Cg.refl (p := p) u).mul c0
      rw [Int.mul_zero] at this
      have := ((cancel x).symm.trans this).zero_of (by omega) x1
      omega
  have perm : ((ones p).map fun x => a * x % p).Perm (ones p) := by
    refine (List.perm_ext_iff_of_nodup ?_ (ones_nodup p)).mpr fun y => ?_
    · rw [List.nodup_iff_pairwise_ne, List.pairwise_map]
      refine List.Pairwise.imp_of_mem (fun {x y} hx hy hne e => ?_) (ones_nodup p)
      obtain ⟨x0, x1⟩ := ones_mem.mp hx
      obtain ⟨y0, y1⟩ := ones_mem.mp hy
      have c : Cg p (a * x) (a * y) := (Cg.mod (a * x)).symm.trans ((Cg.of_eq e).trans (Cg.mod (a * y)))
      have := (Cg.refl (p := p) u).mul c
      exact hne (((cancel x).symm.trans (this.trans (cancel y))).eq (by omega) x1 (by omega) y1)
    · rw [ones_mem, List.mem_map]
      constructor
      · rintro ⟨x, hx, rfl⟩
        obtain ⟨x0, x1⟩ := ones_mem.mp hx
        exact inR x x0 x1
      · rintro ⟨y0, y1⟩
        have m0 := Int.emod_nonneg (u * y) (by omega : p ≠ 0)
        have m1 := Int.emod_lt_of_pos (u * y) (by omega : 0 < p)
        have c1 : Cg p (a * (u * y % p)) y := by
          have := (Cg.refl (p := p) a).mul (Cg.mod (p := p) (u * y))
          refine this.trans ?_
          refine (Cg.of_eq ?_).trans (cancel y)
          rw [← Int.mul_assoc, Int.mul_comm a u, Int.mul_assoc]
        have e1 : a * (u * y % p) % p = y := ((Cg.mod _).trans c1).eq (Int.emod_nonneg _ (by omega)) (Int.emod_lt_of_pos _ (by omega)) (by omega) y1
        refine ⟨u * y % p, ones_mem.mpr ⟨?_, m1⟩, e1⟩
        rcases Int.lt_or_eq_of_le m0 with q | q
        · exact q
        · exfalso
          rw [← q, Int.mul_zero, Int.zero_emod] at e1
          omega
  have h1 := prodL_map (p := p) (a := a) (ones p)
  rw [prodL_perm perm, ones_len] at h1
  obtain ⟨w, hw⟩ := h.prod_inv (ones p) fun x hx => ones_mem.mp hx
  have h2 := (Cg.refl (p := p) w).mul h1
  have h3 : Cg p (w * (a ^ (p - 1).toNat * prodL (ones p))) (a ^ (p - 1).toNat) := by
    have := (Cg.refl (p := p) (a ^ (p - 1).toNat)).mul hw
    rw [Int.mul_one] at this
    refine (Cg.of_eq ?_).trans this
    rw [← Int.mul_assoc, Int.mul_comm w, Int.mul_assoc]
  exact h3.symm.trans (h2.symm.trans hw)
/-- the power that the check takes is the inverse -/
theorem Prm.turn {p a : Int} (h : Prm p) (a0 : 0 < a) (a1 : a < p) : Cg p (a ^ (p - 2).toNat * a) 1 := by
  have p2 := h.1
  have e : (p - 1).toNat = (p - 2).toNat + 1 := by omega
  have := h.fermat a0 a1
  rw [e, Int.pow_succ] at this
  exact this
end MM

namespace S4
open PySem L2 TT MM
theorem getD_at {α : Type} {l : List α} {k : Nat} {d x : α} (h : l[k]? = some x) : l.getD k d = x := by rw [List.getD_eq_getElem?_getD, h]; rfl
theorem fm_some {α β : Type} (l : List α) (h : α → β) : (List.range l.length).filterMap (fun i => l[i]?.bind fun x => some (h x)) = l.map h := by
  rw [fm_list, List.filterMap_eq_map']
theorem two_at {a b : Int} {i : Nat} {x : V} (h : [V.int a, V.int b][i]? = some x) : x = .int a ∨ x = .int b := by
  match i, h with
  | 0, h => exact .inl (Option.some.inj h).symm
  | 1, h => exact .inr (Option.some.inj h).symm
theorem all_true_fm {n : Nat} {bs : List Bool} (h : bs = (List.range n).filterMap fun _ => some true) : bs.all id = true := all_true fun b hb => by
  rw [h] at hb
  obtain ⟨_, _, e⟩ := List.mem_filterMap.mp hb
  exact (Option.some.inj e).symm
theorem hu65 {k : Nat} {A : Around} (r : Room k A) : A.units + 65 < cLine := by have := r.un; omega
theorem hu64 {k : Nat} {A : Around} (r : Room k A) : A.units + 64 < cLine := by have := r.un; omega
theorem paired_take {α β : Type} {F : α → β → Prop} : ∀ {xs : List α} {l : List β} (k : Nat), Paired F xs l → Paired F (xs.take k) (l.take k)
  | _, _, 0, _ => .nil
  | _, _, k + 1, .nil => .nil
  | _, _, k + 1, .cons r t => .cons r (paired_take k t)
end S4

namespace S4
open PySem L2 TT MM
/-! ### the hand that draws -/
def hl (c : Addr) (i1 i2 i3 i4 : Int) : List V := [.ref c, .int i1, .int i2, .int i3, .int i4]
structure HandW (g c : Addr) (cells : List Int) (i1 i2 i3 i4 : Int) (H : Hp) : Prop where
  h : H g = some (.lst (hl c i1 i2 i3 i4))
  hc : H c = some (.lst (cells.map V.int))
  len : cells.length ≤ 63
  pos : ∀ x ∈ cells, 0 ≤ x
  b1 : 0 ≤ i1 ∧ i1 ≤ (cells.length : Int)
  b2 : 0 ≤ i2
  b3 : 0 ≤ i3 ∧ i3 < 4294967296
  b4 : 0 ≤ i4
def Hand (g c : Addr) (H : Hp) : Prop := ∃ cells i1 i2 i3 i4, HandW g c cells i1 i2 i3 i4 H
theorem HandW.ne {g c : Addr} {cells : List Int} {i1 i2 i3 i4 : Int} {H : Hp} (h : HandW g c cells i1 i2 i3 i4 H) : c ≠ g := ne_of h.hc h.h (fun e => by
  injection e with e
  cases cells with
  | nil => cases e
  | cons a l => rw [List.map_cons] at e; cases e)
theorem Hand.lst {g c : Addr} {H : Hp} (h : Hand g c H) : ∃ ys, H g = some (.lst ys) := let ⟨_, _, _, _, _, w⟩ := h; ⟨_, w.h⟩
theorem Hand.cells {g c : Addr} {H : Hp} (h : Hand g c H) : ∃ ys, H c = some (.lst ys) := let ⟨_, _, _, _, _, w⟩ := h; ⟨_, w.hc⟩
theorem Hand.setD {g c D : Addr} {H : Hp} {o : HO} (h : Hand g c H) (h1 : D ≠ g) (h2 : D ≠ c) : Hand g c (upd H D o) := let ⟨cells, i1, i2, i3, i4, w⟩ := h; ⟨cells, i1, i2, i3, i4, by rw [upd_ne h1.symm]; exact w.h, by rw [upd_ne h2.symm]; exact w.hc, w.len, w.pos, w.b1, w.b2, w.b3, w.b4⟩
theorem Hand.same {g c : Addr} {H H' : Hp} (h : Hand g c H) (s : Same H H') : Hand g c H' := by
  obtain ⟨cells, i1, i2, i3, i4, w⟩ := h
  exact ⟨cells, i1, i2, i3, i4, s _ _ w.h, s _ _ w.hc, w.len, w.pos, w.b1, w.b2, w.b3, w.b4⟩
/-- a list apart from the hand stays apart -/
theorem _root_.TT.But.lst {g : Addr} {H H' : Hp} (k : But g H H') {b : Addr} (hb : b ≠ g) {xs : List V} (h : H b = some (.lst xs)) : H' b = some (.lst xs) := k b _ hb h
theorem Hand.keep {g c : Addr} {H H' : Hp} (h : Hand g c H) (k : But g H H') : Keep H H' := let ⟨_, e⟩ := h.lst; k.keep e
section
variable {P : Program} {w : World} {K : PySem.W.Frag} {mg : Str → Option Value} {base : Heap} {cT cS : Addr}
def spHand (K : PySem.W.Frag) : Sp := fun vs H Q _ => ∃ (a : Addr) (ns : List Int), vs = [.ref a] ∧ SqL K H a (ns.map V.int) ∧ ns.length ≤ 63 ∧ ∀ H' g c, Same H H' → H g = none → Hand g c H' → Q (.ref g) H'
theorem ok_hand (T : Tx K mg cT cS) {f : Addr} {fd : FuncData} (d : D K mg "_law_hand" s_law_hand ["script"] f fd) : FnOk P w K mg base CX0 1 f fd ["script"] (spHand K) := by
  refine d.F.ok sc_law_hand (fun vs H Q E h => ?_) (fun cdv A outer s H vs Q E hr h => ?_)
  · obtain ⟨a, ns, rfl, _⟩ := h
    rfl
  · obtain ⟨a, ns, rfl, hS, hl63, q⟩ := h
    refine ⟨_, pss_cons (ps_setLc (i := 1) (own := [("cell", 2)]) (g := gName 2) (tt := tYes) rfl sc_law_hand.nd rfl rfl (sw_true rfl rfl rfl (by decide +kernel)) (pi_list (pe_slice sl_list (pv 0) po_none (po_some pe_int))) (blkOk_by (N := N_law_hand) (sc := defScope s_law_hand) (by decide +kernel))
          (fun _ _ _ _ _ => pg_name (i := 2) sc_law_hand.nd rfl (Or.inl rfl)) (fun _ _ _ _ _ => pts_nil)
          (fun _ _ _ _ _ => pe_callB call_abs (by rfl) T.b_abs (by decide +kernel) (pa_cons (pe_callTy call_int1 (by rfl) T.b_int (by decide +kernel) (pa_cons (pv 2) pa_nil)) pa_nil)))
      (pss_one (ps_ret (pe_lst (pa_cons (pv 1) (pa_cons pe_int (pa_cons pe_int (pa_cons (pe_op op_add pe_int (pe_callB call_len_seq (by rfl) T.b_len PySem.boot_len (pa_cons (pv 1) pa_nil))) (pa_cons pe_int pa_nil)))))))), ?_⟩
    refine ⟨_, rfl, 63, rfl, a, _, rfl, hS, fun p np => ?_⟩
    have e63 : cutV (ns.map V.int) none (some 63) = ns.map V.int := by
      have := cutV_upto (ns.map V.int) 63
      rw [List.take_of_length_le (by rw [List.length_map]; exact hl63)] at this
      exact this
    rw [e63]
    have s1 := same_new (o := .lst (ns.map V.int)) np
    refine ⟨p, rfl, ⟨_, .of upd_same⟩, fun D hD => ?_⟩
    refine lc_fm (walk_list (xs := ns.map V.int)) rInt (fun i => ns[i]?.bind fun x => some (if x < 0 then -x else x)) hD (fun H' s' => .of (s' _ _ upd_same)) ?_ ?_
    · rintro i x H2 H3 hi pv ⟨rfl, hx⟩
      obtain ⟨k, hk, rfl⟩ := at_int hx
      rw [List.length_map] at hi
      refine ⟨rfl, _, rfl, .inl ⟨k, rfl, k, rfl, ?_⟩⟩
      exact fm_keep mono_int pv hD (by omega) (Same.refl _) (by rw [hk]; rfl) rfl
    · intro H2 ys s2 hD2 hp2
      rw [List.length_map, fm_some] at hp2
      have := paired_int hp2
      subst this
      refine ⟨_, rfl, _, rfl, _, _, rfl, .inl (.of hD2), _, _, rfl, rfl, by show 5 ≤ sizeLine; decide, fun g ng => ?_⟩
      have s3 := same_new (o := .lst (hl D 0 0 (1 + ((((ns.map fun x => if x < 0 then -x else x).map V.int).length : Nat) : Int)) 0)) ng
      refine q _ g D ((s1.trans s2).trans s3) ((s1.trans s2).free ng) ⟨ns.map fun x => if x < 0 then -x else x, 0, 0, _, 0, upd_same, s3 _ _ hD2, by rw [List.length_map]; exact hl63, fun x hx => ?_, ⟨by omega, by omega⟩, by omega, ?_, by omega⟩
      · obtain ⟨y, _, rfl⟩ := List.mem_map.mp hx
        split <;> omega
      · rw [List.length_map, List.length_map]
        omega
def spDraw : Sp := fun vs H Q _ => ∃ (g c : Addr) (m : Int), vs = [.ref g, .int m] ∧ 0 < m ∧ m < 1073741824 ∧ Hand g c H ∧ ∀ H' n, But g H H' → Hand g c H' → 0 ≤ n → n < m → Q (.int n) H'
theorem mod_b {a m : Int} (h : 0 < m) : 0 ≤ a % m ∧ a % m < m := ⟨Int.emod_nonneg _ (by omega), Int.emod_lt_of_pos _ h⟩
theorem ok_draw (T : Tx K mg cT cS) {f : Addr} {fd : FuncData} (d : D K mg "_law_draw" s_law_draw ["hand", "many"] f fd) : FnOk P w K mg base CX0 1 f fd ["hand", "many"] spDraw := by
  refine d.F.ok sc_law_draw (fun vs H Q E h => ?_) (fun cdv A outer s H vs Q E hr h => ?_)
  · obtain ⟨g, c, m, rfl, _⟩ := h
    rfl
  · obtain ⟨g, c, m, rfl, m0, m1, ⟨cells, i1, i2, i3, i4, W⟩, q⟩ := h
    refine ⟨_, C8.pss_cut (ps_if (PW.pt (pw_and (pt_cmpR op_eq (pe_ix ix_list (pv 0) pe_int (fun _ _ => rfl)) pe_int (nomark _)) (pw_and1 (pt_cmpR op_lt (pe_ix ix_list (pv 0) pe_int (fun _ _ => rfl)) (pe_callB call_len_seq (by rfl) T.b_len PySem.boot_len (pa_cons (pe_ix ix_list (pv 0) pe_int (fun _ _ => rfl)) pa_nil)) (nomark _)))))
        (pss_cons (ps_set (i := 2) sc_law_draw.nd rfl (.inl rfl) (pe_ix ix_list (pe_ix ix_list (pv 0) pe_int (fun _ _ => rfl)) (pe_ix ix_list (pv 0) pe_int (fun _ _ => rfl)) (fun _ _ => rfl)))
          (pss_cons (ps_asg (pe_op op_add (pe_ix ix_list (pv 0) pe_int (fun _ _ => rfl)) pe_int) (pg_sub (pv 0) pe_int set_list))
          (pss_cons (ps_asg (pe_op op_mod (pe_callTy call_int1 (by rfl) T.b_int (by decide +kernel) (pa_cons (pe_op op_add (pe_op op_add (pe_op op_mul (pe_ix ix_list (pv 0) pe_int (fun _ _ => rfl)) pe_int) (pv 2)) pe_int) pa_nil)) pe_int) (pg_sub (pv 0) pe_int set_list))
          (pss_one (ps_if (pt_cmpR op_ge (pv 2) (pe_op op_pow pe_int pe_int) (nomark _)) (pss_one (ps_asg (pv 2) (pg_sub (pv 0) pe_int set_list))) pss_nil))))) pss_nil)
      (pss_cons (ps_if (pt_cmpR op_gt (pe_ix ix_list (pv 0) pe_int (fun _ _ => rfl)) pe_int (nomark _))
        (pss_cons (ps_set (i := 3) sc_law_draw.nd rfl (.inl rfl) (pe_op op_mod (pe_callTy call_int1 (by rfl) T.b_int (by decide +kernel) (pa_cons (pe_ix ix_list (pv 0) pe_int (fun _ _ => rfl)) pa_nil)) (pv 1)))
          (pss_cons (ps_asg (pe_op op_fdivN (pe_ix ix_list (pv 0) pe_int (fun _ _ => rfl)) (pv 1)) (pg_sub (pv 0) pe_int set_list)) (pss_one (ps_ret (pv 3))))) pss_nil)
      (pss_cons (ps_asg (pe_op op_add (pe_ix ix_list (pv 0) pe_int (fun _ _ => rfl)) pe_int) (pg_sub (pv 0) pe_int set_list))
      (pss_cons (ps_set (i := 4) sc_law_draw.nd rfl (.inl rfl) (pe_op op_mod (pe_callTy call_int1 (by rfl) T.b_int (by decide +kernel) (pa_cons (pe_op op_mul (pe_callTy call_int1 (by rfl) T.b_int (by decide +kernel) (pa_cons (pe_op op_add (pe_ix ix_list (pv 0) pe_int (fun _ _ => rfl)) (pe_op op_mul pe_int (pe_ix ix_list (pv 0) pe_int (fun _ _ => rfl)))) pa_nil)) pe_int) pa_nil)) pe_int))
      (pss_cons (ps_set (i := 4) sc_law_draw.nd rfl (.inl rfl) (pe_op op_mod (pe_callTy call_int1 (by rfl) T.b_int (by decide +kernel) (pa_cons (pe_op op_mul (pv 4) (pe_op op_add (pe_op op_fdiv (pv 4) pe_int) pe_int)) pa_nil)) pe_int))
      (pss_cons (ps_set (i := 4) sc_law_draw.nd rfl (.inl rfl) (pe_op op_mod (pe_callTy call_int1 (by rfl) T.b_int (by decide +kernel) (pa_cons (pe_op op_mul (pv 4) (pe_op op_add (pe_op op_fdiv (pv 4) pe_int) pe_int)) pa_nil)) pe_int))
      (pss_one (ps_ret (pe_op op_mod (pe_callTy call_int1 (by rfl) T.b_int (by decide +kernel) (pa_cons (pe_op op_fdiv (pv 4) pe_int) pa_nil)) (pv 1))))))))), ?_⟩
    refine ⟨fun σ H' => ∃ (x : Option V) (j1 j2 j3 j4 : Int), σ = [some (.ref g), some (.int m), x, none, none] ∧ But g H H' ∧ HandW g c cells j1 j2 j3 j4 H', ?_, ?_⟩
    · refine ⟨_, rfl, g, _, _, _, rfl, rfl, .of W.h, at_of (j := 2) rfl rfl, rfl, _, rfl, ?_⟩
      by_cases h2 : i2 = 0
      · rw [decide_eq_true (by rw [h2])]
        refine iteT ⟨_, rfl, g, _, _, _, rfl, rfl, .of W.h, at_of (j := 1) rfl rfl, _, rfl, g, _, _, _, rfl, rfl, .of W.h, at_of (j := 0) rfl rfl, _, _, rfl, .inl (.of W.hc), _, _, rfl, rfl, _, rfl, ?_⟩
        by_cases h1 : i1 < (((cells.map V.int).length : Nat) : Int)
        · rw [decide_eq_true h1]
          rw [List.length_map] at h1
          have hb1 := W.b1.1
          obtain ⟨k, rfl⟩ : ∃ k : Nat, i1 = (k : Int) := ⟨i1.toNat, by omega⟩
          have hk : cells[k]? = some (cells[k]'(by omega)) := List.getElem?_eq_getElem (by omega)
          have hpos := W.pos _ (List.getElem_mem (h := by omega) (l := cells) (n := k))
          refine iteT ⟨_, rfl, g, _, _, _, rfl, rfl, .of W.h, at_of (j := 0) rfl rfl, _, rfl, g, _, _, _, rfl, rfl, .of W.h, at_of (j := 1) rfl rfl, c, _, _, _, rfl, rfl, .of W.hc, atI_nat (int_at hk), ?_⟩
          dsimp only [gName, tSeq]
          refine ⟨_, rfl, g, _, _, _, rfl, rfl, .of W.h, at_of (j := 1) rfl rfl, _, _, rfl, rfl, _, rfl, g, _, _, _, rfl, rfl, W.h, rfl, ?_⟩
          refine ⟨_, rfl, g, _, _, _, rfl, rfl, .of upd_same, at_of (j := 3) rfl rfl, _, _, rfl, rfl, .inl ⟨by have := W.b3.1; omega, by have := W.b3.2; omega⟩, _, rfl, _, _, rfl, rfl, _, _, rfl, rfl, .inl ⟨_, rfl, _, _, rfl, rfl, (by dsimp only; decide), _, rfl, g, _, _, _, rfl, rfl, upd_same, rfl, ?_⟩⟩
          rw [upd_upd]
          have hm := mod_b (a := i3 * 69621 + cells[k]'(by omega) + 11) (m := 2147483629) (by decide)
          have W2 : HandW g c cells ((k : Int) + 1) i2 ((i3 * 69621 + cells[k]'(by omega) + 11) % 2147483629) i4 (upd H g (.lst (hl c ((k : Int) + 1) i2 ((i3 * 69621 + cells[k]'(by omega) + 11) % 2147483629) i4))) :=
            ⟨upd_same, by rw [upd_ne W.ne]; exact W.hc, W.len, W.pos, ⟨by omega, by omega⟩, W.b2, ⟨by omega, by omega⟩, W.b4⟩
          refine ⟨_, rfl, _, _, rfl, rfl, ⟨by decide, by decide, by decide⟩, _, _, rfl, rfl, _, rfl, ?_⟩
          refine ite2 (fun hc => ?_) (fun hc => ?_)
          · refine ⟨_, rfl, _, rfl, g, _, _, _, rfl, rfl, upd_same, rfl, ?_⟩
            rw [upd_upd]
            exact ⟨_, _, _, _, _, rfl, but_upd, upd_same, by rw [upd_ne W.ne]; exact W.hc, W.len, W.pos, W2.b1, hpos, W2.b3, W2.b4⟩
          · exact ⟨_, _, _, _, _, rfl, but_upd, W2⟩
        · rw [decide_eq_false h1]
          exact iteF ⟨_, _, _, _, _, rfl, .refl _ _, W⟩
      · rw [decide_eq_false (fun e => h2 (V.int.inj e))]
        exact iteF ⟨_, _, _, _, _, rfl, .refl _ _, W⟩
    · rintro σ H2 ⟨x, j1, j2, j3, j4, rfl, bt, W2⟩
      refine ⟨_, rfl, g, _, _, _, rfl, rfl, .of W2.h, at_of (j := 2) rfl rfl, _, _, rfl, rfl, _, rfl, ?_⟩
      refine ite2 (fun hc => ?_) (fun hc => ?_)
      · refine ⟨_, rfl, g, _, _, _, rfl, rfl, .of W2.h, at_of (j := 2) rfl rfl, .inl ⟨_, rfl, _, rfl, _, _, rfl, rfl, m0, ?_⟩⟩
        dsimp only [gName, tSeq]
        refine ⟨_, rfl, g, _, _, _, rfl, rfl, .of W2.h, at_of (j := 2) rfl rfl, _, rfl, _, _, rfl, rfl, ⟨by omega, by omega⟩, _, rfl, g, _, _, _, rfl, rfl, W2.h, rfl, _, rfl, ?_⟩
        have hm := mod_b (a := j2) m0
        refine q _ _ (bt.trans but_upd) ⟨cells, _, _, _, _, upd_same, by rw [upd_ne W2.ne]; exact W2.hc, W2.len, W2.pos, W2.b1, ?_, W2.b3, W2.b4⟩ hm.1 hm.2
        rw [Int.fdiv_eq_ediv_of_nonneg _ (by omega)]
        exact Int.ediv_nonneg W2.b2 (by omega)
      · refine ⟨_, rfl, g, _, _, _, rfl, rfl, .of W2.h, at_of (j := 4) rfl rfl, _, _, rfl, rfl, _, rfl, g, _, _, _, rfl, rfl, W2.h, rfl, ?_⟩
        have W3 : HandW g c cells j1 j2 j3 (j4 + 1) (upd H2 g (.lst (hl c j1 j2 j3 (j4 + 1)))) := ⟨upd_same, by rw [upd_ne W2.ne]; exact W2.hc, W2.len, W2.pos, W2.b1, W2.b2, W2.b3, by have := W2.b4; omega⟩
        refine ⟨_, rfl, g, _, _, _, rfl, rfl, .of upd_same, at_of (j := 3) rfl rfl, _, rfl, g, _, _, _, rfl, rfl, .of upd_same, at_of (j := 4) rfl rfl, _, _, rfl, rfl, .inl ⟨by decide, by decide⟩, _, _, rfl, rfl, .inl ⟨_, rfl, _, _, rfl, rfl, .inr ⟨by decide, by decide⟩, .inl ⟨_, rfl, _, _, rfl, rfl, (by dsimp only; decide), ?_⟩⟩⟩
        dsimp only [gName, tSeq]
        generalize hn1 : (j3 + 7919 * (j4 + 1)) * 48271 % 2147483647 = n1
        have a1 := mod_b (a := (j3 + 7919 * (j4 + 1)) * 48271) (m := 2147483647) (by decide)
        rw [hn1] at a1
        refine ⟨_, rfl, _, rfl, _, _, rfl, rfl, ⟨by decide, by decide⟩, _, _, rfl, rfl, _, _, rfl, rfl, .inl ⟨by omega, by omega⟩, .inl ⟨_, rfl, _, _, rfl, rfl, (by dsimp only; decide), ?_⟩⟩
        dsimp only [gName, tSeq]
        generalize hn2 : n1 * (n1 / 1009 + 69621) % 2147483647 = n2
        have a2 := mod_b (a := n1 * (n1 / 1009 + 69621)) (m := 2147483647) (by decide)
        rw [hn2] at a2
        refine ⟨_, rfl, _, rfl, _, _, rfl, rfl, ⟨by decide, by decide⟩, _, _, rfl, rfl, _, _, rfl, rfl, .inl ⟨by omega, by omega⟩, .inl ⟨_, rfl, _, _, rfl, rfl, (by dsimp only; decide), ?_⟩⟩
        dsimp only [gName, tSeq]
        generalize hn3 : n2 * (n2 / 2003 + 40692) % 2147483399 = n3
        refine ⟨_, rfl, _, _, rfl, rfl, ⟨by decide, by decide⟩, .inl ⟨_, rfl, _, rfl, _, _, rfl, rfl, m0, ?_⟩⟩
        have hm := mod_b (a := n3 / 16) m0
        exact q _ _ (bt.trans but_upd) ⟨cells, _, _, _, _, W3⟩ hm.1 hm.2
end
end S4

namespace S4
open PySem L2 TT MM
theorem walk_zipT {K : PySem.W.Frag} {a b : Addr} {xs ys : List V} {n : Nat} (hn : n = min xs.length ys.length) : Walk (RZ.ItzT K a b) n (fun H => SqT K H a xs ∧ SqT K H b ys) (YPair (fun i => xs[i]?) (fun i => ys[i]?)) := by
  subst hn
  refine ⟨fun i _ hi q => ?_, fun _ q => ⟨xs, ys, q.1, q.2, by omega⟩, fun i H v H' _ q y => ?_⟩
  · have h1 : i < xs.length := by omega
    have h2 : i < ys.length := by omega
    exact ⟨xs, ys, xs[i], ys[i], q.1, q.2, by simp [h1], by simp [h2]⟩
  · obtain ⟨T, x, z, h1, h2, h3, h4, h5⟩ := y
    exact ⟨T, x, z, h1, h2, h3, h4 xs q.1, h5 ys q.2⟩
/-- two values of the same data, of the same kinds, n deep -/
def Alike (H : Hp) : Nat → V → V → Prop
  | 0, x, y => ∃ k, x = .int k ∧ y = .int k
  | n + 1, x, y => (∃ k, x = .int k ∧ y = .int k) ∨ ∃ a b xs ys, x = .ref a ∧ y = .ref b ∧ ((H a = some (.tup xs) ∧ H b = some (.tup ys)) ∨ (H a = some (.lst xs) ∧ H b = some (.lst ys))) ∧ xs.length ≤ 1000 ∧ Paired (Alike H n) xs ys
theorem alike_same {H H' : Hp} (s : Same H H') : ∀ (n : Nat) {x y : V}, Alike H n x y → Alike H' n x y
  | 0, _, _, h => h
  | n + 1, _, _, h => by
    rcases h with h | ⟨a, b, xs, ys, e1, e2, h, hl, hp⟩
    · exact .inl h
    · refine .inr ⟨a, b, xs, ys, e1, e2, ?_, hl, Paired.mapP hp fun _ _ q => alike_same s n q⟩
      rcases h with ⟨h1, h2⟩ | ⟨h1, h2⟩
      · exact .inl ⟨s _ _ h1, s _ _ h2⟩
      · exact .inr ⟨s _ _ h1, s _ _ h2⟩
section
variable {K : PySem.W.Frag}
theorem kit_lt : PySem.W.kitOne K (.type "list") (.type "tuple") = some false := kit_ty (by decide +kernel)
theorem kit_ll : PySem.W.kitOne K (.type "list") (.type "list") = some true := kit_ty (by decide +kernel)
theorem kit_it : PySem.W.kitOne K (.type "int") (.type "tuple") = some false := kit_ty (by decide +kernel)
theorem kit_il : PySem.W.kitOne K (.type "int") (.type "list") = some false := kit_ty (by decide +kernel)
theorem kitA_t : PySem.W.kitAny K (.type "tuple") [.type "tuple", .type "list"] = some true := by unfold PySem.W.kitAny; rw [kit_tt]
theorem kitA_l : PySem.W.kitAny K (.type "list") [.type "tuple", .type "list"] = some true := by
  unfold PySem.W.kitAny
  rw [kit_lt]
  show PySem.W.kitAny K (.type "list") [.type "list"] = some true
  unfold PySem.W.kitAny
  rw [kit_ll]
theorem kitA_i : PySem.W.kitAny K (.type "int") [.type "tuple", .type "list"] = some false := by
  unfold PySem.W.kitAny
  rw [kit_it]
  show PySem.W.kitAny K (.type "int") [.type "list"] = some false
  unfold PySem.W.kitAny
  rw [kit_il]
  rfl
end
section
variable {P : Program} {w : World} {K : PySem.W.Frag} {mg : Str → Option Value} {base : Heap} {cT cS : Addr}
def spAny : Sp := fun vs H Q _ => ∃ (g c b : Addr) (xs : List V), vs = [.ref g, .ref b] ∧ H b = some (.lst xs) ∧ b ≠ g ∧ 0 < xs.length ∧ xs.length < 1000000 ∧ Hand g c H ∧ ∀ H' (i : Nat) x, But g H H' → Hand g c H' → xs[i]? = some x → Q x H'
theorem ok_any (T : Tx K mg cT cS) {f : Addr} {fd : FuncData} (d : D K mg "_law_any" s_law_any ["hand", "items"] f fd) : FnOk P w K mg base CX0 2 f fd ["hand", "items"] spAny := by
  obtain ⟨f1, fd1, d1⟩ := T.d_law_draw
  have G1 : FnOk P w K mg base CX0 1 f1 fd1 ["hand", "many"] spDraw := ok_draw T d1
  refine d.F.ok sc_law_any (fun vs H Q E h => ?_) (fun cdv A outer s H vs Q E hr h => ?_)
  · obtain ⟨g, c, b, xs, rfl, _⟩ := h
    rfl
  · obtain ⟨g, c, b, xs, rfl, hb, hne, h0, h1, hh, q⟩ := h
    refine ⟨_, pss_one (ps_ret (pe_ix ix_list (pv 1) (pe_call G1 hr rfl d1.m d1.F.kp d1.b .nil pass0 (pa_cons (pv 0) (pa_cons (pe_callB call_len_seq (by rfl) T.b_len PySem.boot_len (pa_cons (pv 1) pa_nil)) pa_nil))) (fun _ _ => rfl))), ?_⟩
    refine ⟨_, rfl, _, rfl, _, rfl, _, _, rfl, .inl (.of hb), g, c, _, rfl, by omega, by omega, hh, fun H2 n bt hh2 n0 n1 => ?_⟩
    obtain ⟨k, rfl⟩ : ∃ k : Nat, n = (k : Int) := ⟨n.toNat, by omega⟩
    have hk : xs[k]? = some (xs[k]'(by omega)) := List.getElem?_eq_getElem (by omega)
    exact ⟨b, xs, _, _, rfl, rfl, .of (bt.lst hne hb), atI_nat hk, q _ k _ bt hh2 hk⟩
def spIs (n : Nat) : Sp := fun vs H Q _ => ∃ (x y : V), vs = [x, y] ∧ Alike H n x y ∧ ∀ H', Same H H' → Q (.bl true) H'
theorem sp_len (n : Nat) : ∀ vs H Q E, spIs n vs H Q E → vs.length = ["told", "due"].length := fun vs H Q E h => by
  obtain ⟨x, y, rfl, _⟩ := h
  rfl
/-- the int's way, at any depth -/
theorem ok_is (T : Tx K mg cT cS) {f : Addr} {fd : FuncData} (d : D K mg "_law_is" s_law_is ["told", "due"] f fd) : ∀ n : Nat, FnOk P w K mg base CX0 (n + 1) f fd ["told", "due"] (spIs n) := by
  intro n
  induction n with
  | zero =>
    refine d.F.ok sc_law_is (sp_len 0) (fun cdv A outer s H vs Q E hr h => ?_)
    obtain ⟨x, y, rfl, ⟨k, rfl, rfl⟩, q⟩ := h
    refine ⟨_, pss_cons (ps_if (pt_val (pe_callB call_isiT (by rfl) T.b_isinstance (by decide +kernel) (pa_cons (pv 1) (pa_cons (pe_tup (pa_cons (ty_tuple T.b_tuple) (pa_cons (ty_list T.b_list) pa_nil))) pa_nil)))) pss_never pss_nil)
      (pss_one (ps_ret (pe_and (pe_cmpR op_eq (pe_callB call_isi (by rfl) T.b_isinstance (by decide +kernel) (pa_cons (pv 0) (pa_cons (ty_bool T.b_bool) pa_nil))) (pe_callB call_isi (by rfl) T.b_isinstance (by decide +kernel) (pa_cons (pv 1) (pa_cons (ty_bool T.b_bool) pa_nil))) (nomark _))
        (pe_one (pe_cmpR op_eq (pv 0) (pv 1) (nomark _)))))), ?_⟩
    refine ⟨_, rfl, by show 2 ≤ sizeLine; decide, fun p np => ⟨_, p, _, _, _, _, rfl, upd_same, .cons (.ty _) (.cons (.ty _) .nil), .base (.int _), kitA_i, _, rfl, iteF ?_⟩⟩
    refine ⟨_, rfl, _, _, _, _, _, rfl, .ty _, .base (.int _), kit_ib, _, rfl, _, _, _, _, _, rfl, .ty _, .base (.int _), kit_ib, rfl, true, rfl, ?_⟩
    refine iteT ⟨_, rfl, _, rfl, rfl, ?_⟩
    rw [decide_eq_true rfl]
    exact q _ (same_new np)
  | succ n G =>
    refine d.F.ok sc_law_is (sp_len (n + 1)) (fun cdv A outer s H vs Q E hr h => ?_)
    obtain ⟨x, y, rfl, h, q⟩ := h
    refine ⟨_, pss_cons (ps_if (pt_val (pe_callB call_isiT (by rfl) T.b_isinstance (by decide +kernel) (pa_cons (pv 1) (pa_cons (pe_tup (pa_cons (ty_tuple T.b_tuple) (pa_cons (ty_list T.b_list) pa_nil))) pa_nil))))
        (pss_cons (ps_if (PW.pt (pw_or (pt_cmpR op_ne (pe_callB call_isi (by rfl) T.b_isinstance (by decide +kernel) (pa_cons (pv 0) (pa_cons (ty_tuple T.b_tuple) pa_nil))) (pe_callB call_isi (by rfl) T.b_isinstance (by decide +kernel) (pa_cons (pv 1) (pa_cons (ty_tuple T.b_tuple) pa_nil))) (nomark _))
            (pw_or1 (pt_not (pt_val (pe_callB call_isiT (by rfl) T.b_isinstance (by decide +kernel) (pa_cons (pv 0) (pa_cons (pe_tup (pa_cons (ty_tuple T.b_tuple) (pa_cons (ty_list T.b_list) pa_nil))) pa_nil)))))))) pss_never pss_nil)
          (pss_one (ps_ret (pe_and (pe_cmpR op_eq (pe_callB call_len_seq (by rfl) T.b_len PySem.boot_len (pa_cons (pv 0) pa_nil)) (pe_callB call_len_seq (by rfl) T.b_len PySem.boot_len (pa_cons (pv 1) pa_nil)) (nomark _))
            (pe_one (pe_callB (cr_all rfl) (by rfl) T.b_all (by decide +kernel) (pa_cons
              (pe_lc (own := [("one", 2), ("two", 3)]) (g := gTup K 2 (gCons (gName 2) (gCons (gName 3) gNil))) (tt := tYes) rfl sc_law_is.nd (RZ.pi_zipA (by rfl) T.b_zip (pa_cons (pv 0) (pa_cons (pv 1) pa_nil))) (blkOk_by (N := N_law_is) (sc := defScope s_law_is) (by decide +kernel))
                (fun _ _ _ _ _ => pgT rfl rfl (pgs_cons (pg_name (i := 2) sc_law_is.nd rfl (Or.inl rfl)) (pgs_cons (pg_name (i := 3) sc_law_is.nd rfl (Or.inl rfl)) pgs_nil))) (fun _ _ _ _ _ => pts_nil)
                (fun _ _ _ _ _ => pe_call G hr rfl d.m d.F.kp d.b .nil pass0 (pa_cons (pv 2) (pa_cons (pv 3) pa_nil)))) pa_nil))))))) pss_nil)
      (pss_one (ps_ret (pe_and (pe_cmpR op_eq (pe_callB call_isi (by rfl) T.b_isinstance (by decide +kernel) (pa_cons (pv 0) (pa_cons (ty_bool T.b_bool) pa_nil))) (pe_callB call_isi (by rfl) T.b_isinstance (by decide +kernel) (pa_cons (pv 1) (pa_cons (ty_bool T.b_bool) pa_nil))) (nomark _))
        (pe_one (pe_cmpR op_eq (pv 0) (pv 1) (nomark _)))))), ?_⟩
    rcases h with ⟨k, rfl, rfl⟩ | ⟨a, b, xs, ys, rfl, rfl, h, hl, hp⟩
    · refine ⟨_, rfl, by show 2 ≤ sizeLine; decide, fun p np => ⟨_, p, _, _, _, _, rfl, upd_same, .cons (.ty _) (.cons (.ty _) .nil), .base (.int _), kitA_i, _, rfl, iteF ?_⟩⟩
      refine ⟨_, rfl, _, _, _, _, _, rfl, .ty _, .base (.int _), kit_ib, _, rfl, _, _, _, _, _, rfl, .ty _, .base (.int _), kit_ib, rfl, true, rfl, ?_⟩
      refine iteT ⟨_, rfl, _, rfl, rfl, ?_⟩
      rw [decide_eq_true rfl]
      exact q _ (same_new np)
    · have hle := paired_len hp
      have turn : ∀ {H1 : Hp} {D : Addr} {i : Nat} {x : V} {H2 H3 : Hp}, Same H H1 → H1 D = none → i < xs.length → PvFm rBl (fun _ => some true) D H1 i H2 → YPair (fun i => xs[i]?) (fun i => ys[i]?) i H2 x H3 →
          gTup K 2 (gCons (gName 2) (gCons (gName 3) gNil)) x (wipe (L2.start N_law_is [V.ref a, V.ref b]) [2, 3]) H3 fun σ2 H2 => wipe σ2 [2, 3] = wipe (L2.start N_law_is [V.ref a, V.ref b]) [2, 3] ∧ tYes σ2 H2 fun b H3 =>
            if b = true then tCall (spIs n) [] E0 (tCons (tVar 2) (tCons (tVar 3) tNil)) σ2 H3 fun y H4 => ∃ acc, H4 D = some (.lst acc) ∧ acc.length < sizeLine ∧ PvFm rBl (fun _ => some true) D H1 (i + 1) (upd H4 D (.lst (acc ++ [y]))) else PvFm rBl (fun _ => some true) D H1 (i + 1) H3 := by
        rintro H1 D i x H2 H3 s1 hD hi pv ⟨tz, u1, u2, rfl, nz, rfl, e1, e2⟩
        obtain ⟨v, hv, hal⟩ := paired_get hp e1
        have : v = u2 := by
          have e2' : ys[i]? = some u2 := e2
          rw [hv] at e2'
          exact Option.some.inj e2'
        subst this
        have s3 := same_new (o := .tup [u1, v]) nz
        refine ⟨tz, _, rfl, .of upd_same, rfl, _, _, rfl, _, _, rfl, rfl, rfl, ?_⟩
        refine ⟨_, rfl, _, rfl, u1, v, rfl, alike_same ((s1.trans pv.1).trans s3) n hal, fun H5 s5 => ?_⟩
        exact fm_keep mono_bl pv hD (by omega) (s3.trans s5) rfl rfl
      rcases h with ⟨h1, h2⟩ | ⟨h1, h2⟩
      · refine ⟨_, rfl, by show 2 ≤ sizeLine; decide, fun p np => ⟨_, p, _, _, _, _, rfl, upd_same, .cons (.ty _) (.cons (.ty _) .nil), .base (.tup ((same_new np).keep.tup h2)), kitA_t, _, rfl, iteT ?_⟩⟩
        have s1 := same_new (o := .tup [V.ty "tuple", V.ty "list"]) np
        refine ⟨_, rfl, _, _, _, _, _, rfl, .ty _, .base (.tup (s1 _ _ h1)), kit_tt, _, rfl, _, _, _, _, _, rfl, .ty _, .base (.tup (s1 _ _ h2)), kit_tt, rfl, _, rfl, iteF ?_⟩
        refine ⟨_, rfl, by show 2 ≤ sizeLine; decide, fun p2 np2 => ⟨_, p2, _, _, _, _, rfl, upd_same, .cons (.ty _) (.cons (.ty _) .nil), .base (.tup ((same_new np2) _ _ (s1 _ _ h1))), kitA_t, _, rfl, iteF ?_⟩⟩
        have s2 := s1.trans (same_new (o := .tup [V.ty "tuple", V.ty "list"]) np2)
        refine ⟨_, rfl, _, _, rfl, .inr (.of (s2 _ _ h1)), _, rfl, _, _, rfl, .inr (.of (s2 _ _ h2)), rfl, true, by rw [hle]; simp, ?_⟩
        refine iteT ⟨_, rfl, _, rfl, a, b, xs, ys, rfl, .inr ⟨.of (s2 _ _ h1), .of (s2 _ _ h2), fun D hD => ?_⟩⟩
        refine lc_fm (walk_zipT (n := xs.length) (by omega)) rBl (fun _ => some true) hD (fun H' s' => ⟨.of (s' _ _ (s2 _ _ h1)), .of (s' _ _ (s2 _ _ h2))⟩) (fun i x H2 H3 hi pv y => turn s2 hD hi pv y) ?_
        intro H3 zs s3 hD3 hp3
        have := paired_bl hp3
        subst this
        refine ⟨_, _, rfl, .of hD3, ?_⟩
        rw [all_true_fm rfl]
        exact q _ (s2.trans s3)
      · refine ⟨_, rfl, by show 2 ≤ sizeLine; decide, fun p np => ⟨_, p, _, _, _, _, rfl, upd_same, .cons (.ty _) (.cons (.ty _) .nil), .base (.lst ((same_new np) _ _ h2)), kitA_l, _, rfl, iteT ?_⟩⟩
        have s1 := same_new (o := .tup [V.ty "tuple", V.ty "list"]) np
        refine ⟨_, rfl, _, _, _, _, _, rfl, .ty _, .base (.lst (s1 _ _ h1)), kit_lt, _, rfl, _, _, _, _, _, rfl, .ty _, .base (.lst (s1 _ _ h2)), kit_lt, rfl, _, rfl, iteF ?_⟩
        refine ⟨_, rfl, by show 2 ≤ sizeLine; decide, fun p2 np2 => ⟨_, p2, _, _, _, _, rfl, upd_same, .cons (.ty _) (.cons (.ty _) .nil), .base (.lst ((same_new np2) _ _ (s1 _ _ h1))), kitA_l, _, rfl, iteF ?_⟩⟩
        have s2 := s1.trans (same_new (o := .tup [V.ty "tuple", V.ty "list"]) np2)
        refine ⟨_, rfl, _, _, rfl, .inl (.of (s2 _ _ h1)), _, rfl, _, _, rfl, .inl (.of (s2 _ _ h2)), rfl, true, by rw [hle]; simp, ?_⟩
        refine iteT ⟨_, rfl, _, rfl, a, b, xs, ys, rfl, .inl ⟨.of (s2 _ _ h1), .of (s2 _ _ h2), fun D hD => ?_⟩⟩
        refine lc_fm (walk_zip (n := xs.length) (by omega)) rBl (fun _ => some true) hD (fun H' s' => ⟨.of (s' _ _ (s2 _ _ h1)), .of (s' _ _ (s2 _ _ h2))⟩) (fun i x H2 H3 hi pv y => turn s2 hD hi pv y) ?_
        intro H3 zs s3 hD3 hp3
        have := paired_bl hp3
        subst this
        refine ⟨_, _, rfl, .of hD3, ?_⟩
        rw [all_true_fm rfl]
        exact q _ (s2.trans s3)
end
end S4

namespace S4
open PySem L2 TT MM
/-! ### comprehensions that draw -/
section
variable {J : It} {n : Nat} {G : Hp → Prop} {Y : Nat → Hp → V → Hp → Prop} {H1 : Hp} {g c D : Addr} {α : Type}
def PvDr (R : Rp α) (F : α → Prop) (g c D : Addr) (H1 : Hp) (i : Nat) (H : Hp) : Prop := But g H1 H ∧ Hand g c H ∧ ∃ xs l, H D = some (.lst xs) ∧ Paired (R H) xs l ∧ l.length = i ∧ ∀ a ∈ l, F a
theorem dr_ne (h : Hand g c H1) (hD : H1 D = none) : D ≠ g ∧ D ≠ c := by
  obtain ⟨_, e⟩ := h.lst
  obtain ⟨_, e2⟩ := h.cells
  exact ⟨fun q => (by rw [q, e] at hD; cases hD), fun q => (by rw [q, e2] at hD; cases hD)⟩
theorem dr_start {R : Rp α} {F : α → Prop} (h : Hand g c H1) (hD : H1 D = none) : PvDr R F g c D H1 0 (upd H1 D (.lst [])) :=
  ⟨(same_new hD).but g, h.same (same_new hD), [], [], upd_same, .nil, rfl, fun _ h => nomatch h⟩
theorem dr_keep {R : Rp α} (m : Mono R) {F : α → Prop} {i : Nat} {H H4 : Hp} {y : V} {a : α} (h : Hand g c H1) (p : PvDr R F g c D H1 i H) (hD : H1 D = none) (hi : i ≤ 100000) (b4 : But g H H4) (h4 : Hand g c H4) (ra : R H4 y a) (fa : F a) :
    ∃ acc, H4 D = some (.lst acc) ∧ acc.length < sizeLine ∧ PvDr R F g c D H1 (i + 1) (upd H4 D (.lst (acc ++ [y]))) := by
  obtain ⟨b, hh, xs, l, h1, h2, h3, hf⟩ := p
  obtain ⟨d1, d2⟩ := dr_ne h hD
  have hD4 : H4 D = some (.lst xs) := b4.lst d1 h1
  have k5 : Keep H4 (upd H4 D (.lst (xs ++ [y]))) := keep_lst hD4
  have hlen := paired_len h2
  refine ⟨xs, hD4, Nat.lt_of_le_of_lt (Nat.le_trans (by omega) hi) (by decide), fun x o hx e => ?_, h4.setD d1 d2, xs ++ [y], l ++ [a], upd_same, ?_, by rw [List.length_append, h3]; rfl, fun z hz => ?_⟩
  · have hxD : x ≠ D := fun q => by subst q; rw [hD] at e; cases e
    rw [upd_ne hxD]
    exact (b.trans b4) x o hx e
  · exact paired_app (paired_mono m k5 (paired_mono m (hh.keep b4) h2)) (.cons (m _ _ _ _ k5 ra) .nil)
  · rcases List.mem_append.mp hz with hz | hz
    · exact hf z hz
    · rw [List.mem_singleton.mp hz]
      exact fa
end
theorem erase_map {α β : Type} (f : α → β) (l : List α) (i : Nat) : (l.map f).eraseIdx i = (l.eraseIdx i).map f := by
  rw [List.eraseIdx_eq_take_drop_succ, List.eraseIdx_eq_take_drop_succ, List.map_append, List.map_take, List.map_drop]
theorem erase_perm {α : Type} {l : List α} {i : Nat} (h : i < l.length) : (l[i] :: l.eraseIdx i).Perm l := by
  rw [List.eraseIdx_eq_take_drop_succ]
  have e : l = l.take i ++ l[i] :: l.drop (i + 1) := by rw [← List.drop_eq_getElem_cons h, List.take_append_drop]
  exact List.perm_middle.symm.trans (.of_eq e.symm)
theorem seqIx_nat {j n : Nat} (h : j < n) : seqIndex? (j : Int) n = some j := by
  unfold seqIndex?
  have e1 : (if (j : Int) < 0 then (j : Int) + (n : Int) else (j : Int)) = j := if_neg (by omega)
  simp only [e1]
  rw [if_pos (by rw [Bool.and_eq_true]; exact ⟨decide_eq_true (by omega), decide_eq_true (by omega)⟩), Int.toNat_natCast]
theorem hand_new {g c p : Addr} {H : Hp} (h : Hand g c H) (hp : H p = none) : p ≠ g ∧ p ≠ c := dr_ne h hp
section
variable {P : Program} {w : World} {K : PySem.W.Frag} {mg : Str → Option Value} {base : Heap} {cT cS : Addr}
/-! ### a mixed list -/
def spMixed : Sp := fun vs H Q _ => ∃ (g c b : Addr) (ns : List Int), vs = [.ref g, .ref b] ∧ H b = some (.lst (ns.map V.int)) ∧ b ≠ g ∧ ns.length ≤ 1000 ∧ Hand g c H ∧
  ∀ H' p (ms : List Int), But g H H' → Hand g c H' → H p = none → H' p = some (.lst (ms.map V.int)) → ms.Perm ns → Q (.ref p) H'
theorem ok_mixed (T : Tx K mg cT cS) {f : Addr} {fd : FuncData} (d : D K mg "_law_mixed" s_law_mixed ["hand", "items"] f fd) : FnOk P w K mg base CX0 2 f fd ["hand", "items"] spMixed := by
  obtain ⟨f1, fd1, d1⟩ := T.d_law_draw
  have G1 : FnOk P w K mg base CX0 1 f1 fd1 ["hand", "many"] spDraw := ok_draw T d1
  refine d.F.ok sc_law_mixed (fun vs H Q E h => ?_) (fun cdv A outer s H vs Q E hr h => ?_)
  · obtain ⟨g, c, b, ns, rfl, _⟩ := h
    rfl
  · obtain ⟨g, c, b, ns, rfl, hb, hne, hl, hh, q⟩ := h
    refine ⟨_, pss_cons (ps_par (i := 2) (j := 3) (by rfl) sc_law_mixed.nd rfl rfl (by decide) rfl rfl (pa_cons (pe_callTy call_list_of (by rfl) T.b_list (by decide +kernel) (pa_cons (pv 1) pa_nil)) (pa_cons (pe_lst pa_nil) pa_nil)) (by rfl))
      (pss_cons (ps_for PassesOwn.never rfl (pi_range1 rfl T.b_range (pa_cons (pe_callB call_len_seq (by rfl) T.b_len PySem.boot_len (pa_cons (pv 2) pa_nil)) pa_nil)) (pg_name (i := 4) sc_law_mixed.nd rfl (Or.inl rfl))
        (pss_one (ps_expr (pe_bm PySem.F.plainAttrs_list PySem.F.slot_list_append PySem.F.type_list_append mt_append (pv 3)
          (pa_cons (pe_bm PySem.F.plainAttrs_list PySem.F.slot_list_pop PySem.F.type_list_pop mt_popAt (pv 2)
            (pa_cons (pe_call G1 hr rfl d1.m d1.F.kp d1.b .nil pass0 (pa_cons (pv 0) (pa_cons (pe_callB call_len_seq (by rfl) T.b_len PySem.boot_len (pa_cons (pv 2) pa_nil)) pa_nil))) pa_nil)) pa_nil)))))
      (pss_one (ps_ret (pv 3)))), ?_⟩
    refine ⟨_, rfl, b, _, rfl, .inl (.of hb), fun l nl => ⟨Nat.zero_le _, fun o no => ⟨_, _, rfl, ?_⟩⟩⟩
    have s1 := same_new (o := .lst (ns.map V.int)) nl
    have s2 := same_new (o := .lst []) no
    have hlo : l ≠ o := fun e => by subst e; rw [upd_same] at no; cases no
    have no0 : H o = none := s1.free no
    obtain ⟨lg, lc⟩ := hand_new hh nl
    obtain ⟨og, oc⟩ := hand_new hh no0
    have hl2 : (upd (upd H l (.lst (ns.map V.int))) o (.lst [])) l = some (.lst (ns.map V.int)) := s2 _ _ upd_same
    dsimp only [gName, tSeq]
    refine ⟨_, rfl, _, _, rfl, .inl (.of hl2), _, rfl, by rw [List.length_map]; omega, by rw [List.length_map]; omega, ?_⟩
    refine for_range (lo := 0) (n := (((ns.map V.int).length : Nat) : Int).toNat) (fun i σ H' => ∃ (ms1 ms2 : List Int) (x : Option V), σ = [some (.ref g), some (.ref b), some (.ref l), some (.ref o), x] ∧ But g H H' ∧ Hand g c H' ∧ H' l = some (.lst (ms1.map V.int)) ∧ H' o = some (.lst (ms2.map V.int)) ∧
      (ms2 ++ ms1).Perm ns ∧ ms2.length = i) ⟨ns, [], none, rfl, ((s1.trans s2).but g), hh.same (s1.trans s2), hl2, upd_same, .refl _, rfl⟩ ?_ ?_
    · rintro i σ H2 hi ⟨ms1, ms2, x, rfl, bt, hh2, h1, h2, hp, hm⟩
      rw [Int.toNat_natCast, List.length_map] at hi
      have hlen := hp.length_eq
      rw [List.length_append] at hlen
      refine ⟨_, rfl, .inl ⟨rfl, _, .of h2⟩, _, rfl, .inl ⟨rfl, _, .of h1⟩, _, rfl, _, rfl, _, _, rfl, .inl (.of h1), g, c, _, rfl, by rw [List.length_map]; omega, by rw [List.length_map]; omega, hh2, fun H3 k b3 hh3 k0 k1 => ?_⟩
      rw [List.length_map] at k1
      obtain ⟨j, rfl⟩ : ∃ j : Nat, k = (j : Int) := ⟨k.toNat, by omega⟩
      have hj : ms1[j]? = some (ms1[j]'(by omega)) := List.getElem?_eq_getElem (by omega)
      have h13 := b3.lst lg h1
      have h23 := b3.lst og h2
      refine ⟨l, _, _, j, _, rfl, rfl, h13, by omega, by omega, ?_, int_at hj, ?_⟩
      · exact seqIx_nat (by rw [List.length_map]; omega)
      refine ⟨o, _, _, rfl, rfl, by rw [upd_ne hlo.symm]; exact h23, by rw [List.length_map]; exact Nat.lt_of_le_of_lt (by omega : ms2.length ≤ 1000) (by decide), ?_⟩
      refine ⟨ms1.eraseIdx j, ms2 ++ [ms1[j]'(by omega)], _, rfl, fun a u ha e => ?_, ?_, ?_, ?_, ?_, by rw [List.length_append, hm]; rfl⟩
      · rw [upd_ne (fun z => by subst z; rw [no0] at e; cases e), upd_ne (fun z => by subst z; rw [nl] at e; cases e)]
        exact (bt.trans b3) a u ha e
      · exact (hh3.setD lg lc).setD og oc
      · rw [upd_ne hlo, upd_same, erase_map]
      · rw [upd_same, List.map_append]
        rfl
      · have e1 := erase_perm (l := ms1) (i := j) (by omega)
        rw [List.append_assoc]
        exact (List.Perm.append_left ms2 e1).trans hp
    · rintro σ H2 ⟨ms1, ms2, x, rfl, bt, hh2, h1, h2, hp, hm⟩
      rw [Int.toNat_natCast, List.length_map] at hm
      have hlen := hp.length_eq
      rw [List.length_append] at hlen
      have : ms1 = [] := List.eq_nil_of_length_eq_zero (by omega)
      subst this
      rw [List.append_nil] at hp
      exact ⟨_, rfl, q _ o ms2 bt hh2 no0 h2 hp⟩
/-! ### rows -/
def spLess : Sp := fun vs H Q _ => ∃ (u v : V) (p m : Int) (r1 r2 : List Int), vs = [.int p, u, v, .int m] ∧ 0 < p ∧ (-(2 ^ 64) < m ∧ m < 2 ^ 64) ∧ rRow H u r1 ∧ rRow H v r2 ∧ r1.length = r2.length ∧ r1.length ≤ 1000 ∧
  ∀ H' v' l, Same H H' → rRow H' v' l → l.length = r1.length → (∀ x ∈ l, 0 ≤ x ∧ x < p) → Q v' H'
theorem ok_less (T : Tx K mg cT cS) {f : Addr} {fd : FuncData} (d : D K mg "_law_less" s_law_less ["p", "row", "other", "many"] f fd) : FnOk P w K mg base CX0 1 f fd ["p", "row", "other", "many"] spLess := by
  refine d.F.ok sc_law_less (fun vs H Q E h => ?_) (fun cdv A outer s H vs Q E hr h => ?_)
  · obtain ⟨u, v, p, m, r1, r2, rfl, _⟩ := h
    rfl
  · obtain ⟨u, v, p, m, r1, r2, rfl, p0, hm, ⟨t1, rfl, h1⟩, ⟨t2, rfl, h2⟩, he, hl, q⟩ := h
    refine ⟨_, pss_one (ps_ret (pe_callTy call_tuple_of (by rfl) T.b_tuple (by decide +kernel) (pa_cons
        (pe_lc (own := [("one", 4), ("two", 5)]) (g := gTup K 2 (gCons (gName 4) (gCons (gName 5) gNil))) (tt := tYes) rfl sc_law_less.nd (RZ.pi_zipA (by rfl) T.b_zip (pa_cons (pv 1) (pa_cons (pv 2) pa_nil))) (blkOk_by (N := N_law_less) (sc := defScope s_law_less) (by decide +kernel))
                (fun _ _ _ _ _ => pgT rfl rfl (pgs_cons (pg_name (i := 4) sc_law_less.nd rfl (Or.inl rfl)) (pgs_cons (pg_name (i := 5) sc_law_less.nd rfl (Or.inl rfl)) pgs_nil))) (fun _ _ _ _ _ => pts_nil)
                (fun _ _ _ _ _ => pe_op op_mod (pe_callTy call_int1 (by rfl) T.b_int (by decide +kernel) (pa_cons (pe_op op_sub (pv 4) (pe_op op_mul (pv 3) (pv 5))) pa_nil)) (pv 0))) pa_nil))), ?_⟩
    refine ⟨_, rfl, _, rfl, t1, t2, _, _, rfl, .inr ⟨.of h1, .of h2, fun D hD => ?_⟩⟩
    refine lc_fm (walk_zipT (n := r1.length) (by rw [List.length_map, List.length_map]; omega)) rInt (fun i => some ((r1.getD i 0 - m * r2.getD i 0) % p)) hD (fun H' s' => ⟨.of (s'.keep.tup h1), .of (s'.keep.tup h2)⟩) ?_ ?_
    · rintro i x H2 H3 hi pv ⟨tz, u1, u2, rfl, nz, rfl, e1, e2⟩
      obtain ⟨a, ha, rfl⟩ := at_int e1
      obtain ⟨b, hb, rfl⟩ := at_int e2
      refine ⟨tz, _, rfl, .of upd_same, rfl, _, _, rfl, _, _, rfl, rfl, rfl, ?_⟩
      refine ⟨_, rfl, _, rfl, _, rfl, _, _, rfl, rfl, .inl hm, _, _, rfl, rfl, .inl ⟨_, rfl, _, rfl, _, _, rfl, rfl, p0, ?_⟩⟩
      exact fm_keep mono_int pv hD (by omega) (same_new nz) rfl (by rw [getD_at ha, getD_at hb]; rfl)
    · intro H2 ys s2 hD2 hp2
      rw [fm_all] at hp2
      have := paired_int hp2
      subst this
      refine ⟨D, _, rfl, .inl ⟨.of hD2, fun t nt => ?_⟩⟩
      refine q _ _ _ (s2.trans (same_new nt)) ⟨t, rfl, upd_same⟩ (by rw [List.length_map, List.length_range]) fun x hx => ?_
      obtain ⟨i, _, rfl⟩ := List.mem_map.mp hx
      exact mod_b p0
def spSummed : Sp := fun vs H Q _ => ∃ (a b : Addr) (p : Int) (wd : Nat) (xs : List V) (rws : List (List Int)) (ms : List Int), vs = [.int p, .int (wd : Int), .ref a, .ref b] ∧ 0 < p ∧ wd ≤ 1000 ∧ H a = some (.lst xs) ∧ Paired (rRow H) xs rws ∧ (∀ r ∈ rws, r.length = wd) ∧
  H b = some (.lst (ms.map V.int)) ∧ (∀ m ∈ ms, -(2 ^ 63) < m ∧ m < 2 ^ 63) ∧ ∀ H' v' l, Same H H' → rRow H' v' l → isRow l p wd → Q v' H'
theorem rep_row (H : Hp) (k : Nat) : (List.replicate k [V.int 0]).flatten = (List.replicate k (0 : Int)).map V.int := by
  induction k with
  | zero => rfl
  | succ k ih => rw [List.replicate_succ, List.replicate_succ, List.flatten_cons, ih, List.map_cons]; rfl
/-- (0,) * k -/
theorem zeros {K : PySem.W.Frag} {H : Hp} {t : Addr} {k : Nat} {Q : V → Hp → Prop} (ht : H t = some (.tup [V.int 0])) (hk : k ≤ 1000) (q : ∀ H' v, Same H H' → rRow H' v (List.replicate k 0) → Q v H') : rRepA K (.ref t) (.int (k : Int)) H Q := by
  refine ⟨t, k, [V.int 0], rfl, rfl, .of ht, by simp, by omega, by omega, by show 1 ≤ 1000; decide, fun e => ?_, fun e p np => ?_⟩
  · have : k = 1 := by omega
    subst this
    exact q H _ (.refl _) ⟨t, rfl, ht⟩
  · refine q _ _ (same_new np) ⟨p, rfl, ?_⟩
    rw [upd_same, Int.toNat_natCast, rep_row H k]
theorem isRow_zeros {p : Int} (p0 : 0 < p) (k : Nat) : isRow (List.replicate k 0) p k := ⟨by rw [List.length_replicate], fun v hv => by rw [(List.mem_replicate.mp hv).2]; omega⟩
theorem ok_summed (T : Tx K mg cT cS) {f : Addr} {fd : FuncData} (d : D K mg "_law_summed" s_law_summed ["p", "wide", "rows", "many"] f fd) : FnOk P w K mg base CX0 2 f fd ["p", "wide", "rows", "many"] spSummed := by
  obtain ⟨f1, fd1, d1⟩ := T.d_law_less
  have G1 : FnOk P w K mg base CX0 1 f1 fd1 ["p", "row", "other", "many"] spLess := ok_less T d1
  refine d.F.ok sc_law_summed (fun vs H Q E h => ?_) (fun cdv A outer s H vs Q E hr h => ?_)
  · obtain ⟨a, b, p, wd, xs, rws, ms, rfl, _⟩ := h
    rfl
  · obtain ⟨a, b, p, wd, xs, rws, ms, rfl, p0, hw, ha, hp, hrw, hb, hms, q⟩ := h
    refine ⟨_, pss_cons (ps_set (i := 4) sc_law_summed.nd rfl (.inl rfl) (pe_op op_repA (pe_tup (pa_cons pe_int pa_nil)) (pv 1)))
      (pss_cons (ps_for PassesOwn.never rfl (pi_zip (by rfl) T.b_zip (pa_cons (pv 2) (pa_cons (pv 3) pa_nil))) (pg_tup rfl (pgs_cons (pg_name (i := 5) sc_law_summed.nd rfl (.inl rfl)) (pgs_cons (pg_name (i := 6) sc_law_summed.nd rfl (.inl rfl)) pgs_nil)))
        (pss_one (ps_set (i := 4) sc_law_summed.nd rfl (.inl rfl) (pe_ifExp (pt_cmpR op_ne (pv 6) pe_int (nomark _)) (pe_call G1 hr rfl d1.m d1.F.kp d1.b .nil pass0 (pa_cons (pv 0) (pa_cons (pv 4) (pa_cons (pv 5) (pa_cons (pe_un un_neg (pv 6)) pa_nil))))) (pv 4)))))
      (pss_one (ps_ret (pv 4)))), ?_⟩
    refine ⟨by show 1 ≤ sizeLine; decide, fun t nt => ⟨_, rfl, ?_⟩⟩
    refine zeros upd_same hw fun H2 v2 s2 hrow2 => ?_
    have s02 := (same_new nt).trans s2
    dsimp only [gName, tSeq]
    refine ⟨_, rfl, _, rfl, a, b, _, _, rfl, .of (s02 _ _ ha), .of (s02 _ _ hb), ?_⟩
    refine for_it (walk_zip (n := min xs.length (ms.map V.int).length) rfl) (fun i σ H' => Same H H' ∧ ∃ (v : V) (l : List Int) (x y : Option V), σ = [some (.int p), some (.int (wd : Int)), some (.ref a), some (.ref b), some v, x, y] ∧ rRow H' v l ∧ isRow l p wd)
      ⟨s02, v2, _, none, none, rfl, hrow2, isRow_zeros p0 wd⟩ (fun i σ H' _ h => ⟨.of (h.1 _ _ ha), .of (h.1 _ _ hb)⟩) ?_ ?_
    · rintro i x σ H3 H4 hi ⟨s3, v, l, x1, x2, rfl, hrow, hir⟩ ⟨tz, u1, u2, rfl, nz, rfl, e1, e2⟩
      have s4 := same_new (o := .tup [u1, u2]) nz
      obtain ⟨r, hr1, hrr⟩ := paired_get (paired_mono mono_row (s3.trans s4).keep hp) e1
      obtain ⟨m, hm, rfl⟩ := at_int e2
      have hmb := hms m (List.mem_of_getElem? hm)
      have hrl := hrw r (List.mem_of_getElem? hr1)
      have hll := hir.1
      refine ⟨tz, _, rfl, .of upd_same, rfl, _, _, rfl, _, _, rfl, rfl, ?_⟩
      refine ⟨_, rfl, rfl, _, rfl, ?_⟩
      by_cases hz : m = 0
      · subst hz
        rw [decide_eq_true rfl]
        exact iteF ⟨_, rfl, s3.trans s4, v, l, _, _, rfl, mono_row _ _ _ _ s4.keep hrow, hir⟩
      · rw [decide_eq_false (fun e => hz (V.int.inj e))]
        refine iteT ⟨_, rfl, _, rfl, _, rfl, _, rfl, m, rfl, v, u1, p, -m, l, r, rfl, p0, ⟨by omega, by omega⟩, mono_row _ _ _ _ s4.keep hrow, hrr, by omega, by omega, fun H5 v5 l5 s5 hrow5 hl5 hb5 => ?_⟩
        exact ⟨(s3.trans s4).trans s5, v5, l5, _, _, rfl, hrow5, by rw [hl5]; omega, hb5⟩
    · rintro σ H3 ⟨s3, v, l, x1, x2, rfl, hrow, hir⟩
      exact ⟨_, rfl, q _ _ l s3 hrow hir⟩
/-! ### clocks -/
def noDivB (n : Nat) : Bool := decide (2 ≤ n) && decide (n ≤ 1000000) && (List.range 1001).all fun k => decide (k < 2) || decide (n < k * k) || decide (n % k ≠ 0)
theorem noDiv_of {n : Nat} (h : noDivB n = true) : NoDiv (n : Int) := by
  unfold noDivB at h
  rw [Bool.and_eq_true, Bool.and_eq_true] at h
  obtain ⟨⟨h1, h2⟩, h3⟩ := h
  have h1 := of_decide_eq_true h1
  have h2 := of_decide_eq_true h2
  refine ⟨by omega, by omega, fun k hk hkk => ?_⟩
  have hk1 := sq_small hk (Int.le_trans hkk (by omega))
  obtain ⟨j, rfl⟩ : ∃ j : Nat, k = (j : Int) := ⟨k.toNat, by omega⟩
  have h4 := List.all_eq_true.mp h3 j (List.mem_range.mpr (by omega))
  rw [Bool.or_eq_true, Bool.or_eq_true] at h4
  rcases h4 with (h4 | h4) | h4
  · have := of_decide_eq_true h4
    omega
  · have := of_decide_eq_true h4
    have e : ((j * j : Nat) : Int) = (j : Int) * (j : Int) := Int.natCast_mul j j
    omega
  · have := of_decide_eq_true h4
    intro e
    apply this
    have e2 : ((n % j : Nat) : Int) = (n : Int) % (j : Int) := Int.natCast_emod n j
    omega
def spClock : Sp := fun vs H Q _ => ∃ (g c : Addr), vs = [.ref g] ∧ Hand g c H ∧ ∀ H' p, But g H H' → Hand g c H' → NoDiv p → p ≤ 999983 → Q (.int p) H'
theorem ok_clock (T : Tx K mg cT cS) {f : Addr} {fd : FuncData} (d : D K mg "_law_clock" s_law_clock ["hand"] f fd) : FnOk P w K mg base CX0 3 f fd ["hand"] spClock := by
  obtain ⟨f1, fd1, d1⟩ := T.d_law_any
  have G1 : FnOk P w K mg base CX0 2 f1 fd1 ["hand", "items"] spAny := ok_any T d1
  refine d.F.ok sc_law_clock (fun vs H Q E h => ?_) (fun cdv A outer s H vs Q E hr h => ?_)
  · obtain ⟨g, c, rfl, _⟩ := h
    rfl
  · obtain ⟨g, c, rfl, hh, q⟩ := h
    refine ⟨_, pss_one (ps_ret (pe_call G1 hr rfl d1.m d1.F.kp d1.b .nil pass0 (pa_cons (pv 0) (pa_cons (pe_lst (pa_cons pe_int (pa_cons pe_int (pa_cons pe_int (pa_cons pe_int (pa_cons pe_int (pa_cons pe_int (pa_cons pe_int (pa_cons pe_int pa_nil))))))))) pa_nil)))), ?_⟩
    refine ⟨_, rfl, by show 8 ≤ sizeLine; decide, fun b nb => ?_⟩
    have s1 := same_new (o := .lst (([2, 3, 5, 7, 2, 11, 101, 999983] : List Int).map V.int)) nb
    refine ⟨g, c, b, ([2, 3, 5, 7, 2, 11, 101, 999983] : List Int).map V.int, rfl, upd_same, (hand_new hh nb).1, by decide, by decide, hh.same s1, fun H2 i x bt hh2 hx => ?_⟩
    obtain ⟨p, hp, rfl⟩ := at_int hx
    have hm := List.mem_of_getElem? hp
    have b2 := (s1.but g).trans bt
    have : (∃ k : Nat, p = (k : Int) ∧ noDivB k = true) ∧ p ≤ 999983 := by
      simp only [List.mem_cons, List.not_mem_nil, or_false] at hm
      rcases hm with rfl | rfl | rfl | rfl | rfl | rfl | rfl | rfl
      · exact ⟨⟨2, rfl, by decide +kernel⟩, by decide⟩
      · exact ⟨⟨3, rfl, by decide +kernel⟩, by decide⟩
      · exact ⟨⟨5, rfl, by decide +kernel⟩, by decide⟩
      · exact ⟨⟨7, rfl, by decide +kernel⟩, by decide⟩
      · exact ⟨⟨2, rfl, by decide +kernel⟩, by decide⟩
      · exact ⟨⟨11, rfl, by decide +kernel⟩, by decide⟩
      · exact ⟨⟨101, rfl, by decide +kernel⟩, by decide⟩
      · exact ⟨⟨999983, rfl, by decide +kernel⟩, by decide⟩
    obtain ⟨⟨k, rfl, hk⟩, hle⟩ := this
    exact q _ _ b2 hh2 (noDiv_of hk) hle
end
end S4

namespace S4
open PySem L2 TT MM
theorem twice {Y G : Prop} (h : Y → G) (y : Y) : G := h y
section
variable {P : Program} {w : World} {K : PySem.W.Frag} {mg : Str → Option Value} {base : Heap} {cT cS : Addr}
def spSomeRow : Sp := fun vs H Q _ => ∃ (g c a : Addr) (p : Int) (wd : Nat) (xs : List V) (rws : List (List Int)), vs = [.ref g, .int p, .int (wd : Int), .ref a] ∧ 2 ≤ p ∧ p ≤ 999983 ∧ wd ≤ 1000 ∧ H a = some (.lst xs) ∧ a ≠ g ∧ Paired (rRow H) xs rws ∧ rws.length ≤ 1000 ∧ (∀ r ∈ rws, isRow r p wd) ∧
  Hand g c H ∧ ∀ H' v l, But g H H' → Hand g c H' → rRow H' v l → isRow l p wd → Q v H'
theorem ok_some_row (T : Tx K mg cT cS) {f : Addr} {fd : FuncData} (d : D K mg "_law_some_row" s_law_some_row ["hand", "p", "wide", "rows"] f fd) : FnOk P w K mg base CX0 3 f fd ["hand", "p", "wide", "rows"] spSomeRow := by
  obtain ⟨f1, fd1, d1⟩ := T.d_law_draw
  have G1 : FnOk P w K mg base CX0 1 f1 fd1 ["hand", "many"] spDraw := ok_draw T d1
  obtain ⟨f2, fd2, d2⟩ := T.d_law_any
  have G2 : FnOk P w K mg base CX0 2 f2 fd2 ["hand", "items"] spAny := ok_any T d2
  obtain ⟨f3, fd3, d3⟩ := T.d_law_summed
  have G3 : FnOk P w K mg base CX0 2 f3 fd3 ["p", "wide", "rows", "many"] spSummed := ok_summed T d3
  refine d.F.ok sc_law_some_row (fun vs H Q E h => ?_) (fun cdv A outer s H vs Q E hr h => ?_)
  · obtain ⟨g, c, a, p, wd, xs, rws, rfl, _⟩ := h
    rfl
  · obtain ⟨g, c, a, p, wd, xs, rws, rfl, p2, pm, hwd, ha, hag, hp, hrl, hrw, hh, q⟩ := h
    refine ⟨_, pss_cons (ps_set (i := 4) sc_law_some_row.nd rfl (.inl rfl) (pe_call G1 (hr.mono (by decide)) rfl d1.m d1.F.kp d1.b .nil pass0 (pa_cons (pv 0) (pa_cons pe_int pa_nil))))
      (pss_cons (ps_if (pt_cmpR op_eq (pv 4) pe_int (nomark _)) (pss_one (ps_ret (pe_op op_repA (pe_tup (pa_cons pe_int pa_nil)) (pv 2)))) pss_nil)
      (pss_cons (ps_if (PW.pt (pw_and (pt_cmpR op_lt (pv 4) pe_int (nomark _)) (pw_and1 (pt_cmpR op_gt (pv 2) pe_int (nomark _)))))
        (pss_cons (ps_set (i := 5) sc_law_some_row.nd rfl (.inr rfl) (pe_call G1 (hr.mono (by decide)) rfl d1.m d1.F.kp d1.b .nil pass0 (pa_cons (pv 0) (pa_cons (pv 2) pa_nil))))
          (pss_one (ps_ret (pe_callTy call_tuple_of (by rfl) T.b_tuple (by decide +kernel) (pa_cons
            (pe_lc (own := [("place", 7)]) (g := gName 7) (tt := tYes) rfl sc_law_some_row.nd (pi_range1 rfl T.b_range (pa_cons (pv 2) pa_nil)) (blkOk_by (N := N_law_some_row) (sc := defScope s_law_some_row) (by decide +kernel))
              (fun _ _ _ _ _ => pg_name (i := 7) sc_law_some_row.nd rfl (Or.inl rfl)) (fun _ _ _ _ _ => pts_nil)
              (fun _ _ _ _ _ => pe_ifExp (pt_cmpR op_eq (pv 7) (pv 5) (nomark _)) (pe_op op_add pe_int (pe_call G1 (hr.mono (by decide)) rfl d1.m d1.F.kp d1.b .nil pass0 (pa_cons (pv 0) (pa_cons (pe_op op_sub (pv 1) pe_int) pa_nil)))) pe_int)) pa_nil))))) pss_nil)
      (pss_cons (ps_if (PW.pt (pw_and (pt_cmpR op_lt (pv 4) pe_int (nomark _)) (pw_and1 (pt_cmpR op_gt (pe_callB call_len_seq (by rfl) T.b_len PySem.boot_len (pa_cons (pv 3) pa_nil)) pe_int (nomark _)))))
        (pss_cons (ps_setLc (i := 6) (own := [("row", 8)]) (g := gName 8) (tt := tYes) rfl sc_law_some_row.nd rfl rfl (sw_true rfl rfl rfl rfl) (pi_list (pv 3)) (blkOk_by (N := N_law_some_row) (sc := defScope s_law_some_row) (by decide +kernel))
              (fun _ _ _ _ _ => pg_name (i := 8) sc_law_some_row.nd rfl (Or.inl rfl)) (fun _ _ _ _ _ => pts_nil)
              (fun _ _ _ _ _ => pe_call G2 hr rfl d2.m d2.F.kp d2.b .nil pass0 (pa_cons (pv 0) (pa_cons (pe_lst (pa_cons pe_int (pa_cons pe_int (pa_cons (pe_op op_sub (pv 1) pe_int) (pa_cons (pe_call G1 (hr.mono (by decide)) rfl d1.m d1.F.kp d1.b .nil pass0 (pa_cons (pv 0) (pa_cons (pv 1) pa_nil))) pa_nil))))) pa_nil))))
          (pss_one (ps_ret (pe_call G3 hr rfl d3.m d3.F.kp d3.b .nil pass0 (pa_cons (pv 1) (pa_cons (pv 2) (pa_cons (pv 3) (pa_cons (pv 6) pa_nil)))))))) pss_nil)
      (pss_cons (ps_if (pt_cmpR op_eq (pv 4) pe_int (nomark _))
        (pss_one (ps_ret (pe_callTy call_tuple_of (by rfl) T.b_tuple (by decide +kernel) (pa_cons
            (pe_lc (own := [("place", 7)]) (g := gName 7) (tt := tYes) rfl sc_law_some_row.nd (pi_range1 rfl T.b_range (pa_cons (pv 2) pa_nil)) (blkOk_by (N := N_law_some_row) (sc := defScope s_law_some_row) (by decide +kernel))
              (fun _ _ _ _ _ => pg_name (i := 7) sc_law_some_row.nd rfl (Or.inl rfl)) (fun _ _ _ _ _ => pts_nil)
              (fun _ _ _ _ _ => pe_ifExp (pt_cmpR op_eq (pe_call G1 (hr.mono (by decide)) rfl d1.m d1.F.kp d1.b .nil pass0 (pa_cons (pv 0) (pa_cons pe_int pa_nil))) pe_int (nomark _)) (pe_call G1 (hr.mono (by decide)) rfl d1.m d1.F.kp d1.b .nil pass0 (pa_cons (pv 0) (pa_cons (pv 1) pa_nil))) pe_int)) pa_nil)))) pss_nil)
      (pss_one (ps_ret (pe_callTy call_tuple_of (by rfl) T.b_tuple (by decide +kernel) (pa_cons
            (pe_lc (own := [("place", 7)]) (g := gName 7) (tt := tYes) rfl sc_law_some_row.nd (pi_range1 rfl T.b_range (pa_cons (pv 2) pa_nil)) (blkOk_by (N := N_law_some_row) (sc := defScope s_law_some_row) (by decide +kernel))
              (fun _ _ _ _ _ => pg_name (i := 7) sc_law_some_row.nd rfl (Or.inl rfl)) (fun _ _ _ _ _ => pts_nil)
              (fun _ _ _ _ _ => pe_call G1 (hr.mono (by decide)) rfl d1.m d1.F.kp d1.b .nil pass0 (pa_cons (pv 0) (pa_cons (pv 1) pa_nil)))) pa_nil)))))))), ?_⟩
    refine ⟨_, rfl, g, c, 8, rfl, by decide, by decide, hh, fun H2 kind b2 hh2 k0 k1 => ?_⟩
    dsimp only [gName, tSeq]
    have ha2 : H2 a = some (.lst xs) := b2.lst hag ha
    have hp2 : Paired (rRow H2) xs rws := paired_mono mono_row (hh.keep b2) hp
    have hlen := paired_len hp
    refine ⟨_, rfl, rfl, _, rfl, ?_⟩
    by_cases hk0 : kind = 0
    · rw [decide_eq_true (congrArg V.int hk0)]
      refine iteT ⟨by show 1 ≤ sizeLine; decide, fun t nt => ⟨_, rfl, zeros upd_same hwd fun H3 v3 s3 hrow3 => ?_⟩⟩
      have s23 := (same_new nt).trans s3
      exact q _ v3 _ (b2.trans (s23.but g)) (hh2.same s23) hrow3 (isRow_zeros (by omega) wd)
    rw [decide_eq_false (fun e => hk0 (V.int.inj e))]
    refine iteF ⟨_, rfl, _, _, rfl, rfl, _, rfl, ?_⟩
    have b02 := b2
    -- the drawn rows, whatever the numbers are
    have fin : ∀ (H3 H4 : Hp) (D : Addr), But g H H3 → PvDr rInt (fun x => 0 ≤ x ∧ x < p) g c D H3 (((wd : Nat) : Int).toNat) H4 → ∃ (l : List Int), H4 D = some (.lst (l.map V.int)) ∧ ∀ t, H4 t = none → Q (.ref t) (upd H4 t (.tup (l.map V.int))) := by
      intro H3 H4 D b3 pv
      obtain ⟨b4, hh4, ys, l, hD4, hp4, hl4, hf4⟩ := pv
      have := paired_int hp4
      subst this
      refine ⟨l, hD4, fun t nt => ?_⟩
      exact q _ _ l ((b3.trans b4).trans ((same_new nt).but g)) (hh4.same (same_new nt)) ⟨t, rfl, upd_same⟩ ⟨by rw [hl4, Int.toNat_natCast], hf4⟩
    apply twice
    · intro rest
      by_cases h3 : kind < 3
      · rw [decide_eq_true h3]
        refine iteT ⟨_, rfl, _, _, rfl, rfl, _, rfl, ?_⟩
        by_cases hw0 : 0 < wd
        · clear rest
          rw [decide_eq_true (by omega)]
          refine iteT ⟨_, rfl, _, rfl, g, c, (wd : Int), rfl, by omega, by omega, hh2, fun H3 at_ b3 hh3 a0 a1 => ?_⟩
          dsimp only [gName, tSeq]
          refine ⟨_, rfl, _, rfl, by omega, by omega, fun D hD => ?_⟩
          refine walk_W (walk_range (lo := 0) (n := ((wd : Nat) : Int).toNat)) _ (PvDr rInt (fun x => 0 ≤ x ∧ x < p) g c D H3) (dr_start hh3 hD) (fun i H' _ h => trivial) ?_ ?_
          · rintro i x H4 H5 hi pv ⟨rfl, rfl⟩
            rw [Int.toNat_natCast] at hi
            refine ⟨rfl, _, rfl, _, rfl, rfl, _, rfl, ?_⟩
            by_cases e : 0 + (i : Int) = at_
            · rw [decide_eq_true (congrArg V.int e)]
              refine iteT ⟨_, rfl, _, rfl, _, _, rfl, rfl, g, c, _, rfl, by omega, by omega, pv.2.1, fun H6 n b6 hh6 n0 n1 => ⟨_, _, rfl, rfl, ?_⟩⟩
              exact dr_keep mono_int hh3 pv hD (by omega) b6 hh6 rfl ⟨by omega, by omega⟩
            · rw [decide_eq_false (fun z => e (V.int.inj z))]
              exact iteF (dr_keep mono_int hh3 pv hD (by omega) (But.refl _ _) pv.2.1 rfl ⟨by omega, by omega⟩)
          · intro H4 pv
            obtain ⟨l, hD4, q4⟩ := fin H3 H4 D (b2.trans b3) pv
            exact ⟨D, _, rfl, .inl ⟨.of hD4, q4⟩⟩
        · rw [decide_eq_false (by clear rest; omega)]
          exact iteF rest
      · rw [decide_eq_false h3]
        exact iteF rest
    refine ⟨_, rfl, _, _, rfl, rfl, _, rfl, ?_⟩
    apply twice
    · intro rest
      by_cases h5 : kind < 5
      · rw [decide_eq_true h5]
        refine iteT ⟨_, rfl, _, _, rfl, .inl (.of ha2), _, _, rfl, rfl, _, rfl, ?_⟩
        by_cases hr0 : 0 < xs.length
        · clear rest
          rw [decide_eq_true (by omega)]
          refine iteT ⟨_, rfl, a, rfl, ⟨_, .of ha2⟩, fun D hD => ?_⟩
          refine walk_W (walk_list (xs := xs)) _ (PvDr rInt (fun x => 0 ≤ x ∧ x < p) g c D H2) (dr_start hh2 hD) (fun i H' _ h => .of (h.1.lst hag ha2)) ?_ ?_
          · rintro i x H4 H5 hi pv ⟨rfl, hx⟩
            refine ⟨rfl, _, rfl, _, rfl, _, _, rfl, rfl, _, rfl, _, rfl, g, c, p, rfl, by omega, by omega, pv.2.1, fun H6 n b6 hh6 n0 n1 => ⟨by show 4 ≤ sizeLine; decide, fun b nb => ?_⟩⟩
            have s7 := same_new (o := .lst (([0, 1, p - 1, n] : List Int).map V.int)) nb
            refine ⟨g, c, b, ([0, 1, p - 1, n] : List Int).map V.int, rfl, upd_same, (hand_new hh6 nb).1, by show 0 < 4; decide, by show 4 < 1000000; decide, hh6.same s7, fun H8 j y b8 hh8 hy => ?_⟩
            obtain ⟨m, hm, rfl⟩ := at_int hy
            have hm2 := List.mem_of_getElem? hm
            simp only [List.mem_cons, List.not_mem_nil, or_false] at hm2
            exact dr_keep mono_int hh2 pv hD (by omega) ((b6.trans (s7.but g)).trans b8) hh8 rfl (by omega)
          · intro H4 pv
            obtain ⟨b4, hh4, ys, l, hD4, hp4, hl4, hf4⟩ := pv
            have := paired_int hp4
            subst this
            dsimp only [gName, tSeq]
            refine ⟨_, rfl, _, rfl, _, rfl, _, rfl, a, D, p, wd, xs, rws, l, rfl, by omega, hwd, b4.lst hag ha2, paired_mono mono_row (hh2.keep b4) hp2, fun r hr => by have := (hrw r hr).1; omega, hD4, fun m hm => by have := hf4 m hm; omega, fun H5 v5 l5 s5 hrow5 hir => ?_⟩
            exact q _ _ _ ((b2.trans b4).trans (s5.but g)) (hh4.same s5) hrow5 hir
        · rw [decide_eq_false (by clear rest; omega)]
          exact iteF rest
      · rw [decide_eq_false h5]
        exact iteF rest
    refine ⟨_, rfl, rfl, _, rfl, ?_⟩
    by_cases hk5 : kind = 5
    · rw [decide_eq_true (congrArg V.int hk5)]
      refine iteT ⟨_, rfl, _, rfl, by omega, by omega, fun D hD => ?_⟩
      refine walk_W (walk_range (lo := 0) (n := ((wd : Nat) : Int).toNat)) _ (PvDr rInt (fun x => 0 ≤ x ∧ x < p) g c D H2) (dr_start hh2 hD) (fun i H' _ h => trivial) ?_ ?_
      · rintro i x H4 H5 hi pv ⟨rfl, rfl⟩
        rw [Int.toNat_natCast] at hi
        refine ⟨rfl, _, rfl, g, c, 3, rfl, by decide, by decide, pv.2.1, fun H6 n b6 hh6 n0 n1 => ⟨rfl, _, rfl, ?_⟩⟩
        by_cases e : n = 0
        · rw [decide_eq_true (congrArg V.int e)]
          refine iteT ⟨_, rfl, _, rfl, g, c, p, rfl, by omega, by omega, hh6, fun H7 m b7 hh7 m0 m1 => ?_⟩
          exact dr_keep mono_int hh2 pv hD (by omega) (b6.trans b7) hh7 rfl ⟨m0, m1⟩
        · rw [decide_eq_false (fun z => e (V.int.inj z))]
          exact iteF (dr_keep mono_int hh2 pv hD (by omega) b6 hh6 rfl ⟨by omega, by omega⟩)
      · intro H4 pv
        obtain ⟨l, hD4, q4⟩ := fin H2 H4 D b2 pv
        exact ⟨D, _, rfl, .inl ⟨.of hD4, q4⟩⟩
    · rw [decide_eq_false (fun e => hk5 (V.int.inj e))]
      refine iteF ⟨_, rfl, _, rfl, by omega, by omega, fun D hD => ?_⟩
      refine walk_W (walk_range (lo := 0) (n := ((wd : Nat) : Int).toNat)) _ (PvDr rInt (fun x => 0 ≤ x ∧ x < p) g c D H2) (dr_start hh2 hD) (fun i H' _ h => trivial) ?_ ?_
      · rintro i x H4 H5 hi pv ⟨rfl, rfl⟩
        rw [Int.toNat_natCast] at hi
        refine ⟨rfl, _, rfl, _, rfl, g, c, p, rfl, by omega, by omega, pv.2.1, fun H6 n b6 hh6 n0 n1 => ?_⟩
        exact dr_keep mono_int hh2 pv hD (by omega) b6 hh6 rfl ⟨n0, n1⟩
      · intro H4 pv
        obtain ⟨l, hD4, q4⟩ := fin H2 H4 D b2 pv
        exact ⟨D, _, rfl, .inl ⟨.of hD4, q4⟩⟩
end
end S4

namespace S4
open PySem L2 TT MM
section
variable {P : Program} {w : World} {K : PySem.W.Frag} {mg : Str → Option Value} {base : Heap} {cT cS : Addr}
def spInverse : Sp := fun vs H Q _ => ∃ (p v : Int), vs = [.int p, .int v] ∧ p ≤ 1000000 ∧ 0 < v ∧ v < p ∧ Int.gcd p v = 1 ∧ ∀ u, 0 ≤ u → u < p → Cg p (u * v) 1 → ∀ H', Same H H' → Q (.int u) H'
theorem ok_inverse (T : Tx K mg cT cS) {f : Addr} {fd : FuncData} (d : D K mg "inverse" s_inverse ["p", "value"] f fd) : FnOk P w K mg base CX0 1 f fd ["p", "value"] spInverse := by
  refine d.F.ok sc_inverse (fun vs H Q E h => ?_) (fun cdv A outer s H vs Q E hr h => ?_)
  · obtain ⟨p, v, rfl, _⟩ := h
    rfl
  · obtain ⟨p, v, rfl, pm, v0, v1, hg, q⟩ := h
    refine ⟨_, pss_cons (ps_par (i := 2) (j := 3) (by rfl) sc_inverse.nd rfl rfl (by decide) rfl rfl (pa_cons (pv 0) (pa_cons (pv 1) pa_nil)) (by rfl))
      (pss_cons (ps_asg (pe_tup (pa_cons pe_int (pa_cons pe_int pa_nil))) (pg_tup rfl (pgs_cons (pg_name (i := 4) sc_inverse.nd rfl (.inl rfl)) (pgs_cons (pg_name (i := 5) sc_inverse.nd rfl (.inl rfl)) pgs_nil))))
      (pss_cons (ps_while PassesOwn.never (pt_cmpR op_ne (pv 3) pe_int (nomark _))
        (pss_cons (ps_set (i := 6) sc_inverse.nd rfl (.inl rfl) (pe_op op_fdivN (pv 2) (pv 3)))
        (pss_cons (ps_par (i := 2) (j := 3) (by rfl) sc_inverse.nd rfl rfl (by decide) rfl rfl (pa_cons (pv 3) (pa_cons (pe_op op_sub (pv 2) (pe_op op_mul (pv 6) (pv 3))) pa_nil)) (by rfl))
        (pss_one (ps_par (i := 4) (j := 5) (by rfl) sc_inverse.nd rfl rfl (by decide) rfl rfl (pa_cons (pv 5) (pa_cons (pe_op op_sub (pv 4) (pe_op op_mul (pv 6) (pv 5))) pa_nil)) (by rfl))))))
      (pss_one (ps_ret (pe_op op_mod (pv 5) (pv 0)))))), ?_⟩
    refine ⟨_, rfl, _, rfl, _, _, rfl, ?_⟩
    refine ⟨by show 2 ≤ sizeLine; decide, fun t nt => ⟨t, _, rfl, .of upd_same, rfl, _, _, rfl, _, _, rfl, rfl, ?_⟩⟩
    dsimp only [gName, tSeq]
    refine while_by (fun σ H' => ∃ a n b f x, σ = [some (.int p), some (.int v), some (.int a), some (.int n), some (.int b), some (.int f), x] ∧ Eu p v a n b f ∧ a ≤ p ∧ Same H H')
      (fun σ _ => match σ[3]? with | some (some (V.int n)) => n.toNat | _ => 0) ⟨p, v, 0, 1, none, rfl, Eu.start v0 v1 hg, Int.le_refl _, same_new nt⟩ ?_ ?_
    · rintro σ H1 ⟨a, n, b, f, x, rfl, EE, ap, ss⟩
      refine ⟨_, rfl, rfl, _, rfl, ?_⟩
      by_cases h1 : n = 1
      · subst h1
        rw [decide_eq_true rfl]
        have m := mod_b (a := f) (m := p) (by omega)
        refine iteF ⟨_, rfl, _, rfl, _, _, rfl, rfl, by omega, q _ m.1 m.2 (((Cg.mod f).mul (Cg.refl v)).trans EE.hn) _ ss⟩
      · rw [decide_eq_false (fun e => h1 (V.int.inj e))]
        obtain ⟨E2, hlt⟩ := EE.step h1
        have hn := EE.n0
        have hna := EE.na
        have t0 : 0 ≤ a / n := Int.ediv_nonneg (by omega) (by omega)
        have t1 : a / n ≤ a := Int.ediv_le_self _ (by omega)
        refine iteT ⟨_, rfl, _, rfl, _, _, rfl, rfl, ⟨by omega, by omega⟩, ?_⟩
        dsimp only [gName, tSeq]
        rw [Int.fdiv_eq_ediv_of_nonneg _ (by omega)]
        refine ⟨_, rfl, _, rfl, _, rfl, _, rfl, _, _, rfl, rfl, .inl ⟨by omega, by omega⟩, _, _, rfl, rfl, _, _, rfl, ?_⟩
        dsimp only [gName, tSeq]
        refine ⟨_, rfl, _, rfl, _, rfl, _, rfl, _, _, rfl, rfl, .inl ⟨by omega, by omega⟩, _, _, rfl, rfl, _, _, rfl, ?_⟩
        refine ⟨⟨_, _, _, _, _, rfl, E2, by omega, ss⟩, ?_⟩
        show (a - a / n * n).toNat < n.toNat
        omega
    · rintro σ H' Q1 Q2 i ⟨x, e1, h1, k, e2, h⟩
      exact ⟨x, e1, h1, k, e2, i _ _ h⟩
def spFirst : Sp := fun vs H Q _ => ∃ (v : V) (l : List Int) (wd : Nat), vs = [v, .int (wd : Int)] ∧ rRow H v l ∧ wd ≤ l.length ∧ wd ≤ 100000 ∧
  ((∀ x, x < wd → l.getD x 0 = 0) → Q .non H) ∧ (∀ k, k < wd → l.getD k 0 ≠ 0 → (∀ x, x < k → l.getD x 0 = 0) → Q (.int (k : Nat)) H)
theorem ok_first (T : Tx K mg cT cS) {f : Addr} {fd : FuncData} (d : D K mg "first_place" s_first_place ["row", "wide"] f fd) : FnOk P w K mg base CX0 1 f fd ["row", "wide"] spFirst := by
  refine d.F.ok sc_first_place (fun vs H Q E h => ?_) (fun cdv A outer s H vs Q E hr h => ?_)
  · obtain ⟨v, l, wd, rfl, _⟩ := h
    rfl
  · obtain ⟨v, l, wd, rfl, ⟨t, rfl, ht⟩, hw, hw2, q1, q2⟩ := h
    refine ⟨_, pss_cons (ps_for PassesOwn.never rfl (pi_range1 rfl T.b_range (pa_cons (pv 1) pa_nil)) (pg_name (i := 2) sc_first_place.nd rfl (Or.inl rfl))
        (pss_one (ps_if (pt_truth (pe_ix ix_tup (pv 0) (pv 2) (fun _ _ => rfl)) (by intro _; rfl)) (pss_one (ps_ret (pv 2))) pss_nil)))
      (pss_one (ps_ret pe_non)), ?_⟩
    refine ⟨_, rfl, _, rfl, by omega, by omega, ?_⟩
    refine for_it (walk_range (lo := 0) (n := ((wd : Nat) : Int).toNat)) (fun i σ H' => ∃ x, σ = [some (.ref t), some (.int (wd : Int)), x] ∧ H' = H ∧ ∀ x, x < i → l.getD x 0 = 0) ⟨none, rfl, rfl, fun x hx => absurd hx (Nat.not_lt_zero _)⟩ (fun i σ H' _ h => trivial) ?_ ?_
    · rintro i x σ H1 H2 hi ⟨y, rfl, rfl, hz⟩ ⟨rfl, rfl⟩
      rw [Int.toNat_natCast] at hi
      have hx : l[i]? = some l[i] := List.getElem?_eq_getElem (by omega)
      have eg : l.getD i 0 = l[i] := getD_at hx
      refine ⟨_, rfl, _, rfl, t, _, _, V.int l[i], rfl, rfl, .of ht, by rw [Int.zero_add]; exact atI_nat (int_at hx), ?_⟩
      refine ⟨_, rfl, ?_⟩
      by_cases h0 : l[i] = 0
      · rw [h0]
        refine iteF ⟨_, rfl, rfl, fun x hx => ?_⟩
        by_cases e : x = i
        · subst e; rw [eg]; exact h0
        · exact hz x (by omega)
      · have hb : (l[i] != 0) = true := by rw [bne_iff_ne]; exact h0
        rw [hb]
        refine iteT ⟨_, rfl, ?_⟩
        have := q2 i hi (by rw [eg]; exact h0) hz
        show Q (V.int (0 + (i : Int))) _
        rw [Int.zero_add]
        exact this
    · rintro σ H1 ⟨y, rfl, rfl, hz⟩
      rw [Int.toNat_natCast] at hz
      exact q1 hz
end
end S4

namespace S4
open PySem L2 TT MM
/-- a row less so many times another -/
def lessL (p : Int) (l r : List Int) (m : Int) : List Int := (List.range l.length).map fun (i : Nat) => (l.getD i 0 - m * r.getD i 0) % p
def mulL (p f : Int) (l : List Int) : List Int := l.map fun x => f * x % p
abbrev RG := List (Nat × List Int)
def clr1 (p : Int) (l : List Int) (z : Nat × List Int) : List Int := if l.getD z.1 0 = 0 then l else lessL p l z.2 (l.getD z.1 0)
def clr (p : Int) (rs : RG) (l : List Int) : List Int := rs.foldl (clr1 p) l
theorem lessL_len (p : Int) (l r : List Int) (m : Int) : (lessL p l r m).length = l.length := by unfold lessL; rw [List.length_map, List.length_range]
theorem clr1_len (p : Int) (l : List Int) (z : Nat × List Int) : (clr1 p l z).length = l.length := by
  unfold clr1
  split
  · rfl
  · exact lessL_len _ _ _ _
theorem clr_len (p : Int) (rs : RG) : ∀ l : List Int, (clr p rs l).length = l.length := by
  induction rs with
  | nil => intro l; rfl
  | cons z rs ih => intro l; show (clr p rs (clr1 p l z)).length = _; rw [ih, clr1_len]
def InB (p : Int) (l : List Int) : Prop := ∀ x ∈ l, 0 ≤ x ∧ x < p
theorem lessL_in {p : Int} (p0 : 0 < p) (l r : List Int) (m : Int) : InB p (lessL p l r m) := fun x hx => by
  obtain ⟨i, _, rfl⟩ := List.mem_map.mp hx
  exact mod_b p0
theorem clr1_in {p : Int} (p0 : 0 < p) {l : List Int} (h : InB p l) (z : Nat × List Int) : InB p (clr1 p l z) := by
  unfold clr1
  split
  · exact h
  · exact lessL_in p0 _ _ _
theorem clr_in {p : Int} (p0 : 0 < p) (rs : RG) : ∀ {l : List Int}, InB p l → InB p (clr p rs l) := by
  induction rs with
  | nil => intro l h; exact h
  | cons z rs ih => intro l h; exact ih (clr1_in p0 h z)
theorem getD_in {p : Int} (p0 : 0 < p) {l : List Int} (h : InB p l) (i : Nat) : 0 ≤ l.getD i 0 ∧ l.getD i 0 < p := by
  rw [List.getD_eq_getElem?_getD]
  cases e : l[i]? with
  | none => exact ⟨Int.le_refl _, p0⟩
  | some x => exact h x (List.mem_of_getElem? e)
/-- a dict of rows by places, in the heap -/
def kvR (H : Hp) : (L2.Key × V) → (Nat × List Int) → Prop := fun kv z => kv.1 = Sum.inl ((z.1 : Nat) : Int) ∧ rRow H kv.2 z.2
def rDict (H : Hp) (u : HO) (rs : RG) : Prop := ∃ kvs, u = .dK kvs ∧ Paired (kvR H) kvs rs
theorem kvR_mono {H H' : Hp} (k : ∀ t xs, H t = some (.tup xs) → H' t = some (.tup xs)) {kvs : List (L2.Key × V)} {rs : RG} (h : Paired (kvR H) kvs rs) : Paired (kvR H') kvs rs :=
  Paired.mapP h fun _ _ ⟨e, t, e2, h2⟩ => ⟨e, t, e2, k _ _ h2⟩
theorem val_at : ∀ {kvs : List (L2.Key × V)} {rs : RG} {H : Hp} {i : Nat} {k : L2.Key} {v : V}, Paired (kvR H) kvs rs → (rs.map (·.1)).Nodup → kvs[i]? = some (k, v) → valV kvs k = some v
  | _, _, _, i, k, v, .nil, _, h => by simp at h
  | _, _, _, 0, k, v, .cons r t, nd, h => by
    have h := Option.some.inj h
    subst h
    exact valV_pos rfl
  | (k0, v0) :: kvs, z :: rs, H, i + 1, k, v, .cons r t, nd, h => by
    obtain ⟨n1, n2⟩ := List.nodup_cons.mp nd
    have h' : kvs[i]? = some (k, v) := h
    have ih := val_at t n2 h'
    obtain ⟨y, hy, hr⟩ := paired_get t h'
    have hne : ¬ k0 = k := fun e => by
      have e1 := r.1
      have e2 := hr.1
      simp only at e1 e2
      rw [e, e2] at e1
      have e3 := Sum.inl.inj e1
      have e4 : y.1 = z.1 := by omega
      exact n1 (List.mem_map.mpr ⟨y, List.mem_of_getElem? hy, e4⟩)
    rw [valV_neg hne]
    exact ih
section
variable {P : Program} {w : World} {K : PySem.W.Frag} {mg : Str → Option Value} {base : Heap} {cT cS : Addr}
def spMult : Sp := fun vs H Q _ => ∃ (v : V) (l : List Int) (p f : Int), vs = [.int p, .int f, v] ∧ rRow H v l ∧ 0 < p ∧ (-(2 ^ 63) < f ∧ f < 2 ^ 63) ∧ l.length ≤ 1000 ∧ ∀ H' v', Same H H' → rRow H' v' (mulL p f l) → Q v' H'
theorem ok_mult (T : Tx K mg cT cS) {f : Addr} {fd : FuncData} (d : D K mg "multiplied" s_multiplied ["p", "factor", "row"] f fd) : FnOk P w K mg base CX0 1 f fd ["p", "factor", "row"] spMult := by
  refine d.F.ok sc_multiplied (fun vs H Q E h => ?_) (fun cdv A outer s H vs Q E hr h => ?_)
  · obtain ⟨v, l, p, f, rfl, _⟩ := h
    rfl
  · obtain ⟨v, l, p, f, rfl, ⟨t, rfl, ht⟩, p0, fb, hl, q⟩ := h
    refine ⟨_, pss_one (ps_ret (pe_callTy call_tuple_of (by rfl) T.b_tuple (by decide +kernel) (pa_cons
        (pe_lc (own := [("value", 3)]) (g := gName 3) (tt := tYes) rfl sc_multiplied.nd (pi_tup (pv 2)) (blkOk_by (N := N_multiplied) (sc := defScope s_multiplied) (by decide +kernel)) (fun _ _ _ _ _ => pg_name (i := 3) sc_multiplied.nd rfl (Or.inl rfl)) (fun _ _ _ _ _ => pts_nil)
          (fun _ _ _ _ _ => pe_op op_mod (pe_op op_mul (pv 1) (pv 3)) (pv 0))) pa_nil))), ?_⟩
    refine ⟨_, rfl, t, rfl, ⟨_, .of ht⟩, fun D hD => ?_⟩
    refine lc_fm (walk_tup (xs := l.map V.int)) rInt (fun i => l[i]?.bind fun x => some (f * x % p)) hD (fun H' s' => .of (s'.keep.tup ht)) ?_ ?_
    · rintro i x H2 H3 hi pv ⟨rfl, hx⟩
      obtain ⟨j, hj, rfl⟩ := at_int hx
      rw [List.length_map] at hi
      refine ⟨rfl, _, rfl, _, rfl, _, _, rfl, rfl, .inl ⟨by omega, by omega⟩, _, rfl, _, _, rfl, rfl, p0, ?_⟩
      exact fm_keep mono_int pv hD (by omega) (Same.refl _) (by rw [hj]; rfl) rfl
    · intro H2 ys s2 hD2 hp2
      rw [List.length_map, fm_some] at hp2
      have := paired_int hp2
      subst this
      exact ⟨D, _, rfl, .inl ⟨.of hD2, fun p np => q _ _ (s2.trans (same_new np)) ⟨p, rfl, upd_same⟩⟩⟩
def spCleared : Sp := fun vs H Q _ => ∃ (d : Addr) (u : HO) (v : V) (l : List Int) (rs : RG) (p : Int), vs = [.int p, .ref d, v] ∧ H d = some u ∧ rDict H u rs ∧ (rs.map (·.1)).Nodup ∧ rRow H v l ∧ 0 < p ∧ p ≤ 1000000 ∧ InB p l ∧ l.length ≤ 1000 ∧ rs.length ≤ 1000 ∧ (∀ z ∈ rs, z.1 < l.length ∧ z.2.length = l.length) ∧
  ∀ H' v', Same H H' → rRow H' v' (clr p rs l) → Q v' H'
theorem ok_cleared (T : Tx K mg cT cS) {f : Addr} {fd : FuncData} (d : D K mg "cleared" s_cleared ["p", "rungs", "row"] f fd) : FnOk P w K mg base CX0 1 f fd ["p", "rungs", "row"] spCleared := by
  refine d.F.ok sc_cleared (fun vs H Q E h => ?_) (fun cdv A outer s H vs Q E hr h => ?_)
  · obtain ⟨d, u, v, l, rs, p, rfl, _⟩ := h
    rfl
  · obtain ⟨dd, u, v, l, rs, p, rfl, hd, ⟨kvs, rfl, hk⟩, nd, hrow, p0, pm, hin, hl, hrs, hz, q⟩ := h
    refine ⟨_, pss_cons (ps_lock (ps_for PassesOwn.never rfl (pi_keys (pv 1)) (pg_name (i := 3) sc_cleared.nd rfl (Or.inl rfl))
        (pss_cons (ps_set (i := 4) sc_cleared.nd rfl (.inr rfl) (pe_ix ix_tup (pv 2) (pv 3) (fun _ _ => rfl)))
          (pss_one (ps_if (pt_truth (pv 4) (by intro _; rfl))
            (pss_one (ps_set (i := 2) sc_cleared.nd rfl (.inl rfl) (pe_callTy call_tuple_of (by rfl) T.b_tuple (by decide +kernel) (pa_cons
              (pe_lc (own := [("value", 5), ("less", 6)]) (g := gTup K 2 (gCons (gName 5) (gCons (gName 6) gNil))) (tt := tYes) rfl sc_cleared.nd (RZ.pi_zipA (by rfl) T.b_zip (pa_cons (pv 2) (pa_cons (pe_dget (hu_of hr) (pv 1) (pv 3) (fun _ _ => rfl)) pa_nil))) (blkOk_by (N := N_cleared) (sc := defScope s_cleared) (by decide +kernel))
                (fun _ _ _ _ _ => pgT rfl rfl (pgs_cons (pg_name (i := 5) sc_cleared.nd rfl (Or.inl rfl)) (pgs_cons (pg_name (i := 6) sc_cleared.nd rfl (Or.inl rfl)) pgs_nil))) (fun _ _ _ _ _ => pts_nil)
                (fun _ _ _ _ _ => pe_op op_mod (pe_op op_sub (pv 5) (pe_op op_mul (pv 4) (pv 6))) (pv 0))) pa_nil)))) pss_nil)))))
      (pss_one (ps_ret (pv 2))), ?_⟩
    refine ⟨dd, .dK kvs, hd, trivial, fun od => ?_⟩
    have k0 : ∀ t xs, H t = some (.tup xs) → (upd H dd (.frz od (.dK kvs))) t = some (.tup xs) := fun t xs h => by rw [upd_ne (ne_of h hd (fun z => nomatch z))]; exact h
    have hk0 := kvR_mono k0 hk
    have hlen := paired_len hk
    refine ⟨_, rfl, dd, od, rfl, .inl ⟨kvs, upd_same, ?_⟩⟩
    refine for_it (walk_keys (kvs := kvs)) (fun i σ H' => Same (upd H dd (.frz od (.dK kvs))) H' ∧ ∃ v' x y, σ = [some (.int p), some (.ref dd), some v', x, y, none, none] ∧ rRow H' v' (clr p (rs.take i) l))
      ⟨.refl _, v, none, none, rfl, let ⟨t, e, h⟩ := hrow; ⟨t, e, k0 _ _ h⟩⟩ (fun i σ H' _ h => h.1 _ _ upd_same) ?_ ?_
    · rintro i x σ H2 H3 hi ⟨s2, v', x3, y3, rfl, ⟨t', rfl, ht'⟩⟩ ⟨rfl, k, vv, hkv, rfl⟩
      obtain ⟨z, hz1, e1, hr1⟩ := paired_get (kvR_mono (fun t xs h => s2 _ _ h) hk0) hkv
      simp only at e1 hr1
      subst e1
      obtain ⟨zl, zr⟩ := hz z (List.mem_of_getElem? hz1)
      generalize hcur : clr p (rs.take i) l = cur at ht'
      have hcl : cur.length = l.length := by rw [← hcur, clr_len]
      have hci : InB p cur := by rw [← hcur]; exact clr_in p0 _ hin
      have hstep : clr p (rs.take (i + 1)) l = clr1 p cur z := by
        rw [← hcur, List.take_succ, hz1]
        unfold clr
        rw [List.foldl_append]
        rfl
      have hx : cur[z.1]? = some (cur[z.1]'(by omega)) := List.getElem?_eq_getElem (by omega)
      have hg : cur.getD z.1 0 = cur[z.1]'(by omega) := getD_at hx
      have hb := getD_in p0 hci z.1
      rw [hg] at hb
      refine ⟨_, rfl, _, rfl, t', _, _, _, rfl, rfl, .of ht', atI_nat (int_at hx), ?_⟩
      dsimp only [gName, tSeq]
      refine ⟨_, rfl, _, rfl, ?_⟩
      by_cases h0 : cur[z.1]'(by omega) = 0
      · rw [h0]
        refine iteF ⟨s2, _, _, _, rfl, t', rfl, ?_⟩
        rw [hstep]
        unfold clr1
        rw [if_pos (by rw [hg]; exact h0)]
        exact ht'
      · have hbn : (cur[z.1]'(by omega) != 0) = true := by rw [bne_iff_ne]; exact h0
        rw [hbn]
        obtain ⟨t2, rfl, ht2⟩ := hr1
        have hfr : H3 dd = some (.frz od (.dK kvs)) := s2 _ _ upd_same
        have hval := val_at hk nd hkv
        refine iteT ⟨_, rfl, _, rfl, _, rfl, dd, _, rfl, .inl ⟨kvs, _, .inr ⟨od, hfr⟩, rfl, hval.symm⟩, t', t2, _, _, rfl, .inr ⟨.of ht', .of ht2, fun D hD => ?_⟩⟩
        refine lc_fm (walk_zipT (n := cur.length) (by rw [List.length_map, List.length_map, zr, hcl]; omega)) rInt (fun i => some ((cur.getD i 0 - cur.getD z.1 0 * z.2.getD i 0) % p)) hD (fun H' s' => ⟨.of (s'.keep.tup ht'), .of (s'.keep.tup ht2)⟩) ?_ ?_
        · rintro j x H4 H5 hj pv ⟨tz, u1, u2, rfl, nz, rfl, e1, e2⟩
          obtain ⟨c1, hc1, rfl⟩ := at_int e1
          obtain ⟨c2, hc2, rfl⟩ := at_int e2
          refine ⟨tz, _, rfl, .of upd_same, rfl, _, _, rfl, _, _, rfl, rfl, rfl, ?_⟩
          refine ⟨_, rfl, _, rfl, _, rfl, _, _, rfl, rfl, .inl ⟨by omega, by omega⟩, _, _, rfl, rfl, _, rfl, _, _, rfl, rfl, p0, ?_⟩
          exact fm_keep mono_int pv hD (by omega) (same_new nz) rfl (by rw [getD_at hc1, getD_at hc2, hg]; rfl)
        · intro H4 ys s4 hD4 hp4
          rw [fm_all] at hp4
          have := paired_int hp4
          subst this
          refine ⟨D, _, rfl, .inl ⟨.of hD4, fun nt nnt => ?_⟩⟩
          refine ⟨s2.trans (s4.trans (same_new nnt)), _, _, _, rfl, nt, rfl, ?_⟩
          rw [hstep]
          unfold clr1
          rw [if_neg (by rw [hg]; exact h0)]
          exact upd_same
    · rintro σ H2 ⟨s2, v', x3, y3, rfl, ⟨t', rfl, ht'⟩⟩
      have hfr : H2 dd = some (.frz od (.dK kvs)) := s2 _ _ upd_same
      rw [hlen, List.take_length] at ht'
      refine ⟨hfr, _, rfl, q _ _ (fun b o e => ?_) ⟨t', rfl, by rw [upd_ne (ne_of ht' hfr (fun z => nomatch z))]; exact ht'⟩⟩
      by_cases hb : b = dd
      · subst hb
        rw [hd] at e
        cases e
        exact upd_same
      · rw [upd_ne hb]
        exact s2 _ _ (by rw [upd_ne hb]; exact e)
end
end S4

/-! posts, ties, what is reached: plain mathematics -/
namespace MM
def nbOf (post : Int) (t : Int × Int) : Option Int := if t.1 = post ∨ t.2 = post then some (if t.1 = post then t.2 else t.1) else none
def nb (ties : List (Int × Int)) (post : Int) : List Int := ties.filterMap (nbOf post)
def Up (ns : List Int) : Prop := ns.Pairwise (· ≤ ·)
/-- reached from s without the barred one -/
inductive Rch (ties : List (Int × Int)) (bar : Option Int) (s : Int) : Int → Prop
  | refl : Rch ties bar s s
  | step {u v : Int} : Rch ties bar s u → v ∈ nb ties u → bar ≠ some v → Rch ties bar s v
/-- the walk's word: found and waiting, ex the one whose neighbours are being looked at -/
structure RI (ties : List (Int × Int)) (bar : Option Int) (s : Int) (ex : Option Int) (fnd wt : List Int) : Prop where
  nd : fnd.Nodup
  st : s ∈ fnd
  ok : ∀ v ∈ fnd, Rch ties bar s v
  sub : ∀ v ∈ wt, v ∈ fnd
  cl : ∀ u ∈ fnd, u ∉ wt → ex ≠ some u → ∀ v ∈ nb ties u, bar ≠ some v → v ∈ fnd
  exf : ∀ h, ex = some h → h ∈ fnd
  wl : wt.length ≤ fnd.length
variable {ties : List (Int × Int)} {bar : Option Int} {s : Int}
theorem RI.start : RI ties bar s none [s] [s] :=
  ⟨by simp, by simp, fun v h => by rw [List.mem_singleton.mp h]; exact .refl, fun v h => h, fun u h h' => absurd h h', fun _ h => (nomatch h), Nat.le_refl _⟩
theorem RI.pop {fnd wt : List Int} {h : Int} (r : RI ties bar s none fnd wt) (hl : wt[wt.length - 1]? = some h) : RI ties bar s (some h) fnd wt.dropLast := by
  have hm : wt = wt.dropLast ++ [h] := by
    have hne : wt ≠ [] := by intro e; subst e; simp at hl
    have e1 := List.dropLast_concat_getLast hne
    have e2 : wt.getLast hne = h := by
      have := List.getLast?_eq_getElem? (l := wt)
      rw [hl, List.getLast?_eq_some_getLast hne] at this
      exact Option.some.inj this
    rw [e2] at e1
    exact e1.symm
  refine ⟨r.nd, r.st, r.ok, fun v hv => r.sub v ?_, fun u hu hn he v hv hb => r.cl u hu ?_ (fun q => nomatch q) v hv hb, fun q e => ?_, by rw [List.length_dropLast]; have := r.wl; omega⟩
  · rw [hm]; exact List.mem_append_left _ hv
  · intro hw
    rw [hm] at hw
    rcases List.mem_append.mp hw with hw | hw
    · exact hn hw
    · rw [List.mem_singleton.mp hw] at he
      exact he rfl
  · cases e
    exact r.sub h (by rw [hm]; simp)
theorem RI.add {fnd wt : List Int} {h v : Int} (r : RI ties bar s (some h) fnd wt) (hv : v ∈ nb ties h) (hb : bar ≠ some v) (hn : v ∉ fnd) : RI ties bar s (some h) (fnd ++ [v]) (wt ++ [v]) := by
  refine ⟨?_, List.mem_append_left _ r.st, fun u hu => ?_, fun u hu => ?_, fun u hu hw he x hx hbx => ?_, fun q e => List.mem_append_left _ (r.exf q e), by rw [List.length_append, List.length_append]; have := r.wl; omega⟩
  · rw [List.nodup_append]
    exact ⟨r.nd, by simp, fun a ha b hb => by rw [List.mem_singleton.mp hb]; intro e; subst e; exact hn ha⟩
  · rcases List.mem_append.mp hu with hu | hu
    · exact r.ok u hu
    · rw [List.mem_singleton.mp hu]
      exact .step (r.ok h (r.exf h rfl)) hv hb
  · rcases List.mem_append.mp hu with hu | hu
    · exact List.mem_append_left _ (r.sub u hu)
    · exact List.mem_append_right _ hu
  · rcases List.mem_append.mp hu with hu | hu
    · exact List.mem_append_left _ (r.cl u hu (fun q => hw (List.mem_append_left _ q)) he x hx hbx)
    · exact absurd (List.mem_append_right _ hu) hw
theorem RI.close {fnd wt : List Int} {h : Int} (r : RI ties bar s (some h) fnd wt) (hc : ∀ v ∈ nb ties h, bar ≠ some v → v ∈ fnd) : RI ties bar s none fnd wt :=
  ⟨r.nd, r.st, r.ok, r.sub, fun u hu hw _ v hv hb => by
    by_cases e : u = h
    · subst e; exact hc v hv hb
    · exact r.cl u hu hw (fun q => e (Option.some.inj q).symm) v hv hb, fun _ h => (nomatch h), r.wl⟩
theorem RI.done {fnd : List Int} (r : RI ties bar s none fnd []) : ∀ v, v ∈ fnd ↔ Rch ties bar s v := fun v => by
  refine ⟨r.ok v, fun h => ?_⟩
  induction h with
  | refl => exact r.st
  | step _ hv hb ih => exact r.cl _ ih (by simp) (fun q => nomatch q) _ hv hb
/-- bounded by a list that the neighbours stay in -/
theorem nodup_len : ∀ {l V : List Int}, l.Nodup → (∀ v ∈ l, v ∈ V) → l.length ≤ V.length
  | [], _, _, _ => Nat.zero_le _
  | a :: l, V, h, hs => by
    have ha : a ∈ V := hs a (by simp)
    obtain ⟨h1, h2⟩ := List.nodup_cons.mp h
    have : l.length ≤ (V.erase a).length := nodup_len h2 fun v hv => by
      have : v ≠ a := fun e => h1 (e ▸ hv)
      exact (List.mem_erase_of_ne this).mpr (hs v (by simp [hv]))
    rw [List.length_erase_of_mem ha] at this
    have := List.length_pos_of_mem ha
    rw [List.length_cons]
    omega
structure Shut (ties : List (Int × Int)) (V : List Int) : Prop where
  cl : ∀ u ∈ V, ∀ v ∈ nb ties u, v ∈ V
theorem Rch.inV {V : List Int} (hs : Shut ties V) (h0 : s ∈ V) {v : Int} (h : Rch ties bar s v) : v ∈ V := by
  induction h with
  | refl => exact h0
  | step _ hv _ ih => exact hs.cl _ ih _ hv
theorem RI.len {fnd wt : List Int} {ex : Option Int} {V : List Int} (r : RI ties bar s ex fnd wt) (hs : Shut ties V) (h0 : s ∈ V) : fnd.length ≤ V.length := nodup_len r.nd fun v hv => (r.ok v hv).inV hs h0
end MM

namespace S4
open PySem L2 TT MM
/-! ### rows as they are reasoned of -/
def vec (l : List Int) : Vc := fun x => l.getD x 0
def rowOf (rs : RG) (i : Nat) : List Int := ((rs.find? fun z => z.1 == i).map (·.2)).getD []
def rv (rs : RG) : Nat → Vc := fun i => vec (rowOf rs i)
theorem rowOf_mem : ∀ {rs : RG} {z : Nat × List Int}, (rs.map (·.1)).Nodup → z ∈ rs → rowOf rs z.1 = z.2
  | [], _, _, h => by cases h
  | y :: rs, z, nd, h => by
    obtain ⟨n1, n2⟩ := List.nodup_cons.mp nd
    unfold rowOf
    rw [List.find?_cons]
    by_cases e : y.1 = z.1
    · have hb : (y.1 == z.1) = true := beq_iff_eq.mpr e
      rw [hb]
      rcases List.mem_cons.mp h with q | q
      · rw [q]; rfl
      · exact absurd (List.mem_map.mpr ⟨z, q, e.symm⟩) n1
    · have hb : (y.1 == z.1) = false := beq_eq_false_iff_ne.mpr e
      rw [hb]
      rcases List.mem_cons.mp h with q | q
      · exact absurd (by rw [q]) e
      · exact rowOf_mem n2 q
theorem vec_over {l : List Int} {x : Nat} (h : l.length ≤ x) : vec l x = 0 := by
  unfold vec
  rw [List.getD_eq_getElem?_getD, List.getElem?_eq_none h]
  rfl
theorem vec_map {f : Nat → Int} {n x : Nat} (h : x < n) : vec ((List.range n).map f) x = f x := by
  unfold vec
  have : ((List.range n).map f)[x]? = some (f x) := by rw [List.getElem?_map, List.getElem?_range h]; rfl
  exact getD_at this
theorem lessL_vec {p : Int} {l r : List Int} (h : r.length = l.length) (m : Int) (x : Nat) : Cg p (vec (lessL p l r m) x) (vec l x - m * vec r x) := by
  by_cases hx : x < l.length
  · unfold lessL
    rw [vec_map hx]
    exact Cg.mod _
  · rw [vec_over (by rw [lessL_len]; omega), vec_over (by omega), vec_over (by omega), Int.mul_zero, Int.sub_zero]
    exact .refl _
theorem mulL_vec {p f : Int} {l : List Int} (x : Nat) : Cg p (vec (mulL p f l) x) (f * vec l x) := by
  by_cases hx : x < l.length
  · have h1 : l[x]? = some l[x] := List.getElem?_eq_getElem hx
    have h2 : (mulL p f l)[x]? = some (f * l[x] % p) := by unfold mulL; rw [List.getElem?_map, h1]; rfl
    unfold vec
    rw [getD_at h2, getD_at h1]
    exact Cg.mod _
  · rw [vec_over (by unfold mulL; rw [List.length_map]; omega), vec_over (by omega), Int.mul_zero]
    exact .refl _
theorem clr1_vec {p : Int} {l : List Int} {z : Nat × List Int} (h : z.2.length = l.length) (x : Nat) : Cg p (vec (clr1 p l z) x) (vec l x - vec l z.1 * vec z.2 x) := by
  unfold clr1
  split
  · rename_i h0
    have e : vec l z.1 = 0 := h0
    rw [e, Int.zero_mul, Int.sub_zero]
    exact .refl _
  · exact lessL_vec h _ x
section
variable {p : Int} {P : List Nat} {r : Nat → Vc}
/-- what clearing by some of the ladder's rows does -/
theorem clr_lad (L : Lad p P r) : ∀ (rs : RG) (l : List Int), (rs.map (·.1)).Nodup → (∀ z ∈ rs, z.1 ∈ P ∧ z.2.length = l.length ∧ ∀ x, r z.1 x = vec z.2 x) →
    Spn p (rungs P r) (fun x => vec l x - vec (clr p rs l) x) ∧ (∀ i ∈ P, i ∉ rs.map (·.1) → Cg p (vec (clr p rs l) i) (vec l i)) ∧ (∀ i ∈ rs.map (·.1), Cg p (vec (clr p rs l) i) 0)
  | [], l, _, _ => ⟨.zero fun x => .of_eq (by show vec l x - vec l x = 0; omega), fun i _ _ => .refl _, fun i h => by simp at h⟩
  | z :: rs, l, nd, hz => by
    obtain ⟨n1, n2⟩ := List.nodup_cons.mp nd
    obtain ⟨zP, zl, zr⟩ := hz z (by simp)
    have hs : ∀ x, Cg p (vec (clr1 p l z) x) (vec l x - vec l z.1 * r z.1 x) := fun x => by rw [zr]; exact clr1_vec zl x
    obtain ⟨a, b, c⟩ := clr_lad L rs (clr1 p l z) n2 fun y hy => by
      obtain ⟨y1, y2, y3⟩ := hz y (by simp [hy])
      exact ⟨y1, by rw [clr1_len]; exact y2, y3⟩
    have e : clr p (z :: rs) l = clr p rs (clr1 p l z) := rfl
    rw [e]
    have own : Cg p (vec (clr1 p l z) z.1) 0 := by
      have := (Cg.refl (p := p) (vec l z.1)).sub ((Cg.refl (p := p) (vec l z.1)).mul (L.one z.1 zP))
      rw [Int.mul_one, Int.sub_self] at this
      exact (hs z.1).trans this
    have oth : ∀ i ∈ P, i ≠ z.1 → Cg p (vec (clr1 p l z) i) (vec l i) := fun i hi hne => by
      have := (Cg.refl (p := p) (vec l i)).sub ((Cg.refl (p := p) (vec l z.1)).mul (L.off z.1 zP i hi hne))
      rw [Int.mul_zero, Int.sub_zero] at this
      exact (hs i).trans this
    refine ⟨.plus (vec l z.1) a (.row ⟨z.1, zP, rfl⟩) fun x => ?_, fun i hi hn => ?_, fun i hi => ?_⟩
    · have := (Cg.refl (p := p) (vec l x - vec (clr p rs (clr1 p l z)) x)).sub ((hs x).sub (Cg.refl (p := p) (vec l x - vec l z.1 * r z.1 x)))
      have h2 := hs x
      have h3 : Cg p (vec l x - vec (clr p rs (clr1 p l z)) x) (vec (clr1 p l z) x + vec l z.1 * r z.1 x - vec (clr p rs (clr1 p l z)) x) := by
        have h4 := (h2.symm.add (Cg.refl (p := p) (vec l z.1 * r z.1 x))).sub (Cg.refl (p := p) (vec (clr p rs (clr1 p l z)) x))
        refine (Cg.of_eq ?_).trans h4
        omega
      refine h3.trans (.of_eq ?_)
      omega
    · have hne : i ≠ z.1 := fun q => hn (by rw [q]; simp)
      have hn' : i ∉ rs.map (·.1) := fun q => hn (by simp only [List.map_cons, List.mem_cons]; exact .inr q)
      exact (b i hi hn').trans (oth i hi hne)
    · rcases List.mem_cons.mp (by simpa only [List.map_cons] using hi) with q | q
      · rw [q]
        exact (b z.1 zP n1).trans own
      · exact c i q
end
/-- the state of the going: right rows, a ladder, the room of the rows so far -/
structure St1 (p : Int) (wd : Nat) (rs : RG) (rows : List (List Int)) : Prop where
  lad : Lad p (rs.map (·.1)) (rv rs)
  ok : ∀ z ∈ rs, z.1 < wd ∧ z.2.length = wd ∧ InB p z.2
  room : Same2 p (rungs (rs.map (·.1)) (rv rs)) (fun v => ∃ l ∈ rows, v = vec l)
theorem St1.nil (p : Int) (wd : Nat) : St1 p wd [] [] := ⟨Lad.nil p _, fun z h => (nomatch h), same2_of (fun v h => by obtain ⟨i, hi, _⟩ := h; cases hi) (fun v h => by obtain ⟨i, hi, _⟩ := h; cases hi)⟩
theorem St1.len {p : Int} {wd : Nat} {rs : RG} {rows : List (List Int)} (S : St1 p wd rs rows) : rs.length ≤ wd := by
  have h : ∀ (P : List Nat) (n : Nat), P.Nodup → (∀ i ∈ P, i < n) → P.length ≤ n := fun P n nd hb => by
    have := nodup_len (l := P.map fun (i : Nat) => (i : Int)) (V := (List.range n).map fun (i : Nat) => (i : Int)) (by
      rw [List.nodup_iff_pairwise_ne, List.pairwise_map]
      exact (List.nodup_iff_pairwise_ne.mp nd).imp fun {a b} h e => h (by omega)) (fun v hv => by
      obtain ⟨i, hi, rfl⟩ := List.mem_map.mp hv
      exact List.mem_map.mpr ⟨i, List.mem_range.mpr (hb i hi), rfl⟩)
    rw [List.length_map, List.length_map, List.length_range] at this
    exact this
  have := h (rs.map (·.1)) wd S.lad.nd fun i hi => by
    obtain ⟨z, hz, rfl⟩ := List.mem_map.mp hi
    exact (S.ok z hz).1
  rw [List.length_map] at this
  exact this
section
variable {p : Int} {wd : Nat} {rs : RG} {rows : List (List Int)} {row : List Int}
theorem St1.clear (S : St1 p wd rs rows) (hl : row.length = wd) : Spn p (rungs (rs.map (·.1)) (rv rs)) (fun x => vec row x - vec (clr p rs row) x) ∧ ∀ i ∈ rs.map (·.1), Cg p (vec (clr p rs row) i) 0 := by
  obtain ⟨a, _, c⟩ := clr_lad S.lad rs row S.lad.nd fun z hz => ⟨List.mem_map.mpr ⟨z, hz, rfl⟩, by rw [(S.ok z hz).2.1, hl], fun x => by unfold rv; rw [rowOf_mem S.lad.nd hz]⟩
  exact ⟨a, c⟩
/-- a row that is in the room -/
theorem St1.skip (S : St1 p wd rs rows) (hl : row.length = wd) (hz : ∀ x, x < wd → (clr p rs row).getD x 0 = 0) : St1 p wd rs (rows ++ [row]) := by
  obtain ⟨a, _⟩ := S.clear hl
  refine ⟨S.lad, S.ok, ?_⟩
  have hin : Spn p (fun v => ∃ l ∈ rows, v = vec l) (vec row) := by
    refine (S.room _).mp (a.cg fun x => ?_)
    have e : vec (clr p rs row) x = 0 := by
      by_cases hx : x < wd
      · exact hz x hx
      · exact vec_over (by rw [clr_len]; omega)
    rw [e, Int.sub_zero]
    exact .refl _
  refine (same2_in S.room hin).trans (same2_of (fun v h => ?_) (fun v h => ?_))
  · rcases h with ⟨l, h1, rfl⟩ | rfl
    · exact .row ⟨l, by simp [h1], rfl⟩
    · exact .row ⟨row, by simp, rfl⟩
  · obtain ⟨l, h1, rfl⟩ := h
    rcases List.mem_append.mp h1 with h1 | h1
    · exact .row (.inl ⟨l, h1, rfl⟩)
    · rw [List.mem_singleton.mp h1]
      exact .row (.inr rfl)
/-- a row that is not -/
def putIn (p : Int) (rs : RG) (k : Nat) (g : List Int) : RG := rs.map (fun z => (z.1, clr p [(k, g)] z.2)) ++ [(k, g)]
theorem putIn_keys (p : Int) (rs : RG) (k : Nat) (g : List Int) : (putIn p rs k g).map (·.1) = rs.map (·.1) ++ [k] := by
  unfold putIn
  rw [List.map_append, List.map_map]
  rfl
theorem St1.put (S : St1 p wd rs rows) (p2 : 2 ≤ p) (hl : row.length = wd) (hin : InB p row) {k : Nat} {u : Int} (hk : k < wd) (h0 : (clr p rs row).getD k 0 ≠ 0) (hz : ∀ x, x < k → (clr p rs row).getD x 0 = 0)
    (hu : Cg p (u * (clr p rs row).getD k 0) 1) : St1 p wd (putIn p rs k (mulL p u (clr p rs row))) (rows ++ [row]) := by
  obtain ⟨a, c⟩ := S.clear hl
  generalize hr : clr p rs row = rest at *
  have hrl : rest.length = wd := by rw [← hr, clr_len]; exact hl
  have hri : InB p rest := by rw [← hr]; exact clr_in (by omega) rs hin
  have hgl : (mulL p u rest).length = wd := by unfold mulL; rw [List.length_map]; exact hrl
  have hgi : InB p (mulL p u rest) := fun x hx => by
    obtain ⟨y, _, rfl⟩ := List.mem_map.mp hx
    exact mod_b (by omega)
  have kP : k ∉ rs.map (·.1) := fun q => by
    have := c k q
    have b := getD_in (by omega) hri k
    exact h0 (this.zero_of b.1 b.2)
  have g1 : Cg p (vec (mulL p u rest) k) 1 := (mulL_vec k).trans hu
  have g0 : ∀ i ∈ rs.map (·.1), Cg p (vec (mulL p u rest) i) 0 := fun i hi => by
    have := (Cg.refl (p := p) u).mul (c i hi)
    rw [Int.mul_zero] at this
    exact (mulL_vec i).trans this
  have gl : ∀ x, x < k → Cg p (vec (mulL p u rest) x) 0 := fun x hx => by
    have := (Cg.refl (p := p) u).mul (Cg.of_eq (p := p) (hz x hx))
    rw [Int.mul_zero] at this
    exact (mulL_vec x).trans this
  have nd : ((putIn p rs k (mulL p u rest)).map (·.1)).Nodup := by
    rw [putIn_keys, List.nodup_append]
    exact ⟨S.lad.nd, by simp, fun a ha b hb e => kP (by rw [← List.mem_singleton.mp hb, ← e]; exact ha)⟩
  have hq : ∀ x, Cg p (rv (putIn p rs k (mulL p u rest)) k x) (vec (mulL p u rest) x) := fun x => by
    unfold rv
    rw [rowOf_mem (z := (k, mulL p u rest)) nd (by unfold putIn; simp)]
    exact .refl _
  have ho : ∀ i ∈ rs.map (·.1), ∀ x, Cg p (rv (putIn p rs k (mulL p u rest)) i x) (rv rs i x - rv rs i k * vec (mulL p u rest) x) := fun i hi x => by
    obtain ⟨z, hz1, rfl⟩ := List.mem_map.mp hi
    unfold rv
    rw [rowOf_mem (z := (z.1, clr p [(k, mulL p u rest)] z.2)) nd (by unfold putIn; exact List.mem_append_left _ (List.mem_map.mpr ⟨z, hz1, rfl⟩)), rowOf_mem S.lad.nd hz1]
    exact clr1_vec (z := (k, mulL p u rest)) (by rw [(S.ok z hz1).2.1]; exact hgl) x
  refine ⟨?_, fun z hz2 => ?_, ?_⟩
  · rw [putIn_keys]
    exact S.lad.more kP g1 g0 gl hq ho
  · rcases List.mem_append.mp hz2 with h | h
    · obtain ⟨y, hy, rfl⟩ := List.mem_map.mp h
      obtain ⟨b1, b2, b3⟩ := S.ok y hy
      exact ⟨b1, by show (clr p _ y.2).length = wd; rw [clr_len]; exact b2, clr_in (by omega) _ b3⟩
    · rw [List.mem_singleton.mp h]
      exact ⟨hk, hgl, hgi⟩
  · rw [putIn_keys]
    refine (S.lad.moreSpan hq ho).trans ?_
    have m := same2_more (g := vec (mulL p u rest)) (row := vec row) (rest := vec rest) (c := u) (d := rest.getD k 0) S.room ((S.room _).mp a) (fun x => mulL_vec x) fun x => ?_
    · refine m.trans (same2_of (fun v h => ?_) (fun v h => ?_))
      · rcases h with ⟨l, h1, rfl⟩ | rfl
        · exact .row ⟨l, by simp [h1], rfl⟩
        · exact .row ⟨row, by simp, rfl⟩
      · obtain ⟨l, h1, rfl⟩ := h
        rcases List.mem_append.mp h1 with h1 | h1
        · exact .row (.inl ⟨l, h1, rfl⟩)
        · rw [List.mem_singleton.mp h1]
          exact .row (.inr rfl)
    · have h1 := (Cg.refl (p := p) (rest.getD k 0)).mul (mulL_vec (p := p) (f := u) (l := rest) x)
      have h2 := hu.mul (Cg.refl (p := p) (vec rest x))
      rw [Int.one_mul] at h2
      refine (h1.trans ((Cg.of_eq ?_).trans h2)).symm
      rw [← Int.mul_assoc, Int.mul_comm (rest.getD k 0) u]
end
/-- the ladders of two lots of rows that span the same are the same -/
theorem St1.only {p : Int} {wd : Nat} {rs rs' : RG} {rows rows' : List (List Int)} (S : St1 p wd rs rows) (S' : St1 p wd rs' rows') (p2 : 2 ≤ p) (h : Same2 p (fun v => ∃ l ∈ rows, v = vec l) (fun v => ∃ l ∈ rows', v = vec l)) :
    (∀ i, i ∈ rs.map (·.1) ↔ i ∈ rs'.map (·.1)) ∧ ∀ z ∈ rs, z ∈ rs' := by
  have hs := (S.room.trans h).trans S'.room.symm
  have pl : ∀ i, i ∈ rs.map (·.1) ↔ i ∈ rs'.map (·.1) := fun i => ⟨S.lad.places S'.lad p2 hs, S'.lad.places S.lad p2 hs.symm⟩
  refine ⟨pl, fun z hz => ?_⟩
  have hi : z.1 ∈ rs.map (·.1) := List.mem_map.mpr ⟨z, hz, rfl⟩
  obtain ⟨y, hy, e⟩ := List.mem_map.mp ((pl z.1).mp hi)
  obtain ⟨a1, a2, a3⟩ := S.ok z hz
  obtain ⟨b1, b2, b3⟩ := S'.ok y hy
  have e2 : z.2 = y.2 := by
    apply List.ext_getElem (by rw [a2, b2])
    intro x h1 h2
    have := S.lad.rows S'.lad p2 hs hi x
    unfold rv at this
    have e0 : rowOf rs' z.1 = y.2 := by rw [← e]; exact rowOf_mem S'.lad.nd hy
    rw [rowOf_mem S.lad.nd hz, e0] at this
    have c1 := getD_in (by omega) a3 x
    have c2 := getD_in (by omega) b3 x
    have := this.eq c1.1 c1.2 c2.1 c2.2
    unfold vec at this
    rw [getD_at (List.getElem?_eq_getElem h1), getD_at (List.getElem?_eq_getElem h2)] at this
    exact this
  have : z = y := Prod.ext e.symm e2
  rw [this]
  exact hy
end S4

namespace S4
open PySem L2 TT MM
/-! ### either a list or a tuple -/
theorem pi_or {X : Cx} {tg e : Expr} {w1 w2 : TI} (h1 : PI X tg e w1) (h2 : PI X tg e w2) : PI X tg e (fun σ H R => w1 σ H R ∨ w2 σ H R) := ⟨fun pins s σ H R I h => h.elim (h1.run pins s σ H R I) (h2.run pins s σ H R I)⟩
/-- the items of a list or a tuple -/
def SqS (K : PySem.W.Frag) (H : Hp) (a : Addr) (xs : List V) : Prop := H a = some (.lst xs) ∨ H a = some (.tup xs)
theorem SqS.same {K : PySem.W.Frag} {H H' : Hp} {a : Addr} {xs : List V} (h : SqS K H a xs) (s : Same H H') : SqS K H' a xs := h.elim (fun h => .inl (s _ _ h)) (fun h => .inr (s _ _ h))
theorem val_none : ∀ {kvs : List (L2.Key × V)} {rs : RG} {H : Hp} {k : Nat}, Paired (kvR H) kvs rs → k ∉ rs.map (·.1) → valV kvs (Sum.inl ((k : Nat) : Int)) = none
  | _, _, _, _, .nil, _ => rfl
  | (k0, v0) :: kvs, z :: rs, H, k, .cons r t, hn => by
    have hne : ¬ k0 = Sum.inl ((k : Nat) : Int) := fun e => by
      have e1 := r.1
      simp only at e1
      rw [e] at e1
      have e2 := Sum.inl.inj e1
      have e3 : k = z.1 := by omega
      exact hn (by rw [e3]; simp)
    rw [valV_neg hne]
    exact val_none t fun q => hn (by simp only [List.map_cons, List.mem_cons]; exact .inr q)
theorem put_map {kvs : List (L2.Key × V)} {rs : RG} {H : Hp} {k : Nat} {v : V} {g : List Int} (h : Paired (kvR H) kvs rs) (hv : rRow H v g) (hk : k ∈ rs.map (·.1)) :
    Paired (kvR H) (putK kvs (Sum.inl ((k : Nat) : Int)) v) (rs.map fun z => if z.1 = k then (z.1, g) else z) := by
  have hm : ∀ {kvs : List (L2.Key × V)} {rs : RG}, Paired (kvR H) kvs rs → Paired (kvR H) (kvs.map fun kv => if kv.1 = Sum.inl ((k : Nat) : Int) then (kv.1, v) else kv) (rs.map fun z => if z.1 = k then (z.1, g) else z) := by
    intro kvs rs h
    induction h with
    | nil => exact .nil
    | @cons kv z kvs rs r t ih =>
      rw [List.map_cons, List.map_cons]
      refine .cons ?_ ih
      have e1 := r.1
      by_cases e : z.1 = k
      · rw [if_pos e, if_pos (by rw [e1, e])]
        exact ⟨e1, hv⟩
      · rw [if_neg e, if_neg (fun q => e (by rw [e1] at q; have := Sum.inl.inj q; omega))]
        exact r
  unfold putK
  rw [if_pos ?_]
  · exact hm h
  · obtain ⟨z, hz, e⟩ := List.mem_map.mp hk
    obtain ⟨i, hi⟩ := List.getElem?_of_mem hz
    obtain ⟨kv, hkv, r⟩ := paired_get2 h hi
    rw [List.any_eq_true]
    refine ⟨kv, List.mem_of_getElem? hkv, decide_eq_true ?_⟩
    rw [r.1, e]
/-- those of the first have been cleared -/
def part (p : Int) (k : Nat) (g : List Int) (D : List Nat) (rs : RG) : RG := rs.map fun z => if z.1 ∈ D then (z.1, clr p [(k, g)] z.2) else z
theorem part_keys (p : Int) (k : Nat) (g : List Int) (D : List Nat) (rs : RG) : (part p k g D rs).map (·.1) = rs.map (·.1) := by
  unfold part
  rw [List.map_map]
  refine List.map_congr_left fun z _ => ?_
  show (if z.1 ∈ D then (z.1, clr p [(k, g)] z.2) else z).1 = z.1
  split <;> rfl
theorem part_nil (p : Int) (k : Nat) (g : List Int) (rs : RG) : part p k g [] rs = rs := by
  unfold part
  have : (fun z : Nat × List Int => if z.1 ∈ ([] : List Nat) then (z.1, clr p [(k, g)] z.2) else z) = id := by
    funext z
    rw [if_neg (by simp)]
    rfl
  rw [this, List.map_id]
theorem part_all (p : Int) (k : Nat) (g : List Int) (rs : RG) : part p k g (rs.map (·.1)) rs ++ [(k, g)] = putIn p rs k g := by
  unfold part putIn
  congr 1
  refine List.map_congr_left fun z hz => ?_
  rw [if_pos (List.mem_map.mpr ⟨z, hz, rfl⟩)]
theorem part_step {p : Int} {k : Nat} {g : List Int} {D : List Nat} {rs : RG} (nd : (rs.map (·.1)).Nodup) {z : Nat × List Int} (hz : z ∈ rs) :
    (part p k g D rs).map (fun y => if y.1 = z.1 then (y.1, clr p [(k, g)] z.2) else y) = part p k g (D ++ [z.1]) rs := by
  unfold part
  rw [List.map_map]
  refine List.map_congr_left fun y hy => ?_
  have same : y.1 = z.1 → y.2 = z.2 := fun e => by
    have h1 := rowOf_mem nd hy
    have h2 := rowOf_mem nd hz
    rw [e] at h1
    rw [← h1, ← h2]
  have pe : (if y.1 ∈ D then (y.1, clr p [(k, g)] y.2) else y).1 = y.1 := by split <;> rfl
  show (if (if y.1 ∈ D then (y.1, clr p [(k, g)] y.2) else y).1 = z.1 then ((if y.1 ∈ D then (y.1, clr p [(k, g)] y.2) else y).1, clr p [(k, g)] z.2) else (if y.1 ∈ D then (y.1, clr p [(k, g)] y.2) else y)) = _
  rw [pe]
  by_cases e : y.1 = z.1
  · rw [if_pos e, if_pos (by rw [e]; simp), same e]
  · rw [if_neg e]
    by_cases hD : y.1 ∈ D
    · rw [if_pos hD, if_pos (List.mem_append_left _ hD)]
    · rw [if_neg hD, if_neg (fun q => (List.mem_append.mp q).elim hD fun q => e (List.mem_singleton.mp q))]
structure RGS (H0 : Hp) (dr nw : Addr) (rs : RG) (i : Nat) (H : Hp) : Prop where
  same : Same H0 H
  d0 : H0 dr = none
  n0 : H0 nw = none
  ne : dr ≠ nw
  dict : ∃ kvs, H dr = some (.dK kvs) ∧ Paired (kvR H) kvs rs
  news : ∃ ns : List Int, H nw = some (.lst (ns.map V.int)) ∧ ns.length ≤ i
theorem RGS.more {H0 : Hp} {dr nw : Addr} {rs : RG} {i : Nat} {H H' : Hp} (R : RGS H0 dr nw rs i H) (s : Same H H') : RGS H0 dr nw rs i H' :=
  ⟨R.same.trans s, R.d0, R.n0, R.ne, let ⟨kvs, a, b⟩ := R.dict; ⟨kvs, s _ _ a, kvR_mono (fun _ _ h => s _ _ h) b⟩, let ⟨ns, a, b⟩ := R.news; ⟨ns, s _ _ a, b⟩⟩
theorem RGS.setD {H0 : Hp} {dr nw : Addr} {rs rs' : RG} {i : Nat} {H : Hp} (R : RGS H0 dr nw rs i H) {kvs : List (L2.Key × V)} (h : Paired (kvR H) kvs rs') : RGS H0 dr nw rs' i (upd H dr (.dK kvs)) := by
  obtain ⟨kv0, a, b⟩ := R.dict
  obtain ⟨ns, c, e⟩ := R.news
  exact ⟨same_own R.same R.d0, R.d0, R.n0, R.ne, ⟨kvs, upd_same, kvR_mono (fun t xs h => by rw [upd_ne (ne_of h a (fun z => nomatch z))]; exact h) h⟩, ⟨ns, by rw [upd_ne R.ne.symm]; exact c, e⟩⟩
section
variable {P : Program} {w : World} {K : PySem.W.Frag} {mg : Str → Option Value} {base : Heap} {cT cS : Addr}
def spRungs : Sp := fun vs H Q _ => ∃ (a : Addr) (p : Int) (wd : Nat) (xs : List V) (rws : List (List Int)), vs = [.int p, .int (wd : Int), .ref a] ∧ SqS K H a xs ∧ Paired (rRow H) xs rws ∧ rws.length ≤ 1000 ∧ Prm p ∧ p ≤ 1000000 ∧ wd ≤ 1000 ∧ (∀ r ∈ rws, isRow r p wd) ∧
  ∀ H' t dr nw rs, Same H H' → H' t = some (.tup [.ref dr, .ref nw]) → H dr = none → (∃ kvs, H' dr = some (.dK kvs) ∧ Paired (kvR H') kvs rs) → St1 p wd rs rws → rs.length ≤ rws.length → Q (.ref t) H'
theorem ok_rungs (T : Tx K mg cT cS) {f : Addr} {fd : FuncData} (d : D K mg "rungs_of" s_rungs_of ["p", "wide", "rows"] f fd) : FnOk P w K mg base CX0 2 f fd ["p", "wide", "rows"] (spRungs (K := K)) := by
  obtain ⟨f1, fd1, d1⟩ := T.d_cleared
  have G1 : FnOk P w K mg base CX0 1 f1 fd1 ["p", "rungs", "row"] spCleared := ok_cleared T d1
  obtain ⟨f2, fd2, d2⟩ := T.d_first_place
  have G2 : FnOk P w K mg base CX0 1 f2 fd2 ["row", "wide"] spFirst := ok_first T d2
  obtain ⟨f3, fd3, d3⟩ := T.d_multiplied
  have G3 : FnOk P w K mg base CX0 1 f3 fd3 ["p", "factor", "row"] spMult := ok_mult T d3
  obtain ⟨f4, fd4, d4⟩ := T.d_inverse
  have G4 : FnOk P w K mg base CX0 1 f4 fd4 ["p", "value"] spInverse := ok_inverse T d4
  refine d.F.ok sc_rungs_of (fun vs H Q E h => ?_) (fun cdv A outer s H vs Q E hr h => ?_)
  · obtain ⟨a, p, wd, xs, rws, rfl, _⟩ := h
    rfl
  · obtain ⟨a, p, wd, xs, rws, rfl, hS, hp, hl, prm, pm, hwd, hrw, q⟩ := h
    have p2 := prm.1
    have hlen := paired_len hp
    refine ⟨_, pss_cons (ps_set (i := 3) sc_rungs_of.nd rfl (.inl rfl) pe_dnewK)
      (pss_cons (ps_set (i := 4) sc_rungs_of.nd rfl (.inl rfl) (pe_lst pa_nil))
      (pss_cons (ps_for PassesOwn.never rfl (pi_or (pi_enum (by rfl) T.b_enumerate (pa_cons (pv 2) pa_nil)) (pi_enumT (by rfl) T.b_enumerate (pa_cons (pv 2) pa_nil))) (pg_tup rfl (pgs_cons (pg_name (i := 5) sc_rungs_of.nd rfl (.inl rfl)) (pgs_cons (pg_name (i := 6) sc_rungs_of.nd rfl (.inl rfl)) pgs_nil)))
        (pss_cons (ps_set (i := 7) sc_rungs_of.nd rfl (.inl rfl) (pe_call G1 hr rfl d1.m d1.F.kp d1.b .nil pass0 (pa_cons (pv 0) (pa_cons (pv 3) (pa_cons (pv 6) pa_nil)))))
        (pss_cons (ps_set (i := 8) sc_rungs_of.nd rfl (.inl rfl) (pe_call G2 hr rfl d2.m d2.F.kp d2.b .nil pass0 (pa_cons (pv 7) (pa_cons (pv 1) pa_nil))))
        (pss_cons (ps_if (pt_cmp (pc_isN (pv 8))) (pss_one ps_continue) pss_nil)
        (pss_cons (ps_set (i := 9) sc_rungs_of.nd rfl (.inl rfl) (pe_call G3 hr rfl d3.m d3.F.kp d3.b .nil pass0 (pa_cons (pv 0) (pa_cons (pe_call G4 hr rfl d4.m d4.F.kp d4.b .nil pass0 (pa_cons (pv 0) (pa_cons (pe_ix ix_tup (pv 7) (pv 8) (fun _ _ => rfl)) pa_nil))) (pa_cons (pv 7) pa_nil)))))
        (pss_cons (ps_for PassesOwn.never rfl (pi_list (pe_callTy (call_listD rfl) (by rfl) T.b_list (by decide +kernel) (pa_cons (pv 3) pa_nil))) (pg_name (i := 10) sc_rungs_of.nd rfl (Or.inl rfl))
          (pss_one (ps_dput (hu_of hr) (pv 3) (pv 10) (pe_call G1 hr rfl d1.m d1.F.kp d1.b .nil pass0 (pa_cons (pv 0) (pa_cons (pe_disp (pps_cons (pv 8) (pv 9) pps_nil) (by rfl) (by rfl) (fun z => by cases z) (by decide)) (pa_cons (pe_dget (hu_of hr) (pv 3) (pv 10) (fun _ _ => rfl)) pa_nil)))) rfl)))
        (pss_cons (ps_dput (hu_of hr) (pv 3) (pv 8) (pv 9) rfl)
        (pss_one (ps_expr (pe_bm PySem.F.plainAttrs_list PySem.F.slot_list_append PySem.F.type_list_append mt_append (pv 4) (pa_cons (pv 5) pa_nil)))))))))))
      (pss_one (ps_ret (pe_tup (pa_cons (pv 3) (pa_cons (pv 4) pa_nil))))))), ?_⟩
    intro dr hdr
    dsimp only [gName, tSeq]
    refine ⟨by show 0 ≤ sizeLine; decide, fun nw hnw => ?_⟩
    have hne : dr ≠ nw := fun e => by subst e; rw [upd_same] at hnw; cases hnw
    have s1 := same_new (o := .dK []) hdr
    have s2 := same_new (o := .lst []) hnw
    have R0 : RGS H dr nw [] 0 (upd (upd H dr (.dK [])) nw (.lst [])) := ⟨s1.trans s2, hdr, s1.free hnw, hne, ⟨[], s2 _ _ upd_same, .nil⟩, ⟨[], upd_same, Nat.le_refl _⟩⟩
    dsimp only [gName, tSeq]
    have P0 : ∃ rs x5 x6 x7 x8 x9 x10, [some (V.int p), some (V.int (wd : Int)), some (V.ref a), some (V.ref dr), some (V.ref nw), none, none, none, none, none, none] = [some (V.int p), some (V.int (wd : Int)), some (V.ref a), some (V.ref dr), some (V.ref nw), x5, x6, x7, x8, x9, x10] ∧ RGS H dr nw rs 0 (upd (upd H dr (.dK [])) nw (.lst [])) ∧ St1 p wd rs (rws.take 0) ∧ rs.length ≤ 0 :=
      ⟨[], none, none, none, none, none, none, rfl, R0, by rw [List.take_zero]; exact St1.nil p wd, Nat.le_refl _⟩
    apply twice
    · intro hs
      apply twice
      · intro hd
        rcases hS with h | h
        · exact .inl ⟨_, rfl, a, xs, rfl, .of ((s1.trans s2) _ _ h), for_it (walk_enum (xs := xs)) (fun i σ H' => ∃ rs x5 x6 x7 x8 x9 x10, σ = [some (.int p), some (.int (wd : Int)), some (.ref a), some (.ref dr), some (.ref nw), x5, x6, x7, x8, x9, x10] ∧ RGS H dr nw rs i H' ∧ St1 p wd rs (rws.take i) ∧ rs.length ≤ i) P0 (fun i σ H' _ q => .of (let ⟨_, _, _, _, _, _, _, _, R, _, _⟩ := q; R.same _ _ h)) hs hd⟩
        · exact .inr ⟨_, rfl, a, xs, rfl, .of ((s1.trans s2) _ _ h), for_it (walk_enumT (xs := xs)) (fun i σ H' => ∃ rs x5 x6 x7 x8 x9 x10, σ = [some (.int p), some (.int (wd : Int)), some (.ref a), some (.ref dr), some (.ref nw), x5, x6, x7, x8, x9, x10] ∧ RGS H dr nw rs i H' ∧ St1 p wd rs (rws.take i) ∧ rs.length ≤ i) P0 (fun i σ H' _ q => .of (let ⟨_, _, _, _, _, _, _, _, R, _, _⟩ := q; R.same _ _ h)) hs hd⟩
      · rintro σ H2 ⟨rs, x5, x6, x7, x8, x9, x10, rfl, R, S, cnt⟩
        rw [hlen, List.take_length] at S
        refine ⟨_, rfl, _, rfl, by show 2 ≤ sizeLine; decide, fun t nt => ?_⟩
        have s3 := same_new (o := .tup [V.ref dr, V.ref nw]) nt
        obtain ⟨kvs, hk1, hk2⟩ := R.dict
        exact q _ t dr nw rs (R.same.trans s3) upd_same hdr ⟨kvs, s3 _ _ hk1, kvR_mono (fun _ _ h => s3 _ _ h) hk2⟩ S (by omega)
    · rintro i x σ H2 H3 hi ⟨rs, x5, x6, x7, x8, x9, x10, rfl, R2, S, cnt⟩ ⟨tz, u1, u2, rfl, nz, rfl, e1, e2⟩
      cases (Option.some.inj e1)
      have s3 := same_new (o := .tup [V.int (i : Nat), u2]) nz
      have R := R2.more s3
      obtain ⟨row, hrow, hrr⟩ := paired_get (paired_mono mono_row (R.same).keep hp) e2
      have hir := hrw row (List.mem_of_getElem? hrow)
      have hrl : row.length = wd := by have := hir.1; omega
      have etake : rws.take (i + 1) = rws.take i ++ [row] := by rw [List.take_succ, hrow]; rfl
      have hrsl := S.len
      refine ⟨tz, _, rfl, .of upd_same, rfl, _, _, rfl, _, _, rfl, rfl, ?_⟩
      obtain ⟨kvs, hk1, hk2⟩ := R.dict
      refine ⟨_, rfl, _, rfl, _, rfl, dr, .dK kvs, u2, row, rs, p, rfl, hk1, ⟨kvs, rfl, hk2⟩, S.lad.nd, hrr, by omega, pm, hir.2, by omega, by omega, fun z hz => by have := S.ok z hz; exact ⟨by omega, by omega⟩, fun H4 v4 s4 hv4 => ?_⟩
      dsimp only [gName, tSeq]
      have cl := clr_len p rs row
      refine ⟨_, rfl, _, rfl, v4, clr p rs row, wd, rfl, hv4, by omega, by omega, fun hz => ?_, fun k hk h0 hz => ?_⟩
      · dsimp only [gName, tSeq]
        refine ⟨_, rfl, _, rfl, ?_⟩
        have R4 := R.more s4
        rw [decide_eq_true rfl]
        refine iteT ⟨rs, _, _, _, _, _, _, rfl, ⟨R4.same, R4.d0, R4.n0, R4.ne, R4.dict, let ⟨ns, a, b⟩ := R4.news; ⟨ns, a, by omega⟩⟩, ?_, by omega⟩
        rw [etake]
        exact S.skip hrl hz
      · dsimp only [gName, tSeq]
        refine ⟨_, rfl, _, rfl, ?_⟩
        rw [decide_eq_false (fun e => nomatch e)]
        refine iteF ?_
        have p0 : 0 < p := by omega
        have hri := clr_in p0 rs hir.2
        have hb := getD_in p0 hri k
        have hkk : (clr p rs row)[k]? = some ((clr p rs row)[k]'(by omega)) := List.getElem?_eq_getElem (by omega)
        have hkg := getD_at (d := (0 : Int)) hkk
        obtain ⟨t4, rfl, ht4⟩ := hv4
        refine ⟨_, rfl, _, rfl, _, rfl, _, rfl, t4, _, _, _, rfl, rfl, .of ht4, atI_nat (int_at hkk), ?_⟩
        rw [← hkg]
        refine ⟨p, _, rfl, pm, by omega, by omega, prm.gcd (by omega) (by omega), fun u u0 u1 hu H5 s5 => ?_⟩
        refine ⟨_, rfl, .ref t4, clr p rs row, p, u, rfl, ⟨t4, rfl, s5.keep.tup ht4⟩, p0, ⟨by omega, by omega⟩, by omega, fun H6 v6 s6 hv6 => ?_⟩
        have s46 := (s4.trans s5).trans s6
        have R6 := R.more s46
        have St := S.put (u := u) p2 hrl hir.2 hk h0 hz hu
        generalize hg : mulL p u (clr p rs row) = g at hv6 St
        have hgl : g.length = wd := by rw [← hg]; unfold mulL; rw [List.length_map]; omega
        have hgi : InB p g := by
          rw [← hg]
          intro x hx
          obtain ⟨y, _, rfl⟩ := List.mem_map.mp hx
          exact mod_b p0
        have kP : k ∉ rs.map (·.1) := by
          have := St.lad.nd
          rw [putIn_keys, List.nodup_append] at this
          exact fun q => this.2.2 k q k (by simp) rfl
        dsimp only [gName, tSeq]
        have hk6 := s46 _ _ hk1
        have hk26 := kvR_mono (H' := H6) (fun _ _ h => s46 _ _ h) hk2
        have hkl := paired_len hk26
        refine ⟨_, rfl, dr, kvs, rfl, .inl hk6, fun lk nlk => ⟨lk, rfl, ⟨_, .of upd_same⟩, ?_⟩⟩
        have s7 := same_new (o := .lst (kvs.map fun kv => kV kv.1)) nlk
        have ldr : lk ≠ dr := fun e => by subst e; rw [hk6] at nlk; cases nlk
        refine for_it (walk_list (xs := kvs.map fun kv => kV kv.1)) (fun j σ H' => ∃ x10, σ = [some (.int p), some (.int (wd : Int)), some (.ref a), some (.ref dr), some (.ref nw), some (.int (i : Nat)), some u2, some (.ref t4), some (.int (k : Nat)), some v6, x10] ∧
          RGS H dr nw (part p k g ((rs.take j).map (·.1)) rs) i H' ∧ rRow H' v6 g ∧ H' lk = some (.lst (kvs.map fun kv => kV kv.1)))
          ⟨x10, rfl, by rw [List.take_zero, List.map_nil, part_nil]; exact R6.more s7, mono_row _ _ _ _ s7.keep hv6, upd_same⟩ (fun j σ H' _ ⟨_, _, _, _, h⟩ => .of h) ?_ ?_
        · rintro j x σ H8 H9 hj ⟨y10, rfl, RJ, hv8, hl8⟩ ⟨rfl, hx⟩
          rw [List.getElem?_map] at hx
          rw [List.length_map] at hj
          have hkj : kvs[j]? = some (kvs[j]'hj) := List.getElem?_eq_getElem hj
          rw [hkj] at hx
          have hx := (Option.some.inj hx).symm
          obtain ⟨z, hz1, ze, _⟩ := paired_get hk26 hkj
          have hx2 : x = V.int ((z.1 : Nat) : Int) := by rw [hx]; show kV kvs[j].1 = _; rw [ze]; rfl
          subst hx2
          have zm := List.mem_of_getElem? hz1
          obtain ⟨z1, z2, z3⟩ := S.ok z zm
          have hnd : z.1 ∉ (rs.take j).map (·.1) := by
            have nd := S.lad.nd
            have e : rs = rs.take j ++ rs.drop j := (List.take_append_drop j rs).symm
            have hlt : j < rs.length := (List.getElem?_eq_some_iff.mp hz1).1
            have hz2 : rs[j] = z := (List.getElem?_eq_some_iff.mp hz1).2
            rw [e, List.map_append, List.nodup_append] at nd
            intro q
            refine nd.2.2 z.1 q z.1 ?_ rfl
            rw [List.drop_eq_getElem_cons hlt, hz2]
            simp
          obtain ⟨kJ, hJ1, hJ2⟩ := RJ.dict
          have hpj : (part p k g ((rs.take j).map (·.1)) rs)[j]? = some z := by
            unfold part
            rw [List.getElem?_map, hz1]
            show some (if z.1 ∈ _ then _ else z) = some z
            rw [if_neg hnd]
          obtain ⟨kv, hkv, ke, hvv⟩ := paired_get2 hJ2 hpj
          obtain ⟨kk, vv⟩ := kv
          simp only at ke hvv
          subst ke
          have hval := val_at hJ2 (by rw [part_keys]; exact S.lad.nd) hkv
          have hJl := paired_len hJ2
          have hpl : (part p k g ((rs.take j).map (·.1)) rs).length = rs.length := by unfold part; rw [List.length_map]
          refine ⟨_, rfl, fun qd nqd => ⟨_, rfl, _, rfl, upd_same, [(Sum.inl ((k : Nat) : Int), v6)], rfl, by show 1 ≤ 15; decide, ?_⟩⟩
          rw [upd_upd]
          have s10 := same_new (o := .dK (mergeK [] [(Sum.inl ((k : Nat) : Int), v6)])) nqd
          refine ⟨_, rfl, _, rfl, dr, vv, rfl, .inl ⟨kJ, _, .inl (s10 _ _ hJ1), rfl, hval.symm⟩, ?_⟩
          refine ⟨qd, _, vv, z.2, [(k, g)], p, rfl, upd_same, ⟨[(Sum.inl ((k : Nat) : Int), v6)], rfl, .cons ⟨rfl, mono_row _ _ _ _ s10.keep hv8⟩ .nil⟩, by simp, mono_row _ _ _ _ s10.keep hvv, p0, pm, z3, by omega, by show 1 ≤ 1000; decide, fun y hy => by rw [List.mem_singleton.mp hy]; exact ⟨by rw [z2]; exact hk, by rw [z2]; exact hgl⟩, fun H11 v11 s11 hv11 => ?_⟩
          have sa := s10.trans s11
          refine ⟨_, rfl, _, rfl, dr, _, rfl, DPut.k (k := Sum.inl ((z.1 : Nat) : Int)) (sa _ _ hJ1) (Nat.lt_of_le_of_lt (by omega : kJ.length ≤ 1000) (by decide)), ?_⟩
          have hJ3 := kvR_mono (H' := H11) (fun _ _ h => sa _ _ h) hJ2
          have hput := put_map hJ3 hv11 (k := z.1) (by rw [part_keys]; exact List.mem_map.mpr ⟨z, zm, rfl⟩)
          rw [part_step S.lad.nd zm] at hput
          have et2 : (rs.take (j + 1)).map (·.1) = (rs.take j).map (·.1) ++ [z.1] := by rw [List.take_succ, hz1, List.map_append]; rfl
          refine ⟨_, rfl, ?_, ?_, ?_⟩
          · rw [et2]
            exact (RJ.more sa).setD hput
          · obtain ⟨t6, rfl, ht6⟩ := hv8
            exact ⟨t6, rfl, by rw [upd_ne (ne_of (sa _ _ ht6) (sa _ _ hJ1) (fun z => nomatch z))]; exact sa _ _ ht6⟩
          · rw [upd_ne ldr]
            exact sa _ _ hl8
        · rintro σ H8 ⟨y10, rfl, RJ, hv8, hl8⟩
          rw [List.length_map, hkl, List.take_length] at RJ
          obtain ⟨kJ, hJ1, hJ2⟩ := RJ.dict
          have hJl := paired_len hJ2
          have hpl : (part p k g (rs.map (·.1)) rs).length = rs.length := by unfold part; rw [List.length_map]
          refine ⟨_, rfl, _, rfl, _, rfl, dr, _, rfl, DPut.k (k := Sum.inl ((k : Nat) : Int)) hJ1 (Nat.lt_of_le_of_lt (by omega : kJ.length ≤ 1000) (by decide)), ?_⟩
          rw [putK_new _ (val_none hJ2 (by rw [part_keys]; exact kP))]
          have hfin : Paired (kvR H8) (kJ ++ [(Sum.inl ((k : Nat) : Int), v6)]) (putIn p rs k g) := by
            rw [← part_all]
            exact paired_app hJ2 (.cons ⟨rfl, hv8⟩ .nil)
          have RF := RJ.setD hfin
          obtain ⟨ns, hn1, hn2⟩ := RF.news
          refine ⟨_, rfl, .inl ⟨rfl, _, .of hn1⟩, _, rfl, nw, _, _, rfl, rfl, hn1, Nat.lt_of_le_of_lt (by rw [List.length_map]; omega : _ ≤ 1000) (by decide), ?_⟩
          obtain ⟨kF, hF1, hF2⟩ := RF.dict
          refine ⟨putIn p rs k g, _, _, _, _, _, _, rfl, ⟨same_own RF.same RF.n0, RF.d0, RF.n0, RF.ne, ⟨kF, by rw [upd_ne RF.ne]; exact hF1, ?_⟩, ⟨ns ++ [(i : Int)], by rw [upd_same, List.map_append]; rfl, by rw [List.length_append, List.length_singleton]; omega⟩⟩, by rw [etake]; exact St, by unfold putIn; rw [List.length_append, List.length_map, List.length_singleton]; omega⟩
          exact kvR_mono (fun t xs h => by rw [upd_ne (ne_of h hn1 (fun z => nomatch z))]; exact h) hF2
end
end S4

namespace S4
open PySem L2 TT MM
def keysI (rs : RG) : List Int := rs.map fun z => ((z.1 : Nat) : Int)
/-- the ladder of a room, as a list of rows -/
def IsLad (p : Int) (wd : Nat) (rows lad : List (List Int)) : Prop := ∃ (rs : RG) (ys : List Int), St1 p wd rs rows ∧ ys.Perm (keysI rs) ∧ Up ys ∧ lad = ys.map fun y => rowOf rs y.toNat
theorem keysI_nodup {rs : RG} (h : (rs.map (·.1)).Nodup) : (keysI rs).Nodup := by
  unfold keysI
  rw [List.nodup_iff_pairwise_ne] at *
  rw [List.pairwise_map] at *
  exact h.imp fun {a b} h e => h (by omega)
theorem keysI_mem {rs : RG} {y : Int} : y ∈ keysI rs ↔ ∃ i ∈ rs.map (·.1), y = ((i : Nat) : Int) := by
  unfold keysI
  rw [List.mem_map]
  constructor
  · rintro ⟨z, hz, rfl⟩
    exact ⟨z.1, List.mem_map.mpr ⟨z, hz, rfl⟩, rfl⟩
  · rintro ⟨i, hi, rfl⟩
    obtain ⟨z, hz, rfl⟩ := List.mem_map.mp hi
    exact ⟨z, hz, rfl⟩
theorem IsLad.only {p : Int} {wd : Nat} {rows rows' lad lad' : List (List Int)} (A : IsLad p wd rows lad) (B : IsLad p wd rows' lad') (p2 : 2 ≤ p) (h : Same2 p (fun v => ∃ l ∈ rows, v = vec l) (fun v => ∃ l ∈ rows', v = vec l)) : lad = lad' := by
  obtain ⟨rs, ys, S, hp, hu, rfl⟩ := A
  obtain ⟨rs', ys', S', hp', hu', rfl⟩ := B
  obtain ⟨k1, k2⟩ := S.only S' p2 h
  have e : ys = ys' := by
    refine up_same (hp.trans (List.Perm.trans ?_ hp'.symm)) hu hu'
    refine (List.perm_ext_iff_of_nodup (keysI_nodup S.lad.nd) (keysI_nodup S'.lad.nd)).mpr fun y => ?_
    rw [keysI_mem, keysI_mem]
    constructor
    · rintro ⟨i, hi, rfl⟩; exact ⟨i, (k1 i).mp hi, rfl⟩
    · rintro ⟨i, hi, rfl⟩; exact ⟨i, (k1 i).mpr hi, rfl⟩
  subst e
  refine List.map_congr_left fun y hy => ?_
  obtain ⟨i, hi, rfl⟩ := keysI_mem.mp (hp.mem_iff.mp hy)
  obtain ⟨z, hz, rfl⟩ := List.mem_map.mp hi
  rw [Int.toNat_natCast, rowOf_mem S.lad.nd hz, rowOf_mem S'.lad.nd (k2 z hz)]
theorem IsLad.rows {p : Int} {wd : Nat} {rows lad : List (List Int)} (A : IsLad p wd rows lad) : lad.length ≤ wd ∧ ∀ l ∈ lad, isRow l p wd := by
  obtain ⟨rs, ys, S, hp, hu, rfl⟩ := A
  refine ⟨?_, fun l hl => ?_⟩
  · rw [List.length_map, hp.length_eq]
    unfold keysI
    rw [List.length_map]
    exact S.len
  · obtain ⟨y, hy, rfl⟩ := List.mem_map.mp hl
    obtain ⟨i, hi, rfl⟩ := keysI_mem.mp (hp.mem_iff.mp hy)
    obtain ⟨z, hz, rfl⟩ := List.mem_map.mp hi
    rw [Int.toNat_natCast, rowOf_mem S.lad.nd hz]
    obtain ⟨_, b, c⟩ := S.ok z hz
    exact ⟨by omega, c⟩
/-- the ladder spans what the rows span -/
theorem IsLad.room {p : Int} {wd : Nat} {rows lad : List (List Int)} (A : IsLad p wd rows lad) : Same2 p (fun v => ∃ l ∈ lad, v = vec l) (fun v => ∃ l ∈ rows, v = vec l) := by
  obtain ⟨rs, ys, S, hp, hu, rfl⟩ := A
  refine Same2.trans (same2_of (fun v h => ?_) (fun v h => ?_)) S.room
  · obtain ⟨l, hl, rfl⟩ := h
    obtain ⟨y, hy, rfl⟩ := List.mem_map.mp hl
    obtain ⟨i, hi, rfl⟩ := keysI_mem.mp (hp.mem_iff.mp hy)
    rw [Int.toNat_natCast]
    exact .row ⟨i, hi, rfl⟩
  · obtain ⟨i, hi, rfl⟩ := h
    exact .row ⟨rowOf rs i, List.mem_map.mpr ⟨((i : Nat) : Int), hp.mem_iff.mpr (keysI_mem.mpr ⟨i, hi, rfl⟩), by rw [Int.toNat_natCast]⟩, rfl⟩
section
variable {P : Program} {w : World} {K : PySem.W.Frag} {mg : Str → Option Value} {base : Heap} {cT cS : Addr}
def spLadOf (K : PySem.W.Frag) : Sp := fun vs H Q _ => ∃ (a : Addr) (p : Int) (wd : Nat) (xs : List V) (rws : List (List Int)), vs = [.int p, .int (wd : Int), .ref a] ∧ SqS K H a xs ∧ Paired (rRow H) xs rws ∧ rws.length ≤ 1000 ∧ Prm p ∧ p ≤ 1000000 ∧ wd ≤ 1000 ∧ (wd < 64 ∨ rws.length < 64) ∧ (∀ r ∈ rws, isRow r p wd) ∧
  ∀ H' v lad, Same H H' → rTup rRow H' v lad → IsLad p wd rws lad → lad.length ≤ rws.length → Q v H'
theorem ok_lad_of (T : Tx K mg cT cS) {f : Addr} {fd : FuncData} (d : D K mg "ladder_of" s_ladder_of ["p", "wide", "rows"] f fd) : FnOk P w K mg base CX0 3 f fd ["p", "wide", "rows"] (spLadOf K) := by
  obtain ⟨f1, fd1, d1⟩ := T.d_rungs_of
  have G1 : FnOk P w K mg base CX0 2 f1 fd1 ["p", "wide", "rows"] (spRungs (K := K)) := ok_rungs T d1
  refine d.F.ok sc_ladder_of (fun vs H Q E h => ?_) (fun cdv A outer s H vs Q E hr h => ?_)
  · obtain ⟨a, p, wd, xs, rws, rfl, _⟩ := h
    rfl
  · obtain ⟨a, p, wd, xs, rws, rfl, hS, hp, hl, prm, pm, hwd, h64, hrw, q⟩ := h
    refine ⟨_, pss_cons (ps_set (i := 3) sc_ladder_of.nd rfl (.inr rfl) (pe_ix ix_tup (pe_call G1 hr rfl d1.m d1.F.kp d1.b .nil pass0 (pa_cons (pv 0) (pa_cons (pv 1) (pa_cons (pv 2) pa_nil)))) pe_int (fun _ _ => rfl)))
      (pss_one (ps_ret (pe_callTy call_tuple_of (by rfl) T.b_tuple (by decide +kernel) (pa_cons
        (pe_lc (own := [("place", 4)]) (g := gName 4) (tt := tYes) rfl sc_ladder_of.nd (pi_list (pe_callB (call_sortedDI rfl) (by rfl) T.b_sorted (by decide +kernel) (pa_cons (pv 3) pa_nil))) (blkOk_by (N := N_ladder_of) (sc := defScope s_ladder_of) (by decide +kernel))
          (fun _ _ _ _ _ => pg_name (i := 4) sc_ladder_of.nd rfl (Or.inl rfl)) (fun _ _ _ _ _ => pts_nil)
          (fun _ _ _ _ _ => pe_dget (hu_of hr) (pv 3) (pv 4) (fun _ _ => rfl))) pa_nil)))), ?_⟩
    refine ⟨_, rfl, _, rfl, _, rfl, a, p, wd, xs, rws, rfl, hS, hp, hl, prm, pm, hwd, hrw, fun H2 t dr nw rs s2 ht hdr ⟨kvs, hk1, hk2⟩ S cnt => ?_⟩
    refine ⟨t, _, _, _, rfl, rfl, .of ht, at_of (j := 0) rfl rfl, ?_⟩
    dsimp only [gName, tSeq]
    have hkl := paired_len hk2
    have hSl := S.len
    have keys : ∀ {kvs : List (L2.Key × V)} {rs : RG}, Paired (kvR H2) kvs rs → kvs.map (·.1) = (keysI rs).map Sum.inl := by
      intro kvs rs h
      induction h with
      | nil => rfl
      | @cons kv z kvs rs r t ih =>
        show kv.1 :: kvs.map (·.1) = Sum.inl ((z.1 : Nat) : Int) :: (keysI rs).map Sum.inl
        rw [ih, r.1]
    refine ⟨_, rfl, dr, kvs, keysI rs, rfl, .of hk1, keys hk2, by rw [show (keysI rs).length = rs.length by unfold keysI; rw [List.length_map]]; omega, fun ys p2 hperm hup np => ?_⟩
    have s3 := same_new (o := .lst (ys.map V.int)) np
    have hyl := hperm.length_eq
    have hkil : (keysI rs).length = rs.length := by unfold keysI; rw [List.length_map]
    refine ⟨p2, rfl, ⟨_, .of upd_same⟩, fun D hD => ?_⟩
    refine lc_fm (walk_list (xs := ys.map V.int)) rRow (fun i => ys[i]?.bind fun y => some (rowOf rs y.toNat)) hD (fun H' s' => .of (s' _ _ upd_same)) ?_ ?_
    · rintro i x H4 H5 hi pv ⟨rfl, hx⟩
      obtain ⟨y, hy, rfl⟩ := at_int hx
      rw [List.length_map] at hi
      obtain ⟨k, hk, rfl⟩ := keysI_mem.mp (hperm.mem_iff.mp (List.mem_of_getElem? hy))
      obtain ⟨z, hz, rfl⟩ := List.mem_map.mp hk
      obtain ⟨j, hj⟩ := List.getElem?_of_mem hz
      have sz := s3.trans pv.1
      obtain ⟨kv, hkv, ke, hvv⟩ := paired_get2 (kvR_mono (fun _ _ h => sz _ _ h) hk2) hj
      obtain ⟨kk, vv⟩ := kv
      simp only at ke hvv
      subst ke
      have hval := val_at hk2 S.lad.nd hkv
      refine ⟨rfl, _, rfl, _, rfl, dr, vv, rfl, .inl ⟨kvs, _, .inl (sz _ _ hk1), rfl, hval.symm⟩, ?_⟩
      refine fm_keep mono_row pv hD (by omega) (Same.refl _) (by rw [hy]; rfl) ?_
      rw [Int.toNat_natCast, rowOf_mem S.lad.nd hz]
      exact hvv
    · intro H4 zs s4 hD4 hp4
      rw [List.length_map, fm_some] at hp4
      refine ⟨D, _, rfl, .inl ⟨.of hD4, fun nt nnt => ?_⟩⟩
      have s5 := same_new (o := .tup zs) nnt
      exact q _ _ _ (((s2.trans s3).trans s4).trans s5) ⟨nt, zs, rfl, upd_same, paired_mono mono_row s5.keep hp4⟩ ⟨rs, ys, S, hperm, hup, rfl⟩ (by rw [List.length_map]; omega)
end
end S4

namespace S4
open PySem L2 TT MM
section
variable {K : PySem.W.Frag}
theorem kit_tl : PySem.W.kitOne K (.type "tuple") (.type "list") = some false := kit_ty (by decide +kernel)
theorem kitB_l : PySem.W.kitAny K (.type "list") [.type "list", .type "tuple"] = some true := by unfold PySem.W.kitAny; rw [kit_ll]
theorem kitB_t : PySem.W.kitAny K (.type "tuple") [.type "list", .type "tuple"] = some true := by
  unfold PySem.W.kitAny
  rw [kit_tl]
  show PySem.W.kitAny K (.type "tuple") [.type "tuple"] = some true
  unfold PySem.W.kitAny
  rw [kit_tt]
end
theorem NoDiv.prm {p : Int} (h : NoDiv p) : Prm p := ⟨h.1, h.2.2⟩
section
variable {P : Program} {w : World} {K : PySem.W.Frag} {mg : Str → Option Value} {base : Heap} {cT cS : Addr}
def spEach (K : PySem.W.Frag) : Sp := fun vs H Q _ => ∃ (a : Addr) (p : Int) (wd : Nat) (xs : List V) (rws : List (List Int)), vs = [.int p, .int (wd : Int), .ref a] ∧ SqS K H a xs ∧ Paired (rRow H) xs rws ∧ wd ≤ 1000 ∧ (∀ r ∈ rws, isRow r p wd) ∧ ∀ H', Same H H' → Q .non H'
theorem ok_each (T : Tx K mg cT cS) {f : Addr} {fd : FuncData} (d : D K mg "check_each" s_check_each ["p", "wide", "rows"] f fd) : FnOk P w K mg base CX0 4 f fd ["p", "wide", "rows"] (spEach K) := by
  obtain ⟨f1, fd1, d1⟩ := T.d_is_row
  have G1 : FnOk P w K mg base CX0 3 f1 fd1 ["thing", "p", "wide"] spIsRow := ok_is_row T d1
  refine d.F.ok sc_check_each (fun vs H Q E h => ?_) (fun cdv A outer s H vs Q E hr h => ?_)
  · obtain ⟨a, p, wd, xs, rws, rfl, _⟩ := h
    rfl
  · obtain ⟨a, p, wd, xs, rws, rfl, hS, hp, hwd, hrw, q⟩ := h
    refine ⟨_, pss_one (ps_for PassesOwn.never rfl (pi_or (pi_enum (by rfl) T.b_enumerate (pa_cons (pv 2) pa_nil)) (pi_enumT (by rfl) T.b_enumerate (pa_cons (pv 2) pa_nil))) (pg_tup rfl (pgs_cons (pg_name (i := 3) sc_check_each.nd rfl (.inl rfl)) (pgs_cons (pg_name (i := 4) sc_check_each.nd rfl (.inl rfl)) pgs_nil)))
        (pss_one (ps_if (pt_not (pt_val (pe_call G1 hr rfl d1.m d1.F.kp d1.b .nil pass0 (pa_cons (pv 4) (pa_cons (pv 0) (pa_cons (pv 1) pa_nil)))))) pss_never pss_nil))), ?_⟩
    apply twice
    · intro hs
      apply twice
      · intro hd
        rcases hS with h | h
        · exact .inl ⟨_, rfl, a, xs, rfl, .of h, for_it (walk_enum (xs := xs)) (fun i σ H' => Same H H' ∧ ∃ x3 x4, σ = [some (.int p), some (.int (wd : Int)), some (.ref a), x3, x4]) ⟨.refl _, none, none, rfl⟩ (fun i σ H' _ q => .of (q.1 _ _ h)) hs hd⟩
        · exact .inr ⟨_, rfl, a, xs, rfl, .of h, for_it (walk_enumT (xs := xs)) (fun i σ H' => Same H H' ∧ ∃ x3 x4, σ = [some (.int p), some (.int (wd : Int)), some (.ref a), x3, x4]) ⟨.refl _, none, none, rfl⟩ (fun i σ H' _ q => .of (q.1 _ _ h)) hs hd⟩
      · rintro σ H2 ⟨s2, x3, x4, rfl⟩
        exact q _ s2
    · rintro i x σ H2 H3 hi ⟨s2, x3, x4, rfl⟩ ⟨tz, u1, u2, rfl, nz, rfl, e1, e2⟩
      cases (Option.some.inj e1)
      have s3 := same_new (o := .tup [V.int (i : Nat), u2]) nz
      obtain ⟨row, hrow, hrr⟩ := paired_get (paired_mono mono_row (s2.trans s3).keep hp) e2
      have hir := hrw row (List.mem_of_getElem? hrow)
      refine ⟨tz, _, rfl, .of upd_same, rfl, _, _, rfl, _, _, rfl, rfl, ?_⟩
      refine ⟨_, rfl, _, rfl, _, rfl, u2, row, p, wd, rfl, hrr, by have := hir.1; omega, hir, fun H4 s4 => ⟨_, rfl, iteF ⟨(s2.trans s3).trans s4, _, _, rfl⟩⟩⟩
def spClk : Sp := fun vs H Q _ => ∃ (n : Int), vs = [.int n] ∧ NoDiv n ∧ Q .non H
theorem ok_check_clock (T : Tx K mg cT cS) {f : Addr} {fd : FuncData} (d : D K mg "check_clock" s_check_clock ["p"] f fd) : FnOk P w K mg base CX0 3 f fd ["p"] spClk := by
  obtain ⟨f1, fd1, d1⟩ := T.d_is_clock
  have G1 : FnOk P w K mg base CX0 2 f1 fd1 ["thing"] spIsClock := ok_is_clock T d1
  refine d.F.ok sc_check_clock (fun vs H Q E h => ?_) (fun cdv A outer s H vs Q E hr h => ?_)
  · obtain ⟨n, rfl, _⟩ := h
    rfl
  · obtain ⟨n, rfl, nd, q⟩ := h
    exact ⟨_, pss_one (ps_if (pt_not (pt_val (pe_call G1 hr rfl d1.m d1.F.kp d1.b .nil pass0 (pa_cons (pv 0) pa_nil)))) pss_never pss_nil), ⟨_, rfl, n, rfl, nd, _, rfl, iteF q⟩⟩
def spRowsC (K : PySem.W.Frag) : Sp := fun vs H Q _ => ∃ (a : Addr) (p : Int) (wd : Nat) (xs : List V) (rws : List (List Int)), vs = [.int p, .int (wd : Int), .ref a] ∧ SqS K H a xs ∧ Paired (rRow H) xs rws ∧ rws.length ≤ 200 ∧ NoDiv p ∧ wd ≤ 200 ∧ (∀ r ∈ rws, isRow r p wd) ∧ ∀ H', Same H H' → Q .non H'
theorem ok_check_rows (T : Tx K mg cT cS) {f : Addr} {fd : FuncData} (d : D K mg "check_rows" s_check_rows ["p", "wide", "rows"] f fd) : FnOk P w K mg base CX0 5 f fd ["p", "wide", "rows"] (spRowsC K) := by
  obtain ⟨f1, fd1, d1⟩ := T.d_check_clock
  have G1 : FnOk P w K mg base CX0 3 f1 fd1 ["p"] spClk := ok_check_clock T d1
  obtain ⟨f2, fd2, d2⟩ := T.d_is_below
  have G2 : FnOk P w K mg base CX0 2 f2 fd2 ["thing", "end"] spIsBelow := ok_is_below T d2
  obtain ⟨f3, fd3, d3⟩ := T.d_check_each
  have G3 : FnOk P w K mg base CX0 4 f3 fd3 ["p", "wide", "rows"] (spEach K) := ok_each T d3
  obtain ⟨k1, hM1⟩ := T.c_MOST_WIDE
  obtain ⟨k2, hM2⟩ := T.c_MOST_ROWS
  refine d.F.ok sc_check_rows (fun vs H Q E h => ?_) (fun cdv A outer s H vs Q E hr h => ?_)
  · obtain ⟨a, p, wd, xs, rws, rfl, _⟩ := h
    rfl
  · obtain ⟨a, p, wd, xs, rws, rfl, hS, hp, hl, nd, hwd, hrw, q⟩ := h
    have hlen := paired_len hp
    refine ⟨_, pss_cons (ps_expr (pe_call G1 (hr.mono (by decide)) rfl d1.m d1.F.kp d1.b .nil pass0 (pa_cons (pv 0) pa_nil)))
      (pss_cons (ps_if (pt_not (pt_val (pe_call G2 (hr.mono (by decide)) rfl d2.m d2.F.kp d2.b .nil pass0 (pa_cons (pv 1) (pa_cons (pe_op op_add (pe_glob (v := .int 200) rfl hM1 ⟨_, rfl⟩) pe_int) pa_nil))))) pss_never pss_nil)
      (pss_cons (ps_if (PW.pt (pw_or (pt_not (pt_val (pe_callB call_isiT (by rfl) T.b_isinstance (by decide +kernel) (pa_cons (pv 2) (pa_cons (pe_tup (pa_cons (ty_list T.b_list) (pa_cons (ty_tuple T.b_tuple) pa_nil))) pa_nil)))))
        (pw_or1 (pt_cmpR op_gt (pe_callB call_len_seq (by rfl) T.b_len PySem.boot_len (pa_cons (pv 2) pa_nil)) (pe_glob (v := .int 200) rfl hM2 ⟨_, rfl⟩) (nomark _))))) pss_never pss_nil)
      (pss_one (ps_expr (pe_call G3 hr rfl d3.m d3.F.kp d3.b .nil pass0 (pa_cons (pv 0) (pa_cons (pv 1) (pa_cons (pv 2) pa_nil)))))))), ?_⟩
    refine ⟨_, rfl, p, rfl, nd, ?_⟩
    refine ⟨_, rfl, _, _, rfl, rfl, _, _, rfl, ?_⟩
    rw [decide_eq_true ⟨by omega, by omega⟩]
    refine ⟨_, rfl, iteF ?_⟩
    refine ⟨_, rfl, by show 2 ≤ sizeLine; decide, fun tt ntt => ?_⟩
    have s1 := same_new (o := .tup [V.ty "list", V.ty "tuple"]) ntt
    have hS1 := hS.same s1
    have rest : ∀ (G : Prop), (¬ ((200 : Int) < ((xs.length : Nat) : Int)) → G) → G := fun G h => h (by omega)
    rcases hS1 with h | h
    · refine ⟨_, tt, _, _, _, _, rfl, upd_same, .cons (.ty _) (.cons (.ty _) .nil), .base (.lst h), kitB_l, _, rfl, iteF ⟨_, rfl, _, _, rfl, .inl (.of h), _, _, rfl, rfl, _, rfl, ?_⟩⟩
      rw [decide_eq_false (by omega)]
      exact iteF ⟨_, rfl, _, rfl, _, rfl, a, p, wd, xs, rws, rfl, .inl h, paired_mono mono_row s1.keep hp, by omega, hrw, fun H' s' => q _ (s1.trans s')⟩
    · refine ⟨_, tt, _, _, _, _, rfl, upd_same, .cons (.ty _) (.cons (.ty _) .nil), .base (.tup h), kitB_t, _, rfl, iteF ⟨_, rfl, _, _, rfl, .inr (.of h), _, _, rfl, rfl, _, rfl, ?_⟩⟩
      rw [decide_eq_false (by omega)]
      exact iteF ⟨_, rfl, _, rfl, _, rfl, a, p, wd, xs, rws, rfl, .inr h, paired_mono mono_row s1.keep hp, by omega, hrw, fun H' s' => q _ (s1.trans s')⟩
def spLadder (K : PySem.W.Frag) : Sp := fun vs H Q _ => ∃ (a : Addr) (p : Int) (wd : Nat) (xs : List V) (rws : List (List Int)), vs = [.int p, .int (wd : Int), .ref a] ∧ SqS K H a xs ∧ Paired (rRow H) xs rws ∧ rws.length ≤ 200 ∧ NoDiv p ∧ wd ≤ 200 ∧ (wd < 64 ∨ rws.length < 64) ∧ (∀ r ∈ rws, isRow r p wd) ∧
  ∀ H' v lad, Same H H' → rTup rRow H' v lad → IsLad p wd rws lad → lad.length ≤ rws.length → Q v H'
theorem ok_ladder (T : Tx K mg cT cS) {f : Addr} {fd : FuncData} (d : D K mg "ladder" s_ladder ["p", "wide", "rows"] f fd) : FnOk P w K mg base CX0 6 f fd ["p", "wide", "rows"] (spLadder K) := by
  obtain ⟨f1, fd1, d1⟩ := T.d_check_rows
  have G1 : FnOk P w K mg base CX0 5 f1 fd1 ["p", "wide", "rows"] (spRowsC K) := ok_check_rows T d1
  obtain ⟨f2, fd2, d2⟩ := T.d_ladder_of
  have G2 : FnOk P w K mg base CX0 3 f2 fd2 ["p", "wide", "rows"] (spLadOf K) := ok_lad_of T d2
  refine d.F.ok sc_ladder (fun vs H Q E h => ?_) (fun cdv A outer s H vs Q E hr h => ?_)
  · obtain ⟨a, p, wd, xs, rws, rfl, _⟩ := h
    rfl
  · obtain ⟨a, p, wd, xs, rws, rfl, hS, hp, hl, nd, hwd, h64, hrw, q⟩ := h
    refine ⟨_, pss_cons (ps_expr (pe_call G1 hr rfl d1.m d1.F.kp d1.b .nil pass0 (pa_cons (pv 0) (pa_cons (pv 1) (pa_cons (pv 2) pa_nil)))))
      (pss_one (ps_ret (pe_call G2 (hr.mono (by decide)) rfl d2.m d2.F.kp d2.b .nil pass0 (pa_cons (pv 0) (pa_cons (pv 1) (pa_cons (pv 2) pa_nil)))))), ?_⟩
    refine ⟨_, rfl, _, rfl, _, rfl, a, p, wd, xs, rws, rfl, hS, hp, hl, nd, hwd, hrw, fun H2 s2 => ?_⟩
    exact ⟨_, rfl, _, rfl, _, rfl, a, p, wd, xs, rws, rfl, hS.same s2, paired_mono mono_row s2.keep hp, by omega, nd.prm, nd.2.1, by omega, h64, hrw, fun H' v lad s' => q H' v lad (s2.trans s')⟩
end
end S4

namespace S4
open PySem L2 TT MM
section
variable {P : Program} {w : World} {K : PySem.W.Frag} {mg : Str → Option Value} {base : Heap} {cT cS : Addr}
/-! ### the check's own going: rows less so many times another, with their values -/
def spLessV : Sp := fun vs H Q _ => ∃ (u v : V) (p m : Int) (r1 r2 : List Int), vs = [.int p, u, v, .int m] ∧ 0 < p ∧ (-(2 ^ 64) < m ∧ m < 2 ^ 64) ∧ rRow H u r1 ∧ rRow H v r2 ∧ r1.length = r2.length ∧ r1.length ≤ 1000 ∧
  ∀ H' v', Same H H' → rRow H' v' (lessL p r1 r2 m) → Q v' H'
theorem ok_lessV (T : Tx K mg cT cS) {f : Addr} {fd : FuncData} (d : D K mg "_law_less" s_law_less ["p", "row", "other", "many"] f fd) : FnOk P w K mg base CX0 1 f fd ["p", "row", "other", "many"] spLessV := by
  refine d.F.ok sc_law_less (fun vs H Q E h => ?_) (fun cdv A outer s H vs Q E hr h => ?_)
  · obtain ⟨u, v, p, m, r1, r2, rfl, _⟩ := h
    rfl
  · obtain ⟨u, v, p, m, r1, r2, rfl, p0, hm, ⟨t1, rfl, h1⟩, ⟨t2, rfl, h2⟩, he, hl, q⟩ := h
    refine ⟨_, pss_one (ps_ret (pe_callTy call_tuple_of (by rfl) T.b_tuple (by decide +kernel) (pa_cons
        (pe_lc (own := [("one", 4), ("two", 5)]) (g := gTup K 2 (gCons (gName 4) (gCons (gName 5) gNil))) (tt := tYes) rfl sc_law_less.nd (RZ.pi_zipA (by rfl) T.b_zip (pa_cons (pv 1) (pa_cons (pv 2) pa_nil))) (blkOk_by (N := N_law_less) (sc := defScope s_law_less) (by decide +kernel))
                (fun _ _ _ _ _ => pgT rfl rfl (pgs_cons (pg_name (i := 4) sc_law_less.nd rfl (Or.inl rfl)) (pgs_cons (pg_name (i := 5) sc_law_less.nd rfl (Or.inl rfl)) pgs_nil))) (fun _ _ _ _ _ => pts_nil)
                (fun _ _ _ _ _ => pe_op op_mod (pe_callTy call_int1 (by rfl) T.b_int (by decide +kernel) (pa_cons (pe_op op_sub (pv 4) (pe_op op_mul (pv 3) (pv 5))) pa_nil)) (pv 0))) pa_nil))), ?_⟩
    refine ⟨_, rfl, _, rfl, t1, t2, _, _, rfl, .inr ⟨.of h1, .of h2, fun D hD => ?_⟩⟩
    refine lc_fm (walk_zipT (n := r1.length) (by rw [List.length_map, List.length_map]; omega)) rInt (fun i => some ((r1.getD i 0 - m * r2.getD i 0) % p)) hD (fun H' s' => ⟨.of (s'.keep.tup h1), .of (s'.keep.tup h2)⟩) ?_ ?_
    · rintro i x H2 H3 hi pv ⟨tz, u1, u2, rfl, nz, rfl, e1, e2⟩
      obtain ⟨a, ha, rfl⟩ := at_int e1
      obtain ⟨b, hb, rfl⟩ := at_int e2
      refine ⟨tz, _, rfl, .of upd_same, rfl, _, _, rfl, _, _, rfl, rfl, rfl, ?_⟩
      refine ⟨_, rfl, _, rfl, _, rfl, _, _, rfl, rfl, .inl hm, _, _, rfl, rfl, .inl ⟨_, rfl, _, rfl, _, _, rfl, rfl, p0, ?_⟩⟩
      exact fm_keep mono_int pv hD (by omega) (same_new nz) rfl (by rw [getD_at ha, getD_at hb]; rfl)
    · intro H2 ys s2 hD2 hp2
      rw [fm_all] at hp2
      have := paired_int hp2
      subst this
      exact ⟨D, _, rfl, .inl ⟨.of hD2, fun t nt => q _ _ (s2.trans (same_new nt)) ⟨t, rfl, upd_same⟩⟩⟩
theorem pow_even (m : Int) (q : Nat) : m ^ (2 * q) = (m * m) ^ q := by
  induction q with
  | zero => rw [Nat.mul_zero, Int.pow_zero, Int.pow_zero]
  | succ q ih =>
    have e : 2 * (q + 1) = 2 * q + 1 + 1 := by omega
    rw [e, Int.pow_succ, Int.pow_succ, Int.pow_succ, ih, Int.mul_assoc]
theorem cgPow {p a b : Int} (h : Cg p a b) : ∀ n : Nat, Cg p (a ^ n) (b ^ n)
  | 0 => by rw [Int.pow_zero, Int.pow_zero]; exact .refl 1
  | n + 1 => by rw [Int.pow_succ, Int.pow_succ]; exact (cgPow h n).mul h
def spTurn : Sp := fun vs H Q _ => ∃ (p v : Int), vs = [.int p, .int v] ∧ Prm p ∧ p ≤ 1000000 ∧ 0 < v ∧ v < p ∧ ∀ u, 0 ≤ u → u < p → Cg p (u * v) 1 → Q (.int u) H
theorem ok_turn (T : Tx K mg cT cS) {f : Addr} {fd : FuncData} (d : D K mg "_law_turn" s_law_turn ["p", "value"] f fd) : FnOk P w K mg base CX0 1 f fd ["p", "value"] spTurn := by
  refine d.F.ok sc_law_turn (fun vs H Q E h => ?_) (fun cdv A outer s H vs Q E hr h => ?_)
  · obtain ⟨p, v, rfl, _⟩ := h
    rfl
  · obtain ⟨p, v, rfl, prm, pm, v0, v1, q⟩ := h
    have p2 := prm.1
    refine ⟨_, pss_cons (ps_par3 (i := 2) (j := 3) (l := 4) (by rfl) sc_law_turn.nd rfl rfl rfl (by decide) (by decide) (by decide) rfl rfl rfl (pa_cons pe_int (pa_cons (pv 1) (pa_cons (pe_op op_sub (pv 0) pe_int) pa_nil))) (by rfl))
      (pss_cons (ps_while PassesOwn.never (pt_cmpR op_gt (pv 4) pe_int (nomark _))
        (pss_cons (ps_if (pt_cmpR op_eq (pe_op op_mod (pe_callTy call_int1 (by rfl) T.b_int (by decide +kernel) (pa_cons (pv 4) pa_nil)) pe_int) pe_int (nomark _))
            (pss_one (ps_set (i := 2) sc_law_turn.nd rfl (.inl rfl) (pe_op op_mod (pe_callTy call_int1 (by rfl) T.b_int (by decide +kernel) (pa_cons (pe_op op_mul (pv 2) (pv 3)) pa_nil)) (pv 0)))) pss_nil)
        (pss_cons (ps_set (i := 3) sc_law_turn.nd rfl (.inl rfl) (pe_op op_mod (pe_callTy call_int1 (by rfl) T.b_int (by decide +kernel) (pa_cons (pe_op op_mul (pv 3) (pv 3)) pa_nil)) (pv 0)))
        (pss_one (ps_set (i := 4) sc_law_turn.nd rfl (.inl rfl) (pe_op op_fdiv (pv 4) pe_int))))))
      (pss_one (ps_ret (pe_op op_mod (pe_callTy call_int1 (by rfl) T.b_int (by decide +kernel) (pa_cons (pv 2) pa_nil)) (pv 0))))), ?_⟩
    refine ⟨_, rfl, _, rfl, _, _, rfl, rfl, _, _, _, rfl, ?_⟩
    dsimp only [gName, tSeq]
    refine while_by (fun σ H' => ∃ a m l, σ = [some (.int p), some (.int v), some (.int a), some (.int m), some (.int l)] ∧ H' = H ∧ 0 ≤ l ∧ l ≤ p ∧ 0 ≤ a ∧ a < p ∧ 0 ≤ m ∧ m < p ∧ Cg p (a * m ^ l.toNat) (v ^ (p - 2).toNat))
      (fun σ _ => match σ[4]? with | some (some (V.int n)) => n.toNat | _ => 0) ⟨1, v, p - 2, rfl, rfl, by omega, by omega, by omega, by omega, by omega, by omega, by rw [Int.one_mul]; exact .refl _⟩ ?_ ?_
    · rintro σ H1 ⟨a, m, l, rfl, rfl, l0, l1, a0, a1, m0, m1, hc⟩
      refine ⟨_, rfl, _, _, rfl, rfl, _, rfl, ?_⟩
      by_cases hl : 0 < l
      · rw [decide_eq_true hl]
        have next : ∀ (a' : Int) (_ : 0 ≤ a' ∧ a' < p) (_ : Cg p (a' * (m * m) ^ (l / 2).toNat) (v ^ (p - 2).toNat)), Cg p (a' * (m * m % p) ^ (l / 2).toNat) (v ^ (p - 2).toNat) := fun a' _ h => ((Cg.refl a').mul (cgPow (Cg.mod (m * m)) _)).trans h
        have mm := mod_b (a := m * m) (m := p) (by omega)
        refine iteT ⟨_, rfl, .inl ⟨_, rfl, _, _, rfl, rfl, (by dsimp only; decide), rfl, _, rfl, ?_⟩⟩
        by_cases ho : l % 2 = 1
        · rw [decide_eq_true (congrArg V.int ho)]
          have am := mod_b (a := a * m) (m := p) (by omega)
          refine iteT ⟨_, rfl, _, rfl, _, _, rfl, rfl, .inl ⟨by omega, by omega⟩, .inl ⟨_, rfl, _, rfl, _, _, rfl, rfl, by omega, ?_⟩⟩
          dsimp only [gName, tSeq]
          refine ⟨_, rfl, _, rfl, _, _, rfl, rfl, .inl ⟨by omega, by omega⟩, .inl ⟨_, rfl, _, rfl, _, _, rfl, rfl, by omega, ?_⟩⟩
          dsimp only [gName, tSeq]
          refine ⟨_, rfl, _, _, rfl, rfl, ⟨by decide, by decide⟩, ?_⟩
          refine ⟨⟨_, _, _, rfl, rfl, by omega, by omega, am.1, am.2, mm.1, mm.2, next _ am ?_⟩, ?_⟩
          · refine ((Cg.mod (a * m)).mul (Cg.refl _)).trans ((Cg.of_eq ?_).trans hc)
            have e : l.toNat = 2 * (l / 2).toNat + 1 := by omega
            rw [e, Int.pow_succ, pow_even, Int.mul_assoc, Int.mul_comm m]
          · show (l / 2).toNat < l.toNat
            omega
        · rw [decide_eq_false (fun e => ho (V.int.inj e))]
          refine iteF ?_
          dsimp only [gName, tSeq]
          refine ⟨_, rfl, _, rfl, _, _, rfl, rfl, .inl ⟨by omega, by omega⟩, .inl ⟨_, rfl, _, rfl, _, _, rfl, rfl, by omega, ?_⟩⟩
          dsimp only [gName, tSeq]
          refine ⟨_, rfl, _, _, rfl, rfl, ⟨by decide, by decide⟩, ?_⟩
          refine ⟨⟨_, _, _, rfl, rfl, by omega, by omega, a0, a1, mm.1, mm.2, next _ ⟨a0, a1⟩ ?_⟩, ?_⟩
          · refine (Cg.of_eq ?_).trans hc
            have e : l.toNat = 2 * (l / 2).toNat := by omega
            rw [e, pow_even]
          · show (l / 2).toNat < l.toNat
            omega
      · rw [decide_eq_false hl]
        have e0 : l.toNat = 0 := by omega
        rw [e0, Int.pow_zero, Int.mul_one] at hc
        have am := mod_b (a := a) (m := p) (by omega)
        refine iteF ⟨_, rfl, .inl ⟨_, rfl, _, rfl, _, _, rfl, rfl, by omega, q _ am.1 am.2 ?_⟩⟩
        exact (((Cg.mod a).trans hc).mul (Cg.refl v)).trans (prm.turn v0 v1)
    · rintro σ H' Q1 Q2 i ⟨x, e1, a, b, e2, e3, k, e4, h⟩
      exact ⟨x, e1, a, b, e2, e3, k, e4, i _ _ h⟩
end
end S4

namespace S4
open PySem L2 TT MM
/-! ### the ladder by its places from the left -/
structure LI (p : Int) (wd : Nat) (rows : List (List Int)) (c : Nat) (F : RG) (left : List (List Int)) : Prop where
  lad : Lad p (F.map (·.1)) (rv F)
  ok : ∀ z ∈ F, z.1 < c ∧ z.2.length = wd ∧ InB p z.2
  asc : (F.map (·.1)).Pairwise (· < ·)
  lf : ∀ l ∈ left, isRow l p wd
  lz : ∀ l ∈ left, ∀ x, x < c → l.getD x 0 = 0
  room : Same2 p (fun v => rungs (F.map (·.1)) (rv F) v ∨ ∃ l ∈ left, v = vec l) (fun v => ∃ l ∈ rows, v = vec l)
  cnt : F.length + left.length ≤ rows.length
section
variable {p : Int} {wd c : Nat} {rows left : List (List Int)} {F : RG}
theorem LI.start (h : ∀ r ∈ rows, isRow r p wd) : LI p wd rows 0 [] rows :=
  ⟨Lad.nil p _, fun z h => (nomatch h), .nil, h, fun _ _ x hx => absurd hx (Nat.not_lt_zero x), same2_of (fun v q => by
    rcases q with ⟨i, hi, _⟩ | q
    · cases hi
    · exact .row q) (fun v q => .row (.inr q)), by simp⟩
theorem LI.skip (L : LI p wd rows c F left) (hz : ∀ l ∈ left, l.getD c 0 = 0) : LI p wd rows (c + 1) F left :=
  ⟨L.lad, fun z h => by have := L.ok z h; exact ⟨by omega, this.2⟩, L.asc, L.lf, fun l hl x hx => by
    by_cases e : x = c
    · subst e; exact hz l hl
    · exact L.lz l hl x (by omega), L.room, L.cnt⟩
theorem LI.put (L : LI p wd rows c F left) (p2 : 2 ≤ p) {k : Nat} {head : List Int} (hk : left[k]? = some head) {u : Int} (hc : c < wd) (h0 : head.getD c 0 ≠ 0) (hu : Cg p (u * head.getD c 0) 1) :
    LI p wd rows (c + 1) (putIn p F c (mulL p u head)) ((left.eraseIdx k).map fun l => clr1 p l (c, mulL p u head)) := by
  have p0 : 0 < p := by omega
  have hm := List.mem_of_getElem? hk
  have hl := L.lf head hm
  have hhl : head.length = wd := by have := hl.1; omega
  have hkl : k < left.length := (List.getElem?_eq_some_iff.mp hk).1
  have hke : left[k] = head := (List.getElem?_eq_some_iff.mp hk).2
  generalize hg : mulL p u head = g
  have hgl : g.length = wd := by rw [← hg]; unfold mulL; rw [List.length_map]; exact hhl
  have hgi : InB p g := by
    rw [← hg]
    intro x hx
    obtain ⟨y, _, rfl⟩ := List.mem_map.mp hx
    exact mod_b p0
  have hgv : ∀ x, Cg p (vec g x) (u * vec head x) := fun x => by rw [← hg]; exact mulL_vec x
  have below : ∀ x, x < c → Cg p (vec g x) 0 := fun x hx => by
    have e : vec head x = 0 := L.lz head hm x hx
    have := hgv x
    rwa [e, Int.mul_zero] at this
  have g1 : Cg p (vec g c) 1 := (hgv c).trans hu
  have cP : c ∉ F.map (·.1) := fun q => by
    obtain ⟨z, hz, e⟩ := List.mem_map.mp q
    have := (L.ok z hz).1
    omega
  have nd : ((putIn p F c g).map (·.1)).Nodup := by
    rw [putIn_keys, List.nodup_append]
    exact ⟨L.lad.nd, by simp, fun a ha b hb e => cP (by rw [← List.mem_singleton.mp hb, ← e]; exact ha)⟩
  have hq : ∀ x, Cg p (rv (putIn p F c g) c x) (vec g x) := fun x => by
    unfold rv
    rw [rowOf_mem (z := (c, g)) nd (by unfold putIn; simp)]
    exact .refl _
  have ho : ∀ i ∈ F.map (·.1), ∀ x, Cg p (rv (putIn p F c g) i x) (rv F i x - rv F i c * vec g x) := fun i hi x => by
    obtain ⟨z, hz1, rfl⟩ := List.mem_map.mp hi
    unfold rv
    rw [rowOf_mem (z := (z.1, clr p [(c, g)] z.2)) nd (by unfold putIn; exact List.mem_append_left _ (List.mem_map.mpr ⟨z, hz1, rfl⟩)), rowOf_mem L.lad.nd hz1]
    exact clr1_vec (z := (c, g)) (by rw [(L.ok z hz1).2.1]; exact hgl) x
  have gi : ∀ i ∈ F.map (·.1), Cg p (vec g i) 0 := fun i hi => by
    obtain ⟨z, hz, rfl⟩ := List.mem_map.mp hi
    exact below z.1 (L.ok z hz).1
  have hsp := L.lad.moreSpan (g := vec g) (k := c) hq ho
  have memE : ∀ l ∈ left.eraseIdx k, l ∈ left := fun l h => List.mem_of_mem_eraseIdx h
  have lr : ∀ l ∈ left, ∀ x, Cg p (vec (clr1 p l (c, g)) x) (vec l x - vec l c * vec g x) := fun l h x => clr1_vec (z := (c, g)) (by have := (L.lf l h).1; show g.length = _; omega) x
  refine ⟨?_, fun z hz => ?_, ?_, fun l hl2 => ?_, fun l hl2 x hx => ?_, ?_, ?_⟩
  · rw [putIn_keys]
    exact L.lad.more cP g1 gi below hq ho
  · rcases List.mem_append.mp hz with h | h
    · obtain ⟨y, hy, rfl⟩ := List.mem_map.mp h
      obtain ⟨b1, b2, b3⟩ := L.ok y hy
      exact ⟨by show y.1 < c + 1; omega, by show (clr p _ y.2).length = wd; rw [clr_len]; exact b2, clr_in p0 _ b3⟩
    · rw [List.mem_singleton.mp h]
      exact ⟨Nat.lt_succ_self _, hgl, hgi⟩
  · rw [putIn_keys, List.pairwise_append]
    refine ⟨L.asc, List.pairwise_singleton _ _, fun a ha b hb => ?_⟩
    rw [List.mem_singleton.mp hb]
    obtain ⟨z, hz, rfl⟩ := List.mem_map.mp ha
    exact (L.ok z hz).1
  · obtain ⟨y, hy, rfl⟩ := List.mem_map.mp hl2
    have hy2 := L.lf y (memE y hy)
    exact ⟨by rw [clr1_len]; exact hy2.1, clr1_in p0 hy2.2 _⟩
  · obtain ⟨y, hy, rfl⟩ := List.mem_map.mp hl2
    have hy2 := L.lf y (memE y hy)
    have hin := getD_in p0 (clr1_in p0 hy2.2 (c, g)) x
    refine Cg.zero_of (p := p) ?_ hin.1 hin.2
    refine (lr y (memE y hy) x).trans ?_
    by_cases e : x = c
    · subst e
      have := (Cg.refl (p := p) (vec y x)).sub ((Cg.refl (p := p) (vec y x)).mul g1)
      rwa [Int.mul_one, Int.sub_self] at this
    · have e0 : vec y x = 0 := L.lz y (memE y hy) x (by omega)
      have := (Cg.refl (p := p) (vec y x)).sub ((Cg.refl (p := p) (vec y c)).mul (below x (by omega)))
      rw [Int.mul_zero, e0] at this
      rw [e0]
      exact this
  · rw [putIn_keys]
    refine Same2.trans (same2_of (fun v h => ?_) (fun v h => ?_)) L.room
    · have hgs : Spn p (fun v => rungs (F.map (·.1)) (rv F) v ∨ ∃ l ∈ left, v = vec l) (vec g) := .plus u (.zero (v := fun _ => 0) fun _ => .refl 0) (.row (.inr ⟨head, hm, rfl⟩)) fun x => (hgv x).trans (.of_eq (by omega))
      rcases h with h | ⟨l, hl2, rfl⟩
      · refine ((hsp v).mp (.row h)).sub fun r hr => ?_
        rcases hr with hr | rfl
        · exact .row (.inl hr)
        · exact hgs
      · obtain ⟨y, hy, rfl⟩ := List.mem_map.mp hl2
        refine .plus (-(vec y c)) (.row (.inr ⟨y, memE y hy, rfl⟩)) hgs fun x => (lr y (memE y hy) x).trans (.of_eq ?_)
        rw [Int.neg_mul]
        omega
    · have hgs : Spn p (fun v => rungs (F.map (·.1) ++ [c]) (rv (putIn p F c g)) v ∨ ∃ l ∈ (left.eraseIdx k).map (fun l => clr1 p l (c, g)), v = vec l) (vec g) := ((hsp _).mpr (.row (.inr rfl))).mono fun _ q => .inl q
      rcases h with h | ⟨l, hl2, rfl⟩
      · exact ((hsp v).mpr (.row (.inl h))).mono fun _ q => .inl q
      · rcases List.mem_cons.mp ((erase_perm hkl).symm.mem_iff.mp hl2) with e | h
        · rw [e, hke]
          refine .plus (head.getD c 0) (.zero (v := fun _ => 0) fun _ => .refl 0) hgs fun x => ?_
          have h1 := (Cg.refl (p := p) (head.getD c 0)).mul (hgv x)
          have h2 := hu.mul (Cg.refl (p := p) (vec head x))
          rw [Int.one_mul] at h2
          have h3 : Cg p (head.getD c 0 * vec g x) (vec head x) := by
            refine h1.trans ((Cg.of_eq ?_).trans h2)
            rw [← Int.mul_assoc, Int.mul_comm (head.getD c 0) u]
          exact h3.symm.trans (.of_eq (by omega))
        · refine .plus (vec l c) (.row (.inr ⟨_, List.mem_map.mpr ⟨l, h, rfl⟩, rfl⟩)) hgs fun x => ?_
          have := (lr l hl2 x).add (Cg.refl (p := p) (vec l c * vec g x))
          refine (this.trans (.of_eq ?_)).symm
          omega
  · have e1 := List.length_eraseIdx_of_lt hkl
    have e2 := L.cnt
    unfold putIn
    rw [List.length_append, List.length_map, List.length_map, e1, List.length_singleton]
    omega
/-- at the end it is the ladder -/
theorem LI.fin (L : LI p wd rows wd F left) : IsLad p wd rows (F.map (·.2)) := by
  refine ⟨F, keysI F, ⟨L.lad, fun z hz => L.ok z hz, ?_⟩, .refl _, ?_, ?_⟩
  · refine Same2.trans (same2_of (fun v h => .row (.inl h)) (fun v h => ?_)) L.room
    rcases h with h | ⟨l, hl, rfl⟩
    · exact .row h
    · refine .zero fun x => .of_eq ?_
      by_cases hx : x < wd
      · exact L.lz l hl x hx
      · exact vec_over (by have := (L.lf l hl).1; omega)
  · unfold Up keysI
    rw [List.pairwise_map]
    have := L.asc
    rw [List.pairwise_map] at this
    exact this.imp fun {a b} h => by omega
  · unfold keysI
    rw [List.map_map]
    refine List.map_congr_left fun z hz => ?_
    show z.2 = rowOf F (((z.1 : Nat) : Int)).toNat
    rw [Int.toNat_natCast, rowOf_mem L.lad.nd hz]
end
end S4

namespace S4
open PySem L2 TT MM
theorem paired_drop {α β : Type} {F : α → β → Prop} : ∀ {xs : List α} {l : List β} (k : Nat), Paired F xs l → Paired F (xs.drop k) (l.drop k)
  | _, _, 0, h => h
  | _, _, k + 1, .nil => .nil
  | _, _, k + 1, .cons r t => paired_drop k t
def atF (left : List (List Int)) (c : Nat) (i : Nat) : Option Int := left[i]?.bind fun row => if row.getD c 0 = 0 then none else some ((i : Nat) : Int)
theorem atF_none {left : List (List Int)} {c : Nat} (h : (List.range left.length).filterMap (atF left c) = []) : ∀ l ∈ left, l.getD c 0 = 0 := fun l hl => by
  obtain ⟨i, hi⟩ := List.getElem?_of_mem hl
  have hlt := (List.getElem?_eq_some_iff.mp hi).1
  by_cases e : l.getD c 0 = 0
  · exact e
  · exfalso
    have : ((i : Nat) : Int) ∈ (List.range left.length).filterMap (atF left c) := List.mem_filterMap.mpr ⟨i, List.mem_range.mpr hlt, by unfold atF; rw [hi]; exact if_neg e⟩
    rw [h] at this
    cases this
theorem atF_some {left : List (List Int)} {c : Nat} {x : Int} (h : x ∈ (List.range left.length).filterMap (atF left c)) : ∃ (i : Nat) (row : List Int), x = ((i : Nat) : Int) ∧ left[i]? = some row ∧ row.getD c 0 ≠ 0 := by
  obtain ⟨i, hi, e⟩ := List.mem_filterMap.mp h
  have hlt := List.mem_range.mp hi
  have hr : left[i]? = some left[i] := List.getElem?_eq_getElem hlt
  unfold atF at e
  rw [hr] at e
  have e : (if left[i].getD c 0 = 0 then none else some ((i : Nat) : Int)) = some x := e
  by_cases h0 : left[i].getD c 0 = 0
  · rw [if_pos h0] at e; cases e
  · rw [if_neg h0] at e
    exact ⟨i, left[i], (Option.some.inj e).symm, hr, h0⟩
section
variable {P : Program} {w : World} {K : PySem.W.Frag} {mg : Str → Option Value} {base : Heap} {cT cS : Addr}
def spLLad (K : PySem.W.Frag) : Sp := fun vs H Q _ => ∃ (a : Addr) (p : Int) (wd : Nat) (xs : List V) (rws : List (List Int)), vs = [.int p, .int (wd : Int), .ref a] ∧ H a = some (.lst xs) ∧ Paired (rRow H) xs rws ∧ rws.length ≤ 400 ∧ Prm p ∧ p ≤ 1000000 ∧ wd ≤ 400 ∧ (∀ r ∈ rws, isRow r p wd) ∧
  ∀ H' v lad, Same H H' → rTup rRow H' v lad → IsLad p wd rws lad → Q v H'
theorem ok_llad (T : Tx K mg cT cS) {f : Addr} {fd : FuncData} (d : D K mg "_law_ladder" s_law_ladder ["p", "wide", "rows"] f fd) : FnOk P w K mg base CX0 2 f fd ["p", "wide", "rows"] (spLLad K) := by
  obtain ⟨f1, fd1, d1⟩ := T.d_law_less
  have G1 : FnOk P w K mg base CX0 1 f1 fd1 ["p", "row", "other", "many"] spLessV := ok_lessV T d1
  obtain ⟨f2, fd2, d2⟩ := T.d_law_turn
  have G2 : FnOk P w K mg base CX0 1 f2 fd2 ["p", "value"] spTurn := ok_turn T d2
  refine d.F.ok sc_law_ladder (fun vs H Q E h => ?_) (fun cdv A outer s H vs Q E hr h => ?_)
  · obtain ⟨a, p, wd, xs, rws, rfl, _⟩ := h
    rfl
  · obtain ⟨a, p, wd, xs, rws, rfl, ha, hp, hl, prm, pm, hwd, hrw, q⟩ := h
    have p2 := prm.1
    have p0 : 0 < p := by omega
    refine ⟨_, pss_cons (ps_par (i := 3) (j := 4) (by rfl) sc_law_ladder.nd rfl rfl (by decide) rfl rfl (pa_cons (pe_callTy call_list_of (by rfl) T.b_list (by decide +kernel) (pa_cons (pv 2) pa_nil)) (pa_cons (pe_lst pa_nil) pa_nil)) (by rfl))
      (pss_cons (ps_for PassesOwn.never rfl (pi_range1 rfl T.b_range (pa_cons (pv 1) pa_nil)) (pg_name (i := 5) sc_law_ladder.nd rfl (Or.inr rfl))
        (pss_cons (ps_setLc (i := 6) (own := [("at", 9), ("row", 10)]) (g := gTup K 2 (gCons (gName 9) (gCons (gName 10) gNil))) rfl sc_law_ladder.nd rfl rfl (sw_true rfl rfl rfl rfl) (pi_enum (by rfl) T.b_enumerate (pa_cons (pv 3) pa_nil)) (blkOk_by (N := N_law_ladder) (sc := defScope s_law_ladder) (by decide +kernel))
            (fun _ _ _ _ _ => pgT rfl rfl (pgs_cons (pg_name (i := 9) sc_law_ladder.nd rfl (Or.inl rfl)) (pgs_cons (pg_name (i := 10) sc_law_ladder.nd rfl (Or.inl rfl)) pgs_nil))) (fun _ _ _ _ _ => pts_one (pt_cmpR op_ne (pe_ix (ixT (K := K) rfl) (pv 10) (pv 5) (fun _ _ => rfl)) pe_int (nomark _))) (fun _ _ _ _ _ => pv 9))
        (pss_one (ps_if (pt_cmpR op_gt (pe_callB call_len_seq (by rfl) T.b_len PySem.boot_len (pa_cons (pv 6) pa_nil)) pe_int (nomark _))
          (pss_cons (ps_set (i := 7) sc_law_ladder.nd rfl (.inr rfl) (pe_bm PySem.F.plainAttrs_list PySem.F.slot_list_pop PySem.F.type_list_pop mt_popAt (pv 3) (pa_cons (pe_ix ix_list (pv 6) pe_int (fun _ _ => rfl)) pa_nil)))
          (pss_cons (ps_set (i := 8) sc_law_ladder.nd rfl (.inr rfl) (pe_call G2 hr rfl d2.m d2.F.kp d2.b .nil pass0 (pa_cons (pv 0) (pa_cons (pe_ix ix_tup (pv 7) (pv 5) (fun _ _ => rfl)) pa_nil))))
          (pss_cons (ps_set (i := 7) sc_law_ladder.nd rfl (.inr rfl) (pe_callTy call_tuple_of (by rfl) T.b_tuple (by decide +kernel) (pa_cons
            (pe_lc (own := [("one", 11)]) (g := gName 11) (tt := tYes) rfl sc_law_ladder.nd (pi_tup (pv 7)) (blkOk_by (N := N_law_ladder) (sc := defScope s_law_ladder) (by decide +kernel))
              (fun _ _ _ _ _ => pg_name (i := 11) sc_law_ladder.nd rfl (Or.inl rfl)) (fun _ _ _ _ _ => pts_nil)
              (fun _ _ _ _ _ => pe_op op_mod (pe_callTy call_int1 (by rfl) T.b_int (by decide +kernel) (pa_cons (pe_op op_mul (pv 11) (pv 8)) pa_nil)) (pv 0))) pa_nil)))
          (pss_cons (ps_setLc (i := 3) (own := [("row", 10)]) (g := gName 10) (tt := tYes) rfl sc_law_ladder.nd rfl rfl (sw_true rfl rfl rfl rfl) (pi_list (pv 3)) (blkOk_by (N := N_law_ladder) (sc := defScope s_law_ladder) (by decide +kernel))
              (fun _ _ _ _ _ => pg_name (i := 10) sc_law_ladder.nd rfl (Or.inl rfl)) (fun _ _ _ _ _ => pts_nil)
              (fun _ _ _ _ _ => pe_ifExp (pt_cmpR op_ne (pe_ix (ixT (K := K) rfl) (pv 10) (pv 5) (fun _ _ => rfl)) pe_int (nomark _)) (pe_call G1 hr rfl d1.m d1.F.kp d1.b .nil pass0 (pa_cons (pv 0) (pa_cons (pv 10) (pa_cons (pv 7) (pa_cons (pe_ix (ixT (K := K) rfl) (pv 10) (pv 5) (fun _ _ => rfl)) pa_nil))))) (pv 10)))
          (pss_one (ps_set (i := 4) sc_law_ladder.nd rfl (.inl rfl) (pe_op op_cat
            (pe_lc (own := [("row", 10)]) (g := gName 10) (tt := tYes) rfl sc_law_ladder.nd (pi_list (pv 4)) (blkOk_by (N := N_law_ladder) (sc := defScope s_law_ladder) (by decide +kernel))
              (fun _ _ _ _ _ => pg_name (i := 10) sc_law_ladder.nd rfl (Or.inl rfl)) (fun _ _ _ _ _ => pts_nil)
              (fun _ _ _ _ _ => pe_ifExp (pt_cmpR op_ne (pe_ix (ixT (K := K) rfl) (pv 10) (pv 5) (fun _ _ => rfl)) pe_int (nomark _)) (pe_call G1 hr rfl d1.m d1.F.kp d1.b .nil pass0 (pa_cons (pv 0) (pa_cons (pv 10) (pa_cons (pv 7) (pa_cons (pe_ix (ixT (K := K) rfl) (pv 10) (pv 5) (fun _ _ => rfl)) pa_nil))))) (pv 10)))
            (pe_lst (pa_cons (pv 7) pa_nil))))))))) pss_nil))))
      (pss_one (ps_ret (pe_callTy call_tuple_of (by rfl) T.b_tuple (by decide +kernel) (pa_cons (pv 4) pa_nil))))), ?_⟩
    -- one list of rows cleared in the place
    have turn : ∀ {H1 : Hp} {D : Addr} {i : Nat} {x : V} {H2 : Hp} {rl : List (List Int)} {g : List Int} {c : Nat} {vg : V} {σ : St} {xl : List V}, H1 D = none → xl.length ≤ 1000 → Paired (rRow H1) xl rl → (∀ r ∈ rl, r.length = wd ∧ InB p r) → rRow H1 vg g → g.length = wd → c < wd →
        PvFm rRow (fun i => rl[i]?.bind fun r => some (clr1 p r (c, g))) D H1 i H2 → xl[i]? = some x → (σ[0]? = some (some (.int p)) ∧ σ[10]? = some (some x) ∧ σ[5]? = some (some (.int ((0 : Int) + (c : Nat)))) ∧ σ[7]? = some (some vg)) →
        tIf (tTest (tOp rNe (tOp (rIxT K) (tVar 10) (tVar 5)) (tC (V.int 0)))) (tCall spLessV [] E0 (tCons (tVar 0) (tCons (tVar 10) (tCons (tVar 7) (tCons (tOp (rIxT K) (tVar 10) (tVar 5)) tNil))))) (tVar 10) σ H2
          fun y H4 => ∃ acc, H4 D = some (.lst acc) ∧ acc.length < sizeLine ∧ PvFm rRow (fun i => rl[i]?.bind fun r => some (clr1 p r (c, g))) D H1 (i + 1) (upd H4 D (.lst (acc ++ [y]))) := by
      intro H1 D i x H2 rl g c vg σ xl hD hxl hpr hrl hvg hgl hc pv hx ⟨σ0, σ10, σ5, σ7⟩
      obtain ⟨r, hr1, t, rfl, ht⟩ := paired_get (paired_mono mono_row pv.1.keep hpr) hx
      obtain ⟨r1, r2⟩ := hrl r (List.mem_of_getElem? hr1)
      have hi := (List.getElem?_eq_some_iff.mp hx).1
      have hcx : r[c]? = some (r[c]'(by omega)) := List.getElem?_eq_getElem (by omega)
      have hcg := getD_at (d := (0 : Int)) hcx
      have hb := getD_in p0 r2 c
      have hat : atI (r.map V.int) ((0 : Int) + (c : Nat)) = some (.int (r[c]'(by omega))) := by rw [Int.zero_add]; exact atI_nat (int_at hcx)
      refine ⟨_, σ10, _, σ5, t, _, _, _, rfl, rfl, .of ht, hat, rfl, _, rfl, ?_⟩
      by_cases h0 : r[c]'(by omega) = 0
      · rw [h0, decide_eq_true rfl]
        refine iteF ⟨_, σ10, fm_keep mono_row pv hD (by omega) (Same.refl _) (by rw [hr1]; rfl) ⟨t, rfl, ?_⟩⟩
        unfold clr1
        rw [if_pos (by show r.getD c 0 = 0; rw [hcg]; exact h0)]
        exact ht
      · rw [decide_eq_false (fun e => h0 (V.int.inj e))]
        refine iteT ⟨_, σ0, _, σ10, _, σ7, _, σ10, _, σ5, t, _, _, _, rfl, rfl, .of ht, hat, .ref t, vg, p, _, r, g, rfl, p0, ⟨by omega, by omega⟩, ⟨t, rfl, ht⟩, mono_row _ _ _ _ pv.1.keep hvg, by omega, by omega, fun H5 v5 s5 hv5 => ?_⟩
        refine fm_keep mono_row pv hD (by omega) s5 (by rw [hr1]; rfl) ?_
        unfold clr1
        rw [if_neg (by show ¬ r.getD c 0 = 0; rw [hcg]; exact h0)]
        show rRow H5 v5 (lessL p r g (r.getD c 0))
        rw [hcg]
        exact hv5
    have hlen := paired_len hp
    refine ⟨_, rfl, a, xs, rfl, .inl (.of ha), fun la hla => ⟨Nat.zero_le _, fun fa hfa => ⟨_, _, rfl, ?_⟩⟩⟩
    have s1 := same_new (o := .lst xs) hla
    have s2 := same_new (o := .lst []) hfa
    dsimp only [gName, tSeq]
    refine ⟨_, rfl, _, rfl, by omega, by omega, ?_⟩
    refine for_it (walk_range (lo := 0) (n := ((wd : Nat) : Int).toNat)) (fun c σ H' => ∃ la fa lx fx left F x5 x6 x7 x8, σ = [some (.int p), some (.int (wd : Int)), some (.ref a), some (.ref la), some (.ref fa), x5, x6, x7, x8, none, none, none] ∧ Same H H' ∧ H la = none ∧ la ≠ fa ∧
      H' la = some (.lst lx) ∧ Paired (rRow H') lx left ∧ H' fa = some (.lst fx) ∧ Paired (rRow H') fx (F.map (·.2)) ∧ LI p wd rws c F left)
      ⟨la, fa, xs, [], rws, [], none, none, none, none, rfl, s1.trans s2, hla, (fun e => by subst e; rw [upd_same] at hfa; cases hfa), s2 _ _ upd_same, paired_mono mono_row (s1.trans s2).keep hp, upd_same, .nil, LI.start hrw⟩ (fun i σ H' _ h => trivial) ?_ ?_
    · rintro c x σ H3 H4 hc ⟨la, fa, lx, fx, left, F, x5, x6, x7, x8, rfl, s3, la0, laf, hl3, hlp, hf3, hfp, L⟩ ⟨rfl, rfl⟩
      rw [Int.toNat_natCast] at hc
      have hll := paired_len hlp
      have hfl := paired_len hfp
      rw [List.length_map] at hfl
      have hcnt := L.cnt
      refine ⟨_, rfl, la, lx, rfl, .of hl3, fun D hD => ?_⟩
      refine lc_fm (walk_enum (xs := lx)) rInt (atF left c) hD (fun H' s' => .of (s' _ _ hl3)) ?_ ?_
      · rintro i x H5 H6 hi pv ⟨tz, u1, u2, rfl, nz, rfl, e1, e2⟩
        cases (Option.some.inj e1)
        have s6 := same_new (o := .tup [V.int (i : Nat), u2]) nz
        obtain ⟨r, hr1, t, rfl, ht⟩ := paired_get (paired_mono mono_row (pv.1.trans s6).keep hlp) e2
        have hir := L.lf r (List.mem_of_getElem? hr1)
        have hcx : r[c]? = some (r[c]'(by have := hir.1; omega)) := List.getElem?_eq_getElem (by have := hir.1; omega)
        have hcg := getD_at (d := (0 : Int)) hcx
        refine ⟨tz, _, rfl, .of upd_same, rfl, _, _, rfl, _, _, rfl, rfl, rfl, ?_⟩
        refine ⟨_, rfl, _, rfl, t, _, _, _, rfl, rfl, .of ht, by rw [Int.zero_add]; exact atI_nat (int_at hcx), rfl, _, rfl, ?_⟩
        by_cases h0 : r[c]'(by have := hir.1; omega) = 0
        · rw [h0, decide_eq_true rfl]
          exact iteF (fm_skip mono_int pv s6 (by unfold atF; rw [hr1]; exact if_pos (by rw [hcg]; exact h0)))
        · rw [decide_eq_false (fun e => h0 (V.int.inj e))]
          exact iteT ⟨_, rfl, fm_keep mono_int pv hD (by omega) s6 (by unfold atF; rw [hr1]; exact if_neg (by rw [hcg]; exact h0)) rfl⟩
      · intro H5 ys s5 hD5 hp5
        have := paired_int hp5
        subst this
        rw [hll] at hD5
        have lD : la ≠ D := fun e => by subst e; rw [hl3] at hD; cases hD
        have hl5 := s5 _ _ hl3
        have hlp5 := paired_mono mono_row s5.keep hlp
        have hf5 := s5 _ _ hf3
        have hfp5 := paired_mono mono_row s5.keep hfp
        have s35 := s3.trans s5
        dsimp only [gName, tSeq]
        refine ⟨_, rfl, D, _, rfl, .inl (.of hD5), _, _, rfl, rfl, _, rfl, ?_⟩
        cases hsm : (List.range left.length).filterMap (atF left c) with
        | nil =>
          rw [decide_eq_false (by simp)]
          exact iteF ⟨la, fa, lx, fx, left, F, _, _, _, _, rfl, s35, la0, laf, hl5, hlp5, hf5, hfp5, L.skip (atF_none hsm)⟩
        | cons k0 sm =>
          rw [hsm] at hD5
          obtain ⟨k, head, rfl, hk, h0⟩ := atF_some (left := left) (c := c) (x := k0) (by rw [hsm]; simp)
          have hkl := (List.getElem?_eq_some_iff.mp hk).1
          have hh := L.lf head (List.mem_of_getElem? hk)
          have hhl : head.length = wd := by have := hh.1; omega
          rw [decide_eq_true (by simp)]
          obtain ⟨vh, hvh, th, rfl, hth⟩ := paired_get2 hlp5 hk
          refine iteT ⟨_, rfl, .inl ⟨rfl, _, .of hl5⟩, _, rfl, D, _, _, _, rfl, rfl, .of hD5, at_of (j := 0) rfl rfl, la, lx, _, k, _, rfl, rfl, hl5, by omega, by omega, seqIx_nat (by omega), hvh, ?_⟩
          have s6 : Same H (upd H5 la (.lst (lx.eraseIdx k))) := same_own s35 la0
          have kp6 : Keep H5 (upd H5 la (.lst (lx.eraseIdx k))) := keep_lst hl5
          have hth6 := kp6.tup hth
          have hf6 : (upd H5 la (.lst (lx.eraseIdx k))) fa = some (.lst fx) := by rw [upd_ne laf.symm]; exact hf5
          dsimp only [gName, tSeq]
          have hcx : head[c]? = some (head[c]'(by omega)) := List.getElem?_eq_getElem (by omega)
          have hcg := getD_at (d := (0 : Int)) hcx
          have hb := getD_in p0 hh.2 c
          refine ⟨_, rfl, _, rfl, _, rfl, th, _, _, _, rfl, rfl, .of hth6, by rw [Int.zero_add]; exact atI_nat (int_at hcx), ?_⟩
          rw [← hcg]
          refine ⟨p, _, rfl, prm, pm, by omega, by omega, fun u u0 u1 hu => ?_⟩
          dsimp only [gName, tSeq]
          refine ⟨_, rfl, th, rfl, ⟨_, .of hth6⟩, fun D2 hD2 => ?_⟩
          refine lc_fm (walk_tup (xs := head.map V.int)) rInt (fun i => head[i]?.bind fun x => some (u * x % p)) hD2 (fun H' s' => .of (s'.keep.tup hth6)) ?_ ?_
          · rintro i x H7 H8 hi pv ⟨rfl, hx⟩
            obtain ⟨j, hj, rfl⟩ := at_int hx
            rw [List.length_map] at hi
            refine ⟨rfl, _, rfl, _, rfl, _, _, rfl, rfl, .inr ⟨by omega, by omega⟩, .inl ⟨_, rfl, _, rfl, _, _, rfl, rfl, p0, ?_⟩⟩
            exact fm_keep mono_int pv hD2 (by omega) (Same.refl _) (by rw [hj]; rfl) (by rw [Int.mul_comm u]; rfl)
          · intro H7 ys s7 hD7 hp7
            rw [List.length_map, fm_some] at hp7
            have := paired_int hp7
            subst this
            refine ⟨D2, _, rfl, .inl ⟨.of hD7, fun tg ntg => ?_⟩⟩
            have Ln := L.put p2 hk hc h0 hu
            have s8 := s7.trans (same_new (o := .tup ((head.map fun x => u * x % p).map V.int)) ntg)
            have hg8 : rRow (upd H7 tg (.tup ((head.map fun x => u * x % p).map V.int))) (.ref tg) (mulL p u head) := ⟨tg, rfl, upd_same⟩
            generalize hg : mulL p u head = g at hg8 Ln
            have hgl : g.length = wd := by rw [← hg]; unfold mulL; rw [List.length_map]; exact hhl
            have hl8 := s8 _ _ (upd_same (H := H5) (a := la) (o := .lst (lx.eraseIdx k)))
            have hf8 := s8 _ _ hf6
            have hlp8 : Paired (rRow (upd H7 tg (.tup ((head.map fun x => u * x % p).map V.int)))) (lx.eraseIdx k) (left.eraseIdx k) := by
              have h1 := paired_mono mono_row (kp6.trans s8.keep) hlp5
              rw [List.eraseIdx_eq_take_drop_succ, List.eraseIdx_eq_take_drop_succ]
              exact paired_app (paired_take k h1) (paired_drop (k + 1) h1)
            have hfp8 := paired_mono mono_row (kp6.trans s8.keep) hfp5
            have hel := paired_len hlp8
            have hel2 := List.length_eraseIdx_of_lt hkl
            dsimp only [gName, tSeq]
            refine ⟨_, rfl, la, rfl, ⟨_, .of hl8⟩, fun D3 hD3 => ?_⟩
            refine lc_fm (walk_list (xs := lx.eraseIdx k)) rRow (fun i => (left.eraseIdx k)[i]?.bind fun r => some (clr1 p r (c, g))) hD3 (fun H' s' => .of (s' _ _ hl8)) ?_ ?_
            · rintro i x H9 H10 hi pv ⟨rfl, hx⟩
              exact ⟨rfl, turn hD3 (by omega) hlp8 (fun r hr => by have := L.lf r (List.mem_of_mem_eraseIdx hr); exact ⟨by have := this.1; omega, this.2⟩) hg8 hgl hc pv hx ⟨rfl, rfl, rfl, rfl⟩⟩
            · intro H9 zs s9 hD9 hp9
              rw [hel, fm_some] at hp9
              have hf9 := s9 _ _ hf8
              have hfp9 := paired_mono mono_row s9.keep hfp8
              have hg9 := mono_row _ _ _ _ s9.keep hg8
              dsimp only [gName, tSeq]
              refine ⟨_, rfl, fa, rfl, ⟨_, .of hf9⟩, fun D4 hD4 => ?_⟩
              refine lc_fm (walk_list (xs := fx)) rRow (fun i => (F.map (·.2))[i]?.bind fun r => some (clr1 p r (c, g))) hD4 (fun H' s' => .of (s' _ _ hf9)) ?_ ?_
              · rintro i x H10 H11 hi pv ⟨rfl, hx⟩
                exact ⟨rfl, turn hD4 (by omega) hfp9 (fun r hr => by obtain ⟨z, hz, rfl⟩ := List.mem_map.mp hr; exact (L.ok z hz).2) hg9 hgl hc pv hx ⟨rfl, rfl, rfl, rfl⟩⟩
              · intro H10 ws s10 hD10 hp10
                rw [paired_len hfp9, fm_some] at hp10
                have hwl := paired_len hp10
                rw [List.length_map, List.length_map] at hwl
                refine ⟨_, rfl, by show 1 ≤ sizeLine; decide, fun l1 nl1 => ⟨D4, l1, ws, _, rfl, rfl, (same_new nl1) _ _ hD10, upd_same, Nat.le_trans (by rw [List.length_singleton]; omega : _ ≤ 1000) (by decide), fun fn nfn => ?_⟩⟩
                have s11 := (same_new (o := .lst [V.ref tg]) nl1).trans (same_new (o := .lst (ws ++ [V.ref tg])) nfn)
                have s911 := s10.trans s11
                have ef : (putIn p F c g).map (·.2) = (F.map (·.2)).map (fun r => clr1 p r (c, g)) ++ [g] := by
                  unfold putIn
                  rw [List.map_append, List.map_map, List.map_map]
                  rfl
                have D30 : H D3 = none := (s6.trans s8).free hD3
                refine ⟨D3, fn, zs, ws ++ [V.ref tg], _, putIn p F c g, _, _, _, _, rfl, ((s6.trans s8).trans s9).trans s911, D30, (fun e => ?_), s911 _ _ hD9, paired_mono mono_row s911.keep hp9, upd_same, ?_, Ln⟩
                · have := (s10.trans (same_new (o := .lst [V.ref tg]) nl1)) _ _ hD9
                  rw [e, nfn] at this
                  cases this
                · rw [ef]
                  exact paired_app (paired_mono mono_row s11.keep hp10) (.cons (mono_row _ _ _ _ s911.keep hg9) .nil)
    · rintro σ H3 ⟨la, fa, lx, fx, left, F, x5, x6, x7, x8, rfl, s3, la0, laf, hl3, hlp, hf3, hfp, L⟩
      rw [Int.toNat_natCast] at L
      refine ⟨_, rfl, fa, fx, rfl, .inl ⟨.of hf3, fun nt nnt => ?_⟩⟩
      have s4 := same_new (o := .tup fx) nnt
      exact q _ _ _ (s3.trans s4) ⟨nt, fx, rfl, upd_same, paired_mono mono_row s4.keep hfp⟩ L.fin
end
end S4

namespace S4
open PySem L2 TT MM
section
variable {P : Program} {w : World} {K : PySem.W.Frag} {mg : Str → Option Value} {base : Heap} {cT cS : Addr}
def spSomeRows : Sp := fun vs H Q _ => ∃ (g c : Addr) (p : Int) (wd many : Nat), vs = [.ref g, .int p, .int (wd : Int), .int (many : Int)] ∧ 2 ≤ p ∧ p ≤ 999983 ∧ wd ≤ 1000 ∧ many ≤ 1000 ∧ Hand g c H ∧
  ∀ H' r xs rws, But g H H' → Hand g c H' → H r = none → r ≠ g → r ≠ c → H' r = some (.lst xs) → Paired (rRow H') xs rws → rws.length = many → (∀ l ∈ rws, isRow l p wd) → Q (.ref r) H'
theorem ok_some_rows (T : Tx K mg cT cS) {f : Addr} {fd : FuncData} (d : D K mg "_law_some_rows" s_law_some_rows ["hand", "p", "wide", "many"] f fd) : FnOk P w K mg base CX0 4 f fd ["hand", "p", "wide", "many"] spSomeRows := by
  obtain ⟨f1, fd1, d1⟩ := T.d_law_some_row
  have G1 : FnOk P w K mg base CX0 3 f1 fd1 ["hand", "p", "wide", "rows"] spSomeRow := ok_some_row T d1
  refine d.F.ok sc_law_some_rows (fun vs H Q E h => ?_) (fun cdv A outer s H vs Q E hr h => ?_)
  · obtain ⟨g, c, p, wd, many, rfl, _⟩ := h
    rfl
  · obtain ⟨g, c, p, wd, many, rfl, p2, pm, hwd, hm, hh, q⟩ := h
    refine ⟨_, pss_cons (ps_set (i := 4) sc_law_some_rows.nd rfl (.inl rfl) (pe_lst pa_nil))
      (pss_cons (ps_for PassesOwn.never rfl (pi_range1 rfl T.b_range (pa_cons (pv 3) pa_nil)) (pg_name (i := 5) sc_law_some_rows.nd rfl (Or.inl rfl))
        (pss_one (ps_expr (pe_bm PySem.F.plainAttrs_list PySem.F.slot_list_append PySem.F.type_list_append mt_append (pv 4) (pa_cons
          (pe_call G1 hr rfl d1.m d1.F.kp d1.b .nil pass0 (pa_cons (pv 0) (pa_cons (pv 1) (pa_cons (pv 2) (pa_cons (pv 4) pa_nil))))) pa_nil)))))
      (pss_one (ps_ret (pv 4)))), ?_⟩
    refine ⟨by show 0 ≤ sizeLine; decide, fun r nr => ?_⟩
    have s1 := same_new (o := .lst []) nr
    have rg := hand_new hh nr
    dsimp only [gName, tSeq]
    refine ⟨_, rfl, _, rfl, by omega, by omega, ?_⟩
    refine for_it (walk_range (lo := 0) (n := ((many : Nat) : Int).toNat)) (fun i σ H' => ∃ x xs rws, σ = [some (.ref g), some (.int p), some (.int (wd : Int)), some (.int (many : Int)), some (.ref r), x] ∧ But g H H' ∧ Hand g c H' ∧ H' r = some (.lst xs) ∧ Paired (rRow H') xs rws ∧ rws.length = i ∧ ∀ l ∈ rws, isRow l p wd)
      ⟨none, [], [], rfl, s1.but g, hh.same s1, upd_same, .nil, rfl, fun _ h => (nomatch h)⟩ (fun i σ H' _ h => trivial) ?_ ?_
    · rintro i x σ H2 H3 hi ⟨y, xs, rws, rfl, bt, hh2, hr2, hp2, hl2, hrw2⟩ ⟨rfl, rfl⟩
      rw [Int.toNat_natCast] at hi
      have hxl := paired_len hp2
      refine ⟨_, rfl, .inl ⟨rfl, _, .of hr2⟩, ?_⟩
      refine ⟨_, rfl, _, rfl, _, rfl, _, rfl, g, c, r, p, wd, xs, rws, rfl, p2, pm, hwd, hr2, rg.1, hp2, by omega, hrw2, hh2, fun H4 v l b4 hh4 hv hir => ?_⟩
      have hr4 := b4.lst rg.1 hr2
      have k5 : Keep _ _ := keep_lst (o := .lst (xs ++ [v])) hr4
      refine ⟨r, xs, v, rfl, rfl, hr4, Nat.lt_of_le_of_lt (by omega : xs.length ≤ 1000) (by decide), ?_⟩
      refine ⟨_, xs ++ [v], rws ++ [l], rfl, fun a u ha e => ?_, hh4.setD rg.1 rg.2, upd_same, paired_app (paired_mono mono_row ((hh2.keep b4).trans k5) hp2) (.cons (mono_row _ _ _ _ k5 hv) .nil), by rw [List.length_append, hl2]; rfl, fun z hz => ?_⟩
      · rw [upd_ne (fun q => by subst q; rw [nr] at e; cases e)]
        exact (bt.trans b4) a u ha e
      · rcases List.mem_append.mp hz with hz | hz
        · exact hrw2 z hz
        · rw [List.mem_singleton.mp hz]; exact hir
    · rintro σ H2 ⟨y, xs, rws, rfl, bt, hh2, hr2, hp2, hl2, hrw2⟩
      rw [Int.toNat_natCast] at hl2
      exact ⟨_, rfl, q _ r xs rws bt hh2 nr rg.1 rg.2 hr2 hp2 hl2 hrw2⟩
/-! ### p multiplied by itself -/
def spMany : Sp := fun vs H Q _ => ∃ (p : Int) (n : Nat), vs = [.int p, .int (n : Int)] ∧ 0 ≤ p ∧ p ≤ 1000000 ∧ n ≤ 1000 ∧ Q (.int (p ^ n)) H
theorem ok_many (T : Tx K mg cT cS) {f : Addr} {fd : FuncData} (d : D K mg "_law_many" s_law_many ["p", "times"] f fd) : FnOk P w K mg base CX0 1 f fd ["p", "times"] spMany := by
  refine d.F.ok sc_law_many (fun vs H Q E h => ?_) (fun cdv A outer s H vs Q E hr h => ?_)
  · obtain ⟨p, n, rfl, _⟩ := h
    rfl
  · obtain ⟨p, n, rfl, p0, pm, hn, q⟩ := h
    refine ⟨_, pss_cons (ps_set (i := 2) sc_law_many.nd rfl (.inl rfl) pe_int)
      (pss_cons (ps_for PassesOwn.never rfl (pi_range1 rfl T.b_range (pa_cons (pv 1) pa_nil)) (pg_name (i := 3) sc_law_many.nd rfl (Or.inl rfl))
        (pss_one (ps_set (i := 2) sc_law_many.nd rfl (.inl rfl) (pe_op op_mul (pv 2) (pv 0)))))
      (pss_one (ps_ret (pv 2)))), ?_⟩
    dsimp only [gName, tSeq]
    refine ⟨_, rfl, _, rfl, by omega, by omega, ?_⟩
    refine for_it (walk_range (lo := 0) (n := ((n : Nat) : Int).toNat)) (fun i σ H' => H' = H ∧ ∃ x, σ = [some (.int p), some (.int (n : Int)), some (.int (p ^ i)), x]) ⟨rfl, none, by rw [Int.pow_zero]; rfl⟩ (fun i σ H' _ h => trivial) ?_ ?_
    · rintro i x σ H2 H3 hi ⟨rfl, y, rfl⟩ ⟨rfl, rfl⟩
      refine ⟨_, rfl, _, rfl, _, _, rfl, rfl, .inr ⟨by omega, by omega⟩, rfl, _, by rw [Int.pow_succ]; rfl⟩
    · rintro σ H2 ⟨rfl, y, rfl⟩
      rw [Int.toNat_natCast]
      exact ⟨_, rfl, q⟩
end
end S4

namespace S4
open PySem L2 TT MM
section
variable {P : Program} {w : World} {K : PySem.W.Frag} {mg : Str → Option Value} {base : Heap} {cT cS : Addr}
def spMixedV : Sp := fun vs H Q _ => ∃ (g c b : Addr) (ns : List V), vs = [.ref g, .ref b] ∧ H b = some (.lst ns) ∧ b ≠ g ∧ ns.length ≤ 1000 ∧ Hand g c H ∧
  ∀ H' p (ms : List V), But g H H' → Hand g c H' → H p = none → H' p = some (.lst ms) → ms.Perm ns → Q (.ref p) H'
theorem ok_mixedV (T : Tx K mg cT cS) {f : Addr} {fd : FuncData} (d : D K mg "_law_mixed" s_law_mixed ["hand", "items"] f fd) : FnOk P w K mg base CX0 2 f fd ["hand", "items"] spMixedV := by
  obtain ⟨f1, fd1, d1⟩ := T.d_law_draw
  have G1 : FnOk P w K mg base CX0 1 f1 fd1 ["hand", "many"] spDraw := ok_draw T d1
  refine d.F.ok sc_law_mixed (fun vs H Q E h => ?_) (fun cdv A outer s H vs Q E hr h => ?_)
  · obtain ⟨g, c, b, ns, rfl, _⟩ := h
    rfl
  · obtain ⟨g, c, b, ns, rfl, hb, hne, hl, hh, q⟩ := h
    refine ⟨_, pss_cons (ps_par (i := 2) (j := 3) (by rfl) sc_law_mixed.nd rfl rfl (by decide) rfl rfl (pa_cons (pe_callTy call_list_of (by rfl) T.b_list (by decide +kernel) (pa_cons (pv 1) pa_nil)) (pa_cons (pe_lst pa_nil) pa_nil)) (by rfl))
      (pss_cons (ps_for PassesOwn.never rfl (pi_range1 rfl T.b_range (pa_cons (pe_callB call_len_seq (by rfl) T.b_len PySem.boot_len (pa_cons (pv 2) pa_nil)) pa_nil)) (pg_name (i := 4) sc_law_mixed.nd rfl (Or.inl rfl))
        (pss_one (ps_expr (pe_bm PySem.F.plainAttrs_list PySem.F.slot_list_append PySem.F.type_list_append mt_append (pv 3)
          (pa_cons (pe_bm PySem.F.plainAttrs_list PySem.F.slot_list_pop PySem.F.type_list_pop mt_popAt (pv 2)
            (pa_cons (pe_call G1 hr rfl d1.m d1.F.kp d1.b .nil pass0 (pa_cons (pv 0) (pa_cons (pe_callB call_len_seq (by rfl) T.b_len PySem.boot_len (pa_cons (pv 2) pa_nil)) pa_nil))) pa_nil)) pa_nil)))))
      (pss_one (ps_ret (pv 3)))), ?_⟩
    refine ⟨_, rfl, b, _, rfl, .inl (.of hb), fun l nl => ⟨Nat.zero_le _, fun o no => ⟨_, _, rfl, ?_⟩⟩⟩
    have s1 := same_new (o := .lst ns) nl
    have s2 := same_new (o := .lst []) no
    have hlo : l ≠ o := fun e => by subst e; rw [upd_same] at no; cases no
    have no0 : H o = none := s1.free no
    obtain ⟨lg, lc⟩ := hand_new hh nl
    obtain ⟨og, oc⟩ := hand_new hh no0
    have hl2 : (upd (upd H l (.lst ns)) o (.lst [])) l = some (.lst ns) := s2 _ _ upd_same
    dsimp only [gName, tSeq]
    refine ⟨_, rfl, _, _, rfl, .inl (.of hl2), _, rfl, by omega, by omega, ?_⟩
    refine for_range (lo := 0) (n := ((ns.length : Nat) : Int).toNat) (fun i σ H' => ∃ (ms1 ms2 : List V) (x : Option V), σ = [some (.ref g), some (.ref b), some (.ref l), some (.ref o), x] ∧ But g H H' ∧ Hand g c H' ∧ H' l = some (.lst ms1) ∧ H' o = some (.lst ms2) ∧
      (ms2 ++ ms1).Perm ns ∧ ms2.length = i) ⟨ns, [], none, rfl, ((s1.trans s2).but g), hh.same (s1.trans s2), hl2, upd_same, .refl _, rfl⟩ ?_ ?_
    · rintro i σ H2 hi ⟨ms1, ms2, x, rfl, bt, hh2, h1, h2, hp, hm⟩
      rw [Int.toNat_natCast] at hi
      have hlen := hp.length_eq
      rw [List.length_append] at hlen
      refine ⟨_, rfl, .inl ⟨rfl, _, .of h2⟩, _, rfl, .inl ⟨rfl, _, .of h1⟩, _, rfl, _, rfl, _, _, rfl, .inl (.of h1), g, c, _, rfl, by omega, by omega, hh2, fun H3 k b3 hh3 k0 k1 => ?_⟩
      obtain ⟨j, rfl⟩ : ∃ j : Nat, k = (j : Int) := ⟨k.toNat, by omega⟩
      have hj : ms1[j]? = some (ms1[j]'(by omega)) := List.getElem?_eq_getElem (by omega)
      have h13 := b3.lst lg h1
      have h23 := b3.lst og h2
      refine ⟨l, _, _, j, _, rfl, rfl, h13, by omega, by omega, ?_, hj, ?_⟩
      · exact seqIx_nat (by omega)
      refine ⟨o, _, _, rfl, rfl, by rw [upd_ne hlo.symm]; exact h23, Nat.lt_of_le_of_lt (by omega : ms2.length ≤ 1000) (by decide), ?_⟩
      refine ⟨ms1.eraseIdx j, ms2 ++ [ms1[j]'(by omega)], _, rfl, fun a u ha e => ?_, ?_, ?_, ?_, ?_, by rw [List.length_append, hm]; rfl⟩
      · rw [upd_ne (fun z => by subst z; rw [no0] at e; cases e), upd_ne (fun z => by subst z; rw [nl] at e; cases e)]
        exact (bt.trans b3) a u ha e
      · exact (hh3.setD lg lc).setD og oc
      · rw [upd_ne hlo, upd_same]
      · rw [upd_same]
      · have e1 := erase_perm (l := ms1) (i := j) (by omega)
        rw [List.append_assoc]
        exact (List.Perm.append_left ms2 e1).trans hp
    · rintro σ H2 ⟨ms1, ms2, x, rfl, bt, hh2, h1, h2, hp, hm⟩
      rw [Int.toNat_natCast] at hm
      have hlen := hp.length_eq
      rw [List.length_append] at hlen
      have : ms1 = [] := List.eq_nil_of_length_eq_zero (by omega)
      subst this
      rw [List.append_nil] at hp
      exact ⟨_, rfl, q _ o ms2 bt hh2 no0 h2 hp⟩
end
end S4

namespace S4
open PySem L2 TT MM
def rowsS (rws : List (List Int)) : Vc → Prop := fun v => ∃ l ∈ rws, v = vec l
theorem vec_zero (n x : Nat) : vec (List.replicate n 0) x = 0 := by
  unfold vec
  rw [List.getD_eq_getElem?_getD]
  cases e : (List.replicate n (0 : Int))[x]? with
  | none => rfl
  | some y => exact (List.mem_replicate.mp (List.mem_of_getElem? e)).2
section
variable {P : Program} {w : World} {K : PySem.W.Frag} {mg : Str → Option Value} {base : Heap} {cT cS : Addr}
def spSummedV : Sp := fun vs H Q _ => ∃ (a b : Addr) (p : Int) (wd : Nat) (xs : List V) (rws : List (List Int)) (ms : List Int), vs = [.int p, .int (wd : Int), .ref a, .ref b] ∧ 0 < p ∧ wd ≤ 1000 ∧ H a = some (.lst xs) ∧ Paired (rRow H) xs rws ∧ (∀ r ∈ rws, r.length = wd) ∧
  H b = some (.lst (ms.map V.int)) ∧ (∀ m ∈ ms, -(2 ^ 63) < m ∧ m < 2 ^ 63) ∧ ∀ H' v' l, Same H H' → rRow H' v' l → isRow l p wd → Spn p (rowsS rws) (vec l) → Q v' H'
theorem ok_summedV (T : Tx K mg cT cS) {f : Addr} {fd : FuncData} (d : D K mg "_law_summed" s_law_summed ["p", "wide", "rows", "many"] f fd) : FnOk P w K mg base CX0 2 f fd ["p", "wide", "rows", "many"] spSummedV := by
  obtain ⟨f1, fd1, d1⟩ := T.d_law_less
  have G1 : FnOk P w K mg base CX0 1 f1 fd1 ["p", "row", "other", "many"] spLessV := ok_lessV T d1
  refine d.F.ok sc_law_summed (fun vs H Q E h => ?_) (fun cdv A outer s H vs Q E hr h => ?_)
  · obtain ⟨a, b, p, wd, xs, rws, ms, rfl, _⟩ := h
    rfl
  · obtain ⟨a, b, p, wd, xs, rws, ms, rfl, p0, hw, ha, hp, hrw, hb, hms, q⟩ := h
    refine ⟨_, pss_cons (ps_set (i := 4) sc_law_summed.nd rfl (.inl rfl) (pe_op op_repA (pe_tup (pa_cons pe_int pa_nil)) (pv 1)))
      (pss_cons (ps_for PassesOwn.never rfl (pi_zip (by rfl) T.b_zip (pa_cons (pv 2) (pa_cons (pv 3) pa_nil))) (pg_tup rfl (pgs_cons (pg_name (i := 5) sc_law_summed.nd rfl (.inl rfl)) (pgs_cons (pg_name (i := 6) sc_law_summed.nd rfl (.inl rfl)) pgs_nil)))
        (pss_one (ps_set (i := 4) sc_law_summed.nd rfl (.inl rfl) (pe_ifExp (pt_cmpR op_ne (pv 6) pe_int (nomark _)) (pe_call G1 hr rfl d1.m d1.F.kp d1.b .nil pass0 (pa_cons (pv 0) (pa_cons (pv 4) (pa_cons (pv 5) (pa_cons (pe_un un_neg (pv 6)) pa_nil))))) (pv 4)))))
      (pss_one (ps_ret (pv 4)))), ?_⟩
    refine ⟨by show 1 ≤ sizeLine; decide, fun t nt => ⟨_, rfl, ?_⟩⟩
    refine zeros upd_same hw fun H2 v2 s2 hrow2 => ?_
    have s02 := (same_new nt).trans s2
    dsimp only [gName, tSeq]
    refine ⟨_, rfl, _, rfl, a, b, _, _, rfl, .of (s02 _ _ ha), .of (s02 _ _ hb), ?_⟩
    refine for_it (walk_zip (n := min xs.length (ms.map V.int).length) rfl) (fun i σ H' => Same H H' ∧ ∃ (v : V) (l : List Int) (x y : Option V), σ = [some (.int p), some (.int (wd : Int)), some (.ref a), some (.ref b), some v, x, y] ∧ rRow H' v l ∧ isRow l p wd ∧ Spn p (rowsS rws) (vec l))
      ⟨s02, v2, _, none, none, rfl, hrow2, isRow_zeros p0 wd, .zero fun x => .of_eq (vec_zero wd x)⟩ (fun i σ H' _ h => ⟨.of (h.1 _ _ ha), .of (h.1 _ _ hb)⟩) ?_ ?_
    · rintro i x σ H3 H4 hi ⟨s3, v, l, x1, x2, rfl, hrow, hir, hsp⟩ ⟨tz, u1, u2, rfl, nz, rfl, e1, e2⟩
      have s4 := same_new (o := .tup [u1, u2]) nz
      obtain ⟨r, hr1, hrr⟩ := paired_get (paired_mono mono_row (s3.trans s4).keep hp) e1
      obtain ⟨m, hm, rfl⟩ := at_int e2
      have hmb := hms m (List.mem_of_getElem? hm)
      have hrl := hrw r (List.mem_of_getElem? hr1)
      have hll := hir.1
      refine ⟨tz, _, rfl, .of upd_same, rfl, _, _, rfl, _, _, rfl, rfl, ?_⟩
      refine ⟨_, rfl, rfl, _, rfl, ?_⟩
      by_cases hz : m = 0
      · subst hz
        rw [decide_eq_true rfl]
        exact iteF ⟨_, rfl, s3.trans s4, v, l, _, _, rfl, mono_row _ _ _ _ s4.keep hrow, hir, hsp⟩
      · rw [decide_eq_false (fun e => hz (V.int.inj e))]
        refine iteT ⟨_, rfl, _, rfl, _, rfl, _, rfl, m, rfl, v, u1, p, -m, l, r, rfl, p0, ⟨by omega, by omega⟩, mono_row _ _ _ _ s4.keep hrow, hrr, by omega, by omega, fun H5 v5 s5 hrow5 => ?_⟩
        exact ⟨(s3.trans s4).trans s5, v5, _, _, _, rfl, hrow5, ⟨by rw [lessL_len]; exact hir.1, lessL_in p0 _ _ _⟩, .plus m hsp (.row ⟨r, List.mem_of_getElem? hr1, rfl⟩) fun x => (lessL_vec (by omega) _ x).trans (.of_eq (by rw [Int.neg_mul]; omega))⟩
    · rintro σ H3 ⟨s3, v, l, x1, x2, rfl, hrow, hir, hsp⟩
      exact ⟨_, rfl, q _ _ l s3 hrow hir hsp⟩
end
end S4

namespace S4
open PySem L2 TT MM
theorem ixN_nat {n j : Nat} (h : j < n) : ixN n (j : Int) = some j := by
  unfold ixN
  rw [if_pos (by omega), if_pos (by omega), Int.toNat_natCast]
theorem same2_set {p : Int} {fnd : List (List Int)} {k : Nat} {r r' : List Int} (hk : fnd[k]? = some r) (h1 : Spn p (rowsS fnd) (vec r')) (h2 : Spn p (rowsS (fnd.set k r')) (vec r)) : Same2 p (rowsS (fnd.set k r')) (rowsS fnd) := by
  have hlt := (List.getElem?_eq_some_iff.mp hk).1
  refine same2_of (fun v h => ?_) (fun v h => ?_)
  · obtain ⟨l, hl, rfl⟩ := h
    rcases List.mem_or_eq_of_mem_set hl with h | h
    · exact .row ⟨l, h, rfl⟩
    · rw [h]; exact h1
  · obtain ⟨l, hl, rfl⟩ := h
    obtain ⟨i, hi⟩ := List.getElem?_of_mem hl
    by_cases e : i = k
    · subst e
      rw [hk] at hi
      rw [← Option.some.inj hi]
      exact h2
    · exact .row ⟨l, List.mem_of_getElem? (i := i) (by rw [List.getElem?_set_ne (fun q => e q.symm)]; exact hi), rfl⟩
theorem paired_set {α β : Type} {F : α → β → Prop} : ∀ {xs : List α} {l : List β} (k : Nat) {x : α} {y : β}, Paired F xs l → F x y → Paired F (xs.set k x) (l.set k y)
  | _, _, _, _, _, .nil, _ => .nil
  | _, _, 0, _, _, .cons r t, h => .cons h t
  | _, _, k + 1, _, _, .cons r t, h => .cons r (paired_set k t h)
section
variable {P : Program} {w : World} {K : PySem.W.Frag} {mg : Str → Option Value} {base : Heap} {cT cS : Addr}
def spOther : Sp := fun vs H Q _ => ∃ (g c a : Addr) (p : Int) (wd : Nat) (xs : List V) (rws : List (List Int)), vs = [.ref g, .int p, .int (wd : Int), .ref a] ∧ Prm p ∧ p ≤ 999983 ∧ wd ≤ 1000 ∧ H a = some (.lst xs) ∧ a ≠ g ∧ a ≠ c ∧ Paired (rRow H) xs rws ∧ rws.length ≤ 200 ∧ (∀ r ∈ rws, isRow r p wd) ∧ Hand g c H ∧
  ∀ H' r ys rws', But g H H' → Hand g c H' → H r = none → r ≠ g → H' r = some (.lst ys) → Paired (rRow H') ys rws' → rws'.length ≤ 200 → rws'.length ≤ rws.length + 1 → (∀ l ∈ rws', isRow l p wd) → Same2 p (rowsS rws') (rowsS rws) → Q (.ref r) H'
theorem ok_other (T : Tx K mg cT cS) {f : Addr} {fd : FuncData} (d : D K mg "_law_other_rows" s_law_other_rows ["hand", "p", "wide", "rows"] f fd) : FnOk P w K mg base CX0 3 f fd ["hand", "p", "wide", "rows"] spOther := by
  obtain ⟨f1, fd1, d1⟩ := T.d_law_draw
  have G1 : FnOk P w K mg base CX0 1 f1 fd1 ["hand", "many"] spDraw := ok_draw T d1
  obtain ⟨f2, fd2, d2⟩ := T.d_law_mixed
  have G2 : FnOk P w K mg base CX0 2 f2 fd2 ["hand", "items"] spMixedV := ok_mixedV T d2
  obtain ⟨f3, fd3, d3⟩ := T.d_law_less
  have G3 : FnOk P w K mg base CX0 1 f3 fd3 ["p", "row", "other", "many"] spLessV := ok_lessV T d3
  obtain ⟨f4, fd4, d4⟩ := T.d_law_summed
  have G4 : FnOk P w K mg base CX0 2 f4 fd4 ["p", "wide", "rows", "many"] spSummedV := ok_summedV T d4
  refine d.F.ok sc_law_other_rows (fun vs H Q E h => ?_) (fun cdv A outer s H vs Q E hr h => ?_)
  · obtain ⟨g, c, a, p, wd, xs, rws, rfl, _⟩ := h
    rfl
  · obtain ⟨g, c, a, p, wd, xs, rws, rfl, prm, pm, hwd, ha, hag, hac, hp, hl, hrw, hh, q⟩ := h
    have p2 := prm.1
    have p0 : 0 < p := by omega
    have hlen := paired_len hp
    refine ⟨_, pss_cons (ps_set (i := 4) sc_law_other_rows.nd rfl (.inl rfl) (pe_call G2 hr rfl d2.m d2.F.kp d2.b .nil pass0 (pa_cons (pv 0) (pa_cons (pv 3) pa_nil))))
      (pss_cons (ps_for PassesOwn.never rfl (pi_range1 rfl T.b_range (pa_cons pe_int pa_nil)) (pg_name (i := 5) sc_law_other_rows.nd rfl (Or.inl rfl))
        (pss_one (ps_if (pt_cmpR op_gt (pe_callB call_len_seq (by rfl) T.b_len PySem.boot_len (pa_cons (pv 4) pa_nil)) pe_int (nomark _))
          (pss_cons (ps_par (i := 6) (j := 7) (by rfl) sc_law_other_rows.nd rfl rfl (by decide) rfl rfl
              (pa_cons (pe_call G1 (hr.mono (by decide)) rfl d1.m d1.F.kp d1.b .nil pass0 (pa_cons (pv 0) (pa_cons (pe_callB call_len_seq (by rfl) T.b_len PySem.boot_len (pa_cons (pv 4) pa_nil)) pa_nil)))
              (pa_cons (pe_call G1 (hr.mono (by decide)) rfl d1.m d1.F.kp d1.b .nil pass0 (pa_cons (pv 0) (pa_cons (pe_callB call_len_seq (by rfl) T.b_len PySem.boot_len (pa_cons (pv 4) pa_nil)) pa_nil))) pa_nil)) (by rfl))
          (pss_one (ps_if (pt_cmpR op_eq (pv 6) (pv 7) (nomark _))
            (pss_cons (ps_set (i := 8) sc_law_other_rows.nd rfl (.inr rfl) (pe_op op_add pe_int (pe_call G1 (hr.mono (by decide)) rfl d1.m d1.F.kp d1.b .nil pass0 (pa_cons (pv 0) (pa_cons (pe_op op_sub (pv 1) pe_int) pa_nil)))))
              (pss_one (ps_asg (pe_callTy call_tuple_of (by rfl) T.b_tuple (by decide +kernel) (pa_cons
                (pe_lc (own := [("value", 10)]) (g := gName 10) (tt := tYes) rfl sc_law_other_rows.nd (pi_tup (pe_ix ix_list (pv 4) (pv 6) (fun _ _ => rfl))) (blkOk_by (N := N_law_other_rows) (sc := defScope s_law_other_rows) (by decide +kernel))
                  (fun _ _ _ _ _ => pg_name (i := 10) sc_law_other_rows.nd rfl (Or.inl rfl)) (fun _ _ _ _ _ => pts_nil)
                  (fun _ _ _ _ _ => pe_op op_mod (pe_callTy call_int1 (by rfl) T.b_int (by decide +kernel) (pa_cons (pe_op op_mul (pv 10) (pv 8)) pa_nil)) (pv 1))) pa_nil)) (pg_sub (pv 4) (pv 6) set_list))))
            (pss_one (ps_asg (pe_call G3 (hr.mono (by decide)) rfl d3.m d3.F.kp d3.b .nil pass0 (pa_cons (pv 1) (pa_cons (pe_ix ix_list (pv 4) (pv 6) (fun _ _ => rfl)) (pa_cons (pe_ix ix_list (pv 4) (pv 7) (fun _ _ => rfl))
              (pa_cons (pe_call G1 (hr.mono (by decide)) rfl d1.m d1.F.kp d1.b .nil pass0 (pa_cons (pv 0) (pa_cons (pv 1) pa_nil))) pa_nil))))) (pg_sub (pv 4) (pv 6) set_list)))))) pss_nil)))
      (pss_cons (ps_set (i := 9) sc_law_other_rows.nd rfl (.inl rfl) (pe_call G4 hr rfl d4.m d4.F.kp d4.b .nil pass0 (pa_cons (pv 1) (pa_cons (pv 2) (pa_cons (pv 3) (pa_cons
          (pe_lc (own := [("row", 11)]) (g := gName 11) (tt := tYes) rfl sc_law_other_rows.nd (pi_list (pv 3)) (blkOk_by (N := N_law_other_rows) (sc := defScope s_law_other_rows) (by decide +kernel))
            (fun _ _ _ _ _ => pg_name (i := 11) sc_law_other_rows.nd rfl (Or.inl rfl)) (fun _ _ _ _ _ => pts_nil)
            (fun _ _ _ _ _ => pe_call G1 (hr.mono (by decide)) rfl d1.m d1.F.kp d1.b .nil pass0 (pa_cons (pv 0) (pa_cons (pv 1) pa_nil)))) pa_nil))))))
      (pss_one (ps_ret (pe_op op_cat (pv 4) (pe_op op_rep (pe_lst (pa_cons (pv 9) pa_nil)) (pe_callB (call_min2 rfl) (by rfl) T.b_min (by decide +kernel) (pa_cons
        (pe_call G1 (hr.mono (by decide)) rfl d1.m d1.F.kp d1.b .nil pass0 (pa_cons (pv 0) (pa_cons pe_int pa_nil))) (pa_cons (pe_op op_sub pe_int (pe_callB call_len_seq (by rfl) T.b_len PySem.boot_len (pa_cons (pv 4) pa_nil))) pa_nil))))))))), ?_⟩
    refine ⟨_, rfl, _, rfl, g, c, a, xs, rfl, ha, hag, by omega, hh, fun H2 fo ys b2 hh2 nfo hfo hperm => ?_⟩
    obtain ⟨fnd0, hfp, hfP⟩ := paired_perm hperm (paired_mono mono_row (hh.keep b2) hp)
    have fog := hand_new hh nfo
    have faf : fo ≠ a := fun e => by subst e; rw [ha] at nfo; cases nfo
    dsimp only [gName, tSeq]
    refine ⟨_, rfl, by decide, by decide, ?_⟩
    have R0 : Same2 p (rowsS fnd0) (rowsS rws) := same2_of (fun v h => by obtain ⟨l, hl, rfl⟩ := h; exact .row ⟨l, hfp.mem_iff.mp hl, rfl⟩) (fun v h => by obtain ⟨l, hl, rfl⟩ := h; exact .row ⟨l, hfp.mem_iff.mpr hl, rfl⟩)
    refine for_it (walk_range (lo := 0) (n := ((3 : Int)).toNat)) (fun i σ H' => ∃ x5 x6 x7 x8 ys fnd, σ = [some (.ref g), some (.int p), some (.int (wd : Int)), some (.ref a), some (.ref fo), x5, x6, x7, x8, none, none, none] ∧ But g H H' ∧ Hand g c H' ∧
      H' fo = some (.lst ys) ∧ Paired (rRow H') ys fnd ∧ fnd.length = rws.length ∧ (∀ l ∈ fnd, isRow l p wd) ∧ Same2 p (rowsS fnd) (rowsS rws))
      ⟨none, none, none, none, ys, fnd0, rfl, b2, hh2, hfo, hfP, hfp.length_eq, fun l h => hrw l (hfp.mem_iff.mp h), R0⟩ (fun i σ H' _ h => trivial) ?_ ?_
    · rintro i x σ H3 H4 hi ⟨x5, x6, x7, x8, ys, fnd, rfl, b3, hh3, hf3, hP3, hl3, hr3, hs3⟩ ⟨rfl, rfl⟩
      have hyl := paired_len hP3
      refine ⟨_, rfl, _, _, rfl, .inl (.of hf3), _, _, rfl, rfl, _, rfl, ?_⟩
      by_cases h0 : 0 < ys.length
      · rw [decide_eq_true (by omega)]
        refine iteT ⟨_, rfl, _, rfl, _, _, rfl, .inl (.of hf3), g, c, _, rfl, by omega, by omega, hh3, fun H5 at_ b5 hh5 a0 a1 => ?_⟩
        have hf5 := b5.lst fog.1 hf3
        refine ⟨_, rfl, _, rfl, _, _, rfl, .inl (.of hf5), g, c, _, rfl, by omega, by omega, hh5, fun H6 to b6 hh6 t0 t1 => ⟨_, _, rfl, ?_⟩⟩
        have hf6 := b6.lst fog.1 hf5
        have hP6 := paired_mono mono_row ((hh3.keep b5).trans (hh5.keep b6)) hP3
        obtain ⟨k, rfl⟩ : ∃ k : Nat, at_ = (k : Int) := ⟨at_.toNat, by omega⟩
        obtain ⟨m, rfl⟩ : ∃ m : Nat, to = (m : Int) := ⟨to.toNat, by omega⟩
        have hk : fnd[k]? = some (fnd[k]'(by omega)) := List.getElem?_eq_getElem (by omega)
        have hm : fnd[m]? = some (fnd[m]'(by omega)) := List.getElem?_eq_getElem (by omega)
        obtain ⟨vk, hvk, tk, rfl, htk⟩ := paired_get2 hP6 hk
        obtain ⟨vm, hvm, tm, rfl, htm⟩ := paired_get2 hP6 hm
        have irk := hr3 _ (List.mem_of_getElem? hk)
        have irm := hr3 _ (List.mem_of_getElem? hm)
        have bt6 := (b3.trans b5).trans b6
        dsimp only [gName, tSeq]
        refine ⟨_, rfl, _, rfl, rfl, _, rfl, ?_⟩
        have fin : ∀ (H8 : Hp) (v8 : V) (r' : List Int), But g H6 H8 → Hand g c H8 → rRow H8 v8 r' → isRow r' p wd → Same2 p (rowsS (fnd.set k r')) (rowsS fnd) →
            But g H (upd H8 fo (.lst (ys.set k v8))) ∧ Hand g c (upd H8 fo (.lst (ys.set k v8))) ∧ (upd H8 fo (.lst (ys.set k v8))) fo = some (.lst (ys.set k v8)) ∧ Paired (rRow (upd H8 fo (.lst (ys.set k v8)))) (ys.set k v8) (fnd.set k r') ∧ (fnd.set k r').length = rws.length ∧ (∀ l ∈ fnd.set k r', isRow l p wd) ∧ Same2 p (rowsS (fnd.set k r')) (rowsS rws) := by
          intro H8 v8 r' b8 hh8 hv8 hir8 hs8
          have hf8 := b8.lst fog.1 hf6
          have kz : Keep _ _ := keep_lst (o := .lst (ys.set k v8)) hf8
          refine ⟨fun a u ha e => ?_, hh8.setD fog.1 fog.2, upd_same, paired_set k (paired_mono mono_row ((hh6.keep b8).trans kz) hP6) (mono_row _ _ _ _ kz hv8), by rw [List.length_set]; exact hl3, fun l hl => ?_, hs8.trans hs3⟩
          · rw [upd_ne (fun q => by subst q; rw [nfo] at e; cases e)]
            exact (bt6.trans b8) a u ha e
          · rcases List.mem_or_eq_of_mem_set hl with h | h
            · exact hr3 l h
            · rw [h]; exact hir8
        by_cases hkm : k = m
        · subst hkm
          rw [decide_eq_true rfl]
          refine iteT ⟨_, rfl, _, rfl, _, _, rfl, rfl, g, c, p - 1, rfl, by omega, by omega, hh6, fun H7 e b7 hh7 e0 e1 => ⟨_, _, rfl, rfl, ?_⟩⟩
          dsimp only [gName, tSeq]
          have hf7 := b7.lst fog.1 hf6
          have htk7 := (hh6.keep b7).tup htk
          refine ⟨_, rfl, _, rfl, fo, _, _, _, rfl, rfl, .of hf7, atI_nat hvk, tk, rfl, ⟨_, .of htk7⟩, fun D hD => ?_⟩
          refine lc_fm (walk_tup (xs := (fnd[k]'(by omega)).map V.int)) rInt (fun i => (fnd[k]'(by omega))[i]?.bind fun x => some ((1 + e) * x % p)) hD (fun H' s' => .of (s'.keep.tup htk7)) ?_ ?_
          · rintro i x H8 H9 hi pv ⟨rfl, hx⟩
            obtain ⟨j, hj, rfl⟩ := at_int hx
            rw [List.length_map] at hi
            have := irk.1
            refine ⟨rfl, _, rfl, _, rfl, _, _, rfl, rfl, .inr ⟨by omega, by omega⟩, .inl ⟨_, rfl, _, rfl, _, _, rfl, rfl, p0, ?_⟩⟩
            exact fm_keep mono_int pv hD (by omega) (Same.refl _) (by rw [hj]; rfl) (by rw [Int.mul_comm (1 + e)]; rfl)
          · intro H8 zs s8 hD8 hp8
            rw [List.length_map, fm_some] at hp8
            have := paired_int hp8
            subst this
            refine ⟨D, _, rfl, .inl ⟨.of hD8, fun nt nnt => ?_⟩⟩
            have s9 := s8.trans (same_new (o := .tup (((fnd[k]'(by omega)).map fun x => (1 + e) * x % p).map V.int)) nnt)
            have hml : (mulL p (1 + e) (fnd[k]'(by omega))).length = (fnd[k]'(by omega)).length := by unfold mulL; rw [List.length_map]
            obtain ⟨u, hu⟩ := prm.inv (v := 1 + e) (by omega) (by omega)
            have hs : Same2 p (rowsS (fnd.set k (mulL p (1 + e) (fnd[k]'(by omega))))) (rowsS fnd) := by
              refine same2_set hk (.plus (1 + e) (.zero (v := fun _ => 0) fun _ => .refl 0) (.row ⟨_, List.mem_of_getElem? hk, rfl⟩) fun x => (mulL_vec x).trans (.of_eq (by omega))) ?_
              refine .plus u (.zero (v := fun _ => 0) fun _ => .refl 0) (.row ⟨_, List.mem_set (by omega) _, rfl⟩) fun x => ?_
              have h1 := (Cg.refl (p := p) u).mul (mulL_vec (p := p) (f := 1 + e) (l := fnd[k]'(by omega)) x)
              have h2 := hu.mul (Cg.refl (p := p) (vec (fnd[k]'(by omega)) x))
              rw [Int.one_mul, Int.mul_assoc] at h2
              exact (h1.trans h2).symm.trans (.of_eq (by omega))
            obtain ⟨f1, f2, f3, f4, f5, f6, f7⟩ := fin _ (.ref nt) (mulL p (1 + e) (fnd[k]'(by omega))) (b7.trans (s9.but g)) (hh7.same s9) ⟨nt, rfl, upd_same⟩ ⟨by rw [hml]; exact irk.1, fun y hy => by obtain ⟨z, _, rfl⟩ := List.mem_map.mp hy; exact mod_b p0⟩ hs
            exact ⟨_, rfl, _, rfl, fo, ys, _, k, rfl, rfl, s9 _ _ hf7, ixN_nat (by omega), _, _, _, _, _, _, rfl, f1, f2, f3, f4, f5, f6, f7⟩
        · rw [decide_eq_false (fun e => hkm (by have := V.int.inj e; omega))]
          refine iteF ⟨_, rfl, _, rfl, _, rfl, fo, _, _, _, rfl, rfl, .of hf6, atI_nat hvk, _, rfl, _, rfl, fo, _, _, _, rfl, rfl, .of hf6, atI_nat hvm, _, rfl, _, rfl, g, c, p, rfl, by omega, by omega, hh6, fun H7 e b7 hh7 e0 e1 => ?_⟩
          have k7 := hh6.keep b7
          have e1' := irk.1
          have e2' := irm.1
          refine ⟨.ref tk, .ref tm, p, e, _, _, rfl, p0, ⟨by omega, by omega⟩, ⟨tk, rfl, k7.tup htk⟩, ⟨tm, rfl, k7.tup htm⟩, by omega, by omega, fun H8 v8 s8 hv8 => ?_⟩
          have hs : Same2 p (rowsS (fnd.set k (lessL p (fnd[k]'(by omega)) (fnd[m]'(by omega)) e))) (rowsS fnd) := by
            have lv : ∀ x, Cg p (vec (lessL p (fnd[k]'(by omega)) (fnd[m]'(by omega)) e) x) (vec (fnd[k]'(by omega)) x - e * vec (fnd[m]'(by omega)) x) := fun x => lessL_vec (by omega) e x
            refine same2_set hk (.plus (-e) (.row ⟨_, List.mem_of_getElem? hk, rfl⟩) (.row ⟨_, List.mem_of_getElem? hm, rfl⟩) fun x => (lv x).trans (.of_eq (by rw [Int.neg_mul]; omega))) ?_
            refine .plus e (.row ⟨_, List.mem_set (by omega) _, rfl⟩) (.row ⟨fnd[m]'(by omega), List.mem_of_getElem? (i := m) (by rw [List.getElem?_set_ne hkm]; exact hm), rfl⟩) fun x => ?_
            have := (lv x).add (Cg.refl (p := p) (e * vec (fnd[m]'(by omega)) x))
            refine (this.trans (.of_eq ?_)).symm
            omega
          obtain ⟨f1, f2, f3, f4, f5, f6, f7⟩ := fin H8 v8 _ (b7.trans (s8.but g)) (hh7.same s8) hv8 ⟨by rw [lessL_len]; exact irk.1, lessL_in p0 _ _ _⟩ hs
          exact ⟨_, rfl, _, rfl, fo, ys, _, k, rfl, rfl, s8 _ _ (b7.lst fog.1 hf6), ixN_nat (by omega), _, _, _, _, _, _, rfl, f1, f2, f3, f4, f5, f6, f7⟩
      · rw [decide_eq_false (by omega)]
        exact iteF ⟨_, _, _, _, ys, fnd, rfl, b3, hh3, hf3, hP3, hl3, hr3, hs3⟩
    · rintro σ H3 ⟨x5, x6, x7, x8, ys, fnd, rfl, b3, hh3, hf3, hP3, hl3, hr3, hs3⟩
      have ha3 := b3.lst hag ha
      refine ⟨_, rfl, _, rfl, _, rfl, _, rfl, a, rfl, ⟨_, .of ha3⟩, fun D hD => ?_⟩
      refine walk_W (walk_list (xs := xs)) _ (PvDr rInt (fun x => 0 ≤ x ∧ x < p) g c D H3) (dr_start hh3 hD) (fun i H' _ h => .of (h.1.lst hag ha3)) ?_ ?_
      · rintro i x H4 H5 hi pv ⟨rfl, hx⟩
        exact ⟨rfl, _, rfl, _, rfl, g, c, p, rfl, by omega, by omega, pv.2.1, fun H6 n b6 hh6 n0 n1 => dr_keep mono_int hh3 pv hD (by omega) b6 hh6 rfl ⟨n0, n1⟩⟩
      · intro H4 pv
        obtain ⟨b4, hh4, zs, l, hD4, hp4, hl4, hf4⟩ := pv
        have := paired_int hp4
        subst this
        have bt4 := b3.trans b4
        refine ⟨a, D, p, wd, xs, rws, l, rfl, p0, hwd, bt4.lst hag ha, paired_mono mono_row (hh.keep bt4) hp, fun r hr => by have := (hrw r hr).1; omega, hD4, fun m hm => by have := hf4 m hm; omega, fun H5 v5 l5 s5 hv5 hir5 hsp5 => ?_⟩
        dsimp only [gName, tSeq]
        have hf5 := s5 _ _ (b4.lst fog.1 hf3)
        have hP5 := paired_mono mono_row ((hh3.keep b4).trans s5.keep) hP3
        have hyl := paired_len hP5
        refine ⟨_, rfl, _, rfl, by show 1 ≤ sizeLine; decide, fun l1 nl1 => ?_⟩
        have s6 := same_new (o := .lst [v5]) nl1
        have hh6 := (hh4.same s5).same s6
        have l1g := hand_new (hh4.same s5) nl1
        refine ⟨_, rfl, g, c, 2, rfl, by decide, by decide, hh6, fun H7 e b7 hh7 e0 e1 => ?_⟩
        have hf7 := b7.lst fog.1 (s6 _ _ hf5)
        have hl7 := b7.lst l1g.1 (upd_same (H := H5) (a := l1) (o := .lst [v5]))
        have k57 := s6.keep.trans (hh6.keep b7)
        refine ⟨_, rfl, _, _, rfl, .inl (.of hf7), _, _, rfl, rfl, _, _, rfl, l1, _, _, rfl, rfl, hl7, by split <;> omega, by split <;> omega, Nat.le_trans (by rw [List.length_singleton]; split <;> omega : _ ≤ 2) (by decide), fun r2 nr2 => ?_⟩
        have s8 := same_new (o := .lst (List.replicate (if 200 - ((ys.length : Nat) : Int) < e then 200 - ((ys.length : Nat) : Int) else e).toNat [v5]).flatten) nr2
        have cases2 : ∃ ex : List (List Int), Paired (rRow H7) (List.replicate (if 200 - ((ys.length : Nat) : Int) < e then 200 - ((ys.length : Nat) : Int) else e).toNat [v5]).flatten ex ∧ (ex = [] ∨ (ex = [l5] ∧ ys.length < 200)) := by
          have h01 : (if 200 - ((ys.length : Nat) : Int) < e then 200 - ((ys.length : Nat) : Int) else e).toNat = 0 ∨ ((if 200 - ((ys.length : Nat) : Int) < e then 200 - ((ys.length : Nat) : Int) else e).toNat = 1 ∧ ys.length < 200) := by split <;> omega
          rcases h01 with h | ⟨h, h2⟩
          · rw [h]; exact ⟨[], .nil, .inl rfl⟩
          · rw [h]; exact ⟨[l5], .cons (mono_row _ _ _ _ k57 hv5) .nil, .inr ⟨rfl, h2⟩⟩
        obtain ⟨ex, hex, hexc⟩ := cases2
        have hexl := paired_len hex
        have exle : ex.length ≤ 1 ∧ ys.length + ex.length ≤ 200 := by
          rcases hexc with h | ⟨h, h2⟩
          · rw [h]; exact ⟨by simp, by simp; omega⟩
          · rw [h]; exact ⟨by simp, by simp; omega⟩
        refine ⟨fo, r2, ys, _, rfl, rfl, s8 _ _ hf7, upd_same, Nat.le_trans (by omega : _ ≤ 300) (by decide), fun fr nfr => ?_⟩
        have s9 := s8.trans (same_new (o := .lst (ys ++ (List.replicate (if 200 - ((ys.length : Nat) : Int) < e then 200 - ((ys.length : Nat) : Int) else e).toNat [v5]).flatten)) nfr)
        have btA := ((bt4.trans ((s5.trans s6).but g)).trans b7)
        have frg := hand_new (hh7.same s8) nfr
        refine q _ fr _ (fnd ++ ex) (btA.trans (s9.but g)) (hh7.same s9) ((btA.trans (s8.but g)).free nfr frg.1) frg.1 upd_same (paired_app (paired_mono mono_row (k57.trans s9.keep) hP5) (paired_mono mono_row s9.keep hex)) (by rw [List.length_append]; omega) (by rw [List.length_append]; omega) (fun z hz => ?_) ?_
        · rcases List.mem_append.mp hz with h | h
          · exact hr3 z h
          · rcases hexc with e2 | ⟨e2, _⟩
            · rw [e2] at h; cases h
            · rw [e2] at h; rw [List.mem_singleton.mp h]; exact hir5
        · refine Same2.trans (same2_of (fun v h => ?_) (fun v h => ?_)) hs3
          · obtain ⟨z, hz, rfl⟩ := h
            rcases List.mem_append.mp hz with h | h
            · exact .row ⟨z, h, rfl⟩
            · rcases hexc with e2 | ⟨e2, _⟩
              · rw [e2] at h; cases h
              · rw [e2] at h; rw [List.mem_singleton.mp h]; exact (hs3 _).mpr hsp5
          · obtain ⟨z, hz, rfl⟩ := h
            exact .row ⟨z, List.mem_append_left _ hz, rfl⟩
end
end S4

namespace S4
open PySem L2 TT MM
/-! ### any thing at all: a number, a flag, None, a text -/
def Odd (v : V) (b : Bool) : Prop := (∃ n, v = .int n ∧ b = true) ∨ (∃ x, v = .bl x ∧ b = false) ∨ (v = .non ∧ b = false) ∨ (∃ x, v = .str x ∧ b = false)
section
variable {K : PySem.W.Frag}
theorem kit_bi : PySem.W.kitOne K (.type "bool") (.type "int") = some true := kit_ty (by decide +kernel)
theorem kit_bb : PySem.W.kitOne K (.type "bool") (.type "bool") = some true := kit_ty (by decide +kernel)
theorem kit_ni : PySem.W.kitOne K (.type "NoneType") (.type "int") = some false := kit_ty (by decide +kernel)
theorem kit_si : PySem.W.kitOne K (.type "str") (.type "int") = some false := kit_ty (by decide +kernel)
end
section
variable {P : Program} {w : World} {K : PySem.W.Frag} {mg : Str → Option Value} {base : Heap} {cT cS : Addr}
def spIntB : Sp := fun vs H Q _ => ∃ (v : V) (b : Bool), vs = [v] ∧ Odd v b ∧ Q (.bl b) H
theorem ok_intB (T : Tx K mg cT cS) {f : Addr} {fd : FuncData} (d : D K mg "is_integer" s_is_integer ["thing"] f fd) : FnOk P w K mg base CX0 1 f fd ["thing"] spIntB := by
  refine d.F.ok sc_is_integer (fun vs H Q E h => ?_) (fun cdv A outer s H vs Q E hr h => ?_)
  · obtain ⟨v, b, rfl, _⟩ := h
    rfl
  · obtain ⟨v, b, rfl, hv, q⟩ := h
    refine ⟨_, pss_one (ps_ret (pe_and (pe_callB call_isi (by rfl) T.b_isinstance (by decide +kernel) (pa_cons (pv 0) (pa_cons (ty_int T.b_int) pa_nil)))
      (pe_one (pe_not (pe_callB call_isi (by rfl) T.b_isinstance (by decide +kernel) (pa_cons (pv 0) (pa_cons (ty_bool T.b_bool) pa_nil))))))), ?_⟩
    rcases hv with ⟨n, rfl, rfl⟩ | ⟨x, rfl, rfl⟩ | ⟨rfl, rfl⟩ | ⟨x, rfl, rfl⟩
    · exact ⟨_, rfl, _, _, _, _, _, rfl, .ty _, .base (.int _), kit_ii, _, rfl, iteT ⟨_, rfl, _, _, _, _, _, rfl, .ty _, .base (.int _), kit_ib, _, rfl, q⟩⟩
    · exact ⟨_, rfl, _, _, _, _, _, rfl, .ty _, .base (.bl _), kit_bi, _, rfl, iteT ⟨_, rfl, _, _, _, _, _, rfl, .ty _, .base (.bl _), kit_bb, _, rfl, q⟩⟩
    · exact ⟨_, rfl, _, _, _, _, _, rfl, .ty _, .base .non, kit_ni, _, rfl, iteF q⟩
    · exact ⟨_, rfl, _, _, _, _, _, rfl, .ty _, .base (.str _), kit_si, _, rfl, iteF q⟩
def spClkB : Sp := fun vs H Q _ => ∃ (v : V) (b : Bool), vs = [v] ∧ Odd v b ∧ ∀ t : Bool, (t = true ↔ ∃ n, v = .int n ∧ NoDiv n) → Q (.bl t) H
theorem ok_clkB (T : Tx K mg cT cS) {f : Addr} {fd : FuncData} (d : D K mg "is_clock" s_is_clock ["thing"] f fd) : FnOk P w K mg base CX0 2 f fd ["thing"] spClkB := by
  obtain ⟨f1, fd1, d1⟩ := T.d_is_integer
  have G1 : FnOk P w K mg base CX0 1 f1 fd1 ["thing"] spIntB := ok_intB T d1
  obtain ⟨tk, hM⟩ := T.c_MOST_HOURS
  refine d.F.ok sc_is_clock (fun vs H Q E h => ?_) (fun cdv A outer s H vs Q E hr h => ?_)
  · obtain ⟨v, b, rfl, _⟩ := h
    rfl
  · obtain ⟨v, b, rfl, hv, q⟩ := h
    refine ⟨_, pss_cons (ps_if (PW.pt (pw_or (pt_not (pt_val (pe_call G1 hr rfl d1.m d1.F.kp d1.b .nil pass0 (pa_cons (pv 0) pa_nil))))
        (pw_or1 (pt_not (pt_chain op_le op_le pe_int (pv 0) (pe_glob (v := .int 1000000) rfl hM ⟨_, rfl⟩)))))) (pss_one (ps_ret pe_bl)) pss_nil)
      (pss_cons (ps_set (i := 1) sc_is_clock.nd rfl (.inl rfl) pe_int)
      (pss_cons (ps_while PassesOwn.never (pt_cmpR op_le (pe_op op_mul (pv 1) (pv 1)) (pv 0) (nomark _))
        (pss_cons (ps_if (pt_cmpR op_eq (pe_op op_mod (pv 0) (pv 1)) pe_int (nomark _)) (pss_one (ps_ret pe_bl)) pss_nil)
          (pss_one (ps_aug (i := 1) sc_is_clock.nd rfl (.inl rfl) pe_int ip_add))))
      (pss_one (ps_ret pe_bl)))), ?_⟩
    have hodd := hv
    rcases hv with ⟨n, rfl, rfl⟩ | h
    · have no : ¬ NoDiv n → Q (.bl false) H := fun h => q false ⟨fun e => (by cases e), fun ⟨m, e, hm⟩ => absurd (by cases e; exact hm) h⟩
      refine ⟨_, rfl, .int n, true, rfl, hodd, _, rfl, iteF ?_⟩
      refine ⟨_, rfl, _, _, rfl, rfl, _, rfl, ?_⟩
      by_cases n2 : 2 ≤ n
      · rw [decide_eq_true n2]
        refine iteT ⟨_, _, rfl, rfl, _, rfl, ?_⟩
        by_cases n6 : n ≤ 1000000
        · rw [decide_eq_true n6]
          refine iteF ?_
          refine while_by (fun σ H' => H' = H ∧ ∃ k : Int, σ = [some (.int n), some (.int k)] ∧ 2 ≤ k ∧ k ≤ 1001 ∧ ∀ j : Int, 2 ≤ j → j < k → j * j ≤ n → n % j ≠ 0) (fun σ _ => match σ with | [_, some (.int k)] => (2000 - k).toNat | _ => 0) ⟨rfl, 2, rfl, by decide, by decide, fun j a b => by omega⟩ ?_ ?_
          · rintro σ H' ⟨rfl, k, rfl, k2, k3, hj⟩
            refine ⟨_, rfl, _, rfl, _, _, rfl, rfl, .inl ⟨by omega, by omega⟩, _, rfl, _, _, rfl, rfl, _, rfl, ?_⟩
            by_cases hk : k * k ≤ n
            · rw [decide_eq_true hk]
              refine iteT ?_
              refine ⟨_, rfl, _, rfl, _, _, rfl, rfl, by omega, rfl, _, rfl, ?_⟩
              by_cases hz : n % k = 0
              · rw [decide_eq_true (congrArg V.int hz)]
                exact iteT (no fun h => h.2.2 k k2 hk hz)
              · rw [decide_eq_false (fun e => hz (V.int.inj e))]
                refine iteF ⟨_, rfl, _, _, rfl, rfl, ⟨rfl, k + 1, rfl, by omega, ?_, fun j a b c => ?_⟩, ?_⟩
                · have := sq_small k2 (Int.le_trans hk n6)
                  omega
                · by_cases e : j = k
                  · rw [e]; exact hz
                  · exact hj j a (by omega) c
                · show (2000 - (k + 1)).toNat < (2000 - k).toNat
                  omega
            · rw [decide_eq_false hk]
              refine iteF (q true ⟨fun _ => ⟨n, rfl, n2, n6, fun j a c => ?_⟩, fun _ => rfl⟩)
              by_cases e : j < k
              · exact hj j a e c
              · exfalso
                have h1 : k * k ≤ j * j := Int.mul_le_mul (by omega) (by omega) (by omega) (by omega)
                omega
          · rintro σ H' Q1 Q2 i ⟨v, e1, v2, e2, a, b, e3, e4, c, v3, e5, a1, b1, e6, e7, k, e8, h⟩
            exact ⟨v, e1, v2, e2, a, b, e3, e4, c, v3, e5, a1, b1, e6, e7, k, e8, i _ _ h⟩
        · rw [decide_eq_false n6]
          exact iteT (no fun h => n6 h.2.1)
      · rw [decide_eq_false n2]
        exact iteF ⟨_, rfl, iteT (no fun h => n2 h.1)⟩
    · have hb : b = false := by rcases h with ⟨_, _, e⟩ | ⟨_, e⟩ | ⟨_, _, e⟩ <;> exact e
      have hni : ∀ n, v ≠ .int n := fun n e => by
        rcases h with ⟨_, e2, _⟩ | ⟨e2, _⟩ | ⟨_, e2, _⟩ <;> rw [e2] at e <;> cases e
      subst hb
      exact ⟨_, rfl, v, false, rfl, hodd, _, rfl, iteT (q false ⟨fun e => (by cases e), fun ⟨n, e, _⟩ => absurd e (hni n)⟩)⟩
end
end S4

namespace S4
open PySem L2 TT MM
section
variable {P : Program} {w : World} {K : PySem.W.Frag} {mg : Str → Option Value} {base : Heap} {cT cS : Addr}
def spLInt : Sp := fun vs H Q _ => ∃ (v : V) (b : Bool) (lo hi : Int), vs = [v, .int lo, .int hi] ∧ Odd v b ∧ ∀ t : Bool, (t = true ↔ ∃ n, v = .int n ∧ lo ≤ n ∧ n ≤ hi) → Q (.bl t) H
theorem ok_lint (T : Tx K mg cT cS) {f : Addr} {fd : FuncData} (d : D K mg "_law_int" s_law_int ["thing", "least", "most"] f fd) : FnOk P w K mg base CX0 1 f fd ["thing", "least", "most"] spLInt := by
  refine d.F.ok sc_law_int (fun vs H Q E h => ?_) (fun cdv A outer s H vs Q E hr h => ?_)
  · obtain ⟨v, b, lo, hi, rfl, _⟩ := h
    rfl
  · obtain ⟨v, b, lo, hi, rfl, hv, q⟩ := h
    refine ⟨_, pss_one (ps_ret (pe_and (pe_callB call_isi (by rfl) T.b_isinstance (by decide +kernel) (pa_cons (pv 0) (pa_cons (ty_int T.b_int) pa_nil)))
      (pe_and (pe_not (pe_callB call_isi (by rfl) T.b_isinstance (by decide +kernel) (pa_cons (pv 0) (pa_cons (ty_bool T.b_bool) pa_nil))))
        (pe_one (pe_chain op_le op_le (pv 1) (pv 0) (pv 2)))))), ?_⟩
    rcases hv with ⟨n, rfl, rfl⟩ | ⟨x, rfl, rfl⟩ | ⟨rfl, rfl⟩ | ⟨x, rfl, rfl⟩
    · refine ⟨_, rfl, _, _, _, _, _, rfl, .ty _, .base (.int _), kit_ii, _, rfl, iteT ⟨_, rfl, _, _, _, _, _, rfl, .ty _, .base (.int _), kit_ib, _, rfl, _, rfl, iteT ⟨_, rfl, _, rfl, _, _, rfl, rfl, _, rfl, ?_⟩⟩⟩
      by_cases h1 : lo ≤ n
      · rw [decide_eq_true h1]
        refine iteT ⟨_, rfl, _, _, rfl, rfl, ?_⟩
        exact q (decide (n ≤ hi)) ⟨fun e => ⟨n, rfl, h1, of_decide_eq_true e⟩, fun ⟨m, e, _, h⟩ => decide_eq_true (by cases e; exact h)⟩
      · rw [decide_eq_false h1]
        exact iteF (q false ⟨fun e => (by cases e), fun ⟨m, e, h, _⟩ => absurd (by cases e; exact h) h1⟩)
    · exact ⟨_, rfl, _, _, _, _, _, rfl, .ty _, .base (.bl _), kit_bi, _, rfl, iteT ⟨_, rfl, _, _, _, _, _, rfl, .ty _, .base (.bl _), kit_bb, _, rfl, _, rfl, iteF (q false ⟨fun e => (by cases e), fun ⟨m, e, _⟩ => (by cases e)⟩)⟩⟩
    · exact ⟨_, rfl, _, _, _, _, _, rfl, .ty _, .base .non, kit_ni, _, rfl, iteF (q false ⟨fun e => (by cases e), fun ⟨m, e, _⟩ => (by cases e)⟩)⟩
    · exact ⟨_, rfl, _, _, _, _, _, rfl, .ty _, .base (.str _), kit_si, _, rfl, iteF (q false ⟨fun e => (by cases e), fun ⟨m, e, _⟩ => (by cases e)⟩)⟩
theorem ok_prime (T : Tx K mg cT cS) {f : Addr} {fd : FuncData} (d : D K mg "_law_is_prime" s_law_is_prime ["thing"] f fd) : FnOk P w K mg base CX0 2 f fd ["thing"] spClkB := by
  obtain ⟨f1, fd1, d1⟩ := T.d_law_int
  have G1 : FnOk P w K mg base CX0 1 f1 fd1 ["thing", "least", "most"] spLInt := ok_lint T d1
  refine d.F.ok sc_law_is_prime (fun vs H Q E h => ?_) (fun cdv A outer s H vs Q E hr h => ?_)
  · obtain ⟨v, b, rfl, _⟩ := h
    rfl
  · obtain ⟨v, b, rfl, hv, q⟩ := h
    refine ⟨_, pss_cons (ps_if (pt_not (pt_val (pe_call G1 hr rfl d1.m d1.F.kp d1.b .nil pass0 (pa_cons (pv 0) (pa_cons pe_int (pa_cons (pe_op op_pow pe_int pe_int) pa_nil)))))) (pss_one (ps_ret pe_bl)) pss_nil)
      (pss_cons (ps_for PassesOwn.never rfl (pi_range2 rfl T.b_range (pa_cons pe_int (pa_cons pe_int pa_nil))) (pg_name (i := 1) sc_law_is_prime.nd rfl (Or.inl rfl))
        (pss_one (ps_if (PW.pt (pw_and (pt_cmpR op_le (pe_op op_mul (pv 1) (pv 1)) (pv 0) (nomark _)) (pw_and1 (pt_cmpR op_eq (pe_op op_mod (pe_callTy call_int1 (by rfl) T.b_int (by decide +kernel) (pa_cons (pv 0) pa_nil)) (pv 1)) pe_int (nomark _))))) (pss_one (ps_ret pe_bl)) pss_nil)))
      (pss_one (ps_ret pe_bl))), ?_⟩
    refine ⟨_, rfl, _, _, rfl, rfl, ⟨by decide, by decide, by decide⟩, v, b, 2, 1000000, rfl, hv, fun t ht => ⟨_, rfl, ?_⟩⟩
    cases t with
    | false =>
      refine iteT (q false ⟨fun e => (by cases e), fun ⟨n, e, h⟩ => ?_⟩)
      have := ht.mpr ⟨n, e, h.1, h.2.1⟩
      cases this
    | true =>
      obtain ⟨n, rfl, n2, n6⟩ := ht.mp rfl
      refine iteF ⟨_, _, rfl, ⟨by decide, by decide, by decide, by decide⟩, ?_⟩
      refine for_it (walk_range (lo := 2) (n := ((1001 : Int) - 2).toNat)) (fun i σ H' => H' = H ∧ ∃ x, σ = [some (.int n), x] ∧ ∀ j : Int, 2 ≤ j → j < 2 + (i : Int) → j * j ≤ n → n % j ≠ 0) ⟨rfl, none, rfl, fun j a b => by omega⟩ (fun i σ H' _ h => trivial) ?_ ?_
      · rintro i x σ H2 H3 hi ⟨rfl, y, rfl, hj⟩ ⟨rfl, rfl⟩
        have hi2 : i < 999 := hi
        refine ⟨_, rfl, _, rfl, _, _, rfl, rfl, .inl ⟨by omega, by omega⟩, _, rfl, _, _, rfl, rfl, _, rfl, ?_⟩
        have keep : (¬ ((2 + (i : Int)) * (2 + (i : Int)) ≤ n ∧ n % (2 + (i : Int)) = 0)) → ∀ j : Int, 2 ≤ j → j < 2 + ((i + 1 : Nat) : Int) → j * j ≤ n → n % j ≠ 0 := fun h j a b c => by
          by_cases e : j = 2 + (i : Int)
          · subst e; exact fun z => h ⟨c, z⟩
          · exact hj j a (by omega) c
        by_cases hk : (2 + (i : Int)) * (2 + (i : Int)) ≤ n
        · rw [decide_eq_true hk]
          refine iteT ⟨_, rfl, .inl ⟨n, rfl, _, rfl, _, _, rfl, rfl, by omega, rfl, _, rfl, ?_⟩⟩
          by_cases hz : n % (2 + (i : Int)) = 0
          · rw [decide_eq_true (congrArg V.int hz)]
            exact iteT (q false ⟨fun e => (by cases e), fun ⟨m, e, h⟩ => absurd hz (by cases e; exact h.2.2 _ (by omega) hk)⟩)
          · rw [decide_eq_false (fun e => hz (V.int.inj e))]
            exact iteF ⟨rfl, _, rfl, keep fun h => hz h.2⟩
        · rw [decide_eq_false hk]
          exact iteF ⟨rfl, _, rfl, keep fun h => hk h.1⟩
      · rintro σ H2 ⟨rfl, y, rfl, hj⟩
        refine q true ⟨fun _ => ⟨n, rfl, n2, n6, fun j a c => ?_⟩, fun _ => rfl⟩
        have := sq_small a (Int.le_trans c n6)
        exact hj j a (by have : ((1001 : Int) - 2).toNat = 999 := rfl; omega) c
end
end S4

namespace S4
open PySem L2 TT MM
section
variable {K : PySem.W.Frag}
theorem kit_bt : PySem.W.kitOne K (.type "bool") (.type "tuple") = some false := kit_ty (by decide +kernel)
theorem kit_bl : PySem.W.kitOne K (.type "bool") (.type "list") = some false := kit_ty (by decide +kernel)
theorem kitA_b : PySem.W.kitAny K (.type "bool") [.type "tuple", .type "list"] = some false := by
  unfold PySem.W.kitAny
  rw [kit_bt]
  show PySem.W.kitAny K (.type "bool") [.type "list"] = some false
  unfold PySem.W.kitAny
  rw [kit_bl]
  rfl
end
section
variable {P : Program} {w : World} {K : PySem.W.Frag} {mg : Str → Option Value} {base : Heap} {cT cS : Addr}
def spIsB : Sp := fun vs H Q _ => ∃ (t : Bool), vs = [.bl t, .bl t] ∧ ∀ H', Same H H' → Q (.bl true) H'
theorem ok_isB (T : Tx K mg cT cS) {f : Addr} {fd : FuncData} (d : D K mg "_law_is" s_law_is ["told", "due"] f fd) : FnOk P w K mg base CX0 1 f fd ["told", "due"] spIsB := by
  refine d.F.ok sc_law_is (fun vs H Q E h => ?_) (fun cdv A outer s H vs Q E hr h => ?_)
  · obtain ⟨t, rfl, _⟩ := h
    rfl
  · obtain ⟨t, rfl, q⟩ := h
    refine ⟨_, pss_cons (ps_if (pt_val (pe_callB call_isiT (by rfl) T.b_isinstance (by decide +kernel) (pa_cons (pv 1) (pa_cons (pe_tup (pa_cons (ty_tuple T.b_tuple) (pa_cons (ty_list T.b_list) pa_nil))) pa_nil)))) pss_never pss_nil)
      (pss_one (ps_ret (pe_and (pe_cmpR op_eq (pe_callB call_isi (by rfl) T.b_isinstance (by decide +kernel) (pa_cons (pv 0) (pa_cons (ty_bool T.b_bool) pa_nil))) (pe_callB call_isi (by rfl) T.b_isinstance (by decide +kernel) (pa_cons (pv 1) (pa_cons (ty_bool T.b_bool) pa_nil))) (nomark _))
        (pe_one (pe_cmpR op_eq (pv 0) (pv 1) (nomark _)))))), ?_⟩
    refine ⟨_, rfl, by show 2 ≤ sizeLine; decide, fun p np => ⟨_, p, _, _, _, _, rfl, upd_same, .cons (.ty _) (.cons (.ty _) .nil), .base (.bl _), kitA_b, _, rfl, iteF ?_⟩⟩
    refine ⟨_, rfl, _, _, _, _, _, rfl, .ty _, .base (.bl _), kit_bb, _, rfl, _, _, _, _, _, rfl, .ty _, .base (.bl _), kit_bb, rfl, true, rfl, ?_⟩
    refine iteT ⟨_, rfl, _, rfl, rfl, ?_⟩
    rw [decide_eq_true rfl]
    exact q _ (same_new np)
end
end S4

/-! dicts whose keys are tuples of ints: a display of one pair, sorted(dict) -/
namespace TT
open PySem PySem.Spec PyProof.Rows L2
section
variable {X : Cx}
def tDisp1 (tk tv : TE) : TE := fun σ H Q => ∀ p, H p = none → tk σ (upd H p (.dT [])) fun x H1 => tv σ H1 fun y H2 =>
  H2 p = some (.dT []) ∧ ∃ (b : Addr) (k : List L2.Key), x = .ref b ∧ H2 b = some (.tup (k.map kV)) ∧ Q (.ref p) (upd H2 p (.dT [(k, y)]))
theorem pe_disp1 {k v : Expr} {tk tv : TE} {pos : Pos} (hu : X.A.units + 1 < cLine) (hk : PE X k tk) (hv : PE X v tv) : PE X (.Dict [some k] [v] pos) (tDisp1 tk tv) := by
  refine ⟨fun pins s σ H Q I q => ?_⟩
  have hn := I.hok.fresh (Nat.le_refl s.heap.objs.size)
  have I1 := I.laid (a := s.heap.objs.size) (o := .dT []) (t' := s.toks) (h' := s.heap.push { cls := .type "dict", data := .dict #[] }) (fun _ _ z => Heap.get?_push_of_some _ z) (Nat.le_refl _) (dt_empty s.heap I.big)
  have q0 := q _ hn
  rw [arm_eval_Dict, zip_pairTrees [some k] [v] X.env pos rfl rfl, dictDisplay_pairs _ (fun e => by cases e) (by show 1 < 17; decide)]
  refine wpAny_bind (wpAny_standAt (wpAny_bind (wpAny_subDictH (knd := tupleKind (mixKind X.prog X.w)) (Q := fun d s' => wpAny (model X.prog X.w) X.A (pure (Value.ref d)) (EP X pins σ Q) X.xe s') (by show X.A.units < cLine; omega) (by show 1 ≤ 15; decide) ?_)))
  refine pairTrees_cons_walk (thn (hk.run pins _ σ _ _ I1 q0) fun u s1 ⟨x, H1, I2, rx, q1⟩ => thn (hv.run pins s1 σ H1 _ I2 q1) fun w2 s2 ⟨y, H2, I3, ry, e, b, kk, ex, hb, q2⟩ => pairTrees_nil_walk ?_)
  subst ex
  cases rx
  obtain ⟨z, hd, xs0, r0, dd⟩ := dt_of I3.hok e
  cases r0
  refine ⟨[(kk, b, w2)], ⟨rfl, rfl, key_of I3.hok hb, trivial⟩, dd, fun h' tk2 dd' hs => wpAny_pure ?_⟩
  obtain ⟨ob, es, ep, h1, h2, h3, h4, _, h5⟩ := dd'
  refine ⟨.ref s.heap.objs.size, _, d_write (ob := .dT [(kk, y)]) I3 (by rw [e]; exact True.intro) hs ⟨ob, h1⟩ ⟨by show 1 ≤ sizeLine; decide, hd, [(kk, b, w2)], .cons ⟨rfl, ?_, ry⟩ .nil, ob, es, ep, h1, h2, h3, h4, h5⟩, rfl, q2⟩
  rw [upd_ne (ne_of hb e (fun z => nomatch z))]
  exact hb
/-- a tuple of these ints -/
def refRow (H : Hp) (v : Value) (r : List Int) : Prop := ∃ b, v = Value.ref b ∧ H b = some (.tup (r.map V.int))
theorem refRows : ∀ {H : Hp} {kvs : List (List L2.Key × V)} {ks : List (List L2.Key × Addr × Value)} {rows : List (List Int)}, KT H kvs ks → kvs.map (·.1) = rows.map (fun r => r.map Sum.inl) → Paired (refRow H) (ks.map fun x => Value.ref x.2.1) rows
  | _, _, _, [], .nil, _ => .nil
  | _, _, _, _ :: _, .nil, h => by simp at h
  | _, _, _, [], .cons _ _, h => by simp at h
  | H, p :: ps, q :: qs, r :: rs, .cons a t, h => by
    rw [List.map_cons, List.map_cons] at h
    obtain ⟨h1, h2⟩ := List.cons.inj h
    refine .cons ⟨q.2.1, rfl, ?_⟩ (refRows t h2)
    have := a.2.1
    rw [h1, List.map_map] at this
    exact this
theorem refRow_ints {X : Cx} {pins : List (Addr × Obj)} {σ : L2.St} {H : Hp} {s : Shared} (I : Inv X pins σ H s) {v : Value} {r : List Int} (h : refRow H v r) : TS.TupInts s.heap v r := by
  obtain ⟨b, rfl, hb⟩ := h
  obtain ⟨_, its, rv, hT⟩ := (show ObjOk X.prog X.w H s.heap b (.tup (r.map V.int)) from I.hok b _ hb)
  exact ⟨b, its.toArray, rfl, hT, by simpa using rv.ints⟩
theorem refRow_map {X : Cx} {pins : List (Addr × Obj)} {σ : L2.St} {H : Hp} {s : Shared} (I : Inv X pins σ H s) : ∀ {vs : List Value} {rows : List (List Int)}, Paired (refRow H) vs rows → vs.map (TS.intsOf s.heap) = rows
  | _, _, .nil => rfl
  | _, _, .cons a t => by rw [List.map_cons, (refRow_ints (X := X) I a).ints, refRow_map (X := X) I t]
theorem refRow_back {H : Hp} : ∀ {vs : List Value} {rows : List (List Int)}, Paired (refRow H) vs rows → Paired (rRow H) (vs.map backV) rows
  | _, _, .nil => .nil
  | _, _, .cons a t => by
    obtain ⟨b, rfl, hb⟩ := a
    exact .cons ⟨b, rfl, hb⟩ (refRow_back t)
theorem refRow_vals {H : Hp} : ∀ {vs : List Value} {rows : List (List Int)}, Paired (refRow H) vs rows → ∀ u ∈ vs, ∃ a, u = Value.ref a
  | _, _, .nil, u, h => by simp at h
  | _, _, .cons a t, u, h => by
    obtain ⟨b, rfl, hb⟩ := a
    rcases List.mem_cons.mp h with rfl | h
    · exact ⟨b, rfl⟩
    · exact refRow_vals t u h
/-- by the number that the ints make -/
def ltC (h : Heap) (B : Int) (v u : Value) : Bool := decide (TS.code B (TS.intsOf h v) < TS.code B (TS.intsOf h u))
theorem swo_ltC (h : Heap) (B : Int) : SrtO.Swo (ltC h B) := by
  refine ⟨fun x y q => ?_, fun x y z q1 q2 => ?_⟩
  · have a := of_decide_eq_true q
    exact decide_eq_false (by omega)
  · have a := of_decide_eq_false q1
    have b := of_decide_eq_false q2
    exact decide_eq_false (by omega)
theorem rows_sortable {prog : Program} {w : World} {A : Around} {s : Shared} {h0 : Heap} {a : Addr} {n : Nat} {B : Int} {vs : List Value} (n1 : 1 ≤ n) (l2 : 2 ≤ vs.length) (hT : TS.TupsOk h0 n B vs) (hk : ∀ b o, h0.get? b = some o → b ≠ a ∧ s.heap.get? b = some o) :
    SrtO.SortableO prog w A s a vs (ltC h0 B) := by
  intro h' keep
  have st : ∀ b o, h0.get? b = some o → o.cls = .type "tuple" → h'.get? b = some o := fun b o e _ => keep b o (hk b o e).1 (hk b o e).2
  have hT' : TS.TupsOk h' n B vs := hT.keeps st
  obtain ⟨fs, k, hl, hi⟩ := TS.firsts_of n1 vs hT'
  refine ⟨tuples' true, fun Q E hq => ?_, fun p q hp hq => ?_⟩
  · refine PySem.W.kat_kind (T := .type "int") k (by omega) (fun f hm => ?_) (by rfl) ?_
    · obtain ⟨x, t, rfl⟩ := hi f hm
      exact PySem.W.Looks.now
    · have e : (Value.type "int" != Value.type "tuple") = true := by first | decide +kernel | rfl | decide
      rw [e]
      exact hq
  · obtain ⟨ns, tp, lp, bp⟩ := hT _ hp
    obtain ⟨ms, tq, lq, bq⟩ := hT _ hq
    have tp' := tp.keeps st
    have tq' := tq.keeps st
    show wpAny (model prog w) A (keyLt' (tuples' true) p.1 q.1) (fun r s' => s' = _ ∧ r = ltC h0 B p.1 q.1) (fun _ _ => False) _
    have ev : ltC h0 B p.1 q.1 = decide (TS.code B ns < TS.code B ms) := by unfold ltC; rw [tp.ints, tq.ints]
    rw [ev]
    obtain ⟨a1, xs, e1, ⟨o, ho, hc, m1, hdt⟩, i⟩ := tp'
    obtain ⟨a2, ys, e2, ⟨o', ho', hc', m2, hdt'⟩, i'⟩ := tq'
    rw [e1, e2]
    refine PySem.W.kat_lt ho hdt ho' hdt' ?_
    have sz : decide (xs.size < ys.size) = false := by
      have z1 := i.length
      have z2 := i'.length
      rw [Array.length_toList] at z1 z2
      exact decide_eq_false (by omega)
    rw [sz]
    exact TS.lex_ints (B := B) 0 i i' (by omega) bp bq ⟨rfl, rfl⟩
def rSortedDT (K : PySem.W.Frag) : List V → Hp → VK → Prop := fun vs H Q => ∃ (d : Addr) (kvs : List (List L2.Key × V)) (n : Nat) (B : Int) (rows : List (List Int)), vs = [V.ref d] ∧ Rd H d (.dT kvs) ∧ kvs.map (·.1) = rows.map (fun r => r.map Sum.inl) ∧
  (∀ r ∈ rows, r.length = n ∧ ∀ x ∈ r, 0 ≤ x ∧ x < B) ∧ (2 ≤ rows.length → 1 ≤ n) ∧
  ∀ (xs : List V) (l : List (List Int)) (p : Addr), Paired (rRow H) xs l → l.Perm rows → l.Pairwise (fun a b => ¬ TS.code B b < TS.code B a) → H p = none → Q (.ref p) (upd H p (.lst xs))
theorem cr_sortedDT (hc : X.calm = true) : CallR X (.builtin "sorted") (rSortedDT X.K) := by
  intro pins s σ H vs us Q I r h
  obtain ⟨d, kvs, n, B, rows, rfl, hd, hk, hr, hn1, q⟩ := h
  obtain ⟨u, eu, rx⟩ := vals1 r
  subst eu
  cases rx
  obtain ⟨z, hs, ks, pr, o, es, ep, ho, hx, hdt, he, hn⟩ := (show ObjOk X.prog X.w H s.heap d (.dT kvs) from hd.ok I.hok)
  have l1 : es.size = ks.length := size_of_entries he
  have l2 : kvs.length = ks.length := Paired.length pr
  have pv := refRows pr hk
  have hT : TS.TupsOk s.heap n B (ks.map fun x => Value.ref x.2.1) := fun v hv => by
    obtain ⟨r, hr1, hr2⟩ := paired_mem pv hv
    exact ⟨r, refRow_ints (X := X) I hr2, (hr r hr1).1, fun m hm => (hr r hr1).2 m hm⟩
  refine Calls.call_function_entry PyProof.Rows.kind_sorted PyProof.Rows.plain_sorted PyProof.Rows.entry_sorted (PyProof.Rows.args_sorted1 _) ?_
  unfold Builtin.«sorted»
  refine wpAny_bind (m := checkCount "sorted" 1 1 _) (wpAny_pure ?_)
  refine wpAny_bind (PySem.W.kdu_collect (A := X.A.in1) (kdl_raw hs hx hdt) (I.ok.hd hc) ho (by omega) fun h' tk acc kp it => ?_)
  have ea : acc.toList = ks.map fun x => Value.ref x.2.1 := by
    apply List.ext_getElem?
    intro j
    rw [List.getElem?_map]
    cases hj : acc.toList[j]? with
    | none =>
      have h1 := List.getElem?_eq_none_iff.mp hj
      rw [Array.length_toList, it.1] at h1
      rw [List.getElem?_eq_none (by omega)]
      rfl
    | some v =>
      obtain ⟨en, hen, hv⟩ := it.2 j v (by rw [← Array.getElem?_toList]; exact hj)
      have qe := entry_at he j
      rw [hen] at qe
      cases hb : ks[j]? with
      | none =>
        rw [hb] at qe
        exact nomatch (show some en = none from qe)
      | some b =>
        rw [hb] at qe
        have e2 : en = entryOfKey (tupleKind (mixKind X.prog X.w)) b := Option.some.inj qe
        rw [hv, e2]
        rfl
  rw [ea]
  generalize hvs : (ks.map fun x => Value.ref x.2.1) = vs at pv hT
  have hl : vs.length = ks.length := by rw [← hvs, List.length_map]
  have hz : vs.length ≤ sizeLine := by omega
  have I1 : Inv X pins σ H { s with heap := h', toks := tk } := I.kept kp
  refine wpAny_bind (wpAny_newList ?_ hz)
  have hoL : (h'.push (seqObj "list" vs.toArray 0)).get? h'.objs.size = some (seqObj "list" vs.toArray 0) := Heap.get?_push_size _ rfl
  show wpAny _ _ _ _ _ { s with heap := h'.push (seqObj "list" vs.toArray 0), toks := tk }
  refine wpAny_bind (wpAny_holding (wpAny_call_entry PyProof.Rows.slot_list_sort ⟨_, hoL, rfl⟩ PyProof.Rows.entry_list_sort
    (SrtO.list_sort_ord (s := { s with heap := h'.push (seqObj "list" vs.toArray 0), toks := tk }) (swo_ltC s.heap B) hoL hz
      (fun g2 => rows_sortable (hn1 (by rw [← Paired.length pv]; exact g2)) g2 hT fun b o e => ⟨Nat.ne_of_lt (Heap.lt_size (kp b o e)), Heap.get?_push_of_some _ (kp b o e)⟩) fun out g1 g2 => ⟨_, rfl, ?_⟩) (PyProof.Rows.args_list_sort _)))
  obtain ⟨e', he'⟩ := PyProof.Rows.sortedHeap_at (vs := vs) (out := out.toArray) hoL
  obtain ⟨m, hm1, hm2⟩ := paired_perm g2.perm pv
  have hml := refRow_map (X := X) I hm2
  have hol := g2.perm.length_eq
  refine wpAny_pure ⟨_, rfl, .ref h'.objs.size, upd H h'.objs.size (.lst (out.map backV)), I1.laid (t' := tk) (fun b u e => ?_) (Nat.le_refl _) ⟨by rw [List.length_map]; omega, out, e', vals_back (refRow_vals hm2), he'⟩, rfl, q _ m _ (refRow_back hm2) hm1 ?_ (I1.hok.fresh (Nat.le_refl _))⟩
  · have hb : b < h'.objs.size := Heap.lt_size e
    rw [PyProof.Rows.sortedHeap_old (Nat.ne_of_lt hb) (by rw [Heap.size_push]; exact Nat.lt_succ_of_lt hb)]
    exact Heap.get?_push_of_some _ e
  · rw [← hml, List.pairwise_map]
    exact g1.imp fun {x y} g => of_decide_eq_false g
end
end TT

namespace S4
open PySem L2 TT MM
/-! ### clearing by rungs that are not cleared of one another -/
/-- a rung is 0 in the first places of those ahead, 1 in its own -/
structure Tri (p : Int) (wd : Nat) (rs : RG) : Prop where
  ok : ∀ z ∈ rs, z.1 < wd ∧ z.2.length = wd ∧ InB p z.2
  one : ∀ z ∈ rs, Cg p (vec z.2 z.1) 1
  tri : rs.Pairwise fun a b => Cg p (vec b.2 a.1) 0
section
variable {p : Int} {wd : Nat}
theorem Tri.tail {z : Nat × List Int} {rs : RG} (T : Tri p wd (z :: rs)) : Tri p wd rs := ⟨fun y h => T.ok y (by simp [h]), fun y h => T.one y (by simp [h]), (List.pairwise_cons.mp T.tri).2⟩
theorem clr_at : ∀ (rs : RG) (l : List Int) (x : Nat), (∀ z ∈ rs, z.2.length = l.length ∧ Cg p (vec z.2 x) 0) → Cg p (vec (clr p rs l) x) (vec l x)
  | [], l, x, _ => .refl _
  | z :: rs, l, x, h => by
    obtain ⟨h1, h2⟩ := h z (by simp)
    have ih := clr_at rs (clr1 p l z) x fun y hy => by
      obtain ⟨a, b⟩ := h y (by simp [hy])
      exact ⟨by rw [clr1_len]; exact a, b⟩
    have s := clr1_vec (p := p) h1 x
    have m := (Cg.refl (p := p) (vec l x)).sub ((Cg.refl (p := p) (vec l z.1)).mul h2)
    rw [Int.mul_zero, Int.sub_zero] at m
    exact ih.trans (s.trans m)
theorem Tri.clear {R : Vc → Prop} : ∀ (rs : RG) (l : List Int), Tri p wd rs → l.length = wd → (∀ z ∈ rs, Spn p R (vec z.2)) → Spn p R (fun x => vec l x - vec (clr p rs l) x) ∧ ∀ z ∈ rs, Cg p (vec (clr p rs l) z.1) 0
  | [], l, _, _, _ => ⟨.zero fun x => .of_eq (by show vec l x - vec l x = 0; omega), fun z h => (nomatch h)⟩
  | z :: rs, l, T, hl, hR => by
    have hz := T.ok z (by simp)
    have s : ∀ x, Cg p (vec (clr1 p l z) x) (vec l x - vec l z.1 * vec z.2 x) := fun x => clr1_vec (by rw [hz.2.1, hl]) x
    obtain ⟨a, c⟩ := Tri.clear rs (clr1 p l z) T.tail (by rw [clr1_len]; exact hl) fun y hy => hR y (by simp [hy])
    have e : clr p (z :: rs) l = clr p rs (clr1 p l z) := rfl
    rw [e]
    refine ⟨.plus (vec l z.1) a (hR z (by simp)) fun x => ?_, fun y hy => ?_⟩
    · have h4 := ((s x).symm.add (Cg.refl (p := p) (vec l z.1 * vec z.2 x))).sub (Cg.refl (p := p) (vec (clr p rs (clr1 p l z)) x))
      refine ((Cg.of_eq ?_).trans h4).trans (.of_eq ?_) <;> omega
    · rcases List.mem_cons.mp hy with rfl | hy
      · have own : Cg p (vec (clr1 p l y) y.1) 0 := by
          have := (Cg.refl (p := p) (vec l y.1)).sub ((Cg.refl (p := p) (vec l y.1)).mul (T.one y (by simp)))
          rw [Int.mul_one, Int.sub_self] at this
          exact (s y.1).trans this
        refine (clr_at rs (clr1 p l y) y.1 fun z hz2 => ⟨?_, (List.pairwise_cons.mp T.tri).1 z hz2⟩).trans own
        rw [clr1_len, hl]
        exact (T.ok z (by simp [hz2])).2.1
      · exact c y hy
/-- the state of the short going: as many rungs, in the same places, as the ladder's going has -/
structure St2 (p : Int) (wd : Nat) (rs : RG) (rows : List (List Int)) : Prop where
  T : Tri p wd rs
  room : ∀ z ∈ rs, Spn p (fun v => ∃ l ∈ rows, v = vec l) (vec z.2)
  twin : ∃ rs', St1 p wd rs' rows ∧ rs'.map (·.1) = rs.map (·.1)
theorem St2.nil (p : Int) (wd : Nat) : St2 p wd [] [] := ⟨⟨fun z h => (nomatch h), fun z h => (nomatch h), .nil⟩, fun z h => (nomatch h), [], St1.nil p wd, rfl⟩
theorem eq_of_cg {a b : List Int} (p0 : 0 < p) (hl : a.length = b.length) (ha : InB p a) (hb : InB p b) (h : ∀ x, Cg p (vec a x) (vec b x)) : a = b := by
  apply List.ext_getElem hl
  intro x h1 h2
  have c1 := getD_in p0 ha x
  have c2 := getD_in p0 hb x
  have := (h x).eq c1.1 c1.2 c2.1 c2.2
  unfold vec at this
  rwa [getD_at (List.getElem?_eq_getElem h1), getD_at (List.getElem?_eq_getElem h2)] at this
variable {rs : RG} {rows : List (List Int)} {row : List Int}
theorem St2.same (S : St2 p wd rs rows) (p2 : 2 ≤ p) (hl : row.length = wd) (hin : InB p row) {rs' : RG} (S' : St1 p wd rs' rows) (hk : rs'.map (·.1) = rs.map (·.1)) : clr p rs row = clr p rs' row := by
  have p0 : 0 < p := by omega
  obtain ⟨a, b⟩ := S.T.clear rs row hl S.room
  obtain ⟨a', b'⟩ := S'.clear hl
  have d : Spn p (rungs (rs'.map (·.1)) (rv rs')) (fun x => vec (clr p rs row) x - vec (clr p rs' row) x) := by
    refine .plus (-1) a' ((S'.room _).mpr a) fun x => .of_eq ?_
    omega
  refine eq_of_cg p0 (by rw [clr_len, clr_len]) (clr_in p0 _ hin) (clr_in p0 _ hin) fun x => ?_
  have z := S'.lad.zero d (fun i hi => by
    have h2 := b' i hi
    rw [hk] at hi
    obtain ⟨y, hy, rfl⟩ := List.mem_map.mp hi
    have := (b y hy).sub h2
    rwa [Int.sub_zero] at this) x
  have := z.add (Cg.refl (p := p) (vec (clr p rs' row) x))
  refine ((Cg.of_eq ?_).trans this).trans (.of_eq ?_) <;> omega
theorem span_more {v : Vc} (h : Spn p (fun v => ∃ l ∈ rows, v = vec l) v) : Spn p (fun v => ∃ l ∈ rows ++ [row], v = vec l) v := h.mono fun r ⟨l, hl, e⟩ => ⟨l, List.mem_append_left _ hl, e⟩
theorem St2.skip (S : St2 p wd rs rows) (p2 : 2 ≤ p) (hl : row.length = wd) (hin : InB p row) (hz : ∀ x, x < wd → (clr p rs row).getD x 0 = 0) : St2 p wd rs (rows ++ [row]) := by
  obtain ⟨rs', S', hk⟩ := S.twin
  have e := S.same p2 hl hin S' hk
  exact ⟨S.T, fun z h => span_more (S.room z h), rs', S'.skip hl (by rw [← e]; exact hz), hk⟩
theorem St2.put (S : St2 p wd rs rows) (p2 : 2 ≤ p) (hl : row.length = wd) (hin : InB p row) {k : Nat} {u : Int} (hk : k < wd) (h0 : (clr p rs row).getD k 0 ≠ 0) (hz : ∀ x, x < k → (clr p rs row).getD x 0 = 0)
    (hu : Cg p (u * (clr p rs row).getD k 0) 1) : k ∉ rs.map (·.1) ∧ St2 p wd (rs ++ [(k, mulL p u (clr p rs row))]) (rows ++ [row]) := by
  have p0 : 0 < p := by omega
  obtain ⟨rs', S', hkk⟩ := S.twin
  have e := S.same p2 hl hin S' hkk
  have St := S'.put (u := u) p2 hl hin hk (by rw [← e]; exact h0) (by rw [← e]; exact hz) (by rw [← e]; exact hu)
  obtain ⟨a, b⟩ := S.T.clear rs row hl S.room
  have kP : k ∉ rs.map (·.1) := fun q => by
    obtain ⟨z, hz1, rfl⟩ := List.mem_map.mp q
    have := b z hz1
    have c := getD_in p0 (clr_in p0 rs hin) z.1
    exact h0 (this.zero_of c.1 c.2)
  refine ⟨kP, ⟨⟨fun z h => ?_, fun z h => ?_, ?_⟩, fun z h => ?_, _, St, ?_⟩⟩
  · rcases List.mem_append.mp h with h | h
    · exact S.T.ok z h
    · rw [List.mem_singleton.mp h]
      refine ⟨hk, ?_, fun x hx => ?_⟩
      · show (mulL p u (clr p rs row)).length = wd
        unfold mulL
        rw [List.length_map, clr_len]
        exact hl
      · obtain ⟨y, _, rfl⟩ := List.mem_map.mp hx
        exact mod_b p0
  · rcases List.mem_append.mp h with h | h
    · exact S.T.one z h
    · rw [List.mem_singleton.mp h]
      exact (mulL_vec k).trans hu
  · rw [List.pairwise_append]
    refine ⟨S.T.tri, List.pairwise_singleton _ _, fun y hy z hz2 => ?_⟩
    rw [List.mem_singleton.mp hz2]
    have := (Cg.refl (p := p) u).mul (b y hy)
    rw [Int.mul_zero] at this
    exact (mulL_vec y.1).trans this
  · rcases List.mem_append.mp h with h | h
    · exact span_more (S.room z h)
    · rw [List.mem_singleton.mp h]
      have hr : Spn p (fun v => ∃ l ∈ rows ++ [row], v = vec l) (vec (clr p rs row)) := .plus (-1) (.row ⟨row, by simp, rfl⟩) (span_more a) fun x => .of_eq (by omega)
      exact .plus u (.zero (v := fun _ => 0) fun _ => .refl 0) hr fun x => (mulL_vec x).trans (.of_eq (by omega))
  · rw [putIn_keys, hkk, List.map_append]
    rfl
end
/-- how many there are is the rank -/
theorem IsLad.len {p : Int} {wd : Nat} {rows lad : List (List Int)} {rs' : RG} (A : IsLad p wd rows lad) (S' : St1 p wd rs' rows) (p2 : 2 ≤ p) : lad.length = rs'.length := by
  obtain ⟨rs, ys, S, hp, hu, rfl⟩ := A
  obtain ⟨k1, _⟩ := S.only S' p2 fun v => Iff.rfl
  have h1 := ((List.perm_ext_iff_of_nodup S.lad.nd S'.lad.nd).mpr k1).length_eq
  rw [List.length_map, List.length_map] at h1
  rw [List.length_map, hp.length_eq]
  unfold keysI
  rw [List.length_map]
  exact h1
theorem St2.len {p : Int} {wd : Nat} {rs : RG} {rows lad : List (List Int)} (S : St2 p wd rs rows) (p2 : 2 ≤ p) (A : IsLad p wd rows lad) : lad.length = rs.length := by
  obtain ⟨rs', S', hk⟩ := S.twin
  have := congrArg List.length hk
  rw [List.length_map, List.length_map] at this
  rw [A.len S' p2, this]
end S4

namespace S4
open PySem L2 TT MM
/-! ### all rows of a room -/
def InRoom (p : Int) (wd : Nat) (rows : List (List Int)) (r : List Int) : Prop := isRow r p wd ∧ Spn p (rowsS rows) (vec r)
theorem isRow_len {r : List Int} {p : Int} {wd : Nat} (h : isRow r p wd) : r.length = wd := by have := h.1; omega
theorem inRoom_nil {p : Int} {wd : Nat} (p0 : 0 < p) {r : List Int} : InRoom p wd [] r ↔ r = List.replicate wd 0 := by
  constructor
  · rintro ⟨h1, h2⟩
    refine eq_of_cg p0 (by rw [isRow_len h1, List.length_replicate]) h1.2 (isRow_zeros p0 wd).2 fun x => ?_
    rw [vec_zero]
    exact h2.nought fun v hv => by obtain ⟨l, hl, _⟩ := hv; cases hl
  · rintro rfl
    exact ⟨isRow_zeros p0 wd, .zero fun x => .of_eq (vec_zero wd x)⟩
theorem spn_snoc {p : Int} {rows : List (List Int)} {row : List Int} {v : Vc} (h : Spn p (rowsS (rows ++ [row])) v) : ∃ (c : Int) (u : Vc), Spn p (rowsS rows) u ∧ ∀ x, Cg p (v x) (u x + c * vec row x) := by
  induction h with
  | @zero v h => exact ⟨0, v, .zero h, fun x => .of_eq (by omega)⟩
  | @add u r v c hu hr h ih =>
    obtain ⟨c', u', h1, h2⟩ := ih
    obtain ⟨l, hl, rfl⟩ := hr
    rcases List.mem_append.mp hl with hl | hl
    · refine ⟨c', fun x => u' x + c * vec l x, .add c h1 ⟨l, hl, rfl⟩ fun x => .refl _, fun x => ?_⟩
      refine (h x).trans (((h2 x).add (Cg.refl (p := p) (c * vec l x))).trans (.of_eq ?_))
      show u' x + c' * vec row x + c * vec l x = u' x + c * vec l x + c' * vec row x
      omega
    · rw [List.mem_singleton.mp hl] at h
      refine ⟨c' + c, u', h1, fun x => ?_⟩
      refine (h x).trans (((h2 x).add (Cg.refl (p := p) (c * vec row x))).trans (.of_eq ?_))
      rw [Int.add_mul]
      omega
theorem inRoom_snoc {p : Int} {wd : Nat} (p0 : 0 < p) {rows : List (List Int)} {row r : List Int} (hrow : isRow row p wd) :
    InRoom p wd (rows ++ [row]) r ↔ ∃ one, InRoom p wd rows one ∧ ∃ m : Int, (0 ≤ m ∧ m < p) ∧ r = lessL p one row m := by
  have hrl := isRow_len hrow
  constructor
  · rintro ⟨h1, h2⟩
    have h1l := isRow_len h1
    obtain ⟨c, u, hu, hv⟩ := spn_snoc h2
    have ol : (lessL p r row c).length = wd := by rw [lessL_len]; exact h1l
    have ov : ∀ x, Cg p (vec (lessL p r row c) x) (vec r x - c * vec row x) := fun x => lessL_vec (by omega) c x
    refine ⟨lessL p r row c, ⟨⟨by rw [ol], lessL_in p0 _ _ _⟩, hu.cg fun x => ?_⟩, (-c) % p, mod_b p0, ?_⟩
    · have := (hv x).sub (Cg.refl (p := p) (c * vec row x))
      exact (ov x).trans (this.trans (.of_eq (by omega)))
    · refine eq_of_cg p0 (by rw [lessL_len, ol, h1l]) h1.2 (lessL_in p0 _ _ _) fun x => ?_
      have h3 := lessL_vec (p := p) (l := lessL p r row c) (r := row) (by omega) ((-c) % p) x
      have h4 := (ov x).sub ((Cg.mod (p := p) (-c)).mul (Cg.refl (vec row x)))
      refine ((h3.trans h4).trans (.of_eq ?_)).symm
      rw [Int.neg_mul]
      omega
  · rintro ⟨one, ⟨h1, h2⟩, m, hm, rfl⟩
    have h1l := isRow_len h1
    refine ⟨⟨by rw [lessL_len]; exact h1.1, lessL_in p0 _ _ _⟩, .plus (-m) (h2.mono fun v ⟨l, hl, e⟩ => ⟨l, List.mem_append_left _ hl, e⟩) (.row ⟨row, by simp, rfl⟩) fun x => ?_⟩
    refine (lessL_vec (by omega) m x).trans (.of_eq ?_)
    rw [Int.neg_mul]
    omega
/-! ### the numbers that rows make -/
theorem code_inj {B : Int} : ∀ {a b : List Int}, a.length = b.length → TS.Bd B a → TS.Bd B b → TS.code B a = TS.code B b → a = b
  | [], [], _, _, _, _ => rfl
  | [], _ :: _, h, _, _, _ => by simp at h
  | _ :: _, [], h, _, _, _ => by simp at h
  | x :: a, y :: b, hl, ha, hb, h => by
    have hl' : a.length = b.length := by simpa using hl
    rcases Int.lt_trichotomy x y with q | q | q
    · have := TS.code_lt hl' ha.tail hb.tail q
      omega
    · subst q
      have h2 : TS.code B a = TS.code B b := by
        have h' : x * B ^ a.length + TS.code B a = x * B ^ b.length + TS.code B b := h
        rw [hl'] at h'
        omega
      rw [code_inj hl' ha.tail hb.tail h2]
    · have := TS.code_lt hl'.symm hb.tail ha.tail q
      omega
theorem rows_bound {p : Int} {wd : Nat} (p2 : 2 ≤ p) (p7 : p ≤ 7) (w7 : wd ≤ 7) {L : List (List Int)} (nd : L.Nodup) (h : ∀ r ∈ L, isRow r p wd) : L.length ≤ 823543 := by
  have hp : p ^ wd ≤ 823543 := by
    have h1 : ∀ n : Nat, 0 ≤ p ^ n ∧ p ^ n ≤ 7 ^ n := fun n => by
      induction n with
      | zero => exact ⟨by rw [Int.pow_zero]; decide, by rw [Int.pow_zero, Int.pow_zero]; decide⟩
      | succ n ih =>
        rw [Int.pow_succ, Int.pow_succ]
        exact ⟨Int.mul_nonneg ih.1 (by omega), Int.mul_le_mul ih.2 p7 (by omega) (by omega)⟩
    have h2 := (h1 wd).2
    have h3 : (7 : Int) ^ wd ≤ 823543 := by
      have : wd = 0 ∨ wd = 1 ∨ wd = 2 ∨ wd = 3 ∨ wd = 4 ∨ wd = 5 ∨ wd = 6 ∨ wd = 7 := by omega
      rcases this with h | h | h | h | h | h | h | h <;> rw [h] <;> decide
    omega
  have := nodup_len (l := L.map (TS.code p)) (V := (List.range 823543).map fun (i : Nat) => (i : Int)) (by
    rw [List.nodup_iff_pairwise_ne, List.pairwise_map]
    refine List.Pairwise.imp_of_mem (fun {a b} ha hb hne e => ?_) (List.nodup_iff_pairwise_ne.mp nd)
    exact hne (code_inj (by rw [isRow_len (h a ha), isRow_len (h b hb)]) (h a ha).2 (h b hb).2 e)) (fun v hv => by
    obtain ⟨r, hr, rfl⟩ := List.mem_map.mp hv
    have c := TS.code_bd r (h r hr).2
    rw [isRow_len (h r hr)] at c
    exact List.mem_map.mpr ⟨(TS.code p r).toNat, List.mem_range.mpr (by omega), by omega⟩)
  rw [List.length_map, List.length_map, List.length_range] at this
  exact this
/-- two ascending lists of the same rows, none twice, are one -/
theorem rows_same {p : Int} {wd : Nat} {l m : List (List Int)} (nl : l.Nodup) (nm : m.Nodup) (h : ∀ r, r ∈ l ↔ r ∈ m) (hr : ∀ r ∈ l, isRow r p wd)
    (sl : l.Pairwise (fun a b => ¬ TS.code p b < TS.code p a)) (sm : m.Pairwise (fun a b => ¬ TS.code p b < TS.code p a)) : l = m := by
  have hp : l.Perm m := (List.perm_ext_iff_of_nodup nl nm).mpr h
  refine hp.eq_of_pairwise (fun a b ha hb q1 q2 => ?_) sl sm
  have hb' := (h b).mpr hb
  exact code_inj (by rw [isRow_len (hr a ha), isRow_len (hr b hb')]) (hr a ha).2 (hr b hb').2 (by omega)
/-! ### rows as keys -/
def kR (r : List Int) : List L2.Key := r.map Sum.inl
theorem kR_inj {a b : List Int} (h : kR a = kR b) : a = b := by
  have : ∀ {a b : List Int}, kR a = kR b → a = b := by
    intro a
    induction a with
    | nil => intro b h; cases b with | nil => rfl | cons y b => simp [kR] at h
    | cons x a ih =>
      intro b h
      cases b with
      | nil => simp [kR] at h
      | cons y b =>
        unfold kR at h
        rw [List.map_cons, List.map_cons] at h
        obtain ⟨h1, h2⟩ := List.cons.inj h
        rw [Sum.inl.inj h1, ih h2]
  exact this h
theorem kR_kV (r : List Int) : (kR r).map kV = r.map V.int := by unfold kR; rw [List.map_map]; rfl
def addL (L : List (List Int)) (r : List Int) : List (List Int) := if r ∈ L then L else L ++ [r]
theorem addL_mem {L : List (List Int)} {r x : List Int} : x ∈ addL L r ↔ x ∈ L ∨ x = r := by
  unfold addL
  split
  · rename_i h
    exact ⟨.inl, fun q => q.elim id fun e => e ▸ h⟩
  · rw [List.mem_append, List.mem_singleton]
theorem addL_nodup {L : List (List Int)} {r : List Int} (h : L.Nodup) : (addL L r).Nodup := by
  unfold addL
  split
  · exact h
  · rename_i hn
    rw [List.nodup_append]
    exact ⟨h, by simp, fun a ha b hb e => hn (by rw [← List.mem_singleton.mp hb, ← e]; exact ha)⟩
theorem putK_keys {kvs : List (List L2.Key × V)} {L : List (List Int)} {r : List Int} {v : V} (h : kvs.map (·.1) = L.map kR) : (putK kvs (kR r) v).map (·.1) = (addL L r).map kR := by
  have hm : (kvs.any fun kv => decide (kv.1 = kR r)) = true ↔ r ∈ L := by
    rw [List.any_eq_true]
    constructor
    · rintro ⟨kv, hk, e⟩
      have e := of_decide_eq_true e
      have : kv.1 ∈ L.map kR := by rw [← h]; exact List.mem_map.mpr ⟨kv, hk, rfl⟩
      obtain ⟨y, hy, e2⟩ := List.mem_map.mp this
      rw [e] at e2
      rw [← kR_inj e2]
      exact hy
    · intro hr
      have : kR r ∈ kvs.map (·.1) := by rw [h]; exact List.mem_map.mpr ⟨r, hr, rfl⟩
      obtain ⟨kv, hk, e⟩ := List.mem_map.mp this
      exact ⟨kv, hk, decide_eq_true e⟩
  unfold putK addL
  by_cases q : r ∈ L
  · rw [if_pos (hm.mpr q), if_pos q, List.map_map, ← h]
    refine List.map_congr_left fun kv _ => ?_
    show (if kv.1 = kR r then (kv.1, v) else kv).1 = kv.1
    split <;> rfl
  · rw [if_neg (fun z => q (hm.mp z)), if_neg q, List.map_append, List.map_append, h]
    rfl
end S4

namespace S4
open PySem L2 TT MM
section
variable {P : Program} {w : World} {K : PySem.W.Frag} {mg : Str → Option Value} {base : Heap} {cT cS : Addr}
/-! ### the rank -/
def spRankOf (K : PySem.W.Frag) : Sp := fun vs H Q _ => ∃ (a : Addr) (p : Int) (wd : Nat) (xs : List V) (rws : List (List Int)), vs = [.int p, .int (wd : Int), .ref a] ∧ SqS K H a xs ∧ Paired (rRow H) xs rws ∧ rws.length ≤ 1000 ∧ Prm p ∧ p ≤ 1000000 ∧ wd ≤ 1000 ∧ (∀ r ∈ rws, isRow r p wd) ∧
  ∀ H' (n : Nat), Same H H' → n ≤ wd → (∀ lad, IsLad p wd rws lad → lad.length = n) → Q (.int (n : Int)) H'
def spWiden (K : PySem.W.Frag) : Sp := fun vs H Q _ => ∃ (H0 : Hp) (a dr : Addr) (p : Int) (wd : Nat) (xs : List V) (rws : List (List Int)), vs = [.int p, .int (wd : Int), .ref dr, .ref a] ∧ Same H0 H ∧ H0 dr = none ∧ H dr = some (.dK []) ∧ SqS K H0 a xs ∧ Paired (rRow H0) xs rws ∧ rws.length ≤ 1000 ∧ Prm p ∧ p ≤ 1000000 ∧ wd ≤ 1000 ∧ (∀ r ∈ rws, isRow r p wd) ∧
  ∀ H' kvs rs, Same H0 H' → H' dr = some (.dK kvs) → Paired (kvR H') kvs rs → St2 p wd rs rws → Q (.ref dr) H'
theorem ok_widened (T : Tx K mg cT cS) {f : Addr} {fd : FuncData} (d : D K mg "widened" s_widened ["p", "wide", "rungs", "rows"] f fd) : FnOk P w K mg base CX0 2 f fd ["p", "wide", "rungs", "rows"] (spWiden K) := by
  obtain ⟨f1, fd1, d1⟩ := T.d_cleared
  have G1 : FnOk P w K mg base CX0 1 f1 fd1 ["p", "rungs", "row"] spCleared := ok_cleared T d1
  obtain ⟨f2, fd2, d2⟩ := T.d_first_place
  have G2 : FnOk P w K mg base CX0 1 f2 fd2 ["row", "wide"] spFirst := ok_first T d2
  obtain ⟨f3, fd3, d3⟩ := T.d_multiplied
  have G3 : FnOk P w K mg base CX0 1 f3 fd3 ["p", "factor", "row"] spMult := ok_mult T d3
  obtain ⟨f4, fd4, d4⟩ := T.d_inverse
  have G4 : FnOk P w K mg base CX0 1 f4 fd4 ["p", "value"] spInverse := ok_inverse T d4
  refine d.F.ok sc_widened (fun vs H Q E h => ?_) (fun cdv A outer s H vs Q E hr h => ?_)
  · obtain ⟨H0, a, dr, p, wd, xs, rws, rfl, _⟩ := h
    rfl
  · obtain ⟨H0, a, dr, p, wd, xs, rws, rfl, s1, hdr, hdd, hS, hp, hl, prm, pm, hwd, hrw, q⟩ := h
    have p2 := prm.1
    have p0 : 0 < p := by omega
    have hlen := paired_len hp
    refine ⟨_, pss_cons (ps_for PassesOwn.never rfl (pi_or (pi_list (pv 3)) (pi_tup (pv 3))) (pg_name (i := 4) sc_widened.nd rfl (Or.inl rfl))
        (pss_cons (ps_set (i := 5) sc_widened.nd rfl (.inl rfl) (pe_call G1 hr rfl d1.m d1.F.kp d1.b .nil pass0 (pa_cons (pv 0) (pa_cons (pv 2) (pa_cons (pv 4) pa_nil)))))
        (pss_cons (ps_set (i := 6) sc_widened.nd rfl (.inl rfl) (pe_call G2 hr rfl d2.m d2.F.kp d2.b .nil pass0 (pa_cons (pv 5) (pa_cons (pv 1) pa_nil))))
        (pss_one (ps_if (pt_cmp (pc_notN (pv 6)))
          (pss_one (ps_dput (hu_of hr) (pv 2) (pv 6) (pe_call G3 hr rfl d3.m d3.F.kp d3.b .nil pass0 (pa_cons (pv 0) (pa_cons (pe_call G4 hr rfl d4.m d4.F.kp d4.b .nil pass0 (pa_cons (pv 0) (pa_cons (pe_ix ix_tup (pv 5) (pv 6) (fun _ _ => rfl)) pa_nil))) (pa_cons (pv 5) pa_nil)))) rfl)) pss_nil)))))
      (pss_one (ps_ret (pv 2))), ?_⟩
    dsimp only [gName, tSeq]
    have P0 : ∃ rs kvs x4 x5 x6, [some (V.int p), some (V.int (wd : Int)), some (V.ref dr), some (V.ref a), none, none, none] = [some (V.int p), some (V.int (wd : Int)), some (V.ref dr), some (V.ref a), x4, x5, x6] ∧ Same H0 H ∧ H dr = some (.dK kvs) ∧ Paired (kvR H) kvs rs ∧ St2 p wd rs (rws.take 0) :=
      ⟨[], [], none, none, none, rfl, s1, hdd, .nil, by rw [List.take_zero]; exact St2.nil p wd⟩
    apply twice
    · intro hs
      apply twice
      · intro hd
        rcases hS with h | h
        · exact .inl ⟨_, rfl, a, rfl, ⟨_, .of (s1 _ _ h)⟩, for_it (walk_list (xs := xs)) (fun i σ H' => ∃ rs kvs x4 x5 x6, σ = [some (V.int p), some (V.int (wd : Int)), some (V.ref dr), some (V.ref a), x4, x5, x6] ∧ Same H0 H' ∧ H' dr = some (.dK kvs) ∧ Paired (kvR H') kvs rs ∧ St2 p wd rs (rws.take i)) P0 (fun i σ H' _ q => .of (let ⟨_, _, _, _, _, _, z, _⟩ := q; z _ _ h)) hs hd⟩
        · exact .inr ⟨_, rfl, a, rfl, ⟨_, .of (s1 _ _ h)⟩, for_it (walk_tup (xs := xs)) (fun i σ H' => ∃ rs kvs x4 x5 x6, σ = [some (V.int p), some (V.int (wd : Int)), some (V.ref dr), some (V.ref a), x4, x5, x6] ∧ Same H0 H' ∧ H' dr = some (.dK kvs) ∧ Paired (kvR H') kvs rs ∧ St2 p wd rs (rws.take i)) P0 (fun i σ H' _ q => .of (let ⟨_, _, _, _, _, _, z, _⟩ := q; z _ _ h)) hs hd⟩
      · rintro σ H2 ⟨rs, kvs, x4, x5, x6, rfl, s2, hk1, hk2, S⟩
        rw [hlen, List.take_length] at S
        exact ⟨_, rfl, q H2 kvs rs s2 hk1 hk2 S⟩
    · rintro i x σ H2 H3 hi ⟨rs, kvs, x4, x5, x6, rfl, s2, hk1, hk2, S⟩ ⟨rfl, hx⟩
      obtain ⟨row, hrow, hrr⟩ := paired_get (paired_mono mono_row s2.keep hp) hx
      have hir := hrw row (List.mem_of_getElem? hrow)
      have hrl : row.length = wd := by have := hir.1; omega
      have etake : rws.take (i + 1) = rws.take i ++ [row] := by rw [List.take_succ, hrow]; rfl
      obtain ⟨rs', S', hkk⟩ := S.twin
      have e1 := congrArg List.length hkk
      rw [List.length_map, List.length_map] at e1
      have e2 := S'.len
      have nd : (rs.map (·.1)).Nodup := by rw [← hkk]; exact S'.lad.nd
      refine ⟨_, rfl, _, rfl, _, rfl, dr, .dK kvs, x, row, rs, p, rfl, hk1, ⟨kvs, rfl, hk2⟩, nd, hrr, p0, pm, hir.2, by omega, by omega, fun z hz => by have := S.T.ok z hz; exact ⟨by omega, by omega⟩, fun H4 v4 s4 hv4 => ?_⟩
      dsimp only [gName, tSeq]
      have cl := clr_len p rs row
      refine ⟨_, rfl, _, rfl, v4, clr p rs row, wd, rfl, hv4, by omega, by omega, fun hz => ?_, fun k hk h0 hz => ?_⟩
      · dsimp only [gName, tSeq]
        refine ⟨_, rfl, _, rfl, ?_⟩
        rw [decide_eq_true rfl]
        refine iteF ⟨rs, kvs, _, _, _, rfl, s2.trans s4, s4 _ _ hk1, kvR_mono (fun _ _ h => s4 _ _ h) hk2, ?_⟩
        rw [etake]
        exact S.skip p2 hrl hir.2 hz
      · dsimp only [gName, tSeq]
        refine ⟨_, rfl, _, rfl, ?_⟩
        rw [decide_eq_false (fun e => nomatch e)]
        refine iteT ?_
        have hri := clr_in p0 rs hir.2
        have hb := getD_in p0 hri k
        have hkq : (clr p rs row)[k]? = some ((clr p rs row)[k]'(by omega)) := List.getElem?_eq_getElem (by omega)
        have hkg := getD_at (d := (0 : Int)) hkq
        obtain ⟨t4, rfl, ht4⟩ := hv4
        refine ⟨_, rfl, _, rfl, _, rfl, _, rfl, t4, _, _, _, rfl, rfl, .of ht4, atI_nat (int_at hkq), ?_⟩
        rw [← hkg]
        refine ⟨p, _, rfl, pm, by omega, by omega, prm.gcd (by omega) (by omega), fun u u0 u1 hu H5 s5 => ?_⟩
        refine ⟨_, rfl, .ref t4, clr p rs row, p, u, rfl, ⟨t4, rfl, s5.keep.tup ht4⟩, p0, ⟨by omega, by omega⟩, by omega, fun H6 v6 s6 hv6 => ?_⟩
        have s46 := (s4.trans s5).trans s6
        obtain ⟨kP, St⟩ := S.put (u := u) p2 hrl hir.2 hk h0 hz hu
        have hk6 := s46 _ _ hk1
        have hk26 := kvR_mono (H' := H6) (fun _ _ h => s46 _ _ h) hk2
        have hkl := paired_len hk26
        refine ⟨_, rfl, _, rfl, dr, _, rfl, DPut.k (k := Sum.inl ((k : Nat) : Int)) hk6 (Nat.lt_of_le_of_lt (by omega : kvs.length ≤ 1000) (by decide)), ?_⟩
        rw [putK_new _ (val_none hk26 kP)]
        refine ⟨rs ++ [(k, mulL p u (clr p rs row))], kvs ++ [(Sum.inl ((k : Nat) : Int), v6)], _, _, _, rfl, same_own (s2.trans s46) hdr, upd_same, kvR_mono (fun t xs h => by rw [upd_ne (ne_of h hk6 (fun z => nomatch z))]; exact h) (paired_app hk26 (.cons ⟨rfl, hv6⟩ .nil)), ?_⟩
        rw [etake]
        exact St
theorem ok_rank_of (T : Tx K mg cT cS) {f : Addr} {fd : FuncData} (d : D K mg "rank_of" s_rank_of ["p", "wide", "rows"] f fd) : FnOk P w K mg base CX0 3 f fd ["p", "wide", "rows"] (spRankOf K) := by
  obtain ⟨f1, fd1, d1⟩ := T.d_widened
  have G1 : FnOk P w K mg base CX0 2 f1 fd1 ["p", "wide", "rungs", "rows"] (spWiden K) := ok_widened T d1
  refine d.F.ok sc_rank_of (fun vs H Q E h => ?_) (fun cdv A outer s H vs Q E hr h => ?_)
  · obtain ⟨a, p, wd, xs, rws, rfl, _⟩ := h
    rfl
  · obtain ⟨a, p, wd, xs, rws, rfl, hS, hp, hl, prm, pm, hwd, hrw, q⟩ := h
    refine ⟨_, pss_one (ps_ret (pe_callB call_lenD (by rfl) T.b_len PySem.boot_len (pa_cons (pe_call G1 hr rfl d1.m d1.F.kp d1.b .nil pass0 (pa_cons (pv 0) (pa_cons (pv 1) (pa_cons pe_dnewK (pa_cons (pv 2) pa_nil))))) pa_nil))), ?_⟩
    refine ⟨_, rfl, _, rfl, fun dr hdr => ⟨_, rfl, H, a, dr, p, wd, xs, rws, rfl, same_new hdr, hdr, upd_same, hS, hp, hl, prm, pm, hwd, hrw, fun H2 kvs rs s2 hk1 hk2 S => ?_⟩⟩
    obtain ⟨rs', S', hk⟩ := S.twin
    have e1 := congrArg List.length hk
    rw [List.length_map, List.length_map] at e1
    have e2 := S'.len
    refine ⟨dr, kvs, rfl, hk1, ?_⟩
    rw [paired_len hk2]
    exact q H2 rs.length s2 (by omega) fun lad A => S.len prm.1 A
def spRank (K : PySem.W.Frag) : Sp := fun vs H Q _ => ∃ (a : Addr) (p : Int) (wd : Nat) (xs : List V) (rws : List (List Int)), vs = [.int p, .int (wd : Int), .ref a] ∧ SqS K H a xs ∧ Paired (rRow H) xs rws ∧ rws.length ≤ 200 ∧ NoDiv p ∧ wd ≤ 200 ∧ (∀ r ∈ rws, isRow r p wd) ∧
  ∀ H' (n : Nat), Same H H' → n ≤ wd → (∀ lad, IsLad p wd rws lad → lad.length = n) → Q (.int (n : Int)) H'
theorem ok_rank (T : Tx K mg cT cS) {f : Addr} {fd : FuncData} (d : D K mg "rank" s_rank ["p", "wide", "rows"] f fd) : FnOk P w K mg base CX0 6 f fd ["p", "wide", "rows"] (spRank K) := by
  obtain ⟨f1, fd1, d1⟩ := T.d_check_rows
  have G1 : FnOk P w K mg base CX0 5 f1 fd1 ["p", "wide", "rows"] (spRowsC K) := ok_check_rows T d1
  obtain ⟨f2, fd2, d2⟩ := T.d_rank_of
  have G2 : FnOk P w K mg base CX0 3 f2 fd2 ["p", "wide", "rows"] (spRankOf K) := ok_rank_of T d2
  refine d.F.ok sc_rank (fun vs H Q E h => ?_) (fun cdv A outer s H vs Q E hr h => ?_)
  · obtain ⟨a, p, wd, xs, rws, rfl, _⟩ := h
    rfl
  · obtain ⟨a, p, wd, xs, rws, rfl, hS, hp, hl, nd, hwd, hrw, q⟩ := h
    refine ⟨_, pss_cons (ps_expr (pe_call G1 hr rfl d1.m d1.F.kp d1.b .nil pass0 (pa_cons (pv 0) (pa_cons (pv 1) (pa_cons (pv 2) pa_nil)))))
      (pss_one (ps_ret (pe_call G2 (hr.mono (by decide)) rfl d2.m d2.F.kp d2.b .nil pass0 (pa_cons (pv 0) (pa_cons (pv 1) (pa_cons (pv 2) pa_nil)))))), ?_⟩
    refine ⟨_, rfl, _, rfl, _, rfl, a, p, wd, xs, rws, rfl, hS, hp, hl, nd, hwd, hrw, fun H2 s2 => ?_⟩
    exact ⟨_, rfl, _, rfl, _, rfl, a, p, wd, xs, rws, rfl, hS.same s2, paired_mono mono_row s2.keep hp, by omega, nd.prm, nd.2.1, by omega, hrw, fun H' n s' => q H' n (s2.trans s')⟩
end
end S4

namespace S4
open PySem L2 TT MM
section
variable {P : Program} {w : World} {K : PySem.W.Frag} {mg : Str → Option Value} {base : Heap} {cT cS : Addr}
/-! ### the rows of a room, told by the check -/
def spAllMix (K : PySem.W.Frag) : Sp := fun vs H Q _ => ∃ (a : Addr) (p : Int) (wd : Nat) (xs : List V) (rws : List (List Int)), vs = [.int p, .int (wd : Int), .ref a] ∧ 2 ≤ p ∧ p ≤ 7 ∧ wd ≤ 7 ∧ H a = some (.lst xs) ∧ Paired (rRow H) xs rws ∧ (∀ r ∈ rws, isRow r p wd) ∧
  ∀ H' b ys l, Same H H' → H' b = some (.lst ys) → Paired (rRow H') ys l → l.Nodup → (∀ r, r ∈ l ↔ InRoom p wd rws r) → l.Pairwise (fun a b => ¬ TS.code p b < TS.code p a) → Q (.ref b) H'
/-- a dict whose keys are these rows -/
def DR (H : Hp) (d : Addr) (L : List (List Int)) : Prop := ∃ kvs, H d = some (.dT kvs) ∧ kvs.map (·.1) = L.map kR
theorem ok_all_mix (T : Tx K mg cT cS) {f : Addr} {fd : FuncData} (d : D K mg "_law_all_mixtures" s_law_all_mixtures ["p", "wide", "rows"] f fd) : FnOk P w K mg base CX0 2 f fd ["p", "wide", "rows"] (spAllMix K) := by
  obtain ⟨f1, fd1, d1⟩ := T.d_law_less
  have G1 : FnOk P w K mg base CX0 1 f1 fd1 ["p", "row", "other", "many"] spLessV := ok_lessV T d1
  refine d.F.ok sc_law_all_mixtures (fun vs H Q E h => ?_) (fun cdv A outer s H vs Q E hr h => ?_)
  · obtain ⟨a, p, wd, xs, rws, rfl, _⟩ := h
    rfl
  · obtain ⟨a, p, wd, xs, rws, rfl, p2, p7, w7, ha, hp, hrw, q⟩ := h
    have p0 : 0 < p := by omega
    have hlen := paired_len hp
    refine ⟨_, pss_cons (ps_set (i := 3) sc_law_all_mixtures.nd rfl (.inl rfl) (pe_disp1 (hu_of hr) (pe_op op_repA (pe_tup (pa_cons pe_int pa_nil)) (pv 1)) pe_bl))
      (pss_cons (ps_for PassesOwn.never rfl (pi_list (pv 2)) (pg_name (i := 4) sc_law_all_mixtures.nd rfl (Or.inl rfl))
        (pss_cons (ps_set (i := 5) sc_law_all_mixtures.nd rfl (.inl rfl) pe_dnewT)
        (pss_cons (ps_lock (ps_for PassesOwn.never rfl (pi_keys (pv 3)) (pg_name (i := 6) sc_law_all_mixtures.nd rfl (Or.inl rfl))
          (pss_one (ps_for PassesOwn.never rfl (pi_range1 rfl T.b_range (pa_cons (pv 0) pa_nil)) (pg_name (i := 7) sc_law_all_mixtures.nd rfl (Or.inl rfl))
            (pss_one (ps_dput (hu_of hr) (pv 5) (pe_call G1 hr rfl d1.m d1.F.kp d1.b .nil pass0 (pa_cons (pv 0) (pa_cons (pv 6) (pa_cons (pv 4) (pa_cons (pv 7) pa_nil))))) pe_bl rfl))))))
        (pss_one (ps_set (i := 3) sc_law_all_mixtures.nd rfl (.inl rfl) (pv 5))))))
      (pss_one (ps_ret (pe_callB (cr_sortedDT rfl) (by rfl) T.b_sorted (by decide +kernel) (pa_cons (pv 3) pa_nil))))), ?_⟩
    intro fa nfa
    have s1 := same_new (o := .dT []) nfa
    refine ⟨by show 1 ≤ sizeLine; decide, fun t nt => ⟨_, rfl, zeros upd_same (by omega) fun H2 v2 s2 hv2 => ?_⟩⟩
    have s12 := (same_new (o := .tup [V.int 0]) nt).trans s2
    obtain ⟨t2, rfl, ht2⟩ := hv2
    refine ⟨s12 _ _ upd_same, t2, kR (List.replicate wd 0), rfl, by rw [kR_kV]; exact ht2, ?_⟩
    dsimp only [gName, tSeq]
    have hfa2 := s12 _ _ (upd_same (H := H) (a := fa) (o := .dT []))
    refine ⟨_, rfl, a, rfl, ⟨_, .of (by rw [upd_ne (ne_of ((s1.trans s12) _ _ ha) hfa2 (fun z => nomatch z))]; exact (s1.trans s12) _ _ ha)⟩, ?_⟩
    refine for_it (walk_list (xs := xs)) (fun i σ H' => ∃ d L x4 x5 x6 x7, σ = [some (.int p), some (.int (wd : Int)), some (.ref a), some (.ref d), x4, x5, x6, x7] ∧ Same H H' ∧ H d = none ∧ DR H' d L ∧ L.Nodup ∧ ∀ r, r ∈ L ↔ InRoom p wd (rws.take i) r)
      ⟨fa, [List.replicate wd 0], none, none, none, none, rfl, same_own (s1.trans s12) nfa, nfa, ⟨_, upd_same, rfl⟩, by simp, fun r => by rw [List.take_zero, inRoom_nil p0, List.mem_singleton]⟩ (fun i σ H' _ h => .of (let ⟨_, _, _, _, _, _, _, z, _⟩ := h; z _ _ ha)) ?_ ?_
    · rintro i rv0 σ H3 H4 hi ⟨d0, L, x4, x5, x6, x7, rfl, s3, nd0, ⟨kvs, hd0, hk0⟩, ndL, hL⟩ ⟨rfl, hx⟩
      obtain ⟨row, hrow, hrr⟩ := paired_get (paired_mono mono_row s3.keep hp) hx
      have hir := hrw row (List.mem_of_getElem? hrow)
      have hrl := isRow_len hir
      have etake : rws.take (i + 1) = rws.take i ++ [row] := by rw [List.take_succ, hrow]; rfl
      have hLr : ∀ r ∈ L, isRow r p wd := fun r h => ((hL r).mp h).1
      have hLb := rows_bound p2 p7 w7 ndL hLr
      have hkl : kvs.length = L.length := by have := congrArg List.length hk0; rwa [List.length_map, List.length_map] at this
      intro mo nmo
      have s4 := same_new (o := .dT []) nmo
      have nmo0 := s3.free nmo
      have hne : mo ≠ d0 := fun e => by subst e; rw [hd0] at nmo; cases nmo
      dsimp only [gName, tSeq]
      refine ⟨d0, .dT kvs, s4 _ _ hd0, trivial, fun od => ?_⟩
      refine ⟨_, rfl, d0, od, rfl, .inr ⟨kvs, upd_same, ?_⟩⟩
      -- the rows of the heap in which the dict is locked
      have same3 : ∀ {o : HO}, Same H (upd (upd H4 mo (.dT [])) d0 o) := fun {o} => same_own (s3.trans s4) nd0
      refine for_it (walk_keysT (kvs := kvs)) (fun j σ H' => ∃ M x6 x7, σ = [some (.int p), some (.int (wd : Int)), some (.ref a), some (.ref d0), some rv0, some (.ref mo), x6, x7] ∧ Same H H' ∧ H' d0 = some (.frz od (.dT kvs)) ∧ DR H' mo M ∧ M.Nodup ∧
          ∀ r, r ∈ M ↔ ∃ (b : Nat) (one : List Int), b < j ∧ L[b]? = some one ∧ ∃ m : Int, (0 ≤ m ∧ m < p) ∧ r = lessL p one row m)
        ⟨[], _, _, rfl, same3, upd_same, ⟨[], by rw [upd_ne hne]; exact upd_same, rfl⟩, .nil, fun r => ⟨fun h => (nomatch h), fun ⟨b, _, h, _⟩ => absurd h (Nat.not_lt_zero _)⟩⟩ (fun j σ H' _ h => let ⟨_, _, _, _, _, z, _⟩ := h; z) ?_ ?_
      · rintro j x σ H5 H6 hj ⟨M, x6, x7, rfl, s5, hf5, hM, ndM, hMm⟩ ⟨rfl, k, v, qa, hkv, rfl, hqa⟩
        have hkj : (L.map kR)[j]? = some k := by rw [← hk0, List.getElem?_map, hkv]; rfl
        rw [List.getElem?_map] at hkj
        cases hone : L[j]? with
        | none => rw [hone] at hkj; cases hkj
        | some one =>
          rw [hone] at hkj
          have ek : kR one = k := Option.some.inj hkj
          subst ek
          rw [kR_kV] at hqa
          have hio := hLr one (List.mem_of_getElem? hone)
          have hol := isRow_len hio
          refine ⟨_, rfl, _, rfl, by omega, by omega, ?_⟩
          refine for_it (walk_range (lo := 0) (n := (p : Int).toNat)) (fun k σ H' => ∃ M x7, σ = [some (.int p), some (.int (wd : Int)), some (.ref a), some (.ref d0), some rv0, some (.ref mo), some (.ref qa), x7] ∧ Same H H' ∧ H' d0 = some (.frz od (.dT kvs)) ∧ H' qa = some (.tup (one.map V.int)) ∧ DR H' mo M ∧ M.Nodup ∧
              ∀ r, r ∈ M ↔ (∃ (b : Nat) (one : List Int), b < j ∧ L[b]? = some one ∧ ∃ m : Int, (0 ≤ m ∧ m < p) ∧ r = lessL p one row m) ∨ ∃ m : Int, (0 ≤ m ∧ m < (k : Int)) ∧ r = lessL p one row m)
            ⟨M, x7, rfl, s5, hf5, hqa, hM, ndM, fun r => ⟨fun h => .inl ((hMm r).mp h), fun h => h.elim (hMm r).mpr fun ⟨m, h, _⟩ => by omega⟩⟩ (fun i σ H' _ h => trivial) ?_ ?_
          · rintro k y σ H7 H8 hk ⟨M, x7, rfl, s7, hf7, hqa7, ⟨kv2, hmo7, hkeys⟩, ndM, hMm⟩ ⟨rfl, rfl⟩
            have hMr : ∀ r ∈ M, isRow r p wd := fun r h => by
              rcases (hMm r).mp h with ⟨b, o2, _, ho2, m, _, rfl⟩ | ⟨m, _, rfl⟩
              · exact ⟨by rw [lessL_len]; exact (hLr o2 (List.mem_of_getElem? ho2)).1, lessL_in p0 _ _ _⟩
              · exact ⟨by rw [lessL_len]; exact hio.1, lessL_in p0 _ _ _⟩
            have hMb := rows_bound p2 p7 w7 ndM hMr
            have hk2 : kv2.length = M.length := by have := congrArg List.length hkeys; rwa [List.length_map, List.length_map] at this
            obtain ⟨_, hrow7, hrr7⟩ := paired_get (paired_mono mono_row s7.keep hp) hx
            cases hrow.symm.trans hrow7
            refine ⟨_, rfl, _, rfl, _, rfl, _, rfl, _, rfl, .ref qa, rv0, p, _, one, row, rfl, p0, ⟨by omega, by omega⟩, ⟨qa, rfl, hqa7⟩, hrr7, by omega, by omega, fun H9 v9 s9 hv9 => ?_⟩
            obtain ⟨t9, rfl, ht9⟩ := hv9
            refine ⟨mo, _, rfl, DPut.t (k := kR (lessL p one row (0 + (k : Int)))) (s9 _ _ hmo7) (by rw [kR_kV]; exact ht9) (Nat.lt_of_le_of_lt (by omega : kv2.length ≤ 823543) (by decide)), ?_⟩
            refine ⟨addL M (lessL p one row (0 + (k : Int))), _, rfl, same_own (s7.trans s9) nmo0, by rw [upd_ne hne.symm]; exact s9 _ _ hf7, by rw [upd_ne (ne_of (s9 _ _ hqa7) (s9 _ _ hmo7) (fun z => nomatch z))]; exact s9 _ _ hqa7, ⟨_, upd_same, putK_keys hkeys⟩, addL_nodup ndM, fun r => ?_⟩
            rw [addL_mem, hMm]
            constructor
            · rintro ((h | ⟨m, h, e⟩) | e)
              · exact .inl h
              · exact .inr ⟨m, by omega, e⟩
              · exact .inr ⟨0 + (k : Int), by omega, e⟩
            · rintro (h | ⟨m, h, e⟩)
              · exact .inl (.inl h)
              · by_cases em : m = 0 + (k : Int)
                · exact .inr (em ▸ e)
                · exact .inl (.inr ⟨m, by omega, e⟩)
          · rintro σ H7 ⟨M, x7, rfl, s7, hf7, hqa7, hM7, ndM, hMm⟩
            refine ⟨M, _, _, rfl, s7, hf7, hM7, ndM, fun r => ?_⟩
            rw [hMm]
            constructor
            · rintro (⟨b, o2, hb, h⟩ | ⟨m, h, e⟩)
              · exact ⟨b, o2, by omega, h⟩
              · exact ⟨j, one, by omega, hone, m, by omega, e⟩
            · rintro ⟨b, o2, hb, ho2, m, hm, e⟩
              by_cases eb : b = j
              · subst eb
                cases hone.symm.trans ho2
                exact .inr ⟨m, by omega, e⟩
              · exact .inl ⟨b, o2, by omega, ho2, m, hm, e⟩
      · rintro σ H5 ⟨M, x6, x7, rfl, s5, hf5, ⟨kv2, hmo5, hkeys⟩, ndM, hMm⟩
        refine ⟨hf5, _, rfl, mo, M, _, _, _, _, rfl, same_own s5 nd0, nmo0, ⟨kv2, by rw [upd_ne hne]; exact hmo5, hkeys⟩, ndM, fun r => ?_⟩
        rw [hMm, etake, inRoom_snoc p0 hir]
        constructor
        · rintro ⟨b, one, _, ho, m, hm, e⟩
          exact ⟨one, (hL one).mp (List.mem_of_getElem? ho), m, hm, e⟩
        · rintro ⟨one, h1, m, hm, e⟩
          obtain ⟨b, hb⟩ := List.getElem?_of_mem ((hL one).mpr h1)
          exact ⟨b, one, by rw [hkl]; exact (List.getElem?_eq_some_iff.mp hb).1, hb, m, hm, e⟩
    · rintro σ H3 ⟨d0, L, x4, x5, x6, x7, rfl, s3, nd0, ⟨kvs, hd0, hk0⟩, ndL, hL⟩
      rw [hlen, List.take_length] at hL
      have hLr : ∀ r ∈ L, isRow r p wd := fun r h => ((hL r).mp h).1
      refine ⟨_, rfl, d0, kvs, wd, p, L, rfl, .inl hd0, hk0, fun r h => ⟨isRow_len (hLr r h), (hLr r h).2⟩, fun h2 => ?_, fun ys l b hys hpl hsl nb => ?_⟩
      · rcases Nat.eq_zero_or_pos wd with h0 | h0
        · exfalso
          have e0 : ∀ r ∈ L, r = [] := fun r h => List.eq_nil_of_length_eq_zero (by rw [isRow_len (hLr r h), h0])
          match L, ndL, e0, h2 with
          | r1 :: r2 :: l, nd, e0, _ =>
            have := (List.nodup_cons.mp nd).1
            rw [e0 r1 (by simp), ← e0 r2 (by simp)] at this
            exact this (by simp)
          | [_], _, _, h => simp at h
          | [], _, _, h => simp at h
        · exact h0
      · have s4 := same_new (o := .lst ys) nb
        exact q _ b ys l (s3.trans s4) upd_same (paired_mono mono_row s4.keep hys) (hpl.nodup_iff.mpr ndL) (fun r => by rw [hpl.mem_iff]; exact hL r) hsl
end
end S4

namespace S4
open PySem L2 TT MM
/-! ### alike -/
section
variable {H : Hp}
theorem al_int {n : Nat} {k : Int} : Alike H n (.int k) (.int k) := by
  cases n with
  | zero => exact ⟨k, rfl, rfl⟩
  | succ n => exact .inl ⟨k, rfl, rfl⟩
theorem al_tup {n : Nat} {a b : Addr} {xs ys : List V} (h1 : H a = some (.tup xs)) (h2 : H b = some (.tup ys)) (hl : xs.length ≤ 1000) (p : Paired (Alike H n) xs ys) : Alike H (n + 1) (.ref a) (.ref b) := .inr ⟨a, b, xs, ys, rfl, rfl, .inl ⟨h1, h2⟩, hl, p⟩
theorem al_ints {n : Nat} : ∀ l : List Int, Paired (Alike H n) (l.map V.int) (l.map V.int)
  | [] => .nil
  | _ :: r => .cons al_int (al_ints r)
theorem al_row {n : Nat} {u v : V} {l : List Int} (h1 : rRow H u l) (h2 : rRow H v l) (hl : l.length ≤ 1000) : Alike H (n + 1) u v := by
  obtain ⟨a, rfl, h1⟩ := h1
  obtain ⟨b, rfl, h2⟩ := h2
  exact al_tup h1 h2 (by rw [List.length_map]; exact hl) (al_ints l)
theorem al_pair {α : Type} {R : Rp α} {n : Nat} : ∀ {xs ys : List V} {l : List α}, Paired (R H) xs l → Paired (R H) ys l → (∀ u v x, x ∈ l → R H u x → R H v x → Alike H n u v) → Paired (Alike H n) xs ys
  | _, _, _, .nil, .nil, _ => .nil
  | _, _, _, .cons r t, .cons r2 t2, h => .cons (h _ _ _ (by simp) r r2) (al_pair t t2 fun u v x hx => h u v x (by simp [hx]))
theorem al_rtup {α : Type} {R : Rp α} {n : Nat} {u v : V} {l : List α} (h1 : rTup R H u l) (h2 : rTup R H v l) (hl : l.length ≤ 1000) (h : ∀ u v x, x ∈ l → R H u x → R H v x → Alike H n u v) : Alike H (n + 1) u v := by
  obtain ⟨a, xs, rfl, h1, p1⟩ := h1
  obtain ⟨b, ys, rfl, h2, p2⟩ := h2
  exact al_tup h1 h2 (by rw [paired_len p1]; exact hl) (al_pair p1 p2 h)
end
/-! ### rows as data -/
def rd (r : List Int) : PyData := .tuple (r.map PyData.int)
theorem ints_lay : ∀ l : List Int, PyData.canLayAll0 (l.map PyData.int) = true
  | [] => by simp [PyData.canLayAll0]
  | z :: zs => by simp [PyData.canLayAll0, PyData.canLay0, ints_lay zs]
theorem ints_depth : ∀ l : List Int, PyData.depthAll (l.map PyData.int) = 0
  | [] => by simp [PyData.depthAll]
  | z :: zs => by
    have h1 := ints_depth zs
    simp only [List.map_cons, PyData.depthAll, PyData.depth]
    omega
theorem ints_eqv : ∀ l : List Int, PyData.eqvAll (l.map PyData.int) (l.map PyData.int) = true
  | [] => by simp [PyData.eqvAll]
  | z :: zs => by
    have h := ints_eqv zs
    simp only [List.map_cons, PyData.eqvAll, PyData.eqv, h]
    simp
theorem rd_eqv (r : List Int) : PyData.eqv (rd r) (rd r) = true := by
  unfold rd
  simp only [PyData.eqv]
  exact ints_eqv r
theorem rds_lay : ∀ l : List (List Int), PyData.canLayAll0 (l.map rd) = true
  | [] => by simp [PyData.canLayAll0]
  | z :: zs => by
    have h : PyData.canLay0 (rd z) = true := by unfold rd; simp only [PyData.canLay0]; exact ints_lay z
    simp [PyData.canLayAll0, h, rds_lay zs]
theorem rds_depth : ∀ l : List (List Int), PyData.depthAll (l.map rd) ≤ 1
  | [] => by simp [PyData.depthAll]
  | z :: zs => by
    have h1 := rds_depth zs
    have h2 : PyData.depth (rd z) = 1 := by
      have := ints_depth z
      unfold rd
      simp only [PyData.depth]
      omega
    simp only [List.map_cons, PyData.depthAll]
    omega
theorem rdl_shaped (l : List (List Int)) : SeqAt.shaped (.list (l.map rd)) = true := by
  have h1 := rds_depth l
  have h2 : PyData.depth (.list (l.map rd)) ≤ 64 := by
    simp only [PyData.depth]
    omega
  show (PyData.canLay0 (.list (l.map rd)) && decide (PyData.depth (.list (l.map rd)) ≤ 64)) = true
  rw [Bool.and_eq_true]
  exact ⟨by simp only [PyData.canLay0]; exact rds_lay l, decide_eq_true h2⟩
theorem rds_eqv : ∀ l : List (List Int), PyData.eqvAll (l.map rd) (l.map rd) = true
  | [] => by simp [PyData.eqvAll]
  | z :: zs => by
    have h := rds_eqv zs
    have h2 := rd_eqv z
    rw [List.map_cons]
    simp only [PyData.eqvAll, h, h2]
    simp
section
variable {K : PySem.W.Frag} {H : Hp}
theorem dp_intsR : ∀ l : List Int, DpAll K H (l.map V.int) (l.map PyData.int)
  | [] => .nil
  | _ :: zs => .cons (.int _) (dp_intsR zs)
theorem dp_rows : ∀ {xs : List V} {l : List (List Int)}, Paired (rRow H) xs l → DpAll K H xs (l.map rd)
  | _, _, .nil => .nil
  | _, _, .cons r t => by
    obtain ⟨a, rfl, ha⟩ := r
    exact .cons (.tup (.of ha) (dp_intsR _)) (dp_rows t)
/-- two lists of the same rows are not unequal -/
theorem ne_rows {a b : Addr} {xs ys : List V} {l : List (List Int)} {Q : V → Hp → Prop} (ha : H a = some (.lst xs)) (hb : H b = some (.lst ys)) (hx : Paired (rRow H) xs l) (hy : Paired (rRow H) ys l) (q : Q (.bl false) H) : rNeD K (.ref a) (.ref b) H Q :=
  ⟨_, _, .lst (.of ha) (dp_rows hx), .lst (.of hb) (dp_rows hy), rdl_shaped l, rdl_shaped l, by
    have : PyData.eqv (.list (l.map rd)) (.list (l.map rd)) = true := by simp only [PyData.eqv]; exact rds_eqv l
    rw [this]; exact q⟩
theorem SqS.or {a : Addr} {xs : List V} (h : SqS K H a xs) : SqL K H a xs ∨ SqT K H a xs := h.elim (fun h => .inl (.of h)) fun h => .inr (.of h)
end
/-- rows that span the same have the same room -/
theorem inRoom_same {p : Int} {wd : Nat} {rows rows' : List (List Int)} (h : Same2 p (rowsS rows) (rowsS rows')) (r : List Int) : InRoom p wd rows r ↔ InRoom p wd rows' r := ⟨fun ⟨a, b⟩ => ⟨a, (h _).mp b⟩, fun ⟨a, b⟩ => ⟨a, (h _).mpr b⟩⟩
/-- widths and counts of rows as the check draws them -/
def Dims (wd many : Nat) : Prop := wd ≤ 200 ∧ many ≤ 200 ∧ (wd < 64 ∨ many + 1 < 64)
section
variable {P : Program} {w : World} {K : PySem.W.Frag} {mg : Str → Option Value} {base : Heap} {cT cS : Addr}
def spLaw (K : PySem.W.Frag) : Sp := fun vs H Q _ => ∃ (a : Addr) (ns : List Int), vs = [.ref a] ∧ SqL K H a (ns.map V.int) ∧ ns.length ≤ 63 ∧ ∀ H', Q (.bl true) H'
theorem ok_law (T : Tx K mg cT cS) {f : Addr} {fd : FuncData} (d : D K mg "law" s_law ["script"] f fd) : FnOk P w K mg base CX0 8 f fd ["script"] (spLaw K) := by
  obtain ⟨fh, fdh, dh⟩ := T.d_law_hand
  have Gh : FnOk P w K mg base CX0 1 fh fdh ["script"] (spHand K) := ok_hand T dh
  obtain ⟨f1, fd1, d1⟩ := T.d_law_draw
  have G1 : FnOk P w K mg base CX0 1 f1 fd1 ["hand", "many"] spDraw := ok_draw T d1
  obtain ⟨f2, fd2, d2⟩ := T.d_law_any
  have G2 : FnOk P w K mg base CX0 2 f2 fd2 ["hand", "items"] spAny := ok_any T d2
  obtain ⟨fi, fdi, di⟩ := T.d_law_is
  have Gi : FnOk P w K mg base CX0 3 fi fdi ["told", "due"] (spIs 2) := ok_is T di 2
  have Gb : FnOk P w K mg base CX0 1 fi fdi ["told", "due"] spIsB := ok_isB T di
  obtain ⟨f3, fd3, d3⟩ := T.d_is_clock
  have G3 : FnOk P w K mg base CX0 2 f3 fd3 ["thing"] spClkB := ok_clkB T d3
  obtain ⟨f4, fd4, d4⟩ := T.d_law_is_prime
  have G4 : FnOk P w K mg base CX0 2 f4 fd4 ["thing"] spClkB := ok_prime T d4
  obtain ⟨f5, fd5, d5⟩ := T.d_law_clock
  have G5 : FnOk P w K mg base CX0 3 f5 fd5 ["hand"] spClock := ok_clock T d5
  obtain ⟨f6, fd6, d6⟩ := T.d_law_some_rows
  have G6 : FnOk P w K mg base CX0 4 f6 fd6 ["hand", "p", "wide", "many"] spSomeRows := ok_some_rows T d6
  obtain ⟨f7, fd7, d7⟩ := T.d_law_ladder
  have G7 : FnOk P w K mg base CX0 2 f7 fd7 ["p", "wide", "rows"] (spLLad K) := ok_llad T d7
  obtain ⟨f8, fd8, d8⟩ := T.d_ladder
  have G8 : FnOk P w K mg base CX0 6 f8 fd8 ["p", "wide", "rows"] (spLadder K) := ok_ladder T d8
  obtain ⟨f9, fd9, d9⟩ := T.d_rank
  have G9 : FnOk P w K mg base CX0 6 f9 fd9 ["p", "wide", "rows"] (spRank K) := ok_rank T d9
  obtain ⟨fo, fdo, do_⟩ := T.d_law_other_rows
  have Go : FnOk P w K mg base CX0 3 fo fdo ["hand", "p", "wide", "rows"] spOther := ok_other T do_
  obtain ⟨fm, fdm, dm⟩ := T.d_law_many
  have Gm : FnOk P w K mg base CX0 1 fm fdm ["p", "times"] spMany := ok_many T dm
  obtain ⟨fx, fdx, dx⟩ := T.d_law_all_mixtures
  have Gx : FnOk P w K mg base CX0 2 fx fdx ["p", "wide", "rows"] (spAllMix K) := ok_all_mix T dx
  refine d.F.ok sc_law (fun vs H Q E h => ?_) (fun cdv A outer s H vs Q E hr h => ?_)
  · obtain ⟨a, ns, rfl, _⟩ := h
    rfl
  · obtain ⟨a, ns, rfl, hS, hl, q⟩ := h
    refine ⟨_, pss_cons (ps_set (i := 1) sc_law.nd rfl (.inl rfl) (pe_call Gh (hr.mono (by decide)) rfl dh.m dh.F.kp dh.b .nil pass0 (pa_cons (pv 0) pa_nil)))
      (pss_cons (ps_set (i := 2) sc_law.nd rfl (.inl rfl) (pe_call G2 (hr.mono (by decide)) rfl d2.m d2.F.kp d2.b .nil pass0 (pa_cons (pv 1) (pa_cons (pe_lst (pa_cons pe_bl (pa_cons pe_non (pa_cons pe_str (pa_cons (pe_un un_neg pe_int) (pa_cons (pe_op op_pow pe_int pe_int) (pa_cons pe_int pa_nil))))))) pa_nil))))
      (pss_cons (ps_for PassesOwn.never rfl (pi_list (pe_lst (pa_cons (pe_call G1 (hr.mono (by decide)) rfl d1.m d1.F.kp d1.b .nil pass0 (pa_cons (pv 1) (pa_cons (pe_op op_pow pe_int pe_int) pa_nil)))
            (pa_cons (pe_op op_add pe_int (pe_call G1 (hr.mono (by decide)) rfl d1.m d1.F.kp d1.b .nil pass0 (pa_cons (pv 1) (pa_cons pe_int pa_nil)))) (pa_cons (pv 2) pa_nil))))) (pg_name (i := 3) sc_law.nd rfl (Or.inl rfl))
          (pss_one (ps_if (pt_not (pt_val (pe_call Gb (hr.mono (by decide)) rfl di.m di.F.kp di.b .nil pass0 (pa_cons (pe_call G3 (hr.mono (by decide)) rfl d3.m d3.F.kp d3.b .nil pass0 (pa_cons (pv 3) pa_nil)) (pa_cons (pe_call G4 (hr.mono (by decide)) rfl d4.m d4.F.kp d4.b .nil pass0 (pa_cons (pv 3) pa_nil)) pa_nil))))) (pss_one (ps_ret pe_bl)) pss_nil)))
      (pss_cons (ps_for PassesOwn.never rfl (pi_range1 rfl T.b_range (pa_cons pe_int pa_nil)) (pg_name (i := 4) sc_law.nd rfl (Or.inl rfl))
        (pss_cons (ps_par3 (i := 5) (j := 6) (l := 7) (by rfl) sc_law.nd rfl rfl rfl (by decide) (by decide) (by decide) rfl rfl rfl (pa_cons (pe_call G5 (hr.mono (by decide)) rfl d5.m d5.F.kp d5.b .nil pass0 (pa_cons (pv 1) pa_nil))
            (pa_cons (pe_call G1 (hr.mono (by decide)) rfl d1.m d1.F.kp d1.b .nil pass0 (pa_cons (pv 1) (pa_cons pe_int pa_nil))) (pa_cons (pe_call G1 (hr.mono (by decide)) rfl d1.m d1.F.kp d1.b .nil pass0 (pa_cons (pv 1) (pa_cons pe_int pa_nil))) pa_nil))) (by rfl))
        (C8.pss_cut (ps_if (pt_cmpR op_eq (pe_call G1 (hr.mono (by decide)) rfl d1.m d1.F.kp d1.b .nil pass0 (pa_cons (pv 1) (pa_cons pe_int pa_nil))) pe_int (nomark _))
            (pss_one (ps_par (i := 6) (j := 7) (by rfl) sc_law.nd rfl rfl (by decide) rfl rfl (pa_cons (pe_op op_add pe_int (pe_call G1 (hr.mono (by decide)) rfl d1.m d1.F.kp d1.b .nil pass0 (pa_cons (pv 1) (pa_cons pe_int pa_nil))))
              (pa_cons (pe_op op_add pe_int (pe_call G1 (hr.mono (by decide)) rfl d1.m d1.F.kp d1.b .nil pass0 (pa_cons (pv 1) (pa_cons pe_int pa_nil)))) pa_nil)) (by rfl))) pss_nil)
        (C8.pss_cut (ps_if (pt_cmpR op_eq (pe_call G1 (hr.mono (by decide)) rfl d1.m d1.F.kp d1.b .nil pass0 (pa_cons (pv 1) (pa_cons pe_int pa_nil))) pe_int (nomark _))
            (pss_one (ps_asg (pe_call G2 (hr.mono (by decide)) rfl d2.m d2.F.kp d2.b .nil pass0 (pa_cons (pv 1) (pa_cons (pe_lst (pa_cons (pe_tup (pa_cons pe_int (pa_cons pe_int pa_nil))) (pa_cons (pe_tup (pa_cons pe_int (pa_cons pe_int pa_nil))) (pa_cons (pe_tup (pa_cons pe_int (pa_cons pe_int pa_nil))) (pa_cons (pe_tup (pa_cons pe_int (pa_cons pe_int pa_nil))) (pa_cons (pe_tup (pa_cons pe_int (pa_cons pe_int pa_nil))) pa_nil)))))) pa_nil)))
              (pg_tup rfl (pgs_cons (pg_name (i := 6) sc_law.nd rfl (.inl rfl)) (pgs_cons (pg_name (i := 7) sc_law.nd rfl (.inl rfl)) pgs_nil))))) pss_nil)
        (pss_cons (ps_set (i := 8) sc_law.nd rfl (.inl rfl) (pe_call G6 (hr.mono (by decide)) rfl d6.m d6.F.kp d6.b .nil pass0 (pa_cons (pv 1) (pa_cons (pv 5) (pa_cons (pv 6) (pa_cons (pv 7) pa_nil))))))
        (C8.pss_cut (ps_set (i := 9) sc_law.nd rfl (.inl rfl) (pe_call G2 (hr.mono (by decide)) rfl d2.m d2.F.kp d2.b .nil pass0 (pa_cons (pv 1) (pa_cons (pe_lst (pa_cons (pe_callTy call_list_of (by rfl) T.b_list (by decide +kernel) (pa_cons (pv 8) pa_nil)) (pa_cons (pe_callTy call_tuple_of (by rfl) T.b_tuple (by decide +kernel) (pa_cons (pv 8) pa_nil)) pa_nil))) pa_nil))))
        (pss_cons (ps_par (i := 10) (j := 11) (by rfl) sc_law.nd rfl rfl (by decide) rfl rfl (pa_cons (pe_callTy call_list_of (by rfl) T.b_list (by decide +kernel) (pa_cons (pv 9) pa_nil))
            (pa_cons (pe_call G7 (hr.mono (by decide)) rfl d7.m d7.F.kp d7.b .nil pass0 (pa_cons (pv 5) (pa_cons (pv 6) (pa_cons (pv 8) pa_nil)))) pa_nil)) (by rfl))
        (pss_cons (ps_set (i := 12) sc_law.nd rfl (.inl rfl) (pe_call G8 (hr.mono (by decide)) rfl d8.m d8.F.kp d8.b .nil pass0 (pa_cons (pv 5) (pa_cons (pv 6) (pa_cons (pv 9) pa_nil)))))
        (pss_cons (ps_if (PW.pt (pw_or (pt_not (pt_val (pe_call Gi (hr.mono (by decide)) rfl di.m di.F.kp di.b .nil pass0 (pa_cons (pv 12) (pa_cons (pv 11) pa_nil)))))
            (pw_or (pt_not (pt_val (pe_call Gi (hr.mono (by decide)) rfl di.m di.F.kp di.b .nil pass0 (pa_cons (pe_call G9 (hr.mono (by decide)) rfl d9.m d9.F.kp d9.b .nil pass0 (pa_cons (pv 5) (pa_cons (pv 6) (pa_cons (pv 9) pa_nil)))) (pa_cons (pe_callB call_len_seq (by rfl) T.b_len PySem.boot_len (pa_cons (pv 11) pa_nil)) pa_nil)))))
            (pw_or1 (pt_cmpR (op_neD (hu64 hr)) (pe_callTy call_list_of (by rfl) T.b_list (by decide +kernel) (pa_cons (pv 9) pa_nil)) (pv 10) (nomark _)))))) (pss_one (ps_ret pe_bl)) pss_nil)
        (pss_cons (ps_if (pt_not (pt_val (pe_call Gi (hr.mono (by decide)) rfl di.m di.F.kp di.b .nil pass0 (pa_cons (pe_call G8 (hr.mono (by decide)) rfl d8.m d8.F.kp d8.b .nil pass0 (pa_cons (pv 5) (pa_cons (pv 6) (pa_cons (pv 12) pa_nil)))) (pa_cons (pv 11) pa_nil))))) (pss_one (ps_ret pe_bl)) pss_nil)
        (pss_cons (ps_set (i := 13) sc_law.nd rfl (.inl rfl) (pe_call Go (hr.mono (by decide)) rfl do_.m do_.F.kp do_.b .nil pass0 (pa_cons (pv 1) (pa_cons (pv 5) (pa_cons (pv 6) (pa_cons (pv 8) pa_nil))))))
        (pss_cons (ps_if (PW.pt (pw_or (pt_not (pt_val (pe_call Gi (hr.mono (by decide)) rfl di.m di.F.kp di.b .nil pass0 (pa_cons (pe_call G8 (hr.mono (by decide)) rfl d8.m d8.F.kp d8.b .nil pass0 (pa_cons (pv 5) (pa_cons (pv 6) (pa_cons (pv 13) pa_nil)))) (pa_cons (pv 11) pa_nil)))))
            (pw_or1 (pt_cmpR op_ne (pe_call G9 (hr.mono (by decide)) rfl d9.m d9.F.kp d9.b .nil pass0 (pa_cons (pv 5) (pa_cons (pv 6) (pa_cons (pe_callTy call_tuple_of (by rfl) T.b_tuple (by decide +kernel) (pa_cons (pv 13) pa_nil)) pa_nil)))) (pe_callB call_len_seq (by rfl) T.b_len PySem.boot_len (pa_cons (pv 11) pa_nil)) (nomark _))))) (pss_one (ps_ret pe_bl)) pss_nil)
        (pss_one (ps_if (PW.pt (pw_and (pt_cmpR op_lt (pv 5) pe_int (nomark _)) (pw_and (pt_cmpR op_lt (pv 6) pe_int (nomark _)) (pw_and1 (pt_cmpR op_lt (pe_call Gm (hr.mono (by decide)) rfl dm.m dm.F.kp dm.b .nil pass0 (pa_cons (pv 5) (pa_cons (pe_callB call_len_seq (by rfl) T.b_len PySem.boot_len (pa_cons (pv 11) pa_nil)) pa_nil))) pe_int (nomark _))))))
            (pss_one (ps_if (pt_cmpR (op_neD (hu64 hr)) (pe_call Gx (hr.mono (by decide)) rfl dx.m dx.F.kp dx.b .nil pass0 (pa_cons (pv 5) (pa_cons (pv 6) (pa_cons (pv 8) pa_nil))))
              (pe_call Gx (hr.mono (by decide)) rfl dx.m dx.F.kp dx.b .nil pass0 (pa_cons (pv 5) (pa_cons (pv 6) (pa_cons (pe_callTy call_list_of (by rfl) T.b_list (by decide +kernel) (pa_cons (pv 12) pa_nil)) pa_nil)))) (nomark _)) (pss_one (ps_ret pe_bl)) pss_nil)) pss_nil))))))))))))))
      (pss_one (ps_ret pe_bl))))), ?_⟩
    refine ⟨_, rfl, a, ns, rfl, hS, hl, fun H1 g c s1 ng hh1 => ?_⟩
    dsimp only [gName, tSeq]
    refine ⟨_, rfl, _, rfl, _, _, rfl, rfl, ⟨by decide, by decide, by decide⟩, by show 6 ≤ sizeLine; decide, fun b nb => ?_⟩
    refine ⟨g, c, b, _, rfl, upd_same, (hand_new hh1 nb).1, by show 0 < 6; decide, by show 6 < 1000000; decide, hh1.same (same_new nb), fun H2 i xo b2 hh2 hxo => ?_⟩
    have hodd : ∃ bo, Odd xo bo := by
      have hm := List.mem_of_getElem? hxo
      simp only [List.mem_cons, List.not_mem_nil, or_false] at hm
      rcases hm with rfl | rfl | rfl | rfl | rfl | rfl
      · exact ⟨_, .inr (.inl ⟨_, rfl, rfl⟩)⟩
      · exact ⟨_, .inr (.inr (.inl ⟨rfl, rfl⟩))⟩
      · exact ⟨_, .inr (.inr (.inr ⟨_, rfl, rfl⟩))⟩
      · exact ⟨_, .inl ⟨_, rfl, rfl⟩⟩
      · exact ⟨_, .inl ⟨_, rfl, rfl⟩⟩
      · exact ⟨_, .inl ⟨_, rfl, rfl⟩⟩
    clear hxo
    dsimp only [gName, tSeq]
    refine ⟨_, rfl, _, _, rfl, rfl, ⟨by decide, by decide, by decide⟩, g, c, _, rfl, by decide, by decide, hh2, fun H3 n1 b3 hh3 _ _ => ?_⟩
    refine ⟨_, rfl, g, c, 60, rfl, by decide, by decide, hh3, fun H4 n2 b4 hh4 _ _ => ⟨_, _, rfl, rfl, _, rfl, by show 3 ≤ sizeLine; decide, fun l nl => ?_⟩⟩
    have s5 := same_new (o := .lst [V.int n1, V.int (2 + n2), xo]) nl
    have hh5 := hh4.same s5
    refine ⟨l, rfl, ⟨_, .of upd_same⟩, ?_⟩
    refine for_it (walk_list (xs := [V.int n1, V.int (2 + n2), xo])) (fun i σ H' => Same (upd H4 l (.lst [V.int n1, V.int (2 + n2), xo])) H' ∧ ∃ x3, σ = [some (.ref a), some (.ref g), some xo, x3, none, none, none, none, none, none, none, none, none, none])
      ⟨.refl _, none, rfl⟩ (fun i σ H' _ h => .of (h.1 _ _ upd_same)) ?_ ?_
    · rintro i x σ H6 H7 hi ⟨s6, x3, rfl⟩ ⟨rfl, hx⟩
      have ho : ∃ bo, Odd x bo := by
        have hm := List.mem_of_getElem? hx
        simp only [List.mem_cons, List.not_mem_nil, or_false] at hm
        rcases hm with rfl | rfl | rfl
        · exact ⟨_, .inl ⟨_, rfl, rfl⟩⟩
        · exact ⟨_, .inl ⟨_, rfl, rfl⟩⟩
        · exact hodd
      obtain ⟨bo, ho⟩ := ho
      refine ⟨_, rfl, x, bo, rfl, ho, fun t1 ht1 => ⟨_, rfl, x, bo, rfl, ho, fun t2 ht2 => ?_⟩⟩
      have : t1 = t2 := Bool.eq_iff_iff.mpr (ht1.trans ht2.symm)
      subst this
      exact ⟨t1, rfl, fun H8 s8 => ⟨_, rfl, iteF ⟨s6.trans s8, _, rfl⟩⟩⟩
    rintro σ H6 ⟨s6, x3, rfl⟩
    have hh6 := hh5.same s6
    refine ⟨_, rfl, by decide, by decide, ?_⟩
    refine for_it (walk_range (lo := 0) (n := ((4 : Int)).toNat)) (fun i σ H' => ∃ x4 x5 x6 x7 x8 x9 x10 x11 x12 x13, σ = [some (.ref a), some (.ref g), some xo, x3, x4, x5, x6, x7, x8, x9, x10, x11, x12, x13] ∧ Hand g c H')
      ⟨none, none, none, none, none, none, none, none, none, none, rfl, hh6⟩ (fun i σ H' _ h => trivial) ?_ ?_
    · rintro i x σ H7 H8 hi ⟨x4, x5, x6, x7, x8, x9, x10, x11, x12, x13, rfl, hh7⟩ ⟨rfl, rfl⟩
      refine ⟨_, rfl, g, c, rfl, hh7, fun H9 p b9 hh9 nd pm => ⟨_, rfl, g, c, 8, rfl, by decide, by decide, hh9, fun H10 w0 b10 hh10 w00 w01 => ⟨_, rfl, g, c, 9, rfl, by decide, by decide, hh10, fun H11 m0 b11 hh11 m00 m01 => ⟨_, _, _, rfl, ?_⟩⟩⟩⟩
      dsimp only [gName, tSeq]
      have prm := nd.prm
      have p2 := prm.1
      refine ⟨fun σ H' => ∃ wd mn : Int, σ = [some (.ref a), some (.ref g), some xo, x3, some (.int (0 + (i : Int))), some (.int p), some (.int wd), some (.int mn), x8, x9, x10, x11, x12, x13] ∧ Hand g c H' ∧ 0 ≤ wd ∧ wd ≤ 200 ∧ 0 ≤ mn ∧ mn ≤ 200 ∧ (wd < 64 ∨ mn + 1 < 64), ?_, ?_⟩
      · refine ⟨_, rfl, g, c, 24, rfl, by decide, by decide, hh11, fun H12 d0 b12 hh12 d00 d01 => ⟨rfl, _, rfl, ?_⟩⟩
        by_cases h7 : d0 = 7
        · rw [decide_eq_true (congrArg V.int h7)]
          exact iteT ⟨_, rfl, g, c, 21, rfl, by decide, by decide, hh12, fun H13 e b13 hh13 e0 e1 => ⟨_, _, rfl, rfl, _, rfl, g, c, 21, rfl, by decide, by decide, hh13, fun H14 e' b14 hh14 e2 e3 => ⟨_, _, rfl, rfl, _, _, rfl, _, _, rfl, hh14, by omega, by omega, by omega, by omega, by omega⟩⟩⟩
        · rw [decide_eq_false (fun e => h7 (V.int.inj e))]
          exact iteF ⟨_, _, rfl, hh12, by omega, by omega, by omega, by omega, by omega⟩
      rintro σ H12 ⟨wd, mn, rfl, hh12, w1, w2, m1, m2, wm⟩
      refine ⟨fun σ H' => ∃ wd mn : Int, σ = [some (.ref a), some (.ref g), some xo, x3, some (.int (0 + (i : Int))), some (.int p), some (.int wd), some (.int mn), x8, x9, x10, x11, x12, x13] ∧ Hand g c H' ∧ 0 ≤ wd ∧ wd ≤ 200 ∧ 0 ≤ mn ∧ mn ≤ 200 ∧ (wd < 64 ∨ mn + 1 < 64), ?_, ?_⟩
      · refine ⟨_, rfl, g, c, 40, rfl, by decide, by decide, hh12, fun H13 d0 b13 hh13 d00 d01 => ⟨rfl, _, rfl, ?_⟩⟩
        by_cases h7 : d0 = 7
        · rw [decide_eq_true (congrArg V.int h7)]
          refine iteT ⟨_, rfl, by show 2 ≤ sizeLine; decide, fun t1 nt1 => ⟨by show 2 ≤ sizeLine; decide, fun t2 nt2 => ⟨by show 2 ≤ sizeLine; decide, fun t3 nt3 => ⟨by show 2 ≤ sizeLine; decide, fun t4 nt4 => ⟨by show 2 ≤ sizeLine; decide, fun t5 nt5 => ⟨by show 5 ≤ sizeLine; decide, fun b nb => ?_⟩⟩⟩⟩⟩⟩
          have u1 := same_new (o := .tup [V.int 200, V.int 3]) nt1
          have u2 := same_new (o := .tup [V.int 2, V.int 200]) nt2
          have u3 := same_new (o := .tup [V.int 200, V.int 0]) nt3
          have u4 := same_new (o := .tup [V.int 0, V.int 200]) nt4
          have u5 := same_new (o := .tup [V.int 200, V.int 1]) nt5
          have ub := same_new (o := .lst [V.ref t1, V.ref t2, V.ref t3, V.ref t4, V.ref t5]) nb
          have hhb := ((((hh13.same u1).same u2).same u3).same u4).same u5
          refine ⟨g, c, b, _, rfl, upd_same, (hand_new hhb nb).1, by show 0 < 5; decide, by show 5 < 1000000; decide, hhb.same ub, fun H14 k x b14 hh14 hx => ?_⟩
          have kp := (hhb.same ub).keep b14
          have key : ∃ (t : Addr) (w' m' : Int), x = .ref t ∧ H14 t = some (.tup [.int w', .int m']) ∧ 0 ≤ w' ∧ w' ≤ 200 ∧ 0 ≤ m' ∧ m' ≤ 200 ∧ (w' < 64 ∨ m' + 1 < 64) := by
            have hm := List.mem_of_getElem? hx
            simp only [List.mem_cons, List.not_mem_nil, or_false] at hm
            rcases hm with rfl | rfl | rfl | rfl | rfl
            · exact ⟨t1, 200, 3, rfl, kp.tup (ub _ _ (u5 _ _ (u4 _ _ (u3 _ _ (u2 _ _ upd_same))))), by decide, by decide, by decide, by decide, by decide⟩
            · exact ⟨t2, 2, 200, rfl, kp.tup (ub _ _ (u5 _ _ (u4 _ _ (u3 _ _ upd_same)))), by decide, by decide, by decide, by decide, by decide⟩
            · exact ⟨t3, 200, 0, rfl, kp.tup (ub _ _ (u5 _ _ (u4 _ _ upd_same))), by decide, by decide, by decide, by decide, by decide⟩
            · exact ⟨t4, 0, 200, rfl, kp.tup (ub _ _ (u5 _ _ upd_same)), by decide, by decide, by decide, by decide, by decide⟩
            · exact ⟨t5, 200, 1, rfl, kp.tup (ub _ _ upd_same), by decide, by decide, by decide, by decide, by decide⟩
          obtain ⟨t, w', m', rfl, ht, k1, k2, k3, k4, k5⟩ := key
          exact ⟨t, _, rfl, .of ht, rfl, _, _, rfl, _, _, rfl, rfl, _, _, rfl, hh14, k1, k2, k3, k4, k5⟩
        · rw [decide_eq_false (fun e => h7 (V.int.inj e))]
          exact iteF ⟨_, _, rfl, hh13, w1, w2, m1, m2, wm⟩
      clear w1 w2 m1 m2 wm hh12
      rintro σ H12 ⟨wd, mn, rfl, hh12, w1, w2, m1, m2, wm⟩
      obtain ⟨wd, rfl⟩ : ∃ n : Nat, wd = (n : Int) := ⟨wd.toNat, by omega⟩
      obtain ⟨mn, rfl⟩ : ∃ n : Nat, mn = (n : Int) := ⟨mn.toNat, by omega⟩
      refine ⟨_, rfl, _, rfl, _, rfl, _, rfl, g, c, p, wd, mn, rfl, p2, pm, by omega, by omega, hh12, fun H13 r xs rws b13 hh13 nr rg rc hr13 hp13 hl13 hrw => ?_⟩
      dsimp only [gName, tSeq]
      refine ⟨fun σ H' => ∃ gv, σ = [some (.ref a), some (.ref g), some xo, x3, some (.int (0 + (i : Int))), some (.int p), some (.int (wd : Int)), some (.int (mn : Int)), some (.ref r), some (.ref gv), x10, x11, x12, x13] ∧ Hand g c H' ∧ H' r = some (.lst xs) ∧ Paired (rRow H') xs rws ∧ SqS K H' gv xs, ?_, ?_⟩
      · refine ⟨_, rfl, _, rfl, r, _, rfl, .inl (.of hr13), fun l1 nl1 => ?_⟩
        have u1 := same_new (o := .lst xs) nl1
        refine ⟨_, rfl, r, _, rfl, .inl ⟨.of (u1 _ _ hr13), fun t1 nt1 => ?_⟩⟩
        have u2 := same_new (o := .tup xs) nt1
        refine ⟨by show 2 ≤ sizeLine; decide, fun b nb => ?_⟩
        have u3 := same_new (o := .lst [V.ref l1, V.ref t1]) nb
        have u12 := u1.trans u2
        have l1g := hand_new hh13 nl1
        refine ⟨g, c, b, _, rfl, upd_same, (hand_new (hh13.same u12) nb).1, by show 0 < 2; decide, by show 2 < 1000000; decide, (hh13.same u12).same u3, fun H14 k x b14 hh14 hx => ?_⟩
        have kp := (u12.trans u3).keep.trans (((hh13.same u12).same u3).keep b14)
        have key : ∃ gv, x = .ref gv ∧ SqS K H14 gv xs := by
          have hm := List.mem_of_getElem? hx
          simp only [List.mem_cons, List.not_mem_nil, or_false] at hm
          rcases hm with rfl | rfl
          · exact ⟨l1, rfl, .inl (b14.lst l1g.1 (u3 _ _ (u2 _ _ upd_same)))⟩
          · exact ⟨t1, rfl, .inr ((((hh13.same u12).same u3).keep b14).tup (u3 _ _ upd_same))⟩
        obtain ⟨gv, rfl, hgv⟩ := key
        exact ⟨gv, rfl, hh14, b14.lst rg ((u12.trans u3) _ _ hr13), paired_mono mono_row kp hp13, hgv⟩
      clear hr13 hp13 hh13 b13
      rintro σ H14 ⟨gv, rfl, hh14, hr14, hp14, hS14⟩
      have rlen : rws.length = mn := hl13
      have d64 : wd < 64 ∨ rws.length < 64 := by omega
      -- kept, due
      refine ⟨_, rfl, gv, _, rfl, hS14.or, fun kl nkl => ?_⟩
      have s15 := same_new (o := .lst xs) nkl
      refine ⟨_, rfl, _, rfl, _, rfl, r, p, wd, xs, rws, rfl, s15 _ _ hr14, paired_mono mono_row s15.keep hp14, by omega, prm, by omega, by omega, hrw, fun H16 vd dl s16 hvd hD => ⟨_, _, rfl, ?_⟩⟩
      dsimp only [gName, tSeq]
      have t16 := s15.trans s16
      have hkl16 := s16 _ _ (upd_same (H := H14) (a := kl) (o := .lst xs))
      have dlr := hD.rows
      -- told
      refine ⟨_, rfl, _, rfl, _, rfl, gv, p, wd, xs, rws, rfl, hS14.same t16, paired_mono mono_row t16.keep hp14, by omega, nd, by omega, d64, hrw, fun H17 vt tl s17 hvt hT hTl => ?_⟩
      have := hT.only hD p2 fun v => Iff.rfl
      subst this
      have t17 := t16.trans s17
      have hvd17 := mono_tup mono_row _ _ _ _ s17.keep hvd
      dsimp only [gName, tSeq]
      have alD : ∀ {H : Hp} {u v : V}, rTup rRow H u tl → rTup rRow H v tl → Alike H 2 u v := fun h1 h2 => al_rtup h1 h2 (by omega) fun u v x hx a b => al_row a b (by have := isRow_len (dlr.2 x hx); omega)
      refine ⟨_, rfl, _, rfl, vt, vd, rfl, alD hvt hvd17, fun H18 s18 => ⟨_, rfl, iteF ?_⟩⟩
      have t18 := t17.trans s18
      refine ⟨_, rfl, _, rfl, _, rfl, gv, p, wd, xs, rws, rfl, hS14.same t18, paired_mono mono_row t18.keep hp14, by omega, nd, by omega, hrw, fun H19 n s19 hn hnl => ?_⟩
      have t19 := t18.trans s19
      have hnn := hnl tl hD
      obtain ⟨td, yd, rfl, htd, hpd⟩ := id hvd
      have ydl := paired_len hpd
      refine ⟨_, rfl, td, _, rfl, .inr (.of ((s17.trans (s18.trans s19)).keep.tup htd)), ?_⟩
      refine ⟨_, _, rfl, by rw [ydl, hnn]; exact al_int, fun H20 s20 => ⟨_, rfl, iteF ?_⟩⟩
      have t20 := t19.trans s20
      refine ⟨_, rfl, gv, _, rfl, (hS14.same t20).or, fun l2 nl2 => ?_⟩
      have s21 := same_new (o := .lst xs) nl2
      have t21 := t20.trans s21
      have u21 := s17.trans (s18.trans (s19.trans (s20.trans s21)))
      refine ⟨_, rfl, ne_rows upd_same (u21 _ _ hkl16) (paired_mono mono_row t21.keep hp14) (paired_mono mono_row t21.keep hp14) ⟨_, rfl, iteF ?_⟩⟩
      -- its own ladder
      have hvt21 := mono_tup mono_row _ _ _ _ (s18.trans (s19.trans (s20.trans s21))).keep hvt
      obtain ⟨tt, yt, rfl, htt, hpt⟩ := id hvt21
      refine ⟨_, rfl, _, rfl, _, rfl, tt, p, wd, yt, tl, rfl, .inr htt, hpt, by omega, nd, by omega, by omega, dlr.2, fun H22 v2 l2' s22 hv2 hL2 _ => ?_⟩
      have := hL2.only hD p2 hD.room
      subst this
      have u22 := u21.trans s22
      refine ⟨_, rfl, v2, .ref td, rfl, alD hv2 (mono_tup mono_row _ _ _ _ u22.keep hvd), fun H23 s23 => ⟨_, rfl, iteF ?_⟩⟩
      -- other rows
      have t23 := (t21.trans s22).trans s23
      have u23 := u22.trans s23
      have hh23 := hh14.same t23
      refine ⟨_, rfl, _, rfl, _, rfl, _, rfl, g, c, r, p, wd, xs, rws, rfl, prm, pm, by omega, t23 _ _ hr14, rg, rc, paired_mono mono_row t23.keep hp14, by omega, hrw, hh23, fun H24 r2 ys rws' b24 hh24 nr2 r2g hr24 hp24 h200 hl1 hrw' hsame => ?_⟩
      have k24 := hh23.keep b24
      dsimp only [gName, tSeq]
      refine ⟨_, rfl, _, rfl, _, rfl, r2, p, wd, ys, rws', rfl, .inl hr24, hp24, h200, nd, by omega, by omega, hrw', fun H25 v3 l3 s25 hv3 hL3 _ => ?_⟩
      have := hL3.only hD p2 hsame
      subst this
      have htd25 := s25.keep.tup (k24.tup (u23.keep.tup htd))
      have hvd25 := mono_tup mono_row _ _ _ _ s25.keep (mono_tup mono_row _ _ _ _ k24 (mono_tup mono_row _ _ _ _ u23.keep hvd))
      refine ⟨_, rfl, v3, .ref td, rfl, alD hv3 hvd25, fun H26 s26 => ⟨_, rfl, iteF ?_⟩⟩
      have u26 := s25.trans s26
      refine ⟨_, rfl, _, rfl, _, rfl, r2, _, rfl, .inl ⟨.of (u26 _ _ hr24), fun t3 nt3 => ?_⟩⟩
      have s27 := same_new (o := .tup ys) nt3
      have u27 := u26.trans s27
      refine ⟨t3, p, wd, ys, rws', rfl, .inr upd_same, paired_mono mono_row u27.keep hp24, h200, nd, by omega, hrw', fun H28 n2' s28 hn2 hnl2 => ?_⟩
      have hnn2 := hnl2 _ hL3
      have u28 := u27.trans s28
      have htd28 := (s26.trans (s27.trans s28)).keep.tup htd25
      refine ⟨_, rfl, td, _, rfl, .inr (.of htd28), rfl, _, rfl, ?_⟩
      rw [decide_eq_true (by rw [ydl, hnn2])]
      refine iteF ?_
      -- all mixtures
      have hh28 := hh24.same u28
      refine ⟨_, rfl, _, _, rfl, rfl, _, rfl, ?_⟩
      by_cases p8 : p < 8
      · rw [decide_eq_true p8]
        refine iteT ⟨_, rfl, _, _, rfl, rfl, _, rfl, ?_⟩
        by_cases w8 : (wd : Int) < 8
        · rw [decide_eq_true w8]
          refine iteT ⟨_, rfl, _, rfl, td, _, rfl, .inr (.of htd28), p, yd.length, rfl, by omega, by omega, by omega, _, _, rfl, rfl, _, rfl, ?_⟩
          by_cases h4 : p ^ yd.length < 400
          · rw [decide_eq_true h4]
            have hr28 := u28 _ _ (b24.lst rg (t23 _ _ hr14))
            have hp28 := paired_mono mono_row u28.keep (paired_mono mono_row k24 (paired_mono mono_row t23.keep hp14))
            refine iteT ⟨_, rfl, _, rfl, _, rfl, r, p, wd, xs, rws, rfl, p2, by omega, by omega, hr28, hp28, hrw, fun H29 b1 y1 l1 s29 hb1 hy1 nl1 hl1 hs1 => ?_⟩
            have htt29 := s29.keep.tup (u28.keep.tup (k24.tup ((s22.trans s23).keep.tup htt)))
            refine ⟨_, rfl, _, rfl, _, rfl, tt, _, rfl, .inr (.of htt29), fun l4 nl4 => ?_⟩
            have s30 := same_new (o := .lst yt) nl4
            have hpt30 := paired_mono mono_row s30.keep (paired_mono mono_row s29.keep (paired_mono mono_row u28.keep (paired_mono mono_row k24 (paired_mono mono_row (s22.trans s23).keep hpt))))
            refine ⟨l4, p, wd, yt, _, rfl, p2, by omega, by omega, upd_same, hpt30, dlr.2, fun H31 b2 y2 l2 s31 hb2 hy2 nl2 hl2 hs2 => ?_⟩
            have s301 := s30.trans s31
            have := rows_same (wd := wd) nl1 nl2 (fun r => by rw [hl1, hl2]; exact (inRoom_same hD.room r).symm) (fun r h => ((hl1 r).mp h).1) hs1 hs2
            subst this
            refine ne_rows (s301 _ _ hb1) hb2 (paired_mono mono_row s301.keep hy1) hy2 ⟨_, rfl, iteF ?_⟩
            exact ⟨_, _, _, _, _, _, _, _, _, _, rfl, hh28.same (s29.trans s301)⟩
          · rw [decide_eq_false h4]
            exact iteF ⟨_, _, _, _, _, _, _, _, _, _, rfl, hh28⟩
        · rw [decide_eq_false w8]
          exact iteF ⟨_, _, _, _, _, _, _, _, _, _, rfl, hh28⟩
      · rw [decide_eq_false p8]
        exact iteF ⟨_, _, _, _, _, _, _, _, _, _, rfl, hh28⟩
    · rintro σ H7 ⟨x4, x5, x6, x7, x8, x9, x10, x11, x12, x13, rfl, hh7⟩
      exact q _
end
end S4

namespace S4
open PySem L2 TT MM
theorem use {a b : Prop} (h : a) (f : a → b) : b := f h
theorem int_mk {mg : Str → Option Value} {x : Str} {v : Value} {n : Int} (h : mg x = some v) (e : ∃ t, v = .int n t) : ∃ t, mg x = some (.int n t) := by
  obtain ⟨t, rfl⟩ := e
  exact ⟨t, h⟩
theorem all_mk {l : PySem.W.OpenLaw} {w : World} {K : PySem.W.Frag} {mg : Str → Option Value} {fa : Addr} {cT cS : Addr} (hfa : mg "law" = some (.ref fa)) (T : Tx K mg cT cS) :
    ∃ fd : FuncData, (∀ (s : Shared) (v : Value), BindsTo s fd ⟨[v], []⟩ [("script", v)]) ∧ ∀ base : Heap, K.In base → base.Ns mainGlobals mg → FnOk l.prog w K mg base CX0 8 fa fd ["script"] (spLaw K) := by
  obtain ⟨f, fd, d⟩ := T.d_law
  have e := hfa.symm.trans d.m
  cases e
  refine ⟨fd, ?_, fun base _ _ => ok_law T d⟩
  obtain ⟨oc, od, kV, doc, pm, an, cdv, ct, osl, rfl, lk, hcd⟩ := d.F.ex
  exact fun s v => .of_eq rfl
theorem walk {l : PySem.W.OpenLaw} {q : Program} {loose : List Str} {XP : (Str → Option Value) → Heap → Prop} {YP : World → Heap → Prop} {d : DefRec} {K : Params → PySem.W.Frag} (hn : l.most = some 63) (hdf : d.params.defaults = [])
    (hY : ∀ (w : World) (h : Heap), YP w h → (K w.params).In h)
    (F : ∀ (w : World) (mg : Str → Option Value) (fa : Addr) (h : Heap), (K w.params).In h → h.Ns mainGlobals mg → mg d.name = some (.ref fa) →
      ∃ fd : FuncData, (∀ (s : Shared) (u : Value), BindsTo s fd ⟨[u], []⟩ [("script", u)]) ∧ ∀ base : Heap, (K w.params).In base → base.Ns mainGlobals mg → FnOk l.prog w (K w.params) mg base CX0 8 fa fd ["script"] (spLaw (K w.params))) :
    PySem.W.WalkO q loose XP YP l.row.toRowW d [] (fun f vs => PySem.call f vs) :=
  L2.walk_of (n := 63) (k := 8) (x := "script") (CX := fun _ => CX0) (sp := fun w => spLaw (K w.params)) hn (by decide) hdf ⟨rfl, by decide, by decide⟩ hY F (fun _ _ a ns hl _ hS => ⟨a, ns, rfl, hS, hl, fun _ => rfl⟩) fun _ _ _ _ _ z => z
end S4

open PySem PySem.W PyProof.Rows in
set_option maxRecDepth 100000 in
set_option maxHeartbeats 0 in
theorem PySem.Challenge.cw_sametolls_k01_whole_ladders_and_ranks_holds : PySem.Challenge.rw_sametolls_k01_whole_ladders_and_ranks.Holds := by
  w_on; o_law; k_head; (case hw => w_witness2)
  k_fill
  refine S4.walk (l := PySem.Challenge.rw_sametolls_k01_whole_ladders_and_ranks) rfl rfl (fun w h Y => PySem.W.kIn_of Y) ?F
  case F =>
    intro w mg fa h KX G hmg
    have b_abs : mg "abs" = none := PySem.W.mg_none_of KX G (by k_is)
    have b_all : mg "all" = none := PySem.W.mg_none_of KX G (by k_is)
    have b_bool : mg "bool" = none := PySem.W.mg_none_of KX G (by k_is)
    have b_enumerate : mg "enumerate" = none := PySem.W.mg_none_of KX G (by k_is)
    have b_int : mg "int" = none := PySem.W.mg_none_of KX G (by k_is)
    have b_isinstance : mg "isinstance" = none := PySem.W.mg_none_of KX G (by k_is)
    have b_len : mg "len" = none := PySem.W.mg_none_of KX G (by k_is)
    have b_list : mg "list" = none := PySem.W.mg_none_of KX G (by k_is)
    have b_min : mg "min" = none := PySem.W.mg_none_of KX G (by k_is)
    have b_range : mg "range" = none := PySem.W.mg_none_of KX G (by k_is)
    have b_sorted : mg "sorted" = none := PySem.W.mg_none_of KX G (by k_is)
    have b_tuple : mg "tuple" = none := PySem.W.mg_none_of KX G (by k_is)
    have b_zip : mg "zip" = none := PySem.W.mg_none_of KX G (by k_is)
    have c_MOST_HOURS : ∃ t, mg "MOST_HOURS" = some (.int 1000000 t) := by
      refine' S4.int_mk (PySem.W.mg_of KX G ?a) ?e
      (case a => k_is)
      (case e => exact ⟨_, rfl⟩)
    have c_MOST_WIDE : ∃ t, mg "MOST_WIDE" = some (.int 200 t) := by
      refine' S4.int_mk (PySem.W.mg_of KX G ?a) ?e
      (case a => k_is)
      (case e => exact ⟨_, rfl⟩)
    have c_MOST_ROWS : ∃ t, mg "MOST_ROWS" = some (.int 200 t) := by
      refine' S4.int_mk (PySem.W.mg_of KX G ?a) ?e
      (case a => k_is)
      (case e => exact ⟨_, rfl⟩)
    refine' S4.use (S4.DE.mk (x := "is_integer") (st := S4.s_is_integer) (ps := ["thing"]) KX G (fun _ _ _ _ _ _ us hl => match us, hl with | [_], _ => rfl) ?a ?l ?c ?k) (fun d_is_integer => ?_)
    (case a => k_is)
    (case l => k_is)
    (case c => k_is)
    (case k => k_is)
    refine' S4.use (S4.DE.mk (x := "is_below") (st := S4.s_is_below) (ps := ["thing", "end"]) KX G (fun _ _ _ _ _ _ us hl => match us, hl with | [_, _], _ => rfl) ?a ?l ?c ?k) (fun d_is_below => ?_)
    (case a => k_is)
    (case l => k_is)
    (case c => k_is)
    (case k => k_is)
    refine' S4.use (S4.DE.mk (x := "is_row") (st := S4.s_is_row) (ps := ["thing", "p", "wide"]) KX G (fun _ _ _ _ _ _ us hl => match us, hl with | [_, _, _], _ => rfl) ?a ?l ?c ?k) (fun d_is_row => ?_)
    (case a => k_is)
    (case l => k_is)
    (case c => k_is)
    (case k => k_is)
    refine' S4.use (S4.DE.mk (x := "is_clock") (st := S4.s_is_clock) (ps := ["thing"]) KX G (fun _ _ _ _ _ _ us hl => match us, hl with | [_], _ => rfl) ?a ?l ?c ?k) (fun d_is_clock => ?_)
    (case a => k_is)
    (case l => k_is)
    (case c => k_is)
    (case k => k_is)
    refine' S4.use (S4.DE.mk (x := "ladder") (st := S4.s_ladder) (ps := ["p", "wide", "rows"]) KX G (fun _ _ _ _ _ _ us hl => match us, hl with | [_, _, _], _ => rfl) ?a ?l ?c ?k) (fun d_ladder => ?_)
    (case a => k_is)
    (case l => k_is)
    (case c => k_is)
    (case k => k_is)
    refine' S4.use (S4.DE.mk (x := "rank") (st := S4.s_rank) (ps := ["p", "wide", "rows"]) KX G (fun _ _ _ _ _ _ us hl => match us, hl with | [_, _, _], _ => rfl) ?a ?l ?c ?k) (fun d_rank => ?_)
    (case a => k_is)
    (case l => k_is)
    (case c => k_is)
    (case k => k_is)
    refine' S4.use (S4.DE.mk (x := "check_clock") (st := S4.s_check_clock) (ps := ["p"]) KX G (fun _ _ _ _ _ _ us hl => match us, hl with | [_], _ => rfl) ?a ?l ?c ?k) (fun d_check_clock => ?_)
    (case a => k_is)
    (case l => k_is)
    (case c => k_is)
    (case k => k_is)
    refine' S4.use (S4.DE.mk (x := "check_rows") (st := S4.s_check_rows) (ps := ["p", "wide", "rows"]) KX G (fun _ _ _ _ _ _ us hl => match us, hl with | [_, _, _], _ => rfl) ?a ?l ?c ?k) (fun d_check_rows => ?_)
    (case a => k_is)
    (case l => k_is)
    (case c => k_is)
    (case k => k_is)
    refine' S4.use (S4.DE.mk (x := "check_each") (st := S4.s_check_each) (ps := ["p", "wide", "rows"]) KX G (fun _ _ _ _ _ _ us hl => match us, hl with | [_, _, _], _ => rfl) ?a ?l ?c ?k) (fun d_check_each => ?_)
    (case a => k_is)
    (case l => k_is)
    (case c => k_is)
    (case k => k_is)
    refine' S4.use (S4.DE.mk (x := "ladder_of") (st := S4.s_ladder_of) (ps := ["p", "wide", "rows"]) KX G (fun _ _ _ _ _ _ us hl => match us, hl with | [_, _, _], _ => rfl) ?a ?l ?c ?k) (fun d_ladder_of => ?_)
    (case a => k_is)
    (case l => k_is)
    (case c => k_is)
    (case k => k_is)
    refine' S4.use (S4.DE.mk (x := "rank_of") (st := S4.s_rank_of) (ps := ["p", "wide", "rows"]) KX G (fun _ _ _ _ _ _ us hl => match us, hl with | [_, _, _], _ => rfl) ?a ?l ?c ?k) (fun d_rank_of => ?_)
    (case a => k_is)
    (case l => k_is)
    (case c => k_is)
    (case k => k_is)
    refine' S4.use (S4.DE.mk (x := "widened") (st := S4.s_widened) (ps := ["p", "wide", "rungs", "rows"]) KX G (fun _ _ _ _ _ _ us hl => match us, hl with | [_, _, _, _], _ => rfl) ?a ?l ?c ?k) (fun d_widened => ?_)
    (case a => k_is)
    (case l => k_is)
    (case c => k_is)
    (case k => k_is)
    refine' S4.use (S4.DE.mk (x := "rungs_of") (st := S4.s_rungs_of) (ps := ["p", "wide", "rows"]) KX G (fun _ _ _ _ _ _ us hl => match us, hl with | [_, _, _], _ => rfl) ?a ?l ?c ?k) (fun d_rungs_of => ?_)
    (case a => k_is)
    (case l => k_is)
    (case c => k_is)
    (case k => k_is)
    refine' S4.use (S4.DE.mk (x := "cleared") (st := S4.s_cleared) (ps := ["p", "rungs", "row"]) KX G (fun _ _ _ _ _ _ us hl => match us, hl with | [_, _, _], _ => rfl) ?a ?l ?c ?k) (fun d_cleared => ?_)
    (case a => k_is)
    (case l => k_is)
    (case c => k_is)
    (case k => k_is)
    refine' S4.use (S4.DE.mk (x := "multiplied") (st := S4.s_multiplied) (ps := ["p", "factor", "row"]) KX G (fun _ _ _ _ _ _ us hl => match us, hl with | [_, _, _], _ => rfl) ?a ?l ?c ?k) (fun d_multiplied => ?_)
    (case a => k_is)
    (case l => k_is)
    (case c => k_is)
    (case k => k_is)
    refine' S4.use (S4.DE.mk (x := "inverse") (st := S4.s_inverse) (ps := ["p", "value"]) KX G (fun _ _ _ _ _ _ us hl => match us, hl with | [_, _], _ => rfl) ?a ?l ?c ?k) (fun d_inverse => ?_)
    (case a => k_is)
    (case l => k_is)
    (case c => k_is)
    (case k => k_is)
    refine' S4.use (S4.DE.mk (x := "first_place") (st := S4.s_first_place) (ps := ["row", "wide"]) KX G (fun _ _ _ _ _ _ us hl => match us, hl with | [_, _], _ => rfl) ?a ?l ?c ?k) (fun d_first_place => ?_)
    (case a => k_is)
    (case l => k_is)
    (case c => k_is)
    (case k => k_is)
    refine' S4.use (S4.DE.mk (x := "_law_hand") (st := S4.s_law_hand) (ps := ["script"]) KX G (fun _ _ _ _ _ _ us hl => match us, hl with | [_], _ => rfl) ?a ?l ?c ?k) (fun d_law_hand => ?_)
    (case a => k_is)
    (case l => k_is)
    (case c => k_is)
    (case k => k_is)
    refine' S4.use (S4.DE.mk (x := "_law_draw") (st := S4.s_law_draw) (ps := ["hand", "many"]) KX G (fun _ _ _ _ _ _ us hl => match us, hl with | [_, _], _ => rfl) ?a ?l ?c ?k) (fun d_law_draw => ?_)
    (case a => k_is)
    (case l => k_is)
    (case c => k_is)
    (case k => k_is)
    refine' S4.use (S4.DE.mk (x := "_law_any") (st := S4.s_law_any) (ps := ["hand", "items"]) KX G (fun _ _ _ _ _ _ us hl => match us, hl with | [_, _], _ => rfl) ?a ?l ?c ?k) (fun d_law_any => ?_)
    (case a => k_is)
    (case l => k_is)
    (case c => k_is)
    (case k => k_is)
    refine' S4.use (S4.DE.mk (x := "_law_is") (st := S4.s_law_is) (ps := ["told", "due"]) KX G (fun _ _ _ _ _ _ us hl => match us, hl with | [_, _], _ => rfl) ?a ?l ?c ?k) (fun d_law_is => ?_)
    (case a => k_is)
    (case l => k_is)
    (case c => k_is)
    (case k => k_is)
    refine' S4.use (S4.DE.mk (x := "_law_int") (st := S4.s_law_int) (ps := ["thing", "least", "most"]) KX G (fun _ _ _ _ _ _ us hl => match us, hl with | [_, _, _], _ => rfl) ?a ?l ?c ?k) (fun d_law_int => ?_)
    (case a => k_is)
    (case l => k_is)
    (case c => k_is)
    (case k => k_is)
    refine' S4.use (S4.DE.mk (x := "_law_mixed") (st := S4.s_law_mixed) (ps := ["hand", "items"]) KX G (fun _ _ _ _ _ _ us hl => match us, hl with | [_, _], _ => rfl) ?a ?l ?c ?k) (fun d_law_mixed => ?_)
    (case a => k_is)
    (case l => k_is)
    (case c => k_is)
    (case k => k_is)
    refine' S4.use (S4.DE.mk (x := "_law_turn") (st := S4.s_law_turn) (ps := ["p", "value"]) KX G (fun _ _ _ _ _ _ us hl => match us, hl with | [_, _], _ => rfl) ?a ?l ?c ?k) (fun d_law_turn => ?_)
    (case a => k_is)
    (case l => k_is)
    (case c => k_is)
    (case k => k_is)
    refine' S4.use (S4.DE.mk (x := "_law_less") (st := S4.s_law_less) (ps := ["p", "row", "other", "many"]) KX G (fun _ _ _ _ _ _ us hl => match us, hl with | [_, _, _, _], _ => rfl) ?a ?l ?c ?k) (fun d_law_less => ?_)
    (case a => k_is)
    (case l => k_is)
    (case c => k_is)
    (case k => k_is)
    refine' S4.use (S4.DE.mk (x := "_law_ladder") (st := S4.s_law_ladder) (ps := ["p", "wide", "rows"]) KX G (fun _ _ _ _ _ _ us hl => match us, hl with | [_, _, _], _ => rfl) ?a ?l ?c ?k) (fun d_law_ladder => ?_)
    (case a => k_is)
    (case l => k_is)
    (case c => k_is)
    (case k => k_is)
    refine' S4.use (S4.DE.mk (x := "_law_summed") (st := S4.s_law_summed) (ps := ["p", "wide", "rows", "many"]) KX G (fun _ _ _ _ _ _ us hl => match us, hl with | [_, _, _, _], _ => rfl) ?a ?l ?c ?k) (fun d_law_summed => ?_)
    (case a => k_is)
    (case l => k_is)
    (case c => k_is)
    (case k => k_is)
    refine' S4.use (S4.DE.mk (x := "_law_clock") (st := S4.s_law_clock) (ps := ["hand"]) KX G (fun _ _ _ _ _ _ us hl => match us, hl with | [_], _ => rfl) ?a ?l ?c ?k) (fun d_law_clock => ?_)
    (case a => k_is)
    (case l => k_is)
    (case c => k_is)
    (case k => k_is)
    refine' S4.use (S4.DE.mk (x := "_law_some_row") (st := S4.s_law_some_row) (ps := ["hand", "p", "wide", "rows"]) KX G (fun _ _ _ _ _ _ us hl => match us, hl with | [_, _, _, _], _ => rfl) ?a ?l ?c ?k) (fun d_law_some_row => ?_)
    (case a => k_is)
    (case l => k_is)
    (case c => k_is)
    (case k => k_is)
    refine' S4.use (S4.DE.mk (x := "_law_some_rows") (st := S4.s_law_some_rows) (ps := ["hand", "p", "wide", "many"]) KX G (fun _ _ _ _ _ _ us hl => match us, hl with | [_, _, _, _], _ => rfl) ?a ?l ?c ?k) (fun d_law_some_rows => ?_)
    (case a => k_is)
    (case l => k_is)
    (case c => k_is)
    (case k => k_is)
    refine' S4.use (S4.DE.mk (x := "_law_all_mixtures") (st := S4.s_law_all_mixtures) (ps := ["p", "wide", "rows"]) KX G (fun _ _ _ _ _ _ us hl => match us, hl with | [_, _, _], _ => rfl) ?a ?l ?c ?k) (fun d_law_all_mixtures => ?_)
    (case a => k_is)
    (case l => k_is)
    (case c => k_is)
    (case k => k_is)
    refine' S4.use (S4.DE.mk (x := "_law_is_prime") (st := S4.s_law_is_prime) (ps := ["thing"]) KX G (fun _ _ _ _ _ _ us hl => match us, hl with | [_], _ => rfl) ?a ?l ?c ?k) (fun d_law_is_prime => ?_)
    (case a => k_is)
    (case l => k_is)
    (case c => k_is)
    (case k => k_is)
    refine' S4.use (S4.DE.mk (x := "_law_many") (st := S4.s_law_many) (ps := ["p", "times"]) KX G (fun _ _ _ _ _ _ us hl => match us, hl with | [_, _], _ => rfl) ?a ?l ?c ?k) (fun d_law_many => ?_)
    (case a => k_is)
    (case l => k_is)
    (case c => k_is)
    (case k => k_is)
    refine' S4.use (S4.DE.mk (x := "_law_other_rows") (st := S4.s_law_other_rows) (ps := ["hand", "p", "wide", "rows"]) KX G (fun _ _ _ _ _ _ us hl => match us, hl with | [_, _, _, _], _ => rfl) ?a ?l ?c ?k) (fun d_law_other_rows => ?_)
    (case a => k_is)
    (case l => k_is)
    (case c => k_is)
    (case k => k_is)
    refine' S4.use (S4.DE.mk (x := "law") (st := S4.s_law) (ps := ["script"]) KX G (fun _ _ _ _ _ _ us hl => match us, hl with | [_], _ => rfl) ?a ?l ?c ?k) (fun d_law => ?_)
    (case a => k_is)
    (case l => k_is)
    (case c => k_is)
    (case k => k_is)
    exact S4.all_mk (cT := 0) (cS := 0) hmg (S4.Tx.mk b_abs b_all b_bool b_enumerate b_int b_isinstance b_len b_list b_min b_range b_sorted b_tuple b_zip c_MOST_HOURS c_MOST_WIDE c_MOST_ROWS d_is_integer d_is_below d_is_row d_is_clock d_ladder d_rank d_check_clock d_check_rows d_check_each d_ladder_of d_rank_of d_widened d_rungs_of d_cleared d_multiplied d_inverse d_first_place d_law_hand d_law_draw d_law_any d_law_is d_law_int d_law_mixed d_law_turn d_law_less d_law_ladder d_law_summed d_law_clock d_law_some_row d_law_some_rows d_law_all_mixtures d_law_is_prime d_law_many d_law_other_rows d_law)
