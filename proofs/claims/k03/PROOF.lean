import PyProof.Rows.All
import Wide.All
import OpenK.AllK
import Wide.FinOn
import HandS.ForMost
import HandS.Style
import HandS.TupAny
import HandS.Flow
import HandS.Star
import HandS.IsInst
import HandS.Rev
import HandS.Evl
import HandS.More
import HandS.DictComp
import HandS.Wide
import HandS.Walk
import KE.LtSeq
import KE.LtData
import HandS.SortKw
import KE.KSortKey
import KE.SortCalls
import HandS.Deep
import KE.DataFind
import HandS.Defaults
import PySem.Challenge.RW_hornmill_k03_whole_order_of_terms
import HandS.Zip
set_option Elab.async false
set_option linter.all false
set_option maxRecDepth 100000
set_option maxHeartbeats 4000000
namespace Hm
open PySem PySem.Spec PyProof.Rows L2 HT

/-! ## rules that the layer lacks -/
section
variable {prog : Program} {w : World} {A : Around} {E : Value → Shared → Prop} {s : Shared}
theorem sliceApplied_back {sl : Addr} {n : Nat} {ti : Tok} {Q : Int × Int × Nat → Shared → Prop} (hs : s.heap.IsSliceOf sl .none .none (.int (-1) ti))
    (h : Q ((n : Int) - 1, -1, n) s) : wpAny (model prog w) A (Builtin.Slice.sliceApplied (.ref sl) (pure (n : Int))) Q E s := by
  obtain ⟨os, hos, hcs, hds⟩ := id hs
  unfold Builtin.Slice.sliceApplied Builtin.Slice.sliceFields
  refine wpAny_bind (wpAny_bind (wpAny_field hos hds (x := .none) rfl (wpAny_bind (wpAny_field hos hds (x := .none) rfl (wpAny_bind (wpAny_field hos hds (x := .int (-1) ti) rfl (wpAny_pure ?_)))))))
  refine wpAny_bind (slicePart_ (.int (-1) ti) ?_)
  show wpAny _ _ (if ((-1 : Int) == 0) = true then _ else _) _ _ s
  rw [if_neg (by decide)]
  refine wpAny_bind (slicePart_ .none (wpAny_bind (slicePart_ .none (wpAny_bind (wpAny_pure ?_)))))
  show wpAny _ _ (pure ((n : Int) - 1, (-1 : Int), Builtin.Slice.slicePlaces ((n : Int) - 1) (-1) (-1))) _ _ s
  have e : Builtin.Slice.slicePlaces ((n : Int) - 1) (-1) (-1) = n := by
    unfold Builtin.Slice.slicePlaces
    rw [if_neg (by decide)]
    by_cases hn : (n : Int) - 1 > -1
    · rw [if_pos hn]
      have : -(-1 : Int) = 1 := by decide
      rw [this, Int.ediv_one]
      omega
    · rw [if_neg hn]
      omega
  rw [e]
  exact wpAny_pure h
theorem fm_congr {α β : Type} {f g : α → Option β} : ∀ l : List α, (∀ x ∈ l, f x = g x) → l.filterMap f = l.filterMap g
  | [], _ => rfl
  | x :: r, h => by
    rw [List.filterMap_cons, List.filterMap_cons, h x List.mem_cons_self, fm_congr r fun y hy => h y (List.mem_cons_of_mem _ hy)]
theorem pick_back (xs : List Value) : ((List.range xs.toArray.size).filterMap fun (k : Nat) => xs.toArray[(((xs.toArray.size : Nat) : Int) - 1 + (k : Int) * -1).toNat]?).toArray = xs.reverse.toArray := by
  apply congrArg List.toArray
  have key : ∀ m : Nat, m ≤ xs.length → ((List.range m).filterMap fun (k : Nat) => xs[xs.length - 1 - k]?) = xs.reverse.take m := by
    intro m
    induction m with
    | zero => intro _; simp
    | succ m ih =>
      intro hm
      rw [List.range_succ, List.filterMap_append, ih (by omega), List.take_add_one]
      congr 1
      have hlt : xs.length - 1 - m < xs.length := by omega
      rw [List.getElem?_reverse (by omega)]
      simp [List.getElem?_eq_getElem hlt]
  have k2 := key xs.length (Nat.le_refl _)
  rw [List.take_of_length_le (by simp)] at k2
  rw [← k2, List.size_toArray]
  refine fm_congr _ fun k hk => ?_
  have hk' : k < xs.length := List.mem_range.mp hk
  have e : (((xs.length : Nat) : Int) - 1 + (k : Int) * -1).toNat = xs.length - 1 - k := by omega
  rw [e]
  simp
theorem getItem_tuple_back {t sl : Addr} {items : List Value} {ti : Tok} {Q : Value → Shared → Prop} (ht : IsTup s.heap t items.toArray) (hs : s.heap.IsSliceOf sl .none .none (.int (-1) ti))
    (h : Q (.ref s.heap.objs.size) { s with heap := s.heap.push { cls := .type "tuple", data := .seq items.reverse.toArray } })
    (hsz : items.length ≤ sizeLine) : wpAny (model prog w) A (getItem (.ref t) (.ref sl)) Q E s := by
  have htake : sizeOk (.seq items.reverse.toArray) := by
    show items.reverse.toArray.size ≤ sizeLine
    rw [List.size_toArray, List.length_reverse]
    exact hsz
  obtain ⟨os, hos, hcs, hds⟩ := id hs
  have hTs : s.TypeIs (.ref sl) "slice" := ⟨os, hos, hcs⟩
  unfold getItem
  try with_reducible refine wpAny_holding ?_
  first | refine wpAny_bind (wpAny_pure ?_) | skip
  refine wpAny_bind (wpAny_sequenceKey ht.typeIs (by decide) ?_)
  refine wpAny_bind (wpAny_callSpecial?_slot (name := Str.ofString "__getitem__") ht.typeIs PyProof.Rows.slot_tuple_getitem
    (wpAny_call_entry PyProof.Rows.slot_tuple_getitem ht.typeIs entry_tuple_getitem ?_ (args_tuple_getitem _ _)))
  show wpAny _ _ (Builtin.Tuple.tupleItemsOf (.ref t) >>= _) _ _ s
  refine wpAny_bind (tupleItemsOf_ ht ?_)
  refine wpAny_bind (wpAny_typeOf hTs ?_)
  rw [if_pos (by decide)]
  refine wpAny_bind (sliceApplied_back hs ?_)
  have hno : ¬ ((((items.toArray.size : Nat) : Int) - 1 == 0 && (-1 : Int) == 1 && items.toArray.size == items.toArray.size) = true) := by
    intro q
    rw [Bool.and_eq_true, Bool.and_eq_true] at q
    exact absurd q.1.2 (by decide)
  show wpAny _ _ (if (((items.toArray.size : Nat) : Int) - 1 == 0 && (-1 : Int) == 1 && items.toArray.size == items.toArray.size) = true then _ else _) _ _ s
  rw [if_neg hno, pick_back]
  first
    | exact wpAny_bind (m := Builtin.Tuple.tupleExact _) (wpAny_newObj_type (wpAny_pure ⟨_, rfl, wpAny_pure h⟩) htake)
    | exact wpAny_bind (m := Builtin.Tuple.tupleExact _) (wpAny_newObj_type (wpAny_bind (wpAny_pure (wpAny_pure ⟨_, rfl, wpAny_pure h⟩))) htake)
    | exact wpAny_bind (wpAny_bind (m := Builtin.Tuple.tupleExact _) (wpAny_newObj_type (wpAny_pure (wpAny_pure ⟨_, rfl, wpAny_pure h⟩)) htake))
    | exact wpAny_bind (wpAny_bind (m := Builtin.Tuple.tupleExact _) (wpAny_newObj_type (wpAny_pure ⟨_, rfl, wpAny_pure h⟩) htake))
end

/-- t[::-1] of a tuple -/
def tRevT (K : PySem.W.Frag) (te : TE) : TE := fun σ H Q => te σ H fun x H1 => ∃ a xs, x = .ref a ∧ SqT K H1 a xs ∧ ∀ p, H1 p = none → Q (.ref p) (upd H1 p (.tup xs.reverse))
section
variable {X : Cx}
theorem pe_revT {e : Expr} {te : TE} {k : Nat} {p1 p2 p3 pos : Pos} (he : PE X e te) : PE X (.Subscript e (.Slice none none (some (.UnaryOp .USub (.Constant (.int 1) k p1) p2)) p3) pos) (tRevT X.K te) := by
  refine ⟨fun pins s σ H Q I h => ?_⟩
  refine Subscript_ (thn (he.run pins s σ H _ I h) fun v s1 ⟨x, H1, I1, r1, q1⟩ => ?_)
  obtain ⟨a, xs, ex, hx, q⟩ := q1
  subst ex
  cases r1
  have hst : PO X (some (.UnaryOp .USub (.Constant (.int 1) k p1) p2)) (tPart (tUn (rU fun i => .int (-i)) (tC (.int 1)))) := po_some (pe_un un_neg pe_int)
  refine wpAny_Slice (thn (po_none.run pins s1 σ H1 (fun o H2 => o = none ∧ H2 = H1) I1 ⟨rfl, rfl⟩) fun vl s2 ⟨l, H2, I2, pl, el, e2⟩ => ?_)
  subst el e2
  refine thn (po_none.run pins s2 σ H2 (fun o H3 => o = none ∧ H3 = H2) I2 ⟨rfl, rfl⟩) fun vu s3 ⟨u, H3, I3, pu, eu, e3⟩ => ?_
  subst eu e3
  refine thn (hst.run pins s3 σ H3 (fun o H4 => o = some (-1) ∧ H4 = H3) I3 ⟨1, rfl, -1, rfl, rfl, rfl⟩) fun vs s4 ⟨o, H4, I4, ps, eo, e4⟩ => ?_
  subst eo e4
  cases pl
  cases pu
  obtain ⟨ti, rfl⟩ : ∃ ti, vs = Value.int (-1) ti := by
    cases ps
    exact ⟨_, rfl⟩
  have I5 : Inv X pins σ H4 { s4 with heap := s4.heap.push { cls := .type "slice", data := .fields #[Value.none, Value.none, Value.int (-1) ti] } } := I4.kept (t' := s4.toks) fun b ob q => Heap.get?_push_of_some _ q
  obtain ⟨its, r, ht, hz⟩ := I5.tuple hx
  have hlen := r.length
  show wpAny (model X.prog X.w) X.A (subscriptTail e (.Slice none none (some (.UnaryOp .USub (.Constant (.int 1) k p1) p2)) p3) (.ref a) (.ref s4.heap.objs.size)) (EP X pins σ Q) X.xe { s4 with heap := s4.heap.push { cls := .type "slice", data := .fields #[Value.none, Value.none, Value.int (-1) ti] } }
  refine tail_any (ops := [.ref a, .ref s4.heap.objs.size]) ht.typeIs (PyProof.Rows.slot_tuple_getitem.lookup) ?_ (by with_unfolding_all rfl)
  refine getItem_tuple_back ht (Heap.IsSliceOf.new _ Value.none Value.none (Value.int (-1) ti)) ?_ (by rw [← hlen]; exact hz)
  refine ⟨.ref _, _, I5.laid (t' := s4.toks) (o := .tup xs.reverse) (fun b ob q => Heap.get?_push_of_some _ q) (Nat.le_refl _) ?_, rfl, q _ (I5.hok.fresh (Nat.le_refl _))⟩
  exact ⟨by rw [List.length_reverse]; exact hz, _, r.reverse, IsTup.new _ _⟩
end

/-! ### xs[:-m-1:-1] of a list: the last m, the last one first -/
def tBackL (K : PySem.W.Frag) (te tu : TE) : TE := fun σ H Q => te σ H fun x H1 => tPart tu σ H1 fun o H2 => ∃ (a : Addr) (xs : List V) (m : Nat), x = .ref a ∧ o = some (-(m : Int) - 1) ∧ SqL K H2 a xs ∧ m ≤ xs.length ∧ ∀ p, H2 p = none → Q (.ref p) (upd H2 p (.lst (xs.drop (xs.length - m)).reverse))
theorem back_bounds (n m : Nat) (h : m ≤ n) : sliceBounds none (some (-(m : Int) - 1)) (some (-1)) n = ((n : Int) - 1, (n : Int) - m - 1, -1) := by
  have h1 : -(m : Int) - 1 < 0 := by omega
  have h2 : ¬ ((-1 : Int) > 0) := by decide
  simp only [sliceBounds, Option.getD_some, h1, h2, if_true, if_false]
  have e : max (-1) (min (-(m : Int) - 1 + n) ((n : Int) - 1)) = (n : Int) - m - 1 := by omega
  rw [e]
theorem back_range (n m : Nat) (h : m ≤ n) : sliceRange ((n : Int) - 1) ((n : Int) - m - 1) (-1) = (List.range m).map fun k => n - 1 - k := by
  unfold sliceRange
  have h1 : ¬ ((-1 : Int) > 0) := by decide
  by_cases hm : (n : Int) - 1 > (n : Int) - m - 1
  · have e : ((n : Int) - 1 - ((n : Int) - m - 1) - -1 - 1) / (- -1) = (m : Int) := by
      rw [show (- -1 : Int) = 1 by decide, Int.ediv_one]
      omega
    simp only [h1, if_false, hm, if_true, e, Int.toNat_natCast]
    apply List.map_congr_left
    intro k hk
    have := List.mem_range.mp hk
    omega
  · have e : m = 0 := by omega
    subst e
    simp
theorem back_pick (xs : List Value) (m : Nat) (h : m ≤ xs.length) : slicePick xs.toArray none (some (-(m : Int) - 1)) (some (-1)) = ((xs.drop (xs.length - m)).reverse).toArray := by
  unfold slicePick
  rw [List.size_toArray, back_bounds _ _ h]
  show ((sliceRange ((xs.length : Int) - 1) ((xs.length : Int) - m - 1) (-1)).filterMap (xs.toArray[·]?)).toArray = _
  rw [back_range _ _ h]
  apply congrArg List.toArray
  rw [List.filterMap_map]
  have key : ∀ j : Nat, j ≤ xs.length → ((List.range j).filterMap fun (k : Nat) => xs[xs.length - 1 - k]?) = xs.reverse.take j := by
    intro j
    induction j with
    | zero => intro _; simp
    | succ j ih =>
      intro hm
      rw [List.range_succ, List.filterMap_append, ih (by omega), List.take_add_one]
      congr 1
      have hlt : xs.length - 1 - j < xs.length := by omega
      rw [List.getElem?_reverse (by omega)]
      simp [List.getElem?_eq_getElem hlt]
  have e : ((fun x : Nat => xs.toArray[x]?) ∘ fun k => xs.length - 1 - k) = fun k => xs[xs.length - 1 - k]? := by
    funext k
    simp
  rw [e, key m h, List.take_reverse]
section
variable {X : Cx}
theorem pe_backL {e u : Expr} {te tu : TE} {k : Nat} {p1 p2 p3 pos : Pos} (he : PE X e te) (hu : PE X u tu) : PE X (.Subscript e (.Slice none (some u) (some (.UnaryOp .USub (.Constant (.int 1) k p1) p2)) p3) pos) (tBackL X.K te tu) := by
  refine ⟨fun pins s σ H Q I h => ?_⟩
  refine Subscript_ (thn (he.run pins s σ H _ I h) fun v s1 ⟨x, H1, I1, r1, q1⟩ => ?_)
  have hup : PO X (some u) (tPart tu) := po_some hu
  have hst : PO X (some (.UnaryOp .USub (.Constant (.int 1) k p1) p2)) (tPart (tUn (rU fun i => .int (-i)) (tC (.int 1)))) := po_some (pe_un un_neg pe_int)
  refine wpAny_Slice (thn (po_none.run pins s1 σ H1 (fun o H2 => o = none ∧ H2 = H1) I1 ⟨rfl, rfl⟩) fun vl s2 ⟨l, H2, I2, pl, el, e2⟩ => ?_)
  subst el e2
  refine thn (hup.run pins s2 σ H2 (fun o H3 => ∃ (a : Addr) (xs : List V) (m : Nat), x = .ref a ∧ o = some (-(m : Int) - 1) ∧ SqL X.K H3 a xs ∧ m ≤ xs.length ∧ ∀ p, H3 p = none → Q (.ref p) (upd H3 p (.lst (xs.drop (xs.length - m)).reverse))) I2 q1) fun vu s3 ⟨u', H3, I3, pu, qu⟩ => ?_
  obtain ⟨a, xs, m, ex, eu, hx, hm, q⟩ := qu
  subst ex eu
  refine thn (hst.run pins s3 σ H3 (fun o H4 => o = some (-1) ∧ H4 = H3) I3 ⟨1, rfl, -1, rfl, rfl, rfl⟩) fun vs s4 ⟨o, H4, I4, ps, eo, e4⟩ => ?_
  subst eo e4
  cases r1
  have I5 : Inv X pins σ H4 { s4 with heap := s4.heap.push { cls := .type "slice", data := .fields #[vl, vu, vs] } } := I4.kept (t' := s4.toks) fun b ob q => Heap.get?_push_of_some _ q
  obtain ⟨its, r, ht, hz⟩ := I5.list hx
  have hlen := r.length
  show wpAny (model X.prog X.w) X.A (subscriptTail e (.Slice none (some u) (some (.UnaryOp .USub (.Constant (.int 1) k p1) p2)) p3) (.ref a) (.ref s4.heap.objs.size)) (EP X pins σ Q) X.xe { s4 with heap := s4.heap.push { cls := .type "slice", data := .fields #[vl, vu, vs] } }
  refine tail_any (ops := [.ref a, .ref s4.heap.objs.size]) ht.isList.typeIs (PySem.slot_list_getitem.lookup) ?_ (by with_unfolding_all rfl)
  refine wpAny_getItem_list_slice ht.isList (Heap.IsSliceOf.new _ vl vu vs) pl pu ps (by decide) ?_ (by rw [List.size_toArray]; omega)
  rw [back_pick its m (by omega)]
  refine ⟨.ref _, _, I5.laid (t' := s4.toks) (o := .lst (xs.drop (xs.length - m)).reverse) (fun b ob q => Heap.get?_push_of_some _ q) (Nat.le_refl _) ?_, rfl, q _ (I5.hok.fresh (Nat.le_refl _))⟩
  refine ⟨by rw [List.length_reverse, List.length_drop]; omega, _, 0, ?_, Heap.get?_push_size _ rfl⟩
  rw [hlen]
  exact (r.drop _).reverse
end

/-! ### del xs[-m:] of a list, 1 ≤ m -/
def sel (start stop step : Int) (i : Nat) : Bool :=
  if step > 0 then start ≤ i && i < stop && (i - start) % step == 0
  else stop < i && i ≤ start && (start - i) % (-step) == 0
theorem del_bounds (n m : Nat) (h : m ≤ n) (h1 : 1 ≤ m) : sliceBounds (some (-(m : Int))) none none n = ((n : Int) - m, (n : Int), 1) := by
  have h2 : -(m : Int) < 0 := by omega
  have h3 : (1 : Int) > 0 := by decide
  simp only [sliceBounds, Option.getD_none, h2, h3, if_true]
  have e : max 0 (min (-(m : Int) + n) (n : Int)) = (n : Int) - m := by omega
  rw [e]
theorem del_keep (n m : Nat) (h : m ≤ n) (xs : List Value) : ∀ k : Nat, k + xs.length = n →
    ((xs.zipIdx k).filterMap fun (p : Value × Nat) => if sel ((n : Int) - m) (n : Int) 1 p.2 then none else some p.1) = xs.take (n - m - k) := by
  induction xs with
  | nil => intro k _; simp
  | cons x r ih =>
    intro k hk
    rw [List.length_cons] at hk
    rw [List.zipIdx_cons, List.filterMap_cons]
    have hs : sel ((n : Int) - m) (n : Int) 1 k = decide (n - m ≤ k) := by
      unfold sel
      rw [if_pos (by decide), Int.emod_one]
      by_cases q : n - m ≤ k
      · have q1 : (n : Int) - m ≤ (k : Int) := by omega
        have q2 : (k : Int) < (n : Int) := by omega
        simp [q, q1, q2]
      · have q1 : ¬ (n : Int) - m ≤ (k : Int) := by omega
        simp [q, q1]
    have i2 := ih (k + 1) (by omega)
    rw [i2]
    dsimp only
    rw [hs]
    by_cases q : n - m ≤ k
    · rw [if_pos (by simpa using q)]
      have e1 : n - m - (k + 1) = 0 := by omega
      have e2 : n - m - k = 0 := by omega
      rw [e1, e2]
      simp
    · rw [if_neg (by simpa using q)]
      have e1 : n - m - k = (n - m - (k + 1)) + 1 := by omega
      rw [e1, List.take_succ_cons]
section
variable {prog : Program} {w : World} {A : Around} {E : Value → Shared → Prop} {s : Shared}
theorem delItem_tail {l sl : Addr} {its : List Value} {n m : Nat} {ti : Tok} {Q : Unit → Shared → Prop}
    (e : s.heap.get? l = some { cls := .type "list", data := .seq its.toArray n }) (hs : s.heap.IsSliceOf sl (.int (-(m : Int)) ti) .none .none) (h1 : 1 ≤ m) (hm : m ≤ its.length) (hsz : its.length ≤ sizeLine)
    (h : ∀ f : Array Value → Array Value, f its.toArray = (its.take (its.length - m)).toArray → Q () { s with heap := s.heap.update l (Obj.mapSeq f) }) :
    wpAny (model prog w) A (delItem (.ref l) (.ref sl)) Q E s := by
  have hl : s.heap.IsList l its.toArray := PySem.IsL.isList e
  obtain ⟨os, hos, hcs, hds⟩ := id hs
  have hTs : s.TypeIs (.ref sl) "slice" := ⟨os, hos, hcs⟩
  have hstep : ¬ ((rawPart none == rawInt 0) = true) := Bool.false_ne_true
  refine wpAny_delItem_slot hl.typeIs (by decide) PySem.F.slot_list_delitem
    (wpAny_call_entry PySem.F.slot_list_delitem hl.typeIs PySem.F.entry_list_delitem ?_ (PySem.F.args_list_delitem_2 _ _))
  show wpAny _ _ (Builtin.List.listSubscript? (.ref sl) >>= _) _ _ s
  refine wpAny_bind ?_
  unfold Builtin.List.listSubscript?
  refine wpAny_bind (wpAny_specialOf hTs slice_no_index ?_)
  simp only [Option.isNone_none, if_true]
  refine wpAny_pure ?_
  show wpAny _ _ (typeOf (.ref sl) >>= _) _ _ s
  refine wpAny_bind (wpAny_typeOf hTs ?_)
  first
    | rw [if_neg (by decide)]
    | refine PySem.W.KFB.if_not (by decide) ?_
  rw [listSliceParts_eq]
  refine wpAny_bind (wpAny_bind (wpAny_field hos hds (x := .none) rfl (wpAny_bind (wpAny_listPart .none ?_))))
  rw [if_neg hstep]
  refine wpAny_bind (wpAny_field hos hds (x := .int (-(m : Int)) ti) rfl (wpAny_bind (wpAny_listPart (.int (-(m : Int)) ti) ?_)))
  refine wpAny_bind (wpAny_field hos hds (x := .none) rfl (wpAny_bind (wpAny_listPart .none (wpAny_pure ?_))))
  unfold Builtin.List.listItems
  refine wpAny_bind (wpAny_bind (wpAny_seqItems e rfl (wpAny_pure ?_)))
  refine wpAny_bind (wpAny_of_eq ((sliceIndices_raw (some (-(m : Int))) none none its.toArray.size (by simp)).trans (congrArg (pure : Int × Int × Int → Sem (Int × Int × Int)) (show sliceBounds (some (-(m : Int))) none none its.toArray.size = ((its.length : Int) - m, (its.length : Int), 1) from del_bounds its.length m hm h1))) ?_)
  refine wpAny_bind (wpAny_rule ?_)
  have hf := congrArg List.toArray (del_keep its.length m hm its 0 (Nat.zero_add _))
  rw [Nat.sub_zero] at hf
  show wpAny _ _ (updateSeq l (fun xs : Array Value => (xs.toList.zipIdx.filterMap fun (p : Value × Nat) => if sel ((its.length : Int) - m) (its.length : Int) 1 p.2 then none else some p.1).toArray) >>= _) _ _ s
  have hf' : (fun xs : Array Value => (xs.toList.zipIdx.filterMap fun (p : Value × Nat) => if sel ((its.length : Int) - m) (its.length : Int) 1 p.2 then none else some p.1).toArray) its.toArray = (its.take (its.length - m)).toArray := hf
  have hz2 : ((fun xs : Array Value => (xs.toList.zipIdx.filterMap fun (p : Value × Nat) => if sel ((its.length : Int) - m) (its.length : Int) 1 p.2 then none else some p.1).toArray) its.toArray).size ≤ sizeLine + 1 := by
    rw [hf', List.size_toArray, List.length_take]
    omega
  refine wpAny_bind (wpAny_updateSeq (hz := by rw [List.size_toArray]; exact hsz) (_hz' := hz2) e rfl ?_)
  refine wpAny_bind (wpAny_letGo ?_)
  have k := h (fun xs : Array Value => (xs.toList.zipIdx.filterMap fun (p : Value × Nat) => if sel ((its.length : Int) - m) (its.length : Int) 1 p.2 then none else some p.1).toArray) hf'
  first
    | exact wpAny_bind (wpAny_pure (wpAny_pure ⟨.none, rfl, k⟩))
    | exact wpAny_pure ⟨.none, rfl, k⟩
end
def tDelTail (te tu : TE) : TS := fun D σ H => te σ H fun x H1 => tPart tu σ H1 fun o H2 => ∃ (l : Addr) (xs : List V) (m : Nat), x = .ref l ∧ o = some (-(m : Int)) ∧ H2 l = some (.lst xs) ∧ 1 ≤ m ∧ m ≤ xs.length ∧ D.nx σ (upd H2 l (.lst (xs.take (xs.length - m))))
section
variable {X : Cx}
theorem ps_delTail {e u : Expr} {te tu : TE} {p3 tpos pos : Pos} (he : PE X e te) (hu : PE X u tu) : PS X (.Delete [.Subscript e (.Slice (some u) none none p3) tpos] pos) (tDelTail te tu) := by
  refine ⟨fun pins s σ H D I h => ?_⟩
  refine wpAny_Delete (wpAny_deleteEach_cons (wpAny_delete_Subscript (thn (he.run pins s σ H _ I h) fun v s1 ⟨x, H1, I1, r1, q1⟩ => ?_)))
  have hup : PO X (some u) (tPart tu) := po_some hu
  refine wpAny_Slice (thn (hup.run pins s1 σ H1 (fun o H2 => ∃ (l : Addr) (xs : List V) (m : Nat), x = .ref l ∧ o = some (-(m : Int)) ∧ H2 l = some (.lst xs) ∧ 1 ≤ m ∧ m ≤ xs.length ∧ D.nx σ (upd H2 l (.lst (xs.take (xs.length - m))))) I1 q1) fun vl s2 ⟨o, H2, I2, pl, q2⟩ => ?_)
  obtain ⟨l, xs, m, ex, eo, hH, h1, hm, q⟩ := q2
  subst ex eo
  cases r1
  rw [evalPart_none]
  refine wpAny_pure ?_
  refine wpAny_pure ?_
  obtain ⟨i, ti, rfl, ei⟩ : ∃ i ti, vl = Value.int i ti ∧ i = -(m : Int) := by
    cases pl
    exact ⟨_, _, rfl, rfl⟩
  subst ei
  have I5 : Inv X pins σ H2 { s2 with heap := s2.heap.push { cls := .type "slice", data := .fields #[.int (-(m : Int)) ti, Value.none, Value.none] } } := I2.kept (t' := s2.toks) fun b ob q => Heap.get?_push_of_some _ q
  obtain ⟨z, its, n, r, hl, e5⟩ := I5.lstM hH
  refine delItem_tail e5 (Heap.IsSliceOf.new _ (.int (-(m : Int)) ti) Value.none Value.none) h1 (by omega) (by omega) fun f hf => wpAny_deleteEach_nil ⟨σ, _, ?_, q⟩
  refine I5.lset (its' := its.take (its.length - m)) (t' := s2.toks) hH e5 hf ?_ (by rw [List.length_take]; omega)
  rw [hl]
  exact r.take _
end

/-! ### xs.extend(a tuple) -/
section
open AutoSeq1
theorem list_extend_tupW (l : Addr) (items : Array Value) (n : Nat) (b : Addr) (items2 : Array Value) (n2 : Nat) (dd : Option Addr) (sl : Array (Option Value)) (hs0 : ¬(!items.isEmpty && Builtin.List.listTooLong (items.size + items2.size)) = true) (hs1 : items.size ≤ sizeLine) (hs2 : items.size + items2.size ≤ sizeLine + 1) :
    Meets (Builtin.«list.extend» ⟨[.ref l, .ref b], []⟩) (fun _ R s => s.heap.get? l = some { cls := .type "list", dict := none, data := .seq items n, slots := #[] } ∧ s.heap.get? b = some { cls := .type "tuple", dict := dd, data := .seq items2 n2, slots := sl } ∧ R (.ok (.ret Value.none)) { s with heap := s.heap.update l (Obj.mapSeq fun x => x ++ items2), toks := s.toks }) :=
  .of_wp fun prog w A R s h => by
    obtain ⟨hp, g, d, tk, os⟩ := s; obtain ⟨hl, hb, h⟩ := h; have f1 := AutoSeq1.idx_int; have f2 := AutoSeq1.sub_tuple_tuple; have f3 := AutoSeq1.sub_list_list; have f4 := AutoSeq1.sub_tuple_list; have f5 := AutoSeq1.sub_list_tuple;
    have hz' : (items ++ items2).size ≤ sizeLine + 1 := by rw [Array.size_append]; exact hs2
    wp_walk using (wpAny_updateSeq hl rfl (hz := hs1) (_hz' := hz')), wpAny_loadPart' hl, wpAny_loadPart' hb; exact ⟨_, rfl, h⟩
end
def rExtT (K : PySem.W.Frag) : V → List V → Hp → VK → Prop := fun x vs H Q => ∃ l b xs zs, x = .ref l ∧ vs = [.ref b] ∧ H l = some (.lst xs) ∧ SqT K H b zs ∧ xs.length + zs.length ≤ sizeLine ∧ Q .non (upd H l (.lst (xs ++ zs)))
section
variable {X : Cx}
theorem mt_extT : MtR X "list.extend" (rExtT X.K) := by
  intro pins s σ H x vs v us Q I rx rv h
  obtain ⟨l, b, xs, zs, rfl, rfl, hH, hB, hz, q⟩ := h
  cases rx
  obtain ⟨u, rfl, ru⟩ := rv.one
  cases ru
  obtain ⟨z, its, n, r, hl, e⟩ := I.lstM hH
  obtain ⟨its2, r2, ⟨⟨oc, od, dt, sl⟩, e2, c2, n2, d2⟩, z2⟩ := I.tuple hB
  simp only at c2 d2
  subst c2 d2
  have hl2 := r2.length
  have hsz : its.toArray.size + its2.toArray.size ≤ sizeLine := by rw [List.size_toArray, List.size_toArray]; omega
  have hlong : ¬ (!its.toArray.isEmpty && Builtin.List.listTooLong (its.toArray.size + its2.toArray.size)) = true := by
    rw [notLongL hsz, Bool.and_false]
    exact Bool.false_ne_true
  refine call_meets PySem.F.slot_list_extend ⟨_, e, rfl⟩ PySem.F.entry_list_extend (PySem.F.args_list_extend_2 _ _)
    (list_extend_tupW l its.toArray n b its2.toArray n2 od sl hlong (by rw [List.size_toArray]; omega) (by omega)) ⟨e, e2, ?_⟩
  refine ⟨.non, _, I.lset (its' := its ++ its2) (t' := s.toks) hH e (by simp) (r.append r2) ?_, rfl, q⟩
  rw [List.length_append]
  omega
end
end Hm

set_option Elab.async false
set_option linter.all false
set_option maxRecDepth 100000
set_option maxHeartbeats 4000000
namespace Hm
open PySem PySem.Spec PyProof.Rows L2 HT

/-! ## terms, told in Lean -/
inductive Tm where
  | var (k : Int)
  | int (i : Int)
  | atom (s : Str)
  | comp (f : Str) (as : List Tm)

def Tm.args : Tm → List Tm
  | .comp _ as => as
  | _ => []
mutual
def size : Tm → Nat
  | .comp _ as => 1 + sizes as
  | _ => 1
def sizes : List Tm → Nat
  | [] => 0
  | t :: ts => size t + sizes ts
end
mutual
def depth : Tm → Nat
  | .comp _ as => 1 + depths as
  | _ => 1
def depths : List Tm → Nat
  | [] => 0
  | t :: ts => max (depth t) (depths ts)
end
mutual
/-- the parts, each ahead of its arguments -/
def pre : Tm → List Tm
  | .var k => [.var k]
  | .int i => [.int i]
  | .atom s => [.atom s]
  | .comp f as => .comp f as :: pres as
def pres : List Tm → List Tm
  | [] => []
  | t :: ts => pre t ++ pres ts
end
mutual
/-- variables replaced, all at once -/
def sub (g : Int → Tm) : Tm → Tm
  | .var k => g k
  | .int i => .int i
  | .atom s => .atom s
  | .comp f as => .comp f (subs g as)
def subs (g : Int → Tm) : List Tm → List Tm
  | [] => []
  | t :: ts => sub g t :: subs g ts
end
def AtomOk (s : Str) : Prop := s.cps.size ≤ 40 ∧ ∀ c ∈ s.cps.toList, 32 ≤ c ∧ c ≤ 126 ∧ c ≠ 37
def tooGreat : Int := (10 ^ 60) ^ 5
mutual
/-- a term as the document tells it -/
def Ok : Tm → Prop
  | .var k => 0 ≤ k
  | .int i => -tooGreat < i ∧ i < tooGreat
  | .atom s => AtomOk s
  | .comp f as => AtomOk f ∧ 1 ≤ as.length ∧ as.length ≤ 8 ∧ Oks as
def Oks : List Tm → Prop
  | [] => True
  | t :: ts => Ok t ∧ Oks ts
end

theorem sizes_cons (t : Tm) (ts : List Tm) : sizes (t :: ts) = size t + sizes ts := by rw [sizes]
theorem depths_cons (t : Tm) (ts : List Tm) : depths (t :: ts) = max (depth t) (depths ts) := by rw [depths]
theorem pres_cons (t : Tm) (ts : List Tm) : pres (t :: ts) = pre t ++ pres ts := by rw [pres]
theorem oks_cons (t : Tm) (ts : List Tm) : Oks (t :: ts) = (Ok t ∧ Oks ts) := by rw [Oks]
theorem size_pos : ∀ t : Tm, 1 ≤ size t
  | .var _ => Nat.le_refl _
  | .int _ => Nat.le_refl _
  | .atom _ => Nat.le_refl _
  | .comp _ as => by unfold size; omega
theorem sizes_app : ∀ xs ys : List Tm, sizes (xs ++ ys) = sizes xs + sizes ys
  | [], ys => by show sizes ys = sizes [] + sizes ys; unfold sizes; omega
  | x :: xs, ys => by
    show sizes (x :: (xs ++ ys)) = _
    rw [sizes_cons, sizes_cons, sizes_app xs ys]
    omega
theorem sizes_rev : ∀ xs : List Tm, sizes xs.reverse = sizes xs
  | [] => rfl
  | x :: xs => by
    rw [List.reverse_cons, sizes_app, sizes_rev xs, sizes_cons x xs]
    have : sizes [x] = size x := by simp [sizes]
    omega
theorem sizes_one (t : Tm) : sizes [t] = size t := by simp [sizes]
theorem size_eq : ∀ t : Tm, size t = 1 + sizes t.args
  | .var _ => by simp [size, Tm.args, sizes]
  | .int _ => by simp [size, Tm.args, sizes]
  | .atom _ => by simp [size, Tm.args, sizes]
  | .comp _ as => by simp [size, Tm.args]
theorem len_sizes : ∀ ts : List Tm, ts.length ≤ sizes ts
  | [] => Nat.zero_le _
  | t :: ts => by
    have h1 := size_pos t
    have h2 := len_sizes ts
    rw [List.length_cons]
    unfold sizes
    omega
theorem pre_eq : ∀ t : Tm, pre t = t :: pres t.args
  | .var _ => by simp [pre, Tm.args, pres]
  | .int _ => by simp [pre, Tm.args, pres]
  | .atom _ => by simp [pre, Tm.args, pres]
  | .comp _ as => by simp [pre, Tm.args]
theorem pres_app : ∀ xs ys : List Tm, pres (xs ++ ys) = pres xs ++ pres ys
  | [], ys => by simp [pres]
  | x :: xs, ys => by
    show pres (x :: (xs ++ ys)) = _
    rw [pres_cons, pres_cons, pres_app xs ys, List.append_assoc]
mutual
theorem len_pre : ∀ t : Tm, (pre t).length = size t
  | .var _ => rfl
  | .int _ => rfl
  | .atom _ => rfl
  | .comp f as => by
    unfold pre size
    rw [List.length_cons, len_pres as]
    omega
theorem len_pres : ∀ ts : List Tm, (pres ts).length = sizes ts
  | [] => rfl
  | t :: ts => by
    unfold pres sizes
    rw [List.length_append, len_pre t, len_pres ts]
end
theorem oks_app : ∀ {xs ys : List Tm}, Oks (xs ++ ys) ↔ Oks xs ∧ Oks ys
  | [], ys => by simp [Oks]
  | x :: xs, ys => by
    show Oks (x :: (xs ++ ys)) ↔ _
    rw [oks_cons, oks_cons, oks_app (xs := xs) (ys := ys)]
    constructor
    · rintro ⟨a, b, c⟩; exact ⟨⟨a, b⟩, c⟩
    · rintro ⟨⟨a, b⟩, c⟩; exact ⟨a, b, c⟩
theorem ok_args : ∀ {t : Tm}, Ok t → Oks t.args
  | .var _, _ => trivial
  | .int _, _ => trivial
  | .atom _, _ => trivial
  | .comp _ _, h => by unfold Ok at h; exact h.2.2.2
theorem depths_app : ∀ xs ys : List Tm, depths (xs ++ ys) = max (depths xs) (depths ys)
  | [], ys => by simp [depths]
  | x :: xs, ys => by
    show depths (x :: (xs ++ ys)) = _
    rw [depths_cons, depths_cons, depths_app xs ys]
    omega
theorem depth_eq : ∀ t : Tm, depth t = 1 + depths t.args
  | .var _ => by simp [depth, Tm.args, depths]
  | .int _ => by simp [depth, Tm.args, depths]
  | .atom _ => by simp [depth, Tm.args, depths]
  | .comp _ as => by simp [depth, Tm.args]
/-- the next layer -/
def layer (ts : List Tm) : List Tm := ts.flatMap Tm.args
theorem depths_layer : ∀ t ts, depths (t :: ts) = 1 + depths (layer (t :: ts))
  | t, [] => by
    unfold layer
    simp [depths, depth_eq]
  | t, u :: us => by
    have ih := depths_layer u us
    unfold layer at ih ⊢
    rw [List.flatMap_cons, depths_app]
    show max (depth t) (depths (u :: us)) = _
    rw [ih, depth_eq]
    omega
theorem sizes_layer : ∀ ts, sizes (layer ts) + ts.length = sizes ts
  | [] => rfl
  | t :: ts => by
    have ih := sizes_layer ts
    unfold layer at ih ⊢
    rw [List.flatMap_cons, sizes_app, List.length_cons, sizes_cons, size_eq t]
    omega

/-! ## variables, by first occurrence -/
def addNew (acc : List Int) (k : Int) : List Int := if k ∈ acc then acc else acc ++ [k]
def stepVar (acc : List Int) : Tm → List Int
  | .var k => addNew acc k
  | _ => acc
def varsOf (t : Tm) : List Int := (pre t).foldl stepVar []
theorem addNew_nodup {acc : List Int} {k : Int} (h : acc.Nodup) : (addNew acc k).Nodup := by
  unfold addNew
  by_cases q : k ∈ acc
  · rw [if_pos q]; exact h
  · rw [if_neg q, List.nodup_append]
    exact ⟨h, by simp, fun a ha b hb e => by
      simp only [List.mem_singleton] at hb
      subst hb
      subst e
      exact q ha⟩
theorem addNew_len (acc : List Int) (k : Int) : (addNew acc k).length ≤ acc.length + 1 := by
  unfold addNew
  split
  · omega
  · rw [List.length_append, List.length_singleton]; omega
theorem stepVar_nodup {acc : List Int} {t : Tm} (h : acc.Nodup) : (stepVar acc t).Nodup := by
  cases t <;> first | exact addNew_nodup h | exact h
theorem stepVar_len (acc : List Int) (t : Tm) : (stepVar acc t).length ≤ acc.length + 1 := by
  cases t <;> first | exact addNew_len acc _ | exact Nat.le_succ _
theorem fold_nodup : ∀ (ts : List Tm) {acc : List Int}, acc.Nodup → (ts.foldl stepVar acc).Nodup
  | [], _, h => h
  | t :: ts, _, h => fold_nodup ts (stepVar_nodup h)
theorem fold_len : ∀ (ts : List Tm) (acc : List Int), (ts.foldl stepVar acc).length ≤ acc.length + ts.length
  | [], _ => Nat.le_refl _
  | t :: ts, acc => by
    have h := fold_len ts (stepVar acc t)
    have h2 := stepVar_len acc t
    rw [List.foldl_cons, List.length_cons]
    omega
theorem varsOf_nodup (t : Tm) : (varsOf t).Nodup := fold_nodup _ List.nodup_nil
theorem varsOf_len (t : Tm) : (varsOf t).length ≤ size t := by
  have h := fold_len (pre t) []
  rw [len_pre, List.length_nil, Nat.zero_add] at h
  exact h

/-! ## rows, and what folding them gives -/
inductive Rw where
  | leaf (t : Tm)
  | node (f : Str) (n : Nat)
mutual
def rowOf (g : Int → Tm) : Tm → List Rw
  | .var k => [.leaf (g k)]
  | .int i => [.leaf (.int i)]
  | .atom s => [.leaf (.atom s)]
  | .comp f as => .node f as.length :: rowsOf g as
def rowsOf (g : Int → Tm) : List Tm → List Rw
  | [] => []
  | t :: ts => rowOf g t ++ rowsOf g ts
end
def rw1 (g : Int → Tm) : Tm → Rw
  | .var k => .leaf (g k)
  | .int i => .leaf (.int i)
  | .atom s => .leaf (.atom s)
  | .comp f as => .node f as.length
mutual
theorem row_pre (g : Int → Tm) : ∀ t : Tm, (pre t).map (rw1 g) = rowOf g t
  | .var _ => rfl
  | .int _ => rfl
  | .atom _ => rfl
  | .comp f as => by
    unfold pre rowOf
    rw [List.map_cons, row_pres g as]
    rfl
theorem row_pres (g : Int → Tm) : ∀ ts : List Tm, (pres ts).map (rw1 g) = rowsOf g ts
  | [] => rfl
  | t :: ts => by
    unfold pres rowsOf
    rw [List.map_append, row_pre g t, row_pres g ts]
end
/-- one turn of folding: the stack has its top at its end -/
def turn (r : Rw) (D : List Tm) : List Tm :=
  match r with
  | .leaf t => D ++ [t]
  | .node f n => D.take (D.length - n) ++ [.comp f (D.drop (D.length - n)).reverse]
theorem subs_len (g : Int → Tm) : ∀ ts : List Tm, (subs g ts).length = ts.length
  | [] => rfl
  | t :: ts => by
    unfold subs
    rw [List.length_cons, List.length_cons, subs_len g ts]
mutual
theorem fold_row (g : Int → Tm) : ∀ (t : Tm) (D : List Tm), (rowOf g t).foldr turn D = D ++ [sub g t]
  | .var _, _ => rfl
  | .int _, _ => rfl
  | .atom _, _ => rfl
  | .comp f as, D => by
    unfold rowOf sub
    rw [List.foldr_cons, fold_rows g as D]
    unfold turn
    have hl : (D ++ (subs g as).reverse).length - as.length = D.length := by
      rw [List.length_append, List.length_reverse, subs_len]
      omega
    dsimp only
    rw [hl, List.take_left' rfl, List.drop_left' rfl, List.reverse_reverse]
theorem fold_rows (g : Int → Tm) : ∀ (ts : List Tm) (D : List Tm), (rowsOf g ts).foldr turn D = D ++ (subs g ts).reverse
  | [], D => by simp [rowsOf, subs]
  | t :: ts, D => by
    unfold rowsOf subs
    rw [List.foldr_append, fold_rows g ts D, fold_row g t, List.reverse_cons, List.append_assoc]
end
/-- each node of a row finds its arguments on the stack -/
def Rooms : List Rw → List Tm → Prop
  | [], _ => True
  | r :: rs, D => Rooms rs D ∧ (match r with
    | .leaf _ => True
    | .node _ n => 1 ≤ n ∧ n ≤ (rs.foldr turn D).length)
theorem rooms_cons (r : Rw) (rs : List Rw) (D : List Tm) : Rooms (r :: rs) D = (Rooms rs D ∧ (match r with
    | .leaf _ => True
    | .node _ n => 1 ≤ n ∧ n ≤ (rs.foldr turn D).length)) := by
  cases r <;> rfl
theorem rooms_app : ∀ {xs ys : List Rw} {D : List Tm}, Rooms (xs ++ ys) D ↔ Rooms ys D ∧ Rooms xs (ys.foldr turn D)
  | [], ys, D => by simp [Rooms]
  | x :: xs, ys, D => by
    show Rooms (x :: (xs ++ ys)) D ↔ _
    rw [rooms_cons, rooms_cons, rooms_app (xs := xs) (ys := ys), List.foldr_append]
    constructor
    · rintro ⟨⟨a, b⟩, c⟩; exact ⟨a, b, c⟩
    · rintro ⟨a, b, c⟩; exact ⟨⟨a, b⟩, c⟩
mutual
theorem rooms_row (g : Int → Tm) : ∀ (t : Tm) (D : List Tm), Ok t → Rooms (rowOf g t) D
  | .var _, _, _ => ⟨trivial, trivial⟩
  | .int _, _, _ => ⟨trivial, trivial⟩
  | .atom _, _, _ => ⟨trivial, trivial⟩
  | .comp f as, D, h => by
    unfold Ok at h
    unfold rowOf
    refine ⟨rooms_rows g as D h.2.2.2, h.2.1, ?_⟩
    rw [fold_rows g as D, List.length_append, List.length_reverse, subs_len]
    omega
theorem rooms_rows (g : Int → Tm) : ∀ (ts : List Tm) (D : List Tm), Oks ts → Rooms (rowsOf g ts) D
  | [], _, _ => trivial
  | t :: ts, D, h => by
    unfold Oks at h
    unfold rowsOf
    exact rooms_app.mpr ⟨rooms_rows g ts D h.2, rooms_row g t _ h.1⟩
end

/-! ## how a heap bears a term -/
mutual
def Rep (K : PySem.W.Frag) (H : Hp) : Tm → V → Prop
  | .var k, v => ∃ a, v = .ref a ∧ SqT K H a [.int k]
  | .int i, v => v = .int i
  | .atom s, v => v = .str s
  | .comp f as, v => ∃ a vs, v = .ref a ∧ SqT K H a (.str f :: vs) ∧ Reps K H as vs
def Reps (K : PySem.W.Frag) (H : Hp) : List Tm → List V → Prop
  | [], vs => vs = []
  | t :: ts, vs => ∃ v ws, vs = v :: ws ∧ Rep K H t v ∧ Reps K H ts ws
end
/-- tuples stay -/
def Tups (K : PySem.W.Frag) (H H' : Hp) : Prop := ∀ a xs, SqT K H a xs → SqT K H' a xs
theorem Tups.refl {K : PySem.W.Frag} (H : Hp) : Tups K H H := fun _ _ h => h
theorem Tups.trans {K : PySem.W.Frag} {H H1 H2 : Hp} (a : Tups K H H1) (b : Tups K H1 H2) : Tups K H H2 := fun x xs h => b x xs (a x xs h)
theorem Tups.of {K : PySem.W.Frag} {H H' : Hp} (e : Evl.Ex H H') : Tups K H H' := fun _ _ h => Evl.ex_t e h
/-- a list of H is changed -/
theorem Tups.lst {K : PySem.W.Frag} {H : Hp} {l : Addr} {xs : List V} {o : HO} (h : H l = some (.lst xs)) : Tups K H (upd H l o) := fun a ys q => by
  rcases q with (q | ⟨ob, q⟩) | q
  · exact .inl (.inl (by rw [upd_ne (ne_of q h (by intro z; cases z))]; exact q))
  · exact .inl (.inr ⟨ob, by rw [upd_ne (ne_of q h (by intro z; cases z))]; exact q⟩)
  · exact .inr q
theorem tups_dk {K : PySem.W.Frag} {H : Hp} {l : Addr} {kvs : List (Key × V)} {o : HO} (h : H l = some (.dK kvs)) : Tups K H (upd H l o) := fun a ys q => by
  rcases q with (q | ⟨ob, q⟩) | q
  · exact .inl (.inl (by rw [upd_ne (ne_of q h (by intro z; cases z))]; exact q))
  · exact .inl (.inr ⟨ob, by rw [upd_ne (ne_of q h (by intro z; cases z))]; exact q⟩)
  · exact .inr q
section
variable {K : PySem.W.Frag} {H H' : Hp}
mutual
theorem Rep.mono (e : Tups K H H') : ∀ {t : Tm} {v : V}, Rep K H t v → Rep K H' t v
  | .var k, v, h => by
    unfold Rep at h ⊢
    obtain ⟨a, e1, q⟩ := h
    exact ⟨a, e1, e _ _ q⟩
  | .int i, v, h => by unfold Rep at h ⊢; exact h
  | .atom s, v, h => by unfold Rep at h ⊢; exact h
  | .comp f as, v, h => by
    unfold Rep at h ⊢
    obtain ⟨a, vs, e1, q, r⟩ := h
    exact ⟨a, vs, e1, e _ _ q, Reps.mono e r⟩
theorem Reps.mono (e : Tups K H H') : ∀ {ts : List Tm} {vs : List V}, Reps K H ts vs → Reps K H' ts vs
  | [], vs, h => by unfold Reps at h ⊢; exact h
  | t :: ts, vs, h => by
    unfold Reps at h ⊢
    obtain ⟨v, ws, e1, q, r⟩ := h
    exact ⟨v, ws, e1, Rep.mono e q, Reps.mono e r⟩
end
theorem Reps.nil : Reps K H [] [] := by unfold Reps; rfl
theorem Reps.cons {t : Tm} {ts : List Tm} {v : V} {vs : List V} (h : Rep K H t v) (r : Reps K H ts vs) : Reps K H (t :: ts) (v :: vs) := by
  unfold Reps
  exact ⟨v, vs, rfl, h, r⟩
theorem Reps.one {t : Tm} {v : V} (h : Rep K H t v) : Reps K H [t] [v] := Reps.cons h Reps.nil
theorem Reps.cons_inv {t : Tm} {ts : List Tm} {vs : List V} (h : Reps K H (t :: ts) vs) : ∃ v ws, vs = v :: ws ∧ Rep K H t v ∧ Reps K H ts ws := by
  unfold Reps at h
  exact h
theorem Reps.nil_inv {vs : List V} (h : Reps K H [] vs) : vs = [] := by
  unfold Reps at h
  exact h
theorem Reps.len : ∀ {ts : List Tm} {vs : List V}, Reps K H ts vs → ts.length = vs.length
  | [], vs, h => by rw [h.nil_inv] <;> rfl
  | t :: ts, vs, h => by
    obtain ⟨v, ws, e, _, r⟩ := h.cons_inv
    rw [e, List.length_cons, List.length_cons, Reps.len r]
theorem Reps.app : ∀ {ts us : List Tm} {vs ws : List V}, Reps K H ts vs → Reps K H us ws → Reps K H (ts ++ us) (vs ++ ws)
  | [], us, vs, ws, h, r => by rw [h.nil_inv]; exact r
  | t :: ts, us, vs, ws, h, r => by
    obtain ⟨v, xs, e, q, s⟩ := h.cons_inv
    rw [e]
    exact Reps.cons q (Reps.app s r)
theorem Reps.app_inv : ∀ {ts us : List Tm} {vs : List V}, Reps K H (ts ++ us) vs → ∃ v1 v2, vs = v1 ++ v2 ∧ Reps K H ts v1 ∧ Reps K H us v2
  | [], us, vs, h => ⟨[], vs, rfl, Reps.nil, h⟩
  | t :: ts, us, vs, h => by
    obtain ⟨v, ws, e, q, r⟩ := Reps.cons_inv (ts := ts ++ us) h
    obtain ⟨v1, v2, e2, r1, r2⟩ := Reps.app_inv r
    exact ⟨v :: v1, v2, by rw [e, e2]; rfl, Reps.cons q r1, r2⟩
theorem Reps.rev : ∀ {ts : List Tm} {vs : List V}, Reps K H ts vs → Reps K H ts.reverse vs.reverse
  | [], vs, h => by rw [h.nil_inv]; exact Reps.nil
  | t :: ts, vs, h => by
    obtain ⟨v, ws, e, q, r⟩ := h.cons_inv
    rw [e, List.reverse_cons, List.reverse_cons]
    exact Reps.app (Reps.rev r) (Reps.one q)
theorem Reps.get : ∀ {ts : List Tm} {vs : List V} {i : Nat} {v : V}, Reps K H ts vs → vs[i]? = some v → ∃ t, ts[i]? = some t ∧ Rep K H t v
  | [], vs, i, v, h, e => by rw [h.nil_inv] at e; simp at e
  | t :: ts, vs, i, v, h, e => by
    obtain ⟨w, ws, e1, q, r⟩ := h.cons_inv
    rw [e1] at e
    cases i with
    | zero =>
      have : w = v := by simpa using e
      subst this
      exact ⟨t, rfl, q⟩
    | succ i =>
      obtain ⟨u, h1, h2⟩ := Reps.get (i := i) r (by simpa using e)
      exact ⟨u, by simpa using h1, h2⟩
/-- the last one -/
theorem Reps.last {ts : List Tm} {t : Tm} {vs : List V} (h : Reps K H (ts ++ [t]) vs) : ∃ ws v, vs = ws ++ [v] ∧ Reps K H ts ws ∧ Rep K H t v := by
  obtain ⟨v1, v2, e, r1, r2⟩ := h.app_inv
  obtain ⟨v, ws, e2, q, r⟩ := r2.cons_inv
  rw [r.nil_inv] at e2
  exact ⟨v1, v, by rw [e, e2], r1, q⟩
theorem Reps.take {ts : List Tm} {vs : List V} (h : Reps K H ts vs) (n : Nat) : Reps K H (ts.take n) (vs.take n) := by
  induction n generalizing ts vs with
  | zero => exact Reps.nil
  | succ n ih =>
    cases ts with
    | nil => rw [h.nil_inv]; exact Reps.nil
    | cons t ts =>
      obtain ⟨v, ws, e, q, r⟩ := h.cons_inv
      rw [e, List.take_succ_cons, List.take_succ_cons]
      exact Reps.cons q (ih r)
theorem Reps.drop {ts : List Tm} {vs : List V} (h : Reps K H ts vs) (n : Nat) : Reps K H (ts.drop n) (vs.drop n) := by
  induction n generalizing ts vs with
  | zero => exact h
  | succ n ih =>
    cases ts with
    | nil => rw [h.nil_inv]; exact Reps.nil
    | cons t ts =>
      obtain ⟨v, ws, e, q, r⟩ := h.cons_inv
      rw [e, List.drop_succ_cons, List.drop_succ_cons]
      exact ih r
end
end Hm

set_option Elab.async false
set_option linter.all false
set_option maxRecDepth 100000
set_option maxHeartbeats 1000000
namespace Hm
open PySem PySem.Spec PyProof.Rows L2 HT
theorem oks_get : ∀ {ts : List Tm} {i : Nat} {t : Tm}, Oks ts → ts[i]? = some t → Ok t
  | [], i, _, _, e => by simp at e
  | u :: us, 0, t, h, e => by
    rw [oks_cons] at h
    have : u = t := by simpa using e
    exact this ▸ h.1
  | u :: us, i + 1, t, h, e => by
    rw [oks_cons] at h
    exact oks_get h.2 (by simpa using e)
mutual
theorem ok_pre : ∀ {t : Tm}, Ok t → Oks (pre t)
  | .var _, h => by unfold pre; rw [oks_cons]; exact ⟨h, trivial⟩
  | .int _, h => by unfold pre; rw [oks_cons]; exact ⟨h, trivial⟩
  | .atom _, h => by unfold pre; rw [oks_cons]; exact ⟨h, trivial⟩
  | .comp f as, h => by
    have h2 := h
    unfold Ok at h2
    unfold pre
    rw [oks_cons]
    exact ⟨h, ok_pres h2.2.2.2⟩
theorem ok_pres : ∀ {ts : List Tm}, Oks ts → Oks (pres ts)
  | [], _ => trivial
  | t :: ts, h => by
    rw [oks_cons] at h
    rw [pres_cons]
    exact oks_app.mpr ⟨ok_pre h.1, ok_pres h.2⟩
end
/-! ## comparing: -1, 0, 1 -/
structure Cmpr {α : Type} (c : α → α → Int) : Prop where
  refl : ∀ a, c a a = 0
  eq : ∀ a b, c a b = 0 → a = b
  anti : ∀ a b, c b a = - c a b
  tr : ∀ a b d, c a b ≤ 0 → c b d ≤ 0 → c a d ≤ 0
  ran : ∀ a b, c a b = -1 ∨ c a b = 0 ∨ c a b = 1
def intC (i j : Int) : Int := if i = j then 0 else if i < j then -1 else 1
theorem intC_ok : Cmpr intC := by
  refine ⟨fun a => if_pos rfl, fun a b h => ?_, fun a b => ?_, fun a b d h1 h2 => ?_, fun a b => ?_⟩
  · unfold intC at h
    split at h
    · assumption
    · split at h <;> omega
  · unfold intC
    split <;> split <;> (try split) <;> (try split) <;> omega
  · unfold intC at *
    split at h1 <;> split at h2 <;> (try split at h1) <;> (try split at h2) <;> split <;> (try split) <;> omega
  · unfold intC
    split
    · exact .inr (.inl rfl)
    · split
      · exact .inl rfl
      · exact .inr (.inr rfl)
def lexC {α : Type} (c : α → α → Int) : List α → List α → Int
  | [], [] => 0
  | [], _ :: _ => -1
  | _ :: _, [] => 1
  | x :: xs, y :: ys => if c x y = 0 then lexC c xs ys else c x y
section
variable {α : Type} {c : α → α → Int}
theorem lexC_cons (x y : α) (xs ys : List α) : lexC c (x :: xs) (y :: ys) = if c x y = 0 then lexC c xs ys else c x y := by rw [lexC]
theorem lexC_refl (C : Cmpr c) : ∀ xs : List α, lexC c xs xs = 0
  | [] => rfl
  | x :: xs => by
    rw [lexC_cons, if_pos (C.refl x), lexC_refl C xs]
theorem lexC_eq (C : Cmpr c) : ∀ xs ys : List α, lexC c xs ys = 0 → xs = ys
  | [], [], _ => rfl
  | [], _ :: _, h => by simp [lexC] at h
  | _ :: _, [], h => by simp [lexC] at h
  | x :: xs, y :: ys, h => by
    rw [lexC_cons] at h
    split at h
    · next e => rw [C.eq x y e, lexC_eq C xs ys h]
    · contradiction
theorem lexC_anti (C : Cmpr c) : ∀ xs ys : List α, lexC c ys xs = - lexC c xs ys
  | [], [] => rfl
  | [], _ :: _ => by simp [lexC]
  | _ :: _, [] => by simp [lexC]
  | x :: xs, y :: ys => by
    have a := C.anti x y
    rw [lexC_cons, lexC_cons, lexC_anti C xs ys]
    split <;> split <;> omega
theorem lexC_ran (C : Cmpr c) : ∀ xs ys : List α, lexC c xs ys = -1 ∨ lexC c xs ys = 0 ∨ lexC c xs ys = 1
  | [], [] => .inr (.inl rfl)
  | [], _ :: _ => .inl rfl
  | _ :: _, [] => .inr (.inr rfl)
  | x :: xs, y :: ys => by
    rw [lexC_cons]
    split
    · exact lexC_ran C xs ys
    · exact C.ran x y
theorem lexC_tr (C : Cmpr c) : ∀ xs ys zs : List α, lexC c xs ys ≤ 0 → lexC c ys zs ≤ 0 → lexC c xs zs ≤ 0
  | [], _, [], _, _ => by simp [lexC]
  | [], _, _ :: _, _, _ => by simp [lexC]
  | _ :: _, [], _, h, _ => by simp [lexC] at h
  | _ :: _, _ :: _, [], _, h => by simp [lexC] at h
  | x :: xs, y :: ys, z :: zs, h1, h2 => by
    rw [lexC_cons] at h1 h2 ⊢
    have ran := C.ran x y
    by_cases e1 : c x y = 0
    · rw [if_pos e1] at h1
      have := C.eq x y e1
      subst this
      by_cases e2 : c x z = 0
      · rw [if_pos e2] at h2 ⊢
        exact lexC_tr C xs ys zs h1 h2
      · rw [if_neg e2] at h2 ⊢
        exact h2
    · rw [if_neg e1] at h1
      by_cases e2 : c y z = 0
      · have := C.eq y z e2
        subst this
        rw [if_neg e1]
        exact h1
      · rw [if_neg e2] at h2
        have h3 := C.tr x y z h1 h2
        have h4 : c x z ≠ 0 := fun e => by
          have := C.eq x z e
          subst this
          have := C.anti x y
          omega
        rw [if_neg h4]
        exact h3
theorem lexC_ok (C : Cmpr c) : Cmpr (lexC c) := ⟨lexC_refl C, lexC_eq C, lexC_anti C, lexC_tr C, lexC_ran C⟩
end
/-! ## heads -/
def cpsI (s : Str) : List Int := s.cps.toList.map fun n : Nat => (n : Int)
def sC (a b : Str) : Int := lexC intC (cpsI a) (cpsI b)
theorem natlex : ∀ xs ys : List Nat, lexC intC (xs.map fun n : Nat => (n : Int)) (ys.map fun n : Nat => (n : Int)) = if xs = ys then 0 else if xs < ys then -1 else 1
  | [], [] => by simp [lexC]
  | [], y :: ys => by simp [lexC]
  | x :: xs, [] => by simp [lexC]
  | x :: xs, y :: ys => by
    rw [List.map_cons, List.map_cons, lexC_cons, natlex xs ys]
    unfold intC
    by_cases e : x = y
    · subst e
      rw [if_pos rfl, if_pos rfl]
      by_cases e2 : xs = ys
      · subst e2
        simp
      · have n2 : ¬ x :: xs = x :: ys := fun z => e2 (List.cons.inj z).2
        rw [if_neg e2, if_neg n2]
        by_cases l : xs < ys
        · rw [if_pos l, if_pos (List.cons_lt_cons_iff.mpr (.inr ⟨rfl, l⟩))]
        · rw [if_neg l, if_neg]
          intro z
          rcases List.cons_lt_cons_iff.mp z with z | z
          · omega
          · exact l z.2
    · have e1 : ¬ (x : Int) = (y : Int) := by omega
      have n2 : ¬ x :: xs = y :: ys := fun z => e (List.cons.inj z).1
      rw [if_neg e1, if_neg n2]
      by_cases l : (x : Int) < (y : Int)
      · rw [if_pos l, if_neg (by decide), if_pos (List.cons_lt_cons_iff.mpr (.inl (by omega)))]
      · rw [if_neg l, if_neg (by decide), if_neg]
        intro z
        rcases List.cons_lt_cons_iff.mp z with z | z
        · omega
        · exact e z.1
theorem sC_eq (a b : Str) : sC a b = if a = b then 0 else if a.cps.toList < b.cps.toList then -1 else 1 := by
  unfold sC cpsI
  rw [natlex]
  by_cases e : a = b
  · subst e
    rw [if_pos rfl, if_pos rfl]
  · rw [if_neg e, if_neg]
    intro z
    have := Array.toList_inj.mp z
    apply e
    cases a
    cases b
    simp only [Str.mk.injEq]
    exact this
def hcode : Tm → List Int
  | .var k => [0, k]
  | .int i => [1, i]
  | .atom s => 2 :: cpsI s
  | .comp f as => 3 :: (as.length : Int) :: cpsI f
abbrev hC : List Int → List Int → Int := lexC intC
theorem hC_ok : Cmpr hC := lexC_ok intC_ok
abbrev kC : List (List Int) → List (List Int) → Int := lexC hC
theorem kC_ok : Cmpr kC := lexC_ok hC_ok
def kcode (t : Tm) : List (List Int) := (pre t).map hcode
mutual
def tord : Tm → Tm → Int
  | .comp f as, .comp g bs => if intC as.length bs.length = 0 then (if sC f g = 0 then tords as bs else sC f g) else intC as.length bs.length
  | .var k, t => hC (hcode (.var k)) (hcode t)
  | .int k, t => hC (hcode (.int k)) (hcode t)
  | .atom k, t => hC (hcode (.atom k)) (hcode t)
  | .comp f as, t => hC (hcode (.comp f as)) (hcode t)
def tords : List Tm → List Tm → Int
  | a :: as, b :: bs => if tord a b = 0 then tords as bs else tord a b
  | _, _ => 0
end
theorem hC3 (n m : Int) (f g : Str) : hC (3 :: n :: cpsI f) (3 :: m :: cpsI g) = if intC n m = 0 then sC f g else intC n m := by
  show lexC intC _ _ = _
  rw [lexC_cons, if_pos (by decide), lexC_cons]
  rfl
theorem hC_tag {a b : Int} (h : a ≠ b) (xs ys : List Int) : hC (a :: xs) (b :: ys) ≠ 0 := by
  show lexC intC _ _ ≠ 0
  have : intC a b ≠ 0 := fun z => h (intC_ok.eq a b z)
  rw [lexC_cons, if_neg this]
  exact this
def rank : Tm → Int
  | .var _ => 0
  | .int _ => 1
  | .atom _ => 2
  | .comp _ _ => 3
theorem hC_rank {s t : Tm} (h : rank s ≠ rank t) : hC (hcode s) (hcode t) ≠ 0 := by
  cases s <;> cases t <;> first | exact absurd rfl h | exact hC_tag (by decide) _ _
mutual
theorem ord_pre : ∀ (s t : Tm) (xs ys : List (List Int)), kC ((pre s).map hcode ++ xs) ((pre t).map hcode ++ ys) = if tord s t = 0 then kC xs ys else tord s t
  | .var i, .var j, xs, ys => by
    show lexC hC (hcode (.var i) :: xs) (hcode (.var j) :: ys) = _
    rw [lexC_cons]
    rfl
  | .var i, .int j, xs, ys => by
    show lexC hC (hcode (.var i) :: xs) (hcode (.int j) :: ys) = _
    rw [lexC_cons]
    rfl
  | .var i, .atom j, xs, ys => by
    show lexC hC (hcode (.var i) :: xs) (hcode (.atom j) :: ys) = _
    rw [lexC_cons]
    rfl
  | .var i, .comp g bs, xs, ys => by
    rw [pre, pre]
    show lexC hC (hcode (.var i) :: xs) (hcode (.comp g bs) :: _) = _
    have h : hC (hcode (.var i)) (hcode (.comp g bs)) ≠ 0 := hC_rank (by simp [rank])
    rw [lexC_cons, if_neg h]
    show _ = if hC (hcode (.var i)) (hcode (.comp g bs)) = 0 then _ else _
    rw [if_neg h]
    rfl
  | .int i, .var j, xs, ys => by
    show lexC hC (hcode (.int i) :: xs) (hcode (.var j) :: ys) = _
    rw [lexC_cons]
    rfl
  | .int i, .int j, xs, ys => by
    show lexC hC (hcode (.int i) :: xs) (hcode (.int j) :: ys) = _
    rw [lexC_cons]
    rfl
  | .int i, .atom j, xs, ys => by
    show lexC hC (hcode (.int i) :: xs) (hcode (.atom j) :: ys) = _
    rw [lexC_cons]
    rfl
  | .int i, .comp g bs, xs, ys => by
    rw [pre, pre]
    show lexC hC (hcode (.int i) :: xs) (hcode (.comp g bs) :: _) = _
    have h : hC (hcode (.int i)) (hcode (.comp g bs)) ≠ 0 := hC_rank (by simp [rank])
    rw [lexC_cons, if_neg h]
    show _ = if hC (hcode (.int i)) (hcode (.comp g bs)) = 0 then _ else _
    rw [if_neg h]
    rfl
  | .atom i, .var j, xs, ys => by
    show lexC hC (hcode (.atom i) :: xs) (hcode (.var j) :: ys) = _
    rw [lexC_cons]
    rfl
  | .atom i, .int j, xs, ys => by
    show lexC hC (hcode (.atom i) :: xs) (hcode (.int j) :: ys) = _
    rw [lexC_cons]
    rfl
  | .atom i, .atom j, xs, ys => by
    show lexC hC (hcode (.atom i) :: xs) (hcode (.atom j) :: ys) = _
    rw [lexC_cons]
    rfl
  | .atom i, .comp g bs, xs, ys => by
    rw [pre, pre]
    show lexC hC (hcode (.atom i) :: xs) (hcode (.comp g bs) :: _) = _
    have h : hC (hcode (.atom i)) (hcode (.comp g bs)) ≠ 0 := hC_rank (by simp [rank])
    rw [lexC_cons, if_neg h]
    show _ = if hC (hcode (.atom i)) (hcode (.comp g bs)) = 0 then _ else _
    rw [if_neg h]
    rfl
  | .comp f as, .var j, xs, ys => by
    rw [pre, pre]
    show lexC hC (hcode (.comp f as) :: _) (hcode (.var j) :: _) = _
    have h : hC (hcode (.comp f as)) (hcode (.var j)) ≠ 0 := hC_rank (by simp [rank])
    rw [lexC_cons, if_neg h]
    show _ = if hC (hcode (.comp f as)) (hcode (.var j)) = 0 then _ else _
    rw [if_neg h]
    rfl
  | .comp f as, .int j, xs, ys => by
    rw [pre, pre]
    show lexC hC (hcode (.comp f as) :: _) (hcode (.int j) :: _) = _
    have h : hC (hcode (.comp f as)) (hcode (.int j)) ≠ 0 := hC_rank (by simp [rank])
    rw [lexC_cons, if_neg h]
    show _ = if hC (hcode (.comp f as)) (hcode (.int j)) = 0 then _ else _
    rw [if_neg h]
    rfl
  | .comp f as, .atom j, xs, ys => by
    rw [pre, pre]
    show lexC hC (hcode (.comp f as) :: _) (hcode (.atom j) :: _) = _
    have h : hC (hcode (.comp f as)) (hcode (.atom j)) ≠ 0 := hC_rank (by simp [rank])
    rw [lexC_cons, if_neg h]
    show _ = if hC (hcode (.comp f as)) (hcode (.atom j)) = 0 then _ else _
    rw [if_neg h]
    rfl
  | .comp f as, .comp g bs, xs, ys => by
    rw [pre, pre, tord]
    show lexC hC (hcode (.comp f as) :: ((pres as).map hcode ++ xs)) (hcode (.comp g bs) :: ((pres bs).map hcode ++ ys)) = _
    have h : hC (hcode (.comp f as)) (hcode (.comp g bs)) = _ := hC3 _ _ f g
    rw [lexC_cons, h]
    by_cases e1 : intC (as.length : Int) (bs.length : Int) = 0
    · rw [if_pos e1, if_pos e1]
      by_cases e2 : sC f g = 0
      · rw [if_pos e2, if_pos e2]
        have := intC_ok.eq _ _ e1
        exact ord_pres as bs xs ys (by omega)
      · rw [if_neg e2, if_neg e2, if_neg e2]
    · rw [if_neg e1, if_neg e1, if_neg e1, if_neg e1]
theorem ord_pres : ∀ (as bs : List Tm) (xs ys : List (List Int)), as.length = bs.length → kC ((pres as).map hcode ++ xs) ((pres bs).map hcode ++ ys) = if tords as bs = 0 then kC xs ys else tords as bs
  | [], [], xs, ys, _ => by
    show kC xs ys = if tords [] [] = 0 then _ else _
    rw [tords, if_pos rfl]
    intro a as b bs h
    cases h
  | [], _ :: _, _, _, h => by simp at h
  | _ :: _, [], _, _, h => by simp at h
  | a :: as, b :: bs, xs, ys, h => by
    rw [pres, pres, List.map_append, List.map_append, List.append_assoc, List.append_assoc, ord_pre a b, tords]
    by_cases e : tord a b = 0
    · rw [if_pos e, if_pos e]
      exact ord_pres as bs xs ys (by simpa using h)
    · rw [if_neg e, if_neg e, if_neg e]
end
theorem ord_key (s t : Tm) : kC (kcode s) (kcode t) = tord s t := by
  have h := ord_pre s t [] []
  rw [List.append_nil, List.append_nil] at h
  unfold kcode
  rw [h]
  split
  · next e => rw [e]; rfl
  · rfl
mutual
theorem hcode_eq : ∀ (s t : Tm), tord s t = 0 → s = t
  | .comp f as, .comp g bs, h => by
    rw [tord] at h
    by_cases e1 : intC (as.length : Int) (bs.length : Int) = 0
    · rw [if_pos e1] at h
      by_cases e2 : sC f g = 0
      · rw [if_pos e2] at h
        have hl := intC_ok.eq _ _ e1
        have hf : f = g := by
          rw [sC_eq] at e2
          split at e2
          · assumption
          · split at e2 <;> omega
        rw [hf, hcodes_eq as bs (by omega) h]
      · rw [if_neg e2] at h
        exact absurd h e2
    · rw [if_neg e1] at h
      exact absurd h e1
  | .var i, .var j, h => by
    have := hC_ok.eq _ _ (show hC [0, i] [0, j] = 0 from h)
    simp at this
    rw [this]
  | .int i, .int j, h => by
    have := hC_ok.eq _ _ (show hC [1, i] [1, j] = 0 from h)
    simp at this
    rw [this]
  | .atom i, .atom j, h => by
    have h2 : sC i j = 0 := by
      have h3 : lexC intC (2 :: cpsI i) (2 :: cpsI j) = 0 := h
      rw [lexC_cons, if_pos (by decide)] at h3
      exact h3
    rw [sC_eq] at h2
    split at h2
    · next e => rw [e]
    · split at h2 <;> omega
  | .var _, .int _, h => absurd h (hC_rank (by simp [rank]))
  | .var _, .atom _, h => absurd h (hC_rank (by simp [rank]))
  | .var _, .comp _ _, h => absurd h (hC_rank (by simp [rank]))
  | .int _, .var _, h => absurd h (hC_rank (by simp [rank]))
  | .int _, .atom _, h => absurd h (hC_rank (by simp [rank]))
  | .int _, .comp _ _, h => absurd h (hC_rank (by simp [rank]))
  | .atom _, .var _, h => absurd h (hC_rank (by simp [rank]))
  | .atom _, .int _, h => absurd h (hC_rank (by simp [rank]))
  | .atom _, .comp _ _, h => absurd h (hC_rank (by simp [rank]))
  | .comp _ _, .var _, h => absurd h (hC_rank (by simp [rank]))
  | .comp _ _, .int _, h => absurd h (hC_rank (by simp [rank]))
  | .comp _ _, .atom _, h => absurd h (hC_rank (by simp [rank]))
theorem hcodes_eq : ∀ (as bs : List Tm), as.length = bs.length → tords as bs = 0 → as = bs
  | [], [], _, _ => rfl
  | [], _ :: _, h, _ => by simp at h
  | _ :: _, [], h, _ => by simp at h
  | a :: as, b :: bs, h, h2 => by
    rw [tords] at h2
    by_cases e : tord a b = 0
    · rw [if_pos e] at h2
      rw [hcode_eq a b e, hcodes_eq as bs (by simpa using h) h2]
    · rw [if_neg e] at h2
      exact absurd h2 e
end
theorem tord_ok : Cmpr tord := by
  refine ⟨fun a => ?_, hcode_eq, fun a b => ?_, fun a b d h1 h2 => ?_, fun a b => ?_⟩
  · rw [← ord_key]
    exact kC_ok.refl _
  · rw [← ord_key, ← ord_key]
    exact kC_ok.anti _ _
  · rw [← ord_key] at *
    exact kC_ok.tr _ _ _ h1 h2
  · rw [← ord_key]
    exact kC_ok.ran _ _
/-- in order -/
def Rising (ts : List Tm) : Prop := ts.Pairwise fun a b => tord a b ≤ 0
theorem rising_uniq : ∀ {ts us : List Tm}, Rising ts → Rising us → ts.Perm us → ts = us
  | [], us, _, _, p => (List.Perm.nil_eq p)
  | t :: ts, [], _, _, p => absurd p.length_eq (by simp)
  | t :: ts, u :: us, h1, h2, p => by
    have a1 := List.pairwise_cons.mp h1
    have a2 := List.pairwise_cons.mp h2
    have e1 : tord t u ≤ 0 := by
      rcases List.mem_cons.mp (p.mem_iff.mpr (List.mem_cons_self (a := u) (l := us))) with e | e
      · rw [e, tord_ok.refl]
        exact Int.le_refl _
      · exact a1.1 u e
    have e2 : tord u t ≤ 0 := by
      rcases List.mem_cons.mp (p.mem_iff.mp (List.mem_cons_self (a := t) (l := ts))) with e | e
      · rw [e, tord_ok.refl]
        exact Int.le_refl _
      · exact a2.1 t e
    have e3 := tord_ok.anti t u
    have e : t = u := tord_ok.eq t u (by omega)
    subst e
    rw [rising_uniq a1.2 a2.2 p.cons_inv]
end Hm

set_option Elab.async false
set_option linter.all false
set_option maxRecDepth 100000
set_option maxHeartbeats 4000000
namespace Hm
open PySem PySem.SeqAt
open AutoSeq1 (wpAny_loadPart')
open MeetsSeq MeetsSeq2 MeetsSeq3 SeqRoads2
/-! ## x < y of two rows of values: what decides is the first place that differs; what stands behind it may be anything -/
inductive Dec (A : Around) (s : Shared) : List Value → List Value → Bool → Prop
  | both : Dec A s [] [] false
  | short (y : Value) (ys : List Value) : Dec A s [] (y :: ys) true
  | long (x : Value) (xs : List Value) : Dec A s (x :: xs) [] false
  | same {x y : Value} {xs ys : List Value} {b : Bool} : EqAt A s x y true → Dec A s xs ys b → Dec A s (x :: xs) (y :: ys) b
  | here {x y : Value} {xs ys : List Value} {b : Bool} : EqAt A s x y false → RcLt A s x y b → Dec A s (x :: xs) (y :: ys) b
def tupObj (its : Array Value) (n : Nat) (dd : Option Addr) (sl : Array (Option Value)) : Obj := { cls := .type "tuple", dict := dd, data := .seq its n, slots := sl }
theorem dec_tup (p q : Addr) (is js : Array Value) (n m : Nat) (d1 d2 : Option Addr) (s1 s2 : Array (Option Value)) (b : Bool) :
    Meets (Builtin.«tuple.__lt__» ⟨[.ref p, .ref q], []⟩) (fun A R s => s.heap.get? p = some (tupObj is n d1 s1) ∧ s.heap.get? q = some (tupObj js m d2 s2) ∧ Dec A.in1 s is.toList js.toList b ∧ R (.ok (.ret (.bool b))) s) :=
  .of_wp fun prog w A R s z => by
    have st := AutoSeq1.sub_tuple_tuple
    obtain ⟨heap, gens, drawn, toks, os⟩ := s
    obtain ⟨gp, gq, dc, fin⟩ := z
    unfold tupObj at gp gq
    wp_walk using wpAny_loadPart' gp, wpAny_loadPart' gq, wpAny_forIn_list _ (fun left bb s' => bb.1 = none ∧ s' = ⟨heap, gens, drawn, toks, os⟩ ∧ ∃ xs ys, left = xs.zip ys ∧ Dec A.in1 ⟨heap, gens, drawn, toks, os⟩ xs ys b ∧ xs.length + js.size = ys.length + is.size) _
    case turn =>
      rintro ⟨x, y⟩ left bb s' ⟨h0, rfl, xs, ys, hz, hd, hl⟩
      cases hd with
      | both => cases hz
      | short => cases hz
      | long => cases hz
      | @same x' y' xs ys _ he hr =>
        rw [List.zip_cons_cons] at hz
        injection hz with h1 h2
        injection h1 with h3 h4
        subst h3 h4 h2
        refine wpAny_bind (he prog w _ _ ?_)
        wp_walk
        exact ⟨rfl, rfl, xs, ys, rfl, hr, by simp only [List.length_cons] at hl; omega⟩
      | @here x' y' xs ys _ he hr =>
        rw [List.zip_cons_cons] at hz
        injection hz with h1 h2
        injection h1 with h3 h4
        subst h3 h4 h2
        have rc : ∀ {Q : Value → Shared → Prop} {E : Value → Shared → Prop}, Q (.bool b) ⟨heap, gens, drawn, toks, os⟩ → wpAny (model prog w) A.in1 (richCompare .Lt x y) Q E ⟨heap, gens, drawn, toks, os⟩ := fun z => hr prog w _ _ z
        refine wpAny_bind (he prog w _ _ ?_)
        wp_walk using rc
        exact ⟨_, rfl, fin⟩
    case fin =>
      rintro ⟨b1, b2⟩ s' ⟨h0, rfl, xs, ys, hz, hd, hl⟩
      simp only at h0
      subst h0
      wp_walk
      refine ⟨_, rfl, ?_⟩
      have e : decide (is.size < js.size) = b := by
        cases hd with
        | both => exact decide_eq_false (by simp only [List.length_nil] at hl; omega)
        | short => exact decide_eq_true (by simp only [List.length_nil, List.length_cons] at hl; omega)
        | long => exact decide_eq_false (by simp only [List.length_nil, List.length_cons] at hl; omega)
        | same => simp at hz
        | here => simp at hz
      simpa [Builtin.Tuple.tupleCompareSizes, e] using fin
    case h => exact ⟨rfl, rfl, is.toList, js.toList, rfl, dc, by simp; omega⟩
def lstObj (its : Array Value) (n : Nat) (dd : Option Addr) (sl : Array (Option Value)) : Obj := { cls := .type "list", dict := dd, data := .seq its n, slots := sl }
theorem dec_nil {A : Around} {s : Shared} {xs ys : List Value} {b : Bool} (h : Dec A s xs ys b) (e : xs = [] ∨ ys = []) : b = decide (xs.length < ys.length) := by
  cases h with
  | both => rfl
  | short => rfl
  | long => rfl
  | same => simp at e
  | here => simp at e
theorem dec_loop (p q : Addr) (is js : Array Value) (n m : Nat) (d1 d2 : Option Addr) (s1 s2 : Array (Option Value)) (b : Bool) (k : Nat) :
    ∀ i : Nat, is.size + js.size = k + 2 * i ∨ is.size + js.size = k + 2 * i + 1 → i ≤ is.size → i ≤ js.size → Meets (Builtin.«list.__eq__.loop» ⟨[.ref p, .ref q, rawInt i, rawInt 0], []⟩)
      (fun A R s => s.heap.get? p = some (lstObj is n d1 s1) ∧ s.heap.get? q = some (lstObj js m d2 s2) ∧ Dec A.in1 s (is.toList.drop i) (js.toList.drop i) b ∧ R (.ok (.ret (.bool b))) s) := by
  induction k using Nat.strongRecOn with
  | ind k ih =>
    intro i hk li lj prog w A R s z
    obtain ⟨heap, gens, drawn, toks, os⟩ := s
    obtain ⟨gp, gq, dc, fin⟩ := z
    unfold lstObj at gp gq
    by_cases ei : i < is.size
    · by_cases ej : i < js.size
      · have gi : is[((i : Nat) : Int).toNat]? = some is[i] := by simp [ei]
        have gj : js[((i : Nat) : Int).toNat]? = some js[i] := by simp [ej]
        have di : is.toList.drop i = is[i] :: is.toList.drop (i + 1) := by simp [List.drop_eq_getElem_cons, ei]
        have dj : js.toList.drop i = js[i] :: js.toList.drop (i + 1) := by simp [List.drop_eq_getElem_cons, ej]
        have nx : ((i : Int) + 1) = ((i + 1 : Nat) : Int) := by push_cast; rfl
        rw [di, dj] at dc
        wp_walk using wpAny_loadPart' gp, wpAny_loadPart' gq
        rw [gi, gj]
        cases dc with
        | same he hr =>
          refine wpAny_bind (he prog w _ _ ?_)
          wp_walk
          rw [nx]
          refine ⟨plainId_quiet plain_eq_loop _, codeAny_builtin entry_eq_loop ?_⟩
          rw [Around.under_plainId plain_eq_loop _]
          exact ih (k - 2) (by omega) (i + 1) (by omega) (by omega) (by omega) prog w A R _ ⟨gp, gq, hr, fin⟩
        | here he hr =>
          refine wpAny_bind (he prog w _ _ ?_)
          wp_walk using wpAny_loadPart' gp, wpAny_loadPart' gq
          rw [gi, gj]
          have rc : ∀ {Q : Value → Shared → Prop} {E : Value → Shared → Prop}, Q (.bool b) ⟨heap, gens, drawn, toks, os⟩ → wpAny (model prog w) A.in1 (richCompare .Lt is[i] js[i]) Q E ⟨heap, gens, drawn, toks, os⟩ := fun z => hr prog w _ _ z
          wp_walk using rc
          exact fin
      · have gi : is[((i : Nat) : Int).toNat]? = some is[i] := by simp [ei]
        have gj : js[((i : Nat) : Int).toNat]? = none := by simp; omega
        have e := dec_nil dc (.inr (by simp; omega))
        have e2 : decide (is.size < js.size) = b := by
          rw [e]
          simp
          omega
        wp_walk using wpAny_loadPart' gp, wpAny_loadPart' gq
        rw [gi, gj]
        wp_walk using wpAny_loadPart' gp, wpAny_loadPart' gq
        rw [← e2] at fin
        exact fin
    · have gi : is[((i : Nat) : Int).toNat]? = none := by simp; omega
      have e := dec_nil dc (.inl (by simp; omega))
      have e2 : decide (is.size < js.size) = b := by
        rw [e]
        simp
        omega
      wp_walk using wpAny_loadPart' gp, wpAny_loadPart' gq
      rw [gi]
      wp_walk using wpAny_loadPart' gp, wpAny_loadPart' gq
      rw [← e2] at fin
      exact fin
theorem dec_lst (p q : Addr) (is js : Array Value) (n m : Nat) (d1 d2 : Option Addr) (s1 s2 : Array (Option Value)) (b : Bool) :
    Meets (Builtin.«list.__lt__» ⟨[.ref p, .ref q], []⟩) (fun A R s => s.heap.get? p = some (lstObj is n d1 s1) ∧ s.heap.get? q = some (lstObj js m d2 s2) ∧ Dec A.in1 s is.toList js.toList b ∧ R (.ok (.ret (.bool b))) s) := by
  intro prog w A R s z
  have st := AutoSeq1.sub_list_list
  obtain ⟨heap, gens, drawn, toks, os⟩ := s
  obtain ⟨gp, gq, dc, fin⟩ := z
  unfold lstObj at gp gq
  wp_walk using wpAny_loadPart' gp, wpAny_loadPart' gq
  refine ⟨plainId_quiet plain_eq_loop _, codeAny_builtin entry_eq_loop ?_⟩
  rw [Around.under_plainId plain_eq_loop _]
  exact dec_loop p q is js n m d1 d2 s1 s2 b (is.size + js.size) 0 (.inl (by omega)) (Nat.zero_le _) (Nat.zero_le _) prog w A R _ ⟨gp, gq, dc, fin⟩
theorem obj_tup {h : Heap} {p : Addr} {is : Array Value} (hp : h.IsTuple p is) : ∃ n d sl, h.get? p = some (tupObj is n d sl) := by
  obtain ⟨⟨cls, dd, data, sl⟩, ho, hc, n, hd⟩ := hp
  simp only at hc hd
  subst hc hd
  exact ⟨n, dd, sl, ho⟩
theorem obj_lst {h : Heap} {p : Addr} {is : Array Value} (hp : h.IsList p is) : ∃ n d sl, h.get? p = some (lstObj is n d sl) := by
  obtain ⟨⟨cls, dd, data, sl⟩, ho, hc, n, hd⟩ := hp
  simp only at hc hd
  subst hc hd
  exact ⟨n, dd, sl, ho⟩
section
variable {A : Around} {s : Shared} {p q : Addr} {is js : Array Value} {b : Bool}
theorem rc_tup (hp : s.heap.IsTuple p is) (hq : s.heap.IsTuple q js) (hu : A.units < cLine) (h : Dec A.in1 s is.toList js.toList b) : RcLt A s (.ref p) (.ref q) b := fun prog w E Q z => by
  obtain ⟨n, d, sl, e⟩ := obj_tup hp
  obtain ⟨m, d', sl', e'⟩ := obj_tup hq
  exact richCompare_meets_room (op := .Lt) ⟨_, e, rfl⟩ ⟨_, e', rfl⟩ F.slot_tuple_lt F.entry_tuple_lt (F.args_tuple_lt_2 _ _) (dec_tup p q is js n m d d' sl sl' b) ⟨e, e', h, show Value.bool b ≠ Value.notImplemented ∧ Q (.bool b) s from ⟨(fun x => nomatch x), z⟩⟩ hu
theorem rc_lst (hp : s.heap.IsList p is) (hq : s.heap.IsList q js) (hu : A.units < cLine) (h : Dec A.in1 s is.toList js.toList b) : RcLt A s (.ref p) (.ref q) b := fun prog w E Q z => by
  obtain ⟨n, d, sl, e⟩ := obj_lst hp
  obtain ⟨m, d', sl', e'⟩ := obj_lst hq
  exact richCompare_meets_room (op := .Lt) ⟨_, e, rfl⟩ ⟨_, e', rfl⟩ F.slot_list_lt F.entry_list_lt (F.args_list_lt_2 _ _) (dec_lst p q is js n m d d' sl sl' b) ⟨e, e', h, show Value.bool b ≠ Value.notImplemented ∧ Q (.bool b) s from ⟨(fun x => nomatch x), z⟩⟩ hu
/-- the same, as sorting asks -/
theorem call_lst {prog : Program} {w : World} {E Q : Value → Shared → Prop} (hp : s.heap.IsList p is) (hq : s.heap.IsList q js) (h : Dec A.in1 s is.toList js.toList b) (z : Q (.bool b) s) : wpAny (model prog w) A (call (.builtin "list.__lt__") [.ref p, .ref q]) Q E s := by
  obtain ⟨n, d, sl, e⟩ := obj_lst hp
  obtain ⟨m, d', sl', e'⟩ := obj_lst hq
  exact call_meets F.slot_list_lt ⟨_, e, rfl⟩ F.entry_list_lt (F.args_list_lt_2 _ _) (dec_lst p q is js n m d d' sl sl' b) ⟨e, e', h, z⟩
end
end Hm

set_option Elab.async false
set_option linter.all false
set_option maxRecDepth 100000
set_option maxHeartbeats 4000000
namespace Hm
open PySem PySem.Spec PySem.SeqAt PySem.W
/-! ## keys: rows of heads, as data -/
def hdD : Tm → PyData
  | .var k => .tuple [.int 0, .int k]
  | .int i => .tuple [.int 1, .int i]
  | .atom s => .tuple [.int 2, .str s]
  | .comp f as => .tuple [.int 3, .int (as.length : Int), .str f]
theorem hd_depth (t : Tm) : (hdD t).depth = 1 := by cases t <;> rfl
theorem intC_beq (i j : Int) : (i == j) = decide (intC i j = 0) := by
  by_cases e : i = j
  · subst e
    rw [beq_self_eq_true, decide_eq_true (intC_ok.refl i)]
  · rw [decide_eq_false (fun z => e (intC_ok.eq i j z))]
    exact beq_false_of_ne e
theorem intC_lt (i j : Int) (h : intC i j ≠ 0) : decide (i < j) = decide (intC i j < 0) := by
  have e : i ≠ j := fun z => h (z ▸ intC_ok.refl i)
  unfold intC
  rw [if_neg e]
  by_cases l : i < j
  · rw [if_pos l, decide_eq_true l]
    rfl
  · rw [if_neg l, decide_eq_false l]
    rfl
theorem sC_beq (a b : Str) : (a == b) = decide (sC a b = 0) := by
  rw [sC_eq]
  by_cases e : a = b
  · subst e
    rw [if_pos rfl, beq_self_eq_true]
    rfl
  · rw [if_neg e, beq_false_of_ne e]
    split <;> rfl
theorem sC_lt (a b : Str) (h : sC a b ≠ 0) : decide (a.cps.toList < b.cps.toList) = decide (sC a b < 0) := by
  rw [sC_eq] at *
  by_cases e : a = b
  · rw [if_pos e] at h
    exact absurd rfl h
  · rw [if_neg e]
    by_cases l : a.cps.toList < b.cps.toList
    · rw [if_pos l, decide_eq_true l]
      rfl
    · rw [if_neg l, decide_eq_false l]
      rfl
theorem hC_tag' {a b : Int} (h : a ≠ b) (xs ys : List Int) : hC (a :: xs) (b :: ys) = intC a b := by
  show lexC intC _ _ = _
  have : intC a b ≠ 0 := fun z => h (intC_ok.eq a b z)
  rw [lexC_cons, if_neg this]
theorem hC_two (a i j : Int) : hC [a, i] [a, j] = intC i j := by
  show lexC intC _ _ = _
  rw [lexC_cons, if_pos (intC_ok.refl a), lexC_cons]
  split
  · next e => rw [e]; rfl
  · rfl
theorem hC_str (f g : Str) : hC (2 :: cpsI f) (2 :: cpsI g) = sC f g := by
  show lexC intC _ _ = _
  rw [lexC_cons, if_pos (intC_ok.refl 2)]
  rfl
section
variable {A : Around} {s : Shared}
theorem eq_int (i j : Int) (t u : Tok) : EqAt A s (.int i t) (.int j u) (decide (intC i j = 0)) := by
  rw [← intC_beq]
  exact EqAt.int_int i t j u
theorem lt_int (i j : Int) (t u : Tok) (h : intC i j ≠ 0) : RcLt A s (.int i t) (.int j u) (decide (intC i j < 0)) := by
  rw [← intC_lt i j h, ← dataLt_int]
  by_cases z : A.units < cLine
  · exact rcLt_alike (.int i) (.int j) A s _ _ _ _ (.int i t) (.int j u) rfl (by simp) (by show A.units + 0 < _; omega)
  · intro prog w E Q q
    rw [dataLt_int] at q
    exact PyProof.Rows.lt_int q
theorem eq_str (i j : Str) (t u : Tok) : EqAt A s (.str i t) (.str j u) (decide (sC i j = 0)) := by
  rw [← sC_beq]
  exact EqAt.str_str i t j u
theorem lt_str (i j : Str) (t u : Tok) (hu : A.units < cLine) (h : sC i j ≠ 0) : RcLt A s (.str i t) (.str j u) (decide (sC i j < 0)) := by
  rw [← sC_lt i j h, ← dataLt_str]
  exact rcLt_alike (.str i) (.str j) A s _ _ _ _ (.str i t) (.str j u) rfl (by simp) (by show A.units + 0 < _; omega)
theorem dec_int1 (i j : Int) (t u : Tok) {xs ys : List Value} {b : Bool} (hs : intC i j = 0 → Dec A s xs ys b) (hn : intC i j ≠ 0 → b = decide (intC i j < 0)) : Dec A s (.int i t :: xs) (.int j u :: ys) b := by
  have e := eq_int (A := A) (s := s) i j t u
  by_cases z : intC i j = 0
  · rw [decide_eq_true z] at e
    exact .same e (hs z)
  · rw [decide_eq_false z] at e
    rw [hn z]
    exact .here e (lt_int i j t u z)
theorem dec_str1 (i j : Str) (t u : Tok) {xs ys : List Value} {b : Bool} (hu : A.units < cLine) (hs : sC i j = 0 → Dec A s xs ys b) (hn : sC i j ≠ 0 → b = decide (sC i j < 0)) : Dec A s (.str i t :: xs) (.str j u :: ys) b := by
  have e := eq_str (A := A) (s := s) i j t u
  by_cases z : sC i j = 0
  · rw [decide_eq_true z] at e
    exact .same e (hs z)
  · rw [decide_eq_false z] at e
    rw [hn z]
    exact .here e (lt_str i j t u hu z)
/-- the first sign of a head and what stands behind it -/
def hdR : Tm → List PyData
  | .var k => [.int k]
  | .int i => [.int i]
  | .atom s => [.str s]
  | .comp f as => [.int (as.length : Int), .str f]
theorem hd_row (t : Tm) : hdD t = .tuple (.int (rank t) :: hdR t) := by cases t <;> rfl
theorem hcode_row (t : Tm) : ∃ r, hcode t = rank t :: r := by cases t <;> exact ⟨_, rfl⟩
theorem head_dec {t t' : Tm} {vs us : List Value} {as bs : List Addr} (hu : A.units < cLine) (r1 : ReadsAll s.heap vs (.int (rank t) :: hdR t) as) (r2 : ReadsAll s.heap us (.int (rank t') :: hdR t') bs) : Dec A s vs us (decide (hC (hcode t) (hcode t') < 0)) := by
  cases r1 with
  | cons q1 r1 =>
    cases r2 with
    | cons q2 r2 =>
      cases q1
      cases q2
      by_cases e : rank t = rank t'
      · cases t <;> cases t' <;> first | (simp [rank] at e; done) | skip
        · cases r1 with
          | cons a1 b1 =>
            cases r2 with
            | cons a2 b2 =>
              cases a1; cases a2; cases b1; cases b2
              show Dec A s _ _ (decide (hC [0, _] [0, _] < 0))
              rw [hC_two]
              exact dec_int1 _ _ _ _ (fun _ => dec_int1 _ _ _ _ (fun z => by rw [z]; exact .both) fun _ => rfl) fun z => absurd (intC_ok.refl 0) z
        · cases r1 with
          | cons a1 b1 =>
            cases r2 with
            | cons a2 b2 =>
              cases a1; cases a2; cases b1; cases b2
              show Dec A s _ _ (decide (hC [1, _] [1, _] < 0))
              rw [hC_two]
              exact dec_int1 _ _ _ _ (fun _ => dec_int1 _ _ _ _ (fun z => by rw [z]; exact .both) fun _ => rfl) fun z => absurd (intC_ok.refl 1) z
        · cases r1 with
          | cons a1 b1 =>
            cases r2 with
            | cons a2 b2 =>
              cases a1; cases a2; cases b1; cases b2
              show Dec A s _ _ (decide (hC (2 :: cpsI _) (2 :: cpsI _) < 0))
              rw [hC_str]
              exact dec_int1 _ _ _ _ (fun _ => dec_str1 _ _ _ _ hu (fun z => by rw [z]; exact .both) fun _ => rfl) fun z => absurd (intC_ok.refl 2) z
        · cases r1 with
          | cons a1 b1 =>
            cases r2 with
            | cons a2 b2 =>
              cases b1 with
              | cons c1 d1 =>
                cases b2 with
                | cons c2 d2 =>
                  cases a1; cases a2; cases c1; cases c2; cases d1; cases d2
                  show Dec A s _ _ (decide (hC (3 :: _ :: cpsI _) (3 :: _ :: cpsI _) < 0))
                  rw [hC3]
                  refine dec_int1 _ _ _ _ (fun _ => dec_int1 _ _ _ _ (fun z => ?_) fun z => by rw [if_neg z]) fun z => absurd (intC_ok.refl 3) z
                  rw [if_pos z]
                  exact dec_str1 _ _ _ _ hu (fun z => by rw [z]; exact .both) fun _ => rfl
      · obtain ⟨x, e1⟩ := hcode_row t
        obtain ⟨y, e2⟩ := hcode_row t'
        rw [e1, e2, hC_tag' e]
        exact dec_int1 _ _ _ _ (fun z => absurd (intC_ok.eq _ _ z) e) fun _ => rfl
theorem hd_lay (t : Tm) (h : Ok t) : (hdD t).canLay0 = true := by
  have hs : ∀ z : Str, AtomOk z → (PyData.str z).canLay0 = true := fun z h => by
    show (z.cps.all fun c => decide (c < 0x110000)) = true
    rw [← Array.all_toList, List.all_eq_true]
    intro c hc
    have := h.2 c hc
    exact decide_eq_true (by omega)
  cases t with
  | var k => rfl
  | int i => rfl
  | atom z =>
    unfold Ok at h
    show ((PyData.int 2).canLay0 && ((PyData.str z).canLay0 && true)) = true
    rw [hs z h]
    rfl
  | comp f as =>
    unfold Ok at h
    show ((PyData.int 3).canLay0 && ((PyData.int (as.length : Int)).canLay0 && ((PyData.str f).canLay0 && true))) = true
    rw [hs f h.1]
    rfl
theorem eqv_hd (t t' : Tm) : PyData.eqv (hdD t) (hdD t') = decide (hC (hcode t) (hcode t') = 0) := by
  by_cases e : rank t = rank t'
  · cases t <;> cases t' <;> first | (simp [rank] at e; done) | skip
    · show ((0 == 0 : Bool) && ((_ == _ : Bool) && true)) = decide (hC [0, _] [0, _] = 0)
      rw [hC_two, intC_beq, Bool.and_true]
      rfl
    · show (((1 : Int) == 1 : Bool) && ((_ == _ : Bool) && true)) = decide (hC [1, _] [1, _] = 0)
      rw [hC_two, ← intC_beq, Bool.and_true]
      rfl
    · show (((2 : Int) == 2 : Bool) && ((_ == _ : Bool) && true)) = decide (hC (2 :: cpsI _) (2 :: cpsI _) = 0)
      rw [hC_str, sC_beq, Bool.and_true]
      rfl
    · next f as g bs =>
      show (((3 : Int) == 3 : Bool) && (((as.length : Int) == (bs.length : Int) : Bool) && ((f == g : Bool) && true))) = decide (hC (3 :: (as.length : Int) :: cpsI f) (3 :: (bs.length : Int) :: cpsI g) = 0)
      rw [hC3, intC_beq (as.length : Int), sC_beq, Bool.and_true]
      by_cases z : intC (as.length : Int) (bs.length : Int) = 0
      · rw [if_pos z, decide_eq_true z]
        rfl
      · rw [if_neg z, decide_eq_false z]
        rfl
  · obtain ⟨x, e1⟩ := hcode_row t
    obtain ⟨y, e2⟩ := hcode_row t'
    rw [e1, e2, hC_tag' e, hd_row, hd_row]
    have z : intC (rank t) (rank t') ≠ 0 := fun z => e (intC_ok.eq _ _ z)
    rw [decide_eq_false z]
    show ((rank t == rank t' : Bool) && _) = false
    rw [beq_false_of_ne e]
    rfl
theorem head_rc {t t' : Tm} {v u : Value} {as bs : List Addr} (hu : A.units + 1 < cLine) (r1 : Reads s.heap v (hdD t) as) (r2 : Reads s.heap u (hdD t') bs) : RcLt A s v u (decide (hC (hcode t) (hcode t') < 0)) := by
  rw [hd_row] at r1 r2
  cases r1 with
  | @tuple p o vs n _ _ h1 h2 h3 h4 =>
    cases r2 with
    | @tuple q o' us n' _ _ k1 k2 k3 k4 =>
      exact rc_tup ⟨o, h1, h2, n, h3⟩ ⟨o', k1, k2, n', k3⟩ (by omega) (head_dec (A := A.in1) hu h4 k4)
theorem heads_dec (hu : A.units + 2 < cLine) : ∀ (ts us : List Tm) (vs ws : List Value) (as bs : List Addr), Oks ts → Oks us → ReadsAll s.heap vs (ts.map hdD) as → ReadsAll s.heap ws (us.map hdD) bs → Dec A s vs ws (decide (kC (ts.map hcode) (us.map hcode) < 0))
  | [], [], _, _, _, _, _, _, r1, r2 => by
    cases r1
    cases r2
    exact .both
  | [], _ :: _, _, _, _, _, _, _, r1, r2 => by
    cases r1
    cases r2 with
    | cons a b => exact .short _ _
  | _ :: _, [], _, _, _, _, _, _, r1, r2 => by
    cases r2
    cases r1 with
    | cons a b => exact .long _ _
  | t :: ts, u :: us, _, _, _, _, o1, o2, r1, r2 => by
    rw [oks_cons] at o1 o2
    cases r1 with
    | cons a1 b1 =>
      cases r2 with
      | cons a2 b2 =>
        have e := eqAt_reads _ _ A s _ _ _ _ a1 a2 (hd_lay t o1.1) (hd_lay u o2.1) (by rw [hd_depth, hd_depth]; show A.units + 1 < _; omega)
        rw [eqv_hd] at e
        rw [List.map_cons, List.map_cons]
        show Dec A s _ _ (decide (lexC hC _ _ < 0))
        rw [lexC_cons]
        by_cases z : hC (hcode t) (hcode u) = 0
        · rw [decide_eq_true z] at e
          rw [if_pos z]
          exact .same e (heads_dec hu ts us _ _ _ _ o1.2 o2.2 b1 b2)
        · rw [decide_eq_false z] at e
          rw [if_neg z]
          exact .here e (head_rc (by omega) a1 a2)
/-- two keys -/
theorem keys_rc {ts us : List Tm} {v w : Value} {as bs : List Addr} (hu : A.units + 3 < cLine) (o1 : Oks ts) (o2 : Oks us) (r1 : Reads s.heap v (.list (ts.map hdD)) as) (r2 : Reads s.heap w (.list (us.map hdD)) bs) : RcLt A s v w (decide (kC (ts.map hcode) (us.map hcode) < 0)) := by
  cases r1 with
  | @list p o vs n _ _ h1 h2 h3 h4 =>
    cases r2 with
    | @list q o' us n' _ _ k1 k2 k3 k4 => exact rc_lst ⟨o, h1, h2, n, h3⟩ ⟨o', k1, k2, n', k3⟩ (by omega) (heads_dec (A := A.in1) (by show A.units + 1 + 2 < _; omega) _ _ _ _ _ _ o1 o2 h4 k4)
end
end Hm

set_option Elab.async false
set_option linter.all false
set_option maxRecDepth 100000
set_option maxHeartbeats 4000000
namespace Hm
open PySem PySem.Spec PySem.W PyProof.Rows SrtO
section
variable {prog : Program} {w : World} {A : Around} {E : Value → Shared → Prop} {s : Shared}
/-- the sorting itself, where the keys are all there -/
theorem srt_end {a kS : Addr} {its keys : Array Value} {e e1 : Nat} {P : Keyed → Prop} {lt : Keyed → Keyed → Bool} {R : PySem.Fin → Shared → Prop} (O : Swo lt) (hka : kS ≠ a) (hz : its.size ≤ sizeLine) (hkz : keys.size = its.size)
    (nk : s.heap.get? kS = some (seqObj "list" keys e)) (na : s.heap.get? a = some (seqObj "list" #[] e1)) (T : 2 ≤ keys.size → Cmp prog w A s oneType' P lt) (hP : AllL P (keys.zip its).toList)
    (hty : ∀ v ∈ keys.toList, Looks (model prog w) s.heap (typeOf v) (Value.type "list"))
    (h : ∀ out : List Keyed, Srtd lt out → Stb lt out (keys.zip its).toList → R (.done (.ret .none)) { s with heap := (s.heap.update kS (Obj.mapSeq fun _ => #[])).update a (Obj.mapSeq fun _ => (out.map (·.2)).toArray) }) :
    wpAny (model prog w) A (ksk_end a false its e1 (.ref kS) keys) R E s := by
  have pz : (keys.zip its).size = its.size := by rw [Array.size_zip, hkz, Nat.min_self]
  have last : ∀ st : SortSt, failedOf st = none → Srtd lt (arrOf st).toList → Stb lt (arrOf st).toList (keys.zip its).toList → wpAny (model prog w) A (ksk_tail a false e1 (.ref kS) st) R E s := by
    intro st hf h1 h2
    have sz : (arrOf st).size = its.size := by
      have := h2.len
      rw [Array.length_toList, Array.length_toList, pz] at this
      exact this
    have na1 : (s.heap.update kS (Obj.mapSeq fun _ => (#[] : Array Value))).get? a = some (seqObj "list" #[] e1) := (Heap.get?_update_ne _ _ _ _ hka.symm).trans na
    unfold ksk_tail
    try dsimp only
    refine wpAny_bind (listUpdate_at nk rfl ?_ (by rw [hkz]; exact hz) (Nat.zero_le _))
    refine wpAny_bind (wpAny_letGo ?_)
    refine wpAny_bind (seqEpoch_at na1 rfl ?_)
    refine wpAny_bind (listUpdate_at na1 rfl ?_ (Nat.zero_le _) (by show ((arrOf st).map _).size ≤ _; rw [Array.size_map, sz]; omega))
    rw [hf]
    simp only [bne_self_eq_false, Bool.false_eq_true, if_false]
    have r := h _ h1 h2
    rw [← Array.toList_map, Array.toArray_toList] at r
    exact wpAny_pure r
  unfold ksk_end
  try dsimp only
  simp only [Bool.false_eq_true, if_false]
  by_cases h2 : its.size < 2
  · rw [if_pos h2, if_pos h2]
    refine wpAny_bind (wpAny_pure ?_)
    rw [StateT.run_pure]
    refine wpAny_bind (wpAny_pure ?_)
    try dsimp only
    refine last (SortSt.mk' general' (keys.zip its) #[] 7 none) rfl ?_ (Stb.refl _)
    show Srtd lt (keys.zip its).toList
    have l1 : (keys.zip its).toList.length < 2 := by rw [Array.length_toList, pz]; exact h2
    match (keys.zip its).toList, l1 with
    | [], _ => exact List.Pairwise.nil
    | [x], _ => exact List.pairwise_singleton _ _
    | x :: y :: r, l1 => exact absurd l1 (by simp)
  · rw [if_neg h2, if_neg h2]
    have kk : keyKind' keys = keyKind' keys.toList.toArray := by rw [Array.toArray_toList]
    rw [kk]
    refine wpAny_bind (kas_kind (T := Value.type "list") (by rw [Array.length_toList]; omega) hty (by rfl) (by rfl) ?_)
    refine wpAny_bind (wpAny_mono (wpS_sortO (st0 := SortSt.mk' oneType' (keys.zip its) #[] 7 none) (Q := fun _ st' => Srtd lt (arrOf st').toList ∧ Stb lt (arrOf st').toList (keys.zip its).toList ∧ failedOf st' = none) O (T (by omega)) rfl hP rfl rfl fun st' a1 a2 a3 => ⟨a1, a2, a3⟩) ?_ fun _ _ q => q)
    rintro ⟨⟨⟩, st'⟩ s' ⟨rfl, p1, p2, p3⟩
    try dsimp only
    exact last st' p3 p1 p2
end
/-! ## a call of the program's own function by sorted's own -/
section
open L2 HT
open Evl (Ex)
variable {X : Cx} {pins : List (Addr × Obj)} {σ : L2.St} {H : Hp} {s : Shared}
theorem run2 {k : Nat} {f : Addr} {fd : FuncData} {ps : List Str} {sp : Sp} {us : List Value} {vs : List V} {Q : VK} (F : FnOk X.prog X.w X.K X.mg X.base CX0 k f fd ps sp) (hr : Room k X.A.in1.in1) (hb : Binds X.K fd ps []) (I : Inv X pins σ H s) (r : Vals vs us) (h : sp vs H Q E0) :
    wpAny (model X.prog X.w) X.A.in1.in1 (call (.ref f) us) (EP X pins σ Q) (fun _ _ => False) s := by
  have hl : us.length = ps.length := r.length.symm.trans (F.len _ _ _ _ h)
  have hb' := hb s us I.kIn (by rw [List.append_nil]; exact hl)
  rw [List.append_nil] at hb'
  refine wpAny_call (codeAny_mono (F.run X.A.in1.in1 X.stack s H ⟨us, []⟩ us vs Q E0 hr I.env0.in1.in1 hb' r h) fun r s' hq => ?_)
  match r, hq with
  | .error e, hq => exact hq.elim
  | .ok (.ret u), hq => exact I.after hq
  | .ok .next, hq => exact hq.elim
  | .ok .brk, hq => exact hq.elim
  | .ok .cont, hq => exact hq.elim
def hdV : Tm → List V
  | .var k => [.int 0, .int k]
  | .int i => [.int 1, .int i]
  | .atom s => [.int 2, .str s]
  | .comp f as => [.int 3, .int (as.length : Int), .str f]
def HdAt (K : PySem.W.Frag) (H : Hp) (w : V) (t : Tm) : Prop := ∃ q, w = .ref q ∧ SqT K H q (hdV t)
def KeyL (K : PySem.W.Frag) (H : Hp) (p : Addr) (ts : List Tm) : Prop := ∃ ws, H p = some (.lst ws) ∧ PySem.Paired (HdAt K H) ws ts
theorem KeyL.ex {K : PySem.W.Frag} {H H' : Hp} {p : Addr} {ts : List Tm} (h : KeyL K H p ts) (e : Ex H H') : KeyL K H' p ts := by
  obtain ⟨ws, h1, h2⟩ := h
  exact ⟨ws, e _ _ h1, Paired.mapP h2 fun w t ⟨q, a, b⟩ => ⟨q, a, Evl.ex_t e b⟩⟩
theorem KeyL.put {K : PySem.W.Frag} {H : Hp} {p l : Addr} {xs : List V} {o : HO} {ts : List Tm} (h : KeyL K H p ts) (hl : H l = some (.lst xs)) (n : p ≠ l) : KeyL K (upd H l o) p ts := by
  obtain ⟨ws, h1, h2⟩ := h
  exact ⟨ws, by rw [upd_ne n]; exact h1, Paired.mapP h2 fun w t ⟨q, a, b⟩ => ⟨q, a, Tups.lst hl _ _ b⟩⟩
theorem dp_hd {K : PySem.W.Frag} {H : Hp} {w : V} {t : Tm} (h : HdAt K H w t) : Dp K H w (hdD t) := by
  obtain ⟨q, rfl, h⟩ := h
  cases t with
  | var k => exact .tup h (.cons (.int 0) (.cons (.int k) .nil))
  | int k => exact .tup h (.cons (.int 1) (.cons (.int k) .nil))
  | atom k => exact .tup h (.cons (.int 2) (.cons (.str k) .nil))
  | comp f as => exact .tup h (.cons (.int 3) (.cons (.int _) (.cons (.str f) .nil)))
theorem dp_hds {K : PySem.W.Frag} {H : Hp} : ∀ {ws : List V} {ts : List Tm}, PySem.Paired (HdAt K H) ws ts → DpAll K H ws (ts.map hdD)
  | _, _, .nil => .nil
  | _, _, .cons h r => .cons (dp_hd h) (dp_hds r)
theorem KeyL.dp {K : PySem.W.Frag} {H : Hp} {p : Addr} {ts : List Tm} (h : KeyL K H p ts) : Dp K H (.ref p) (.list (ts.map hdD)) := by
  obtain ⟨ws, h1, h2⟩ := h
  exact .lst (SqL.of h1) (dp_hds h2)
/-- what a key is of: where it stands, the term's value in the hand layer and in the heap, the term -/
structure Ent where
  p : Addr
  v : V
  u : Value
  t : Tm
theorem perm_back {α β : Type} {f : α → β} {l m : List β} (h : l.Perm m) : ∀ Z : List α, m = Z.map f → ∃ Z' : List α, Z'.Perm Z ∧ l = Z'.map f := by
  induction h with
  | nil => exact fun Z e => ⟨Z, .refl _, e⟩
  | cons x _ ih =>
    intro Z e
    match Z, e with
    | z :: Z, e =>
      rw [List.map_cons] at e
      injection e with e1 e2
      obtain ⟨Z', h1, h2⟩ := ih Z e2
      exact ⟨z :: Z', h1.cons z, by rw [List.map_cons, e1, h2]⟩
    | [], e => cases e
  | swap x y l =>
    intro Z e
    match Z, e with
    | z :: z' :: Z, e =>
      rw [List.map_cons, List.map_cons] at e
      injection e with e1 e2
      injection e2 with e2 e3
      exact ⟨z' :: z :: Z, .swap _ _ _, by rw [List.map_cons, List.map_cons, e1, e2, e3]⟩
    | [z], e => simp at e
    | [], e => cases e
  | trans _ _ ih1 ih2 =>
    intro Z e
    obtain ⟨Z1, a1, b1⟩ := ih2 Z e
    obtain ⟨Z2, a2, b2⟩ := ih1 Z1 b1
    exact ⟨Z2, a2.trans a1, b2⟩
/-- the code of a key's value -/
def codeOf (Z : List Ent) : Value → List (List Int)
  | .ref p => match Z.find? (fun z => z.p == p) with
    | some z => kcode z.t
    | none => []
  | _ => []
theorem code_at {z : Ent} : ∀ {Z : List Ent}, (Z.map Ent.p).Nodup → z ∈ Z → codeOf Z (.ref z.p) = kcode z.t
  | [], _, h => by cases h
  | y :: Z, hn, h => by
    rw [List.map_cons, List.nodup_cons] at hn
    show (match List.find? (fun x : Ent => x.p == z.p) (y :: Z) with
      | some x => kcode x.t
      | none => []) = kcode z.t
    rw [List.find?_cons]
    rcases List.mem_cons.mp h with rfl | h
    · rw [beq_self_eq_true]
    · have ne : y.p ≠ z.p := fun e => hn.1 (by rw [e]; exact List.mem_map_of_mem h)
      rw [beq_false_of_ne ne]
      exact code_at hn.2 h
def ltK (Z : List Ent) (x y : Keyed) : Bool := decide (kC (codeOf Z x.1) (codeOf Z y.1) < 0)
theorem ltK_swo (Z : List Ent) : Swo (ltK Z) := by
  refine ⟨fun x y h => ?_, fun x y z h1 h2 => ?_⟩
  · have := of_decide_eq_true h
    have a := kC_ok.anti (codeOf Z x.1) (codeOf Z y.1)
    exact decide_eq_false (by omega)
  · have h1 := of_decide_eq_false h1
    have h2 := of_decide_eq_false h2
    have a1 := kC_ok.anti (codeOf Z x.1) (codeOf Z y.1)
    have a2 := kC_ok.anti (codeOf Z y.1) (codeOf Z z.1)
    have a3 := kC_ok.anti (codeOf Z x.1) (codeOf Z z.1)
    have t := kC_ok.tr _ _ _ (show kC (codeOf Z x.1) (codeOf Z y.1) ≤ 0 by omega) (show kC (codeOf Z y.1) (codeOf Z z.1) ≤ 0 by omega)
    exact decide_eq_false (by omega)
/-- an address that no one of this frame knows yet -/
structure Fre (X : Cx) (pins : List (Addr × Obj)) (L : Addr) : Prop where
  far : X.s_0.heap.objs.size ≤ L
  loc : L ≠ X.env.locals
  cel : ∀ x c, X.env.cells.lookup x = some c → c ≠ L
  pin : ∀ p ∈ X.pn ++ pins, p.1 ≠ L
  nfs : L ∉ X.fs
theorem Fre.of (I : Inv X pins σ H s) {L : Addr} (h : s.heap.objs.size ≤ L) : Fre X pins L := by
  have lt : ∀ b o, s.heap.get? b = some o → b ≠ L := fun b o e z => by
    subst z
    exact absurd (Heap.lt_size e) (Nat.not_lt.mpr h)
  refine ⟨Nat.le_trans I.sz h, fun z => ?_, fun x c e => ?_, fun p hp => lt _ _ (I.pin p hp).1, I.nofs h⟩
  · subst z
    exact absurd I.lt (Nat.not_lt.mpr h)
  · obtain ⟨v, o, ho, _⟩ := I.cell x c e
    exact lt _ _ ho
/-- such an object is changed, and is told in the hand layer from now on, or not -/
theorem adopt {L : Addr} {o : HO} {h' : Heap} (I : Inv X pins σ H s) (f : Fre X pins L) (hn : H L = none) (k : ∀ b u, b ≠ L → s.heap.get? b = some u → h'.get? b = some u) (new : ObjOk X.prog X.w (upd H L o) h' L o) : Inv X pins σ (upd H L o) { s with heap := h' } := by
  have ne : ∀ b u, H b = some u → b ≠ L := fun b u e z => by rw [z, hn] at e; cases e
  refine I.step (t' := s.toks) (g' := s.gens) (d' := s.drawn) (ch := [L]) (fun b hb => ?_) (fun b o _ _ hc e _ => k b o (fun z => hc (by simp [z])) e) (fun b o _ _ hc e _ => ⟨o.slots, k b o (fun z => hc (by simp [z])) e⟩) (fun b o hc e n => by rw [upd_ne (fun z => hc (by simp [z]))]; exact n)
    (fun b o hc e => ⟨o, k b o (fun z => hc (by simp [z])) e⟩) (fun b xs e => by rw [upd_ne (ne b _ e)]; exact e) (fun b o u e => by rw [upd_ne (ne b _ e)]; exact e) (fun b ps e => ⟨#[], by rw [upd_ne (ne b _ e), e]; simp⟩) (fun m hm => ?_) (fun b u e => ?_) I.bare
  · have e : b = L := by simpa using hb
    subst e
    exact ⟨.inr f.far, f.loc, f.cel, f.pin⟩
  · obtain ⟨o, es, ep, ho, r⟩ := hm
    exact ⟨o, es, ep, k _ o (Ne.symm f.loc) ho, r⟩
  · by_cases hb : b = L
    · subst hb
      rw [upd_same] at e
      cases e
      exact new
    · rw [upd_ne hb] at e
      refine (I.hok b u e).stay (fun c v hc q => k c v ?_ q) (fun c q => by rw [upd_ne (ne c _ q)]; exact q) fun c xs q => by rw [upd_ne (ne c _ q)]; exact q
      rcases hc with z | z
      · rw [z]; exact hb
      · exact ne c _ z
theorem touched {L : Addr} {h' : Heap} (I : Inv X pins σ H s) (f : Fre X pins L) (hn : H L = none) (k : ∀ b u, b ≠ L → s.heap.get? b = some u → h'.get? b = some u) : Inv X pins σ H { s with heap := h' } :=
  I.turned (t' := s.toks) (fun b o hb e => k b o hb e) hn f.loc (.inr f.far) f.cel f.pin
theorem pinned {L : Addr} {o : Obj} (I : Inv X pins σ H s) (f : Fre X pins L) (hn : H L = none) (h : s.heap.get? L = some o) (nc : ∀ v, o.data ≠ .cell v) : Inv X ((L, o) :: pins) σ H s :=
  I.pins_of fun p hp => by
    rcases List.mem_cons.mp hp with rfl | hp
    · exact ⟨h, hn, f.loc, f.nfs, nc⟩
    · exact I.pin p (List.mem_append_right _ hp)
theorem unpinned {L : Addr} {o : Obj} (I : Inv X ((L, o) :: pins) σ H s) : Inv X pins σ H s := I.pins_of fun p hp => I.pin p (List.mem_append_right _ (List.mem_cons_of_mem _ hp))
theorem vals_at : ∀ {xs : List V} {us : List Value}, Vals xs us → ∀ {j : Nat} {u : Value}, us[j]? = some u → ∃ x, xs[j]? = some x ∧ RelV x u
  | _, _, .nil, j, u, h => by simp at h
  | _, _, .cons h r, 0, u, e => ⟨_, rfl, by
      have := Option.some.inj e
      subst this
      exact h⟩
  | _, _, .cons h r, j + 1, u, e => vals_at r (by simpa using e)
theorem vals_refs : ∀ {Z : List Ent} {us : List Value}, Vals (Z.map fun z => V.ref z.p) us → us = Z.map fun z => Value.ref z.p
  | [], _, h => by cases h; rfl
  | z :: Z, _, h => by
    cases h with
    | cons h r =>
      rw [List.map_cons, ← vals_refs r]
      exact congrArg (· :: _) h
theorem zip_ents : ∀ Z : List Ent, (Z.map fun z => Value.ref z.p).zip (Z.map Ent.u) = Z.map fun z => (Value.ref z.p, z.u)
  | [] => rfl
  | z :: Z => by
    rw [List.map_cons, List.map_cons, List.map_cons, List.zip_cons_cons, zip_ents Z]
theorem vals_ents : ∀ {Z : List Ent}, (∀ z ∈ Z, RelV z.v z.u) → Vals (Z.map Ent.v) (Z.map Ent.u)
  | [], _ => .nil
  | z :: Z, h => .cons (h z List.mem_cons_self) (vals_ents fun y hy => h y (List.mem_cons_of_mem _ hy))
theorem reps_ents {K : PySem.W.Frag} : ∀ {Z : List Ent}, (∀ z ∈ Z, Rep K H z.t z.v) → Reps K H (Z.map Ent.t) (Z.map Ent.v)
  | [], _ => Reps.nil
  | z :: Z, h => Reps.cons (h z List.mem_cons_self) (reps_ents fun y hy => h y (List.mem_cons_of_mem _ hy))
def spKey (K : PySem.W.Frag) : Sp := fun vs H Q _ => ∃ v t, vs = [v] ∧ Rep K H t v ∧ Ok t ∧ size t ≤ 50000 ∧ ∀ p H', H p = none → Ex H H' → KeyL K H' p (pre t) → Q (.ref p) H'
def rSrt (K : PySem.W.Frag) (f : Addr) : List V → List V → Hp → VK → Prop := fun vs zs H Q => ∃ a xs ts, vs = [V.ref a] ∧ zs = [V.ref f] ∧ (SqL K H a xs ∨ SqT K H a xs) ∧ Reps K H ts xs ∧ Oks ts ∧ (∀ t ∈ ts, size t ≤ 50000) ∧ xs.length ≤ 1000 ∧
  ∀ p ys us H', H p = none → Ex H H' → H' p = some (.lst ys) → Reps K H' us ys → us.Perm ts → Rising us → Q (.ref p) H'
theorem cr_srt {k : Nat} {f : Addr} {fd : FuncData} {ps : List Str} (F : FnOk X.prog X.w X.K X.mg X.base CX0 k f fd ps (spKey X.K)) (hb : Binds X.K fd ps []) (hr : Room (k + 2) X.A) : CallRK X (.builtin "sorted") [Str.ofString "key"] (rSrt X.K f) := by
  intro pins s σ H vs zs us ws Q I r rz h
  obtain ⟨a, xs, ts, rfl, rfl, hS, hR, hO, hz0, hx, q⟩ := h
  have hz' : ∀ (t : Tm) {j : Nat}, ts[j]? = some t → size t ≤ 50000 := fun t j e => hz0 t (List.mem_of_getElem? e)
  obtain rfl := Vals.ref1 r
  obtain ⟨w1, rfl, e1⟩ := vals1 rz
  obtain rfl : w1 = Value.ref f := e1
  obtain ⟨its, rv, T, o, n, hT, ho, hc, hd⟩ : ∃ its, Vals xs its ∧ ∃ (T : String) (o : Obj) (n : Nat), (T = "list" ∨ T = "tuple") ∧ s.heap.get? a = some o ∧ o.cls = .type T ∧ o.data = .seq its.toArray n := by
    rcases hS with hS | hS
    · obtain ⟨its, rv, hl, _⟩ := I.list hS
      obtain ⟨o, ho, hc, n, hd⟩ := hl.isList
      exact ⟨its, rv, "list", o, n, .inl rfl, ho, hc, hd⟩
    · obtain ⟨its, rv, ⟨o, ho, hc, n, hd⟩, _⟩ := I.tuple hS
      exact ⟨its, rv, "tuple", o, n, .inr rfl, ho, hc, hd⟩
  have hlen : its.length ≤ 1000 := by rw [← rv.length]; exact hx
  have hsz : its.length ≤ sizeLine := Nat.le_trans hlen (by decide)
  refine call_function_entry_kw kind_sorted plain_sorted entry_sorted (ksk_s1 _ _) ?_
  unfold Builtin.«sorted»
  refine wpAny_bind (m := checkCount "sorted" 1 1 _) (wpAny_pure ?_)
  refine wpAny_bind (wpAny_collect_seq a hT ho hc hd (fun h1 k1 => ?_) (by rw [List.size_toArray]; exact hsz))
  have I1 : Inv X pins σ H { s with heap := h1 } := I.kept (t' := s.toks) k1
  rw [List.toList_toArray]
  refine wpAny_bind (wpAny_newList ?_ hsz)
  have fL : H h1.objs.size = none := I1.hok.fresh (Nat.le_refl _)
  have frL : Fre X pins h1.objs.size := Fre.of I1 (Nat.le_refl _)
  have hoL : (h1.push (seqObj "list" its.toArray 0)).get? h1.objs.size = some (seqObj "list" its.toArray 0) := Heap.get?_push_size _ rfl
  have I2 : Inv X pins σ H { s with heap := h1.push (seqObj "list" its.toArray 0) } := I1.kept (t' := s.toks) fun b u e => Heap.get?_push_of_some _ e
  generalize h1.objs.size = L at *
  refine wpAny_bind (wpAny_holding (wpAny_call_entry_kw slot_list_sort ⟨_, hoL, rfl⟩ entry_list_sort ?body (ksk_l1 _ _)))
  case body =>
    show wpAny (model X.prog X.w) X.A.in1.in1 (Builtin.«list.sort» ⟨[.ref L], [(Str.ofString "key", .ref f)]⟩) _ _ _
    rw [ksk_t1]
    unfold ksk_tree
    refine wpAny_bind (listItems_at hoL rfl ?_)
    refine wpAny_bind (listUpdate_at hoL rfl ?_ (by rw [List.size_toArray]; exact hsz) (Nat.zero_le _))
    obtain ⟨e1, ho1⟩ : ∃ e1, ((h1.push (seqObj "list" its.toArray 0)).update L (Obj.mapSeq fun _ => (#[] : Array Value))).get? L = some (seqObj "list" #[] e1) := ⟨_, get?_update_seq hoL fun _ => #[]⟩
    have I3 : Inv X pins σ H { s with heap := (h1.push (seqObj "list" its.toArray 0)).update L (Obj.mapSeq fun _ => (#[] : Array Value)) }     := touched (s := { s with heap := h1.push (seqObj "list" its.toArray 0) }) I2 frL fL fun b u hb hu => (Heap.get?_update_ne _ _ _ _ hb).trans hu
    refine wpAny_bind (seqEpoch_at ho1 rfl ?_)
    generalize (h1.push (seqObj "list" its.toArray 0)).update L (Obj.mapSeq fun _ => (#[] : Array Value)) = h3 at *
    refine wpAny_bind (wpAny_newTuple ?_ (by rw [List.toList_toArray]; exact hsz))
    refine wpAny_bind (wpAny_newList ?_ (Nat.zero_le _))
    refine wpAny_holding ?_
    rw [List.toList_toArray]
    have I4 : Inv X pins σ H { s with heap := h3.push (seqObj "tuple" its.toArray 0) } := I3.kept (t' := s.toks) fun b u e => Heap.get?_push_of_some _ e
    have ho4 : (h3.push (seqObj "tuple" its.toArray 0)).get? L = some (seqObj "list" #[] e1) := Heap.get?_push_of_some _ ho1
    generalize hh4 : h3.push (seqObj "tuple" its.toArray 0) = h4 at *
    have I4 := pinned I4 frL fL ho4 (fun v z => by cases z)
    have fK : H h4.objs.size = none := I4.hok.fresh (Nat.le_refl _)
    have hoK : (h4.push (seqObj "list" #[] 0)).get? h4.objs.size = some (seqObj "list" #[] 0) := Heap.get?_push_size _ rfl
    have I5 : Inv X ((L, seqObj "list" #[] e1) :: pins) σ (upd H h4.objs.size (.lst [])) { s with heap := h4.push (seqObj "list" #[] 0) } := I4.laid (t' := s.toks) (fun b u e => Heap.get?_push_of_some _ e) (Nat.le_refl _) ⟨Nat.zero_le _, [], 0, .nil, hoK⟩
    have hLK : L ≠ h4.objs.size := Nat.ne_of_lt (Heap.lt_size ho4)
    generalize h4.objs.size = kS at *
    unfold ksk_rest
    refine wpAny_bind (wpAny_rule ?_)
    rw [List.forIn_toArray]
    refine wpAny_bind (ksk_fold (fun j s' => ∃ (H' : Hp) (Z : List Ent), Inv X ((L, seqObj "list" #[] e1) :: pins) σ H' s' ∧ Ex H H' ∧ H' kS = some (.lst (Z.map fun z => V.ref z.p)) ∧ Z.map Ent.t = ts.take j ∧ Z.map Ent.u = its.take j ∧ (Z.map Ent.p).Nodup ∧ ∀ z ∈ Z, z.p ≠ kS ∧ KeyL X.K H' z.p (pre z.t) ∧ Rep X.K H z.t z.v ∧ RelV z.v z.u) its 0 _ ?init ?step ?done)
    case init =>
      exact ⟨_, [], I5, Ex.new fK, upd_same, rfl, rfl, List.nodup_nil, fun z hz => by cases hz⟩
    case step =>
      rintro j u s' hju ⟨H', Z, I', eH, hK', zt, zu, nd, hz⟩
      simp only [Nat.zero_add] at zt zu ⊢
      obtain ⟨x, hxj, hxu⟩ := vals_at rv hju
      obtain ⟨t, htj, hrt⟩ := hR.get hxj
      refine wpAny_bind (wpAny_attempt (wpAny_mono (run2 (Q := fun v H2 => ∃ p, v = .ref p ∧ H' p = none ∧ Ex H' H2 ∧ KeyL X.K H2 p (pre t)) F (hr.in1.in1) hb I' (.cons hxu .nil) ⟨x, t, rfl, hrt.mono (Tups.of eH), oks_get hO htj, hz' t htj, fun p H2 hp e2 hk => ⟨p, rfl, hp, e2, hk⟩⟩) (fun kv s2 he => ?_) fun _ _ hF => hF.elim))
      obtain ⟨v, H2, I6, rkv, p, rfl, hp, e2, hky⟩ := he
      have hK2 := e2 _ _ hK'
      have zlen : Z.length = j := by
        have := congrArg List.length zu
        rw [List.length_map, List.length_take] at this
        have hj : j < its.length := (List.getElem?_eq_some_iff.mp hju).1
        omega
      have hj : j < its.length := (List.getElem?_eq_some_iff.mp hju).1
      obtain ⟨hz2, kis, kn, kv2, hgK⟩ := I6.hok _ _ hK2
      obtain ⟨c2, hc2⟩ : ∃ c2, (s2.heap.update kS (Obj.mapSeq (·.push kv))).get? kS = some (seqObj "list" (kis.toArray.push kv) c2) := ⟨_, get?_update_seq hgK (·.push kv)⟩
      have kl : kis.length = j := by
        rw [← kv2.length, List.length_map, zlen]
      have e3 : kis.toArray.push kv = (kis ++ [kv]).toArray := by simp
      rw [e3] at hc2
      refine wpAny_bind (listUpdate_at hgK rfl ?_ (by rw [List.size_toArray, kl]; omega) (by rw [Array.size_push, List.size_toArray, kl]; omega))
      have hpK : p ≠ kS := (ne_of_none hK' hp).symm
      have I7 : Inv X ((L, seqObj "list" #[] e1) :: pins) σ (upd H2 kS (.lst ((Z ++ [(⟨p, x, u, t⟩ : Ent)]).map fun z => V.ref z.p))) { s2 with heap := s2.heap.update kS (Obj.mapSeq (·.push kv)) } :=
        I6.write (e := kS) (t' := s2.toks) (by rw [hK2]; trivial) (.inl rfl) (fun b u hb hu => (Heap.get?_update_ne _ _ _ _ hb).trans hu) ⟨_, hc2⟩ ⟨by rw [List.length_map, List.length_append, zlen]; show j + 1 ≤ _; omega, kis ++ [kv], c2, by rw [List.map_append]; exact kv2.append (.cons rkv .nil), hc2⟩
      refine wpAny_pure ⟨rfl, _, Z ++ [⟨p, x, u, t⟩], I7, Ex.mut (eH.trans e2) fK, upd_same, ?_, ?_, ?_, fun z hm => ?_⟩
      · rw [List.map_append, zt, List.take_add_one, htj]
        rfl
      · rw [List.map_append, zu, List.take_add_one, hju]
        rfl
      · rw [List.map_append, List.nodup_append]
        refine ⟨nd, by simp, fun y hy z hzz e => ?_⟩
        simp only [List.map_cons, List.map_nil, List.mem_singleton] at hzz
        subst hzz
        subst e
        obtain ⟨y, hy1, hy2⟩ := List.mem_map.mp hy
        obtain ⟨_, ⟨ws, hk, _⟩, _⟩ := hz y hy1
        rw [hy2, hp] at hk
        cases hk
      · rcases List.mem_append.mp hm with hm | hm
        · obtain ⟨a1, a3, a4, a5⟩ := hz z hm
          exact ⟨a1, (a3.ex e2).put hK2 a1, a4, a5⟩
        · have := List.mem_singleton.mp hm
          subst this
          exact ⟨hpK, hky.put hK2 hpK, hrt, hxu⟩
    case done =>
      rintro s' ⟨H', Z, I', eH, hK', zt, zu, nd, hz⟩
      simp only [Nat.zero_add] at zt zu
      have lts : ts.length = its.length := by rw [hR.len, rv.length]
      rw [List.take_of_length_le (by omega)] at zt zu
      obtain ⟨hz2, kis, kn, kv2, hgK⟩ := I'.hok _ _ hK'
      have ek := vals_refs kv2
      have lK : kis.length = its.length := by rw [ek, ← zu, List.length_map, List.length_map]
      obtain ⟨hgL, nL, _⟩ := I'.pin (L, seqObj "list" #[] e1) (List.mem_append_right _ List.mem_cons_self)
      have ez : (kis.toArray.zip its.toArray).toList = Z.map fun z => (Value.ref z.p, z.u) := by
        rw [ksk_zip, List.toList_toArray, ek, ← zu, zip_ents]
      have rd : ∀ z ∈ Z, ∃ as, Reads s'.heap (.ref z.p) (.list ((pre z.t).map hdD)) as := fun z hm => Dp.reads I' _ _ _ (hz z hm).2.1.dp rfl
      have okz : ∀ z ∈ Z, Ok z.t := fun z hm => by
        have : z.t ∈ ts := by rw [← zt]; exact List.mem_map_of_mem hm
        obtain ⟨i, hi, e⟩ := List.getElem_of_mem this
        exact oks_get hO (by rw [List.getElem?_eq_getElem hi, e])
      refine wpAny_bind (listItems_at hgK rfl ?_)
      refine srt_end (P := fun p => ∃ z ∈ Z, p.1 = .ref z.p) (lt := ltK Z) (ltK_swo Z) hLK.symm (by rw [List.size_toArray]; exact hsz) (by rw [List.size_toArray, List.size_toArray, lK]) hgK hgL (fun _ => ?_) (fun p hp => ?_) (fun v hv => ?_) fun out h1 h2 => ?_
      · rintro x y ⟨z, z1, z2⟩ ⟨z', z1', z2'⟩
        show wpAny _ _ (keyLt' oneType' x.1 y.1) (fun r s'' => s'' = s' ∧ r = ltK Z x y) _ s'
        have el : ltK Z x y = decide (kC (kcode z.t) (kcode z'.t) < 0) := by
          unfold ltK
          rw [z2, z2', code_at nd z1, code_at nd z1']
        rw [z2, z2', keyLt'_oneType, oneLt'_eq, el]
        simp only [if_true]
        obtain ⟨as, r1⟩ := rd z z1
        obtain ⟨bs, r2⟩ := rd z' z1'
        have un := hr.un
        have du : X.A.in1.in1.units = X.A.units + 2 := rfl
        cases r1 with
        | @list p1 o1 vs1 n1 _ as1 a1 a2 a3 a4 =>
          cases r2 with
          | @list p2 o2 vs2 n2 _ as2 b1 b2 b3 b4 =>
            refine wpAny_bind (wpAny_cRoomFor (by rw [du]; omega) ?_)
            refine wpAny_bind (wpAny_callSpecialIfBound?_slot (T := "list") ⟨_, a1, a2⟩ PySem.F.slot_list_lt (call_lst ⟨o1, a1, a2, n1, a3⟩ ⟨o2, b1, b2, n2, b3⟩ (heads_dec (A := X.A.in1.in1.in1) (by show X.A.units + 3 + 2 < _; omega) _ _ _ _ _ _ (ok_pre (okz z z1)) (ok_pre (okz z' z1')) a4 b4) ?_))
            exact wpAny_truthy_bool ⟨rfl, rfl⟩
      · rw [ez] at hp
        obtain ⟨z, hm, e⟩ := List.mem_map.mp hp
        exact ⟨z, hm, by rw [← e]⟩
      · rw [List.toList_toArray, ek] at hv
        obtain ⟨z, hm, e⟩ := List.mem_map.mp hv
        obtain ⟨as, r1⟩ := rd z hm
        rw [← e]
        exact looks_reads r1
      · rw [ez] at h2
        obtain ⟨Z', pZ, eZ⟩ := perm_back h2.perm Z rfl
        have hz3 : ∀ z ∈ Z', z ∈ Z := fun z hm => pZ.mem_iff.mp hm
        have eo : (out.map (·.2)) = Z'.map Ent.u := by rw [eZ, List.map_map]; rfl
        have lZ : Z'.length = its.length := by rw [pZ.length_eq, ← zu, List.length_map]
        obtain ⟨c2, hc2⟩ : ∃ c2, (s'.heap.update kS (Obj.mapSeq fun _ => (#[] : Array Value))).get? kS = some (seqObj "list" #[] c2) := ⟨_, get?_update_seq hgK fun _ => #[]⟩
        have I8 : Inv X pins σ (upd H' kS (.lst [])) { s' with heap := s'.heap.update kS (Obj.mapSeq fun _ => (#[] : Array Value)) } :=
          (unpinned I').write (e := kS) (t' := s'.toks) (by rw [hK']; trivial) (.inl rfl) (fun b u hb hu => (Heap.get?_update_ne _ _ _ _ hb).trans hu) ⟨_, hc2⟩ ⟨Nat.zero_le _, [], c2, .nil, hc2⟩
        have hgL8 : (s'.heap.update kS (Obj.mapSeq fun _ => (#[] : Array Value))).get? L = some (seqObj "list" #[] e1) := (Heap.get?_update_ne _ _ _ _ hLK).trans hgL
        have nL8 : upd H' kS (.lst []) L = none := by rw [upd_ne hLK]; exact nL
        obtain ⟨c3, hc3⟩ : ∃ c3, ((s'.heap.update kS (Obj.mapSeq fun _ => (#[] : Array Value))).update L (Obj.mapSeq fun _ => (out.map (·.2)).toArray)).get? L = some (seqObj "list" (out.map (·.2)).toArray c3) := ⟨_, get?_update_seq hgL8 fun _ => (out.map (·.2)).toArray⟩
        have I9 : Inv X pins σ (upd (upd H' kS (.lst [])) L (.lst (Z'.map Ent.v))) { s' with heap := (s'.heap.update kS (Obj.mapSeq fun _ => (#[] : Array Value))).update L (Obj.mapSeq fun _ => (out.map (·.2)).toArray) } :=
          adopt (s := { s' with heap := s'.heap.update kS (Obj.mapSeq fun _ => (#[] : Array Value)) }) I8 frL nL8 (fun b u hb hu => (Heap.get?_update_ne _ _ _ _ hb).trans hu) ⟨by rw [List.length_map, lZ]; exact hsz, out.map (·.2), c3, by rw [eo]; exact vals_ents fun z hm => (hz z (hz3 z hm)).2.2.2, hc3⟩
        have eH9 : Ex H (upd (upd H' kS (.lst [])) L (.lst (Z'.map Ent.v))) := Ex.mut (Ex.mut eH fK) fL
        refine ⟨_, rfl, wpAny_pure ⟨_, rfl, .ref L, _, I9, rfl, q L _ (Z'.map Ent.t) _ fL eH9 upd_same (reps_ents fun z hm => (hz z (hz3 z hm)).2.2.1.mono (Tups.of eH9)) (by rw [← zt]; exact pZ.map _) ?_⟩⟩
        have h1' := h1
        unfold Srtd at h1'
        rw [eZ, List.pairwise_map] at h1'
        refine List.pairwise_map.mpr (h1'.imp_of_mem fun {x y} hx hy g => ?_)
        unfold ltK at g
        have g2 := of_decide_eq_false g
        rw [code_at nd (hz3 y hy), code_at nd (hz3 x hx), ord_key] at g2
        have g3 := tord_ok.anti x.t y.t
        omega
end
end Hm

set_option Elab.async false
set_option linter.all false
set_option maxRecDepth 100000
set_option maxHeartbeats 1000000
namespace Hm
open PySem PySem.Spec PyProof.Rows L2 HT
open Evl (Ex)
/-! ## terms as data -/
mutual
def toD : Tm → PyData
  | .var k => .tuple [.int k]
  | .int i => .int i
  | .atom s => .str s
  | .comp f as => .tuple (.str f :: toDs as)
def toDs : List Tm → List PyData
  | [] => []
  | t :: ts => toD t :: toDs ts
end
section
variable {K : PySem.W.Frag} {H : Hp}
mutual
theorem dp_rep : ∀ {t : Tm} {v : V}, Rep K H t v → Dp K H v (toD t)
  | .var k, v, h => by
    unfold Rep at h
    obtain ⟨a, rfl, hT⟩ := h
    exact .tup hT (.cons (.int k) .nil)
  | .int i, v, h => by
    unfold Rep at h
    subst h
    exact .int i
  | .atom s, v, h => by
    unfold Rep at h
    subst h
    exact .str s
  | .comp f as, v, h => by
    unfold Rep at h
    obtain ⟨a, vs, rfl, hT, hA⟩ := h
    exact .tup hT (.cons (.str f) (dp_reps hA))
theorem dp_reps : ∀ {ts : List Tm} {vs : List V}, Reps K H ts vs → DpAll K H vs (toDs ts)
  | [], vs, h => by
    rw [h.nil_inv]
    exact .nil
  | t :: ts, vs, h => by
    obtain ⟨v, ws, rfl, h1, h2⟩ := h.cons_inv
    exact .cons (dp_rep h1) (dp_reps h2)
end
theorem dp_ints {p : Addr} {ns : List Int} (h : SqL K H p (ns.map V.int)) : Dp K H (.ref p) (.list (ns.map PyData.int)) := by
  refine .lst h ?_
  induction ns with
  | nil => exact .nil
  | cons n ns ih => exact .cons (.int n) (ih' ns)
where ih' : ∀ ns : List Int, DpAll K H (ns.map V.int) (ns.map PyData.int)
  | [] => .nil
  | n :: ns => .cons (.int n) (ih' ns)
end
theorem lay_ints : ∀ ns : List Int, PyData.canLayAll0 (ns.map PyData.int) = true
  | [] => rfl
  | n :: ns => by
    show (PyData.canLay0 (.int n) && PyData.canLayAll0 (ns.map PyData.int)) = true
    rw [lay_ints ns]
    rfl
theorem dep_ints : ∀ ns : List Int, PyData.depthAll (ns.map PyData.int) = 0
  | [] => rfl
  | n :: ns => by
    show max (PyData.depth (.int n)) (PyData.depthAll (ns.map PyData.int)) = 0
    rw [dep_ints ns]
    rfl
theorem shaped_ints (ns : List Int) : SeqAt.shaped (.list (ns.map PyData.int)) = true := by
  show (PyData.canLayAll0 (ns.map PyData.int) && decide (PyData.depthAll (ns.map PyData.int) + 1 ≤ 64)) = true
  rw [lay_ints, dep_ints]
  rfl
theorem eqv_ints (ns : List Int) : PyData.eqv (.list (ns.map PyData.int)) (.list (ns.map PyData.int)) = true := SeqAt.eqv_refl _ (lay_ints ns)
theorem strOk_of {s : Str} (h : AtomOk s) : (PyData.str s).canLay0 = true := by
  show (s.cps.all fun c => decide (c < 0x110000)) = true
  rw [← Array.all_toList, List.all_eq_true]
  intro c hc
  have := h.2 c hc
  exact decide_eq_true (by omega)
mutual
theorem lay_tm : ∀ {t : Tm}, Ok t → (toD t).canLay0 = true
  | .var k, _ => rfl
  | .int i, _ => rfl
  | .atom s, h => by
    unfold Ok at h
    exact strOk_of h
  | .comp f as, h => by
    unfold Ok at h
    unfold toD
    show ((PyData.str f).canLay0 && PyData.canLayAll0 (toDs as)) = true
    rw [strOk_of h.1, lay_tms h.2.2.2]
    rfl
theorem lay_tms : ∀ {ts : List Tm}, Oks ts → PyData.canLayAll0 (toDs ts) = true
  | [], _ => rfl
  | t :: ts, h => by
    rw [oks_cons] at h
    unfold toDs
    show ((toD t).canLay0 && PyData.canLayAll0 (toDs ts)) = true
    rw [lay_tm h.1, lay_tms h.2]
    rfl
end
mutual
theorem dep_tm : ∀ t : Tm, (toD t).depth ≤ depth t
  | .var k => by
    show max (PyData.depth (.int k)) (PyData.depthAll []) + 1 ≤ 1
    exact Nat.le_refl _
  | .int i => Nat.zero_le _
  | .atom s => Nat.zero_le _
  | .comp f as => by
    unfold toD depth
    have := dep_tms as
    show max (PyData.depth (.str f)) (PyData.depthAll (toDs as)) + 1 ≤ _
    have e : PyData.depth (.str f) = 0 := rfl
    omega
theorem dep_tms : ∀ ts : List Tm, PyData.depthAll (toDs ts) ≤ depths ts
  | [] => Nat.zero_le _
  | t :: ts => by
    unfold toDs
    rw [depths_cons]
    have h1 := dep_tm t
    have h2 := dep_tms ts
    show max (toD t).depth (PyData.depthAll (toDs ts)) ≤ _
    omega
end
theorem shaped_tm {t : Tm} (h : Ok t) (hd : depth t ≤ 64) : SeqAt.shaped (toD t) = true := by
  show ((toD t).canLay0 && decide ((toD t).depth ≤ 64)) = true
  rw [lay_tm h, decide_eq_true (Nat.le_trans (dep_tm t) hd)]
  rfl
theorem eqv_tm {t : Tm} (h : Ok t) : PyData.eqv (toD t) (toD t) = true := SeqAt.eqv_refl _ (lay_tm h)
mutual
theorem eqv_toD : ∀ s t : Tm, PyData.eqv (toD s) (toD t) = decide (tord s t = 0)
  | .var i, .var j => by
    show ((i == j : Bool) && true) = decide (hC [0, i] [0, j] = 0)
    rw [hC_two, intC_beq, Bool.and_true]
  | .int i, .int j => by
    show (i == j : Bool) = decide (hC [1, i] [1, j] = 0)
    rw [hC_two, intC_beq]
  | .atom i, .atom j => by
    show (i == j : Bool) = decide (hC (2 :: cpsI i) (2 :: cpsI j) = 0)
    rw [hC_str, sC_beq]
  | .comp f as, .comp g bs => by
    rw [tord]
    unfold toD
    show ((f == g : Bool) && PyData.eqvAll (toDs as) (toDs bs)) = _
    rw [eqv_toDs as bs, sC_beq]
    by_cases e1 : intC (as.length : Int) (bs.length : Int) = 0
    · have := intC_ok.eq _ _ e1
      rw [if_pos e1, decide_eq_true (show as.length = bs.length by omega), Bool.true_and]
      by_cases e2 : sC f g = 0
      · rw [if_pos e2, decide_eq_true e2, Bool.true_and]
      · rw [if_neg e2, decide_eq_false e2, Bool.false_and]
    · have hl : ¬ as.length = bs.length := fun z => e1 (by rw [z]; exact intC_ok.refl _)
      rw [if_neg e1, decide_eq_false e1, decide_eq_false hl, Bool.false_and, Bool.and_false]
  | .var i, .int j => by rw [decide_eq_false (show tord (.var i) (.int j) ≠ 0 from hC_rank (by simp [rank]))]; rfl
  | .var i, .atom j => by rw [decide_eq_false (show tord (.var i) (.atom j) ≠ 0 from hC_rank (by simp [rank]))]; rfl
  | .var i, .comp g bs => by
    rw [decide_eq_false (show tord (.var i) (.comp g bs) ≠ 0 from hC_rank (by simp [rank]))]
    unfold toD
    rfl
  | .int i, .var j => by rw [decide_eq_false (show tord (.int i) (.var j) ≠ 0 from hC_rank (by simp [rank]))]; rfl
  | .int i, .atom j => by rw [decide_eq_false (show tord (.int i) (.atom j) ≠ 0 from hC_rank (by simp [rank]))]; rfl
  | .int i, .comp g bs => by
    rw [decide_eq_false (show tord (.int i) (.comp g bs) ≠ 0 from hC_rank (by simp [rank]))]
    unfold toD
    rfl
  | .atom i, .var j => by rw [decide_eq_false (show tord (.atom i) (.var j) ≠ 0 from hC_rank (by simp [rank]))]; rfl
  | .atom i, .int j => by rw [decide_eq_false (show tord (.atom i) (.int j) ≠ 0 from hC_rank (by simp [rank]))]; rfl
  | .atom i, .comp g bs => by
    rw [decide_eq_false (show tord (.atom i) (.comp g bs) ≠ 0 from hC_rank (by simp [rank]))]
    unfold toD
    rfl
  | .comp g bs, .var j => by
    rw [decide_eq_false (show tord (.comp g bs) (.var j) ≠ 0 from hC_rank (by simp [rank]))]
    unfold toD
    rfl
  | .comp g bs, .int j => by
    rw [decide_eq_false (show tord (.comp g bs) (.int j) ≠ 0 from hC_rank (by simp [rank]))]
    unfold toD
    rfl
  | .comp g bs, .atom j => by
    rw [decide_eq_false (show tord (.comp g bs) (.atom j) ≠ 0 from hC_rank (by simp [rank]))]
    unfold toD
    rfl
theorem eqv_toDs : ∀ as bs : List Tm, PyData.eqvAll (toDs as) (toDs bs) = (decide (as.length = bs.length) && decide (tords as bs = 0))
  | [], [] => by simp [toDs, PyData.eqvAll, tords]
  | [], b :: bs => by simp [toDs, PyData.eqvAll]
  | a :: as, [] => by simp [toDs, PyData.eqvAll]
  | a :: as, b :: bs => by
    unfold toDs
    show (PyData.eqv (toD a) (toD b) && PyData.eqvAll (toDs as) (toDs bs)) = _
    rw [eqv_toD a b, eqv_toDs as bs, tords]
    have e : decide ((a :: as).length = (b :: bs).length) = decide (as.length = bs.length) := by simp
    rw [e]
    by_cases z : tord a b = 0
    · rw [if_pos z, decide_eq_true z, Bool.true_and]
    · rw [if_neg z, decide_eq_false z, Bool.false_and, Bool.and_false]
end
theorem tord_rank {s t : Tm} (h : rank s ≠ rank t) : tord s t = intC (rank s) (rank t) := by
  obtain ⟨x, e1⟩ := hcode_row s
  obtain ⟨y, e2⟩ := hcode_row t
  have e : tord s t = hC (hcode s) (hcode t) := by
    cases s <;> cases t <;> first | rfl | exact absurd rfl h
  rw [e, e1, e2, hC_tag' h]
theorem tord_var (i j : Int) : tord (.var i) (.var j) = intC i j := hC_two 0 i j
theorem tord_int (i j : Int) : tord (.int i) (.int j) = intC i j := hC_two 1 i j
theorem tord_atom (a b : Str) : tord (.atom a) (.atom b) = sC a b := hC_str a b
end Hm

set_option Elab.async false
set_option linter.all false
set_option maxRecDepth 100000
set_option maxHeartbeats 1000000
namespace Hm
open PySem PySem.Spec PyProof.Rows L2 HT
open Evl (Ex)
mutual
theorem plain_toD : ∀ t : Tm, (toD t).plain = true
  | .var k => rfl
  | .int k => rfl
  | .atom k => rfl
  | .comp f as => by
    unfold toD
    show ((PyData.str f).plain && PyData.plainAll (toDs as)) = true
    rw [plain_toDs as]
    rfl
theorem plain_toDs : ∀ ts : List Tm, PyData.plainAll (toDs ts) = true
  | [] => rfl
  | t :: ts => by
    unfold toDs
    show ((toD t).plain && PyData.plainAll (toDs ts)) = true
    rw [plain_toD t, plain_toDs ts]
    rfl
end
theorem toDs_map : ∀ ts : List Tm, toDs ts = ts.map toD
  | [] => rfl
  | t :: ts => by
    unfold toDs
    rw [toDs_map ts]
    rfl
/-- l.remove(t) of a list of terms -/
def rRemT (K : PySem.W.Frag) : V → List V → Hp → VK → Prop := fun x xs H Q => ∃ l ts vs y t j, x = .ref l ∧ xs = [y] ∧ H l = some (.lst vs) ∧ Reps K H ts vs ∧ Rep K H t y ∧ depth t ≤ 50 ∧ ts.findIdx? (fun u => decide (tord u t = 0)) = some j ∧ Q .non (upd H l (.lst (vs.eraseIdx j)))
theorem mt_remT {X : Cx} (hu : X.A.units + 64 < cLine) : MtM X "list.remove" (rRemT X.K) := by
  intro pins s σ H x xs v us Q I rx rxs h
  obtain ⟨l, ts, vs, y, t, j, rfl, rfl, hH, hR, hRt, hd, hj, q⟩ := h
  cases rx
  obtain ⟨u, rfl, ru⟩ := rxs.one
  obtain ⟨z, its, n, r, hl, e⟩ := I.lstM hH
  obtain ⟨as, r1⟩ := Dp.readsAll I _ _ _ (dp_reps hR) r
  obtain ⟨bs, r2⟩ := Dp.reads I _ _ _ (dp_rep hRt) ru
  have dt := dep_tm t
  refine PySem.SeqAt.remove_list_data (vs := its.toArray) (j := j) ⟨_, e, rfl, _, rfl⟩ r1 r2 (plain_toDs ts) (plain_toD t) (by omega) ?_ (by rw [List.size_toArray, ← hl]; exact z) ?_
  · unfold PySem.SeqAt.dataPlace
    rw [toDs_map, List.findIdx?_map]
    rw [← hj]
    congr 1
    funext u
    exact eqv_toD u t
  · refine ⟨.non, _, I.lset (its' := its.eraseIdx j) (t' := s.toks) hH e ?_ (r.eraseIdx j) ?_, rfl, q⟩
    · show its.toArray.eraseIdxIfInBounds j = (its.eraseIdx j).toArray
      rw [List.eraseIdxIfInBounds_toArray]
    · have := List.length_eraseIdx_le vs j
      omega
theorem dp_list {K : PySem.W.Frag} {H : Hp} {p : Addr} {ts : List Tm} {vs : List V} (h : SqL K H p vs) (r : Reps K H ts vs) : Dp K H (.ref p) (.list (toDs ts)) := .lst h (dp_reps r)
theorem list_shaped {ts : List Tm} (h : Oks ts) (hd : ∀ t ∈ ts, depth t ≤ 50) : SeqAt.shaped (.list (toDs ts)) = true := by
  have h1 : depths ts ≤ 50 := by
    clear h
    induction ts with
    | nil => simp [depths]
    | cons t ts ih =>
      rw [depths_cons]
      have := hd t List.mem_cons_self
      have := ih fun u hu => hd u (List.mem_cons_of_mem _ hu)
      omega
  have h2 := dep_tms ts
  show (PyData.canLayAll0 (toDs ts) && decide (PyData.depthAll (toDs ts) + 1 ≤ 64)) = true
  rw [lay_tms h, decide_eq_true (by omega)]
  rfl
theorem find_mem : ∀ {ts : List Tm} {t : Tm}, t ∈ ts → ∃ j, ts.findIdx? (fun u => decide (tord u t = 0)) = some j ∧ ts[j]? = some t := fun {ts t} h => by
  cases e : ts.findIdx? (fun u => decide (tord u t = 0)) with
  | none =>
    have := List.findIdx?_eq_none_iff.mp e t h
    rw [tord_ok.refl] at this
    simp at this
  | some j =>
    obtain ⟨hj, h1, _⟩ := List.findIdx?_eq_some_iff_getElem.mp e
    have := tord_ok.eq _ _ (of_decide_eq_true h1)
    exact ⟨j, rfl, by rw [List.getElem?_eq_getElem hj, this]⟩
theorem any_mem {ts : List Tm} {t : Tm} (h : t ∈ ts) : ((toDs ts).any fun z => PyData.eqv z (toD t)) = true := by
  rw [toDs_map, List.any_map, List.any_eq_true]
  refine ⟨t, h, ?_⟩
  show PyData.eqv (toD t) (toD t) = true
  rw [eqv_toD, tord_ok.refl]
  rfl
end Hm

set_option Elab.async false
set_option linter.all false
set_option maxRecDepth 100000
set_option maxHeartbeats 4000000
namespace Hm
open PySem PySem.Spec PyProof.Rows L2 HT
/-- a def of the text as it stands behind the top -/
structure Df (K : PySem.W.Frag) (mg : Str → Option Value) (x : Str) (st : Stmt) (ps : List Str) (ds : List Value) (f : Addr) (fd : FuncData) : Prop where
  F : Fun K x x st f fd
  b : Binds K fd ps ds
  m : mg x = some (.ref f)
theorem cl {X : Cx} {x : Str} {f : Addr} {fd : FuncData} {ps : List Str} {sp : Sp} {j k : Nat} {st : Stmt} {e : Expr} {es : List Expr} {t : TA} {p pos : Pos} (G : FnOk X.prog X.w X.K X.mg X.base CX0 k f fd ps sp) (D : Df X.K X.mg x st ps [] f fd) (hr : Room j X.A) (ha : PA X (e :: es) t)
    (hj : k ≤ j := by first | decide | omega) (hg : Gl X x := by rfl) (hd : (x == ("__debug__" : Str)) = false := by decide) (hs : starEach (e :: es) X.env = (false, eval e X.env) :: starEach es X.env := by rfl) (hst : (backTo pos (starEach es X.env)).any (·.1) = false := by rfl) : PE X (.Call (.Name x p) (e :: es) [] pos) (tCall sp [] E0 t) :=
  pe_call G (hr.mono hj) hg D.m D.F.kp D.b .nil pass0 ha (hdb := hd) (he := hs) (hpl := hst)
/-- a def with default values -/
structure DfD (K : PySem.W.Frag) (mg : Str → Option Value) (x : Str) (st : Stmt) (ps : List Str) (dvs : List V) (f : Addr) (fd : FuncData) : Prop where
  F : FunD K x x (defArgs st) (defBody st) (defScope st) dvs [] f fd
  m : mg x = some (.ref f)
  b : ∃ ds, Vals dvs ds ∧ Binds K fd ps ds
theorem cld {X : Cx} {x : Str} {f : Addr} {fd : FuncData} {ps : List Str} {sp : Sp} {j k : Nat} {st : Stmt} {dvs : List V} {e : Expr} {es : List Expr} {t : TA} {p pos : Pos} (G : FnOk X.prog X.w X.K X.mg X.base CX0 k f fd ps sp) (D : DfD X.K X.mg x st ps dvs f fd) (hr : Room j X.A) (ha : PA X (e :: es) t)
    (hj : k ≤ j := by first | decide | omega) (hg : Gl X x := by rfl) (hd : (x == ("__debug__" : Str)) = false := by decide) (hs : starEach (e :: es) X.env = (false, eval e X.env) :: starEach es X.env := by rfl) (hst : (backTo pos (starEach es X.env)).any (·.1) = false := by rfl) : PE X (.Call (.Name x p) (e :: es) [] pos) (tCall sp dvs E0 t) := by
  obtain ⟨ds, hv, hb⟩ := D.b
  exact pe_call G (hr.mono hj) hg D.m D.F.kp hb hv pass0 ha (hdb := hd) (he := hs) (hpl := hst)
def top (i : Nat) : Stmt := PySem.Challenge.pw_hornmill_k03_whole_order_of_terms.main.body.getD i (.Pass ⟨0, 0, 0, 0⟩)
abbrev s_is_integer : Stmt := top 12
theorem sc_is_integer : FnScope ["thing"] ["thing"] (defScope s_is_integer) := ⟨rfl, rfl, rfl, by decide +kernel, rfl, by decide +kernel, by decide +kernel⟩
abbrev s_is_sign : Stmt := top 13
theorem sc_is_sign : FnScope ["sign"] ["sign"] (defScope s_is_sign) := ⟨rfl, rfl, rfl, by decide +kernel, rfl, by decide +kernel, by decide +kernel⟩
abbrev s_is_atom : Stmt := top 14
theorem sc_is_atom : FnScope ["thing", "sign"] ["thing"] (defScope s_is_atom) := ⟨rfl, rfl, rfl, by decide +kernel, rfl, by decide +kernel, by decide +kernel⟩
abbrev s_is_number : Stmt := top 15
theorem sc_is_number : FnScope ["thing"] ["thing"] (defScope s_is_number) := ⟨rfl, rfl, rfl, by decide +kernel, rfl, by decide +kernel, by decide +kernel⟩
abbrev s_is_term : Stmt := top 16
theorem sc_is_term : FnScope ["thing", "waiting", "part"] ["thing"] (defScope s_is_term) := ⟨rfl, rfl, rfl, by decide +kernel, rfl, by decide +kernel, by decide +kernel⟩
abbrev s_is_part : Stmt := top 17
theorem sc_is_part : FnScope ["thing"] ["thing"] (defScope s_is_part) := ⟨rfl, rfl, rfl, by decide +kernel, rfl, by decide +kernel, by decide +kernel⟩
abbrev s_demand_term : Stmt := top 18
theorem sc_demand_term : FnScope ["term"] ["term"] (defScope s_demand_term) := ⟨rfl, rfl, rfl, by decide +kernel, rfl, by decide +kernel, by decide +kernel⟩
abbrev s_is_variable : Stmt := top 19
theorem sc_is_variable : FnScope ["part"] ["part"] (defScope s_is_variable) := ⟨rfl, rfl, rfl, by decide +kernel, rfl, by decide +kernel, by decide +kernel⟩
abbrev s_arguments_of : Stmt := top 20
theorem sc_arguments_of : FnScope ["part"] ["part"] (defScope s_arguments_of) := ⟨rfl, rfl, rfl, by decide +kernel, rfl, by decide +kernel, by decide +kernel⟩
abbrev s_parts_of : Stmt := top 21
theorem sc_parts_of : FnScope ["term", "found", "waiting", "part"] ["term"] (defScope s_parts_of) := ⟨rfl, rfl, rfl, by decide +kernel, rfl, by decide +kernel, by decide +kernel⟩
abbrev s_head_of : Stmt := top 22
theorem sc_head_of : FnScope ["part"] ["part"] (defScope s_head_of) := ⟨rfl, rfl, rfl, by decide +kernel, rfl, by decide +kernel, by decide +kernel⟩
abbrev s_order_key : Stmt := top 24
theorem sc_order_key : FnScope ["term", "part"] ["term"] (defScope s_order_key) := ⟨rfl, rfl, rfl, by decide +kernel, rfl, by decide +kernel, by decide +kernel⟩
abbrev s_compare_terms : Stmt := top 25
theorem sc_compare_terms : FnScope ["one", "other", "first", "second"] ["one", "other"] (defScope s_compare_terms) := ⟨rfl, rfl, rfl, by decide +kernel, rfl, by decide +kernel, by decide +kernel⟩
abbrev s_sort_terms : Stmt := top 26
theorem sc_sort_terms : FnScope ["terms", "term"] ["terms"] (defScope s_sort_terms) := ⟨rfl, rfl, rfl, by decide +kernel, rfl, by decide +kernel, by decide +kernel⟩
abbrev s_law_cell_at : Stmt := top 28
theorem sc_law_cell_at : FnScope ["_law_script", "_law_k"] ["_law_script", "_law_k"] (defScope s_law_cell_at) := ⟨rfl, rfl, rfl, by decide +kernel, rfl, by decide +kernel, by decide +kernel⟩
abbrev s_law_well : Stmt := top 29
theorem sc_law_well : FnScope ["_law_cell"] ["_law_cell"] (defScope s_law_well) := ⟨rfl, rfl, rfl, by decide +kernel, rfl, by decide +kernel, by decide +kernel⟩
abbrev s_law_draw : Stmt := top 30
theorem sc_law_draw : FnScope ["_law_well_here", "_law_many", "_law_digit", "_law_mixed"] ["_law_well_here", "_law_many"] (defScope s_law_draw) := ⟨rfl, rfl, rfl, by decide +kernel, rfl, by decide +kernel, by decide +kernel⟩
abbrev s_law_one : Stmt := top 31
theorem sc_law_one : FnScope ["_law_well_here", "_law_some"] ["_law_well_here", "_law_some"] (defScope s_law_one) := ⟨rfl, rfl, rfl, by decide +kernel, rfl, by decide +kernel, by decide +kernel⟩
abbrev s_law_leaf : Stmt := top 32
theorem sc_law_leaf : FnScope ["_law_well_here", "_law_many", "_law_way", "_law_great"] ["_law_well_here", "_law_many"] (defScope s_law_leaf) := ⟨rfl, rfl, rfl, by decide +kernel, rfl, by decide +kernel, by decide +kernel⟩
abbrev s_law_term : Stmt := top 33
theorem sc_law_term : FnScope ["_law_well_here", "_law_deep", "_law_many", "_law_some", "_law_name", "_law_arity", "_law_k"] ["_law_well_here", "_law_deep", "_law_many"] (defScope s_law_term) := ⟨rfl, rfl, rfl, by decide +kernel, rfl, by decide +kernel, by decide +kernel⟩
abbrev s_law_is_variable : Stmt := top 34
theorem sc_law_is_variable : FnScope ["_law_term_here"] ["_law_term_here"] (defScope s_law_is_variable) := ⟨rfl, rfl, rfl, by decide +kernel, rfl, by decide +kernel, by decide +kernel⟩
abbrev s_law_is_compound : Stmt := top 35
theorem sc_law_is_compound : FnScope ["_law_term_here"] ["_law_term_here"] (defScope s_law_is_compound) := ⟨rfl, rfl, rfl, by decide +kernel, rfl, by decide +kernel, by decide +kernel⟩
abbrev s_law_parts : Stmt := top 36
theorem sc_law_parts : FnScope ["_law_term_here", "_law_found", "_law_part"] ["_law_term_here"] (defScope s_law_parts) := ⟨rfl, rfl, rfl, by decide +kernel, rfl, by decide +kernel, by decide +kernel⟩
abbrev s_law_numbers : Stmt := top 37
theorem sc_law_numbers : FnScope ["_law_term_here", "_law_found", "_law_part"] ["_law_term_here"] (defScope s_law_numbers) := ⟨rfl, rfl, rfl, by decide +kernel, rfl, by decide +kernel, by decide +kernel⟩
abbrev s_law_put : Stmt := top 38
theorem sc_law_put : FnScope ["_law_term_here", "_law_table", "_law_part"] ["_law_term_here", "_law_table"] (defScope s_law_put) := ⟨rfl, rfl, rfl, by decide +kernel, rfl, by decide +kernel, by decide +kernel⟩
abbrev s_law_anew : Stmt := top 39
theorem sc_law_anew : FnScope ["_law_term_here", "_law_first", "_law_at", "_law_number"] ["_law_term_here", "_law_first"] (defScope s_law_anew) := ⟨rfl, rfl, rfl, by decide +kernel, rfl, by decide +kernel, by decide +kernel⟩
abbrev s_law_rank : Stmt := top 40
theorem sc_law_rank : FnScope ["_law_term_here"] ["_law_term_here"] (defScope s_law_rank) := ⟨rfl, rfl, rfl, by decide +kernel, rfl, by decide +kernel, by decide +kernel⟩
abbrev s_law_order : Stmt := top 41
theorem sc_law_order : FnScope ["_law_one_here", "_law_other", "_law_ranks", "_law_mine", "_law_its", "_law_found"] ["_law_one_here", "_law_other"] (defScope s_law_order) := ⟨rfl, rfl, rfl, by decide +kernel, rfl, by decide +kernel, by decide +kernel⟩
abbrev s_law_near : Stmt := top 42
theorem sc_law_near : FnScope ["_law_well_here", "_law_term_here", "_law_at"] ["_law_well_here", "_law_term_here"] (defScope s_law_near) := ⟨rfl, rfl, rfl, by decide +kernel, rfl, by decide +kernel, by decide +kernel⟩
abbrev s_law_right : Stmt := top 43
theorem sc_law_right : FnScope ["_law_well_here", "_law_some", "_law_turn", "_law_one_here", "_law_other", "_law_found", "_law_left", "_law_back"] ["_law_well_here"] (defScope s_law_right) := ⟨rfl, rfl, rfl, by decide +kernel, rfl, by decide +kernel, by decide +kernel⟩
abbrev s_law : Stmt := top 44
theorem sc_law : FnScope ["_law_script", "_law_k"] ["_law_script"] (defScope s_law) := ⟨rfl, rfl, rfl, by decide +kernel, rfl, by decide +kernel, by decide +kernel⟩
structure Tx (K : PySem.W.Frag) (mg : Str → Option Value) where
  f_is_integer : Addr
  d_is_integer : FuncData
  h_is_integer : Df K mg "is_integer" s_is_integer ["thing"] [] f_is_integer d_is_integer
  f_is_sign : Addr
  d_is_sign : FuncData
  h_is_sign : Df K mg "is_sign" s_is_sign ["sign"] [] f_is_sign d_is_sign
  f_is_atom : Addr
  d_is_atom : FuncData
  h_is_atom : Df K mg "is_atom" s_is_atom ["thing"] [] f_is_atom d_is_atom
  f_is_number : Addr
  d_is_number : FuncData
  h_is_number : Df K mg "is_number" s_is_number ["thing"] [] f_is_number d_is_number
  f_is_term : Addr
  d_is_term : FuncData
  h_is_term : Df K mg "is_term" s_is_term ["thing"] [] f_is_term d_is_term
  f_is_part : Addr
  d_is_part : FuncData
  h_is_part : Df K mg "_is_part" s_is_part ["thing"] [] f_is_part d_is_part
  f_demand_term : Addr
  d_demand_term : FuncData
  h_demand_term : Df K mg "demand_term" s_demand_term ["term"] [] f_demand_term d_demand_term
  f_is_variable : Addr
  d_is_variable : FuncData
  h_is_variable : Df K mg "is_variable" s_is_variable ["part"] [] f_is_variable d_is_variable
  f_arguments_of : Addr
  d_arguments_of : FuncData
  h_arguments_of : Df K mg "arguments_of" s_arguments_of ["part"] [] f_arguments_of d_arguments_of
  f_parts_of : Addr
  d_parts_of : FuncData
  h_parts_of : Df K mg "parts_of" s_parts_of ["term"] [] f_parts_of d_parts_of
  f_head_of : Addr
  d_head_of : FuncData
  h_head_of : Df K mg "head_of" s_head_of ["part"] [] f_head_of d_head_of
  f_order_key : Addr
  d_order_key : FuncData
  h_order_key : Df K mg "order_key" s_order_key ["term"] [] f_order_key d_order_key
  f_compare_terms : Addr
  d_compare_terms : FuncData
  h_compare_terms : Df K mg "compare_terms" s_compare_terms ["one", "other"] [] f_compare_terms d_compare_terms
  f_sort_terms : Addr
  d_sort_terms : FuncData
  h_sort_terms : Df K mg "sort_terms" s_sort_terms ["terms"] [] f_sort_terms d_sort_terms
  f_law_cell_at : Addr
  d_law_cell_at : FuncData
  h_law_cell_at : Df K mg "_law_cell_at" s_law_cell_at ["_law_script", "_law_k"] [] f_law_cell_at d_law_cell_at
  f_law_well : Addr
  d_law_well : FuncData
  h_law_well : Df K mg "_law_well" s_law_well ["_law_cell"] [] f_law_well d_law_well
  f_law_draw : Addr
  d_law_draw : FuncData
  h_law_draw : Df K mg "_law_draw" s_law_draw ["_law_well_here", "_law_many"] [] f_law_draw d_law_draw
  f_law_one : Addr
  d_law_one : FuncData
  h_law_one : Df K mg "_law_one" s_law_one ["_law_well_here", "_law_some"] [] f_law_one d_law_one
  f_law_leaf : Addr
  d_law_leaf : FuncData
  h_law_leaf : Df K mg "_law_leaf" s_law_leaf ["_law_well_here", "_law_many"] [] f_law_leaf d_law_leaf
  f_law_term : Addr
  d_law_term : FuncData
  h_law_term : Df K mg "_law_term" s_law_term ["_law_well_here", "_law_deep", "_law_many"] [] f_law_term d_law_term
  f_law_is_compound : Addr
  d_law_is_compound : FuncData
  h_law_is_compound : Df K mg "_law_is_compound" s_law_is_compound ["_law_term_here"] [] f_law_is_compound d_law_is_compound
  f_law_rank : Addr
  d_law_rank : FuncData
  h_law_rank : Df K mg "_law_rank" s_law_rank ["_law_term_here"] [] f_law_rank d_law_rank
  f_law_order : Addr
  d_law_order : FuncData
  h_law_order : Df K mg "_law_order" s_law_order ["_law_one_here", "_law_other"] [] f_law_order d_law_order
  f_law_near : Addr
  d_law_near : FuncData
  h_law_near : Df K mg "_law_near" s_law_near ["_law_well_here", "_law_term_here"] [] f_law_near d_law_near
  f_law_right : Addr
  d_law_right : FuncData
  h_law_right : Df K mg "_law_right" s_law_right ["_law_well_here"] [] f_law_right d_law_right
  f_law : Addr
  d_law : FuncData
  h_law : Df K mg "law" s_law ["_law_script"] [] f_law d_law
  c_VARIABLE : ∃ t, mg "VARIABLE" = some (.int 0 t)
  c_INTEGER : ∃ t, mg "INTEGER" = some (.int 1 t)
  c_ATOM : ∃ t, mg "ATOM" = some (.int 2 t)
  c_COMPOUND : ∃ t, mg "COMPOUND" = some (.int 3 t)
  c_MOST_SIGNS : ∃ t, mg "MOST_SIGNS" = some (.int 40 t)
  c_MOST_ARGUMENTS : ∃ t, mg "MOST_ARGUMENTS" = some (.int 8 t)
  c_BARRED_SIGN : ∃ t, mg "BARRED_SIGN" = some (.int 37 t)
  c_TOO_GREAT : ∃ t, mg "TOO_GREAT" = some (.int tooGreat t)
  b_abs : mg "abs" = none
  b_all : mg "all" = none
  b_bool : mg "bool" = none
  b_dict : mg "dict" = none
  b_enumerate : mg "enumerate" = none
  b_int : mg "int" = none
  b_isinstance : mg "isinstance" = none
  b_len : mg "len" = none
  b_list : mg "list" = none
  b_max : mg "max" = none
  b_min : mg "min" = none
  b_ord : mg "ord" = none
  b_range : mg "range" = none
  b_sorted : mg "sorted" = none
  b_str : mg "str" = none
  b_tuple : mg "tuple" = none
  b_zip : mg "zip" = none
end Hm

set_option Elab.async false
set_option linter.all false
set_option maxRecDepth 100000
set_option maxHeartbeats 4000000
namespace Hm
open PySem PySem.Spec PyProof.Rows L2 HT
open Evl (Ex)
section
variable {P : Program} {w : World} {K : PySem.W.Frag} {mg : Str → Option Value} {base : Heap}
theorem tk_succ {α β : Type} {l : List α} {i : Nat} {x : α} (f : α → β) (h : l[i]? = some x) : (l.take (i + 1)).map f = (l.take i).map f ++ [f x] := by
  rw [List.take_add_one, h]
  simp
theorem yesI {σ : L2.St} {H : Hp} {A B : Hp → Prop} (h : A H) : tYes σ H (fun b H3 => if b = true then A H3 else B H3) := by
  show (if true = true then A H else B H)
  exact iteT h
theorem small5 {n : Nat} (h : n ≤ 100000) : n ≤ sizeLine := Nat.le_trans h (by decide)
theorem small5' {n : Nat} (h : n ≤ 100000) : n < sizeLine := Nat.lt_of_le_of_lt h (by decide)
theorem tyx_tup {H : Hp} {a : Addr} {xs : List V} (h : SqT K H a xs) : TyX K H (.ref a) (.type "tuple") := by
  rcases h with (h | ⟨o, h⟩) | ⟨o, its, n, h1, h2, _⟩
  · exact .base (.tup h)
  · exact .fTuple h
  · exact .kTuple h1 h2
theorem cut1 (x : V) (vs : List V) : cutV (x :: vs) (some 1) none = vs := by
  unfold cutV
  have e : sIx (x :: vs).length 0 (some 1) = 1 := by
    show (if (1 : Int) < 0 then ((1 : Int) + ((x :: vs).length : Int)).toNat else min (1 : Int).toNat (x :: vs).length) = 1
    rw [if_neg (by decide), List.length_cons]
    show min 1 (vs.length + 1) = 1
    omega
  rw [e, sIx_none]
  show (vs.take ((x :: vs).length - 1)) = vs
  rw [List.length_cons]
  exact List.take_of_length_le (by omega)
theorem cut1_ne (x : V) (vs : List V) : ¬ (sIx (x :: vs).length 0 (some 1) = 0 ∧ sIx (x :: vs).length (x :: vs).length none = (x :: vs).length) := by
  intro h
  have e : sIx (x :: vs).length 0 (some 1) = 1 := by
    show (if (1 : Int) < 0 then ((1 : Int) + ((x :: vs).length : Int)).toNat else min (1 : Int).toNat (x :: vs).length) = 1
    rw [if_neg (by decide), List.length_cons]
    show min 1 (vs.length + 1) = 1
    omega
  rw [e] at h
  exact absurd h.1 (by decide)

/-! ### is_integer, of an int -/
def spInt : Sp := fun vs H Q _ => ∃ i, vs = [.int i] ∧ Q (.bl true) H
theorem ok_is_integer (T : Tx K mg) : FnOk P w K mg base CX0 1 T.f_is_integer T.d_is_integer ["thing"] spInt := by
  refine T.h_is_integer.F.ok sc_is_integer (fun vs H Q E h => ?_) (fun cdv A outer s H vs Q E hr h => ?_)
  · obtain ⟨i, rfl, _⟩ := h
    rfl
  obtain ⟨i, rfl, q⟩ := h
  refine ⟨_, (pss_one (ps_ret (pe_and (pe_callB call_isi rfl T.b_isinstance (by decide +kernel) (pa_cons (pv 0) (pa_cons (pe_bltn (v := .ty "int") (u := .type "int") rfl T.b_int (by decide +kernel) rfl) pa_nil))) (pe_one (pe_not (pe_callB call_isi rfl T.b_isinstance (by decide +kernel) (pa_cons (pv 0) (pa_cons (pe_bltn (v := .ty "bool") (u := .type "bool") rfl T.b_bool (by decide +kernel) rfl) pa_nil)))))))), ?_⟩
  refine ⟨_, rfl, _, _, _, _, true, rfl, .ty "int", .base (.int i), kit_ty (by decide +kernel), true, rfl, iteT ?_⟩
  exact ⟨_, rfl, _, _, _, _, false, rfl, .ty "bool", .base (.int i), kit_ty (by decide +kernel), false, rfl, q⟩

/-! ### is_sign, of one sign -/
def signOk (c : Nat) : Bool := decide (32 ≤ c ∧ c ≤ 126 ∧ c ≠ 37)
def spSign : Sp := fun vs H Q _ => ∃ c : Nat, vs = [.str ⟨#[c]⟩] ∧ Q (.bl (signOk c)) H
theorem one_lt {a b : Nat} : (([a] : List Nat) < [b]) ↔ a < b := by
  constructor
  · intro h
    cases h with
    | rel h => exact h
    | cons h => cases h
  · intro h
    exact List.Lex.rel h
theorem ok_is_sign (T : Tx K mg) : FnOk P w K mg base CX0 1 T.f_is_sign T.d_is_sign ["sign"] spSign := by
  refine T.h_is_sign.F.ok sc_is_sign (fun vs H Q E h => ?_) (fun cdv A outer s H vs Q E hr h => ?_)
  · obtain ⟨c, rfl, _⟩ := h
    rfl
  obtain ⟨c, rfl, q⟩ := h
  obtain ⟨tk, hc_BARRED_SIGN⟩ := T.c_BARRED_SIGN
  refine ⟨_, (pss_one (ps_ret (pe_and (pe_chain op_le_str op_le_str pe_str (pv 0) pe_str) (pe_one (pe_cmpR op_ne (pe_callB call_ord rfl T.b_ord (by decide +kernel) (pa_cons (pv 0) pa_nil)) (pe_glob (v := .int 37) rfl hc_BARRED_SIGN ⟨_, rfl⟩) (nomark _)))))), ?_⟩
  refine ⟨_, rfl, _, _, rfl, rfl, _, rfl, ?_⟩
  have e1 : (!decide ((⟨#[c]⟩ : Str).cps.toList < (" " : Str).cps.toList)) = decide (32 ≤ c) := by
    show (!decide (([c] : List Nat) < [32])) = _
    by_cases h : c < 32
    · rw [decide_eq_true (one_lt.mpr h), decide_eq_false (by omega)]
      rfl
    · rw [decide_eq_false (fun z => h (one_lt.mp z)), decide_eq_true (by omega)]
      rfl
  have e2 : (!decide (("~" : Str).cps.toList < (⟨#[c]⟩ : Str).cps.toList)) = decide (c ≤ 126) := by
    show (!decide (([126] : List Nat) < [c])) = _
    by_cases h : 126 < c
    · rw [decide_eq_true (one_lt.mpr h), decide_eq_false (by omega)]
      rfl
    · rw [decide_eq_false (fun z => h (one_lt.mp z)), decide_eq_true (by omega)]
      rfl
  rw [e1]
  by_cases h1 : 32 ≤ c
  · rw [decide_eq_true h1]
    refine iteT ⟨_, _, rfl, rfl, _, rfl, ?_⟩
    rw [e2]
    by_cases h2 : c ≤ 126
    · rw [decide_eq_true h2]
      refine iteT ⟨_, rfl, _, rfl, rfl, rfl, ?_⟩
      have e3 : (!decide (V.int (((#[c] : Array Nat).getD 0 0 : Nat) : Int) = V.int 37)) = signOk c := by
        show (!decide (V.int (c : Int) = V.int 37)) = _
        unfold signOk
        by_cases h3 : c = 37
        · subst h3
          decide
        · rw [decide_eq_false (by intro z; injection z with z; omega), decide_eq_true ⟨h1, h2, h3⟩]
          rfl
      exact e3 ▸ q
    · rw [decide_eq_false h2]
      refine iteF ?_
      have : signOk c = false := decide_eq_false (fun z => h2 z.2.1)
      exact this ▸ q
  · rw [decide_eq_false h1]
    refine iteF ⟨_, rfl, iteF ?_⟩
    have : signOk c = false := decide_eq_false (fun z => h1 z.1)
    exact this ▸ q

/-! ### is_atom, of an atom or an int -/
def spAtom : Sp := fun vs H Q _ => ∃ x, vs = [x] ∧ ((∃ s, x = .str s ∧ AtomOk s ∧ ∀ H', Ex H H' → Q (.bl true) H') ∨ (∃ i, x = .int i ∧ Q (.bl false) H))
theorem ok_is_atom (T : Tx K mg) : FnOk P w K mg base CX0 2 T.f_is_atom T.d_is_atom ["thing"] spAtom := by
  refine T.h_is_atom.F.ok sc_is_atom (fun vs H Q E h => ?_) (fun cdv A outer s H vs Q E hr h => ?_)
  · obtain ⟨x, rfl, _⟩ := h
    rfl
  obtain ⟨x, rfl, h⟩ := h
  obtain ⟨tk, hc_MOST_SIGNS⟩ := T.c_MOST_SIGNS
  refine ⟨_, (pss_one (ps_ret (pe_and (pe_callB call_isi rfl T.b_isinstance (by decide +kernel) (pa_cons (pv 0) (pa_cons (pe_bltn (v := .ty "str") (u := .type "str") rfl T.b_str (by decide +kernel) rfl) pa_nil))) (pe_and (pe_cmpR op_le (pe_callB call_len_str rfl T.b_len (by decide +kernel) (pa_cons (pv 0) pa_nil)) (pe_glob (v := .int 40) rfl hc_MOST_SIGNS ⟨_, rfl⟩) (nomark _)) (pe_one (pe_callB (cr_all rfl) rfl T.b_all (by decide +kernel) (pa_cons (pe_lc (own := [("sign", 1)]) (g := gName 1) rfl sc_is_atom.nd (pi_str (pv 0)) (blkOk_by (own := [("sign", 1)]) (N := ["thing", "sign"]) (sc := defScope s_is_atom) (by decide +kernel)) (fun _ _ _ _ _ => pg_name (i := 1) sc_is_atom.nd rfl (Or.inl rfl)) (fun _ _ _ _ _ => pts_nil) (fun _ _ _ _ _ => (cl (ok_is_sign T) T.h_is_sign hr (pa_cons (pv 1) pa_nil)))) pa_nil))))))), ?_⟩
  rcases h with ⟨z, rfl, ⟨hz, hc⟩, q⟩ | ⟨i, rfl, q⟩
  · refine ⟨_, rfl, _, _, _, _, true, rfl, .ty "str", .base (.str z), kit_ty (by decide +kernel), true, rfl, iteT ?_⟩
    have hl : z.length ≤ 40 := hz
    refine ⟨_, rfl, z, rfl, small5 (by omega), _, _, rfl, rfl, _, rfl, ?_⟩
    rw [decide_eq_true (show ((z.length : Nat) : Int) ≤ 40 by omega)]
    refine iteT ⟨_, rfl, z, rfl, fun D hD => lc_it walk_str (fun i H' => Ex H H' ∧ H' D = some (.lst ((z.cps.toList.take i).map fun c => V.bl (signOk c)))) ⟨Ex.new hD, upd_same⟩ (fun _ _ _ _ => trivial) ?_ ?_⟩
    · rintro i x H1 H2 hi ⟨e1, hL⟩ ⟨rfl, c, hc', rfl⟩
      refine ⟨rfl, yesI ⟨_, rfl, c, rfl, _, hL, ?_, Ex.mut e1 hD, ?_⟩⟩
      · rw [List.length_map, List.length_take]
        exact small5' (by omega)
      · rw [upd_same, tk_succ (x := c)]
        rw [← hc', Array.getElem?_toList]
    · rintro H1 ⟨e1, hL⟩
      refine ⟨D, z.cps.toList.map signOk, rfl, SqL.of ?_, ?_⟩
      · rw [hL, List.take_of_length_le (by simp), List.map_map]
        rfl
      · have : (z.cps.toList.map signOk).all id = true := by
          rw [List.all_map, List.all_eq_true]
          intro c hm
          exact decide_eq_true (hc c hm)
        rw [this]
        exact q _ e1
  · refine ⟨_, rfl, _, _, _, _, false, rfl, .ty "str", .base (.int i), kit_ty (by decide +kernel), false, rfl, iteF q⟩

/-! ### is_number, of an int from 0 on -/
def spNum : Sp := fun vs H Q _ => ∃ i : Int, vs = [.int i] ∧ 0 ≤ i ∧ Q (.bl true) H
theorem ok_is_number (T : Tx K mg) : FnOk P w K mg base CX0 2 T.f_is_number T.d_is_number ["thing"] spNum := by
  refine T.h_is_number.F.ok sc_is_number (fun vs H Q E h => ?_) (fun cdv A outer s H vs Q E hr h => ?_)
  · obtain ⟨x, rfl, _⟩ := h
    rfl
  obtain ⟨i, rfl, h0, q⟩ := h
  refine ⟨_, (pss_one (ps_ret (pe_and (cl (ok_is_integer T) T.h_is_integer hr (pa_cons (pv 0) pa_nil)) (pe_one (pe_cmpR op_ge (pv 0) pe_int (nomark _)))))), ?_⟩
  refine ⟨_, rfl, i, rfl, true, rfl, iteT ⟨_, rfl, _, _, rfl, rfl, ?_⟩⟩
  show Q (.bl (decide ((0 : Int) ≤ i))) H
  rw [decide_eq_true h0]
  exact q

/-! ### arguments_of, of a term -/
def spArgs (K : PySem.W.Frag) : Sp := fun vs H Q _ => ∃ v t, vs = [v] ∧ Rep K H t v ∧ ∀ p ws H', H p = none → Ex H H' → H' p = some (.tup ws) → Reps K H' t.args ws → Q (.ref p) H'
theorem ok_arguments_of (T : Tx K mg) : FnOk P w K mg base CX0 1 T.f_arguments_of T.d_arguments_of ["part"] (spArgs K) := by
  refine T.h_arguments_of.F.ok sc_arguments_of (fun vs H Q E h => ?_) (fun cdv A outer s H vs Q E hr h => ?_)
  · obtain ⟨v, t, rfl, _⟩ := h
    rfl
  obtain ⟨v, t, rfl, hR, q⟩ := h
  refine ⟨_, (pss_one (ps_ret (pe_ifExp (pt_val (pe_callB call_isi rfl T.b_isinstance (by decide +kernel) (pa_cons (pv 0) (pa_cons (pe_bltn (v := .ty "tuple") (u := .type "tuple") rfl T.b_tuple (by decide +kernel) rfl) pa_nil)))) (pe_slice sl_tup (pv 0) (po_some pe_int) po_none) (pe_tup pa_nil)))), ?_⟩
  cases t with
  | var k =>
    unfold Rep at hR
    obtain ⟨a, rfl, hT⟩ := hR
    refine ⟨_, rfl, _, _, _, _, true, rfl, .ty "tuple", tyx_tup hT, kit_ty (by decide +kernel), true, rfl, iteT ?_⟩
    refine ⟨_, rfl, _, rfl, a, _, rfl, hT, cut1_ne _ _, fun p hp => ?_⟩
    rw [cut1]
    exact q p _ _ hp (Ex.new hp) upd_same Reps.nil
  | int i =>
    unfold Rep at hR
    subst hR
    refine ⟨_, rfl, _, _, _, _, false, rfl, .ty "tuple", .base (.int i), kit_ty (by decide +kernel), false, rfl, iteF ?_⟩
    exact ⟨Nat.zero_le _, fun p hp => q p _ _ hp (Ex.new hp) upd_same Reps.nil⟩
  | atom z =>
    unfold Rep at hR
    subst hR
    refine ⟨_, rfl, _, _, _, _, false, rfl, .ty "tuple", .base (.str z), kit_ty (by decide +kernel), false, rfl, iteF ?_⟩
    exact ⟨Nat.zero_le _, fun p hp => q p _ _ hp (Ex.new hp) upd_same Reps.nil⟩
  | comp f as =>
    unfold Rep at hR
    obtain ⟨a, ws, rfl, hT, hA⟩ := hR
    refine ⟨_, rfl, _, _, _, _, true, rfl, .ty "tuple", tyx_tup hT, kit_ty (by decide +kernel), true, rfl, iteT ?_⟩
    refine ⟨_, rfl, _, rfl, a, _, rfl, hT, cut1_ne _ _, fun p hp => ?_⟩
    rw [cut1]
    exact q p ws _ hp (Ex.new hp) upd_same (hA.mono (Tups.of (Ex.new hp)))

/-! ### is_variable, of a term -/
def isVar : Tm → Bool
  | .var _ => true
  | _ => false
def spIsVar (K : PySem.W.Frag) : Sp := fun vs H Q _ => ∃ v t, vs = [v] ∧ Rep K H t v ∧ Ok t ∧ Q (.bl (isVar t)) H
theorem dec_len {n m : Nat} : decide (V.int (n : Int) = V.int (m : Int)) = decide (n = m) := by
  by_cases h : n = m
  · subst h
    simp
  · rw [decide_eq_false h, decide_eq_false]
    intro z
    injection z with z
    omega
theorem ok_is_variable (T : Tx K mg) : FnOk P w K mg base CX0 1 T.f_is_variable T.d_is_variable ["part"] (spIsVar K) := by
  refine T.h_is_variable.F.ok sc_is_variable (fun vs H Q E h => ?_) (fun cdv A outer s H vs Q E hr h => ?_)
  · obtain ⟨v, t, rfl, _⟩ := h
    rfl
  obtain ⟨v, t, rfl, hR, hO, q⟩ := h
  refine ⟨_, (pss_one (ps_ret (pe_and (pe_callB call_isi rfl T.b_isinstance (by decide +kernel) (pa_cons (pv 0) (pa_cons (pe_bltn (v := .ty "tuple") (u := .type "tuple") rfl T.b_tuple (by decide +kernel) rfl) pa_nil))) (pe_one (pe_cmpR op_eq (pe_callB call_len_seq rfl T.b_len (by decide +kernel) (pa_cons (pv 0) pa_nil)) pe_int (nomark _)))))), ?_⟩
  cases t with
  | var k =>
    unfold Rep at hR
    obtain ⟨a, rfl, hT⟩ := hR
    refine ⟨_, rfl, _, _, _, _, true, rfl, .ty "tuple", tyx_tup hT, kit_ty (by decide +kernel), true, rfl, iteT ?_⟩
    exact ⟨_, rfl, a, _, rfl, .inr hT, rfl, q⟩
  | int i =>
    unfold Rep at hR
    subst hR
    exact ⟨_, rfl, _, _, _, _, false, rfl, .ty "tuple", .base (.int i), kit_ty (by decide +kernel), false, rfl, iteF q⟩
  | atom z =>
    unfold Rep at hR
    subst hR
    exact ⟨_, rfl, _, _, _, _, false, rfl, .ty "tuple", .base (.str z), kit_ty (by decide +kernel), false, rfl, iteF q⟩
  | comp f as =>
    unfold Rep at hR
    obtain ⟨a, ws, rfl, hT, hA⟩ := hR
    refine ⟨_, rfl, _, _, _, _, true, rfl, .ty "tuple", tyx_tup hT, kit_ty (by decide +kernel), true, rfl, iteT ?_⟩
    refine ⟨_, rfl, a, _, rfl, .inr hT, rfl, ?_⟩
    have hl := hA.len
    unfold Ok at hO
    have e : decide (V.int (((V.str f :: ws).length : Nat) : Int) = V.int 1) = false := by
      rw [show (V.int 1) = V.int ((1 : Nat) : Int) from rfl, dec_len, decide_eq_false]
      rw [List.length_cons]
      omega
    rw [e]
    exact q
end
end Hm

set_option Elab.async false
set_option linter.all false
set_option maxRecDepth 100000
set_option maxHeartbeats 4000000
namespace Hm
open PySem PySem.Spec PyProof.Rows L2 HT
open Evl (Ex)
section
variable {P : Program} {w : World} {K : PySem.W.Frag} {mg : Str → Option Value} {base : Heap}

theorem at0 {α : Type} {x : α} {xs : List α} : atI (x :: xs) 0 = some x := atI_nat (j := 0) rfl
/-! ### _is_part, of a term -/
def spPart (K : PySem.W.Frag) : Sp := fun vs H Q _ => ∃ v t, vs = [v] ∧ Rep K H t v ∧ Ok t ∧ ∀ H', Ex H H' → Q (.bl true) H'
theorem ok_is_part (T : Tx K mg) : FnOk P w K mg base CX0 3 T.f_is_part T.d_is_part ["thing"] (spPart K) := by
  refine T.h_is_part.F.ok sc_is_part (fun vs H Q E h => ?_) (fun cdv A outer s H vs Q E hr h => ?_)
  · obtain ⟨v, t, rfl, _⟩ := h
    rfl
  obtain ⟨v, t, rfl, hR, hO, q⟩ := h
  obtain ⟨tk, hc_TOO_GREAT⟩ := T.c_TOO_GREAT
  obtain ⟨tk2, hc_MOST_ARGUMENTS⟩ := T.c_MOST_ARGUMENTS
  refine ⟨_, (pss_cons (ps_if (pt_not (pt_val (pe_callB call_isi rfl T.b_isinstance (by decide +kernel) (pa_cons (pv 0) (pa_cons (pe_bltn (v := .ty "tuple") (u := .type "tuple") rfl T.b_tuple (by decide +kernel) rfl) pa_nil)))))
      (pss_one (ps_ret (pe_or (cl (ok_is_atom T) T.h_is_atom hr (pa_cons (pv 0) pa_nil)) (pe_one (pe_and (cl (ok_is_integer T) T.h_is_integer hr (pa_cons (pv 0) pa_nil)) (pe_one (pe_chain op_lt op_lt (pe_un un_neg (pe_glob (v := .int tooGreat) rfl hc_TOO_GREAT ⟨_, rfl⟩)) (pv 0) (pe_glob (v := .int tooGreat) rfl hc_TOO_GREAT ⟨_, rfl⟩))))))))
      pss_nil)
    (pss_cons (ps_if (pt_cmpR op_eq (pe_callB call_len_seq rfl T.b_len (by decide +kernel) (pa_cons (pv 0) pa_nil)) pe_int (nomark _))
      (pss_one (ps_ret (cl (ok_is_number T) T.h_is_number hr (pa_cons (pe_ix ix_tup (pv 0) pe_int (fun _ _ => rfl)) pa_nil))))
      pss_nil)
    (pss_one (ps_ret (pe_and (pe_chain op_le op_le pe_int (pe_callB call_len_seq rfl T.b_len (by decide +kernel) (pa_cons (pv 0) pa_nil)) (pe_op op_add (pe_glob (v := .int 8) rfl hc_MOST_ARGUMENTS ⟨_, rfl⟩) pe_int)) (pe_one (cl (ok_is_atom T) T.h_is_atom hr (pa_cons (pe_ix ix_tup (pv 0) pe_int (fun _ _ => rfl)) pa_nil)))))))), ?_⟩
  cases t with
  | var k =>
    unfold Rep at hR
    obtain ⟨a, rfl, hT⟩ := hR
    unfold Ok at hO
    refine ⟨_, rfl, _, _, _, _, true, rfl, .ty "tuple", tyx_tup hT, kit_ty (by decide +kernel), true, rfl, iteF ?_⟩
    refine ⟨_, rfl, a, _, rfl, .inr hT, rfl, _, rfl, iteT ?_⟩
    exact ⟨_, rfl, a, _, 0, _, rfl, rfl, hT, rfl, k, rfl, hO, q _ (Ex.refl _)⟩
  | int i =>
    unfold Rep at hR
    subst hR
    unfold Ok at hO
    refine ⟨_, rfl, _, _, _, _, false, rfl, .ty "tuple", .base (.int i), kit_ty (by decide +kernel), false, rfl, iteT ?_⟩
    refine ⟨_, rfl, _, rfl, .inr ⟨i, rfl, false, rfl, iteF ?_⟩⟩
    refine ⟨_, rfl, i, rfl, true, rfl, iteT ?_⟩
    refine ⟨tooGreat, rfl, _, rfl, _, _, rfl, rfl, _, rfl, ?_⟩
    rw [decide_eq_true hO.1]
    refine iteT ⟨_, _, rfl, rfl, ?_⟩
    show Q (.bl (decide (i < tooGreat))) H
    rw [decide_eq_true hO.2]
    exact q _ (Ex.refl _)
  | atom z =>
    unfold Rep at hR
    subst hR
    unfold Ok at hO
    refine ⟨_, rfl, _, _, _, _, false, rfl, .ty "tuple", .base (.str z), kit_ty (by decide +kernel), false, rfl, iteT ?_⟩
    exact ⟨_, rfl, _, rfl, .inl ⟨z, rfl, hO, fun H' e => ⟨true, rfl, iteT (q _ e)⟩⟩⟩
  | comp f as =>
    unfold Rep at hR
    obtain ⟨a, ws, rfl, hT, hA⟩ := hR
    have hl := hA.len
    unfold Ok at hO
    refine ⟨_, rfl, _, _, _, _, true, rfl, .ty "tuple", tyx_tup hT, kit_ty (by decide +kernel), true, rfl, iteF ?_⟩
    refine ⟨_, rfl, a, _, rfl, .inr hT, rfl, _, rfl, ?_⟩
    have e : decide (V.int (((V.str f :: ws).length : Nat) : Int) = V.int 1) = false := by
      rw [show (V.int 1) = V.int ((1 : Nat) : Int) from rfl, dec_len, decide_eq_false]
      rw [List.length_cons]
      omega
    rw [e]
    refine iteF ?_
    refine ⟨_, rfl, a, _, rfl, .inr hT, _, _, rfl, rfl, _, rfl, ?_⟩
    rw [List.length_cons]
    rw [decide_eq_true (show (2 : Int) ≤ ((ws.length + 1 : Nat) : Int) by omega)]
    refine iteT ⟨_, _, rfl, rfl, _, _, rfl, rfl, _, rfl, ?_⟩
    rw [decide_eq_true (show ((ws.length + 1 : Nat) : Int) ≤ (8 : Int) + 1 by omega)]
    refine iteT ⟨_, rfl, a, _, 0, _, rfl, rfl, hT, at0, _, rfl, .inl ⟨f, rfl, hO.1, q⟩⟩

/-! ### is_term, demand_term -/
theorem list_end {α : Type} (l : List α) : l = [] ∨ ∃ r x, l = r ++ [x] := by
  cases h : l.reverse with
  | nil => exact .inl (by simpa using h)
  | cons x r =>
    refine .inr ⟨r.reverse, x, ?_⟩
    have := congrArg List.reverse h
    simpa using this
theorem last_app {α : Type} (r : List α) (x : α) : (r ++ [x])[(r ++ [x]).length - 1]? = some x := by simp
theorem drop_app {α : Type} (r : List α) (x : α) : (r ++ [x]).dropLast = r := by simp
/-- what a call of a def of the program asks and promises: of a term, something that is true from then on -/
def spTerm (K : PySem.W.Frag) (G : Tm → V → Prop) : Sp := fun vs H Q _ => ∃ v t, vs = [v] ∧ Rep K H t v ∧ Ok t ∧ size t ≤ 50000 ∧ ∀ u H', Ex H H' → G t u → Q u H'
theorem ok_is_term (T : Tx K mg) : FnOk P w K mg base CX0 4 T.f_is_term T.d_is_term ["thing"] (spTerm K fun _ u => u = .bl true) := by
  refine T.h_is_term.F.ok sc_is_term (fun vs H Q E h => ?_) (fun cdv A outer s H vs Q E hr h => ?_)
  · obtain ⟨v, t, rfl, _⟩ := h
    rfl
  obtain ⟨v, t, rfl, hR, hO, hz, q⟩ := h
  refine ⟨_, (pss_cons (ps_set (i := 1) sc_is_term.nd rfl (Or.inl rfl) (pe_lst (pa_cons (pv 0) pa_nil)))
    (pss_cons (ps_while PassesOwn.never (pt_truth (pv 1) (by intro _; rfl))
      (pss_cons (ps_set (i := 2) sc_is_term.nd rfl (Or.inl rfl) (pe_bm0 PySem.F.plainAttrs_list PySem.F.slot_list_pop PySem.F.type_list_pop mt_pop (pv 1)))
    (pss_cons (ps_if (pt_not (pt_val (cl (ok_is_part T) T.h_is_part hr (pa_cons (pv 2) pa_nil))))
      (pss_one (ps_ret pe_bl))
      pss_nil)
    (pss_one (ps_expr (pe_bm PySem.F.plainAttrs_list PySem.F.slot_list_extend PySem.F.type_list_extend mt_extT (pv 1) (pa_cons (cl (ok_arguments_of T) T.h_arguments_of hr (pa_cons (pv 2) pa_nil)) pa_nil)))))))
    (pss_one (ps_ret pe_bl)))), ?_⟩
  refine ⟨_, rfl, (by show 1 ≤ sizeLine; decide), fun l hl => ?_⟩
  refine ⟨fun m σ' H' => ∃ x ts ws, σ' = [some v, some (.ref l), x] ∧ Ex H H' ∧ H' l = some (.lst ws) ∧ Reps K H' ts ws ∧ Oks ts ∧ sizes ts = m ∧ m ≤ 50000,
    ⟨size t, none, [t], [v], rfl, Ex.new hl, upd_same, Reps.one (hR.mono (Tups.of (Ex.new hl))), ?_, sizes_one t, hz⟩, ?_⟩
  · rw [oks_cons]
    exact ⟨hO, trivial⟩
  rintro m σ' H' ⟨x, ts, ws, rfl, e1, hL, hRs, hOs, rfl, hm⟩
  refine ⟨_, rfl, _, .inl ⟨ws, SqL.of hL, rfl⟩, ?_⟩
  rcases list_end ts with rfl | ⟨ts, t', rfl⟩
  · rw [hRs.nil_inv]
    exact iteF (q _ _ e1 rfl)
  · obtain ⟨ws, v', rfl, hR1, hR2⟩ := hRs.last
    have hne : (!(ws ++ [v']).isEmpty) = true := by simp
    rw [hne]
    have hO2 := oks_app.mp hOs
    rw [oks_cons] at hO2
    rw [sizes_app, sizes_one] at hm ⊢
    refine iteT ⟨fun σ2 H2 => ∃ m', m' < sizes ts + size t' ∧ ∃ x ts ws, σ2 = [some v, some (.ref l), x] ∧ Ex H H2 ∧ H2 l = some (.lst ws) ∧ Reps K H2 ts ws ∧ Oks ts ∧ sizes ts = m' ∧ m' ≤ 50000, fun _ _ h => h, ?_⟩
    refine ⟨_, rfl, .inl ⟨rfl, _, SqL.of hL⟩, l, _, v', rfl, rfl, hL, last_app _ _, ?_⟩
    rw [drop_app]
    have t1 : Tups K H' (upd H' l (.lst ws)) := Tups.lst hL
    refine ⟨_, rfl, v', t', rfl, hR2.mono t1, hO2.2.1, fun H2 e2 => ⟨true, rfl, iteF ?_⟩⟩
    have hL2 : H2 l = some (.lst ws) := e2 l _ upd_same
    refine ⟨_, rfl, .inl ⟨rfl, _, SqL.of hL2⟩, _, rfl, v', t', rfl, (hR2.mono t1).mono (Tups.of e2), fun p us H3 hp e3 hU hUs => ?_⟩
    have hL3 : H3 l = some (.lst ws) := e3 l _ hL2
    have hlen := hR1.len
    have hlen2 := hUs.len
    have z1 := len_sizes ts
    have z2 := len_sizes t'.args
    have z3 := size_eq t'
    refine ⟨l, p, ws, us, rfl, rfl, hL3, SqT.of hU, small5 (by omega), sizes (ts ++ t'.args), ?_, _, ts ++ t'.args, ws ++ us, rfl, ?_, upd_same, ?_, ?_, rfl, ?_⟩
    · rw [sizes_app]
      omega
    · have e4 : Ex H (upd H' l (.lst ws)) := Ex.mut e1 hl
      exact Ex.mut ((e4.trans e2).trans e3) hl
    · have t3 : Tups K (upd H' l (.lst ws)) (upd H3 l (.lst (ws ++ us))) := ((Tups.of e2).trans (Tups.of e3)).trans (Tups.lst hL3)
      exact Reps.app ((hR1.mono t1).mono t3) (hUs.mono (Tups.lst hL3))
    · exact oks_app.mpr ⟨hO2.1, ok_args hO2.2.1⟩
    · rw [sizes_app]
      omega
theorem ok_demand_term (T : Tx K mg) : FnOk P w K mg base CX0 5 T.f_demand_term T.d_demand_term ["term"] (spTerm K fun _ _ => True) := by
  refine T.h_demand_term.F.ok sc_demand_term (fun vs H Q E h => ?_) (fun cdv A outer s H vs Q E hr h => ?_)
  · obtain ⟨v, t, rfl, _⟩ := h
    rfl
  obtain ⟨v, t, rfl, hR, hO, hz, q⟩ := h
  refine ⟨_, (pss_one (ps_if (pt_not (pt_val (cl (ok_is_term T) T.h_is_term hr (pa_cons (pv 0) pa_nil))))
      (pss_one ps_never)
      pss_nil)), ?_⟩
  refine ⟨_, rfl, v, t, rfl, hR, hO, hz, fun u H' e hu => ?_⟩
  subst hu
  exact ⟨true, rfl, iteF (q _ _ e trivial)⟩

/-! ### parts_of -/
def spParts (K : PySem.W.Frag) : Sp := fun vs H Q _ => ∃ v t, vs = [v] ∧ Rep K H t v ∧ size t ≤ 50000 ∧ ∀ p ws H', H p = none → Ex H H' → H' p = some (.lst ws) → Reps K H' (pre t) ws → Q (.ref p) H'
theorem ok_parts_of (T : Tx K mg) : FnOk P w K mg base CX0 2 T.f_parts_of T.d_parts_of ["term"] (spParts K) := by
  refine T.h_parts_of.F.ok sc_parts_of (fun vs H Q E h => ?_) (fun cdv A outer s H vs Q E hr h => ?_)
  · obtain ⟨v, t, rfl, _⟩ := h
    rfl
  obtain ⟨v, t, rfl, hR, hz, q⟩ := h
  refine ⟨_, (pss_cons (ps_set (i := 1) sc_parts_of.nd rfl (Or.inl rfl) (pe_lst pa_nil))
    (pss_cons (ps_set (i := 2) sc_parts_of.nd rfl (Or.inl rfl) (pe_lst (pa_cons (pv 0) pa_nil)))
    (pss_cons (ps_while PassesOwn.never (pt_truth (pv 2) (by intro _; rfl))
      (pss_cons (ps_set (i := 3) sc_parts_of.nd rfl (Or.inl rfl) (pe_bm0 PySem.F.plainAttrs_list PySem.F.slot_list_pop PySem.F.type_list_pop mt_pop (pv 2)))
    (pss_cons (ps_expr (pe_bm PySem.F.plainAttrs_list PySem.F.slot_list_append PySem.F.type_list_append mt_append (pv 1) (pa_cons (pv 3) pa_nil)))
    (pss_one (ps_expr (pe_bm PySem.F.plainAttrs_list PySem.F.slot_list_extend PySem.F.type_list_extend mt_extT (pv 2) (pa_cons (pe_revT (cl (ok_arguments_of T) T.h_arguments_of hr (pa_cons (pv 3) pa_nil))) pa_nil)))))))
    (pss_one (ps_ret (pv 1)))))), ?_⟩
  refine ⟨Nat.zero_le _, fun f hf => ?_⟩
  refine ⟨_, rfl, (by show 1 ≤ sizeLine; decide), fun l hl' => ?_⟩
  have hfl : f ≠ l := by
    intro e
    subst e
    rw [upd_same] at hl'
    cases hl'
  have hl : H l = none := by
    rw [upd_ne hfl.symm] at hl'
    exact hl'
  have e0 : Ex H (upd (upd H f (.lst [])) l (.lst [v])) := (Ex.new hf).trans (Ex.new hl')
  refine ⟨fun m σ' H' => ∃ x ts ws ds us, σ' = [some v, some (.ref f), some (.ref l), x] ∧ Ex H H' ∧ H' l = some (.lst ws) ∧ Reps K H' ts ws ∧ H' f = some (.lst us) ∧ Reps K H' ds us ∧ ds ++ pres ts.reverse = pre t ∧ sizes ts = m ∧ sizes ts + ds.length ≤ 50000,
    ⟨size t, none, [t], [v], [], [], rfl, e0, upd_same, Reps.one (hR.mono (Tups.of e0)), (by rw [upd_ne hfl, upd_same]), Reps.nil, ?_, sizes_one t, ?_⟩, ?_⟩
  · show pres [t] = pre t
    rw [pres_cons]
    unfold pres
    rw [List.append_nil]
  · rw [sizes_one]
    exact hz
  rintro m σ' H' ⟨x, ts, ws, ds, us, rfl, e1, hL, hRs, hF, hDs, hpre, rfl, hm⟩
  refine ⟨_, rfl, _, .inl ⟨ws, SqL.of hL, rfl⟩, ?_⟩
  rcases list_end ts with rfl | ⟨ts, t', rfl⟩
  · rw [hRs.nil_inv]
    refine iteF ⟨_, rfl, q f us _ hf e1 hF ?_⟩
    rw [← hpre]
    show Reps K H' (ds ++ pres []) us
    unfold pres
    rw [List.append_nil]
    exact hDs
  · obtain ⟨ws, v', rfl, hR1, hR2⟩ := hRs.last
    have hne : (!(ws ++ [v']).isEmpty) = true := by simp
    rw [hne]
    rw [sizes_app, sizes_one] at hm ⊢
    refine iteT ⟨fun σ2 H2 => ∃ m', m' < sizes ts + size t' ∧ ∃ x ts ws ds us, σ2 = [some v, some (.ref f), some (.ref l), x] ∧ Ex H H2 ∧ H2 l = some (.lst ws) ∧ Reps K H2 ts ws ∧ H2 f = some (.lst us) ∧ Reps K H2 ds us ∧ ds ++ pres ts.reverse = pre t ∧ sizes ts = m' ∧ sizes ts + ds.length ≤ 50000, fun _ _ h => h, ?_⟩
    refine ⟨_, rfl, .inl ⟨rfl, _, SqL.of hL⟩, l, _, v', rfl, rfl, hL, last_app _ _, ?_⟩
    rw [drop_app]
    have t1 : Tups K H' (upd H' l (.lst ws)) := Tups.lst hL
    have hF1 : (upd H' l (.lst ws)) f = some (.lst us) := by rw [upd_ne hfl]; exact hF
    have z0 := hDs.len
    have z4 := size_pos t'
    refine ⟨_, rfl, .inl ⟨rfl, _, SqL.of hF1⟩, _, rfl, f, us, v', rfl, rfl, hF1, small5' (by omega), ?_⟩
    have t2 : Tups K (upd H' l (.lst ws)) (upd (upd H' l (.lst ws)) f (.lst (us ++ [v']))) := Tups.lst hF1
    have hL2 : (upd (upd H' l (.lst ws)) f (.lst (us ++ [v']))) l = some (.lst ws) := by rw [upd_ne hfl.symm, upd_same]
    refine ⟨_, rfl, .inl ⟨rfl, _, SqL.of hL2⟩, _, rfl, v', t', rfl, (hR2.mono t1).mono t2, fun p ys H3 hp e3 hU hUs => ?_⟩
    refine ⟨p, ys, rfl, SqT.of hU, fun p' hp' => ?_⟩
    have e4 := Ex.new (o := HO.tup ys.reverse) hp'
    have hL4 : (upd H3 p' (.tup ys.reverse)) l = some (.lst ws) := e4 l _ (e3 l _ hL2)
    have hF4 : (upd H3 p' (.tup ys.reverse)) f = some (.lst (us ++ [v'])) := e4 f _ (e3 f _ upd_same)
    have hlen := hR1.len
    have hlen2 := hUs.len
    have z1 := len_sizes ts
    have z2 := len_sizes t'.args
    have z3 := size_eq t'
    refine ⟨l, p', ws, ys.reverse, rfl, rfl, hL4, SqT.of upd_same, small5 (by rw [List.length_reverse]; omega), sizes (ts ++ t'.args.reverse), ?_, _, ts ++ t'.args.reverse, ws ++ ys.reverse, ds ++ [t'], us ++ [v'], rfl, ?_, upd_same, ?_, ?_, ?_, ?_, rfl, ?_⟩
    · rw [sizes_app, sizes_rev]
      omega
    · have e5 : Ex H (upd (upd H' l (.lst ws)) f (.lst (us ++ [v']))) := Ex.mut (Ex.mut e1 hl) hf
      exact Ex.mut ((e5.trans e3).trans e4) hl
    · have t3 := ((Tups.of (K := K) e3).trans (Tups.of e4)).trans (Tups.lst (o := HO.lst (ws ++ ys.reverse)) hL4)
      exact Reps.app (((hR1.mono t1).mono t2).mono t3) ((hUs.rev.mono (Tups.of e4)).mono (Tups.lst hL4))
    · rw [upd_ne hfl]
      exact hF4
    · have t3 := ((Tups.of (K := K) e3).trans (Tups.of e4)).trans (Tups.lst (o := HO.lst (ws ++ ys.reverse)) hL4)
      exact Reps.app (((hDs.mono t1).mono t2).mono t3) (Reps.one (((hR2.mono t1).mono t2).mono t3))
    · rw [← hpre, List.reverse_append, List.reverse_append, List.reverse_reverse, pres_app, List.append_assoc]
      show ds ++ ([t'] ++ (pres t'.args ++ pres ts.reverse)) = ds ++ pres (t' :: ts.reverse)
      rw [pres_cons, pre_eq t']
      simp
    · rw [sizes_app, sizes_rev, List.length_append, List.length_singleton]
      omega
end
end Hm

set_option Elab.async false
set_option linter.all false
set_option maxRecDepth 100000
set_option maxHeartbeats 4000000
namespace Hm
open PySem PySem.Spec PyProof.Rows L2 HT
open Evl (Ex)
/-! ## two more operators -/
def CPowW (i j : Int) : Prop := 0 ≤ j ∧ (Builtin.Int.intBits i : Int) * j ≤ 2 ^ 27
def rMulS : R2 := fun x y H Q => ∃ z k, x = .str z ∧ y = .int k ∧ 2 ≤ k ∧ k ≤ 1000 ∧ z.length = 1 ∧ (⟨(List.replicate k.toNat z.cps).foldl (· ++ ·) #[]⟩ : Str).length ≤ sizeLine ∧ Q (.str ⟨(List.replicate k.toNat z.cps).foldl (· ++ ·) #[]⟩) H
section
variable {X : Cx}
theorem op_powW : OpR X (binaryOp .Pow) (rI CPowW fun i j => .int (i ^ j.toNat)) := opI fun _ _ _ _ _ _ _ hc q => pow_int hc.1 hc.2 q
theorem op_mulS : OpR X (binaryOp .Mult) rMulS := by
  intro pins s σ H x y v u Q I rx ry h
  obtain ⟨z, k, rfl, rfl, h1, h2, hz, hl, q⟩ := h
  obtain ⟨t, rfl⟩ := rx
  obtain ⟨t', rfl⟩ := ry
  have hk : ¬ k < 1 := by omega
  have hk1 : ¬ ((k == 1 || z.length == 0) = true) := by
    rw [Bool.or_eq_true]
    rintro (e | e)
    · have := eq_of_beq e
      omega
    · have := eq_of_beq e
      omega
  refine PySem.P.mul_str ?_ (fun _ _ => ?_) (fun _ _ => ?_) ?_
  · rw [decide_eq_false (by omega), decide_eq_false (by omega)]
    rfl
  · rw [hz]
    have : (2 ^ 63 - 1 : Int) / k ≥ 1 := (Int.le_ediv_iff_mul_le (by omega)).mpr (by omega)
    omega
  · rw [hz]
    unfold Builtin.Str.tooLong
    exact decide_eq_false (by rw [sizeLine_eq]; omega)
  · rw [if_neg hk, if_neg hk1]
    exact ⟨hl, ⟨.str _, H, I.tok _, ⟨_, rfl⟩, q⟩⟩
end
/-! ## draws: a well is a list of three numbers that changes; what is drawn is any number that may come -/
def Well (H : Hp) (a : Addr) : Prop := ∃ x y z : Int, H a = some (.lst [.int x, .int y, .int z])
/-- all but the well is as it was -/
structure Dr (a : Addr) (H H' : Hp) : Prop where
  well : Well H' a
  keep : ∀ b o, b ≠ a → H b = some o → H' b = some o
theorem Dr.ex {a : Addr} {H H' : Hp} (h : Well H a) (e : Ex H H') : Dr a H H' := by
  obtain ⟨x, y, z, h⟩ := h
  exact ⟨⟨x, y, z, e _ _ h⟩, fun b o _ q => e b o q⟩
theorem Dr.trans {a : Addr} {H H1 H2 : Hp} (p : Dr a H H1) (q : Dr a H1 H2) : Dr a H H2 := ⟨q.well, fun b o n h => q.keep b o n (p.keep b o n h)⟩
theorem Dr.tups {K : PySem.W.Frag} {a : Addr} {H H' : Hp} (h : Well H a) (d : Dr a H H') : Tups K H H' := fun b ys q => by
  obtain ⟨x, y, z, h⟩ := h
  rcases q with (q | ⟨ob, q⟩) | q
  · exact .inl (.inl (d.keep _ _ (ne_of q h (by intro z; cases z)) q))
  · exact .inl (.inr ⟨ob, d.keep _ _ (ne_of q h (by intro z; cases z)) q⟩)
  · exact .inr q
theorem Dr.sql {K : PySem.W.Frag} {a l : Addr} {xs : List V} {H H' : Hp} (d : Dr a H H') (n : l ≠ a) (h : SqL K H l xs) : SqL K H' l xs := by
  rcases h with (h | ⟨o, h⟩) | h
  · exact .inl (.inl (d.keep _ _ n h))
  · exact .inl (.inr ⟨o, d.keep _ _ n h⟩)
  · exact .inr h
theorem Dr.upd {a : Addr} {H : Hp} {x y z : Int} : Dr a H (upd H a (.lst [.int x, .int y, .int z])) := ⟨⟨x, y, z, upd_same⟩, fun b o n h => by rw [upd_ne n]; exact h⟩
theorem Well.ne {H : Hp} {a p : Addr} (h : Well H a) (hp : H p = none) : p ≠ a := by
  obtain ⟨x, y, z, h⟩ := h
  exact (ne_of_none h hp).symm
theorem Dr.free {a p : Addr} {H H' : Hp} (h : Well H a) (d : Dr a H H') (hp : H' p = none) : H p = none := by
  cases hq : H p with
  | none => rfl
  | some o =>
    by_cases e : p = a
    · subst e
      obtain ⟨x, y, z, w⟩ := d.well
      rw [w] at hp
      cases hp
    · rw [d.keep p o e hq] at hp
      cases hp
section
variable {P : Program} {w : World} {K : PySem.W.Frag} {mg : Str → Option Value} {base : Heap}
def spDraw : Sp := fun vs H Q _ => ∃ a m, vs = [.ref a, .int m] ∧ Well H a ∧ 0 < m ∧ m < 1073741824 ∧ ∀ d H', 0 ≤ d → d < m → Dr a H H' → Q (.int d) H'
theorem mod_in {x m : Int} (h : 0 < m) : 0 ≤ x % m ∧ x % m < m := ⟨Int.emod_nonneg x (by omega), Int.emod_lt_of_pos x h⟩
theorem ok_law_draw (T : Tx K mg) : FnOk P w K mg base CX0 1 T.f_law_draw T.d_law_draw ["_law_well_here", "_law_many"] spDraw := by
  refine T.h_law_draw.F.ok sc_law_draw (fun vs H Q E h => ?_) (fun cdv A outer s H vs Q E hr h => ?_)
  · obtain ⟨v, t, rfl, _⟩ := h
    rfl
  obtain ⟨a, m, rfl, ⟨x, y, z, hW⟩, h0, h1, q⟩ := h
  refine ⟨_, (pss_cons (ps_if (pt_cmpR op_gt (pe_ix ix_list (pv 0) pe_int (fun _ _ => rfl)) pe_int (nomark _))
      (pss_cons (ps_set (i := 2) sc_law_draw.nd rfl (Or.inl rfl) (pe_op op_mod (pe_callTy call_int1 rfl T.b_int (by decide +kernel) (pa_cons (pe_ix ix_list (pv 0) pe_int (fun _ _ => rfl)) pa_nil)) (pv 1)))
    (pss_cons (ps_asg (pe_op op_fdiv (pe_ix ix_list (pv 0) pe_int (fun _ _ => rfl)) (pv 1)) (pg_sub (pv 0) pe_int set_list))
    (pss_one (ps_ret (pv 2)))))
      pss_nil)
    (pss_cons (ps_asg (pe_op op_add (pe_ix ix_list (pv 0) pe_int (fun _ _ => rfl)) pe_int) (pg_sub (pv 0) pe_int set_list))
    (pss_cons (ps_set (i := 3) sc_law_draw.nd rfl (Or.inl rfl) (pe_op op_mod (pe_callTy call_int1 rfl T.b_int (by decide +kernel) (pa_cons (pe_op op_mul (pe_op op_add (pe_ix ix_list (pv 0) pe_int (fun _ _ => rfl)) (pe_op op_mul pe_int (pe_ix ix_list (pv 0) pe_int (fun _ _ => rfl)))) pe_int) pa_nil)) pe_int))
    (pss_cons (ps_set (i := 3) sc_law_draw.nd rfl (Or.inl rfl) (pe_op op_mod (pe_callTy call_int1 rfl T.b_int (by decide +kernel) (pa_cons (pe_op op_mul (pv 3) (pe_op op_add (pe_op op_add (pe_op op_fdiv (pv 3) pe_int) pe_int) (pe_ix ix_list (pv 0) pe_int (fun _ _ => rfl)))) pa_nil)) pe_int))
    (pss_one (ps_ret (pe_op op_mod (pe_callTy call_int1 rfl T.b_int (by decide +kernel) (pa_cons (pe_op op_fdiv (pe_op op_mod (pe_callTy call_int1 rfl T.b_int (by decide +kernel) (pa_cons (pe_op op_mul (pv 3) (pe_op op_add (pe_op op_fdiv (pv 3) pe_int) pe_int)) pa_nil)) pe_int) pe_int) pa_nil)) (pv 1)))))))), ?_⟩
  refine ⟨_, rfl, a, _, 0, _, rfl, rfl, SqL.of hW, at0, _, _, rfl, rfl, _, rfl, ?_⟩
  refine ite2 (fun _ => ?_) (fun _ => ?_)
  · refine ⟨_, rfl, a, _, 0, _, rfl, rfl, SqL.of hW, at0, .inl ⟨_, rfl, _, rfl, _, _, rfl, rfl, h0, ?_⟩⟩
    refine ⟨_, rfl, a, _, 0, _, rfl, rfl, SqL.of hW, at0, _, rfl, _, _, rfl, rfl, ⟨h0, h1⟩, ?_⟩
    refine ⟨_, rfl, a, _, 0, 0, rfl, rfl, hW, rfl, ?_⟩
    refine ⟨_, rfl, q _ _ (mod_in h0).1 (mod_in h0).2 Dr.upd⟩
  · refine ⟨_, rfl, a, _, 2, _, rfl, rfl, SqL.of hW, rfl, _, _, rfl, rfl, ?_⟩
    refine ⟨_, rfl, a, _, 2, 2, rfl, rfl, hW, rfl, ?_⟩
    have hW2 : (upd H a (.lst ([V.int x, .int y, .int z].set 2 (.int (z + 1))))) a = some (.lst [.int x, .int y, .int (z + 1)]) := upd_same
    refine ⟨_, rfl, a, _, 1, _, rfl, rfl, SqL.of hW2, rfl, ?_⟩
    refine ⟨_, rfl, a, _, 2, _, rfl, rfl, SqL.of hW2, rfl, _, _, rfl, rfl, .inl ⟨by decide, by decide⟩, _, _, rfl, rfl, _, _, rfl, rfl, .inr ⟨by decide, by decide⟩, .inl ⟨_, rfl, _, _, rfl, rfl, (show (0 : Int) < 2147483647 by decide), ?_⟩⟩
    have b1 := mod_in (x := (y + 7853 * (z + 1)) * 48271) (show (0 : Int) < 2147483647 by decide)
    refine ⟨_, rfl, _, rfl, _, _, rfl, rfl, ⟨by decide, by decide⟩, _, _, rfl, rfl, _, rfl, a, _, 2, _, rfl, rfl, SqL.of hW2, rfl, _, _, rfl, rfl, _, _, rfl, rfl, .inl ⟨by omega, by omega⟩, .inl ⟨_, rfl, _, _, rfl, rfl, (show (0 : Int) < 2147483587 by decide), ?_⟩⟩
    have b2 := mod_in (x := (y + 7853 * (z + 1)) * 48271 % 2147483647 * ((y + 7853 * (z + 1)) * 48271 % 2147483647 / 1013 + 69621 + (z + 1))) (show (0 : Int) < 2147483587 by decide)
    refine ⟨_, rfl, _, rfl, _, _, rfl, rfl, ⟨by decide, by decide⟩, _, _, rfl, rfl, _, _, rfl, rfl, .inl ⟨by omega, by omega⟩, .inl ⟨_, rfl, _, _, rfl, rfl, (show (0 : Int) < 2147483399 by decide), _, _, rfl, rfl, ⟨by decide, by decide⟩, .inl ⟨_, rfl, _, rfl, _, _, rfl, rfl, h0, ?_⟩⟩⟩
    exact q _ _ (mod_in h0).1 (mod_in h0).2 Dr.upd
/-- one of some, any of them -/
def spOne (K : PySem.W.Frag) : Sp := fun vs H Q _ => ∃ a l xs, vs = [.ref a, .ref l] ∧ Well H a ∧ l ≠ a ∧ SqL K H l xs ∧ xs ≠ [] ∧ xs.length ≤ 1000 ∧ ∀ x H', x ∈ xs → Dr a H H' → Q x H'
theorem ok_law_one (T : Tx K mg) : FnOk P w K mg base CX0 2 T.f_law_one T.d_law_one ["_law_well_here", "_law_some"] (spOne K) := by
  refine T.h_law_one.F.ok sc_law_one (fun vs H Q E h => ?_) (fun cdv A outer s H vs Q E hr h => ?_)
  · obtain ⟨v, t, _, rfl, _⟩ := h
    rfl
  obtain ⟨a, l, xs, rfl, hW, hne, hL, hx, hz, q⟩ := h
  have hpos : 0 < xs.length := List.length_pos_iff.mpr hx
  refine ⟨_, (pss_one (ps_ret (pe_ix ix_list (pv 1) (cl (ok_law_draw T) T.h_law_draw hr (pa_cons (pv 0) (pa_cons (pe_callB call_len_seq rfl T.b_len (by decide +kernel) (pa_cons (pv 1) pa_nil)) pa_nil))) (fun _ _ => rfl)))), ?_⟩
  refine ⟨_, rfl, _, rfl, _, rfl, l, xs, rfl, .inl hL, a, _, rfl, hW, by omega, by omega, fun d H' h1 h2 dr => ?_⟩
  obtain ⟨k, rfl⟩ := Int.eq_ofNat_of_zero_le h1
  have hk : k < xs.length := by omega
  exact ⟨l, xs, _, xs[k], rfl, rfl, dr.sql hne hL, atI_nat (List.getElem?_eq_getElem hk), q _ _ (List.getElem_mem hk) dr⟩
end
end Hm

set_option Elab.async false
set_option linter.all false
set_option maxRecDepth 100000
set_option maxHeartbeats 4000000
namespace Hm
open PySem PySem.Spec PyProof.Rows L2 HT
open Evl (Ex)
mutual
/-- variables below m -/
def Vlt (m : Int) : Tm → Prop
  | .var k => k < m
  | .comp _ as => Vlts m as
  | _ => True
def Vlts (m : Int) : List Tm → Prop
  | [] => True
  | t :: ts => Vlt m t ∧ Vlts m ts
end
def atomB (s : Str) : Bool := decide (s.cps.size ≤ 40) && s.cps.toList.all fun c => decide (32 ≤ c) && decide (c ≤ 126) && decide (c ≠ 37)
theorem atomB_ok {s : Str} (h : atomB s = true) : AtomOk s := by
  unfold atomB at h
  rw [Bool.and_eq_true, List.all_eq_true] at h
  refine ⟨of_decide_eq_true h.1, fun c hc => ?_⟩
  have := h.2 c hc
  rw [Bool.and_eq_true, Bool.and_eq_true] at this
  exact ⟨of_decide_eq_true this.1.1, of_decide_eq_true this.1.2, of_decide_eq_true this.2⟩
theorem tg_big : (1000000000000 : Int) < tooGreat := by decide +kernel
/-- the bound of the size of what is drawn -/
def Bd : Nat → Nat
  | 0 => 1
  | 1 => 1
  | 2 => 9
  | d + 3 => 1 + 2 * Bd (d + 2)
theorem bd_step {d n : Nat} (h : n ≤ if d + 1 = 1 then 8 else 2) : 1 + n * Bd (d + 1) ≤ Bd (d + 2) := by
  cases d with
  | zero =>
    rw [if_pos rfl] at h
    show 1 + n * 1 ≤ 9
    omega
  | succ d =>
    rw [if_neg (by omega)] at h
    show 1 + n * Bd (d + 2) ≤ 1 + 2 * Bd (d + 2)
    have := Nat.mul_le_mul_right (Bd (d + 2)) h
    omega
/-- what a draw of a term of some depth may give -/
structure Drawn (m : Int) (d : Nat) (t : Tm) : Prop where
  ok : Ok t
  vlt : Vlt m t
  siz : size t ≤ Bd d
  dep : depth t ≤ max 1 d
theorem great_mul : CMulW (((10 : Int) ^ (60 : Int).toNat) ^ (4 : Int).toNat) ((10 : Int) ^ (59 : Int).toNat) := by
  unfold CMulW
  decide +kernel
theorem great_lo : -tooGreat < ((10 : Int) ^ (60 : Int).toNat) ^ (4 : Int).toNat * (10 : Int) ^ (59 : Int).toNat - 1 := by decide +kernel
theorem great_hi : ((10 : Int) ^ (60 : Int).toNat) ^ (4 : Int).toNat * (10 : Int) ^ (59 : Int).toNat - 1 < tooGreat := by decide +kernel
section
variable {P : Program} {w : World} {K : PySem.W.Frag} {mg : Str → Option Value} {base : Heap}
def spLeaf (K : PySem.W.Frag) : Sp := fun vs H Q _ => ∃ a m, vs = [.ref a, .int m] ∧ Well H a ∧ 0 < m ∧ m ≤ 1000 ∧ ∀ v t H', Dr a H H' → Rep K H' t v → Drawn m 1 t → Q v H'
theorem leaf_drawn {m : Int} {t : Tm} (h : Ok t) (hv : Vlt m t) (ha : t.args = []) : Drawn m 1 t := by
  refine ⟨h, hv, ?_, ?_⟩
  · rw [size_eq, ha]
    show 1 + sizes [] ≤ 1
    simp [sizes]
  · rw [depth_eq, ha]
    simp [depths]
theorem ok_law_leaf (T : Tx K mg) : FnOk P w K mg base CX0 3 T.f_law_leaf T.d_law_leaf ["_law_well_here", "_law_many"] (spLeaf K) := by
  refine T.h_law_leaf.F.ok sc_law_leaf (fun vs H Q E h => ?_) (fun cdv A outer s H vs Q E hr h => ?_)
  · obtain ⟨v, t, rfl, _⟩ := h
    rfl
  obtain ⟨a, m, rfl, hW, h0, h1, q⟩ := h
  have htg := tg_big
  refine ⟨_, (pss_cons (ps_set (i := 2) sc_law_leaf.nd rfl (Or.inl rfl) (cl (ok_law_draw T) T.h_law_draw hr (pa_cons (pv 0) (pa_cons pe_int pa_nil))))
    (Evl.pss_cut (ps_if (PW.pt (pw_and (pt_cmpR op_lt (pv 2) pe_int (nomark _)) (pw_and1 (pt_cmpR op_gt (pv 1) pe_int (nomark _)))))
      (pss_one (ps_ret (pe_tup (pa_cons (cl (ok_law_draw T) T.h_law_draw hr (pa_cons (pv 0) (pa_cons (pv 1) pa_nil))) pa_nil))))
      pss_nil)
    (pss_cons (ps_if (pt_cmpR op_eq (pv 2) pe_int (nomark _))
      (pss_cons (ps_set (i := 3) sc_law_leaf.nd rfl (Or.inl rfl) (pe_op op_sub (pe_op op_mulW (pe_op op_powW (pe_op op_pow pe_int pe_int) pe_int) (pe_op op_pow pe_int pe_int)) pe_int))
    (pss_one (ps_ret (cl (ok_law_one T) T.h_law_one hr (pa_cons (pv 0) (pa_cons (pe_lst (pa_cons pe_int (pa_cons pe_int (pa_cons pe_int (pa_cons (pe_un un_neg pe_int) (pa_cons (pv 3) (pa_cons (pe_op op_sub (cl (ok_law_draw T) T.h_law_draw hr (pa_cons (pv 0) (pa_cons (pe_op op_pow pe_int pe_int) pa_nil))) (pe_op op_mul pe_int (pe_op op_pow pe_int pe_int))) pa_nil))))))) pa_nil))))))
      pss_nil)
    (pss_one (ps_ret (cl (ok_law_one T) T.h_law_one hr (pa_cons (pv 0) (pa_cons (pe_lst (pa_cons pe_str (pa_cons pe_str (pa_cons pe_str (pa_cons pe_str (pa_cons pe_str (pa_cons pe_str (pa_cons pe_str (pa_cons (pe_op op_mulS pe_str pe_int) pa_nil))))))))) pa_nil)))))))), ?_⟩
  refine ⟨_, rfl, a, _, rfl, hW, by decide, by decide, fun way H1 w0 w7 d1 => ?_⟩
  refine ⟨fun σ' H' => σ' = [some (.ref a), some (.int m), some (.int way), none] ∧ Dr a H H', ?_, ?_⟩
  · refine ⟨_, rfl, _, _, rfl, rfl, _, rfl, ?_⟩
    refine ite2 (fun c1 => ?_) (fun c1 => ?_)
    · refine ⟨_, rfl, _, _, rfl, rfl, _, rfl, ?_⟩
      refine ite2 (fun c2 => ?_) (fun c2 => ?_)
      · refine ⟨_, rfl, _, rfl, a, _, rfl, d1.well, h0, by omega, fun k H2 k0 km d2 => ⟨(by show 1 ≤ sizeLine; decide), fun p hp => ?_⟩⟩
        refine q _ (.var k) _ ((d1.trans d2).trans (Dr.ex d2.well (Ex.new hp))) ?_ (leaf_drawn ?_ ?_ rfl)
        · unfold Rep
          exact ⟨p, rfl, SqT.of upd_same⟩
        · unfold Ok
          exact k0
        · unfold Vlt
          exact km
      · exact ⟨rfl, d1⟩
    · exact iteF ⟨rfl, d1⟩
  · rintro _ H2 ⟨rfl, d2⟩
    refine ⟨_, rfl, rfl, _, rfl, ?_⟩
    refine ite2 (fun _ => ?_) (fun _ => ?_)
    · refine ⟨_, _, rfl, rfl, ⟨by decide, by decide, by decide⟩, _, _, rfl, rfl, ⟨by decide, by decide +kernel⟩, _, _, rfl, rfl, ⟨by decide, by decide, by decide⟩, _, _, rfl, rfl, great_mul, _, _, rfl, rfl, ?_⟩
      refine ⟨_, rfl, _, rfl, _, rfl, _, rfl, _, _, rfl, rfl, ⟨by decide, by decide, by decide⟩, a, _, rfl, d2.well, by decide +kernel, by decide +kernel, fun d H3 hd0 hd1 d3 => ?_⟩
      refine ⟨_, _, rfl, rfl, ⟨by decide, by decide, by decide⟩, _, _, rfl, rfl, .inl ⟨by decide, by decide⟩, _, _, rfl, rfl, ?_⟩
      refine ⟨(by show 6 ≤ sizeLine; decide), fun l hl => ?_⟩
      have d4 : ∀ o, Dr a H3 (upd H3 l o) := fun o => Dr.ex d3.well (Ex.new hl)
      refine ⟨a, l, _, rfl, (d4 _).well, d3.well.ne hl, SqL.of upd_same, by simp, (by show 6 ≤ 1000; decide), fun x H5 hx d5 => ?_⟩
      have dd := ((d2.trans d3).trans (d4 _)).trans d5
      have hd2 : d < 1000000000 := hd1
      have fin : ∀ i : Int, -tooGreat < i → i < tooGreat → x = .int i → Q x H5 := fun i i1 i2 e => by
        refine q x (.int i) H5 dd ?_ (leaf_drawn ?_ ?_ rfl)
        · unfold Rep
          exact e
        · unfold Ok
          exact ⟨i1, i2⟩
        · unfold Vlt
          trivial
      simp only [List.mem_cons, List.not_mem_nil, or_false] at hx
      rcases hx with rfl | rfl | rfl | rfl | rfl | rfl
      · exact fin 0 (by omega) (by omega) rfl
      · exact fin 1 (by omega) (by omega) rfl
      · exact fin 7 (by omega) (by omega) rfl
      · exact fin (-1) (by omega) (by omega) rfl
      · exact fin _ great_lo great_hi rfl
      · refine fin (d - 5 * 10 ^ 8) ?_ ?_ rfl
        · have : (5 * 10 ^ 8 : Int) = 500000000 := by decide +kernel
          omega
        · have : (5 * 10 ^ 8 : Int) = 500000000 := by decide +kernel
          omega
    · refine ⟨_, rfl, _, _, rfl, rfl, by decide, by decide, rfl, (by decide +kernel), ?_⟩
      refine ⟨(by show 8 ≤ sizeLine; decide), fun l hl => ?_⟩
      have d4 : ∀ o, Dr a H2 (upd H2 l o) := fun o => Dr.ex d2.well (Ex.new hl)
      refine ⟨a, l, _, rfl, (d4 _).well, d2.well.ne hl, SqL.of upd_same, by simp, (by show 8 ≤ 1000; decide), fun x H5 hx d5 => ?_⟩
      have dd := (d2.trans (d4 _)).trans d5
      have fin : ∀ z : Str, atomB z = true → x = .str z → Q x H5 := fun z hz e => by
        refine q x (.atom z) H5 dd ?_ (leaf_drawn ?_ ?_ rfl)
        · unfold Rep
          exact e
        · unfold Ok
          exact atomB_ok hz
        · unfold Vlt
          trivial
      simp only [List.mem_cons, List.not_mem_nil, or_false] at hx
      rcases hx with rfl | rfl | rfl | rfl | rfl | rfl | rfl | rfl
      all_goals exact fin _ (by decide +kernel) rfl
end
end Hm

set_option Elab.async false
set_option linter.all false
set_option maxRecDepth 100000
set_option maxHeartbeats 400000
namespace Hm
open PySem PySem.Spec PyProof.Rows L2 HT
open Evl (Ex)
/-- a pair of a name and an arity, as a tuple -/
def PairAt (K : PySem.W.Frag) (H : Hp) (n : Nat) (v : V) : Prop := ∃ (p : Addr) (f : Str) (k : Nat), v = .ref p ∧ SqT K H p [.str f, .int (k : Int)] ∧ AtomOk f ∧ 1 ≤ k ∧ k ≤ n
theorem PairAt.mono {K : PySem.W.Frag} {H H' : Hp} {n : Nat} {v : V} (e : Tups K H H') (h : PairAt K H n v) : PairAt K H' n v := by
  obtain ⟨p, f, k, e1, h1, h2⟩ := h
  exact ⟨p, f, k, e1, e _ _ h1, h2⟩
theorem PairAt.new {K : PySem.W.Frag} {H : Hp} {n : Nat} {p : Addr} {f : Str} (k : Nat) (hf : atomB f = true) (h1 : 1 ≤ k) (h2 : k ≤ n) : PairAt K (upd H p (.tup [.str f, .int (k : Int)])) n (.ref p) :=
  ⟨p, f, k, rfl, SqT.of upd_same, atomB_ok hf, h1, h2⟩
theorem vlts_app {m : Int} : ∀ {xs ys : List Tm}, Vlts m xs → Vlts m ys → Vlts m (xs ++ ys)
  | [], ys, _, h => h
  | x :: xs, ys, h, h2 => by
    unfold Vlts at h
    show Vlts m (x :: (xs ++ ys))
    unfold Vlts
    exact ⟨h.1, vlts_app h.2 h2⟩
structure AllDrawn (m : Int) (d : Nat) (ts : List Tm) : Prop where
  ok : Oks ts
  vlt : Vlts m ts
  siz : sizes ts ≤ ts.length * Bd d
  dep : depths ts ≤ max 1 d
theorem AllDrawn.nil {m : Int} {d : Nat} : AllDrawn m d [] := ⟨trivial, trivial, by simp [sizes], by simp [depths]⟩
theorem AllDrawn.snoc {m : Int} {d : Nat} {ts : List Tm} {t : Tm} (h : AllDrawn m d ts) (g : Drawn m d t) : AllDrawn m d (ts ++ [t]) := by
  refine ⟨oks_app.mpr ⟨h.ok, by rw [oks_cons]; exact ⟨g.ok, trivial⟩⟩, vlts_app h.vlt (by unfold Vlts; exact ⟨g.vlt, trivial⟩), ?_, ?_⟩
  · rw [sizes_app, sizes_one, List.length_append, List.length_singleton, Nat.add_mul]
    have h1 := h.siz
    have h2 := g.siz
    omega
  · rw [depths_app]
    have h1 := h.dep
    have h2 := g.dep
    have h3 : depths [t] = depth t := by simp [depths]
    omega
theorem AllDrawn.comp {m : Int} {d : Nat} {ts : List Tm} {f : Str} (h : AllDrawn m (d + 1) ts) (hf : AtomOk f) (h1 : 1 ≤ ts.length) (h2 : ts.length ≤ if d + 1 = 1 then 8 else 2) : Drawn m (d + 2) (.comp f ts) := by
  have hb := bd_step h2
  refine ⟨?_, ?_, ?_, ?_⟩
  · unfold Ok
    exact ⟨hf, h1, by split at h2 <;> omega, h.ok⟩
  · unfold Vlt
    exact h.vlt
  · unfold size
    have := h.siz
    omega
  · unfold depth
    have := h.dep
    omega
theorem dec0 {n : Nat} : decide (V.int ((n : Nat) : Int) = V.int 2) = decide (n = 2) := dec_len (m := 2)
def tPs : List (Str × Int) → TA
  | [] => tNil
  | (f, n) :: r => tCons (tTup (tCons (tC (.str f)) (tCons (tC (.int n)) tNil))) (tPs r)
theorem ps_read : ∀ (ps : List (Str × Int)) (σ : L2.St) (H : Hp) (R : List V → Hp → Prop), (∀ vs H', Ex H H' → Paired (fun (p : Str × Int) (v : V) => ∃ a, v = .ref a ∧ H' a = some (.tup [.str p.1, .int p.2])) ps vs → R vs H') → tPs ps σ H R
  | [], σ, H, R, h => h [] H (Ex.refl H) .nil
  | (f, n) :: r, σ, H, R, h => by
    refine ⟨(by show 2 ≤ sizeLine; decide), fun p hp => ?_⟩
    refine ps_read r σ _ _ fun vs H' e hr => ?_
    exact h (.ref p :: vs) H' ((Ex.new hp).trans e) (.cons ⟨p, rfl, e p _ upd_same⟩ hr)
theorem lst_ps (ps : List (Str × Int)) {ta : TA} {σ : L2.St} {H : Hp} {Q : VK} (e : ta = tPs ps) (hz : ps.length ≤ 100) (h : ∀ vs H' p, Ex H H' → Paired (fun (p : Str × Int) (v : V) => ∃ a, v = .ref a ∧ H' a = some (.tup [.str p.1, .int p.2])) ps vs → H' p = none → Q (.ref p) (upd H' p (.lst vs))) : tLst ta σ H Q := by
  subst e
  exact ps_read ps σ H _ fun vs H' e hp => ⟨small5 (by rw [← hp.length]; omega), fun p hn => h vs H' p e hp hn⟩
theorem set_ps (ps : List (Str × Int)) {ta : TA} {i : Nat} {tz : TS} {D : Ends} {σ : L2.St} {H : Hp} (e : ta = tPs ps) (hz : ps.length ≤ 100) (h : ∀ vs H' p, Ex H H' → Paired (fun (p : Str × Int) (v : V) => ∃ a, v = .ref a ∧ H' a = some (.tup [.str p.1, .int p.2])) ps vs → H' p = none → tz D (σ.set i (some (.ref p))) (upd H' p (.lst vs))) :
    tSeq (tAsg (tLst ta) (gName i)) tz D σ H := lst_ps (Q := fun x H1 => gName i x σ H1 (tz D)) ps e hz h
theorem pairs_at {K : PySem.W.Frag} {H : Hp} (n : Nat) : ∀ {ps : List (Str × Int)} {vs : List V}, Paired (fun (p : Str × Int) (v : V) => ∃ a, v = .ref a ∧ H a = some (.tup [.str p.1, .int p.2])) ps vs →
    (ps.all fun p => atomB p.1 && decide (1 ≤ p.2) && decide (p.2 ≤ (n : Int))) = true → ∀ x ∈ vs, PairAt K H n x
  | [], _, .nil, _, x, hx => by simp at hx
  | (f, k) :: ps, _, .cons h r, hb, x, hx => by
    rw [List.all_cons, Bool.and_eq_true, Bool.and_eq_true, Bool.and_eq_true] at hb
    rcases List.mem_cons.mp hx with rfl | hx
    · obtain ⟨a, e, hT⟩ := h
      have h1 : 1 ≤ k := of_decide_eq_true hb.1.1.2
      have h2 : k ≤ (n : Int) := of_decide_eq_true hb.1.2
      refine ⟨a, f, k.toNat, e, ?_, atomB_ok hb.1.1.1, by omega, by omega⟩
      have : ((k.toNat : Nat) : Int) = k := by omega
      rw [this]
      exact SqT.of hT
    · exact pairs_at n r hb.2 x hx
section
variable {P : Program} {w : World} {K : PySem.W.Frag} {mg : Str → Option Value} {base : Heap}
def spTermD (K : PySem.W.Frag) : Nat → Sp
  | 0 => fun _ _ _ _ => False
  | d + 1 => fun vs H Q _ => ∃ a m, vs = [.ref a, .int ((d + 1 : Nat) : Int), .int m] ∧ Well H a ∧ 0 < m ∧ m ≤ 1000 ∧ ∀ v t H', Dr a H H' → Rep K H' t v → Drawn m (d + 1) t → Q v H'
theorem term_step (T : Tx K mg) (d : Nat) (ih : FnOk P w K mg base CX0 (d + 3) T.f_law_term T.d_law_term ["_law_well_here", "_law_deep", "_law_many"] (spTermD K d)) :
    FnOk P w K mg base CX0 (d + 3 + 1) T.f_law_term T.d_law_term ["_law_well_here", "_law_deep", "_law_many"] (spTermD K (d + 1)) := by
  refine T.h_law_term.F.ok sc_law_term (fun vs H Q E h => ?_) (fun cdv A outer s H vs Q E hr h => ?_)
  · obtain ⟨v, t, rfl, _⟩ := h
    rfl
  obtain ⟨a, m, rfl, hW, h0, h1, q⟩ := h
  refine ⟨_, (Evl.pss_cut (ps_if (PW.pt (pw_or (pt_cmpR op_le (pv 1) pe_int (nomark _)) (pw_or1 (pt_cmpR op_eq (cl (ok_law_draw T) T.h_law_draw hr (pa_cons (pv 0) (pa_cons pe_int pa_nil))) pe_int (nomark _)))))
      (pss_one (ps_ret (cl (ok_law_leaf T) T.h_law_leaf hr (pa_cons (pv 0) (pa_cons (pv 2) pa_nil)))))
      pss_nil)
    (pss_cons (ps_set (i := 3) sc_law_term.nd rfl (Or.inl rfl) (pe_lst (pa_cons (pe_tup (pa_cons pe_str (pa_cons pe_int pa_nil))) (pa_cons (pe_tup (pa_cons pe_str (pa_cons pe_int pa_nil))) (pa_cons (pe_tup (pa_cons pe_str (pa_cons pe_int pa_nil))) (pa_cons (pe_tup (pa_cons pe_str (pa_cons pe_int pa_nil))) (pa_cons (pe_tup (pa_cons pe_str (pa_cons pe_int pa_nil))) (pa_cons (pe_tup (pa_cons pe_str (pa_cons pe_int pa_nil))) pa_nil))))))))
    (Evl.pss_cut (ps_asg (cl (ok_law_one T) T.h_law_one hr (pa_cons (pv 0) (pa_cons (pe_op op_cat (pv 3) (pe_ifExp (pt_cmpR op_eq (pv 1) pe_int (nomark _)) (pe_lst (pa_cons (pe_tup (pa_cons pe_str (pa_cons pe_int pa_nil))) (pa_cons (pe_tup (pa_cons pe_str (pa_cons pe_int pa_nil))) pa_nil))) (pe_lst pa_nil))) pa_nil))) (pg_tup rfl (pgs_cons (pg_name (i := 4) sc_law_term.nd rfl (Or.inl rfl)) (pgs_cons (pg_name (i := 5) sc_law_term.nd rfl (Or.inl rfl)) pgs_nil))))
    (pss_one (ps_ret (pe_op op_catT (pe_tup (pa_cons (pv 4) pa_nil)) (pe_callTy call_tuple_of rfl T.b_tuple (by decide +kernel) (pa_cons (pe_lc (own := [("_law_k", 6)]) (g := gName 6) rfl sc_law_term.nd (pi_range1 rfl T.b_range (pa_cons (pv 5) pa_nil)) (blkOk_by (own := [("_law_k", 6)]) (N := ["_law_well_here", "_law_deep", "_law_many", "_law_some", "_law_name", "_law_arity", "_law_k"]) (sc := defScope s_law_term) (by decide +kernel)) (fun _ _ _ _ _ => pg_name (i := 6) sc_law_term.nd rfl (Or.inl rfl)) (fun _ _ _ _ _ => pts_nil) (fun _ _ _ _ _ => (cl ih T.h_law_term hr (pa_cons (pv 0) (pa_cons (pe_op op_sub (pv 1) pe_int) (pa_cons (pv 2) pa_nil)))))) pa_nil)))))))), ?_⟩
  refine ⟨fun σ' H' => σ' = [some (.ref a), some (.int ((d + 1 : Nat) : Int)), some (.int m), none, none, none, none] ∧ Dr a H H' ∧ 1 ≤ d, ?_, ?_⟩
  · have leaf : ∀ H', Dr a H H' → (tCall (spLeaf K) [] E0 (tCons (tVar 0) (tCons (tVar 2) tNil))) [some (.ref a), some (.int ((d + 1 : Nat) : Int)), some (.int m), none, none, none, none] H' Q := fun H' dr =>
      ⟨_, rfl, _, rfl, a, m, rfl, dr.well, h0, h1, fun v t H2 d2 hR hD => q v t H2 (dr.trans d2) hR ⟨hD.ok, hD.vlt, Nat.le_trans hD.siz (by cases d with | zero => exact Nat.le_refl _ | succ d => have := bd_step (d := d) (n := 0) (Nat.zero_le _); exact Nat.le_trans (by show 1 ≤ _; omega) this), by have := hD.dep; omega⟩⟩
    refine ⟨_, rfl, _, _, rfl, rfl, _, rfl, ?_⟩
    refine ite2 (fun c1 => ?_) (fun c1 => ?_)
    · exact iteT (leaf H (Dr.ex hW (Ex.refl _)))
    · have hd : 1 ≤ d := by
        have : ¬ ((d + 1 : Nat) : Int) ≤ 1 := fun z => c1 (decide_eq_true z)
        omega
      refine ⟨_, rfl, a, _, rfl, hW, by decide, by decide, fun k H1 k0 k4 d1 => ?_⟩
      refine ⟨rfl, _, rfl, ite2 (fun _ => ?_) (fun _ => ?_)⟩
      · exact leaf H1 d1
      · exact ⟨rfl, d1, hd⟩
  · rintro _ H1 ⟨rfl, d1, hd⟩
    obtain ⟨d, rfl⟩ : ∃ e, d = e + 1 := ⟨d - 1, by omega⟩
    refine set_ps [("f", 1), ("f", 2), ("g", 2), (".", 2), ("", 1), ("f", 2)] rfl (by decide) fun vs6 H6 l e6 hp6 gl => ?_
    have l6 : vs6.length = 6 := hp6.length.symm
    have a6 : ∀ x ∈ vs6, PairAt K H6 2 x := pairs_at 2 hp6 (by decide +kernel)
    have e7 := Ex.new (o := HO.lst vs6) gl
    have w6 := (Dr.ex d1.well e6).well
    have d7 : Dr a H (upd H6 l (.lst vs6)) := (d1.trans (Dr.ex d1.well e6)).trans (Dr.ex w6 e7)
    have hla : l ≠ a := w6.ne gl
    have a7 : ∀ x ∈ vs6, PairAt K (upd H6 l (.lst vs6)) 2 x := fun x hx => (a6 x hx).mono (Tups.of e7)
    have hl7 : (upd H6 l (.lst vs6)) l = some (.lst vs6) := upd_same
    generalize upd H6 l (.lst vs6) = H7 at *
    have w7 := d7.well
    refine ⟨fun σ' H' => ∃ (f : Str) (k : Nat), σ' = [some (.ref a), some (.int ((d + 1 + 1 : Nat) : Int)), some (.int m), some (.ref l), some (.str f), some (.int (k : Int)), none] ∧ Dr a H H' ∧ AtomOk f ∧ 1 ≤ k ∧ k ≤ (if d + 1 = 1 then 8 else 2), ?_, ?_⟩
    · refine ⟨_, rfl, _, rfl, _, rfl, rfl, _, rfl, ?_⟩
      refine ite2 (fun c1 => ?_) (fun c1 => ?_)
      · have hd0 : d + 1 = 1 := by
          have := of_decide_eq_true (dec0.symm.trans c1)
          omega
        refine lst_ps [("h", 3), ("k", 8)] rfl (by decide) fun vs2 H8 l2 e8 hp2 gl2 => ?_
        have e9 := Ex.new (o := HO.lst vs2) gl2
        have l2n : vs2.length = 2 := hp2.length.symm
        refine ⟨l, l2, vs6, vs2, rfl, rfl, e9 l _ (e8 l _ hl7), upd_same, small5 (by omega), fun p gp => ?_⟩
        have e10 := Ex.new (o := HO.lst (vs6 ++ vs2)) gp
        have ee := (e8.trans e9).trans e10
        have dd := d7.trans (Dr.ex w7 ee)
        refine ⟨a, p, vs6 ++ vs2, rfl, dd.well, (Dr.ex w7 (e8.trans e9)).well.ne gp, SqL.of upd_same, ?_, ?_, fun x H9 hx d9 => ?_⟩
        · intro z
          have := congrArg List.length z
          rw [List.length_append, List.length_nil] at this
          omega
        · rw [List.length_append]
          omega
        · have hx9 : PairAt K H9 8 x := by
            rcases List.mem_append.mp hx with hx | hx
            · obtain ⟨pp, f, k, h1, h2, h3, h4, h5⟩ := (a7 x hx).mono ((Tups.of ee).trans (Dr.tups dd.well d9))
              exact ⟨pp, f, k, h1, h2, h3, h4, by omega⟩
            · exact (pairs_at 8 hp2 (by decide +kernel) x hx).mono (((Tups.of e9).trans (Tups.of e10)).trans (Dr.tups dd.well d9))
          obtain ⟨pp, f, k, rfl, hT, hf, k1, k2⟩ := hx9
          exact ⟨pp, _, rfl, hT, rfl, _, _, rfl, _, _, rfl, rfl, f, k, rfl, dd.trans d9, hf, k1, by rw [if_pos hd0]; exact k2⟩
      · have hd0 : ¬ d + 1 = 1 := fun z => c1 (by rw [dec0]; exact decide_eq_true (by omega))
        refine ⟨Nat.zero_le _, fun l2 gl2 => ?_⟩
        have e9 := Ex.new (o := HO.lst []) gl2
        refine ⟨l, l2, vs6, [], rfl, rfl, e9 l _ hl7, upd_same, small5 (by rw [List.length_nil]; omega), fun p gp => ?_⟩
        have e10 := Ex.new (o := HO.lst (vs6 ++ [])) gp
        have ee := e9.trans e10
        have dd := d7.trans (Dr.ex w7 ee)
        refine ⟨a, p, vs6 ++ [], rfl, dd.well, (Dr.ex w7 e9).well.ne gp, SqL.of upd_same, ?_, ?_, fun x H9 hx d9 => ?_⟩
        · intro z
          have := congrArg List.length z
          rw [List.append_nil, List.length_nil] at this
          omega
        · rw [List.append_nil]
          omega
        · rw [List.append_nil] at hx
          obtain ⟨pp, f, k, rfl, hT, hf, k1, k2⟩ := (a7 x hx).mono ((Tups.of ee).trans (Dr.tups dd.well d9))
          exact ⟨pp, _, rfl, hT, rfl, _, _, rfl, _, _, rfl, rfl, f, k, rfl, dd.trans d9, hf, k1, by rw [if_neg hd0]; exact k2⟩
    · rintro _ H8 ⟨f, k, rfl, d8, hf, k1, k2⟩
      have w8 := d8.well
      have k8 : k ≤ 8 := by split at k2 <;> omega
      refine ⟨_, rfl, (by show 1 ≤ sizeLine; decide), fun tp htp => ?_⟩
      have e9 := Ex.new (o := HO.tup [.str f]) htp
      have w9 := (Dr.ex w8 e9).well
      have hT9 : SqT K (upd H8 tp (.tup [.str f])) tp [.str f] := SqT.of upd_same
      refine ⟨_, rfl, (k : Int), rfl, by omega, by omega, fun D hD => ?_⟩
      have hDa := w9.ne hD
      have e10 := Ex.new (o := HO.lst []) hD
      refine lc_it walk_range (fun i H' => Dr a (upd H8 tp (.tup [.str f])) H' ∧ ∃ ts us, H' D = some (.lst us) ∧ Reps K H' ts us ∧ ts.length = i ∧ AllDrawn m (d + 1) ts) ⟨Dr.ex w9 e10, [], [], upd_same, Reps.nil, rfl, AllDrawn.nil⟩ (fun _ _ _ _ => trivial) ?_ ?_
      · rintro i x H10x H10 hi ⟨d10, ts, us, hU, hUs, hlen, hall⟩ ⟨rfl, rfl⟩
        refine ⟨rfl, yesI ⟨_, rfl, _, rfl, _, _, rfl, rfl, _, rfl, a, m, ?_, d10.well, h0, h1, fun v t H11 d11 hR hDn => ?_⟩⟩
        · show [V.ref a, V.int (((d + 1 + 1 : Nat) : Int) - 1), V.int m] = _
          congr 3
          omega
        · have hU11 := d11.keep D _ hDa hU
          have t11 : Tups K H10 H11 := Dr.tups d10.well d11
          have t12 : Tups K H11 (upd H11 D (.lst (us ++ [v]))) := Tups.lst hU11
          have hl2 := hUs.len
          refine ⟨us, hU11, small5' (by omega), ?_, ts ++ [t], us ++ [v], upd_same, ?_, ?_, hall.snoc hDn⟩
          · obtain ⟨x1, y1, z1, hw⟩ := d11.well
            refine ⟨⟨x1, y1, z1, by rw [upd_ne hDa.symm]; exact hw⟩, fun b o hb hq => ?_⟩
            have hbD : b ≠ D := fun z => by
              subst z
              rw [hD] at hq
              cases hq
            rw [upd_ne hbD]
            exact d11.keep b o hb (d10.keep b o hb hq)
          · exact Reps.app ((hUs.mono t11).mono t12) (Reps.one (hR.mono t12))
          · rw [List.length_append, List.length_singleton, hlen]
      · rintro H10 ⟨d10, ts, us, hU, hUs, hlen, hall⟩
        have hlen' : ts.length = k := by
          rw [hlen]
          rfl
        have hl2 := hUs.len
        refine ⟨D, us, rfl, .inl ⟨SqL.of hU, fun q2 hq2 => ?_⟩⟩
        have e11 := Ex.new (o := HO.tup us) hq2
        have hTp := (Dr.tups w9 d10) _ _ hT9
        have w11 := (Dr.ex d10.well e11).well
        refine ⟨tp, q2, [.str f], us, rfl, rfl, Evl.ex_t e11 hTp, SqT.of upd_same, by simp, small5 (by simp; omega), fun z => ?_, fun _ p hp => ?_⟩
        · rw [z, List.length_nil] at hl2
          omega
        · have e12 := Ex.new (o := HO.tup ([V.str f] ++ us)) hp
          refine q (.ref p) (.comp f ts) _ (((d8.trans (Dr.ex w8 e9)).trans d10).trans ((Dr.ex d10.well e11).trans (Dr.ex w11 e12))) ?_ ?_
          · unfold Rep
            exact ⟨p, us, rfl, SqT.of upd_same, (hUs.mono (Tups.of e11)).mono (Tups.of e12)⟩
          · exact hall.comp hf (by omega) (by rw [hlen']; exact k2)
theorem ok_law_term (T : Tx K mg) : ∀ d : Nat, FnOk P w K mg base CX0 (d + 3) T.f_law_term T.d_law_term ["_law_well_here", "_law_deep", "_law_many"] (spTermD K d)
  | 0 => ⟨fun _ _ _ _ h => h.elim, fun _ _ _ _ _ _ _ _ _ _ _ _ _ h => h.elim⟩
  | d + 1 => term_step T d (ok_law_term T d)
end
end Hm

set_option Elab.async false
set_option linter.all false
set_option maxRecDepth 100000
set_option maxHeartbeats 1000000
namespace Hm
open PySem PySem.Spec PyProof.Rows L2 HT
open Evl (Ex)
def isComp : Tm → Bool
  | .comp _ _ => true
  | _ => false
theorem args_not {t : Tm} (h : isComp t = false) : t.args = [] := by
  cases t <;> first | rfl | cases h
theorem depths_get : ∀ {ts : List Tm} {i : Nat} {t : Tm}, ts[i]? = some t → depth t ≤ depths ts
  | [], i, _, e => by simp at e
  | u :: us, 0, t, e => by
    have : u = t := by simpa using e
    subst this
    rw [depths_cons]
    omega
  | u :: us, i + 1, t, e => by
    have := depths_get (ts := us) (i := i) (t := t) (by simpa using e)
    rw [depths_cons]
    omega
theorem sizes_get : ∀ {ts : List Tm} {i : Nat} {t : Tm}, ts[i]? = some t → size t ≤ sizes ts
  | [], i, _, e => by simp at e
  | u :: us, 0, t, e => by
    have : u = t := by simpa using e
    subst this
    rw [sizes_cons]
    omega
  | u :: us, i + 1, t, e => by
    have := sizes_get (ts := us) (i := i) (t := t) (by simpa using e)
    rw [sizes_cons]
    omega
theorem sizes_take (ts : List Tm) (i : Nat) : sizes (ts.take i) ≤ sizes ts := by
  have h := sizes_app (ts.take i) (ts.drop i)
  rw [List.take_append_drop] at h
  omega
theorem take_snoc {α : Type} {l : List α} {i : Nat} {x : α} (h : l[i]? = some x) : l.take (i + 1) = l.take i ++ [x] := by
  rw [List.take_add_one, h]
  rfl
theorem pres_one (t : Tm) : pres [t] = pre t := by
  rw [pres_cons]
  unfold pres
  rw [List.append_nil]
theorem subs_app (g : Int → Tm) : ∀ xs ys : List Tm, subs g (xs ++ ys) = subs g xs ++ subs g ys
  | [], _ => by simp [subs]
  | x :: xs, ys => by
    show subs g (x :: (xs ++ ys)) = _
    rw [subs, subs, subs_app g xs ys]
    rfl
theorem subs_one (g : Int → Tm) (t : Tm) : subs g [t] = [sub g t] := by simp [subs]
section
variable {P : Program} {w : World} {K : PySem.W.Frag} {mg : Str → Option Value} {base : Heap}
def spIsComp (K : PySem.W.Frag) : Sp := fun vs H Q _ => ∃ v t, vs = [v] ∧ Rep K H t v ∧ Ok t ∧ Q (.bl (isComp t)) H
theorem ok_law_is_compound (T : Tx K mg) : FnOk P w K mg base CX0 1 T.f_law_is_compound T.d_law_is_compound ["_law_term_here"] (spIsComp K) := by
  refine T.h_law_is_compound.F.ok sc_law_is_compound (fun vs H Q E h => ?_) (fun cdv A outer s H vs Q E hr h => ?_)
  · obtain ⟨v, t, rfl, _⟩ := h
    rfl
  obtain ⟨v, t, rfl, hR, hO, q⟩ := h
  refine ⟨_, (pss_one (ps_ret (pe_and (pe_callB call_isi rfl T.b_isinstance (by decide +kernel) (pa_cons (pv 0) (pa_cons (pe_bltn (v := .ty "tuple") (u := .type "tuple") rfl T.b_tuple (by decide +kernel) rfl) pa_nil))) (pe_one (pe_cmpR op_gt (pe_callB call_len_seq rfl T.b_len (by decide +kernel) (pa_cons (pv 0) pa_nil)) pe_int (nomark _)))))), ?_⟩
  cases t with
  | var k =>
    unfold Rep at hR
    obtain ⟨a, rfl, hT⟩ := hR
    refine ⟨_, rfl, _, _, _, _, true, rfl, .ty "tuple", tyx_tup hT, kit_ty (by decide +kernel), true, rfl, iteT ?_⟩
    exact ⟨_, rfl, a, _, rfl, .inr hT, _, _, rfl, rfl, q⟩
  | int i =>
    unfold Rep at hR
    subst hR
    exact ⟨_, rfl, _, _, _, _, false, rfl, .ty "tuple", .base (.int i), kit_ty (by decide +kernel), false, rfl, iteF q⟩
  | atom z =>
    unfold Rep at hR
    subst hR
    exact ⟨_, rfl, _, _, _, _, false, rfl, .ty "tuple", .base (.str z), kit_ty (by decide +kernel), false, rfl, iteF q⟩
  | comp f as =>
    unfold Rep at hR
    obtain ⟨a, ws, rfl, hT, hA⟩ := hR
    refine ⟨_, rfl, _, _, _, _, true, rfl, .ty "tuple", tyx_tup hT, kit_ty (by decide +kernel), true, rfl, iteT ?_⟩
    refine ⟨_, rfl, a, _, rfl, .inr hT, _, _, rfl, rfl, ?_⟩
    have hl := hA.len
    unfold Ok at hO
    show Q (.bl (decide ((1 : Int) < (((V.str f :: ws).length : Nat) : Int)))) H
    rw [List.length_cons, decide_eq_true (by omega)]
    exact q
/-- the arguments of a compound, or nothing: t[1:] if it is one else () -/
theorem args_read {H : Hp} {v : V} {t : Tm} {σ : L2.St} {Q : VK} {i : Nat} (hσ : σ[i]? = some (some v)) (hR : Rep K H t v) (hO : Ok t)
    (q : ∀ p ws H', H p = none → Ex H H' → H' p = some (.tup ws) → Reps K H' t.args ws → Q (.ref p) H') :
    tIf (tB (tCall (spIsComp K) [] E0 (tCons (tVar i) tNil))) (tSl (rSlT K) (tVar i) (tPart (tC (.int 1))) tNoPart) (tTup tNil) σ H Q := by
  refine ⟨v, hσ, v, t, rfl, hR, hO, isComp t, rfl, ?_⟩
  cases t with
  | comp f as =>
    unfold Rep at hR
    obtain ⟨a, ws, rfl, hT, hA⟩ := hR
    refine iteT ⟨_, hσ, _, rfl, a, _, rfl, hT, cut1_ne _ _, fun p hp => ?_⟩
    rw [cut1]
    exact q p ws _ hp (Ex.new hp) upd_same (hA.mono (Tups.of (Ex.new hp)))
  | var k => exact iteF ⟨Nat.zero_le _, fun p hp => q p _ _ hp (Ex.new hp) upd_same Reps.nil⟩
  | int k => exact iteF ⟨Nat.zero_le _, fun p hp => q p _ _ hp (Ex.new hp) upd_same Reps.nil⟩
  | atom k => exact iteF ⟨Nat.zero_le _, fun p hp => q p _ _ hp (Ex.new hp) upd_same Reps.nil⟩
/-! ### _law_parts -/
end
end Hm

set_option Elab.async false
set_option linter.all false
set_option maxRecDepth 100000
set_option maxHeartbeats 1000000
namespace Hm
open PySem PySem.Spec PyProof.Rows L2 HT
open Evl (Ex)
section
variable {P : Program} {w : World} {K : PySem.W.Frag} {mg : Str → Option Value} {base : Heap}
theorem Paired.snoc {α β : Type} {F : α → β → Prop} : ∀ {l1 : List α} {l2 : List β} {a : α} {b : β}, PySem.Paired F l1 l2 → F a b → PySem.Paired F (l1 ++ [a]) (l2 ++ [b])
  | _, _, _, _, .nil, h => .cons h .nil
  | _, _, _, _, .cons r t, h => .cons r (Paired.snoc t h)
/-! ### head_of -/
def spHead (K : PySem.W.Frag) : Sp := fun vs H Q _ => ∃ v t, vs = [v] ∧ Rep K H t v ∧ Ok t ∧ ∀ p, H p = none → Q (.ref p) (upd H p (.tup (hdV t)))
theorem ok_head_of (T : Tx K mg) : FnOk P w K mg base CX0 2 T.f_head_of T.d_head_of ["part"] (spHead K) := by
  refine T.h_head_of.F.ok sc_head_of (fun vs H Q E h => ?_) (fun cdv A outer s H vs Q E hr h => ?_)
  · obtain ⟨v, t, rfl, _⟩ := h
    rfl
  obtain ⟨v, t, rfl, hR, hO, q⟩ := h
  obtain ⟨t0, hc_VARIABLE⟩ := T.c_VARIABLE
  obtain ⟨t1, hc_INTEGER⟩ := T.c_INTEGER
  obtain ⟨t2, hc_ATOM⟩ := T.c_ATOM
  obtain ⟨t3, hc_COMPOUND⟩ := T.c_COMPOUND
  refine ⟨_, (pss_cons (ps_if (pt_val (pe_callB call_isi rfl T.b_isinstance (by decide +kernel) (pa_cons (pv 0) (pa_cons (pe_bltn (v := .ty "str") (u := .type "str") rfl T.b_str (by decide +kernel) rfl) pa_nil))))
      (pss_one (ps_ret (pe_tup (pa_cons (pe_glob (v := .int 2) rfl hc_ATOM ⟨_, rfl⟩) (pa_cons (pv 0) pa_nil)))))
      pss_nil)
    (pss_cons (ps_if (pt_not (pt_val (pe_callB call_isi rfl T.b_isinstance (by decide +kernel) (pa_cons (pv 0) (pa_cons (pe_bltn (v := .ty "tuple") (u := .type "tuple") rfl T.b_tuple (by decide +kernel) rfl) pa_nil)))))
      (pss_one (ps_ret (pe_tup (pa_cons (pe_glob (v := .int 1) rfl hc_INTEGER ⟨_, rfl⟩) (pa_cons (pv 0) pa_nil)))))
      pss_nil)
    (pss_cons (ps_if (pt_val (cl (ok_is_variable T) T.h_is_variable hr (pa_cons (pv 0) pa_nil)))
      (pss_one (ps_ret (pe_tup (pa_cons (pe_glob (v := .int 0) rfl hc_VARIABLE ⟨_, rfl⟩) (pa_cons (pe_ix ix_tup (pv 0) pe_int (fun _ _ => rfl)) pa_nil)))))
      pss_nil)
    (pss_one (ps_ret (pe_tup (pa_cons (pe_glob (v := .int 3) rfl hc_COMPOUND ⟨_, rfl⟩) (pa_cons (pe_op op_sub (pe_callB call_len_seq rfl T.b_len (by decide +kernel) (pa_cons (pv 0) pa_nil)) pe_int) (pa_cons (pe_ix ix_tup (pv 0) pe_int (fun _ _ => rfl)) pa_nil))))))))), ?_⟩
  cases t with
  | var k =>
    have hR0 := hR
    unfold Rep at hR
    obtain ⟨a, rfl, hT⟩ := hR
    refine ⟨_, rfl, _, _, _, _, false, rfl, .ty "str", tyx_tup hT, kit_ty (by decide +kernel), false, rfl, iteF ?_⟩
    refine ⟨_, rfl, _, _, _, _, true, rfl, .ty "tuple", tyx_tup hT, kit_ty (by decide +kernel), true, rfl, iteF ?_⟩
    refine ⟨_, rfl, _, .var k, rfl, hR0, hO, true, rfl, iteT ?_⟩
    exact ⟨_, rfl, a, _, 0, _, rfl, rfl, hT, at0, (by show 2 ≤ sizeLine; decide), fun p hp => q p hp⟩
  | int i =>
    unfold Rep at hR
    subst hR
    refine ⟨_, rfl, _, _, _, _, false, rfl, .ty "str", .base (.int i), kit_ty (by decide +kernel), false, rfl, iteF ?_⟩
    refine ⟨_, rfl, _, _, _, _, false, rfl, .ty "tuple", .base (.int i), kit_ty (by decide +kernel), false, rfl, iteT ?_⟩
    exact ⟨_, rfl, (by show 2 ≤ sizeLine; decide), fun p hp => q p hp⟩
  | atom z =>
    unfold Rep at hR
    subst hR
    refine ⟨_, rfl, _, _, _, _, true, rfl, .ty "str", .base (.str z), kit_ty (by decide +kernel), true, rfl, iteT ?_⟩
    exact ⟨_, rfl, (by show 2 ≤ sizeLine; decide), fun p hp => q p hp⟩
  | comp f as =>
    have hR0 := hR
    unfold Rep at hR
    obtain ⟨a, ws, rfl, hT, hA⟩ := hR
    have hl := hA.len
    refine ⟨_, rfl, _, _, _, _, false, rfl, .ty "str", tyx_tup hT, kit_ty (by decide +kernel), false, rfl, iteF ?_⟩
    refine ⟨_, rfl, _, _, _, _, true, rfl, .ty "tuple", tyx_tup hT, kit_ty (by decide +kernel), true, rfl, iteF ?_⟩
    refine ⟨_, rfl, _, .comp f as, rfl, hR0, hO, false, rfl, iteF ?_⟩
    refine ⟨_, rfl, a, _, rfl, .inr hT, _, _, rfl, rfl, _, rfl, a, _, 0, _, rfl, rfl, hT, at0, (by show 3 ≤ sizeLine; decide), fun p hp => ?_⟩
    have e : (((V.str f :: ws).length : Nat) : Int) - 1 = (as.length : Int) := by
      rw [List.length_cons]
      omega
    have r := q p hp
    show Q (.ref p) (upd H p (.tup [.int 3, .int ((((V.str f :: ws).length : Nat) : Int) - 1), .str f]))
    rw [e]
    exact r
/-! ### order_key -/
theorem ok_order_key (T : Tx K mg) : FnOk P w K mg base CX0 4 T.f_order_key T.d_order_key ["term"] (spKey K) := by
  refine T.h_order_key.F.ok sc_order_key (fun vs H Q E h => ?_) (fun cdv A outer s H vs Q E hr h => ?_)
  · obtain ⟨v, t, rfl, _⟩ := h
    rfl
  obtain ⟨v, t, rfl, hR, hO, hz, q⟩ := h
  refine ⟨_, (pss_one (ps_ret (pe_lc (own := [("part", 1)]) (g := gName 1) rfl sc_order_key.nd (pi_list (cl (ok_parts_of T) T.h_parts_of hr (pa_cons (pv 0) pa_nil))) (blkOk_by (own := [("part", 1)]) (N := ["term", "part"]) (sc := defScope s_order_key) (by decide +kernel)) (fun _ _ _ _ _ => pg_name (i := 1) sc_order_key.nd rfl (Or.inl rfl)) (fun _ _ _ _ _ => pts_nil) (fun _ _ _ _ _ => (cl (ok_head_of T) T.h_head_of hr (pa_cons (pv 1) pa_nil)))))), ?_⟩
  refine ⟨_, rfl, v, t, rfl, hR, hz, fun l ps H1 hl e1 hL hP => ?_⟩
  have hlen := hP.len
  rw [len_pre] at hlen
  refine ⟨l, rfl, ⟨ps, SqL.of hL⟩, fun D hD => ?_⟩
  have e2 := Ex.new (o := HO.lst []) hD
  have hfree : H D = none := by
    cases hz2 : H D with
    | none => rfl
    | some o =>
      have := e1 _ _ hz2
      rw [hD] at this
      cases this
  refine lc_it walk_list (fun i H' => Ex H1 H' ∧ ∃ us, H' D = some (.lst us) ∧ PySem.Paired (HdAt K H') us ((pre t).take i)) ⟨e2, [], upd_same, .nil⟩ (fun i H' _ h => SqL.of (h.1 l _ hL)) ?_ ?_
  · rintro i x H3x H3 hi ⟨e4, us, hU, hUs⟩ ⟨rfl, hx⟩
    obtain ⟨ti, hti, hri⟩ := (hP.mono (Tups.of e4)).get hx
    have hs : i < size t := by
      rw [← len_pre]
      exact (List.getElem?_eq_some_iff.mp hti).1
    refine ⟨rfl, yesI ⟨_, rfl, x, ti, rfl, hri, oks_get (ok_pre hO) hti, fun p hp => ?_⟩⟩
    have e5 := Ex.new (o := HO.tup (hdV ti)) hp
    have hU4 := e5 D _ hU
    have hl2 := Paired.length hUs
    rw [List.length_take] at hl2
    have t6 : Tups K (upd H3 p (.tup (hdV ti))) (upd (upd H3 p (.tup (hdV ti))) D (.lst (us ++ [V.ref p]))) := Tups.lst hU4
    refine ⟨us, hU4, small5' (by omega), Ex.mut (e4.trans e5) hD, us ++ [.ref p], upd_same, ?_⟩
    rw [take_snoc hti]
    exact Paired.snoc (Paired.mapP hUs fun w t ⟨q2, a, b⟩ => ⟨q2, a, t6 _ _ (Evl.ex_t e5 b)⟩) ⟨p, rfl, t6 _ _ (SqT.of upd_same)⟩
  · rintro H3 ⟨e4, us, hU, hUs⟩
    rw [← hlen, List.take_of_length_le (by rw [len_pre]; exact Nat.le_refl _)] at hUs
    exact q D H3 hfree (e1.trans e4) ⟨us, hU, hUs⟩
/-! ### two rules for keys -/
theorem eqv_keys : ∀ ts us : List Tm, PyData.eqv (.list (ts.map hdD)) (.list (us.map hdD)) = decide (kC (ts.map hcode) (us.map hcode) = 0)
  | [], [] => rfl
  | [], _ :: _ => rfl
  | _ :: _, [] => rfl
  | t :: ts, u :: us => by
    have ih := eqv_keys ts us
    show (PyData.eqv (hdD t) (hdD u) && PyData.eqv (.list (ts.map hdD)) (.list (us.map hdD))) = decide (lexC hC (hcode t :: ts.map hcode) (hcode u :: us.map hcode) = 0)
    rw [ih, eqv_hd, lexC_cons]
    by_cases e : hC (hcode t) (hcode u) = 0
    · rw [if_pos e, decide_eq_true e, Bool.true_and]
    · rw [if_neg e, decide_eq_false e, Bool.false_and]
theorem keys_lay : ∀ ts : List Tm, Oks ts → PyData.canLayAll0 (ts.map hdD) = true
  | [], _ => rfl
  | t :: ts, h => by
    rw [oks_cons] at h
    show ((hdD t).canLay0 && PyData.canLayAll0 (ts.map hdD)) = true
    rw [hd_lay t h.1, keys_lay ts h.2]
    rfl
theorem keys_dep : ∀ ts : List Tm, PyData.depthAll (ts.map hdD) ≤ 1
  | [] => Nat.zero_le _
  | t :: ts => by
    show max (hdD t).depth (PyData.depthAll (ts.map hdD)) ≤ 1
    rw [hd_depth]
    have := keys_dep ts
    omega
theorem keys_shaped {ts : List Tm} (h : Oks ts) : SeqAt.shaped (.list (ts.map hdD)) = true := by
  show (PyData.canLayAll0 (ts.map hdD) && decide (PyData.depthAll (ts.map hdD) + 1 ≤ 64)) = true
  have := keys_dep ts
  rw [keys_lay ts h, decide_eq_true (by omega)]
  rfl
def rLtK (K : PySem.W.Frag) : R2 := fun x y H Q => ∃ p q ts us, x = .ref p ∧ y = .ref q ∧ KeyL K H p ts ∧ KeyL K H q us ∧ Oks ts ∧ Oks us ∧ Q (.bl (decide (kC (ts.map hcode) (us.map hcode) < 0))) H
theorem op_ltKey {X : Cx} (hu : X.A.units + 64 < cLine) : OpR X (compareOp .Lt) (rLtK X.K) := by
  intro pins s σ H x y v u Q I rx ry h
  obtain ⟨p, q, ts, us, rfl, rfl, h1, h2, o1, o2, g⟩ := h
  cases rx
  cases ry
  obtain ⟨as, r1⟩ := Dp.reads I _ _ _ h1.dp rfl
  obtain ⟨bs, r2⟩ := Dp.reads I _ _ _ h2.dp rfl
  exact keys_rc (A := X.A) (by omega) o1 o2 r1 r2 _ _ _ _ ⟨.bl _, H, I, rfl, g⟩
/-! ### compare_terms -/
def spCmp (K : PySem.W.Frag) : Sp := fun vs H Q _ => ∃ v t v' t', vs = [v, v'] ∧ Rep K H t v ∧ Rep K H t' v' ∧ Ok t ∧ Ok t' ∧ size t ≤ 50000 ∧ size t' ≤ 50000 ∧ ∀ H', Ex H H' → Q (.int (tord t t')) H'
theorem ok_compare_terms (T : Tx K mg) : FnOk P w K mg base CX0 6 T.f_compare_terms T.d_compare_terms ["one", "other"] (spCmp K) := by
  refine T.h_compare_terms.F.ok sc_compare_terms (fun vs H Q E h => ?_) (fun cdv A outer s H vs Q E hr h => ?_)
  · obtain ⟨v, t, _, _, rfl, _⟩ := h
    rfl
  obtain ⟨v, t, v', t', rfl, hR, hR', hO, hO', hz, hz', q⟩ := h
  refine ⟨_, (pss_cons (ps_expr (cl (ok_demand_term T) T.h_demand_term hr (pa_cons (pv 0) pa_nil)))
    (pss_cons (ps_expr (cl (ok_demand_term T) T.h_demand_term hr (pa_cons (pv 1) pa_nil)))
    (pss_cons (ps_set (i := 2) sc_compare_terms.nd rfl (Or.inl rfl) (cl (ok_order_key T) T.h_order_key hr (pa_cons (pv 0) pa_nil)))
    (pss_cons (ps_set (i := 3) sc_compare_terms.nd rfl (Or.inl rfl) (cl (ok_order_key T) T.h_order_key hr (pa_cons (pv 1) pa_nil)))
    (pss_cons (ps_if (pt_cmpR (op_eqD hr.units) (pv 2) (pv 3) (nomark _))
      (pss_one (ps_ret pe_int))
      pss_nil)
    (pss_one (ps_ret (pe_ifExp (pt_cmpR (op_ltKey hr.units) (pv 2) (pv 3) (nomark _)) (pe_un un_neg pe_int) pe_int)))))))), ?_⟩
  refine ⟨_, rfl, v, t, rfl, hR, hO, hz, fun u1 H1 e1 _ => ?_⟩
  refine ⟨_, rfl, v', t', rfl, hR'.mono (Tups.of e1), hO', hz', fun u2 H2 e2 _ => ?_⟩
  refine ⟨_, rfl, v, t, rfl, (hR.mono (Tups.of e1)).mono (Tups.of e2), hO, hz, fun p H3 hp e3 hk => ?_⟩
  refine ⟨_, rfl, v', t', rfl, ((hR'.mono (Tups.of e1)).mono (Tups.of e2)).mono (Tups.of e3), hO', hz', fun p' H4 hp' e4 hk' => ?_⟩
  have k4 := hk.ex e4
  have o1 := ok_pre hO
  have o2 := ok_pre hO'
  refine ⟨_, rfl, _, rfl, _, _, k4.dp, hk'.dp, keys_shaped o1, keys_shaped o2, _, rfl, ?_⟩
  rw [eqv_keys]
  have ek : kC ((pre t).map hcode) ((pre t').map hcode) = tord t t' := ord_key t t'
  rw [ek]
  have ee := ((e1.trans e2).trans e3).trans e4
  have ran := tord_ok.ran t t'
  by_cases z : tord t t' = 0
  · rw [decide_eq_true z]
    refine iteT ?_
    have := q H4 ee
    rw [z] at this
    exact this
  · rw [decide_eq_false z]
    refine iteF ⟨_, rfl, _, rfl, p, p', _, _, rfl, rfl, k4, hk', o1, o2, _, rfl, ?_⟩
    rw [ek]
    have r := q H4 ee
    by_cases z2 : tord t t' < 0
    · rw [decide_eq_true z2]
      have e : tord t t' = -1 := by omega
      rw [e] at r
      exact iteT ⟨_, rfl, r⟩
    · rw [decide_eq_false z2]
      have e : tord t t' = 1 := by omega
      rw [e] at r
      exact iteF r
/-! ### sort_terms -/
theorem ex_none {H H' : Hp} {p : Addr} (e : Ex H H') (h : H' p = none) : H p = none := by
  cases z : H p with
  | none => rfl
  | some o =>
    rw [e _ _ z] at h
    cases h
theorem any_lt (t : String) (b1 b2 : Bool) (h1 : kitB t "list" = some b1) (h2 : kitB t "tuple" = some b2) (h : (b1 || b2) = true) : PySem.W.kitAny K (.type t) [.type "list", .type "tuple"] = some true := by
  unfold PySem.W.kitAny
  rw [kit_ty h1]
  cases b1 with
  | true => rfl
  | false =>
    show PySem.W.kitAny K (.type t) [.type "tuple"] = some true
    unfold PySem.W.kitAny
    rw [kit_ty h2]
    cases b2 with
    | true => rfl
    | false => cases h
def spSort (K : PySem.W.Frag) : Sp := fun vs H Q _ => ∃ a xs ts, vs = [.ref a] ∧ (H a = some (.lst xs) ∨ SqT K H a xs) ∧ Reps K H ts xs ∧ Oks ts ∧ (∀ t ∈ ts, size t ≤ 50000) ∧ xs.length ≤ 1000 ∧
  ∀ p ys us H', H p = none → Ex H H' → H' p = some (.lst ys) → Reps K H' us ys → us.Perm ts → Rising us → Q (.ref p) H'
theorem ok_sort_terms (T : Tx K mg) : FnOk P w K mg base CX0 8 T.f_sort_terms T.d_sort_terms ["terms"] (spSort K) := by
  refine T.h_sort_terms.F.ok sc_sort_terms (fun vs H Q E h => ?_) (fun cdv A outer s H vs Q E hr h => ?_)
  · obtain ⟨v, _, _, rfl, _⟩ := h
    rfl
  obtain ⟨a, xs, ts, rfl, hS, hR, hO, hz, hx, q⟩ := h
  rcases hS with hS | hS
  · refine ⟨_, (pss_cons (ps_if (pt_not (pt_val (pe_callB call_isiT rfl T.b_isinstance (by decide +kernel) (pa_cons (pv 0) (pa_cons (pe_tup (pa_cons (pe_bltn (v := .ty "list") (u := .type "list") rfl T.b_list (by decide +kernel) rfl) (pa_cons (pe_bltn (v := .ty "tuple") (u := .type "tuple") rfl T.b_tuple (by decide +kernel) rfl) pa_nil))) pa_nil)))))
      (pss_one ps_never)
      pss_nil)
    (pss_cons (ps_for PassesOwn.never rfl (pi_list (pv 0)) (pg_name (i := 1) sc_sort_terms.nd rfl (Or.inl rfl))
      (pss_one (ps_expr (cl (ok_demand_term T) T.h_demand_term hr (pa_cons (pv 1) pa_nil)))))
    (pss_one (ps_ret (pe_callBK (cr_srt (ok_order_key T) T.h_order_key.b (hr.mono (by omega))) rfl T.b_sorted (by decide +kernel) (pa_cons (pv 0) pa_nil) (pk_cons (pe_glob (v := .ref T.f_order_key) rfl T.h_order_key.m rfl) pk_nil)))))), ?_⟩
    refine ⟨_, rfl, (by show 2 ≤ sizeLine; decide), fun p hp => ?_⟩
    have e1 := Ex.new (o := HO.tup [V.ty "list", V.ty "tuple"]) hp
    refine ⟨_, p, _, _, _, true, rfl, upd_same, .cons (.ty "list") (.cons (.ty "tuple") .nil), .base (.lst (e1 _ _ hS)), any_lt "list" true false (by decide +kernel) (by decide +kernel) rfl, true, rfl, iteF ?_⟩
    refine ⟨_, rfl, a, rfl, ⟨xs, SqL.of (e1 _ _ hS)⟩, for_list (fun i σ' H' => ∃ x, σ' = [some (.ref a), x] ∧ Ex H H') ⟨none, rfl, e1⟩ (fun i σ' H' _ ⟨_, _, h⟩ => SqL.of (h _ _ hS)) ?_ ?_⟩
    · rintro i x σ' H' hx2 ⟨x3, rfl, e2⟩
      obtain ⟨ti, hti, hri⟩ := (hR.mono (Tups.of e2)).get hx2
      exact ⟨_, rfl, x, ti, rfl, hri, oks_get hO hti, hz ti (List.mem_of_getElem? hti), fun u H3 e3 _ => ⟨_, rfl, e2.trans e3⟩⟩
    · rintro σ' H' ⟨x3, rfl, e2⟩
      exact ⟨_, rfl, a, xs, ts, rfl, rfl, .inl (SqL.of (e2 _ _ hS)), hR.mono (Tups.of e2), hO, hz, hx, fun p2 ys us H3 hp2 e3 hL hRs pm ri => q p2 ys us H3 (ex_none e2 hp2) (e2.trans e3) hL hRs pm ri⟩
  · refine ⟨_, (pss_cons (ps_if (pt_not (pt_val (pe_callB call_isiT rfl T.b_isinstance (by decide +kernel) (pa_cons (pv 0) (pa_cons (pe_tup (pa_cons (pe_bltn (v := .ty "list") (u := .type "list") rfl T.b_list (by decide +kernel) rfl) (pa_cons (pe_bltn (v := .ty "tuple") (u := .type "tuple") rfl T.b_tuple (by decide +kernel) rfl) pa_nil))) pa_nil)))))
      (pss_one ps_never)
      pss_nil)
    (pss_cons (ps_for PassesOwn.never rfl (pi_tup (pv 0)) (pg_name (i := 1) sc_sort_terms.nd rfl (Or.inl rfl))
      (pss_one (ps_expr (cl (ok_demand_term T) T.h_demand_term hr (pa_cons (pv 1) pa_nil)))))
    (pss_one (ps_ret (pe_callBK (cr_srt (ok_order_key T) T.h_order_key.b (hr.mono (by omega))) rfl T.b_sorted (by decide +kernel) (pa_cons (pv 0) pa_nil) (pk_cons (pe_glob (v := .ref T.f_order_key) rfl T.h_order_key.m rfl) pk_nil)))))), ?_⟩
    refine ⟨_, rfl, (by show 2 ≤ sizeLine; decide), fun p hp => ?_⟩
    have e1 := Ex.new (o := HO.tup [V.ty "list", V.ty "tuple"]) hp
    refine ⟨_, p, _, _, _, true, rfl, upd_same, .cons (.ty "list") (.cons (.ty "tuple") .nil), tyx_tup (Evl.ex_t e1 hS), any_lt "tuple" false true (by decide +kernel) (by decide +kernel) rfl, true, rfl, iteF ?_⟩
    refine ⟨_, rfl, a, rfl, ⟨xs, Evl.ex_t e1 hS⟩, for_it walk_tup (fun i σ' H' => ∃ x, σ' = [some (.ref a), x] ∧ Ex H H') ⟨none, rfl, e1⟩ (fun i σ' H' _ ⟨_, _, h⟩ => Evl.ex_t h hS) ?_ ?_⟩
    · rintro i x σ' H' Hx hi ⟨x3, rfl, e2⟩ ⟨rfl, hx2⟩
      obtain ⟨ti, hti, hri⟩ := (hR.mono (Tups.of e2)).get hx2
      exact ⟨_, rfl, x, ti, rfl, hri, oks_get hO hti, hz ti (List.mem_of_getElem? hti), fun u H3 e3 _ => ⟨_, rfl, e2.trans e3⟩⟩
    · rintro σ' H' ⟨x3, rfl, e2⟩
      exact ⟨_, rfl, a, xs, ts, rfl, rfl, .inr (Evl.ex_t e2 hS), hR.mono (Tups.of e2), hO, hz, hx, fun p2 ys us H3 hp2 e3 hL hRs pm ri => q p2 ys us H3 (ex_none e2 hp2) (e2.trans e3) hL hRs pm ri⟩
end
end Hm

set_option Elab.async false
set_option linter.all false
set_option maxRecDepth 100000
set_option maxHeartbeats 1000000
namespace Hm
open PySem PySem.Spec PyProof.Rows L2 HT
open Evl (Ex)
open RZ
/-- x < y of two ints, two texts, two tuples of ints -/
def rLtX (K : PySem.W.Frag) : R2 := fun x y H Q => (∃ i j, x = .int i ∧ y = .int j ∧ Q (.bl (decide (i < j))) H) ∨ (∃ i j, x = .str i ∧ y = .str j ∧ Q (.bl (decide (i.cps.toList < j.cps.toList))) H) ∨ rLtT K x y H Q
theorem op_ltX {X : Cx} (hu : X.A.units < cLine) : OpR X (compareOp .Lt) (rLtX X.K) := by
  intro pins s σ H x y v u Q I rx ry h
  rcases h with h | h | h
  · exact op_lt pins s σ H x y v u Q I rx ry h
  · exact op_lt_str pins s σ H x y v u Q I rx ry h
  · exact op_ltT hu pins s σ H x y v u Q I rx ry h
theorem walk_zipT {K : PySem.W.Frag} {a b : Addr} {xs ys : List V} {n : Nat} (hn : n = min xs.length ys.length) : Walk (ItzT K a b) n (fun H => SqT K H a xs ∧ SqT K H b ys) (YPair (fun i => xs[i]?) (fun i => ys[i]?)) := by
  subst hn
  refine ⟨fun i _ hi q => ?_, fun _ q => ⟨xs, ys, q.1, q.2, by omega⟩, fun i H v H' _ q y => ?_⟩
  · exact ⟨xs, ys, xs[i]'(by omega), ys[i]'(by omega), q.1, q.2, by simp [show i < xs.length by omega], by simp [show i < ys.length by omega]⟩
  · obtain ⟨T, x, z, h1, h2, h3, h4, h5⟩ := y
    exact ⟨T, x, z, h1, h2, h3, h4 xs q.1, h5 ys q.2⟩
section
variable {P : Program} {w : World} {K : PySem.W.Frag} {mg : Str → Option Value} {base : Heap}
theorem depth_pos (t : Tm) : 1 ≤ depth t := by
  rw [depth_eq]
  omega
theorem tords_take : ∀ {i : Nat} {as bs : List Tm} {a b : Tm}, tords (as.take i) (bs.take i) = 0 → as[i]? = some a → bs[i]? = some b → tords (as.take (i + 1)) (bs.take (i + 1)) = tord a b ∧ (tord a b ≠ 0 → tords as bs = tord a b)
  | _, [], _, _, _, _, h, _ => by simp at h
  | _, _ :: _, [], _, _, _, _, h => by simp at h
  | 0, x :: xs, y :: ys, a, b, _, h1, h2 => by
    have e1 : x = a := by simpa using h1
    have e2 : y = b := by simpa using h2
    subst e1 e2
    refine ⟨?_, fun z => by rw [tords, if_neg z]⟩
    show tords [x] [y] = tord x y
    rw [tords]
    split
    · next z =>
      rw [z]
      show tords [] [] = 0
      simp [tords]
    · rfl
  | i + 1, x :: xs, y :: ys, a, b, h, h1, h2 => by
    rw [List.take_succ_cons, List.take_succ_cons, tords] at h
    rw [List.take_succ_cons, List.take_succ_cons, tords, tords]
    by_cases z : tord x y = 0
    · rw [if_pos z] at h
      rw [if_pos z, if_pos z]
      exact tords_take h (by simpa using h1) (by simpa using h2)
    · rw [if_neg z] at h
      exact absurd h z
def spRank (K : PySem.W.Frag) : Sp := fun vs H Q _ => ∃ v t, vs = [v] ∧ Rep K H t v ∧ Ok t ∧ Q (.int (rank t)) H
theorem ok_law_rank (T : Tx K mg) : FnOk P w K mg base CX0 1 T.f_law_rank T.d_law_rank ["_law_term_here"] (spRank K) := by
  refine T.h_law_rank.F.ok sc_law_rank (fun vs H Q E h => ?_) (fun cdv A outer s H vs Q E hr h => ?_)
  · obtain ⟨v, t, rfl, _⟩ := h
    rfl
  obtain ⟨v, t, rfl, hR, hO, q⟩ := h
  refine ⟨_, (pss_cons (ps_if (pt_val (pe_callB call_isi rfl T.b_isinstance (by decide +kernel) (pa_cons (pv 0) (pa_cons (pe_bltn (v := .ty "tuple") (u := .type "tuple") rfl T.b_tuple (by decide +kernel) rfl) pa_nil))))
      (pss_one (ps_ret (pe_ifExp (pt_cmpR op_eq (pe_callB call_len_seq rfl T.b_len (by decide +kernel) (pa_cons (pv 0) pa_nil)) pe_int (nomark _)) pe_int pe_int)))
      pss_nil)
    (pss_one (ps_ret (pe_ifExp (pt_val (pe_callB call_isi rfl T.b_isinstance (by decide +kernel) (pa_cons (pv 0) (pa_cons (pe_bltn (v := .ty "str") (u := .type "str") rfl T.b_str (by decide +kernel) rfl) pa_nil)))) pe_int pe_int)))), ?_⟩
  cases t with
  | var k =>
    unfold Rep at hR
    obtain ⟨a, rfl, hT⟩ := hR
    refine ⟨_, rfl, _, _, _, _, true, rfl, .ty "tuple", tyx_tup hT, kit_ty (by decide +kernel), true, rfl, iteT ?_⟩
    exact ⟨_, rfl, a, _, rfl, .inr hT, rfl, _, rfl, iteT q⟩
  | int i =>
    unfold Rep at hR
    subst hR
    refine ⟨_, rfl, _, _, _, _, false, rfl, .ty "tuple", .base (.int i), kit_ty (by decide +kernel), false, rfl, iteF ?_⟩
    exact ⟨_, rfl, _, _, _, _, false, rfl, .ty "str", .base (.int i), kit_ty (by decide +kernel), false, rfl, iteF q⟩
  | atom z =>
    unfold Rep at hR
    subst hR
    refine ⟨_, rfl, _, _, _, _, false, rfl, .ty "tuple", .base (.str z), kit_ty (by decide +kernel), false, rfl, iteF ?_⟩
    exact ⟨_, rfl, _, _, _, _, true, rfl, .ty "str", .base (.str z), kit_ty (by decide +kernel), true, rfl, iteT q⟩
  | comp f as =>
    unfold Rep at hR
    obtain ⟨a, ws, rfl, hT, hA⟩ := hR
    have hl := hA.len
    unfold Ok at hO
    have e : decide (V.int (((V.str f :: ws).length : Nat) : Int) = V.int 1) = false := by
      rw [show (V.int 1) = V.int ((1 : Nat) : Int) from rfl, dec_len, decide_eq_false]
      rw [List.length_cons]
      omega
    refine ⟨_, rfl, _, _, _, _, true, rfl, .ty "tuple", tyx_tup hT, kit_ty (by decide +kernel), true, rfl, iteT ?_⟩
    refine ⟨_, rfl, a, _, rfl, .inr hT, rfl, _, rfl, ?_⟩
    rw [e]
    exact iteF q
def spOrd (K : PySem.W.Frag) (n : Nat) : Sp := fun vs H Q _ => ∃ v t v' t', vs = [v, v'] ∧ Rep K H t v ∧ Rep K H t' v' ∧ Ok t ∧ Ok t' ∧ depth t ≤ n ∧ ∀ H', Ex H H' → Q (.int (tord t t')) H'
theorem ord_step (T : Tx K mg) (n : Nat) (ih : FnOk P w K mg base CX0 (n + 2) T.f_law_order T.d_law_order ["_law_one_here", "_law_other"] (spOrd K n)) :
    FnOk P w K mg base CX0 (n + 2 + 1) T.f_law_order T.d_law_order ["_law_one_here", "_law_other"] (spOrd K (n + 1)) := by
  refine T.h_law_order.F.ok sc_law_order (fun vs H Q E h => ?_) (fun cdv A outer s H vs Q E hr h => ?_)
  · obtain ⟨v, t, _, _, rfl, _⟩ := h
    rfl
  obtain ⟨v, t, v', t', rfl, hR, hR', hO, hO', hd, q⟩ := h
  refine ⟨_, (pss_cons (ps_set (i := 2) sc_law_order.nd rfl (Or.inl rfl) (pe_tup (pa_cons (cl (ok_law_rank T) T.h_law_rank hr (pa_cons (pv 0) pa_nil)) (pa_cons (cl (ok_law_rank T) T.h_law_rank hr (pa_cons (pv 1) pa_nil)) pa_nil))))
    (pss_cons (ps_if (pt_cmpR op_ne (pe_ix ix_tup (pv 2) pe_int (fun _ _ => rfl)) (pe_ix ix_tup (pv 2) pe_int (fun _ _ => rfl)) (nomark _))
      (pss_one (ps_ret (pe_ifExp (pt_cmpR op_lt (pe_ix ix_tup (pv 2) pe_int (fun _ _ => rfl)) (pe_ix ix_tup (pv 2) pe_int (fun _ _ => rfl)) (nomark _)) (pe_un un_neg pe_int) pe_int)))
      pss_nil)
    (pss_cons (ps_if (pt_cmpR op_lt (pe_ix ix_tup (pv 2) pe_int (fun _ _ => rfl)) pe_int (nomark _))
      (pss_one (ps_ret (pe_ifExp (pt_cmpR (op_eqD hr.units) (pv 0) (pv 1) (nomark _)) pe_int (pe_ifExp (pt_cmpR (op_ltX hr.units0) (pv 0) (pv 1) (nomark _)) (pe_un un_neg pe_int) pe_int))))
      pss_nil)
    (pss_cons (ps_for PassesOwn.never rfl (pi_tup (pe_tup (pa_cons (pe_tup (pa_cons (pe_callB call_len_seq rfl T.b_len (by decide +kernel) (pa_cons (pv 0) pa_nil)) (pa_cons (pe_callB call_len_seq rfl T.b_len (by decide +kernel) (pa_cons (pv 1) pa_nil)) pa_nil))) (pa_cons (pe_tup (pa_cons (pe_ix ix_tup (pv 0) pe_int (fun _ _ => rfl)) (pa_cons (pe_ix ix_tup (pv 1) pe_int (fun _ _ => rfl)) pa_nil))) pa_nil)))) (pg_tup rfl (pgs_cons (pg_name (i := 3) sc_law_order.nd rfl (Or.inl rfl)) (pgs_cons (pg_name (i := 4) sc_law_order.nd rfl (Or.inl rfl)) pgs_nil)))
      (pss_one (ps_if (pt_cmpR op_ne (pv 3) (pv 4) (nomark _))
      (pss_one (ps_ret (pe_ifExp (pt_cmpR (op_ltX hr.units0) (pv 3) (pv 4) (nomark _)) (pe_un un_neg pe_int) pe_int)))
      pss_nil)))
    (pss_cons (ps_for PassesOwn.never rfl (pi_zipA rfl T.b_zip (pa_cons (pe_slice sl_tup (pv 0) (po_some pe_int) po_none) (pa_cons (pe_slice sl_tup (pv 1) (po_some pe_int) po_none) pa_nil))) (pg_tup rfl (pgs_cons (pg_name (i := 3) sc_law_order.nd rfl (Or.inl rfl)) (pgs_cons (pg_name (i := 4) sc_law_order.nd rfl (Or.inl rfl)) pgs_nil)))
      (pss_cons (ps_set (i := 5) sc_law_order.nd rfl (Or.inl rfl) (cl ih T.h_law_order hr (pa_cons (pv 3) (pa_cons (pv 4) pa_nil))))
    (pss_one (ps_if (pt_cmpR op_ne (pv 5) pe_int (nomark _))
      (pss_one (ps_ret (pv 5)))
      pss_nil))))
    (pss_one (ps_ret pe_int))))))), ?_⟩
  refine ⟨_, rfl, v, t, rfl, hR, hO, _, rfl, v', t', rfl, hR', hO', (by show 2 ≤ sizeLine; decide), fun p hp => ?_⟩
  have e1 := Ex.new (o := HO.tup [V.int (rank t), V.int (rank t')]) hp
  have hP : SqT K (upd H p (.tup [V.int (rank t), V.int (rank t')])) p [V.int (rank t), V.int (rank t')] := SqT.of upd_same
  have r1 := hR.mono (Tups.of e1)
  have r1' := hR'.mono (Tups.of e1)
  generalize upd H p (.tup [V.int (rank t), V.int (rank t')]) = H1 at *
  have at1 : atI [V.int (rank t), V.int (rank t')] 1 = some (V.int (rank t')) := atI_nat (j := 1) rfl
  refine ⟨_, rfl, p, _, 0, _, rfl, rfl, hP, at0, _, rfl, p, _, 1, _, rfl, rfl, hP, at1, rfl, _, rfl, ?_⟩
  rw [dec_int]
  by_cases e : rank t = rank t'
  · rw [e, beq_self_eq_true]
    refine iteF ?_
    have leaf : ∀ (i j : Int), tord t t' = intC i j → ∀ H', Ex H H' → (decide (intC i j = 0) = true → Q (.int 0) H') ∧ (decide (intC i j = 0) = false → decide (i < j) = true → Q (.int (-1)) H') ∧ (decide (intC i j = 0) = false → decide (i < j) = false → Q (.int 1) H') := fun i j e0 H' ee => by
      have r := q H' ee
      rw [e0] at r
      refine ⟨fun z => ?_, fun z z2 => ?_, fun z z2 => ?_⟩
      · rw [of_decide_eq_true z] at r
        exact r
      · have n0 := of_decide_eq_false z
        rw [intC_lt i j n0] at z2
        have := of_decide_eq_true z2
        have ran := intC_ok.ran i j
        have e3 : intC i j = -1 := by omega
        rw [e3] at r
        exact r
      · have n0 := of_decide_eq_false z
        rw [intC_lt i j n0] at z2
        have := of_decide_eq_false z2
        have ran := intC_ok.ran i j
        have e3 : intC i j = 1 := by omega
        rw [e3] at r
        exact r
    refine ⟨_, rfl, p, _, 0, _, rfl, rfl, hP, at0, _, _, rfl, rfl, _, rfl, ?_⟩
    cases t with
    | var i =>
      cases t' with
      | var j =>
        have d1 := dp_rep r1
        have d2 := dp_rep r1'
        have s1 := shaped_tm hO (by show 1 ≤ 64; decide)
        have s2 := shaped_tm hO' (by show 1 ≤ 64; decide)
        obtain ⟨a, rfl, hT⟩ := (show ∃ a, v = .ref a ∧ SqT K H1 a [.int i] by unfold Rep at r1; exact r1)
        obtain ⟨b, rfl, hT'⟩ := (show ∃ a, v' = .ref a ∧ SqT K H1 a [.int j] by unfold Rep at r1'; exact r1')
        obtain ⟨l0, l1, l2⟩ := leaf i j (tord_var i j) H1 e1
        refine iteT ⟨_, rfl, _, rfl, _, _, d1, d2, s1, s2, _, rfl, ?_⟩
        rw [eqv_toD, tord_var]
        refine ite2 (fun c => l0 c) (fun c => ?_)
        refine ⟨_, rfl, _, rfl, .inr (.inr ⟨a, b, [i], [j], rfl, rfl, hT, hT', _, rfl, ?_⟩)⟩
        have el : HT.lexLt [i] [j] = decide (i < j) := by
          have n0 : i ≠ j := fun z => c (decide_eq_true (by rw [z]; exact intC_ok.refl _))
          simp [HT.lexLt, n0]
        rw [el]
        have c' := Bool.eq_false_iff.mpr c
        refine ite2 (fun c2 => ⟨_, rfl, l1 c' c2⟩) (fun c2 => l2 c' (Bool.eq_false_iff.mpr c2))
      | int j => simp [rank] at e
      | atom j => simp [rank] at e
      | comp g bs => simp [rank] at e
    | int i =>
      cases t' with
      | int j =>
        have d1 := dp_rep r1
        have d2 := dp_rep r1'
        have s1 := shaped_tm hO (by show 1 ≤ 64; decide)
        have s2 := shaped_tm hO' (by show 1 ≤ 64; decide)
        unfold Rep at r1 r1'
        subst r1 r1'
        obtain ⟨l0, l1, l2⟩ := leaf i j (tord_int i j) H1 e1
        refine iteT ⟨_, rfl, _, rfl, _, _, d1, d2, s1, s2, _, rfl, ?_⟩
        rw [eqv_toD, tord_int]
        refine ite2 (fun c => l0 c) (fun c => ?_)
        refine ⟨_, rfl, _, rfl, .inl ⟨i, j, rfl, rfl, _, rfl, ?_⟩⟩
        have c' := Bool.eq_false_iff.mpr c
        refine ite2 (fun c2 => ⟨_, rfl, l1 c' c2⟩) (fun c2 => l2 c' (Bool.eq_false_iff.mpr c2))
      | var j => simp [rank] at e
      | atom j => simp [rank] at e
      | comp g bs => simp [rank] at e
    | atom i =>
      cases t' with
      | atom j =>
        have d1 := dp_rep r1
        have d2 := dp_rep r1'
        have s1 := shaped_tm hO (by show 1 ≤ 64; decide)
        have s2 := shaped_tm hO' (by show 1 ≤ 64; decide)
        unfold Rep at r1 r1'
        subst r1 r1'
        have r := q H1 e1
        rw [tord_atom] at r
        refine iteT ⟨_, rfl, _, rfl, _, _, d1, d2, s1, s2, _, rfl, ?_⟩
        rw [eqv_toD, tord_atom]
        have ran := tord_ok.ran (.atom i) (.atom j)
        rw [tord_atom] at ran
        refine ite2 (fun c => ?_) (fun c => ?_)
        · rw [of_decide_eq_true c] at r
          exact r
        · have n0 : sC i j ≠ 0 := fun z => c (decide_eq_true z)
          refine ⟨_, rfl, _, rfl, .inr (.inl ⟨i, j, rfl, rfl, _, rfl, ?_⟩)⟩
          rw [sC_lt i j n0]
          refine ite2 (fun c2 => ⟨_, rfl, ?_⟩) (fun c2 => ?_)
          · have := of_decide_eq_true c2
            have e3 : sC i j = -1 := by omega
            rw [e3] at r
            exact r
          · have : ¬ sC i j < 0 := fun z => c2 (decide_eq_true z)
            have e3 : sC i j = 1 := by omega
            rw [e3] at r
            exact r
      | var j => simp [rank] at e
      | int j => simp [rank] at e
      | comp g bs => simp [rank] at e
    | comp f as =>
      cases t' with
      | comp g bs =>
        refine iteF ?_
        obtain ⟨a, ws, rfl, hT, hA⟩ := (show ∃ a ws, v = .ref a ∧ SqT K H1 a (.str f :: ws) ∧ Reps K H1 as ws by unfold Rep at r1; exact r1)
        obtain ⟨b, ws', rfl, hT', hA'⟩ := (show ∃ a ws, v' = .ref a ∧ SqT K H1 a (.str g :: ws) ∧ Reps K H1 bs ws by unfold Rep at r1'; exact r1')
        have l1 := hA.len
        have l2 := hA'.len
        have hq : ∀ H', Ex H H' → Q (.int (if intC as.length bs.length = 0 then (if sC f g = 0 then tords as bs else sC f g) else intC as.length bs.length)) H' := fun H' ee => by
          have r := q H' ee
          rw [tord] at r
          exact r
        refine ⟨_, rfl, a, _, rfl, .inr hT, _, rfl, b, _, rfl, .inr hT', (by show 2 ≤ sizeLine; decide), fun p1 hp1 => ?_⟩
        have f1 := Ex.new (o := HO.tup [V.int (((V.str f :: ws).length : Nat) : Int), V.int (((V.str g :: ws').length : Nat) : Int)]) hp1
        have hP1 : SqT K (upd H1 p1 (.tup [V.int (((V.str f :: ws).length : Nat) : Int), V.int (((V.str g :: ws').length : Nat) : Int)])) p1 _ := SqT.of upd_same
        have hT1 := Evl.ex_t f1 hT
        have hT1' := Evl.ex_t f1 hT'
        generalize upd H1 p1 (.tup [V.int (((V.str f :: ws).length : Nat) : Int), V.int (((V.str g :: ws').length : Nat) : Int)]) = HA at *
        refine ⟨_, rfl, a, _, 0, _, rfl, rfl, hT1, at0, _, rfl, b, _, 0, _, rfl, rfl, hT1', at0, (by show 2 ≤ sizeLine; decide), fun p2 hp2 => ⟨(by show 2 ≤ sizeLine; decide), fun p3 hp3 => ?_⟩⟩
        have f2 := Ex.new (o := HO.tup [V.str f, V.str g]) hp2
        have hP2 : SqT K (upd HA p2 (.tup [V.str f, V.str g])) p2 [V.str f, V.str g] := SqT.of upd_same
        have hP12 := Evl.ex_t f2 hP1
        generalize upd HA p2 (.tup [V.str f, V.str g]) = HB at *
        have f3 := Ex.new (o := HO.tup [V.ref p1, V.ref p2]) hp3
        have hP3' : SqT K (upd HB p3 (.tup [V.ref p1, V.ref p2])) p3 [V.ref p1, V.ref p2] := SqT.of upd_same
        have hP1' := Evl.ex_t f3 hP12
        have hP2' := Evl.ex_t f3 hP2
        generalize upd HB p3 (.tup [V.ref p1, V.ref p2]) = H2 at *
        have f13 := (f1.trans f2).trans f3
        refine ⟨p3, rfl, ⟨_, hP3'⟩, for_it walk_tup (fun i σ' H' => ∃ m it, σ' = [some (.ref a), some (.ref b), some (.ref p), m, it, none] ∧ Ex H2 H' ∧ (1 ≤ i → intC as.length bs.length = 0) ∧ (2 ≤ i → sC f g = 0))
          ⟨none, none, rfl, Ex.refl _, fun z => absurd z (by omega), fun z => absurd z (by omega)⟩ (fun i σ' H' _ ⟨_, _, _, h, _⟩ => Evl.ex_t h hP3') ?_ ?_⟩
        · rintro i x σ' Hx H' hi ⟨m, it, rfl, e2, c1, c2⟩ ⟨rfl, hx⟩
          match i, hx with
          | 0, hx =>
            have hx' : x = .ref p1 := (Option.some.inj hx).symm
            subst hx'
            refine ⟨p1, _, rfl, Evl.ex_t e2 hP1', rfl, _, _, rfl, _, _, rfl, rfl, ?_⟩
            refine ⟨_, rfl, _, rfl, rfl, _, rfl, ?_⟩
            rw [dec_int]
            have r := hq H' ((e1.trans f13).trans e2)
            have hl1 : (((V.str f :: ws).length : Nat) : Int) = (as.length : Int) + 1 := by rw [List.length_cons]; omega
            have hl2 : (((V.str g :: ws').length : Nat) : Int) = (bs.length : Int) + 1 := by rw [List.length_cons]; omega
            rw [hl1, hl2]
            by_cases el : intC (as.length : Int) (bs.length : Int) = 0
            · have := intC_ok.eq _ _ el
              rw [this, beq_self_eq_true]
              exact iteF ⟨_, _, rfl, e2, fun _ => by rw [← this] at el ⊢; exact el, fun z => absurd z (by omega)⟩
            · rw [if_neg el] at r
              have ne : (as.length : Int) ≠ (bs.length : Int) := fun z => el (by rw [z]; exact intC_ok.refl _)
              rw [beq_false_of_ne (show (as.length : Int) + 1 ≠ (bs.length : Int) + 1 by omega)]
              refine iteT ⟨_, rfl, _, rfl, .inl ⟨_, _, rfl, rfl, _, rfl, ?_⟩⟩
              have ran := intC_ok.ran (as.length : Int) (bs.length : Int)
              have lt := intC_lt _ _ el
              refine ite2 (fun c => ⟨_, rfl, ?_⟩) (fun c => ?_)
              · have h3 := of_decide_eq_true c
                rw [decide_eq_true (show (as.length : Int) < (bs.length : Int) by omega)] at lt
                have := of_decide_eq_true lt.symm
                have e3 : intC (as.length : Int) (bs.length : Int) = -1 := by omega
                rw [e3] at r
                exact r
              · have h3 : ¬ (as.length : Int) + 1 < (bs.length : Int) + 1 := fun z => c (decide_eq_true z)
                rw [decide_eq_false (show ¬ (as.length : Int) < (bs.length : Int) by omega)] at lt
                have := of_decide_eq_false lt.symm
                have e3 : intC (as.length : Int) (bs.length : Int) = 1 := by omega
                rw [e3] at r
                exact r
          | 1, hx =>
            have hx' : x = .ref p2 := (Option.some.inj hx).symm
            subst hx'
            refine ⟨p2, _, rfl, Evl.ex_t e2 hP2', rfl, _, _, rfl, _, _, rfl, rfl, ?_⟩
            refine ⟨_, rfl, _, rfl, rfl, _, rfl, ?_⟩
            have r := hq H' ((e1.trans f13).trans e2)
            have z1 := c1 (Nat.le_refl 1)
            rw [if_pos z1] at r
            have ran := tord_ok.ran (.atom f) (.atom g)
            rw [tord_atom] at ran
            by_cases el : sC f g = 0
            · have hf : f = g := by
                rw [sC_eq] at el
                split at el
                · assumption
                · split at el <;> omega
              have d : decide (V.str f = V.str g) = true := decide_eq_true (by rw [hf])
              rw [d]
              exact iteF ⟨_, _, rfl, e2, fun _ => z1, fun _ => el⟩
            · rw [if_neg el] at r
              have d : decide (V.str f = V.str g) = false := decide_eq_false (fun z => by
                injection z with z
                apply el
                rw [z, sC_eq, if_pos rfl])
              rw [d]
              refine iteT ⟨_, rfl, _, rfl, .inr (.inl ⟨_, _, rfl, rfl, _, rfl, ?_⟩)⟩
              rw [sC_lt f g el]
              refine ite2 (fun c => ⟨_, rfl, ?_⟩) (fun c => ?_)
              · have h3 := of_decide_eq_true c
                have e3 : sC f g = -1 := by omega
                rw [e3] at r
                exact r
              · have h3 : ¬ sC f g < 0 := fun z => c (decide_eq_true z)
                have e3 : sC f g = 1 := by omega
                rw [e3] at r
                exact r
          | n + 2, hx => simp at hx
        · rintro σ' H' ⟨m, it, rfl, e2, c1, c2⟩
          have z1 := c1 (by show 1 ≤ 2; decide)
          have z2 := c2 (by show 2 ≤ 2; decide)
          have hlen : as.length = bs.length := by
            have := intC_ok.eq _ _ z1
            omega
          have hq2 : ∀ H', Ex H H' → Q (.int (tords as bs)) H' := fun H' ee => by
            have r := hq H' ee
            rw [if_pos z1, if_pos z2] at r
            exact r
          have g1 := (f13).trans e2
          refine ⟨_, rfl, _, rfl, a, _, rfl, Evl.ex_t g1 hT, cut1_ne _ _, fun q1 hq1 => ?_⟩
          rw [cut1]
          have g2 := Ex.new (o := HO.tup ws) hq1
          have hW : SqT K (upd H' q1 (.tup ws)) q1 ws := SqT.of upd_same
          generalize upd H' q1 (.tup ws) = HA2 at *
          refine ⟨_, rfl, _, rfl, b, _, rfl, Evl.ex_t (g1.trans g2) hT', cut1_ne _ _, fun q2 hq2' => ?_⟩
          rw [cut1]
          have g3 := Ex.new (o := HO.tup ws') hq2'
          have hW' : SqT K (upd HA2 q2 (.tup ws')) q2 ws' := SqT.of upd_same
          have hW1 := Evl.ex_t g3 hW
          generalize upd HA2 q2 (.tup ws') = HB2 at *
          have g13 := (g1.trans g2).trans g3
          have hA2 := hA.mono (Tups.of g13)
          have hA2' := hA'.mono (Tups.of g13)
          refine ⟨q1, q2, ws, ws', rfl, .inr ⟨hW1, hW', for_it (walk_zipT (n := as.length) (by omega)) (fun i σ' H' => ∃ m it fo, σ' = [some (.ref a), some (.ref b), some (.ref p), m, it, fo] ∧ Ex HB2 H' ∧ tords (as.take i) (bs.take i) = 0)
            ⟨m, it, none, rfl, Ex.refl _, rfl⟩ (fun i σ' H' _ ⟨_, _, _, _, h, _⟩ => ⟨Evl.ex_t h hW1, Evl.ex_t h hW'⟩) ?_ ?_⟩⟩
          · rintro i x σ' Hx H' hi ⟨m2, it2, fo, rfl, e5, hz⟩ ⟨TT, x1, x2, rfl, hTT, rfl, hx1, hx2⟩
            have e6 := Ex.new (o := HO.tup [x1, x2]) hTT
            obtain ⟨ai, hai, hra⟩ := ((hA2.mono (Tups.of e5)).mono (Tups.of e6)).get hx1
            obtain ⟨bi, hbi, hrb⟩ := ((hA2'.mono (Tups.of e5)).mono (Tups.of e6)).get hx2
            have hOc := hO
            unfold Ok at hOc
            have hOc' := hO'
            unfold Ok at hOc'
            refine ⟨TT, _, rfl, SqT.of upd_same, rfl, _, _, rfl, _, _, rfl, rfl, ?_⟩
            have hdi := depths_get hai
            have hde : depth (.comp f as) = 1 + depths as := by unfold depth; rfl
            refine ⟨_, rfl, _, rfl, x1, ai, x2, bi, rfl, hra, hrb, oks_get hOc.2.2.2 hai, oks_get hOc'.2.2.2 hbi, by omega, fun H7 e7 => ?_⟩
            refine ⟨_, rfl, rfl, _, rfl, ?_⟩
            rw [dec_int]
            obtain ⟨w1, w2⟩ := tords_take hz hai hbi
            by_cases z : tord ai bi = 0
            · rw [z, beq_self_eq_true]
              exact iteF ⟨_, _, _, rfl, (e5.trans e6).trans e7, by rw [w1, z]⟩
            · rw [beq_false_of_ne z]
              have r := hq2 H7 ((((e1.trans g13).trans e5).trans e6).trans e7)
              rw [w2 z] at r
              exact iteT ⟨_, rfl, r⟩
          · rintro σ' H' ⟨m2, it2, fo, rfl, e5, hz⟩
            rw [List.take_of_length_le (Nat.le_refl _), List.take_of_length_le (by omega)] at hz
            have r := hq2 H' ((e1.trans g13).trans e5)
            rw [hz] at r
            exact r
      | var j => simp [rank] at e
      | int j => simp [rank] at e
      | atom j => simp [rank] at e
  · rw [beq_false_of_ne e]
    refine iteT ⟨_, rfl, p, _, 0, _, rfl, rfl, hP, at0, _, rfl, p, _, 1, _, rfl, rfl, hP, at1, _, _, rfl, rfl, _, rfl, ?_⟩
    have r := q _ e1
    rw [tord_rank e, intC, if_neg e] at r
    by_cases z : rank t < rank t'
    · rw [if_pos z] at r
      rw [decide_eq_true z]
      exact iteT ⟨_, rfl, r⟩
    · rw [if_neg z] at r
      rw [decide_eq_false z]
      exact iteF r
theorem ok_law_order (T : Tx K mg) : ∀ n : Nat, FnOk P w K mg base CX0 (n + 2) T.f_law_order T.d_law_order ["_law_one_here", "_law_other"] (spOrd K n)
  | 0 => by
    have no : ∀ vs H Q E, ¬ spOrd K 0 vs H Q E := fun vs H Q E ⟨v, t, _, _, _, _, _, _, _, h, _⟩ => by
      have := depth_pos t
      omega
    exact ⟨fun vs H Q E h => absurd h (no vs H Q E), fun A outer s H args us vs Q E _ _ _ _ h => absurd h (no vs H Q E)⟩
  | n + 1 => ord_step T n (ok_law_order T n)
end
end Hm

set_option Elab.async false
set_option linter.all false
set_option maxRecDepth 100000
set_option maxHeartbeats 1000000
namespace Hm
open PySem PySem.Spec PyProof.Rows L2 HT
open Evl (Ex)
theorem cut_to (xs : List V) (k : Nat) : cutV xs none (some (k : Int)) = xs.take k := by
  unfold cutV
  rw [sIx_none, sIx_nat, List.drop_zero, Nat.sub_zero]
  by_cases h : k ≤ xs.length
  · rw [Nat.min_eq_left h]
  · rw [Nat.min_eq_right (by omega), List.take_of_length_le (Nat.le_refl _), List.take_of_length_le (by omega)]
theorem cut_from (xs : List V) (k : Nat) : cutV xs (some (k : Int)) none = xs.drop k := by
  unfold cutV
  rw [sIx_none, sIx_nat]
  by_cases h : k ≤ xs.length
  · rw [Nat.min_eq_left h, List.take_of_length_le (by rw [List.length_drop]; exact Nat.le_refl _)]
  · rw [Nat.min_eq_right (by omega), List.drop_eq_nil_of_le (Nat.le_refl _), List.drop_eq_nil_of_le (by omega)]
    simp
theorem Reps.cut {K : PySem.W.Frag} {H : Hp} : ∀ {ts : List Tm} {vs : List V} (k : Nat), Reps K H ts vs → Reps K H (ts.take k) (vs.take k) ∧ Reps K H (ts.drop k) (vs.drop k)
  | ts, vs, 0, h => ⟨Reps.nil, h⟩
  | [], vs, k + 1, h => by
    rw [h.nil_inv]
    exact ⟨Reps.nil, Reps.nil⟩
  | t :: ts, vs, k + 1, h => by
    obtain ⟨v, ws, rfl, h1, h2⟩ := h.cons_inv
    obtain ⟨a, b⟩ := Reps.cut k h2
    exact ⟨Reps.cons h1 a, b⟩
theorem split_at {α : Type} {l : List α} {k : Nat} {x : α} (h : l[k]? = some x) : l = l.take k ++ (x :: l.drop (k + 1)) := by
  obtain ⟨hk, e⟩ := List.getElem?_eq_some_iff.mp h
  rw [← e, ← List.drop_eq_getElem_cons hk, List.take_append_drop]
section
variable {P : Program} {w : World} {K : PySem.W.Frag} {mg : Str → Option Value} {base : Heap}
def spNear (K : PySem.W.Frag) (n : Nat) : Sp := fun vs H Q _ => ∃ a v t, vs = [.ref a, v] ∧ Well H a ∧ Rep K H t v ∧ Ok t ∧ depth t ≤ n ∧ ∀ u t' H', Dr a H H' → Rep K H' t' u → Ok t' → size t' ≤ size t + 9 → depth t' ≤ depth t + 1 → Q u H'
theorem near_step (T : Tx K mg) (n : Nat) (ih : FnOk P w K mg base CX0 (n + 6) T.f_law_near T.d_law_near ["_law_well_here", "_law_term_here"] (spNear K n)) :
    FnOk P w K mg base CX0 (n + 6 + 1) T.f_law_near T.d_law_near ["_law_well_here", "_law_term_here"] (spNear K (n + 1)) := by
  refine T.h_law_near.F.ok sc_law_near (fun vs H Q E h => ?_) (fun cdv A outer s H vs Q E hr h => ?_)
  · obtain ⟨a, v, _, rfl, _⟩ := h
    rfl
  obtain ⟨a, v, t, rfl, hW, hR, hO, hd, q⟩ := h
  refine ⟨_, (pss_cons (ps_if (PW.pt (pw_or (pt_not (pt_val (cl (ok_law_is_compound T) T.h_law_is_compound hr (pa_cons (pv 1) pa_nil)))) (pw_or1 (pt_cmpR op_eq (cl (ok_law_draw T) T.h_law_draw hr (pa_cons (pv 0) (pa_cons pe_int pa_nil))) pe_int (nomark _)))))
      (pss_one (ps_ret (cl (ok_law_term T 2) T.h_law_term hr (pa_cons (pv 0) (pa_cons pe_int (pa_cons pe_int pa_nil))))))
      pss_nil)
    (pss_cons (ps_set (i := 2) sc_law_near.nd rfl (Or.inl rfl) (cl (ok_law_draw T) T.h_law_draw hr (pa_cons (pv 0) (pa_cons (pe_callB call_len_seq rfl T.b_len (by decide +kernel) (pa_cons (pv 1) pa_nil)) pa_nil))))
    (pss_cons (ps_if (pt_cmpR op_eq (pv 2) pe_int (nomark _))
      (pss_one (ps_ret (pe_op op_catT (pe_tup (pa_cons (cl (ok_law_one T) T.h_law_one hr (pa_cons (pv 0) (pa_cons (pe_lst (pa_cons pe_str (pa_cons pe_str (pa_cons pe_str (pa_cons pe_str pa_nil))))) pa_nil))) pa_nil)) (pe_slice sl_tup (pv 1) (po_some pe_int) po_none))))
      pss_nil)
    (pss_one (ps_ret (pe_op op_catT (pe_op op_catT (pe_slice sl_tup (pv 1) po_none (po_some (pv 2))) (pe_tup (pa_cons (cl ih T.h_law_near hr (pa_cons (pv 0) (pa_cons (pe_ix ix_tup (pv 1) (pv 2) (fun _ _ => rfl)) pa_nil))) pa_nil))) (pe_slice sl_tup (pv 1) (po_some (pe_op op_add (pv 2) pe_int)) po_none))))))), ?_⟩
  have fresh : ∀ H', Dr a H H' → (tCall (spTermD K 2) [] E0 (tCons (tVar 0) (tCons (tC (.int 2)) (tCons (tC (.int 4)) tNil)))) [some (.ref a), some v, none] H' Q := fun H' dr =>
    ⟨_, rfl, a, 4, rfl, dr.well, by decide, by decide, fun u t' H2 d2 hR2 hD => q u t' H2 (dr.trans d2) hR2 hD.ok (by have h9 : size t' ≤ 9 := hD.siz; omega) (by have h2 : depth t' ≤ 2 := hD.dep; have := depth_pos t; omega)⟩
  refine ⟨_, rfl, v, t, rfl, hR, hO, _, rfl, ?_⟩
  cases t with
  | var k => exact iteT (fresh H (Dr.ex hW (Ex.refl _)))
  | int k => exact iteT (fresh H (Dr.ex hW (Ex.refl _)))
  | atom k => exact iteT (fresh H (Dr.ex hW (Ex.refl _)))
  | comp f as =>
    refine iteF ⟨_, rfl, a, _, rfl, hW, by decide, by decide, fun d H1 d0 d4 dr1 => ⟨rfl, _, rfl, ite2 (fun _ => fresh H1 dr1) fun _ => ?_⟩⟩
    obtain ⟨b, ws, rfl, hT0, hA0⟩ := (show ∃ b ws, v = .ref b ∧ SqT K H b (.str f :: ws) ∧ Reps K H as ws by unfold Rep at hR; exact hR)
    have tu1 := Dr.tups (K := K) hW dr1
    have hln := hA0.len
    have hOc := hO
    unfold Ok at hOc
    have hT1 := tu1 _ _ hT0
    refine ⟨_, rfl, _, rfl, b, _, rfl, .inr hT1, a, _, rfl, dr1.well, by rw [List.length_cons]; omega, by rw [List.length_cons]; omega, fun at_ H2 a0 a1 dr2 => ?_⟩
    have tu2 := Dr.tups (K := K) dr1.well dr2
    have hT2 := tu2 _ _ hT1
    have hA2 := (hA0.mono tu1).mono tu2
    have drr := dr1.trans dr2
    rw [List.length_cons] at a1
    refine ⟨_, rfl, rfl, _, rfl, ite2 (fun _ => ?_) (fun c0 => ?_)⟩
    · refine ⟨_, rfl, (by show 4 ≤ sizeLine; decide), fun l hl => ?_⟩
      have e3 := Ex.new (o := HO.lst [V.str "f", V.str "g", V.str "", V.str "~"]) hl
      have dr3 := Dr.ex dr2.well e3
      refine ⟨a, l, _, rfl, dr3.well, dr2.well.ne hl, SqL.of upd_same, by simp, (by show 4 ≤ 1000; decide), fun x H4 hx dr4 => ⟨(by show 1 ≤ sizeLine; decide), fun tp htp => ?_⟩⟩
      obtain ⟨g, rfl, hg⟩ : ∃ g, x = .str g ∧ AtomOk g := by
        simp only [List.mem_cons, List.not_mem_nil, or_false] at hx
        rcases hx with rfl | rfl | rfl | rfl <;> exact ⟨_, rfl, atomB_ok (by decide +kernel)⟩
      have tu4 := Dr.tups (K := K) dr3.well dr4
      have e5 := Ex.new (o := HO.tup [V.str g]) htp
      have hT5 := Evl.ex_t e5 (tu4 _ _ (Evl.ex_t e3 hT2))
      have hA5 := ((hA2.mono (Tups.of e3)).mono tu4).mono (Tups.of e5)
      have hG : SqT K (upd H4 tp (.tup [V.str g])) tp [V.str g] := SqT.of upd_same
      have dr5 := ((drr.trans dr3).trans dr4).trans (Dr.ex dr4.well e5)
      generalize upd H4 tp (.tup [V.str g]) = H5 at *
      refine ⟨_, rfl, _, rfl, b, _, rfl, hT5, cut1_ne _ _, fun q1 hq1 => ?_⟩
      rw [cut1]
      have e6 := Ex.new (o := HO.tup ws) hq1
      refine ⟨tp, q1, [V.str g], ws, rfl, rfl, Evl.ex_t e6 hG, SqT.of upd_same, by simp, small5 (by simp; omega), fun z => ?_, fun _ p3 hp3 => ?_⟩
      · rw [z, List.length_nil] at hln
        omega
      · have e7 := Ex.new (o := HO.tup ([V.str g] ++ ws)) hp3
        refine q (.ref p3) (.comp g as) _ (dr5.trans (Dr.ex dr5.well (e6.trans e7))) ?_ ?_ ?_ ?_
        · unfold Rep
          exact ⟨p3, ws, rfl, SqT.of upd_same, (hA5.mono (Tups.of e6)).mono (Tups.of e7)⟩
        · unfold Ok
          exact ⟨hg, hOc.2⟩
        · rw [size_eq, size_eq (.comp f as)]
          show 1 + sizes as ≤ 1 + sizes as + 9
          omega
        · rw [depth_eq, depth_eq (.comp f as)]
          show 1 + depths as ≤ 1 + depths as + 1
          omega
    · have c1 : at_ ≠ 0 := fun z => c0 (decide_eq_true (by rw [z]))
      obtain ⟨k, rfl⟩ : ∃ k : Nat, at_ = ((k + 1 : Nat) : Int) := ⟨(at_ - 1).toNat, by omega⟩
      have hk : k < ws.length := by omega
      have hne : ¬ (sIx (V.str f :: ws).length 0 none = 0 ∧ sIx (V.str f :: ws).length (V.str f :: ws).length (some ((k + 1 : Nat) : Int)) = (V.str f :: ws).length) := by
        rw [sIx_nat, List.length_cons]
        omega
      refine ⟨_, rfl, _, rfl, _, rfl, b, _, rfl, hT2, hne, fun p1 hp1 => ?_⟩
      rw [cut_to]
      have e3 := Ex.new (o := HO.tup ((V.str f :: ws).take (k + 1))) hp1
      have hP1 : SqT K (upd H2 p1 (.tup ((V.str f :: ws).take (k + 1)))) p1 _ := SqT.of upd_same
      have hT3 := Evl.ex_t e3 hT2
      have hA3 := hA2.mono (Tups.of e3)
      have dr3 := drr.trans (Dr.ex dr2.well e3)
      generalize upd H2 p1 (.tup ((V.str f :: ws).take (k + 1))) = H3 at *
      have hx1 : (V.str f :: ws)[k + 1]? = some ws[k] := by rw [List.getElem?_cons_succ, List.getElem?_eq_getElem hk]
      obtain ⟨ti, hti, hri⟩ := hA3.get (List.getElem?_eq_getElem hk)
      have hdi := depths_get hti
      have hde : depth (.comp f as) = 1 + depths as := by unfold depth; rfl
      refine ⟨_, rfl, _, rfl, _, rfl, b, _, _, _, rfl, rfl, hT3, atI_nat hx1, a, _, ti, rfl, dr3.well, hri, oks_get hOc.2.2.2 hti, by omega, fun u t' H4 dr4 hR4 hO4 hs4 hd4 => ⟨(by show 1 ≤ sizeLine; decide), fun p2 hp2 => ?_⟩⟩
      have tu4 := Dr.tups (K := K) dr3.well dr4
      have e5 := Ex.new (o := HO.tup [u]) hp2
      have hP1' := Evl.ex_t e5 (tu4 _ _ hP1)
      have hT5 := Evl.ex_t e5 (tu4 _ _ hT3)
      have hA5 := (hA3.mono tu4).mono (Tups.of e5)
      have hR5 := hR4.mono (Tups.of e5)
      have hP2 : SqT K (upd H4 p2 (.tup [u])) p2 [u] := SqT.of upd_same
      have dr5 := (dr3.trans dr4).trans (Dr.ex dr4.well e5)
      generalize upd H4 p2 (.tup [u]) = H5 at *
      refine ⟨p1, p2, _, _, rfl, rfl, hP1', hP2, by simp, small5 (by rw [List.length_take, List.length_cons, List.length_singleton]; omega), (fun z => absurd z (by simp)), fun _ p3 hp3 => ?_⟩
      have e6 := Ex.new (o := HO.tup ((V.str f :: ws).take (k + 1) ++ [u])) hp3
      have hP3 : SqT K (upd H5 p3 (.tup ((V.str f :: ws).take (k + 1) ++ [u]))) p3 _ := SqT.of upd_same
      have hT6 := Evl.ex_t e6 hT5
      have hA6 := hA5.mono (Tups.of e6)
      have hR6 := hR5.mono (Tups.of e6)
      have dr6 := dr5.trans (Dr.ex dr5.well e6)
      generalize upd H5 p3 (.tup ((V.str f :: ws).take (k + 1) ++ [u])) = H6 at *
      have ek : (((k + 1 : Nat) : Int) + 1) = ((k + 2 : Nat) : Int) := by omega
      have hne2 : ¬ (sIx (V.str f :: ws).length 0 (some (((k + 1 : Nat) : Int) + 1)) = 0 ∧ sIx (V.str f :: ws).length (V.str f :: ws).length none = (V.str f :: ws).length) := by
        rw [ek, sIx_nat, List.length_cons]
        omega
      have hnew : Ok (.comp f (as.take k ++ (t' :: as.drop (k + 1)))) ∧ size (.comp f (as.take k ++ (t' :: as.drop (k + 1)))) ≤ size (.comp f as) + 9 ∧ depth (.comp f (as.take k ++ (t' :: as.drop (k + 1)))) ≤ depth (.comp f as) + 1 := by
        have hsp := split_at hti
        have o1 := hOc.2.2.2
        have sz : sizes as = sizes (as.take k) + (size ti + sizes (as.drop (k + 1))) := by
          conv => lhs; rw [hsp]
          rw [sizes_app, sizes_cons]
        have dz : depths as = max (depths (as.take k)) (max (depth ti) (depths (as.drop (k + 1)))) := by
          conv => lhs; rw [hsp]
          rw [depths_app, depths_cons]
        have hki : k < as.length := by omega
        refine ⟨?_, ?_, ?_⟩
        · rw [hsp] at o1
          have o2 := oks_app.mp o1
          rw [oks_cons] at o2
          unfold Ok
          refine ⟨hOc.1, by rw [List.length_append, List.length_cons]; omega, by rw [List.length_append, List.length_cons, List.length_take, List.length_drop]; omega, oks_app.mpr ⟨o2.1, by rw [oks_cons]; exact ⟨hO4, o2.2.2⟩⟩⟩
        · rw [size_eq, size_eq (.comp f as)]
          show 1 + sizes (as.take k ++ (t' :: as.drop (k + 1))) ≤ 1 + sizes as + 9
          rw [sizes_app, sizes_cons, sz]
          omega
        · rw [depth_eq, depth_eq (.comp f as)]
          show 1 + depths (as.take k ++ (t' :: as.drop (k + 1))) ≤ 1 + depths as + 1
          rw [depths_app, depths_cons, dz]
          omega
      have hrow : (V.str f :: ws).take (k + 1) ++ [u] ++ (V.str f :: ws).drop (k + 2) = V.str f :: (ws.take k ++ (u :: ws.drop (k + 1))) := by simp
      refine ⟨_, rfl, _, rfl, _, _, rfl, rfl, _, rfl, b, _, rfl, hT6, hne2, fun p4 hp4 => ?_⟩
      rw [ek, cut_from]
      have e7 := Ex.new (o := HO.tup ((V.str f :: ws).drop (k + 2))) hp4
      have hP4 : SqT K (upd H6 p4 (.tup ((V.str f :: ws).drop (k + 2)))) p4 _ := SqT.of upd_same
      have hP3' := Evl.ex_t e7 hP3
      have hA7 := hA6.mono (Tups.of e7)
      have hR7 := hR6.mono (Tups.of e7)
      have dr7 := dr6.trans (Dr.ex dr6.well e7)
      generalize upd H6 p4 (.tup ((V.str f :: ws).drop (k + 2))) = H7 at *
      have repn : ∀ H' p, Tups K H7 H' → SqT K H' p ((V.str f :: ws).take (k + 1) ++ [u] ++ (V.str f :: ws).drop (k + 2)) → Rep K H' (.comp f (as.take k ++ (t' :: as.drop (k + 1)))) (.ref p) := fun H' p tt hs => by
        rw [hrow] at hs
        unfold Rep
        have hc1 := (Reps.cut k (hA7.mono tt)).1
        have hc2 := (Reps.cut (k + 1) (hA7.mono tt)).2
        exact ⟨p, _, rfl, hs, Reps.app hc1 (Reps.cons (hR7.mono tt) hc2)⟩
      refine ⟨p3, p4, _, _, rfl, rfl, hP3', hP4, by simp, small5 (by simp; omega), fun z => ?_, fun _ p5 hp5 => ?_⟩
      · refine q (.ref p3) _ H7 dr7 (repn H7 p3 (Tups.refl _) ?_) hnew.1 hnew.2.1 hnew.2.2
        rw [z, List.append_nil]
        exact hP3'
      · have e8 := Ex.new (o := HO.tup ((V.str f :: ws).take (k + 1) ++ [u] ++ (V.str f :: ws).drop (k + 2))) hp5
        exact q (.ref p5) _ _ (dr7.trans (Dr.ex dr7.well e8)) (repn _ p5 (Tups.of e8) (SqT.of upd_same)) hnew.1 hnew.2.1 hnew.2.2
theorem ok_law_near (T : Tx K mg) : ∀ n : Nat, FnOk P w K mg base CX0 (n + 6) T.f_law_near T.d_law_near ["_law_well_here", "_law_term_here"] (spNear K n)
  | 0 => by
    have no : ∀ vs H Q E, ¬ spNear K 0 vs H Q E := fun vs H Q E ⟨_, _, t, _, _, _, _, h, _⟩ => by
      have := depth_pos t
      omega
    exact ⟨fun vs H Q E h => absurd h (no vs H Q E), fun A outer s H args us vs Q E _ _ _ _ h => absurd h (no vs H Q E)⟩
  | n + 1 => near_step T n (ok_law_near T n)
end
end Hm

set_option Elab.async false
set_option linter.all false
set_option maxRecDepth 100000
set_option maxHeartbeats 1000000
namespace Hm
open PySem PySem.Spec PyProof.Rows L2 HT
open Evl (Ex)
open RZ
theorem r65 {k : Nat} {A : Around} (r : Room k A) : A.units + 65 < cLine := by
  have := r.un
  omega
theorem dr_mut {a S : Addr} {H H' : Hp} {o : HO} (d : Dr a H H') (n : S ≠ a) (h : H S = none) : Dr a H (upd H' S o) := by
  obtain ⟨x, y, z, w⟩ := d.well
  exact ⟨⟨x, y, z, by rw [upd_ne n.symm]; exact w⟩, fun b u hb e => by rw [upd_ne (ne_of_none e h)]; exact d.keep b u hb e⟩
theorem cut_tail (ys : List V) (h : 1 ≤ ys.length) : cutV ys (some (-1)) none = ys.drop (ys.length - 1) := by
  have e : sIx ys.length 0 (some (-1)) = ys.length - 1 := by
    show (if (-1 : Int) < 0 then ((-1 : Int) + (ys.length : Int)).toNat else min (-1 : Int).toNat ys.length) = _
    rw [if_pos (by decide)]
    omega
  unfold cutV
  rw [e, sIx_none, List.take_of_length_le (by rw [List.length_drop]; exact Nat.le_refl _)]
theorem cut_front (ys : List V) (v : V) : cutV (ys ++ [v]) none (some (-1)) = ys := by
  have e : sIx (ys ++ [v]).length (ys ++ [v]).length (some (-1)) = ys.length := by
    show (if (-1 : Int) < 0 then ((-1 : Int) + ((ys ++ [v]).length : Int)).toNat else min (-1 : Int).toNat (ys ++ [v]).length) = _
    rw [if_pos (by decide), List.length_append, List.length_singleton]
    omega
  unfold cutV
  rw [e, sIx_none, List.drop_zero, Nat.sub_zero, List.take_left' rfl]
theorem oks_of : ∀ {ts : List Tm}, (∀ t ∈ ts, Ok t) → Oks ts
  | [], _ => trivial
  | t :: ts, h => by
    rw [oks_cons]
    exact ⟨h t List.mem_cons_self, oks_of fun u hu => h u (List.mem_cons_of_mem _ hu)⟩
theorem Reps.erase {K : PySem.W.Frag} {H : Hp} : ∀ {ts : List Tm} {vs : List V} (j : Nat), Reps K H ts vs → Reps K H (ts.eraseIdx j) (vs.eraseIdx j)
  | [], vs, j, h => by
    rw [h.nil_inv]
    exact Reps.nil
  | t :: ts, vs, 0, h => by
    obtain ⟨v, ws, rfl, h1, h2⟩ := h.cons_inv
    exact h2
  | t :: ts, vs, j + 1, h => by
    obtain ⟨v, ws, rfl, h1, h2⟩ := h.cons_inv
    exact Reps.cons h1 (Reps.erase j h2)
theorem perm_erase : ∀ {ts : List Tm} {j : Nat} {t : Tm}, ts[j]? = some t → (t :: ts.eraseIdx j).Perm ts
  | [], _, _, h => by simp at h
  | u :: us, 0, t, h => by
    have : u = t := by simpa using h
    subst this
    exact .refl _
  | u :: us, j + 1, t, h => (List.Perm.swap u t _).trans ((perm_erase (ts := us) (by simpa using h)).cons u)
/-- a list of terms of some size -/
structure Some (K : PySem.W.Frag) (H : Hp) (l : Addr) (ts : List Tm) (vs : List V) (n : Nat) : Prop where
  at_ : H l = some (.lst vs)
  rep : Reps K H ts vs
  ok : Oks ts
  siz : ∀ t ∈ ts, size t ≤ 39 + 9 * n
  dep : ∀ t ∈ ts, depth t ≤ 4 + n
section
variable {P : Program} {w : World} {K : PySem.W.Frag} {mg : Str → Option Value} {base : Heap}
def spLR : Sp := fun vs H Q _ => ∃ a, vs = [.ref a] ∧ Well H a ∧ ∀ H', Dr a H H' → Q (.bl true) H'
theorem ok_law_right (T : Tx K mg) : FnOk P w K mg base CX0 25 T.f_law_right T.d_law_right ["_law_well_here"] spLR := by
  refine T.h_law_right.F.ok sc_law_right (fun vs H Q E h => ?_) (fun cdv A outer s H vs Q E hr h => ?_)
  · obtain ⟨v, rfl, _⟩ := h
    rfl
  obtain ⟨a, rfl, hW, q⟩ := h
  refine ⟨_, (pss_cons (ps_set (i := 1) sc_law_right.nd rfl (Or.inl rfl) (pe_lst (pa_cons (cl (ok_law_term T 4) T.h_law_term hr (pa_cons (pv 0) (pa_cons pe_int (pa_cons pe_int pa_nil)))) pa_nil)))
    (pss_cons (ps_for PassesOwn.never rfl (pi_range1 rfl T.b_range (pa_cons (cl (ok_law_draw T) T.h_law_draw hr (pa_cons (pv 0) (pa_cons pe_int pa_nil))) pa_nil)) (pg_name (i := 2) sc_law_right.nd rfl (Or.inl rfl))
      (pss_one (ps_expr (pe_bm PySem.F.plainAttrs_list PySem.F.slot_list_append PySem.F.type_list_append mt_append (pv 1) (pa_cons (pe_ifExp (pt_cmpR op_gt (cl (ok_law_draw T) T.h_law_draw hr (pa_cons (pv 0) (pa_cons pe_int pa_nil))) pe_int (nomark _)) (cl (ok_law_near T 12) T.h_law_near hr (pa_cons (pv 0) (pa_cons (cl (ok_law_one T) T.h_law_one hr (pa_cons (pv 0) (pa_cons (pv 1) pa_nil))) pa_nil))) (cl (ok_law_term T 4) T.h_law_term hr (pa_cons (pv 0) (pa_cons pe_int (pa_cons pe_int pa_nil))))) pa_nil)))))
    (pss_cons (ps_for PassesOwn.never rfl (pi_list (pv 1)) (pg_name (i := 3) sc_law_right.nd rfl (Or.inl rfl))
      (pss_one (ps_for PassesOwn.never rfl (pi_list (pv 1)) (pg_name (i := 4) sc_law_right.nd rfl (Or.inl rfl))
      (pss_one (ps_if (PW.pt (pw_or (pt_cmpR op_ne (cl (ok_compare_terms T) T.h_compare_terms hr (pa_cons (pv 3) (pa_cons (pv 4) pa_nil))) (cl (ok_law_order T 13) T.h_law_order hr (pa_cons (pv 3) (pa_cons (pv 4) pa_nil))) (nomark _)) (pw_or1 (pt_cmpR op_ne (pe_cmpR op_eq (cl (ok_law_order T 13) T.h_law_order hr (pa_cons (pv 3) (pa_cons (pv 4) pa_nil))) pe_int (nomark _)) (pe_cmpR (op_eqD hr.units) (pv 3) (pv 4) (nomark _)) (nomark _)))))
      (pss_one (ps_ret pe_bl))
      pss_nil)))))
    (pss_cons (ps_set (i := 5) sc_law_right.nd rfl (Or.inl rfl) (cl (ok_sort_terms T) T.h_sort_terms hr (pa_cons (pv 1) pa_nil)))
    (pss_cons (ps_set (i := 6) sc_law_right.nd rfl (Or.inl rfl) (pe_callTy call_list_of rfl T.b_list (by decide +kernel) (pa_cons (pv 1) pa_nil)))
    (pss_cons (ps_for PassesOwn.never rfl (pi_zipA rfl T.b_zip (pa_cons (pv 5) (pa_cons (pe_op op_cat (pe_slice sl_list (pv 5) (po_some pe_int) po_none) (pe_slice sl_list (pv 5) (po_some (pe_un un_neg pe_int)) po_none)) pa_nil))) (pg_tup rfl (pgs_cons (pg_name (i := 3) sc_law_right.nd rfl (Or.inl rfl)) (pgs_cons (pg_name (i := 4) sc_law_right.nd rfl (Or.inl rfl)) pgs_nil)))
      (pss_cons (ps_if (PW.pt (pw_or (pt_cmpR (op_notInD (r65 hr)) (pv 3) (pv 6) (by rfl)) (pw_or1 (pt_cmpR op_gt (cl (ok_law_order T 13) T.h_law_order hr (pa_cons (pv 3) (pa_cons (pv 4) pa_nil))) pe_int (nomark _)))))
      (pss_one (ps_ret pe_bl))
      pss_nil)
    (pss_one (ps_expr (pe_bm PySem.F.plainAttrs_list PySem.F.slot_list_remove PySem.F.type_list_remove (mt_remT hr.units) (pv 6) (pa_cons (pv 3) pa_nil))))))
    (pss_cons (ps_set (i := 7) sc_law_right.nd rfl (Or.inl rfl) (cl (ok_sort_terms T) T.h_sort_terms hr (pa_cons (pe_callTy call_tuple_of rfl T.b_tuple (by decide +kernel) (pa_cons (pe_revL (pv 1)) pa_nil)) pa_nil)))
    (pss_cons (ps_expr (pe_bm PySem.F.plainAttrs_list PySem.F.slot_list_append PySem.F.type_list_append mt_append (pv 5) (pa_cons pe_non pa_nil)))
    (pss_one (ps_ret (pe_and (pe_cmpR (op_eqD hr.units) (pv 6) (pe_lst pa_nil) (nomark _)) (pe_and (pe_cmpR (op_eqD hr.units) (pv 7) (pe_slice sl_list (pv 5) po_none (po_some (pe_un un_neg pe_int))) (nomark _)) (pe_one (pe_cmpR (op_eqD hr.units) (pv 7) (cl (ok_sort_terms T) T.h_sort_terms hr (pa_cons (pe_slice sl_list (pv 5) po_none (po_some (pe_un un_neg pe_int))) pa_nil)) (nomark _))))))))))))))), ?_⟩
  refine ⟨_, rfl, a, 4, rfl, hW, by decide, by decide, fun v t H1 d1 hR hD => ⟨(by show 1 ≤ sizeLine; decide), fun S hS => ?_⟩⟩
  have e2 := Ex.new (o := HO.lst [v]) hS
  have hSa : S ≠ a := d1.well.ne hS
  have d2 := d1.trans (Dr.ex d1.well e2)
  have hS0 : H S = none := Dr.free hW d1 hS
  have s0 : Some K (upd H1 S (.lst [v])) S [t] [v] 0 := ⟨upd_same, Reps.one (hR.mono (Tups.of e2)), by rw [oks_cons]; exact ⟨hD.ok, trivial⟩, fun u hu => by
    have := List.mem_singleton.mp hu
    subst this
    exact hD.siz, fun u hu => by
    have := List.mem_singleton.mp hu
    subst this
    exact hD.dep⟩
  generalize upd H1 S (.lst [v]) = H2 at *
  refine ⟨_, rfl, a, _, rfl, d2.well, by decide, by decide, fun m H3 m0 m1 d3 => ?_⟩
  obtain ⟨m, rfl⟩ := Int.eq_ofNat_of_zero_le m0
  have keepS : ∀ {H H' ts vs n}, Dr a H H' → Well H a → Some K H S ts vs n → Some K H' S ts vs n := fun d hw q => ⟨d.keep _ _ hSa q.at_, q.rep.mono (Dr.tups hw d), q.ok, q.siz, q.dep⟩
  have s3 := keepS d3 d2.well s0
  have dd := d2.trans d3
  refine ⟨(m : Int), rfl, by omega, by omega, for_range (lo := 0) (n := m) (fun i σ' H' => ∃ ts vs x, σ' = [some (.ref a), some (.ref S), x, none, none, none, none, none] ∧ Dr a H H' ∧ Some K H' S ts vs i ∧ ts.length = i + 1) ⟨[t], [v], none, rfl, dd, s3, rfl⟩ ?_ ?_⟩
  · rintro i σ' H4 hi ⟨ts, vs, x, rfl, d4, s4, hl4⟩
    have hlv := s4.rep.len
    have more : ∀ H6 u t', Dr a H H6 → Some K H6 S ts vs i → Rep K H6 t' u → Ok t' → size t' ≤ 39 + 9 * (i + 1) → depth t' ≤ 4 + (i + 1) → Dr a H (upd H6 S (.lst (vs ++ [u]))) ∧ Some K (upd H6 S (.lst (vs ++ [u]))) S (ts ++ [t']) (vs ++ [u]) (i + 1) := fun H6 u t' d6 s6 r6 o6 z6 p6 => by
      have tl : Tups K H6 (upd H6 S (.lst (vs ++ [u]))) := Tups.lst s6.at_
      refine ⟨dr_mut d6 hSa hS0, upd_same, Reps.app (s6.rep.mono tl) (Reps.one (r6.mono tl)), oks_app.mpr ⟨s6.ok, by rw [oks_cons]; exact ⟨o6, trivial⟩⟩, fun y hy => ?_, fun y hy => ?_⟩
      · rcases List.mem_append.mp hy with hy | hy
        · have := s6.siz y hy
          omega
        · have := List.mem_singleton.mp hy
          subst this
          exact z6
      · rcases List.mem_append.mp hy with hy | hy
        · have := s6.dep y hy
          omega
        · have := List.mem_singleton.mp hy
          subst this
          exact p6
    refine ⟨_, rfl, .inl ⟨rfl, _, SqL.of s4.at_⟩, _, rfl, a, _, rfl, d4.well, by decide, by decide, fun d H5 d0 dm d5 => ⟨_, _, rfl, rfl, _, rfl, ite2 (fun _ => ?_) (fun _ => ?_)⟩⟩
    · have s5 := keepS d5 d4.well s4
      refine ⟨_, rfl, _, rfl, _, rfl, a, S, vs, rfl, d5.well, hSa, SqL.of s5.at_, fun z => ?_, by omega, fun x2 H6 hx2 d6 => ?_⟩
      · rw [z, List.length_nil] at hlv
        omega
      · have s6 := keepS d6 d5.well s5
        obtain ⟨j, hj, ej⟩ := List.getElem_of_mem hx2
        obtain ⟨tj, htj, hrj⟩ := s6.rep.get (List.getElem?_eq_getElem hj)
        rw [ej] at hrj
        have hm := List.mem_of_getElem? htj
        have z1 := s6.siz tj hm
        have z2 := s6.dep tj hm
        refine ⟨a, x2, tj, rfl, d6.well, hrj, oks_get s6.ok htj, by omega, fun u t' H7 d7 hR7 hO7 hs7 hd7 => ?_⟩
        have s7 := keepS d7 d6.well s6
        obtain ⟨m1', m2'⟩ := more H7 u t' (((d4.trans d5).trans d6).trans d7) s7 hR7 hO7 (by omega) (by omega)
        exact ⟨S, vs, u, rfl, rfl, s7.at_, small5' (by omega), ts ++ [t'], vs ++ [u], _, rfl, m1', m2', by rw [List.length_append, hl4]; rfl⟩
    · have s5 := keepS d5 d4.well s4
      refine ⟨_, rfl, a, 4, rfl, d5.well, by decide, by decide, fun u t' H6 d6 hR6 hD6 => ?_⟩
      have s6 := keepS d6 d5.well s5
      have z1 : size t' ≤ 39 := hD6.siz
      have z2 : depth t' ≤ 4 := hD6.dep
      obtain ⟨m1', m2'⟩ := more H6 u t' ((d4.trans d5).trans d6) s6 hR6 hD6.ok (by omega) (by omega)
      exact ⟨S, vs, u, rfl, rfl, s6.at_, small5' (by omega), ts ++ [t'], vs ++ [u], _, rfl, m1', m2', by rw [List.length_append, hl4]; rfl⟩
  · rintro σ' H4 ⟨ts, vs, x, rfl, d4, s4, hl4⟩
    have hlv := s4.rep.len
    have okS := fun i t (h : ts[i]? = some t) => oks_get s4.ok h
    have szS : ∀ t ∈ ts, size t ≤ 50000 := fun t h => by
      have := s4.siz t h
      omega
    have dpS : ∀ t ∈ ts, depth t ≤ 13 := fun t h => by
      have := s4.dep t h
      omega
    have rep4 := s4.rep
    have ok4 := s4.ok
    have at4 := s4.at_
    refine ⟨_, rfl, S, rfl, ⟨vs, SqL.of at4⟩, for_list (fun i σ' H' => ∃ y z, σ' = [some (.ref a), some (.ref S), x, y, z, none, none, none] ∧ Ex H4 H') ⟨none, none, rfl, Ex.refl _⟩ (fun i σ' H' _ ⟨_, _, _, h⟩ => SqL.of (h _ _ at4)) ?_ ?_⟩
    · rintro i v1 σ' H5 hv1 ⟨y, z, rfl, e5⟩
      refine ⟨_, rfl, S, rfl, ⟨vs, SqL.of (e5 _ _ at4)⟩, for_list (fun j σ' H' => ∃ z, σ' = [some (.ref a), some (.ref S), x, some v1, z, none, none, none] ∧ Ex H4 H') ⟨z, rfl, e5⟩ (fun i σ' H' _ ⟨_, _, h⟩ => SqL.of (h _ _ at4)) ?_ ?_⟩
      · rintro j v2 σ' H6 hv2 ⟨z2, rfl, e6⟩
        obtain ⟨t1, ht1, r1⟩ := (rep4.mono (Tups.of e6)).get hv1
        obtain ⟨t2, ht2, r2⟩ := (rep4.mono (Tups.of e6)).get hv2
        have o1 := okS _ _ ht1
        have o2 := okS _ _ ht2
        have q1 := dpS t1 (List.mem_of_getElem? ht1)
        have q2 := dpS t2 (List.mem_of_getElem? ht2)
        refine ⟨_, rfl, _, rfl, v1, t1, v2, t2, rfl, r1, r2, o1, o2, szS _ (List.mem_of_getElem? ht1), szS _ (List.mem_of_getElem? ht2), fun H7 e7 => ?_⟩
        have r1' := r1.mono (Tups.of e7)
        have r2' := r2.mono (Tups.of e7)
        refine ⟨_, rfl, _, rfl, v1, t1, v2, t2, rfl, r1', r2', o1, o2, q1, fun H8 e8 => ⟨rfl, _, rfl, ?_⟩⟩
        rw [dec_int, beq_self_eq_true]
        refine iteF ?_
        have r1'' := r1'.mono (Tups.of e8)
        have r2'' := r2'.mono (Tups.of e8)
        refine ⟨_, rfl, _, rfl, v1, t1, v2, t2, rfl, r1'', r2'', o1, o2, q1, fun H9 e9 => ⟨rfl, ?_⟩⟩
        have r9 := r1''.mono (Tups.of e9)
        have r9' := r2''.mono (Tups.of e9)
        refine ⟨_, rfl, _, rfl, _, _, dp_rep r9, dp_rep r9', shaped_tm o1 (by omega), shaped_tm o2 (by omega), rfl, _, rfl, ?_⟩
        rw [eqv_toD, dec_int]
        have eb : (tord t1 t2 == 0) = decide (tord t1 t2 = 0) := by
          by_cases z : tord t1 t2 = 0
          · rw [z]
            rfl
          · rw [beq_false_of_ne z, decide_eq_false z]
        rw [eb, decide_eq_true (rfl : V.bl (decide (tord t1 t2 = 0)) = V.bl (decide (tord t1 t2 = 0)))]
        exact iteF ⟨_, rfl, ((((e6.trans e7).trans e8).trans e9))⟩
      · rintro σ' H6 ⟨z2, rfl, e6⟩
        exact ⟨_, _, rfl, e6⟩
    · rintro σ' H5 ⟨y, z, rfl, e5⟩
      have at5 := e5 _ _ at4
      have rep5 := rep4.mono (Tups.of e5)
      have d5 := d4.trans (Dr.ex d4.well e5)
      refine ⟨_, rfl, S, vs, ts, rfl, .inl at5, rep5, ok4, szS, by omega, fun F ys us H6 hF e6 hF6 rF6 pm6 ri6 => ?_⟩
      have at6 := e6 _ _ at5
      refine ⟨_, rfl, S, vs, rfl, .inl (SqL.of at6), fun L hL => ?_⟩
      have e7 := Ex.new (o := HO.lst vs) hL
      have hLl : (upd H6 L (.lst vs)) L = some (.lst vs) := upd_same
      have hFL : F ≠ L := ne_of_none hF6 hL
      have hF7 := e7 _ _ hF6
      have rF7 := rF6.mono (Tups.of e7)
      have rS7 := (rep5.mono (Tups.of e6)).mono (Tups.of e7)
      have at7 := e7 _ _ at6
      have hL5 : H5 L = none := ex_none e6 hL
      have hLa : L ≠ a := (Dr.ex d5.well e6).well.ne hL
      have hLS : L ≠ S := (ne_of_none at6 hL).symm
      have d7 := d5.trans (Dr.ex d5.well (e6.trans e7))
      generalize upd H6 L (.lst vs) = H7 at *
      have lus := pm6.length_eq
      have lys := rF6.len
      have hn1 : 1 ≤ us.length := by omega
      have oku : ∀ t ∈ us, Ok t := fun t h => by
        obtain ⟨i, hi, e⟩ := List.getElem_of_mem (pm6.mem_iff.mp h)
        exact oks_get ok4 (by rw [List.getElem?_eq_getElem hi, e])
      have dpu : ∀ t ∈ us, depth t ≤ 13 := fun t h => dpS t (pm6.mem_iff.mp h)
      -- zip(found, found[1:] + found[-1:])
      refine ⟨_, rfl, _, rfl, _, rfl, F, ys, rfl, SqL.of hF7, fun p1 hp1 => ?_⟩
      have f1 := Ex.new (o := HO.lst (cutV ys (some 1) none)) hp1
      have hp1' : (upd H7 p1 (.lst (cutV ys (some 1) none))) p1 = some (.lst (cutV ys (some 1) none)) := upd_same
      have hF8 := f1 _ _ hF7
      have hL8 := f1 _ _ hLl
      generalize upd H7 p1 (.lst (cutV ys (some 1) none)) = H8 at *
      have hL0 : H L = none := Dr.free hW (d5.trans (Dr.ex d5.well e6)) hL
      refine ⟨_, rfl, _, rfl, _, rfl, F, ys, rfl, SqL.of hF8, fun p2 hp2 => ?_⟩
      have f2 := Ex.new (o := HO.lst (cutV ys (some (-1)) none)) hp2
      have hp2' : (upd H8 p2 (.lst (cutV ys (some (-1)) none))) p2 = some (.lst (cutV ys (some (-1)) none)) := upd_same
      have hp1'' := f2 _ _ hp1'
      have hF9 := f2 _ _ hF8
      have hL9 := f2 _ _ hL8
      generalize upd H8 p2 (.lst (cutV ys (some (-1)) none)) = H9 at *
      have c1 : cutV ys (some 1) none = ys.drop 1 := cut_from ys 1
      have c2 := cut_tail ys (by omega)
      rw [c1] at hp1''
      rw [c2] at hp2'
      refine ⟨p1, p2, _, _, rfl, rfl, hp1'', hp2', small5 (by rw [List.length_drop, List.length_drop]; omega), fun p3 hp3 => ?_⟩
      have f3 := Ex.new (o := HO.lst (ys.drop 1 ++ ys.drop (ys.length - 1))) hp3
      have hp3' : (upd H9 p3 (.lst (ys.drop 1 ++ ys.drop (ys.length - 1)))) p3 = some (.lst (ys.drop 1 ++ ys.drop (ys.length - 1))) := upd_same
      have hFA := f3 _ _ hF9
      have hLA := f3 _ _ hL9
      have hLp3 : L ≠ p3 := ne_of_none hL9 hp3
      generalize upd H9 p3 (.lst (ys.drop 1 ++ ys.drop (ys.length - 1))) = HA at *
      have f13 := (f1.trans f2).trans f3
      have dA := d7.trans (Dr.ex d7.well f13)
      have rFA := rF7.mono (Tups.of f13)
      have rSA := rS7.mono (Tups.of f13)
      have atA := f13 _ _ at7
      have l2 : (ys.drop 1 ++ ys.drop (ys.length - 1)).length = ys.length := by rw [List.length_append, List.length_drop, List.length_drop]; omega
      refine ⟨F, p3, ys, ys.drop 1 ++ ys.drop (ys.length - 1), rfl, .inl ⟨SqL.of hFA, SqL.of hp3', for_it (walk_zip (n := ys.length) (by omega)) (fun i σ' H' => ∃ y z L' lv, σ' = [some (.ref a), some (.ref S), x, y, z, some (.ref F), some (.ref L), none] ∧ Dr a H H' ∧ Tups K HA H' ∧ H' F = some (.lst ys) ∧ H' p3 = some (.lst (ys.drop 1 ++ ys.drop (ys.length - 1))) ∧ H' S = some (.lst vs) ∧ H' L = some (.lst lv) ∧ Reps K H' L' lv ∧ L'.Perm (us.drop i))
        ⟨y, z, ts, vs, rfl, dA, Tups.refl _, hFA, hp3', atA, hLA, rSA, pm6.symm⟩ (fun i σ' H' _ ⟨_, _, _, _, _, _, _, h1, h2, _⟩ => ⟨SqL.of h1, SqL.of h2⟩) ?_ ?_⟩⟩
      · rintro i v σ' HB HBx hi ⟨y, z, L', lv, rfl, dB, tB, hFB, hpB, hSB, hLB, rLB, pmB⟩ ⟨TT, x1, x2, rfl, hTT, rfl, hx1, hx2⟩
        have hx1 : ys[i]? = some x1 := hx1
        have hx2 : (ys.drop 1 ++ ys.drop (ys.length - 1))[i]? = some x2 := hx2
        have e := Ex.new (o := HO.tup [x1, x2]) hTT
        have rF := rFA.mono (tB.trans (Tups.of e))
        obtain ⟨t1, ht1, r1⟩ := rF.get hx1
        obtain ⟨t2, o2, r2, le⟩ : ∃ t2, Ok t2 ∧ Rep K (upd HB TT (.tup [x1, x2])) t2 x2 ∧ tord t1 t2 ≤ 0 := by
          by_cases hl : i + 1 < ys.length
          · rw [List.getElem?_append_left (by rw [List.length_drop]; omega), List.getElem?_drop] at hx2
            obtain ⟨t2, ht2, r2⟩ := rF.get hx2
            refine ⟨t2, oku t2 (List.mem_of_getElem? ht2), r2, ?_⟩
            obtain ⟨b1, c1'⟩ := List.getElem?_eq_some_iff.mp ht1
            obtain ⟨b2, c2'⟩ := List.getElem?_eq_some_iff.mp ht2
            have := List.pairwise_iff_getElem.mp ri6 i (1 + i) b1 b2 (by omega)
            rw [c1', c2'] at this
            exact this
          · have hi' : i = ys.length - 1 := by omega
            rw [List.getElem?_append_right (by rw [List.length_drop]; omega), List.getElem?_drop, List.length_drop] at hx2
            have e0 : ys.length - 1 + (i - (ys.length - 1)) = i := by omega
            rw [e0, hx1] at hx2
            have := Option.some.inj hx2
            subst this
            exact ⟨t1, oku t1 (List.mem_of_getElem? ht1), r1, by rw [tord_ok.refl]; exact Int.le_refl _⟩
        have m1' := List.mem_of_getElem? ht1
        have o1 := oku t1 m1'
        have hdrop : us.drop i = t1 :: us.drop (i + 1) := by
          obtain ⟨b1, c1'⟩ := List.getElem?_eq_some_iff.mp ht1
          rw [List.drop_eq_getElem_cons b1, c1']
        rw [hdrop] at pmB
        have hin : t1 ∈ L' := pmB.mem_iff.mpr List.mem_cons_self
        have hsub : ∀ t ∈ L', t ∈ us := fun t h => by
          rw [← hdrop] at pmB
          exact List.mem_of_mem_drop (pmB.mem_iff.mp h)
        have rL' := rLB.mono (Tups.of e)
        have hLe := e _ _ hLB
        refine ⟨TT, _, rfl, SqT.of upd_same, rfl, _, _, rfl, _, _, rfl, rfl, ?_⟩
        refine ⟨_, rfl, _, rfl, _, _, dp_rep r1, dp_list (SqL.of hLe) rL', shaped_tm o1 (by have := dpu t1 m1'; omega), list_shaped (oks_of fun t h => oku t (hsub t h)) (fun t h => by have := dpu t (hsub t h); omega), _, rfl, ?_⟩
        rw [any_mem hin]
        refine iteF ⟨_, rfl, _, rfl, x1, t1, x2, t2, rfl, r1, r2, o1, o2, dpu t1 m1', fun HC eC => ⟨_, _, rfl, rfl, _, rfl, ?_⟩⟩
        rw [decide_eq_false (show ¬ (0 : Int) < tord t1 t2 by omega)]
        obtain ⟨j, hj1, hj2⟩ := find_mem hin
        have hLC := eC _ _ hLe
        have rLC := rL'.mono (Tups.of eC)
        have tl : Tups K HC (upd HC L (.lst (lv.eraseIdx j))) := Tups.lst hLC
        refine iteF ⟨_, rfl, .inl ⟨rfl, _, SqL.of hLC⟩, _, rfl, L, L', lv, x1, t1, j, rfl, rfl, hLC, rLC, r1.mono (Tups.of eC), by have := dpu t1 m1'; omega, hj1, ?_⟩
        have eBC := e.trans eC
        refine ⟨_, _, L'.eraseIdx j, _, rfl, dr_mut (dB.trans (Dr.ex dB.well eBC)) hLa hL0, (tB.trans (Tups.of eBC)).trans tl, ?_, ?_, ?_, upd_same, (Reps.erase j rLC).mono tl, ?_⟩
        · rw [upd_ne hFL]
          exact eBC _ _ hFB
        · rw [upd_ne hLp3.symm]
          exact eBC _ _ hpB
        · rw [upd_ne hLS.symm]
          exact eBC _ _ hSB
        · exact ((perm_erase hj2).trans pmB).cons_inv
      · rintro σ' HB ⟨y, z, L', lv, rfl, dB, tB, hFB, hpB, hSB, hLB, rLB, pmB⟩
        rw [List.drop_eq_nil_of_le (by omega)] at pmB
        have hL' : L' = [] := pmB.eq_nil
        subst hL'
        have hlv0 := rLB.nil_inv
        subst hlv0
        have repS := rSA.mono tB
        have hgo := hSB
        refine ⟨_, rfl, S, vs, rfl, SqL.of hSB, fun p4 hp4 => ?_⟩
        have g1 := Ex.new (o := HO.lst vs.reverse) hp4
        have hp4' : (upd HB p4 (.lst vs.reverse)) p4 = some (.lst vs.reverse) := upd_same
        refine ⟨p4, vs.reverse, rfl, .inl ⟨SqL.of hp4', fun p5 hp5 => ?_⟩⟩
        have g2 := Ex.new (o := HO.tup vs.reverse) hp5
        have hp5' : SqT K (upd (upd HB p4 (.lst vs.reverse)) p5 (.tup vs.reverse)) p5 vs.reverse := SqT.of upd_same
        have g12 := g1.trans g2
        generalize upd (upd HB p4 (.lst vs.reverse)) p5 (.tup vs.reverse) = HC at *
        have repC := repS.mono (Tups.of g12)
        refine ⟨p5, vs.reverse, ts.reverse, rfl, .inr hp5', Reps.rev repC, oks_of (fun t h => ?_), fun t h => szS t (List.mem_reverse.mp h), by rw [List.length_reverse]; omega, fun B ys2 us2 HD hB eD hBD rBD pm2 ri2 => ?_⟩
        · exact oku t (pm6.mem_iff.mpr (List.mem_reverse.mp h))
        have g3 := g12.trans eD
        have eu : us2 = us := rising_uniq ri2 ri6 ((pm2.trans (List.reverse_perm ts)).trans pm6.symm)
        subst eu
        have hFD := g3 _ _ hFB
        have hLD := g3 _ _ hLB
        have rFD := (rFA.mono tB).mono (Tups.of g3)
        have dD := dB.trans (Dr.ex dB.well g3)
        have hBF : B ≠ F := fun z => by
          rw [z, g12 _ _ hFB] at hB
          cases hB
        have tl : Tups K HD (upd HD F (.lst (ys ++ [.non]))) := Tups.lst hFD
        refine ⟨_, rfl, .inl ⟨rfl, _, SqL.of hFD⟩, F, ys, .non, rfl, rfl, hFD, small5' (by omega), ?_⟩
        have hF0 : H F = none := Dr.free hW d5 hF
        have hFa : F ≠ a := d5.well.ne hF
        have dE := dr_mut (o := .lst (ys ++ [.non])) dD hFa hF0
        have hBE : (upd HD F (.lst (ys ++ [.non]))) B = some (.lst ys2) := by rw [upd_ne hBF]; exact hBD
        have hLE : (upd HD F (.lst (ys ++ [.non]))) L = some (.lst []) := by rw [upd_ne hFL.symm]; exact hLD
        have hFE : (upd HD F (.lst (ys ++ [.non]))) F = some (.lst (ys ++ [.non])) := upd_same
        have rBE := rBD.mono tl
        have rFE := rFD.mono tl
        generalize upd HD F (.lst (ys ++ [.non])) = HE at *
        have oku2 : Oks us2 := oks_of oku
        have sh := list_shaped oku2 (fun t h => by have := dpu t h; omega)
        have eqs : PyData.eqv (.list (toDs us2)) (.list (toDs us2)) = true := SeqAt.eqv_refl _ (SeqAt.canLay_of_shaped sh)
        have eq0 : PyData.eqv (.list []) (.list []) = true := rfl
        refine ⟨_, rfl, Nat.zero_le _, fun p6 hp6 => ?_⟩
        have k1 := Ex.new (o := HO.lst []) hp6
        refine ⟨.list [], .list [], .lst (SqL.of (k1 _ _ hLE)) .nil, .lst (SqL.of upd_same) .nil, rfl, rfl, _, rfl, ?_⟩
        rw [eq0]
        have hBG := k1 _ _ hBE
        have hFG := k1 _ _ hFE
        have rBG := rBE.mono (Tups.of k1)
        have rFG := rFE.mono (Tups.of k1)
        have dG := dE.trans (Dr.ex dE.well k1)
        generalize upd HE p6 (.lst []) = HG at *
        refine iteT ⟨_, rfl, _, rfl, _, rfl, _, rfl, F, _, rfl, SqL.of hFG, fun p7 hp7 => ?_⟩
        rw [cut_front]
        have k2 := Ex.new (o := HO.lst ys) hp7
        refine ⟨_, _, dp_list (SqL.of (k2 _ _ hBG)) (rBG.mono (Tups.of k2)), dp_list (SqL.of upd_same) (rFG.mono (Tups.of k2)), sh, sh, _, rfl, ?_⟩
        rw [eqs]
        have hBI := k2 _ _ hBG
        have hFI := k2 _ _ hFG
        have rBI := rBG.mono (Tups.of k2)
        have rFI := rFG.mono (Tups.of k2)
        have dI := dG.trans (Dr.ex dG.well k2)
        generalize upd HG p7 (.lst ys) = HI at *
        refine iteT ⟨_, rfl, _, rfl, _, rfl, _, rfl, F, _, rfl, SqL.of hFI, fun p8 hp8 => ?_⟩
        rw [cut_front]
        have k3 := Ex.new (o := HO.lst ys) hp8
        refine ⟨p8, ys, us2, rfl, .inl upd_same, rFI.mono (Tups.of k3), oku2, fun t h => szS t (pm6.mem_iff.mp h), by omega, fun B3 ys3 us3 HJ hB3 eJ hBJ rBJ pm3 ri3 => ?_⟩
        have eu3 : us3 = us2 := rising_uniq ri3 ri6 pm3
        subst eu3
        refine ⟨_, _, dp_list (SqL.of (eJ _ _ (k3 _ _ hBI))) ((rBI.mono (Tups.of k3)).mono (Tups.of eJ)), dp_list (SqL.of hBJ) rBJ, sh, sh, ?_⟩
        rw [eqs]
        exact q _ (dI.trans (Dr.ex dI.well (k3.trans eJ)))
end
end Hm

set_option Elab.async false
set_option linter.all false
set_option maxRecDepth 100000
set_option maxHeartbeats 1000000
namespace Hm
open PySem PySem.Spec PyProof.Rows L2 HT
open Evl (Ex)
section
variable {P : Program} {w : World} {K : PySem.W.Frag} {mg : Str → Option Value} {base : Heap}
def spCell (K : PySem.W.Frag) : Sp := fun vs H Q _ => ∃ (a : Addr) (ns : List Int) (k : Nat), vs = [.ref a, .int (k : Int)] ∧ SqL K H a (ns.map V.int) ∧ ∀ z, Q (.int z) H
theorem ok_law_cell_at (T : Tx K mg) : FnOk P w K mg base CX0 1 T.f_law_cell_at T.d_law_cell_at ["_law_script", "_law_k"] (spCell K) := by
  refine T.h_law_cell_at.F.ok sc_law_cell_at (fun vs H Q E h => ?_) (fun cdv A outer s H vs Q E hr h => ?_)
  · obtain ⟨a, ns, k, rfl, _⟩ := h
    rfl
  obtain ⟨a, ns, k, rfl, hS, q⟩ := h
  refine ⟨_, (pss_one (ps_ret (pe_ifExp (pt_cmpR op_lt (pv 1) (pe_callB call_len_seq rfl T.b_len (by decide +kernel) (pa_cons (pv 0) pa_nil)) (nomark _)) (pe_ix ix_list (pv 0) (pv 1) (fun _ _ => rfl)) pe_int))), ?_⟩
  refine ⟨_, rfl, _, rfl, a, _, rfl, .inl hS, _, _, rfl, rfl, _, rfl, ?_⟩
  refine ite2 (fun c => ?_) (fun c => ?_)
  · have hk : k < ns.length := by
      have := of_decide_eq_true c
      rw [List.length_map] at this
      omega
    refine ⟨_, rfl, _, rfl, a, _, _, _, rfl, rfl, hS, atI_nat (v := V.int ns[k]) (by rw [List.getElem?_map, List.getElem?_eq_getElem hk]; rfl), q _⟩
  · exact q 0
def spWell : Sp := fun vs H Q _ => ∃ c, vs = [.int c] ∧ ∀ p x y z H', H p = none → Ex H H' → H' p = some (.lst [.int x, .int y, .int z]) → Q (.ref p) H'
theorem ok_law_well (T : Tx K mg) : FnOk P w K mg base CX0 1 T.f_law_well T.d_law_well ["_law_cell"] spWell := by
  refine T.h_law_well.F.ok sc_law_well (fun vs H Q E h => ?_) (fun cdv A outer s H vs Q E hr h => ?_)
  · obtain ⟨c, rfl, _⟩ := h
    rfl
  obtain ⟨c, rfl, q⟩ := h
  refine ⟨_, (pss_cons (ps_set (i := 0) sc_law_well.nd rfl (Or.inl rfl) (pe_callB call_abs rfl T.b_abs (by decide +kernel) (pa_cons (pv 0) pa_nil)))
    (pss_one (ps_ret (pe_lst (pa_cons (pe_op op_mul (pv 0) (pe_callTy call_int1 rfl T.b_int (by decide +kernel) (pa_cons (pe_cmpR op_ge (pv 0) (pe_op op_pow pe_int pe_int) (nomark _)) pa_nil))) (pa_cons (pe_op op_add (pe_op op_mod (pe_callTy call_int1 rfl T.b_int (by decide +kernel) (pa_cons (pv 0) pa_nil)) pe_int) pe_int) (pa_cons pe_int pa_nil))))))), ?_⟩
  refine ⟨_, rfl, _, rfl, ?_⟩
  refine ⟨_, rfl, _, rfl, _, _, rfl, rfl, ⟨by decide, by decide, by decide⟩, _, _, rfl, rfl, .inr ⟨_, rfl, ?_⟩⟩
  refine ⟨_, _, rfl, rfl, .inr (by constructor <;> split <;> first | decide | omega), _, rfl, .inl ⟨_, rfl, _, _, rfl, rfl, (show (0 : Int) < 2147483647 by decide), _, _, rfl, rfl, ?_⟩⟩
  refine ⟨(by show 3 ≤ sizeLine; decide), fun p hp => ?_⟩
  exact q p _ _ _ _ hp (Ex.new hp) upd_same
def spLaw (K : PySem.W.Frag) : Sp := fun vs H Q _ => ∃ (a : Addr) (ns : List Int), vs = [.ref a] ∧ SqL K H a (ns.map V.int) ∧ ns.length ≤ 63 ∧ ∀ H', Q (.bl true) H'
theorem ok_law (T : Tx K mg) : FnOk P w K mg base CX0 26 T.f_law T.d_law ["_law_script"] (spLaw K) := by
  refine T.h_law.F.ok sc_law (fun vs H Q E h => ?_) (fun cdv A outer s H vs Q E hr h => ?_)
  · obtain ⟨a, ns, rfl, _⟩ := h
    rfl
  obtain ⟨a, ns, rfl, hS, hn, q⟩ := h
  refine ⟨_, (pss_cons (ps_if (PW.pt (pw_or (pt_cmpR (op_neD hr.units) (pe_op op_cat (cl (ok_sort_terms T) T.h_sort_terms hr (pa_cons (pe_lst pa_nil) pa_nil)) (cl (ok_sort_terms T) T.h_sort_terms hr (pa_cons (pe_tup pa_nil) pa_nil))) (pe_lst pa_nil) (nomark _)) (pw_or1 (pt_cmpR (op_neD hr.units) (cl (ok_sort_terms T) T.h_sort_terms hr (pa_cons (pe_lst (pa_cons (pe_tup (pa_cons pe_int pa_nil)) pa_nil)) pa_nil)) (pe_lst (pa_cons (pe_tup (pa_cons pe_int pa_nil)) pa_nil)) (nomark _)))))
      (pss_one (ps_ret pe_bl))
      pss_nil)
    (pss_cons (ps_for PassesOwn.never rfl (pi_range1 rfl T.b_range (pa_cons (pe_callB (call_max2 rfl) rfl T.b_max (by decide +kernel) (pa_cons pe_int (pa_cons (pe_callB (call_min2 rfl) rfl T.b_min (by decide +kernel) (pa_cons pe_int (pa_cons (pe_callB call_len_seq rfl T.b_len (by decide +kernel) (pa_cons (pv 0) pa_nil)) pa_nil))) pa_nil))) pa_nil)) (pg_name (i := 1) sc_law.nd rfl (Or.inl rfl))
      (pss_one (ps_if (pt_not (pt_val (cl (ok_law_right T) T.h_law_right hr (pa_cons (cl (ok_law_well T) T.h_law_well hr (pa_cons (cl (ok_law_cell_at T) T.h_law_cell_at hr (pa_cons (pv 0) (pa_cons (pv 1) pa_nil))) pa_nil)) pa_nil))))
      (pss_one (ps_ret pe_bl))
      pss_nil)))
    (pss_one (ps_ret pe_bl)))), ?_⟩
  refine ⟨Nat.zero_le _, fun p hp => ?_⟩
  have e1 := Ex.new (o := HO.lst []) hp
  refine ⟨p, [], [], rfl, .inl upd_same, Reps.nil, trivial, (fun t h => absurd h (by simp)), Nat.zero_le _, fun q1 ys us H1 _ e2 hL hR pm _ => ?_⟩
  have hu := pm.eq_nil
  subst hu
  have hy := hR.nil_inv
  subst hy
  refine ⟨Nat.zero_le _, fun p2 hp2 => ?_⟩
  have e3 := Ex.new (o := HO.tup []) hp2
  refine ⟨p2, [], [], rfl, .inr (SqT.of upd_same), Reps.nil, trivial, (fun t h => absurd h (by simp)), Nat.zero_le _, fun q2 ys us H2 _ e4 hL2 hR2 pm2 _ => ?_⟩
  have hu := pm2.eq_nil
  subst hu
  have hy := hR2.nil_inv
  subst hy
  refine ⟨q1, q2, [], [], rfl, rfl, e4 _ _ (e3 _ _ hL), hL2, Nat.zero_le _, fun p3 hp3 => ⟨Nat.zero_le _, fun p4 hp4 => ?_⟩⟩
  have e5 := Ex.new (o := HO.lst ([] ++ [])) hp3
  have e6 := Ex.new (o := HO.lst []) hp4
  have eq0 : PyData.eqv (.list []) (.list []) = true := rfl
  refine ⟨.list [], .list [], .lst (SqL.of (e6 _ _ upd_same)) .nil, .lst (SqL.of upd_same) .nil, rfl, rfl, _, rfl, ?_⟩
  rw [eq0]
  have e16 := ((((e1.trans e2).trans e3).trans e4).trans e5).trans e6
  generalize upd (upd H2 p3 (.lst ([] ++ []))) p4 (.lst []) = H3 at *
  refine iteF ⟨(by show 1 ≤ sizeLine; decide), fun p5 hp5 => ⟨(by show 1 ≤ sizeLine; decide), fun p6 hp6 => ?_⟩⟩
  have e7 := Ex.new (o := HO.tup [V.int 2]) hp5
  have e8 := Ex.new (o := HO.lst [V.ref p5]) hp6
  have two : ∀ H' p, SqT K H' p [V.int 2] → Rep K H' (.var 2) (.ref p) := fun H' p h => by
    unfold Rep
    exact ⟨p, rfl, h⟩
  have ok2 : Oks [Tm.var 2] := by
    rw [oks_cons]
    refine ⟨?_, trivial⟩
    unfold Ok
    decide
  refine ⟨p6, [V.ref p5], [.var 2], rfl, .inl upd_same, Reps.one (two _ _ (Evl.ex_t e8 (SqT.of upd_same))), ok2, (fun t h => by
    have := List.mem_singleton.mp h
    subst this
    show 1 ≤ 50000
    decide), (by show 1 ≤ 1000; decide), fun q3 ys us H4 _ e9 hL3 hR3 pm3 _ => ?_⟩
  have hu := List.perm_singleton.mp pm3
  subst hu
  refine ⟨(by show 1 ≤ sizeLine; decide), fun p7 hp7 => ⟨(by show 1 ≤ sizeLine; decide), fun p8 hp8 => ?_⟩⟩
  have e10 := Ex.new (o := HO.tup [V.int 2]) hp7
  have e11 := Ex.new (o := HO.lst [V.ref p7]) hp8
  have sh := list_shaped ok2 (fun t h => by
    have := List.mem_singleton.mp h
    subst this
    show 1 ≤ 50
    decide)
  refine ⟨_, _, dp_list (SqL.of (e11 _ _ (e10 _ _ hL3))) ((hR3.mono (Tups.of e10)).mono (Tups.of e11)), dp_list (SqL.of upd_same) (Reps.one (two _ _ (Evl.ex_t e11 (SqT.of upd_same)))), sh, sh, _, rfl, ?_⟩
  rw [SeqAt.eqv_refl _ (SeqAt.canLay_of_shaped sh)]
  have e0 := (((e16.trans e7).trans e8).trans e9).trans (e10.trans e11)
  generalize upd (upd H4 p7 (.tup [V.int 2])) p8 (.lst [V.ref p7]) = H5 at *
  refine iteF ?_
  refine ⟨_, rfl, a, _, rfl, .inl (Evl.ex_l e0 hS), _, _, rfl, _, _, rfl, ?_⟩
  rw [List.length_map]
  refine ⟨_, rfl, (by split <;> split <;> omega), (by split <;> split <;> omega), for_range (lo := 0) (fun i σ' H' => ∃ kk, σ' = [some (.ref a), kk] ∧ Ex H H') ⟨none, rfl, e0⟩ ?_ ?_⟩
  · rintro i σ' H1 hi ⟨kk, rfl, e1⟩
    rw [Int.zero_add]
    refine ⟨_, rfl, _, rfl, a, ns, i, rfl, Evl.ex_l e1 hS, fun z => ?_⟩
    refine ⟨z, rfl, fun p x y z2 H2 hp e2 hL => ?_⟩
    refine ⟨p, rfl, ⟨x, y, z2, hL⟩, fun H3 dr => ?_⟩
    refine ⟨_, rfl, iteF ?_⟩
    refine ⟨_, rfl, fun b o hb => ?_⟩
    have h1 := e1 _ _ hb
    exact dr.keep _ _ (ne_of_none h1 hp) (e2 _ _ h1)
  · rintro σ' H1 ⟨kk, rfl, e1⟩
    exact q H1
end
end Hm

set_option Elab.async false
set_option linter.all false
set_option maxRecDepth 100000
set_option maxHeartbeats 4000000
namespace Hm
open PySem PySem.Spec PyProof.Rows L2 HT
theorem all_mk {l : PySem.W.OpenLaw} {w : World} {K : PySem.W.Frag} {h : Heap} {mg : Str → Option Value} {fa : Addr} (X : K.In h) (G : h.Ns mainGlobals mg) (hfa : mg "law" = some (.ref fa))
    {f1 : Addr}
    {od1 an1 : Option Addr} {sl1 : Array (Option Value)} {oc1 kV1 dc1 pm1 cd1 ct1 : Value}
    {f2 : Addr}
    {od2 an2 : Option Addr} {sl2 : Array (Option Value)} {oc2 kV2 dc2 pm2 cd2 ct2 : Value}
    {f3 : Addr}
    {od3 an3 : Option Addr} {sl3 : Array (Option Value)} {oc3 kV3 dc3 pm3 cd3 ct3 : Value}
    {f4 : Addr}
    {od4 an4 : Option Addr} {sl4 : Array (Option Value)} {oc4 kV4 dc4 pm4 cd4 ct4 : Value}
    {f5 : Addr}
    {od5 an5 : Option Addr} {sl5 : Array (Option Value)} {oc5 kV5 dc5 pm5 cd5 ct5 : Value}
    {f6 : Addr}
    {od6 an6 : Option Addr} {sl6 : Array (Option Value)} {oc6 kV6 dc6 pm6 cd6 ct6 : Value}
    {f7 : Addr}
    {od7 an7 : Option Addr} {sl7 : Array (Option Value)} {oc7 kV7 dc7 pm7 cd7 ct7 : Value}
    {f8 : Addr}
    {od8 an8 : Option Addr} {sl8 : Array (Option Value)} {oc8 kV8 dc8 pm8 cd8 ct8 : Value}
    {f9 : Addr}
    {od9 an9 : Option Addr} {sl9 : Array (Option Value)} {oc9 kV9 dc9 pm9 cd9 ct9 : Value}
    {f10 : Addr}
    {od10 an10 : Option Addr} {sl10 : Array (Option Value)} {oc10 kV10 dc10 pm10 cd10 ct10 : Value}
    {f11 : Addr}
    {od11 an11 : Option Addr} {sl11 : Array (Option Value)} {oc11 kV11 dc11 pm11 cd11 ct11 : Value}
    {f12 : Addr}
    {od12 an12 : Option Addr} {sl12 : Array (Option Value)} {oc12 kV12 dc12 pm12 cd12 ct12 : Value}
    {f13 : Addr}
    {od13 an13 : Option Addr} {sl13 : Array (Option Value)} {oc13 kV13 dc13 pm13 cd13 ct13 : Value}
    {f14 : Addr}
    {od14 an14 : Option Addr} {sl14 : Array (Option Value)} {oc14 kV14 dc14 pm14 cd14 ct14 : Value}
    {f15 : Addr}
    {od15 an15 : Option Addr} {sl15 : Array (Option Value)} {oc15 kV15 dc15 pm15 cd15 ct15 : Value}
    {f16 : Addr}
    {od16 an16 : Option Addr} {sl16 : Array (Option Value)} {oc16 kV16 dc16 pm16 cd16 ct16 : Value}
    {f17 : Addr}
    {od17 an17 : Option Addr} {sl17 : Array (Option Value)} {oc17 kV17 dc17 pm17 cd17 ct17 : Value}
    {f18 : Addr}
    {od18 an18 : Option Addr} {sl18 : Array (Option Value)} {oc18 kV18 dc18 pm18 cd18 ct18 : Value}
    {f19 : Addr}
    {od19 an19 : Option Addr} {sl19 : Array (Option Value)} {oc19 kV19 dc19 pm19 cd19 ct19 : Value}
    {f20 : Addr}
    {od20 an20 : Option Addr} {sl20 : Array (Option Value)} {oc20 kV20 dc20 pm20 cd20 ct20 : Value}
    {f21 : Addr}
    {od21 an21 : Option Addr} {sl21 : Array (Option Value)} {oc21 kV21 dc21 pm21 cd21 ct21 : Value}
    {f22 : Addr}
    {od22 an22 : Option Addr} {sl22 : Array (Option Value)} {oc22 kV22 dc22 pm22 cd22 ct22 : Value}
    {f23 : Addr}
    {od23 an23 : Option Addr} {sl23 : Array (Option Value)} {oc23 kV23 dc23 pm23 cd23 ct23 : Value}
    {f24 : Addr}
    {od24 an24 : Option Addr} {sl24 : Array (Option Value)} {oc24 kV24 dc24 pm24 cd24 ct24 : Value}
    {f25 : Addr}
    {od25 an25 : Option Addr} {sl25 : Array (Option Value)} {oc25 kV25 dc25 pm25 cd25 ct25 : Value}
    {f26 : Addr}
    {od26 an26 : Option Addr} {sl26 : Array (Option Value)} {oc26 kV26 dc26 pm26 cd26 ct26 : Value}
    {u1 : Tok}
    {u2 : Tok}
    {u3 : Tok}
    {u4 : Tok}
    {u5 : Tok}
    {u6 : Tok}
    {u7 : Tok}
    {u8 : Tok}
    (a1 : PySem.W.nsIn K mainGlobals "is_integer" = some (some (.ref f1)))
    (l1 : K.lookup f1 = some ⟨oc1, od1, .func (PySem.W.fnOf "is_integer" "is_integer" (defArgs s_is_integer) (defBody s_is_integer) (defScope s_is_integer) .none kV1 dc1 pm1 an1 cd1 ct1), sl1⟩)
    (c1 : PySem.W.codeIn K cd1 "is_integer" = true) (k1 : PySem.W.keepIn K (.ref f1) = true)
    (a2 : PySem.W.nsIn K mainGlobals "is_sign" = some (some (.ref f2)))
    (l2 : K.lookup f2 = some ⟨oc2, od2, .func (PySem.W.fnOf "is_sign" "is_sign" (defArgs s_is_sign) (defBody s_is_sign) (defScope s_is_sign) .none kV2 dc2 pm2 an2 cd2 ct2), sl2⟩)
    (c2 : PySem.W.codeIn K cd2 "is_sign" = true) (k2 : PySem.W.keepIn K (.ref f2) = true)
    (a3 : PySem.W.nsIn K mainGlobals "is_atom" = some (some (.ref f3)))
    (l3 : K.lookup f3 = some ⟨oc3, od3, .func (PySem.W.fnOf "is_atom" "is_atom" (defArgs s_is_atom) (defBody s_is_atom) (defScope s_is_atom) .none kV3 dc3 pm3 an3 cd3 ct3), sl3⟩)
    (c3 : PySem.W.codeIn K cd3 "is_atom" = true) (k3 : PySem.W.keepIn K (.ref f3) = true)
    (a4 : PySem.W.nsIn K mainGlobals "is_number" = some (some (.ref f4)))
    (l4 : K.lookup f4 = some ⟨oc4, od4, .func (PySem.W.fnOf "is_number" "is_number" (defArgs s_is_number) (defBody s_is_number) (defScope s_is_number) .none kV4 dc4 pm4 an4 cd4 ct4), sl4⟩)
    (c4 : PySem.W.codeIn K cd4 "is_number" = true) (k4 : PySem.W.keepIn K (.ref f4) = true)
    (a5 : PySem.W.nsIn K mainGlobals "is_term" = some (some (.ref f5)))
    (l5 : K.lookup f5 = some ⟨oc5, od5, .func (PySem.W.fnOf "is_term" "is_term" (defArgs s_is_term) (defBody s_is_term) (defScope s_is_term) .none kV5 dc5 pm5 an5 cd5 ct5), sl5⟩)
    (c5 : PySem.W.codeIn K cd5 "is_term" = true) (k5 : PySem.W.keepIn K (.ref f5) = true)
    (a6 : PySem.W.nsIn K mainGlobals "_is_part" = some (some (.ref f6)))
    (l6 : K.lookup f6 = some ⟨oc6, od6, .func (PySem.W.fnOf "_is_part" "_is_part" (defArgs s_is_part) (defBody s_is_part) (defScope s_is_part) .none kV6 dc6 pm6 an6 cd6 ct6), sl6⟩)
    (c6 : PySem.W.codeIn K cd6 "_is_part" = true) (k6 : PySem.W.keepIn K (.ref f6) = true)
    (a7 : PySem.W.nsIn K mainGlobals "demand_term" = some (some (.ref f7)))
    (l7 : K.lookup f7 = some ⟨oc7, od7, .func (PySem.W.fnOf "demand_term" "demand_term" (defArgs s_demand_term) (defBody s_demand_term) (defScope s_demand_term) .none kV7 dc7 pm7 an7 cd7 ct7), sl7⟩)
    (c7 : PySem.W.codeIn K cd7 "demand_term" = true) (k7 : PySem.W.keepIn K (.ref f7) = true)
    (a8 : PySem.W.nsIn K mainGlobals "is_variable" = some (some (.ref f8)))
    (l8 : K.lookup f8 = some ⟨oc8, od8, .func (PySem.W.fnOf "is_variable" "is_variable" (defArgs s_is_variable) (defBody s_is_variable) (defScope s_is_variable) .none kV8 dc8 pm8 an8 cd8 ct8), sl8⟩)
    (c8 : PySem.W.codeIn K cd8 "is_variable" = true) (k8 : PySem.W.keepIn K (.ref f8) = true)
    (a9 : PySem.W.nsIn K mainGlobals "arguments_of" = some (some (.ref f9)))
    (l9 : K.lookup f9 = some ⟨oc9, od9, .func (PySem.W.fnOf "arguments_of" "arguments_of" (defArgs s_arguments_of) (defBody s_arguments_of) (defScope s_arguments_of) .none kV9 dc9 pm9 an9 cd9 ct9), sl9⟩)
    (c9 : PySem.W.codeIn K cd9 "arguments_of" = true) (k9 : PySem.W.keepIn K (.ref f9) = true)
    (a10 : PySem.W.nsIn K mainGlobals "parts_of" = some (some (.ref f10)))
    (l10 : K.lookup f10 = some ⟨oc10, od10, .func (PySem.W.fnOf "parts_of" "parts_of" (defArgs s_parts_of) (defBody s_parts_of) (defScope s_parts_of) .none kV10 dc10 pm10 an10 cd10 ct10), sl10⟩)
    (c10 : PySem.W.codeIn K cd10 "parts_of" = true) (k10 : PySem.W.keepIn K (.ref f10) = true)
    (a11 : PySem.W.nsIn K mainGlobals "head_of" = some (some (.ref f11)))
    (l11 : K.lookup f11 = some ⟨oc11, od11, .func (PySem.W.fnOf "head_of" "head_of" (defArgs s_head_of) (defBody s_head_of) (defScope s_head_of) .none kV11 dc11 pm11 an11 cd11 ct11), sl11⟩)
    (c11 : PySem.W.codeIn K cd11 "head_of" = true) (k11 : PySem.W.keepIn K (.ref f11) = true)
    (a12 : PySem.W.nsIn K mainGlobals "order_key" = some (some (.ref f12)))
    (l12 : K.lookup f12 = some ⟨oc12, od12, .func (PySem.W.fnOf "order_key" "order_key" (defArgs s_order_key) (defBody s_order_key) (defScope s_order_key) .none kV12 dc12 pm12 an12 cd12 ct12), sl12⟩)
    (c12 : PySem.W.codeIn K cd12 "order_key" = true) (k12 : PySem.W.keepIn K (.ref f12) = true)
    (a13 : PySem.W.nsIn K mainGlobals "compare_terms" = some (some (.ref f13)))
    (l13 : K.lookup f13 = some ⟨oc13, od13, .func (PySem.W.fnOf "compare_terms" "compare_terms" (defArgs s_compare_terms) (defBody s_compare_terms) (defScope s_compare_terms) .none kV13 dc13 pm13 an13 cd13 ct13), sl13⟩)
    (c13 : PySem.W.codeIn K cd13 "compare_terms" = true) (k13 : PySem.W.keepIn K (.ref f13) = true)
    (a14 : PySem.W.nsIn K mainGlobals "sort_terms" = some (some (.ref f14)))
    (l14 : K.lookup f14 = some ⟨oc14, od14, .func (PySem.W.fnOf "sort_terms" "sort_terms" (defArgs s_sort_terms) (defBody s_sort_terms) (defScope s_sort_terms) .none kV14 dc14 pm14 an14 cd14 ct14), sl14⟩)
    (c14 : PySem.W.codeIn K cd14 "sort_terms" = true) (k14 : PySem.W.keepIn K (.ref f14) = true)
    (a15 : PySem.W.nsIn K mainGlobals "_law_cell_at" = some (some (.ref f15)))
    (l15 : K.lookup f15 = some ⟨oc15, od15, .func (PySem.W.fnOf "_law_cell_at" "_law_cell_at" (defArgs s_law_cell_at) (defBody s_law_cell_at) (defScope s_law_cell_at) .none kV15 dc15 pm15 an15 cd15 ct15), sl15⟩)
    (c15 : PySem.W.codeIn K cd15 "_law_cell_at" = true) (k15 : PySem.W.keepIn K (.ref f15) = true)
    (a16 : PySem.W.nsIn K mainGlobals "_law_well" = some (some (.ref f16)))
    (l16 : K.lookup f16 = some ⟨oc16, od16, .func (PySem.W.fnOf "_law_well" "_law_well" (defArgs s_law_well) (defBody s_law_well) (defScope s_law_well) .none kV16 dc16 pm16 an16 cd16 ct16), sl16⟩)
    (c16 : PySem.W.codeIn K cd16 "_law_well" = true) (k16 : PySem.W.keepIn K (.ref f16) = true)
    (a17 : PySem.W.nsIn K mainGlobals "_law_draw" = some (some (.ref f17)))
    (l17 : K.lookup f17 = some ⟨oc17, od17, .func (PySem.W.fnOf "_law_draw" "_law_draw" (defArgs s_law_draw) (defBody s_law_draw) (defScope s_law_draw) .none kV17 dc17 pm17 an17 cd17 ct17), sl17⟩)
    (c17 : PySem.W.codeIn K cd17 "_law_draw" = true) (k17 : PySem.W.keepIn K (.ref f17) = true)
    (a18 : PySem.W.nsIn K mainGlobals "_law_one" = some (some (.ref f18)))
    (l18 : K.lookup f18 = some ⟨oc18, od18, .func (PySem.W.fnOf "_law_one" "_law_one" (defArgs s_law_one) (defBody s_law_one) (defScope s_law_one) .none kV18 dc18 pm18 an18 cd18 ct18), sl18⟩)
    (c18 : PySem.W.codeIn K cd18 "_law_one" = true) (k18 : PySem.W.keepIn K (.ref f18) = true)
    (a19 : PySem.W.nsIn K mainGlobals "_law_leaf" = some (some (.ref f19)))
    (l19 : K.lookup f19 = some ⟨oc19, od19, .func (PySem.W.fnOf "_law_leaf" "_law_leaf" (defArgs s_law_leaf) (defBody s_law_leaf) (defScope s_law_leaf) .none kV19 dc19 pm19 an19 cd19 ct19), sl19⟩)
    (c19 : PySem.W.codeIn K cd19 "_law_leaf" = true) (k19 : PySem.W.keepIn K (.ref f19) = true)
    (a20 : PySem.W.nsIn K mainGlobals "_law_term" = some (some (.ref f20)))
    (l20 : K.lookup f20 = some ⟨oc20, od20, .func (PySem.W.fnOf "_law_term" "_law_term" (defArgs s_law_term) (defBody s_law_term) (defScope s_law_term) .none kV20 dc20 pm20 an20 cd20 ct20), sl20⟩)
    (c20 : PySem.W.codeIn K cd20 "_law_term" = true) (k20 : PySem.W.keepIn K (.ref f20) = true)
    (a21 : PySem.W.nsIn K mainGlobals "_law_is_compound" = some (some (.ref f21)))
    (l21 : K.lookup f21 = some ⟨oc21, od21, .func (PySem.W.fnOf "_law_is_compound" "_law_is_compound" (defArgs s_law_is_compound) (defBody s_law_is_compound) (defScope s_law_is_compound) .none kV21 dc21 pm21 an21 cd21 ct21), sl21⟩)
    (c21 : PySem.W.codeIn K cd21 "_law_is_compound" = true) (k21 : PySem.W.keepIn K (.ref f21) = true)
    (a22 : PySem.W.nsIn K mainGlobals "_law_rank" = some (some (.ref f22)))
    (l22 : K.lookup f22 = some ⟨oc22, od22, .func (PySem.W.fnOf "_law_rank" "_law_rank" (defArgs s_law_rank) (defBody s_law_rank) (defScope s_law_rank) .none kV22 dc22 pm22 an22 cd22 ct22), sl22⟩)
    (c22 : PySem.W.codeIn K cd22 "_law_rank" = true) (k22 : PySem.W.keepIn K (.ref f22) = true)
    (a23 : PySem.W.nsIn K mainGlobals "_law_order" = some (some (.ref f23)))
    (l23 : K.lookup f23 = some ⟨oc23, od23, .func (PySem.W.fnOf "_law_order" "_law_order" (defArgs s_law_order) (defBody s_law_order) (defScope s_law_order) .none kV23 dc23 pm23 an23 cd23 ct23), sl23⟩)
    (c23 : PySem.W.codeIn K cd23 "_law_order" = true) (k23 : PySem.W.keepIn K (.ref f23) = true)
    (a24 : PySem.W.nsIn K mainGlobals "_law_near" = some (some (.ref f24)))
    (l24 : K.lookup f24 = some ⟨oc24, od24, .func (PySem.W.fnOf "_law_near" "_law_near" (defArgs s_law_near) (defBody s_law_near) (defScope s_law_near) .none kV24 dc24 pm24 an24 cd24 ct24), sl24⟩)
    (c24 : PySem.W.codeIn K cd24 "_law_near" = true) (k24 : PySem.W.keepIn K (.ref f24) = true)
    (a25 : PySem.W.nsIn K mainGlobals "_law_right" = some (some (.ref f25)))
    (l25 : K.lookup f25 = some ⟨oc25, od25, .func (PySem.W.fnOf "_law_right" "_law_right" (defArgs s_law_right) (defBody s_law_right) (defScope s_law_right) .none kV25 dc25 pm25 an25 cd25 ct25), sl25⟩)
    (c25 : PySem.W.codeIn K cd25 "_law_right" = true) (k25 : PySem.W.keepIn K (.ref f25) = true)
    (a26 : PySem.W.nsIn K mainGlobals "law" = some (some (.ref f26)))
    (l26 : K.lookup f26 = some ⟨oc26, od26, .func (PySem.W.fnOf "law" "law" (defArgs s_law) (defBody s_law) (defScope s_law) .none kV26 dc26 pm26 an26 cd26 ct26), sl26⟩)
    (c26 : PySem.W.codeIn K cd26 "law" = true) (k26 : PySem.W.keepIn K (.ref f26) = true)
    (y1 : PySem.W.nsIn K mainGlobals "VARIABLE" = some (some (.int 0 u1)))
    (y2 : PySem.W.nsIn K mainGlobals "INTEGER" = some (some (.int 1 u2)))
    (y3 : PySem.W.nsIn K mainGlobals "ATOM" = some (some (.int 2 u3)))
    (y4 : PySem.W.nsIn K mainGlobals "COMPOUND" = some (some (.int 3 u4)))
    (y5 : PySem.W.nsIn K mainGlobals "MOST_SIGNS" = some (some (.int 40 u5)))
    (y6 : PySem.W.nsIn K mainGlobals "MOST_ARGUMENTS" = some (some (.int 8 u6)))
    (y7 : PySem.W.nsIn K mainGlobals "BARRED_SIGN" = some (some (.int 37 u7)))
    (y8 : PySem.W.nsIn K mainGlobals "TOO_GREAT" = some (some (.int tooGreat u8)))
    (z1 : PySem.W.nsIn K mainGlobals "abs" = some none)
    (z2 : PySem.W.nsIn K mainGlobals "all" = some none)
    (z3 : PySem.W.nsIn K mainGlobals "bool" = some none)
    (z4 : PySem.W.nsIn K mainGlobals "dict" = some none)
    (z5 : PySem.W.nsIn K mainGlobals "enumerate" = some none)
    (z6 : PySem.W.nsIn K mainGlobals "int" = some none)
    (z7 : PySem.W.nsIn K mainGlobals "isinstance" = some none)
    (z8 : PySem.W.nsIn K mainGlobals "len" = some none)
    (z9 : PySem.W.nsIn K mainGlobals "list" = some none)
    (z10 : PySem.W.nsIn K mainGlobals "max" = some none)
    (z11 : PySem.W.nsIn K mainGlobals "min" = some none)
    (z12 : PySem.W.nsIn K mainGlobals "ord" = some none)
    (z13 : PySem.W.nsIn K mainGlobals "range" = some none)
    (z14 : PySem.W.nsIn K mainGlobals "sorted" = some none)
    (z15 : PySem.W.nsIn K mainGlobals "str" = some none)
    (z16 : PySem.W.nsIn K mainGlobals "tuple" = some none)
    (z17 : PySem.W.nsIn K mainGlobals "zip" = some none) :
    ∃ fd : FuncData, (∀ (s : Shared) (v : Value), BindsTo s fd ⟨[v], []⟩ [("_law_script", v)]) ∧ ∀ base : Heap, K.In base → base.Ns mainGlobals mg → FnOk l.prog w K mg base CX0 26 fa fd ["_law_script"] (spLaw K) := by
  have e := hfa.symm.trans (PySem.W.mg_of X G a26)
  cases e
  have F1 := fun_mk (st := s_is_integer) l1 c1 k1
  have b1 := F1.binds (ps := ["thing"]) fun _ _ _ _ _ _ us hl => match us, hl with | [_], _ => rfl
  have F2 := fun_mk (st := s_is_sign) l2 c2 k2
  have b2 := F2.binds (ps := ["sign"]) fun _ _ _ _ _ _ us hl => match us, hl with | [_], _ => rfl
  have F3 := fun_mk (st := s_is_atom) l3 c3 k3
  have b3 := F3.binds (ps := ["thing"]) fun _ _ _ _ _ _ us hl => match us, hl with | [_], _ => rfl
  have F4 := fun_mk (st := s_is_number) l4 c4 k4
  have b4 := F4.binds (ps := ["thing"]) fun _ _ _ _ _ _ us hl => match us, hl with | [_], _ => rfl
  have F5 := fun_mk (st := s_is_term) l5 c5 k5
  have b5 := F5.binds (ps := ["thing"]) fun _ _ _ _ _ _ us hl => match us, hl with | [_], _ => rfl
  have F6 := fun_mk (st := s_is_part) l6 c6 k6
  have b6 := F6.binds (ps := ["thing"]) fun _ _ _ _ _ _ us hl => match us, hl with | [_], _ => rfl
  have F7 := fun_mk (st := s_demand_term) l7 c7 k7
  have b7 := F7.binds (ps := ["term"]) fun _ _ _ _ _ _ us hl => match us, hl with | [_], _ => rfl
  have F8 := fun_mk (st := s_is_variable) l8 c8 k8
  have b8 := F8.binds (ps := ["part"]) fun _ _ _ _ _ _ us hl => match us, hl with | [_], _ => rfl
  have F9 := fun_mk (st := s_arguments_of) l9 c9 k9
  have b9 := F9.binds (ps := ["part"]) fun _ _ _ _ _ _ us hl => match us, hl with | [_], _ => rfl
  have F10 := fun_mk (st := s_parts_of) l10 c10 k10
  have b10 := F10.binds (ps := ["term"]) fun _ _ _ _ _ _ us hl => match us, hl with | [_], _ => rfl
  have F11 := fun_mk (st := s_head_of) l11 c11 k11
  have b11 := F11.binds (ps := ["part"]) fun _ _ _ _ _ _ us hl => match us, hl with | [_], _ => rfl
  have F12 := fun_mk (st := s_order_key) l12 c12 k12
  have b12 := F12.binds (ps := ["term"]) fun _ _ _ _ _ _ us hl => match us, hl with | [_], _ => rfl
  have F13 := fun_mk (st := s_compare_terms) l13 c13 k13
  have b13 := F13.binds (ps := ["one", "other"]) fun _ _ _ _ _ _ us hl => match us, hl with | [_, _], _ => rfl
  have F14 := fun_mk (st := s_sort_terms) l14 c14 k14
  have b14 := F14.binds (ps := ["terms"]) fun _ _ _ _ _ _ us hl => match us, hl with | [_], _ => rfl
  have F15 := fun_mk (st := s_law_cell_at) l15 c15 k15
  have b15 := F15.binds (ps := ["_law_script", "_law_k"]) fun _ _ _ _ _ _ us hl => match us, hl with | [_, _], _ => rfl
  have F16 := fun_mk (st := s_law_well) l16 c16 k16
  have b16 := F16.binds (ps := ["_law_cell"]) fun _ _ _ _ _ _ us hl => match us, hl with | [_], _ => rfl
  have F17 := fun_mk (st := s_law_draw) l17 c17 k17
  have b17 := F17.binds (ps := ["_law_well_here", "_law_many"]) fun _ _ _ _ _ _ us hl => match us, hl with | [_, _], _ => rfl
  have F18 := fun_mk (st := s_law_one) l18 c18 k18
  have b18 := F18.binds (ps := ["_law_well_here", "_law_some"]) fun _ _ _ _ _ _ us hl => match us, hl with | [_, _], _ => rfl
  have F19 := fun_mk (st := s_law_leaf) l19 c19 k19
  have b19 := F19.binds (ps := ["_law_well_here", "_law_many"]) fun _ _ _ _ _ _ us hl => match us, hl with | [_, _], _ => rfl
  have F20 := fun_mk (st := s_law_term) l20 c20 k20
  have b20 := F20.binds (ps := ["_law_well_here", "_law_deep", "_law_many"]) fun _ _ _ _ _ _ us hl => match us, hl with | [_, _, _], _ => rfl
  have F21 := fun_mk (st := s_law_is_compound) l21 c21 k21
  have b21 := F21.binds (ps := ["_law_term_here"]) fun _ _ _ _ _ _ us hl => match us, hl with | [_], _ => rfl
  have F22 := fun_mk (st := s_law_rank) l22 c22 k22
  have b22 := F22.binds (ps := ["_law_term_here"]) fun _ _ _ _ _ _ us hl => match us, hl with | [_], _ => rfl
  have F23 := fun_mk (st := s_law_order) l23 c23 k23
  have b23 := F23.binds (ps := ["_law_one_here", "_law_other"]) fun _ _ _ _ _ _ us hl => match us, hl with | [_, _], _ => rfl
  have F24 := fun_mk (st := s_law_near) l24 c24 k24
  have b24 := F24.binds (ps := ["_law_well_here", "_law_term_here"]) fun _ _ _ _ _ _ us hl => match us, hl with | [_, _], _ => rfl
  have F25 := fun_mk (st := s_law_right) l25 c25 k25
  have b25 := F25.binds (ps := ["_law_well_here"]) fun _ _ _ _ _ _ us hl => match us, hl with | [_], _ => rfl
  have F26 := fun_mk (st := s_law) l26 c26 k26
  have b26 := F26.binds (ps := ["_law_script"]) fun _ _ _ _ _ _ us hl => match us, hl with | [_], _ => rfl
  exact ⟨PySem.W.fnOf "law" "law" (defArgs s_law) (defBody s_law) (defScope s_law) .none kV26 dc26 pm26 an26 cd26 ct26, fun s v => .of_eq rfl, fun base _ _ => ok_law (T := ({
    f_is_integer := f1, d_is_integer := _, h_is_integer := ⟨F1, b1, PySem.W.mg_of X G a1⟩,
    f_is_sign := f2, d_is_sign := _, h_is_sign := ⟨F2, b2, PySem.W.mg_of X G a2⟩,
    f_is_atom := f3, d_is_atom := _, h_is_atom := ⟨F3, b3, PySem.W.mg_of X G a3⟩,
    f_is_number := f4, d_is_number := _, h_is_number := ⟨F4, b4, PySem.W.mg_of X G a4⟩,
    f_is_term := f5, d_is_term := _, h_is_term := ⟨F5, b5, PySem.W.mg_of X G a5⟩,
    f_is_part := f6, d_is_part := _, h_is_part := ⟨F6, b6, PySem.W.mg_of X G a6⟩,
    f_demand_term := f7, d_demand_term := _, h_demand_term := ⟨F7, b7, PySem.W.mg_of X G a7⟩,
    f_is_variable := f8, d_is_variable := _, h_is_variable := ⟨F8, b8, PySem.W.mg_of X G a8⟩,
    f_arguments_of := f9, d_arguments_of := _, h_arguments_of := ⟨F9, b9, PySem.W.mg_of X G a9⟩,
    f_parts_of := f10, d_parts_of := _, h_parts_of := ⟨F10, b10, PySem.W.mg_of X G a10⟩,
    f_head_of := f11, d_head_of := _, h_head_of := ⟨F11, b11, PySem.W.mg_of X G a11⟩,
    f_order_key := f12, d_order_key := _, h_order_key := ⟨F12, b12, PySem.W.mg_of X G a12⟩,
    f_compare_terms := f13, d_compare_terms := _, h_compare_terms := ⟨F13, b13, PySem.W.mg_of X G a13⟩,
    f_sort_terms := f14, d_sort_terms := _, h_sort_terms := ⟨F14, b14, PySem.W.mg_of X G a14⟩,
    f_law_cell_at := f15, d_law_cell_at := _, h_law_cell_at := ⟨F15, b15, PySem.W.mg_of X G a15⟩,
    f_law_well := f16, d_law_well := _, h_law_well := ⟨F16, b16, PySem.W.mg_of X G a16⟩,
    f_law_draw := f17, d_law_draw := _, h_law_draw := ⟨F17, b17, PySem.W.mg_of X G a17⟩,
    f_law_one := f18, d_law_one := _, h_law_one := ⟨F18, b18, PySem.W.mg_of X G a18⟩,
    f_law_leaf := f19, d_law_leaf := _, h_law_leaf := ⟨F19, b19, PySem.W.mg_of X G a19⟩,
    f_law_term := f20, d_law_term := _, h_law_term := ⟨F20, b20, PySem.W.mg_of X G a20⟩,
    f_law_is_compound := f21, d_law_is_compound := _, h_law_is_compound := ⟨F21, b21, PySem.W.mg_of X G a21⟩,
    f_law_rank := f22, d_law_rank := _, h_law_rank := ⟨F22, b22, PySem.W.mg_of X G a22⟩,
    f_law_order := f23, d_law_order := _, h_law_order := ⟨F23, b23, PySem.W.mg_of X G a23⟩,
    f_law_near := f24, d_law_near := _, h_law_near := ⟨F24, b24, PySem.W.mg_of X G a24⟩,
    f_law_right := f25, d_law_right := _, h_law_right := ⟨F25, b25, PySem.W.mg_of X G a25⟩,
    f_law := fa, d_law := _, h_law := ⟨F26, b26, PySem.W.mg_of X G a26⟩,
    c_VARIABLE := ⟨_, PySem.W.mg_of X G y1⟩,
    c_INTEGER := ⟨_, PySem.W.mg_of X G y2⟩,
    c_ATOM := ⟨_, PySem.W.mg_of X G y3⟩,
    c_COMPOUND := ⟨_, PySem.W.mg_of X G y4⟩,
    c_MOST_SIGNS := ⟨_, PySem.W.mg_of X G y5⟩,
    c_MOST_ARGUMENTS := ⟨_, PySem.W.mg_of X G y6⟩,
    c_BARRED_SIGN := ⟨_, PySem.W.mg_of X G y7⟩,
    c_TOO_GREAT := ⟨_, PySem.W.mg_of X G y8⟩,
    b_abs := PySem.W.mg_none_of X G z1,
    b_all := PySem.W.mg_none_of X G z2,
    b_bool := PySem.W.mg_none_of X G z3,
    b_dict := PySem.W.mg_none_of X G z4,
    b_enumerate := PySem.W.mg_none_of X G z5,
    b_int := PySem.W.mg_none_of X G z6,
    b_isinstance := PySem.W.mg_none_of X G z7,
    b_len := PySem.W.mg_none_of X G z8,
    b_list := PySem.W.mg_none_of X G z9,
    b_max := PySem.W.mg_none_of X G z10,
    b_min := PySem.W.mg_none_of X G z11,
    b_ord := PySem.W.mg_none_of X G z12,
    b_range := PySem.W.mg_none_of X G z13,
    b_sorted := PySem.W.mg_none_of X G z14,
    b_str := PySem.W.mg_none_of X G z15,
    b_tuple := PySem.W.mg_none_of X G z16,
    b_zip := PySem.W.mg_none_of X G z17 } : Tx K mg))⟩
theorem walk {l : PySem.W.OpenLaw} {q : Program} {loose : List Str} {XP : (Str → Option Value) → Heap → Prop} {YP : World → Heap → Prop} {d : DefRec} {K : Params → PySem.W.Frag} (hn : l.most = some 63) (hdf : d.params.defaults = [])
    (hY : ∀ (w : World) (h : Heap), YP w h → (K w.params).In h)
    (F : ∀ (w : World) (mg : Str → Option Value) (fa : Addr) (h : Heap), (K w.params).In h → h.Ns mainGlobals mg → mg d.name = some (.ref fa) →
      ∃ fd : FuncData, (∀ (s : Shared) (u : Value), BindsTo s fd ⟨[u], []⟩ [("_law_script", u)]) ∧ ∀ base : Heap, (K w.params).In base → base.Ns mainGlobals mg → FnOk l.prog w (K w.params) mg base CX0 26 fa fd ["_law_script"] (spLaw (K w.params))) :
    PySem.W.WalkO q loose XP YP l.row.toRowW d [] (fun f vs => PySem.call f vs) :=
  L2.walk_of (n := 63) (k := 26) (x := "_law_script") (CX := fun _ => CX0) (sp := fun w => spLaw (K w.params)) hn (by decide) hdf ⟨rfl, by decide, by decide⟩ hY F (fun _ _ a ns hl _ hS => ⟨a, ns, rfl, hS, hl, fun _ => rfl⟩) fun _ _ _ _ _ z => z
end Hm

open PySem PySem.W PyProof.Rows
set_option maxRecDepth 100000 in
set_option maxHeartbeats 0 in
theorem PySem.Challenge.cw_hornmill_k03_whole_order_of_terms_holds : PySem.Challenge.rw_hornmill_k03_whole_order_of_terms.Holds := by
  w_on; o_law; k_head; (case hw => w_witness2)
  k_fill
  refine Hm.walk (l := PySem.Challenge.rw_hornmill_k03_whole_order_of_terms) rfl rfl (fun w h Y => PySem.W.kIn_of Y) ?F
  case F =>
    intro w mg fa h KX G hmg
    refine' Hm.all_mk KX G hmg ?a1 ?l1 ?c1 ?k1 ?a2 ?l2 ?c2 ?k2 ?a3 ?l3 ?c3 ?k3 ?a4 ?l4 ?c4 ?k4 ?a5 ?l5 ?c5 ?k5 ?a6 ?l6 ?c6 ?k6 ?a7 ?l7 ?c7 ?k7 ?a8 ?l8 ?c8 ?k8 ?a9 ?l9 ?c9 ?k9 ?a10 ?l10 ?c10 ?k10 ?a11 ?l11 ?c11 ?k11 ?a12 ?l12 ?c12 ?k12 ?a13 ?l13 ?c13 ?k13 ?a14 ?l14 ?c14 ?k14 ?a15 ?l15 ?c15 ?k15 ?a16 ?l16 ?c16 ?k16 ?a17 ?l17 ?c17 ?k17 ?a18 ?l18 ?c18 ?k18 ?a19 ?l19 ?c19 ?k19 ?a20 ?l20 ?c20 ?k20 ?a21 ?l21 ?c21 ?k21 ?a22 ?l22 ?c22 ?k22 ?a23 ?l23 ?c23 ?k23 ?a24 ?l24 ?c24 ?k24 ?a25 ?l25 ?c25 ?k25 ?a26 ?l26 ?c26 ?k26 ?y1 ?y2 ?y3 ?y4 ?y5 ?y6 ?y7 ?y8 ?z1 ?z2 ?z3 ?z4 ?z5 ?z6 ?z7 ?z8 ?z9 ?z10 ?z11 ?z12 ?z13 ?z14 ?z15 ?z16 ?z17
    (case a1 => k_is)
    (case l1 => k_is)
    (case c1 => k_is)
    (case k1 => k_is)
    (case a2 => k_is)
    (case l2 => k_is)
    (case c2 => k_is)
    (case k2 => k_is)
    (case a3 => k_is)
    (case l3 => k_is)
    (case c3 => k_is)
    (case k3 => k_is)
    (case a4 => k_is)
    (case l4 => k_is)
    (case c4 => k_is)
    (case k4 => k_is)
    (case a5 => k_is)
    (case l5 => k_is)
    (case c5 => k_is)
    (case k5 => k_is)
    (case a6 => k_is)
    (case l6 => k_is)
    (case c6 => k_is)
    (case k6 => k_is)
    (case a7 => k_is)
    (case l7 => k_is)
    (case c7 => k_is)
    (case k7 => k_is)
    (case a8 => k_is)
    (case l8 => k_is)
    (case c8 => k_is)
    (case k8 => k_is)
    (case a9 => k_is)
    (case l9 => k_is)
    (case c9 => k_is)
    (case k9 => k_is)
    (case a10 => k_is)
    (case l10 => k_is)
    (case c10 => k_is)
    (case k10 => k_is)
    (case a11 => k_is)
    (case l11 => k_is)
    (case c11 => k_is)
    (case k11 => k_is)
    (case a12 => k_is)
    (case l12 => k_is)
    (case c12 => k_is)
    (case k12 => k_is)
    (case a13 => k_is)
    (case l13 => k_is)
    (case c13 => k_is)
    (case k13 => k_is)
    (case a14 => k_is)
    (case l14 => k_is)
    (case c14 => k_is)
    (case k14 => k_is)
    (case a15 => k_is)
    (case l15 => k_is)
    (case c15 => k_is)
    (case k15 => k_is)
    (case a16 => k_is)
    (case l16 => k_is)
    (case c16 => k_is)
    (case k16 => k_is)
    (case a17 => k_is)
    (case l17 => k_is)
    (case c17 => k_is)
    (case k17 => k_is)
    (case a18 => k_is)
    (case l18 => k_is)
    (case c18 => k_is)
    (case k18 => k_is)
    (case a19 => k_is)
    (case l19 => k_is)
    (case c19 => k_is)
    (case k19 => k_is)
    (case a20 => k_is)
    (case l20 => k_is)
    (case c20 => k_is)
    (case k20 => k_is)
    (case a21 => k_is)
    (case l21 => k_is)
    (case c21 => k_is)
    (case k21 => k_is)
    (case a22 => k_is)
    (case l22 => k_is)
    (case c22 => k_is)
    (case k22 => k_is)
    (case a23 => k_is)
    (case l23 => k_is)
    (case c23 => k_is)
    (case k23 => k_is)
    (case a24 => k_is)
    (case l24 => k_is)
    (case c24 => k_is)
    (case k24 => k_is)
    (case a25 => k_is)
    (case l25 => k_is)
    (case c25 => k_is)
    (case k25 => k_is)
    (case a26 => k_is)
    (case l26 => k_is)
    (case c26 => k_is)
    (case k26 => k_is)
    (case y1 => k_is)
    (case y2 => k_is)
    (case y3 => k_is)
    (case y4 => k_is)
    (case y5 => k_is)
    (case y6 => k_is)
    (case y7 => k_is)
    (case y8 => k_is)
    (case z1 => k_is)
    (case z2 => k_is)
    (case z3 => k_is)
    (case z4 => k_is)
    (case z5 => k_is)
    (case z6 => k_is)
    (case z7 => k_is)
    (case z8 => k_is)
    (case z9 => k_is)
    (case z10 => k_is)
    (case z11 => k_is)
    (case z12 => k_is)
    (case z13 => k_is)
    (case z14 => k_is)
    (case z15 => k_is)
    (case z16 => k_is)
    (case z17 => k_is)

