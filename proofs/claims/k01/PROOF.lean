import PyProof.Rows.All
import Wide.All
import OpenK.AllK
import Wide.FinOn
import HandS.ForMost
import HandS.Style
import HandS.TupAny
import HandS.Flow
import HandS.Star
import HandS.IsInst
import HandS.Rev
import HandS.Evl
import HandS.More
import HandS.DictComp
import HandS.Wide
import HandS.Walk
import HandS.Defaults
import PySem.Challenge.RW_hornmill_k01_terms_told
set_option Elab.async false
set_option linter.all false
set_option maxRecDepth 100000
set_option maxHeartbeats 4000000
namespace Hm
open PySem PySem.Spec PyProof.Rows L2 HT

/-! ## rules that the layer lacks -/
section
variable {prog : Program} {w : World} {A : Around} {E : Value → Shared → Prop} {s : Shared}
theorem sliceApplied_back {sl : Addr} {n : Nat} {ti : Tok} {Q : Int × Int × Nat → Shared → Prop} (hs : s.heap.IsSliceOf sl .none .none (.int (-1) ti))
    (h : Q ((n : Int) - 1, -1, n) s) : wpAny (model prog w) A (Builtin.Slice.sliceApplied (.ref sl) (pure (n : Int))) Q E s := by
  obtain ⟨os, hos, hcs, hds⟩ := id hs
  unfold Builtin.Slice.sliceApplied Builtin.Slice.sliceFields
  refine wpAny_bind (wpAny_bind (wpAny_field hos hds (x := .none) rfl (wpAny_bind (wpAny_field hos hds (x := .none) rfl (wpAny_bind (wpAny_field hos hds (x := .int (-1) ti) rfl (wpAny_pure ?_)))))))
  refine wpAny_bind (slicePart_ (.int (-1) ti) ?_)
  show wpAny _ _ (if ((-1 : Int) == 0) = true then _ else _) _ _ s
  rw [if_neg (by decide)]
  refine wpAny_bind (slicePart_ .none (wpAny_bind (slicePart_ .none (wpAny_bind (wpAny_pure ?_)))))
  show wpAny _ _ (pure ((n : Int) - 1, (-1 : Int), Builtin.Slice.slicePlaces ((n : Int) - 1) (-1) (-1))) _ _ s
  have e : Builtin.Slice.slicePlaces ((n : Int) - 1) (-1) (-1) = n := by
    unfold Builtin.Slice.slicePlaces
    rw [if_neg (by decide)]
    by_cases hn : (n : Int) - 1 > -1
    · rw [if_pos hn]
      have : -(-1 : Int) = 1 := by decide
      rw [this, Int.ediv_one]
      omega
    · rw [if_neg hn]
      omega
  rw [e]
  exact wpAny_pure h
theorem fm_congr {α β : Type} {f g : α → Option β} : ∀ l : List α, (∀ x ∈ l, f x = g x) → l.filterMap f = l.filterMap g
  | [], _ => rfl
  | x :: r, h => by
    rw [List.filterMap_cons, List.filterMap_cons, h x List.mem_cons_self, fm_congr r fun y hy => h y (List.mem_cons_of_mem _ hy)]
theorem pick_back (xs : List Value) : ((List.range xs.toArray.size).filterMap fun (k : Nat) => xs.toArray[(((xs.toArray.size : Nat) : Int) - 1 + (k : Int) * -1).toNat]?).toArray = xs.reverse.toArray := by
  apply congrArg List.toArray
  have key : ∀ m : Nat, m ≤ xs.length → ((List.range m).filterMap fun (k : Nat) => xs[xs.length - 1 - k]?) = xs.reverse.take m := by
    intro m
    induction m with
    | zero => intro _; simp
    | succ m ih =>
      intro hm
      rw [List.range_succ, List.filterMap_append, ih (by omega), List.take_add_one]
      congr 1
      have hlt : xs.length - 1 - m < xs.length := by omega
      rw [List.getElem?_reverse (by omega)]
      simp [List.getElem?_eq_getElem hlt]
  have k2 := key xs.length (Nat.le_refl _)
  rw [List.take_of_length_le (by simp)] at k2
  rw [← k2, List.size_toArray]
  refine fm_congr _ fun k hk => ?_
  have hk' : k < xs.length := List.mem_range.mp hk
  have e : (((xs.length : Nat) : Int) - 1 + (k : Int) * -1).toNat = xs.length - 1 - k := by omega
  rw [e]
  simp
theorem getItem_tuple_back {t sl : Addr} {items : List Value} {ti : Tok} {Q : Value → Shared → Prop} (ht : IsTup s.heap t items.toArray) (hs : s.heap.IsSliceOf sl .none .none (.int (-1) ti))
    (h : Q (.ref s.heap.objs.size) { s with heap := s.heap.push { cls := .type "tuple", data := .seq items.reverse.toArray } })
    (hsz : items.length ≤ sizeLine) : wpAny (model prog w) A (getItem (.ref t) (.ref sl)) Q E s := by
  have htake : sizeOk (.seq items.reverse.toArray) := by
    show items.reverse.toArray.size ≤ sizeLine
    rw [List.size_toArray, List.length_reverse]
    exact hsz
  obtain ⟨os, hos, hcs, hds⟩ := id hs
  have hTs : s.TypeIs (.ref sl) "slice" := ⟨os, hos, hcs⟩
  unfold getItem
  try with_reducible refine wpAny_holding ?_
  first | refine wpAny_bind (wpAny_pure ?_) | skip
  refine wpAny_bind (wpAny_sequenceKey ht.typeIs (by decide) ?_)
  refine wpAny_bind (wpAny_callSpecial?_slot (name := Str.ofString "__getitem__") ht.typeIs PyProof.Rows.slot_tuple_getitem
    (wpAny_call_entry PyProof.Rows.slot_tuple_getitem ht.typeIs entry_tuple_getitem ?_ (args_tuple_getitem _ _)))
  show wpAny _ _ (Builtin.Tuple.tupleItemsOf (.ref t) >>= _) _ _ s
  refine wpAny_bind (tupleItemsOf_ ht ?_)
  refine wpAny_bind (wpAny_typeOf hTs ?_)
  rw [if_pos (by decide)]
  refine wpAny_bind (sliceApplied_back hs ?_)
  have hno : ¬ ((((items.toArray.size : Nat) : Int) - 1 == 0 && (-1 : Int) == 1 && items.toArray.size == items.toArray.size) = true) := by
    intro q
    rw [Bool.and_eq_true, Bool.and_eq_true] at q
    exact absurd q.1.2 (by decide)
  show wpAny _ _ (if (((items.toArray.size : Nat) : Int) - 1 == 0 && (-1 : Int) == 1 && items.toArray.size == items.toArray.size) = true then _ else _) _ _ s
  rw [if_neg hno, pick_back]
  first
    | exact wpAny_bind (m := Builtin.Tuple.tupleExact _) (wpAny_newObj_type (wpAny_pure ⟨_, rfl, wpAny_pure h⟩) htake)
    | exact wpAny_bind (m := Builtin.Tuple.tupleExact _) (wpAny_newObj_type (wpAny_bind (wpAny_pure (wpAny_pure ⟨_, rfl, wpAny_pure h⟩))) htake)
    | exact wpAny_bind (wpAny_bind (m := Builtin.Tuple.tupleExact _) (wpAny_newObj_type (wpAny_pure (wpAny_pure ⟨_, rfl, wpAny_pure h⟩)) htake))
    | exact wpAny_bind (wpAny_bind (m := Builtin.Tuple.tupleExact _) (wpAny_newObj_type (wpAny_pure ⟨_, rfl, wpAny_pure h⟩) htake))
end

/-- t[::-1] of a tuple -/
def tRevT (K : PySem.W.Frag) (te : TE) : TE := fun σ H Q => te σ H fun x H1 => ∃ a xs, x = .ref a ∧ SqT K H1 a xs ∧ ∀ p, H1 p = none → Q (.ref p) (upd H1 p (.tup xs.reverse))
section
variable {X : Cx}
theorem pe_revT {e : Expr} {te : TE} {k : Nat} {p1 p2 p3 pos : Pos} (he : PE X e te) : PE X (.Subscript e (.Slice none none (some (.UnaryOp .USub (.Constant (.int 1) k p1) p2)) p3) pos) (tRevT X.K te) := by
  refine ⟨fun pins s σ H Q I h => ?_⟩
  refine Subscript_ (thn (he.run pins s σ H _ I h) fun v s1 ⟨x, H1, I1, r1, q1⟩ => ?_)
  obtain ⟨a, xs, ex, hx, q⟩ := q1
  subst ex
  cases r1
  have hst : PO X (some (.UnaryOp .USub (.Constant (.int 1) k p1) p2)) (tPart (tUn (rU fun i => .int (-i)) (tC (.int 1)))) := po_some (pe_un un_neg pe_int)
  refine wpAny_Slice (thn (po_none.run pins s1 σ H1 (fun o H2 => o = none ∧ H2 = H1) I1 ⟨rfl, rfl⟩) fun vl s2 ⟨l, H2, I2, pl, el, e2⟩ => ?_)
  subst el e2
  refine thn (po_none.run pins s2 σ H2 (fun o H3 => o = none ∧ H3 = H2) I2 ⟨rfl, rfl⟩) fun vu s3 ⟨u, H3, I3, pu, eu, e3⟩ => ?_
  subst eu e3
  refine thn (hst.run pins s3 σ H3 (fun o H4 => o = some (-1) ∧ H4 = H3) I3 ⟨1, rfl, -1, rfl, rfl, rfl⟩) fun vs s4 ⟨o, H4, I4, ps, eo, e4⟩ => ?_
  subst eo e4
  cases pl
  cases pu
  obtain ⟨ti, rfl⟩ : ∃ ti, vs = Value.int (-1) ti := by
    cases ps
    exact ⟨_, rfl⟩
  have I5 : Inv X pins σ H4 { s4 with heap := s4.heap.push { cls := .type "slice", data := .fields #[Value.none, Value.none, Value.int (-1) ti] } } := I4.kept (t' := s4.toks) fun b ob q => Heap.get?_push_of_some _ q
  obtain ⟨its, r, ht, hz⟩ := I5.tuple hx
  have hlen := r.length
  show wpAny (model X.prog X.w) X.A (subscriptTail e (.Slice none none (some (.UnaryOp .USub (.Constant (.int 1) k p1) p2)) p3) (.ref a) (.ref s4.heap.objs.size)) (EP X pins σ Q) X.xe { s4 with heap := s4.heap.push { cls := .type "slice", data := .fields #[Value.none, Value.none, Value.int (-1) ti] } }
  refine tail_any (ops := [.ref a, .ref s4.heap.objs.size]) ht.typeIs (PyProof.Rows.slot_tuple_getitem.lookup) ?_ (by with_unfolding_all rfl)
  refine getItem_tuple_back ht (Heap.IsSliceOf.new _ Value.none Value.none (Value.int (-1) ti)) ?_ (by rw [← hlen]; exact hz)
  refine ⟨.ref _, _, I5.laid (t' := s4.toks) (o := .tup xs.reverse) (fun b ob q => Heap.get?_push_of_some _ q) (Nat.le_refl _) ?_, rfl, q _ (I5.hok.fresh (Nat.le_refl _))⟩
  exact ⟨by rw [List.length_reverse]; exact hz, _, r.reverse, IsTup.new _ _⟩
end

/-! ### xs[:-m-1:-1] of a list: the last m, the last one first -/
def tBackL (K : PySem.W.Frag) (te tu : TE) : TE := fun σ H Q => te σ H fun x H1 => tPart tu σ H1 fun o H2 => ∃ (a : Addr) (xs : List V) (m : Nat), x = .ref a ∧ o = some (-(m : Int) - 1) ∧ SqL K H2 a xs ∧ m ≤ xs.length ∧ ∀ p, H2 p = none → Q (.ref p) (upd H2 p (.lst (xs.drop (xs.length - m)).reverse))
theorem back_bounds (n m : Nat) (h : m ≤ n) : sliceBounds none (some (-(m : Int) - 1)) (some (-1)) n = ((n : Int) - 1, (n : Int) - m - 1, -1) := by
  have h1 : -(m : Int) - 1 < 0 := by omega
  have h2 : ¬ ((-1 : Int) > 0) := by decide
  simp only [sliceBounds, Option.getD_some, h1, h2, if_true, if_false]
  have e : max (-1) (min (-(m : Int) - 1 + n) ((n : Int) - 1)) = (n : Int) - m - 1 := by omega
  rw [e]
theorem back_range (n m : Nat) (h : m ≤ n) : sliceRange ((n : Int) - 1) ((n : Int) - m - 1) (-1) = (List.range m).map fun k => n - 1 - k := by
  unfold sliceRange
  have h1 : ¬ ((-1 : Int) > 0) := by decide
  by_cases hm : (n : Int) - 1 > (n : Int) - m - 1
  · have e : ((n : Int) - 1 - ((n : Int) - m - 1) - -1 - 1) / (- -1) = (m : Int) := by
      rw [show (- -1 : Int) = 1 by decide, Int.ediv_one]
      omega
    simp only [h1, if_false, hm, if_true, e, Int.toNat_natCast]
    apply List.map_congr_left
    intro k hk
    have := List.mem_range.mp hk
    omega
  · have e : m = 0 := by omega
    subst e
    simp
theorem back_pick (xs : List Value) (m : Nat) (h : m ≤ xs.length) : slicePick xs.toArray none (some (-(m : Int) - 1)) (some (-1)) = ((xs.drop (xs.length - m)).reverse).toArray := by
  unfold slicePick
  rw [List.size_toArray, back_bounds _ _ h]
  show ((sliceRange ((xs.length : Int) - 1) ((xs.length : Int) - m - 1) (-1)).filterMap (xs.toArray[·]?)).toArray = _
  rw [back_range _ _ h]
  apply congrArg List.toArray
  rw [List.filterMap_map]
  have key : ∀ j : Nat, j ≤ xs.length → ((List.range j).filterMap fun (k : Nat) => xs[xs.length - 1 - k]?) = xs.reverse.take j := by
    intro j
    induction j with
    | zero => intro _; simp
    | succ j ih =>
      intro hm
      rw [List.range_succ, List.filterMap_append, ih (by omega), List.take_add_one]
      congr 1
      have hlt : xs.length - 1 - j < xs.length := by omega
      rw [List.getElem?_reverse (by omega)]
      simp [List.getElem?_eq_getElem hlt]
  have e : ((fun x : Nat => xs.toArray[x]?) ∘ fun k => xs.length - 1 - k) = fun k => xs[xs.length - 1 - k]? := by
    funext k
    simp
  rw [e, key m h, List.take_reverse]
section
variable {X : Cx}
theorem pe_backL {e u : Expr} {te tu : TE} {k : Nat} {p1 p2 p3 pos : Pos} (he : PE X e te) (hu : PE X u tu) : PE X (.Subscript e (.Slice none (some u) (some (.UnaryOp .USub (.Constant (.int 1) k p1) p2)) p3) pos) (tBackL X.K te tu) := by
  refine ⟨fun pins s σ H Q I h => ?_⟩
  refine Subscript_ (thn (he.run pins s σ H _ I h) fun v s1 ⟨x, H1, I1, r1, q1⟩ => ?_)
  have hup : PO X (some u) (tPart tu) := po_some hu
  have hst : PO X (some (.UnaryOp .USub (.Constant (.int 1) k p1) p2)) (tPart (tUn (rU fun i => .int (-i)) (tC (.int 1)))) := po_some (pe_un un_neg pe_int)
  refine wpAny_Slice (thn (po_none.run pins s1 σ H1 (fun o H2 => o = none ∧ H2 = H1) I1 ⟨rfl, rfl⟩) fun vl s2 ⟨l, H2, I2, pl, el, e2⟩ => ?_)
  subst el e2
  refine thn (hup.run pins s2 σ H2 (fun o H3 => ∃ (a : Addr) (xs : List V) (m : Nat), x = .ref a ∧ o = some (-(m : Int) - 1) ∧ SqL X.K H3 a xs ∧ m ≤ xs.length ∧ ∀ p, H3 p = none → Q (.ref p) (upd H3 p (.lst (xs.drop (xs.length - m)).reverse))) I2 q1) fun vu s3 ⟨u', H3, I3, pu, qu⟩ => ?_
  obtain ⟨a, xs, m, ex, eu, hx, hm, q⟩ := qu
  subst ex eu
  refine thn (hst.run pins s3 σ H3 (fun o H4 => o = some (-1) ∧ H4 = H3) I3 ⟨1, rfl, -1, rfl, rfl, rfl⟩) fun vs s4 ⟨o, H4, I4, ps, eo, e4⟩ => ?_
  subst eo e4
  cases r1
  have I5 : Inv X pins σ H4 { s4 with heap := s4.heap.push { cls := .type "slice", data := .fields #[vl, vu, vs] } } := I4.kept (t' := s4.toks) fun b ob q => Heap.get?_push_of_some _ q
  obtain ⟨its, r, ht, hz⟩ := I5.list hx
  have hlen := r.length
  show wpAny (model X.prog X.w) X.A (subscriptTail e (.Slice none (some u) (some (.UnaryOp .USub (.Constant (.int 1) k p1) p2)) p3) (.ref a) (.ref s4.heap.objs.size)) (EP X pins σ Q) X.xe { s4 with heap := s4.heap.push { cls := .type "slice", data := .fields #[vl, vu, vs] } }
  refine tail_any (ops := [.ref a, .ref s4.heap.objs.size]) ht.isList.typeIs (PySem.slot_list_getitem.lookup) ?_ (by with_unfolding_all rfl)
  refine wpAny_getItem_list_slice ht.isList (Heap.IsSliceOf.new _ vl vu vs) pl pu ps (by decide) ?_ (by rw [List.size_toArray]; omega)
  rw [back_pick its m (by omega)]
  refine ⟨.ref _, _, I5.laid (t' := s4.toks) (o := .lst (xs.drop (xs.length - m)).reverse) (fun b ob q => Heap.get?_push_of_some _ q) (Nat.le_refl _) ?_, rfl, q _ (I5.hok.fresh (Nat.le_refl _))⟩
  refine ⟨by rw [List.length_reverse, List.length_drop]; omega, _, 0, ?_, Heap.get?_push_size _ rfl⟩
  rw [hlen]
  exact (r.drop _).reverse
end

/-! ### del xs[-m:] of a list, 1 ≤ m -/
def sel (start stop step : Int) (i : Nat) : Bool :=
  if step > 0 then start ≤ i && i < stop && (i - start) % step == 0
  else stop < i && i ≤ start && (start - i) % (-step) == 0
theorem del_bounds (n m : Nat) (h : m ≤ n) (h1 : 1 ≤ m) : sliceBounds (some (-(m : Int))) none none n = ((n : Int) - m, (n : Int), 1) := by
  have h2 : -(m : Int) < 0 := by omega
  have h3 : (1 : Int) > 0 := by decide
  simp only [sliceBounds, Option.getD_none, h2, h3, if_true]
  have e : max 0 (min (-(m : Int) + n) (n : Int)) = (n : Int) - m := by omega
  rw [e]
theorem del_keep (n m : Nat) (h : m ≤ n) (xs : List Value) : ∀ k : Nat, k + xs.length = n →
    ((xs.zipIdx k).filterMap fun (p : Value × Nat) => if sel ((n : Int) - m) (n : Int) 1 p.2 then none else some p.1) = xs.take (n - m - k) := by
  induction xs with
  | nil => intro k _; simp
  | cons x r ih =>
    intro k hk
    rw [List.length_cons] at hk
    rw [List.zipIdx_cons, List.filterMap_cons]
    have hs : sel ((n : Int) - m) (n : Int) 1 k = decide (n - m ≤ k) := by
      unfold sel
      rw [if_pos (by decide), Int.emod_one]
      by_cases q : n - m ≤ k
      · have q1 : (n : Int) - m ≤ (k : Int) := by omega
        have q2 : (k : Int) < (n : Int) := by omega
        simp [q, q1, q2]
      · have q1 : ¬ (n : Int) - m ≤ (k : Int) := by omega
        simp [q, q1]
    have i2 := ih (k + 1) (by omega)
    rw [i2]
    dsimp only
    rw [hs]
    by_cases q : n - m ≤ k
    · rw [if_pos (by simpa using q)]
      have e1 : n - m - (k + 1) = 0 := by omega
      have e2 : n - m - k = 0 := by omega
      rw [e1, e2]
      simp
    · rw [if_neg (by simpa using q)]
      have e1 : n - m - k = (n - m - (k + 1)) + 1 := by omega
      rw [e1, List.take_succ_cons]
section
variable {prog : Program} {w : World} {A : Around} {E : Value → Shared → Prop} {s : Shared}
theorem delItem_tail {l sl : Addr} {its : List Value} {n m : Nat} {ti : Tok} {Q : Unit → Shared → Prop}
    (e : s.heap.get? l = some { cls := .type "list", data := .seq its.toArray n }) (hs : s.heap.IsSliceOf sl (.int (-(m : Int)) ti) .none .none) (h1 : 1 ≤ m) (hm : m ≤ its.length) (hsz : its.length ≤ sizeLine)
    (h : ∀ f : Array Value → Array Value, f its.toArray = (its.take (its.length - m)).toArray → Q () { s with heap := s.heap.update l (Obj.mapSeq f) }) :
    wpAny (model prog w) A (delItem (.ref l) (.ref sl)) Q E s := by
  have hl : s.heap.IsList l its.toArray := PySem.IsL.isList e
  obtain ⟨os, hos, hcs, hds⟩ := id hs
  have hTs : s.TypeIs (.ref sl) "slice" := ⟨os, hos, hcs⟩
  have hstep : ¬ ((rawPart none == rawInt 0) = true) := Bool.false_ne_true
  refine wpAny_delItem_slot hl.typeIs (by decide) PySem.F.slot_list_delitem
    (wpAny_call_entry PySem.F.slot_list_delitem hl.typeIs PySem.F.entry_list_delitem ?_ (PySem.F.args_list_delitem_2 _ _))
  show wpAny _ _ (Builtin.List.listSubscript? (.ref sl) >>= _) _ _ s
  refine wpAny_bind ?_
  unfold Builtin.List.listSubscript?
  refine wpAny_bind (wpAny_specialOf hTs slice_no_index ?_)
  simp only [Option.isNone_none, if_true]
  refine wpAny_pure ?_
  show wpAny _ _ (typeOf (.ref sl) >>= _) _ _ s
  refine wpAny_bind (wpAny_typeOf hTs ?_)
  first
    | rw [if_neg (by decide)]
    | refine PySem.W.KFB.if_not (by decide) ?_
  rw [listSliceParts_eq]
  refine wpAny_bind (wpAny_bind (wpAny_field hos hds (x := .none) rfl (wpAny_bind (wpAny_listPart .none ?_))))
  rw [if_neg hstep]
  refine wpAny_bind (wpAny_field hos hds (x := .int (-(m : Int)) ti) rfl (wpAny_bind (wpAny_listPart (.int (-(m : Int)) ti) ?_)))
  refine wpAny_bind (wpAny_field hos hds (x := .none) rfl (wpAny_bind (wpAny_listPart .none (wpAny_pure ?_))))
  unfold Builtin.List.listItems
  refine wpAny_bind (wpAny_bind (wpAny_seqItems e rfl (wpAny_pure ?_)))
  refine wpAny_bind (wpAny_of_eq ((sliceIndices_raw (some (-(m : Int))) none none its.toArray.size (by simp)).trans (congrArg (pure : Int × Int × Int → Sem (Int × Int × Int)) (show sliceBounds (some (-(m : Int))) none none its.toArray.size = ((its.length : Int) - m, (its.length : Int), 1) from del_bounds its.length m hm h1))) ?_)
  refine wpAny_bind (wpAny_rule ?_)
  have hf := congrArg List.toArray (del_keep its.length m hm its 0 (Nat.zero_add _))
  rw [Nat.sub_zero] at hf
  show wpAny _ _ (updateSeq l (fun xs : Array Value => (xs.toList.zipIdx.filterMap fun (p : Value × Nat) => if sel ((its.length : Int) - m) (its.length : Int) 1 p.2 then none else some p.1).toArray) >>= _) _ _ s
  have hf' : (fun xs : Array Value => (xs.toList.zipIdx.filterMap fun (p : Value × Nat) => if sel ((its.length : Int) - m) (its.length : Int) 1 p.2 then none else some p.1).toArray) its.toArray = (its.take (its.length - m)).toArray := hf
  have hz2 : ((fun xs : Array Value => (xs.toList.zipIdx.filterMap fun (p : Value × Nat) => if sel ((its.length : Int) - m) (its.length : Int) 1 p.2 then none else some p.1).toArray) its.toArray).size ≤ sizeLine + 1 := by
    rw [hf', List.size_toArray, List.length_take]
    omega
  refine wpAny_bind (wpAny_updateSeq (hz := by rw [List.size_toArray]; exact hsz) (_hz' := hz2) e rfl ?_)
  refine wpAny_bind (wpAny_letGo ?_)
  have k := h (fun xs : Array Value => (xs.toList.zipIdx.filterMap fun (p : Value × Nat) => if sel ((its.length : Int) - m) (its.length : Int) 1 p.2 then none else some p.1).toArray) hf'
  first
    | exact wpAny_bind (wpAny_pure (wpAny_pure ⟨.none, rfl, k⟩))
    | exact wpAny_pure ⟨.none, rfl, k⟩
end
def tDelTail (te tu : TE) : TS := fun D σ H => te σ H fun x H1 => tPart tu σ H1 fun o H2 => ∃ (l : Addr) (xs : List V) (m : Nat), x = .ref l ∧ o = some (-(m : Int)) ∧ H2 l = some (.lst xs) ∧ 1 ≤ m ∧ m ≤ xs.length ∧ D.nx σ (upd H2 l (.lst (xs.take (xs.length - m))))
section
variable {X : Cx}
theorem ps_delTail {e u : Expr} {te tu : TE} {p3 tpos pos : Pos} (he : PE X e te) (hu : PE X u tu) : PS X (.Delete [.Subscript e (.Slice (some u) none none p3) tpos] pos) (tDelTail te tu) := by
  refine ⟨fun pins s σ H D I h => ?_⟩
  refine wpAny_Delete (wpAny_deleteEach_cons (wpAny_delete_Subscript (thn (he.run pins s σ H _ I h) fun v s1 ⟨x, H1, I1, r1, q1⟩ => ?_)))
  have hup : PO X (some u) (tPart tu) := po_some hu
  refine wpAny_Slice (thn (hup.run pins s1 σ H1 (fun o H2 => ∃ (l : Addr) (xs : List V) (m : Nat), x = .ref l ∧ o = some (-(m : Int)) ∧ H2 l = some (.lst xs) ∧ 1 ≤ m ∧ m ≤ xs.length ∧ D.nx σ (upd H2 l (.lst (xs.take (xs.length - m))))) I1 q1) fun vl s2 ⟨o, H2, I2, pl, q2⟩ => ?_)
  obtain ⟨l, xs, m, ex, eo, hH, h1, hm, q⟩ := q2
  subst ex eo
  cases r1
  rw [evalPart_none]
  refine wpAny_pure ?_
  refine wpAny_pure ?_
  obtain ⟨i, ti, rfl, ei⟩ : ∃ i ti, vl = Value.int i ti ∧ i = -(m : Int) := by
    cases pl
    exact ⟨_, _, rfl, rfl⟩
  subst ei
  have I5 : Inv X pins σ H2 { s2 with heap := s2.heap.push { cls := .type "slice", data := .fields #[.int (-(m : Int)) ti, Value.none, Value.none] } } := I2.kept (t' := s2.toks) fun b ob q => Heap.get?_push_of_some _ q
  obtain ⟨z, its, n, r, hl, e5⟩ := I5.lstM hH
  refine delItem_tail e5 (Heap.IsSliceOf.new _ (.int (-(m : Int)) ti) Value.none Value.none) h1 (by omega) (by omega) fun f hf => wpAny_deleteEach_nil ⟨σ, _, ?_, q⟩
  refine I5.lset (its' := its.take (its.length - m)) (t' := s2.toks) hH e5 hf ?_ (by rw [List.length_take]; omega)
  rw [hl]
  exact r.take _
end

/-! ### xs.extend(a tuple) -/
section
open AutoSeq1
theorem list_extend_tupW (l : Addr) (items : Array Value) (n : Nat) (b : Addr) (items2 : Array Value) (n2 : Nat) (dd : Option Addr) (sl : Array (Option Value)) (hs0 : ¬(!items.isEmpty && Builtin.List.listTooLong (items.size + items2.size)) = true) (hs1 : items.size ≤ sizeLine) (hs2 : items.size + items2.size ≤ sizeLine + 1) :
    Meets (Builtin.«list.extend» ⟨[.ref l, .ref b], []⟩) (fun _ R s => s.heap.get? l = some { cls := .type "list", dict := none, data := .seq items n, slots := #[] } ∧ s.heap.get? b = some { cls := .type "tuple", dict := dd, data := .seq items2 n2, slots := sl } ∧ R (.ok (.ret Value.none)) { s with heap := s.heap.update l (Obj.mapSeq fun x => x ++ items2), toks := s.toks }) :=
  .of_wp fun prog w A R s h => by
    obtain ⟨hp, g, d, tk, os⟩ := s; obtain ⟨hl, hb, h⟩ := h; have f1 := AutoSeq1.idx_int; have f2 := AutoSeq1.sub_tuple_tuple; have f3 := AutoSeq1.sub_list_list; have f4 := AutoSeq1.sub_tuple_list; have f5 := AutoSeq1.sub_list_tuple;
    have hz' : (items ++ items2).size ≤ sizeLine + 1 := by rw [Array.size_append]; exact hs2
    wp_walk using (wpAny_updateSeq hl rfl (hz := hs1) (_hz' := hz')), wpAny_loadPart' hl, wpAny_loadPart' hb; exact ⟨_, rfl, h⟩
end
def rExtT (K : PySem.W.Frag) : V → List V → Hp → VK → Prop := fun x vs H Q => ∃ l b xs zs, x = .ref l ∧ vs = [.ref b] ∧ H l = some (.lst xs) ∧ SqT K H b zs ∧ xs.length + zs.length ≤ sizeLine ∧ Q .non (upd H l (.lst (xs ++ zs)))
section
variable {X : Cx}
theorem mt_extT : MtR X "list.extend" (rExtT X.K) := by
  intro pins s σ H x vs v us Q I rx rv h
  obtain ⟨l, b, xs, zs, rfl, rfl, hH, hB, hz, q⟩ := h
  cases rx
  obtain ⟨u, rfl, ru⟩ := rv.one
  cases ru
  obtain ⟨z, its, n, r, hl, e⟩ := I.lstM hH
  obtain ⟨its2, r2, ⟨⟨oc, od, dt, sl⟩, e2, c2, n2, d2⟩, z2⟩ := I.tuple hB
  simp only at c2 d2
  subst c2 d2
  have hl2 := r2.length
  have hsz : its.toArray.size + its2.toArray.size ≤ sizeLine := by rw [List.size_toArray, List.size_toArray]; omega
  have hlong : ¬ (!its.toArray.isEmpty && Builtin.List.listTooLong (its.toArray.size + its2.toArray.size)) = true := by
    rw [notLongL hsz, Bool.and_false]
    exact Bool.false_ne_true
  refine call_meets PySem.F.slot_list_extend ⟨_, e, rfl⟩ PySem.F.entry_list_extend (PySem.F.args_list_extend_2 _ _)
    (list_extend_tupW l its.toArray n b its2.toArray n2 od sl hlong (by rw [List.size_toArray]; omega) (by omega)) ⟨e, e2, ?_⟩
  refine ⟨.non, _, I.lset (its' := its ++ its2) (t' := s.toks) hH e (by simp) (r.append r2) ?_, rfl, q⟩
  rw [List.length_append]
  omega
end
end Hm

set_option Elab.async false
set_option linter.all false
set_option maxRecDepth 100000
set_option maxHeartbeats 4000000
namespace Hm
open PySem PySem.Spec PyProof.Rows L2 HT

/-! ## terms, told in Lean -/
inductive Tm where
  | var (k : Int)
  | int (i : Int)
  | atom (s : Str)
  | comp (f : Str) (as : List Tm)

def Tm.args : Tm → List Tm
  | .comp _ as => as
  | _ => []
mutual
def size : Tm → Nat
  | .comp _ as => 1 + sizes as
  | _ => 1
def sizes : List Tm → Nat
  | [] => 0
  | t :: ts => size t + sizes ts
end
mutual
def depth : Tm → Nat
  | .comp _ as => 1 + depths as
  | _ => 1
def depths : List Tm → Nat
  | [] => 0
  | t :: ts => max (depth t) (depths ts)
end
mutual
/-- the parts, each ahead of its arguments -/
def pre : Tm → List Tm
  | .var k => [.var k]
  | .int i => [.int i]
  | .atom s => [.atom s]
  | .comp f as => .comp f as :: pres as
def pres : List Tm → List Tm
  | [] => []
  | t :: ts => pre t ++ pres ts
end
mutual
/-- variables replaced, all at once -/
def sub (g : Int → Tm) : Tm → Tm
  | .var k => g k
  | .int i => .int i
  | .atom s => .atom s
  | .comp f as => .comp f (subs g as)
def subs (g : Int → Tm) : List Tm → List Tm
  | [] => []
  | t :: ts => sub g t :: subs g ts
end
def AtomOk (s : Str) : Prop := s.cps.size ≤ 40 ∧ ∀ c ∈ s.cps.toList, 32 ≤ c ∧ c ≤ 126 ∧ c ≠ 37
def tooGreat : Int := (10 ^ 60) ^ 5
mutual
/-- a term as the document tells it -/
def Ok : Tm → Prop
  | .var k => 0 ≤ k
  | .int i => -tooGreat < i ∧ i < tooGreat
  | .atom s => AtomOk s
  | .comp f as => AtomOk f ∧ 1 ≤ as.length ∧ as.length ≤ 8 ∧ Oks as
def Oks : List Tm → Prop
  | [] => True
  | t :: ts => Ok t ∧ Oks ts
end

theorem sizes_cons (t : Tm) (ts : List Tm) : sizes (t :: ts) = size t + sizes ts := by rw [sizes]
theorem depths_cons (t : Tm) (ts : List Tm) : depths (t :: ts) = max (depth t) (depths ts) := by rw [depths]
theorem pres_cons (t : Tm) (ts : List Tm) : pres (t :: ts) = pre t ++ pres ts := by rw [pres]
theorem oks_cons (t : Tm) (ts : List Tm) : Oks (t :: ts) = (Ok t ∧ Oks ts) := by rw [Oks]
theorem size_pos : ∀ t : Tm, 1 ≤ size t
  | .var _ => Nat.le_refl _
  | .int _ => Nat.le_refl _
  | .atom _ => Nat.le_refl _
  | .comp _ as => by unfold size; omega
theorem sizes_app : ∀ xs ys : List Tm, sizes (xs ++ ys) = sizes xs + sizes ys
  | [], ys => by show sizes ys = sizes [] + sizes ys; unfold sizes; omega
  | x :: xs, ys => by
    show sizes (x :: (xs ++ ys)) = _
    rw [sizes_cons, sizes_cons, sizes_app xs ys]
    omega
theorem sizes_rev : ∀ xs : List Tm, sizes xs.reverse = sizes xs
  | [] => rfl
  | x :: xs => by
    rw [List.reverse_cons, sizes_app, sizes_rev xs, sizes_cons x xs]
    have : sizes [x] = size x := by simp [sizes]
    omega
theorem sizes_one (t : Tm) : sizes [t] = size t := by simp [sizes]
theorem size_eq : ∀ t : Tm, size t = 1 + sizes t.args
  | .var _ => by simp [size, Tm.args, sizes]
  | .int _ => by simp [size, Tm.args, sizes]
  | .atom _ => by simp [size, Tm.args, sizes]
  | .comp _ as => by simp [size, Tm.args]
theorem len_sizes : ∀ ts : List Tm, ts.length ≤ sizes ts
  | [] => Nat.zero_le _
  | t :: ts => by
    have h1 := size_pos t
    have h2 := len_sizes ts
    rw [List.length_cons]
    unfold sizes
    omega
theorem pre_eq : ∀ t : Tm, pre t = t :: pres t.args
  | .var _ => by simp [pre, Tm.args, pres]
  | .int _ => by simp [pre, Tm.args, pres]
  | .atom _ => by simp [pre, Tm.args, pres]
  | .comp _ as => by simp [pre, Tm.args]
theorem pres_app : ∀ xs ys : List Tm, pres (xs ++ ys) = pres xs ++ pres ys
  | [], ys => by simp [pres]
  | x :: xs, ys => by
    show pres (x :: (xs ++ ys)) = _
    rw [pres_cons, pres_cons, pres_app xs ys, List.append_assoc]
mutual
theorem len_pre : ∀ t : Tm, (pre t).length = size t
  | .var _ => rfl
  | .int _ => rfl
  | .atom _ => rfl
  | .comp f as => by
    unfold pre size
    rw [List.length_cons, len_pres as]
    omega
theorem len_pres : ∀ ts : List Tm, (pres ts).length = sizes ts
  | [] => rfl
  | t :: ts => by
    unfold pres sizes
    rw [List.length_append, len_pre t, len_pres ts]
end
theorem oks_app : ∀ {xs ys : List Tm}, Oks (xs ++ ys) ↔ Oks xs ∧ Oks ys
  | [], ys => by simp [Oks]
  | x :: xs, ys => by
    show Oks (x :: (xs ++ ys)) ↔ _
    rw [oks_cons, oks_cons, oks_app (xs := xs) (ys := ys)]
    constructor
    · rintro ⟨a, b, c⟩; exact ⟨⟨a, b⟩, c⟩
    · rintro ⟨⟨a, b⟩, c⟩; exact ⟨a, b, c⟩
theorem ok_args : ∀ {t : Tm}, Ok t → Oks t.args
  | .var _, _ => trivial
  | .int _, _ => trivial
  | .atom _, _ => trivial
  | .comp _ _, h => by unfold Ok at h; exact h.2.2.2
theorem depths_app : ∀ xs ys : List Tm, depths (xs ++ ys) = max (depths xs) (depths ys)
  | [], ys => by simp [depths]
  | x :: xs, ys => by
    show depths (x :: (xs ++ ys)) = _
    rw [depths_cons, depths_cons, depths_app xs ys]
    omega
theorem depth_eq : ∀ t : Tm, depth t = 1 + depths t.args
  | .var _ => by simp [depth, Tm.args, depths]
  | .int _ => by simp [depth, Tm.args, depths]
  | .atom _ => by simp [depth, Tm.args, depths]
  | .comp _ as => by simp [depth, Tm.args]
/-- the next layer -/
def layer (ts : List Tm) : List Tm := ts.flatMap Tm.args
theorem depths_layer : ∀ t ts, depths (t :: ts) = 1 + depths (layer (t :: ts))
  | t, [] => by
    unfold layer
    simp [depths, depth_eq]
  | t, u :: us => by
    have ih := depths_layer u us
    unfold layer at ih ⊢
    rw [List.flatMap_cons, depths_app]
    show max (depth t) (depths (u :: us)) = _
    rw [ih, depth_eq]
    omega
theorem sizes_layer : ∀ ts, sizes (layer ts) + ts.length = sizes ts
  | [] => rfl
  | t :: ts => by
    have ih := sizes_layer ts
    unfold layer at ih ⊢
    rw [List.flatMap_cons, sizes_app, List.length_cons, sizes_cons, size_eq t]
    omega

/-! ## variables, by first occurrence -/
def addNew (acc : List Int) (k : Int) : List Int := if k ∈ acc then acc else acc ++ [k]
def stepVar (acc : List Int) : Tm → List Int
  | .var k => addNew acc k
  | _ => acc
def varsOf (t : Tm) : List Int := (pre t).foldl stepVar []
theorem addNew_nodup {acc : List Int} {k : Int} (h : acc.Nodup) : (addNew acc k).Nodup := by
  unfold addNew
  by_cases q : k ∈ acc
  · rw [if_pos q]; exact h
  · rw [if_neg q, List.nodup_append]
    exact ⟨h, by simp, fun a ha b hb e => by
      simp only [List.mem_singleton] at hb
      subst hb
      subst e
      exact q ha⟩
theorem addNew_len (acc : List Int) (k : Int) : (addNew acc k).length ≤ acc.length + 1 := by
  unfold addNew
  split
  · omega
  · rw [List.length_append, List.length_singleton]; omega
theorem stepVar_nodup {acc : List Int} {t : Tm} (h : acc.Nodup) : (stepVar acc t).Nodup := by
  cases t <;> first | exact addNew_nodup h | exact h
theorem stepVar_len (acc : List Int) (t : Tm) : (stepVar acc t).length ≤ acc.length + 1 := by
  cases t <;> first | exact addNew_len acc _ | exact Nat.le_succ _
theorem fold_nodup : ∀ (ts : List Tm) {acc : List Int}, acc.Nodup → (ts.foldl stepVar acc).Nodup
  | [], _, h => h
  | t :: ts, _, h => fold_nodup ts (stepVar_nodup h)
theorem fold_len : ∀ (ts : List Tm) (acc : List Int), (ts.foldl stepVar acc).length ≤ acc.length + ts.length
  | [], _ => Nat.le_refl _
  | t :: ts, acc => by
    have h := fold_len ts (stepVar acc t)
    have h2 := stepVar_len acc t
    rw [List.foldl_cons, List.length_cons]
    omega
theorem varsOf_nodup (t : Tm) : (varsOf t).Nodup := fold_nodup _ List.nodup_nil
theorem varsOf_len (t : Tm) : (varsOf t).length ≤ size t := by
  have h := fold_len (pre t) []
  rw [len_pre, List.length_nil, Nat.zero_add] at h
  exact h

/-! ## rows, and what folding them gives -/
inductive Rw where
  | leaf (t : Tm)
  | node (f : Str) (n : Nat)
mutual
def rowOf (g : Int → Tm) : Tm → List Rw
  | .var k => [.leaf (g k)]
  | .int i => [.leaf (.int i)]
  | .atom s => [.leaf (.atom s)]
  | .comp f as => .node f as.length :: rowsOf g as
def rowsOf (g : Int → Tm) : List Tm → List Rw
  | [] => []
  | t :: ts => rowOf g t ++ rowsOf g ts
end
def rw1 (g : Int → Tm) : Tm → Rw
  | .var k => .leaf (g k)
  | .int i => .leaf (.int i)
  | .atom s => .leaf (.atom s)
  | .comp f as => .node f as.length
mutual
theorem row_pre (g : Int → Tm) : ∀ t : Tm, (pre t).map (rw1 g) = rowOf g t
  | .var _ => rfl
  | .int _ => rfl
  | .atom _ => rfl
  | .comp f as => by
    unfold pre rowOf
    rw [List.map_cons, row_pres g as]
    rfl
theorem row_pres (g : Int → Tm) : ∀ ts : List Tm, (pres ts).map (rw1 g) = rowsOf g ts
  | [] => rfl
  | t :: ts => by
    unfold pres rowsOf
    rw [List.map_append, row_pre g t, row_pres g ts]
end
/-- one turn of folding: the stack has its top at its end -/
def turn (r : Rw) (D : List Tm) : List Tm :=
  match r with
  | .leaf t => D ++ [t]
  | .node f n => D.take (D.length - n) ++ [.comp f (D.drop (D.length - n)).reverse]
theorem subs_len (g : Int → Tm) : ∀ ts : List Tm, (subs g ts).length = ts.length
  | [] => rfl
  | t :: ts => by
    unfold subs
    rw [List.length_cons, List.length_cons, subs_len g ts]
mutual
theorem fold_row (g : Int → Tm) : ∀ (t : Tm) (D : List Tm), (rowOf g t).foldr turn D = D ++ [sub g t]
  | .var _, _ => rfl
  | .int _, _ => rfl
  | .atom _, _ => rfl
  | .comp f as, D => by
    unfold rowOf sub
    rw [List.foldr_cons, fold_rows g as D]
    unfold turn
    have hl : (D ++ (subs g as).reverse).length - as.length = D.length := by
      rw [List.length_append, List.length_reverse, subs_len]
      omega
    dsimp only
    rw [hl, List.take_left' rfl, List.drop_left' rfl, List.reverse_reverse]
theorem fold_rows (g : Int → Tm) : ∀ (ts : List Tm) (D : List Tm), (rowsOf g ts).foldr turn D = D ++ (subs g ts).reverse
  | [], D => by simp [rowsOf, subs]
  | t :: ts, D => by
    unfold rowsOf subs
    rw [List.foldr_append, fold_rows g ts D, fold_row g t, List.reverse_cons, List.append_assoc]
end
/-- each node of a row finds its arguments on the stack -/
def Rooms : List Rw → List Tm → Prop
  | [], _ => True
  | r :: rs, D => Rooms rs D ∧ (match r with
    | .leaf _ => True
    | .node _ n => 1 ≤ n ∧ n ≤ (rs.foldr turn D).length)
theorem rooms_cons (r : Rw) (rs : List Rw) (D : List Tm) : Rooms (r :: rs) D = (Rooms rs D ∧ (match r with
    | .leaf _ => True
    | .node _ n => 1 ≤ n ∧ n ≤ (rs.foldr turn D).length)) := by
  cases r <;> rfl
theorem rooms_app : ∀ {xs ys : List Rw} {D : List Tm}, Rooms (xs ++ ys) D ↔ Rooms ys D ∧ Rooms xs (ys.foldr turn D)
  | [], ys, D => by simp [Rooms]
  | x :: xs, ys, D => by
    show Rooms (x :: (xs ++ ys)) D ↔ _
    rw [rooms_cons, rooms_cons, rooms_app (xs := xs) (ys := ys), List.foldr_append]
    constructor
    · rintro ⟨⟨a, b⟩, c⟩; exact ⟨a, b, c⟩
    · rintro ⟨a, b, c⟩; exact ⟨⟨a, b⟩, c⟩
mutual
theorem rooms_row (g : Int → Tm) : ∀ (t : Tm) (D : List Tm), Ok t → Rooms (rowOf g t) D
  | .var _, _, _ => ⟨trivial, trivial⟩
  | .int _, _, _ => ⟨trivial, trivial⟩
  | .atom _, _, _ => ⟨trivial, trivial⟩
  | .comp f as, D, h => by
    unfold Ok at h
    unfold rowOf
    refine ⟨rooms_rows g as D h.2.2.2, h.2.1, ?_⟩
    rw [fold_rows g as D, List.length_append, List.length_reverse, subs_len]
    omega
theorem rooms_rows (g : Int → Tm) : ∀ (ts : List Tm) (D : List Tm), Oks ts → Rooms (rowsOf g ts) D
  | [], _, _ => trivial
  | t :: ts, D, h => by
    unfold Oks at h
    unfold rowsOf
    exact rooms_app.mpr ⟨rooms_rows g ts D h.2, rooms_row g t _ h.1⟩
end

/-! ## how a heap bears a term -/
mutual
def Rep (K : PySem.W.Frag) (H : Hp) : Tm → V → Prop
  | .var k, v => ∃ a, v = .ref a ∧ SqT K H a [.int k]
  | .int i, v => v = .int i
  | .atom s, v => v = .str s
  | .comp f as, v => ∃ a vs, v = .ref a ∧ SqT K H a (.str f :: vs) ∧ Reps K H as vs
def Reps (K : PySem.W.Frag) (H : Hp) : List Tm → List V → Prop
  | [], vs => vs = []
  | t :: ts, vs => ∃ v ws, vs = v :: ws ∧ Rep K H t v ∧ Reps K H ts ws
end
/-- tuples stay -/
def Tups (K : PySem.W.Frag) (H H' : Hp) : Prop := ∀ a xs, SqT K H a xs → SqT K H' a xs
theorem Tups.refl {K : PySem.W.Frag} (H : Hp) : Tups K H H := fun _ _ h => h
theorem Tups.trans {K : PySem.W.Frag} {H H1 H2 : Hp} (a : Tups K H H1) (b : Tups K H1 H2) : Tups K H H2 := fun x xs h => b x xs (a x xs h)
theorem Tups.of {K : PySem.W.Frag} {H H' : Hp} (e : Evl.Ex H H') : Tups K H H' := fun _ _ h => Evl.ex_t e h
/-- a list of H is changed -/
theorem Tups.lst {K : PySem.W.Frag} {H : Hp} {l : Addr} {xs : List V} {o : HO} (h : H l = some (.lst xs)) : Tups K H (upd H l o) := fun a ys q => by
  rcases q with (q | ⟨ob, q⟩) | q
  · exact .inl (.inl (by rw [upd_ne (ne_of q h (by intro z; cases z))]; exact q))
  · exact .inl (.inr ⟨ob, by rw [upd_ne (ne_of q h (by intro z; cases z))]; exact q⟩)
  · exact .inr q
theorem tups_dk {K : PySem.W.Frag} {H : Hp} {l : Addr} {kvs : List (Key × V)} {o : HO} (h : H l = some (.dK kvs)) : Tups K H (upd H l o) := fun a ys q => by
  rcases q with (q | ⟨ob, q⟩) | q
  · exact .inl (.inl (by rw [upd_ne (ne_of q h (by intro z; cases z))]; exact q))
  · exact .inl (.inr ⟨ob, by rw [upd_ne (ne_of q h (by intro z; cases z))]; exact q⟩)
  · exact .inr q
section
variable {K : PySem.W.Frag} {H H' : Hp}
mutual
theorem Rep.mono (e : Tups K H H') : ∀ {t : Tm} {v : V}, Rep K H t v → Rep K H' t v
  | .var k, v, h => by
    unfold Rep at h ⊢
    obtain ⟨a, e1, q⟩ := h
    exact ⟨a, e1, e _ _ q⟩
  | .int i, v, h => by unfold Rep at h ⊢; exact h
  | .atom s, v, h => by unfold Rep at h ⊢; exact h
  | .comp f as, v, h => by
    unfold Rep at h ⊢
    obtain ⟨a, vs, e1, q, r⟩ := h
    exact ⟨a, vs, e1, e _ _ q, Reps.mono e r⟩
theorem Reps.mono (e : Tups K H H') : ∀ {ts : List Tm} {vs : List V}, Reps K H ts vs → Reps K H' ts vs
  | [], vs, h => by unfold Reps at h ⊢; exact h
  | t :: ts, vs, h => by
    unfold Reps at h ⊢
    obtain ⟨v, ws, e1, q, r⟩ := h
    exact ⟨v, ws, e1, Rep.mono e q, Reps.mono e r⟩
end
theorem Reps.nil : Reps K H [] [] := by unfold Reps; rfl
theorem Reps.cons {t : Tm} {ts : List Tm} {v : V} {vs : List V} (h : Rep K H t v) (r : Reps K H ts vs) : Reps K H (t :: ts) (v :: vs) := by
  unfold Reps
  exact ⟨v, vs, rfl, h, r⟩
theorem Reps.one {t : Tm} {v : V} (h : Rep K H t v) : Reps K H [t] [v] := Reps.cons h Reps.nil
theorem Reps.cons_inv {t : Tm} {ts : List Tm} {vs : List V} (h : Reps K H (t :: ts) vs) : ∃ v ws, vs = v :: ws ∧ Rep K H t v ∧ Reps K H ts ws := by
  unfold Reps at h
  exact h
theorem Reps.nil_inv {vs : List V} (h : Reps K H [] vs) : vs = [] := by
  unfold Reps at h
  exact h
theorem Reps.len : ∀ {ts : List Tm} {vs : List V}, Reps K H ts vs → ts.length = vs.length
  | [], vs, h => by rw [h.nil_inv] <;> rfl
  | t :: ts, vs, h => by
    obtain ⟨v, ws, e, _, r⟩ := h.cons_inv
    rw [e, List.length_cons, List.length_cons, Reps.len r]
theorem Reps.app : ∀ {ts us : List Tm} {vs ws : List V}, Reps K H ts vs → Reps K H us ws → Reps K H (ts ++ us) (vs ++ ws)
  | [], us, vs, ws, h, r => by rw [h.nil_inv]; exact r
  | t :: ts, us, vs, ws, h, r => by
    obtain ⟨v, xs, e, q, s⟩ := h.cons_inv
    rw [e]
    exact Reps.cons q (Reps.app s r)
theorem Reps.app_inv : ∀ {ts us : List Tm} {vs : List V}, Reps K H (ts ++ us) vs → ∃ v1 v2, vs = v1 ++ v2 ∧ Reps K H ts v1 ∧ Reps K H us v2
  | [], us, vs, h => ⟨[], vs, rfl, Reps.nil, h⟩
  | t :: ts, us, vs, h => by
    obtain ⟨v, ws, e, q, r⟩ := Reps.cons_inv (ts := ts ++ us) h
    obtain ⟨v1, v2, e2, r1, r2⟩ := Reps.app_inv r
    exact ⟨v :: v1, v2, by rw [e, e2]; rfl, Reps.cons q r1, r2⟩
theorem Reps.rev : ∀ {ts : List Tm} {vs : List V}, Reps K H ts vs → Reps K H ts.reverse vs.reverse
  | [], vs, h => by rw [h.nil_inv]; exact Reps.nil
  | t :: ts, vs, h => by
    obtain ⟨v, ws, e, q, r⟩ := h.cons_inv
    rw [e, List.reverse_cons, List.reverse_cons]
    exact Reps.app (Reps.rev r) (Reps.one q)
theorem Reps.get : ∀ {ts : List Tm} {vs : List V} {i : Nat} {v : V}, Reps K H ts vs → vs[i]? = some v → ∃ t, ts[i]? = some t ∧ Rep K H t v
  | [], vs, i, v, h, e => by rw [h.nil_inv] at e; simp at e
  | t :: ts, vs, i, v, h, e => by
    obtain ⟨w, ws, e1, q, r⟩ := h.cons_inv
    rw [e1] at e
    cases i with
    | zero =>
      have : w = v := by simpa using e
      subst this
      exact ⟨t, rfl, q⟩
    | succ i =>
      obtain ⟨u, h1, h2⟩ := Reps.get (i := i) r (by simpa using e)
      exact ⟨u, by simpa using h1, h2⟩
/-- the last one -/
theorem Reps.last {ts : List Tm} {t : Tm} {vs : List V} (h : Reps K H (ts ++ [t]) vs) : ∃ ws v, vs = ws ++ [v] ∧ Reps K H ts ws ∧ Rep K H t v := by
  obtain ⟨v1, v2, e, r1, r2⟩ := h.app_inv
  obtain ⟨v, ws, e2, q, r⟩ := r2.cons_inv
  rw [r.nil_inv] at e2
  exact ⟨v1, v, by rw [e, e2], r1, q⟩
theorem Reps.take {ts : List Tm} {vs : List V} (h : Reps K H ts vs) (n : Nat) : Reps K H (ts.take n) (vs.take n) := by
  induction n generalizing ts vs with
  | zero => exact Reps.nil
  | succ n ih =>
    cases ts with
    | nil => rw [h.nil_inv]; exact Reps.nil
    | cons t ts =>
      obtain ⟨v, ws, e, q, r⟩ := h.cons_inv
      rw [e, List.take_succ_cons, List.take_succ_cons]
      exact Reps.cons q (ih r)
theorem Reps.drop {ts : List Tm} {vs : List V} (h : Reps K H ts vs) (n : Nat) : Reps K H (ts.drop n) (vs.drop n) := by
  induction n generalizing ts vs with
  | zero => exact h
  | succ n ih =>
    cases ts with
    | nil => rw [h.nil_inv]; exact Reps.nil
    | cons t ts =>
      obtain ⟨v, ws, e, q, r⟩ := h.cons_inv
      rw [e, List.drop_succ_cons, List.drop_succ_cons]
      exact ih r
end
end Hm

set_option Elab.async false
set_option linter.all false
set_option maxRecDepth 100000
set_option maxHeartbeats 4000000
namespace Hm
open PySem PySem.Spec PyProof.Rows L2 HT
/-- a def of the text as it stands behind the top -/
structure Df (K : PySem.W.Frag) (mg : Str → Option Value) (x : Str) (st : Stmt) (ps : List Str) (ds : List Value) (f : Addr) (fd : FuncData) : Prop where
  F : Fun K x x st f fd
  b : Binds K fd ps ds
  m : mg x = some (.ref f)
theorem cl {X : Cx} {x : Str} {f : Addr} {fd : FuncData} {ps : List Str} {sp : Sp} {j k : Nat} {st : Stmt} {e : Expr} {es : List Expr} {t : TA} {p pos : Pos} (G : FnOk X.prog X.w X.K X.mg X.base CX0 k f fd ps sp) (D : Df X.K X.mg x st ps [] f fd) (hr : Room j X.A) (ha : PA X (e :: es) t)
    (hj : k ≤ j := by first | decide | omega) (hg : Gl X x := by rfl) (hd : (x == ("__debug__" : Str)) = false := by decide) (hs : starEach (e :: es) X.env = (false, eval e X.env) :: starEach es X.env := by rfl) (hst : (backTo pos (starEach es X.env)).any (·.1) = false := by rfl) : PE X (.Call (.Name x p) (e :: es) [] pos) (tCall sp [] E0 t) :=
  pe_call G (hr.mono hj) hg D.m D.F.kp D.b .nil pass0 ha (hdb := hd) (he := hs) (hpl := hst)
/-- a def with default values -/
structure DfD (K : PySem.W.Frag) (mg : Str → Option Value) (x : Str) (st : Stmt) (ps : List Str) (dvs : List V) (f : Addr) (fd : FuncData) : Prop where
  F : FunD K x x (defArgs st) (defBody st) (defScope st) dvs [] f fd
  m : mg x = some (.ref f)
  b : ∃ ds, Vals dvs ds ∧ Binds K fd ps ds
theorem cld {X : Cx} {x : Str} {f : Addr} {fd : FuncData} {ps : List Str} {sp : Sp} {j k : Nat} {st : Stmt} {dvs : List V} {e : Expr} {es : List Expr} {t : TA} {p pos : Pos} (G : FnOk X.prog X.w X.K X.mg X.base CX0 k f fd ps sp) (D : DfD X.K X.mg x st ps dvs f fd) (hr : Room j X.A) (ha : PA X (e :: es) t)
    (hj : k ≤ j := by first | decide | omega) (hg : Gl X x := by rfl) (hd : (x == ("__debug__" : Str)) = false := by decide) (hs : starEach (e :: es) X.env = (false, eval e X.env) :: starEach es X.env := by rfl) (hst : (backTo pos (starEach es X.env)).any (·.1) = false := by rfl) : PE X (.Call (.Name x p) (e :: es) [] pos) (tCall sp dvs E0 t) := by
  obtain ⟨ds, hv, hb⟩ := D.b
  exact pe_call G (hr.mono hj) hg D.m D.F.kp hb hv pass0 ha (hdb := hd) (he := hs) (hpl := hst)
def top (i : Nat) : Stmt := PySem.Challenge.pw_hornmill_k01_terms_told.main.body.getD i (.Pass ⟨0, 0, 0, 0⟩)
abbrev s_is_integer : Stmt := top 8
theorem sc_is_integer : FnScope ["thing"] ["thing"] (defScope s_is_integer) := ⟨rfl, rfl, rfl, by decide +kernel, rfl, by decide +kernel, by decide +kernel⟩
abbrev s_is_sign : Stmt := top 9
theorem sc_is_sign : FnScope ["sign"] ["sign"] (defScope s_is_sign) := ⟨rfl, rfl, rfl, by decide +kernel, rfl, by decide +kernel, by decide +kernel⟩
abbrev s_is_atom : Stmt := top 10
theorem sc_is_atom : FnScope ["thing", "sign"] ["thing"] (defScope s_is_atom) := ⟨rfl, rfl, rfl, by decide +kernel, rfl, by decide +kernel, by decide +kernel⟩
abbrev s_is_number : Stmt := top 11
theorem sc_is_number : FnScope ["thing"] ["thing"] (defScope s_is_number) := ⟨rfl, rfl, rfl, by decide +kernel, rfl, by decide +kernel, by decide +kernel⟩
abbrev s_is_term : Stmt := top 12
theorem sc_is_term : FnScope ["thing", "waiting", "part"] ["thing"] (defScope s_is_term) := ⟨rfl, rfl, rfl, by decide +kernel, rfl, by decide +kernel, by decide +kernel⟩
abbrev s_is_part : Stmt := top 13
theorem sc_is_part : FnScope ["thing"] ["thing"] (defScope s_is_part) := ⟨rfl, rfl, rfl, by decide +kernel, rfl, by decide +kernel, by decide +kernel⟩
abbrev s_demand_term : Stmt := top 14
theorem sc_demand_term : FnScope ["term"] ["term"] (defScope s_demand_term) := ⟨rfl, rfl, rfl, by decide +kernel, rfl, by decide +kernel, by decide +kernel⟩
abbrev s_is_variable : Stmt := top 15
theorem sc_is_variable : FnScope ["part"] ["part"] (defScope s_is_variable) := ⟨rfl, rfl, rfl, by decide +kernel, rfl, by decide +kernel, by decide +kernel⟩
abbrev s_arguments_of : Stmt := top 16
theorem sc_arguments_of : FnScope ["part"] ["part"] (defScope s_arguments_of) := ⟨rfl, rfl, rfl, by decide +kernel, rfl, by decide +kernel, by decide +kernel⟩
abbrev s_parts_of : Stmt := top 17
theorem sc_parts_of : FnScope ["term", "found", "waiting", "part"] ["term"] (defScope s_parts_of) := ⟨rfl, rfl, rfl, by decide +kernel, rfl, by decide +kernel, by decide +kernel⟩
abbrev s_folded : Stmt := top 18
theorem sc_folded : FnScope ["row", "done", "what", "many", "inner"] ["row"] (defScope s_folded) := ⟨rfl, rfl, rfl, by decide +kernel, rfl, by decide +kernel, by decide +kernel⟩
abbrev s_replaced : Stmt := top 19
theorem sc_replaced : FnScope ["term", "table", "row", "part"] ["term", "table"] (defScope s_replaced) := ⟨rfl, rfl, rfl, by decide +kernel, rfl, by decide +kernel, by decide +kernel⟩
abbrev s_numbers_in : Stmt := top 20
theorem sc_numbers_in : FnScope ["term", "seen", "part"] ["term"] (defScope s_numbers_in) := ⟨rfl, rfl, rfl, by decide +kernel, rfl, by decide +kernel, by decide +kernel⟩
abbrev s_size_of : Stmt := top 21
theorem sc_size_of : FnScope ["term"] ["term"] (defScope s_size_of) := ⟨rfl, rfl, rfl, by decide +kernel, rfl, by decide +kernel, by decide +kernel⟩
abbrev s_depth_of : Stmt := top 22
theorem sc_depth_of : FnScope ["term", "depth", "layer", "part", "inner"] ["term"] (defScope s_depth_of) := ⟨rfl, rfl, rfl, by decide +kernel, rfl, by decide +kernel, by decide +kernel⟩
abbrev s_variables_of : Stmt := top 23
theorem sc_variables_of : FnScope ["term"] ["term"] (defScope s_variables_of) := ⟨rfl, rfl, rfl, by decide +kernel, rfl, by decide +kernel, by decide +kernel⟩
abbrev s_renumbered : Stmt := top 24
theorem sc_renumbered : FnScope ["term", "place", "k"] ["term"] (defScope s_renumbered) := ⟨rfl, rfl, rfl, by decide +kernel, rfl, by decide +kernel, by decide +kernel⟩
abbrev s_law_cell_at : Stmt := top 26
theorem sc_law_cell_at : FnScope ["_law_script", "_law_k"] ["_law_script", "_law_k"] (defScope s_law_cell_at) := ⟨rfl, rfl, rfl, by decide +kernel, rfl, by decide +kernel, by decide +kernel⟩
abbrev s_law_well : Stmt := top 27
theorem sc_law_well : FnScope ["_law_cell"] ["_law_cell"] (defScope s_law_well) := ⟨rfl, rfl, rfl, by decide +kernel, rfl, by decide +kernel, by decide +kernel⟩
abbrev s_law_draw : Stmt := top 28
theorem sc_law_draw : FnScope ["_law_well_here", "_law_many", "_law_digit", "_law_mixed"] ["_law_well_here", "_law_many"] (defScope s_law_draw) := ⟨rfl, rfl, rfl, by decide +kernel, rfl, by decide +kernel, by decide +kernel⟩
abbrev s_law_one : Stmt := top 29
theorem sc_law_one : FnScope ["_law_well_here", "_law_some"] ["_law_well_here", "_law_some"] (defScope s_law_one) := ⟨rfl, rfl, rfl, by decide +kernel, rfl, by decide +kernel, by decide +kernel⟩
abbrev s_law_leaf : Stmt := top 30
theorem sc_law_leaf : FnScope ["_law_well_here", "_law_many", "_law_way", "_law_great"] ["_law_well_here", "_law_many"] (defScope s_law_leaf) := ⟨rfl, rfl, rfl, by decide +kernel, rfl, by decide +kernel, by decide +kernel⟩
abbrev s_law_term : Stmt := top 31
theorem sc_law_term : FnScope ["_law_well_here", "_law_deep", "_law_many", "_law_some", "_law_name", "_law_arity", "_law_k"] ["_law_well_here", "_law_deep", "_law_many"] (defScope s_law_term) := ⟨rfl, rfl, rfl, by decide +kernel, rfl, by decide +kernel, by decide +kernel⟩
abbrev s_law_is_variable : Stmt := top 32
theorem sc_law_is_variable : FnScope ["_law_term_here"] ["_law_term_here"] (defScope s_law_is_variable) := ⟨rfl, rfl, rfl, by decide +kernel, rfl, by decide +kernel, by decide +kernel⟩
abbrev s_law_is_compound : Stmt := top 33
theorem sc_law_is_compound : FnScope ["_law_term_here"] ["_law_term_here"] (defScope s_law_is_compound) := ⟨rfl, rfl, rfl, by decide +kernel, rfl, by decide +kernel, by decide +kernel⟩
abbrev s_law_parts : Stmt := top 34
theorem sc_law_parts : FnScope ["_law_term_here", "_law_found", "_law_part"] ["_law_term_here"] (defScope s_law_parts) := ⟨rfl, rfl, rfl, by decide +kernel, rfl, by decide +kernel, by decide +kernel⟩
abbrev s_law_numbers : Stmt := top 35
theorem sc_law_numbers : FnScope ["_law_term_here", "_law_found", "_law_part"] ["_law_term_here"] (defScope s_law_numbers) := ⟨rfl, rfl, rfl, by decide +kernel, rfl, by decide +kernel, by decide +kernel⟩
abbrev s_law_put : Stmt := top 36
theorem sc_law_put : FnScope ["_law_term_here", "_law_table", "_law_part"] ["_law_term_here", "_law_table"] (defScope s_law_put) := ⟨rfl, rfl, rfl, by decide +kernel, rfl, by decide +kernel, by decide +kernel⟩
abbrev s_law_anew : Stmt := top 37
theorem sc_law_anew : FnScope ["_law_term_here", "_law_first", "_law_at", "_law_number"] ["_law_term_here", "_law_first"] (defScope s_law_anew) := ⟨rfl, rfl, rfl, by decide +kernel, rfl, by decide +kernel, by decide +kernel⟩
abbrev s_law_depth : Stmt := top 38
theorem sc_law_depth : FnScope ["_law_term_here", "_law_part"] ["_law_term_here"] (defScope s_law_depth) := ⟨rfl, rfl, rfl, by decide +kernel, rfl, by decide +kernel, by decide +kernel⟩
abbrev s_law_list_right : Stmt := top 39
theorem sc_law_list_right : FnScope ["_law_well_here", "_law_many", "_law_spread", "_law_rest", "_law_found", "_law_back", "_law_due", "_law_k", "_law_number"] ["_law_well_here"] (defScope s_law_list_right) := ⟨rfl, rfl, rfl, by decide +kernel, rfl, by decide +kernel, by decide +kernel⟩
abbrev s_law_right : Stmt := top 40
theorem sc_law_right : FnScope ["_law_well_here", "_law_spread", "_law_term_here", "_law_due", "_law_k"] ["_law_well_here"] (defScope s_law_right) := ⟨rfl, rfl, rfl, by decide +kernel, rfl, by decide +kernel, by decide +kernel⟩
abbrev s_law : Stmt := top 41
theorem sc_law : FnScope ["_law_script", "_law_k"] ["_law_script"] (defScope s_law) := ⟨rfl, rfl, rfl, by decide +kernel, rfl, by decide +kernel, by decide +kernel⟩
structure Tx (K : PySem.W.Frag) (mg : Str → Option Value) where
  f_is_integer : Addr
  d_is_integer : FuncData
  h_is_integer : Df K mg "is_integer" s_is_integer ["thing"] [] f_is_integer d_is_integer
  f_is_sign : Addr
  d_is_sign : FuncData
  h_is_sign : Df K mg "is_sign" s_is_sign ["sign"] [] f_is_sign d_is_sign
  f_is_atom : Addr
  d_is_atom : FuncData
  h_is_atom : Df K mg "is_atom" s_is_atom ["thing"] [] f_is_atom d_is_atom
  f_is_number : Addr
  d_is_number : FuncData
  h_is_number : Df K mg "is_number" s_is_number ["thing"] [] f_is_number d_is_number
  f_is_term : Addr
  d_is_term : FuncData
  h_is_term : Df K mg "is_term" s_is_term ["thing"] [] f_is_term d_is_term
  f_is_part : Addr
  d_is_part : FuncData
  h_is_part : Df K mg "_is_part" s_is_part ["thing"] [] f_is_part d_is_part
  f_demand_term : Addr
  d_demand_term : FuncData
  h_demand_term : Df K mg "demand_term" s_demand_term ["term"] [] f_demand_term d_demand_term
  f_is_variable : Addr
  d_is_variable : FuncData
  h_is_variable : Df K mg "is_variable" s_is_variable ["part"] [] f_is_variable d_is_variable
  f_arguments_of : Addr
  d_arguments_of : FuncData
  h_arguments_of : Df K mg "arguments_of" s_arguments_of ["part"] [] f_arguments_of d_arguments_of
  f_parts_of : Addr
  d_parts_of : FuncData
  h_parts_of : Df K mg "parts_of" s_parts_of ["term"] [] f_parts_of d_parts_of
  f_folded : Addr
  d_folded : FuncData
  h_folded : Df K mg "folded" s_folded ["row"] [] f_folded d_folded
  f_replaced : Addr
  d_replaced : FuncData
  h_replaced : Df K mg "replaced" s_replaced ["term", "table"] [] f_replaced d_replaced
  f_numbers_in : Addr
  d_numbers_in : FuncData
  h_numbers_in : Df K mg "numbers_in" s_numbers_in ["term"] [] f_numbers_in d_numbers_in
  f_size_of : Addr
  d_size_of : FuncData
  h_size_of : Df K mg "size_of" s_size_of ["term"] [] f_size_of d_size_of
  f_depth_of : Addr
  d_depth_of : FuncData
  h_depth_of : Df K mg "depth_of" s_depth_of ["term"] [] f_depth_of d_depth_of
  f_variables_of : Addr
  d_variables_of : FuncData
  h_variables_of : Df K mg "variables_of" s_variables_of ["term"] [] f_variables_of d_variables_of
  f_renumbered : Addr
  d_renumbered : FuncData
  h_renumbered : Df K mg "renumbered" s_renumbered ["term"] [] f_renumbered d_renumbered
  f_law_cell_at : Addr
  d_law_cell_at : FuncData
  h_law_cell_at : Df K mg "_law_cell_at" s_law_cell_at ["_law_script", "_law_k"] [] f_law_cell_at d_law_cell_at
  f_law_well : Addr
  d_law_well : FuncData
  h_law_well : Df K mg "_law_well" s_law_well ["_law_cell"] [] f_law_well d_law_well
  f_law_draw : Addr
  d_law_draw : FuncData
  h_law_draw : Df K mg "_law_draw" s_law_draw ["_law_well_here", "_law_many"] [] f_law_draw d_law_draw
  f_law_one : Addr
  d_law_one : FuncData
  h_law_one : Df K mg "_law_one" s_law_one ["_law_well_here", "_law_some"] [] f_law_one d_law_one
  f_law_leaf : Addr
  d_law_leaf : FuncData
  h_law_leaf : Df K mg "_law_leaf" s_law_leaf ["_law_well_here", "_law_many"] [] f_law_leaf d_law_leaf
  f_law_term : Addr
  d_law_term : FuncData
  h_law_term : Df K mg "_law_term" s_law_term ["_law_well_here", "_law_deep", "_law_many"] [] f_law_term d_law_term
  f_law_is_variable : Addr
  d_law_is_variable : FuncData
  h_law_is_variable : Df K mg "_law_is_variable" s_law_is_variable ["_law_term_here"] [] f_law_is_variable d_law_is_variable
  f_law_is_compound : Addr
  d_law_is_compound : FuncData
  h_law_is_compound : Df K mg "_law_is_compound" s_law_is_compound ["_law_term_here"] [] f_law_is_compound d_law_is_compound
  f_law_parts : Addr
  d_law_parts : FuncData
  h_law_parts : Df K mg "_law_parts" s_law_parts ["_law_term_here"] [] f_law_parts d_law_parts
  f_law_numbers : Addr
  d_law_numbers : FuncData
  h_law_numbers : Df K mg "_law_numbers" s_law_numbers ["_law_term_here"] [] f_law_numbers d_law_numbers
  f_law_put : Addr
  d_law_put : FuncData
  h_law_put : Df K mg "_law_put" s_law_put ["_law_term_here", "_law_table"] [] f_law_put d_law_put
  f_law_anew : Addr
  d_law_anew : FuncData
  h_law_anew : DfD K mg "_law_anew" s_law_anew ["_law_term_here", "_law_first"] [.int 0] f_law_anew d_law_anew
  f_law_depth : Addr
  d_law_depth : FuncData
  h_law_depth : Df K mg "_law_depth" s_law_depth ["_law_term_here"] [] f_law_depth d_law_depth
  f_law_list_right : Addr
  d_law_list_right : FuncData
  h_law_list_right : Df K mg "_law_list_right" s_law_list_right ["_law_well_here"] [] f_law_list_right d_law_list_right
  f_law_right : Addr
  d_law_right : FuncData
  h_law_right : Df K mg "_law_right" s_law_right ["_law_well_here"] [] f_law_right d_law_right
  f_law : Addr
  d_law : FuncData
  h_law : Df K mg "law" s_law ["_law_script"] [] f_law d_law
  c_MOST_SIGNS : ∃ t, mg "MOST_SIGNS" = some (.int 40 t)
  c_MOST_ARGUMENTS : ∃ t, mg "MOST_ARGUMENTS" = some (.int 8 t)
  c_BARRED_SIGN : ∃ t, mg "BARRED_SIGN" = some (.int 37 t)
  c_TOO_GREAT : ∃ t, mg "TOO_GREAT" = some (.int tooGreat t)
  b_isinstance : mg "isinstance" = none
  b_int : mg "int" = none
  b_bool : mg "bool" = none
  b_str : mg "str" = none
  b_tuple : mg "tuple" = none
  b_len : mg "len" = none
  b_all : mg "all" = none
  b_ord : mg "ord" = none
  b_list : mg "list" = none
  b_reversed : mg "reversed" = none
  b_enumerate : mg "enumerate" = none
  b_dict : mg "dict" = none
  b_range : mg "range" = none
  b_max : mg "max" = none
  b_min : mg "min" = none
  b_abs : mg "abs" = none
end Hm

set_option Elab.async false
set_option linter.all false
set_option maxRecDepth 100000
set_option maxHeartbeats 4000000
namespace Hm
open PySem PySem.Spec PyProof.Rows L2 HT
open Evl (Ex)
section
variable {P : Program} {w : World} {K : PySem.W.Frag} {mg : Str → Option Value} {base : Heap}
theorem tk_succ {α β : Type} {l : List α} {i : Nat} {x : α} (f : α → β) (h : l[i]? = some x) : (l.take (i + 1)).map f = (l.take i).map f ++ [f x] := by
  rw [List.take_add_one, h]
  simp
theorem yesI {σ : L2.St} {H : Hp} {A B : Hp → Prop} (h : A H) : tYes σ H (fun b H3 => if b = true then A H3 else B H3) := by
  show (if true = true then A H else B H)
  exact iteT h
theorem small5 {n : Nat} (h : n ≤ 100000) : n ≤ sizeLine := Nat.le_trans h (by decide)
theorem small5' {n : Nat} (h : n ≤ 100000) : n < sizeLine := Nat.lt_of_le_of_lt h (by decide)
theorem tyx_tup {H : Hp} {a : Addr} {xs : List V} (h : SqT K H a xs) : TyX K H (.ref a) (.type "tuple") := by
  rcases h with (h | ⟨o, h⟩) | ⟨o, its, n, h1, h2, _⟩
  · exact .base (.tup h)
  · exact .fTuple h
  · exact .kTuple h1 h2
theorem cut1 (x : V) (vs : List V) : cutV (x :: vs) (some 1) none = vs := by
  unfold cutV
  have e : sIx (x :: vs).length 0 (some 1) = 1 := by
    show (if (1 : Int) < 0 then ((1 : Int) + ((x :: vs).length : Int)).toNat else min (1 : Int).toNat (x :: vs).length) = 1
    rw [if_neg (by decide), List.length_cons]
    show min 1 (vs.length + 1) = 1
    omega
  rw [e, sIx_none]
  show (vs.take ((x :: vs).length - 1)) = vs
  rw [List.length_cons]
  exact List.take_of_length_le (by omega)
theorem cut1_ne (x : V) (vs : List V) : ¬ (sIx (x :: vs).length 0 (some 1) = 0 ∧ sIx (x :: vs).length (x :: vs).length none = (x :: vs).length) := by
  intro h
  have e : sIx (x :: vs).length 0 (some 1) = 1 := by
    show (if (1 : Int) < 0 then ((1 : Int) + ((x :: vs).length : Int)).toNat else min (1 : Int).toNat (x :: vs).length) = 1
    rw [if_neg (by decide), List.length_cons]
    show min 1 (vs.length + 1) = 1
    omega
  rw [e] at h
  exact absurd h.1 (by decide)

/-! ### is_integer, of an int -/
def spInt : Sp := fun vs H Q _ => ∃ i, vs = [.int i] ∧ Q (.bl true) H
theorem ok_is_integer (T : Tx K mg) : FnOk P w K mg base CX0 1 T.f_is_integer T.d_is_integer ["thing"] spInt := by
  refine T.h_is_integer.F.ok sc_is_integer (fun vs H Q E h => ?_) (fun cdv A outer s H vs Q E hr h => ?_)
  · obtain ⟨i, rfl, _⟩ := h
    rfl
  obtain ⟨i, rfl, q⟩ := h
  refine ⟨_, (pss_one (ps_ret (pe_and (pe_callB call_isi rfl T.b_isinstance (by decide +kernel) (pa_cons (pv 0) (pa_cons (pe_bltn (v := .ty "int") (u := .type "int") rfl T.b_int (by decide +kernel) rfl) pa_nil))) (pe_one (pe_not (pe_callB call_isi rfl T.b_isinstance (by decide +kernel) (pa_cons (pv 0) (pa_cons (pe_bltn (v := .ty "bool") (u := .type "bool") rfl T.b_bool (by decide +kernel) rfl) pa_nil)))))))), ?_⟩
  refine ⟨_, rfl, _, _, _, _, true, rfl, .ty "int", .base (.int i), kit_ty (by decide +kernel), true, rfl, iteT ?_⟩
  exact ⟨_, rfl, _, _, _, _, false, rfl, .ty "bool", .base (.int i), kit_ty (by decide +kernel), false, rfl, q⟩

/-! ### is_sign, of one sign -/
def signOk (c : Nat) : Bool := decide (32 ≤ c ∧ c ≤ 126 ∧ c ≠ 37)
def spSign : Sp := fun vs H Q _ => ∃ c : Nat, vs = [.str ⟨#[c]⟩] ∧ Q (.bl (signOk c)) H
theorem one_lt {a b : Nat} : (([a] : List Nat) < [b]) ↔ a < b := by
  constructor
  · intro h
    cases h with
    | rel h => exact h
    | cons h => cases h
  · intro h
    exact List.Lex.rel h
theorem ok_is_sign (T : Tx K mg) : FnOk P w K mg base CX0 1 T.f_is_sign T.d_is_sign ["sign"] spSign := by
  refine T.h_is_sign.F.ok sc_is_sign (fun vs H Q E h => ?_) (fun cdv A outer s H vs Q E hr h => ?_)
  · obtain ⟨c, rfl, _⟩ := h
    rfl
  obtain ⟨c, rfl, q⟩ := h
  obtain ⟨tk, hc_BARRED_SIGN⟩ := T.c_BARRED_SIGN
  refine ⟨_, (pss_one (ps_ret (pe_and (pe_chain op_le_str op_le_str pe_str (pv 0) pe_str) (pe_one (pe_cmpR op_ne (pe_callB call_ord rfl T.b_ord (by decide +kernel) (pa_cons (pv 0) pa_nil)) (pe_glob (v := .int 37) rfl hc_BARRED_SIGN ⟨_, rfl⟩) (nomark _)))))), ?_⟩
  refine ⟨_, rfl, _, _, rfl, rfl, _, rfl, ?_⟩
  have e1 : (!decide ((⟨#[c]⟩ : Str).cps.toList < (" " : Str).cps.toList)) = decide (32 ≤ c) := by
    show (!decide (([c] : List Nat) < [32])) = _
    by_cases h : c < 32
    · rw [decide_eq_true (one_lt.mpr h), decide_eq_false (by omega)]
      rfl
    · rw [decide_eq_false (fun z => h (one_lt.mp z)), decide_eq_true (by omega)]
      rfl
  have e2 : (!decide (("~" : Str).cps.toList < (⟨#[c]⟩ : Str).cps.toList)) = decide (c ≤ 126) := by
    show (!decide (([126] : List Nat) < [c])) = _
    by_cases h : 126 < c
    · rw [decide_eq_true (one_lt.mpr h), decide_eq_false (by omega)]
      rfl
    · rw [decide_eq_false (fun z => h (one_lt.mp z)), decide_eq_true (by omega)]
      rfl
  rw [e1]
  by_cases h1 : 32 ≤ c
  · rw [decide_eq_true h1]
    refine iteT ⟨_, _, rfl, rfl, _, rfl, ?_⟩
    rw [e2]
    by_cases h2 : c ≤ 126
    · rw [decide_eq_true h2]
      refine iteT ⟨_, rfl, _, rfl, rfl, rfl, ?_⟩
      have e3 : (!decide (V.int (((#[c] : Array Nat).getD 0 0 : Nat) : Int) = V.int 37)) = signOk c := by
        show (!decide (V.int (c : Int) = V.int 37)) = _
        unfold signOk
        by_cases h3 : c = 37
        · subst h3
          decide
        · rw [decide_eq_false (by intro z; injection z with z; omega), decide_eq_true ⟨h1, h2, h3⟩]
          rfl
      exact e3 ▸ q
    · rw [decide_eq_false h2]
      refine iteF ?_
      have : signOk c = false := decide_eq_false (fun z => h2 z.2.1)
      exact this ▸ q
  · rw [decide_eq_false h1]
    refine iteF ⟨_, rfl, iteF ?_⟩
    have : signOk c = false := decide_eq_false (fun z => h1 z.1)
    exact this ▸ q

/-! ### is_atom, of an atom or an int -/
def spAtom : Sp := fun vs H Q _ => ∃ x, vs = [x] ∧ ((∃ s, x = .str s ∧ AtomOk s ∧ ∀ H', Ex H H' → Q (.bl true) H') ∨ (∃ i, x = .int i ∧ Q (.bl false) H))
theorem ok_is_atom (T : Tx K mg) : FnOk P w K mg base CX0 2 T.f_is_atom T.d_is_atom ["thing"] spAtom := by
  refine T.h_is_atom.F.ok sc_is_atom (fun vs H Q E h => ?_) (fun cdv A outer s H vs Q E hr h => ?_)
  · obtain ⟨x, rfl, _⟩ := h
    rfl
  obtain ⟨x, rfl, h⟩ := h
  obtain ⟨tk, hc_MOST_SIGNS⟩ := T.c_MOST_SIGNS
  refine ⟨_, (pss_one (ps_ret (pe_and (pe_callB call_isi rfl T.b_isinstance (by decide +kernel) (pa_cons (pv 0) (pa_cons (pe_bltn (v := .ty "str") (u := .type "str") rfl T.b_str (by decide +kernel) rfl) pa_nil))) (pe_and (pe_cmpR op_le (pe_callB call_len_str rfl T.b_len (by decide +kernel) (pa_cons (pv 0) pa_nil)) (pe_glob (v := .int 40) rfl hc_MOST_SIGNS ⟨_, rfl⟩) (nomark _)) (pe_one (pe_callB (cr_all rfl) rfl T.b_all (by decide +kernel) (pa_cons (pe_lc (own := [("sign", 1)]) (g := gName 1) rfl sc_is_atom.nd (pi_str (pv 0)) (blkOk_by (own := [("sign", 1)]) (N := ["thing", "sign"]) (sc := defScope s_is_atom) (by decide +kernel)) (fun _ _ _ _ _ => pg_name (i := 1) sc_is_atom.nd rfl (Or.inl rfl)) (fun _ _ _ _ _ => pts_nil) (fun _ _ _ _ _ => (cl (ok_is_sign T) T.h_is_sign hr (pa_cons (pv 1) pa_nil)))) pa_nil))))))), ?_⟩
  rcases h with ⟨z, rfl, ⟨hz, hc⟩, q⟩ | ⟨i, rfl, q⟩
  · refine ⟨_, rfl, _, _, _, _, true, rfl, .ty "str", .base (.str z), kit_ty (by decide +kernel), true, rfl, iteT ?_⟩
    have hl : z.length ≤ 40 := hz
    refine ⟨_, rfl, z, rfl, small5 (by omega), _, _, rfl, rfl, _, rfl, ?_⟩
    rw [decide_eq_true (show ((z.length : Nat) : Int) ≤ 40 by omega)]
    refine iteT ⟨_, rfl, z, rfl, fun D hD => lc_it walk_str (fun i H' => Ex H H' ∧ H' D = some (.lst ((z.cps.toList.take i).map fun c => V.bl (signOk c)))) ⟨Ex.new hD, upd_same⟩ (fun _ _ _ _ => trivial) ?_ ?_⟩
    · rintro i x H1 H2 hi ⟨e1, hL⟩ ⟨rfl, c, hc', rfl⟩
      refine ⟨rfl, yesI ⟨_, rfl, c, rfl, _, hL, ?_, Ex.mut e1 hD, ?_⟩⟩
      · rw [List.length_map, List.length_take]
        exact small5' (by omega)
      · rw [upd_same, tk_succ (x := c)]
        rw [← hc', Array.getElem?_toList]
    · rintro H1 ⟨e1, hL⟩
      refine ⟨D, z.cps.toList.map signOk, rfl, SqL.of ?_, ?_⟩
      · rw [hL, List.take_of_length_le (by simp), List.map_map]
        rfl
      · have : (z.cps.toList.map signOk).all id = true := by
          rw [List.all_map, List.all_eq_true]
          intro c hm
          exact decide_eq_true (hc c hm)
        rw [this]
        exact q _ e1
  · refine ⟨_, rfl, _, _, _, _, false, rfl, .ty "str", .base (.int i), kit_ty (by decide +kernel), false, rfl, iteF q⟩

/-! ### is_number, of an int from 0 on -/
def spNum : Sp := fun vs H Q _ => ∃ i : Int, vs = [.int i] ∧ 0 ≤ i ∧ Q (.bl true) H
theorem ok_is_number (T : Tx K mg) : FnOk P w K mg base CX0 2 T.f_is_number T.d_is_number ["thing"] spNum := by
  refine T.h_is_number.F.ok sc_is_number (fun vs H Q E h => ?_) (fun cdv A outer s H vs Q E hr h => ?_)
  · obtain ⟨x, rfl, _⟩ := h
    rfl
  obtain ⟨i, rfl, h0, q⟩ := h
  refine ⟨_, (pss_one (ps_ret (pe_and (cl (ok_is_integer T) T.h_is_integer hr (pa_cons (pv 0) pa_nil)) (pe_one (pe_cmpR op_ge (pv 0) pe_int (nomark _)))))), ?_⟩
  refine ⟨_, rfl, i, rfl, true, rfl, iteT ⟨_, rfl, _, _, rfl, rfl, ?_⟩⟩
  show Q (.bl (decide ((0 : Int) ≤ i))) H
  rw [decide_eq_true h0]
  exact q

/-! ### arguments_of, of a term -/
def spArgs (K : PySem.W.Frag) : Sp := fun vs H Q _ => ∃ v t, vs = [v] ∧ Rep K H t v ∧ ∀ p ws H', H p = none → Ex H H' → H' p = some (.tup ws) → Reps K H' t.args ws → Q (.ref p) H'
theorem ok_arguments_of (T : Tx K mg) : FnOk P w K mg base CX0 1 T.f_arguments_of T.d_arguments_of ["part"] (spArgs K) := by
  refine T.h_arguments_of.F.ok sc_arguments_of (fun vs H Q E h => ?_) (fun cdv A outer s H vs Q E hr h => ?_)
  · obtain ⟨v, t, rfl, _⟩ := h
    rfl
  obtain ⟨v, t, rfl, hR, q⟩ := h
  refine ⟨_, (pss_one (ps_ret (pe_ifExp (pt_val (pe_callB call_isi rfl T.b_isinstance (by decide +kernel) (pa_cons (pv 0) (pa_cons (pe_bltn (v := .ty "tuple") (u := .type "tuple") rfl T.b_tuple (by decide +kernel) rfl) pa_nil)))) (pe_slice sl_tup (pv 0) (po_some pe_int) po_none) (pe_tup pa_nil)))), ?_⟩
  cases t with
  | var k =>
    unfold Rep at hR
    obtain ⟨a, rfl, hT⟩ := hR
    refine ⟨_, rfl, _, _, _, _, true, rfl, .ty "tuple", tyx_tup hT, kit_ty (by decide +kernel), true, rfl, iteT ?_⟩
    refine ⟨_, rfl, _, rfl, a, _, rfl, hT, cut1_ne _ _, fun p hp => ?_⟩
    rw [cut1]
    exact q p _ _ hp (Ex.new hp) upd_same Reps.nil
  | int i =>
    unfold Rep at hR
    subst hR
    refine ⟨_, rfl, _, _, _, _, false, rfl, .ty "tuple", .base (.int i), kit_ty (by decide +kernel), false, rfl, iteF ?_⟩
    exact ⟨Nat.zero_le _, fun p hp => q p _ _ hp (Ex.new hp) upd_same Reps.nil⟩
  | atom z =>
    unfold Rep at hR
    subst hR
    refine ⟨_, rfl, _, _, _, _, false, rfl, .ty "tuple", .base (.str z), kit_ty (by decide +kernel), false, rfl, iteF ?_⟩
    exact ⟨Nat.zero_le _, fun p hp => q p _ _ hp (Ex.new hp) upd_same Reps.nil⟩
  | comp f as =>
    unfold Rep at hR
    obtain ⟨a, ws, rfl, hT, hA⟩ := hR
    refine ⟨_, rfl, _, _, _, _, true, rfl, .ty "tuple", tyx_tup hT, kit_ty (by decide +kernel), true, rfl, iteT ?_⟩
    refine ⟨_, rfl, _, rfl, a, _, rfl, hT, cut1_ne _ _, fun p hp => ?_⟩
    rw [cut1]
    exact q p ws _ hp (Ex.new hp) upd_same (hA.mono (Tups.of (Ex.new hp)))

/-! ### is_variable, of a term -/
def isVar : Tm → Bool
  | .var _ => true
  | _ => false
def spIsVar (K : PySem.W.Frag) : Sp := fun vs H Q _ => ∃ v t, vs = [v] ∧ Rep K H t v ∧ Ok t ∧ Q (.bl (isVar t)) H
theorem dec_len {n m : Nat} : decide (V.int (n : Int) = V.int (m : Int)) = decide (n = m) := by
  by_cases h : n = m
  · subst h
    simp
  · rw [decide_eq_false h, decide_eq_false]
    intro z
    injection z with z
    omega
theorem ok_is_variable (T : Tx K mg) : FnOk P w K mg base CX0 1 T.f_is_variable T.d_is_variable ["part"] (spIsVar K) := by
  refine T.h_is_variable.F.ok sc_is_variable (fun vs H Q E h => ?_) (fun cdv A outer s H vs Q E hr h => ?_)
  · obtain ⟨v, t, rfl, _⟩ := h
    rfl
  obtain ⟨v, t, rfl, hR, hO, q⟩ := h
  refine ⟨_, (pss_one (ps_ret (pe_and (pe_callB call_isi rfl T.b_isinstance (by decide +kernel) (pa_cons (pv 0) (pa_cons (pe_bltn (v := .ty "tuple") (u := .type "tuple") rfl T.b_tuple (by decide +kernel) rfl) pa_nil))) (pe_one (pe_cmpR op_eq (pe_callB call_len_seq rfl T.b_len (by decide +kernel) (pa_cons (pv 0) pa_nil)) pe_int (nomark _)))))), ?_⟩
  cases t with
  | var k =>
    unfold Rep at hR
    obtain ⟨a, rfl, hT⟩ := hR
    refine ⟨_, rfl, _, _, _, _, true, rfl, .ty "tuple", tyx_tup hT, kit_ty (by decide +kernel), true, rfl, iteT ?_⟩
    exact ⟨_, rfl, a, _, rfl, .inr hT, rfl, q⟩
  | int i =>
    unfold Rep at hR
    subst hR
    exact ⟨_, rfl, _, _, _, _, false, rfl, .ty "tuple", .base (.int i), kit_ty (by decide +kernel), false, rfl, iteF q⟩
  | atom z =>
    unfold Rep at hR
    subst hR
    exact ⟨_, rfl, _, _, _, _, false, rfl, .ty "tuple", .base (.str z), kit_ty (by decide +kernel), false, rfl, iteF q⟩
  | comp f as =>
    unfold Rep at hR
    obtain ⟨a, ws, rfl, hT, hA⟩ := hR
    refine ⟨_, rfl, _, _, _, _, true, rfl, .ty "tuple", tyx_tup hT, kit_ty (by decide +kernel), true, rfl, iteT ?_⟩
    refine ⟨_, rfl, a, _, rfl, .inr hT, rfl, ?_⟩
    have hl := hA.len
    unfold Ok at hO
    have e : decide (V.int (((V.str f :: ws).length : Nat) : Int) = V.int 1) = false := by
      rw [show (V.int 1) = V.int ((1 : Nat) : Int) from rfl, dec_len, decide_eq_false]
      rw [List.length_cons]
      omega
    rw [e]
    exact q
end
end Hm

set_option Elab.async false
set_option linter.all false
set_option maxRecDepth 100000
set_option maxHeartbeats 4000000
namespace Hm
open PySem PySem.Spec PyProof.Rows L2 HT
open Evl (Ex)
section
variable {P : Program} {w : World} {K : PySem.W.Frag} {mg : Str → Option Value} {base : Heap}

theorem at0 {α : Type} {x : α} {xs : List α} : atI (x :: xs) 0 = some x := atI_nat (j := 0) rfl
/-! ### _is_part, of a term -/
def spPart (K : PySem.W.Frag) : Sp := fun vs H Q _ => ∃ v t, vs = [v] ∧ Rep K H t v ∧ Ok t ∧ ∀ H', Ex H H' → Q (.bl true) H'
theorem ok_is_part (T : Tx K mg) : FnOk P w K mg base CX0 3 T.f_is_part T.d_is_part ["thing"] (spPart K) := by
  refine T.h_is_part.F.ok sc_is_part (fun vs H Q E h => ?_) (fun cdv A outer s H vs Q E hr h => ?_)
  · obtain ⟨v, t, rfl, _⟩ := h
    rfl
  obtain ⟨v, t, rfl, hR, hO, q⟩ := h
  obtain ⟨tk, hc_TOO_GREAT⟩ := T.c_TOO_GREAT
  obtain ⟨tk2, hc_MOST_ARGUMENTS⟩ := T.c_MOST_ARGUMENTS
  refine ⟨_, (pss_cons (ps_if (pt_not (pt_val (pe_callB call_isi rfl T.b_isinstance (by decide +kernel) (pa_cons (pv 0) (pa_cons (pe_bltn (v := .ty "tuple") (u := .type "tuple") rfl T.b_tuple (by decide +kernel) rfl) pa_nil)))))
      (pss_one (ps_ret (pe_or (cl (ok_is_atom T) T.h_is_atom hr (pa_cons (pv 0) pa_nil)) (pe_one (pe_and (cl (ok_is_integer T) T.h_is_integer hr (pa_cons (pv 0) pa_nil)) (pe_one (pe_chain op_lt op_lt (pe_un un_neg (pe_glob (v := .int tooGreat) rfl hc_TOO_GREAT ⟨_, rfl⟩)) (pv 0) (pe_glob (v := .int tooGreat) rfl hc_TOO_GREAT ⟨_, rfl⟩))))))))
      pss_nil)
    (pss_cons (ps_if (pt_cmpR op_eq (pe_callB call_len_seq rfl T.b_len (by decide +kernel) (pa_cons (pv 0) pa_nil)) pe_int (nomark _))
      (pss_one (ps_ret (cl (ok_is_number T) T.h_is_number hr (pa_cons (pe_ix ix_tup (pv 0) pe_int (fun _ _ => rfl)) pa_nil))))
      pss_nil)
    (pss_one (ps_ret (pe_and (pe_chain op_le op_le pe_int (pe_callB call_len_seq rfl T.b_len (by decide +kernel) (pa_cons (pv 0) pa_nil)) (pe_op op_add (pe_glob (v := .int 8) rfl hc_MOST_ARGUMENTS ⟨_, rfl⟩) pe_int)) (pe_one (cl (ok_is_atom T) T.h_is_atom hr (pa_cons (pe_ix ix_tup (pv 0) pe_int (fun _ _ => rfl)) pa_nil)))))))), ?_⟩
  cases t with
  | var k =>
    unfold Rep at hR
    obtain ⟨a, rfl, hT⟩ := hR
    unfold Ok at hO
    refine ⟨_, rfl, _, _, _, _, true, rfl, .ty "tuple", tyx_tup hT, kit_ty (by decide +kernel), true, rfl, iteF ?_⟩
    refine ⟨_, rfl, a, _, rfl, .inr hT, rfl, _, rfl, iteT ?_⟩
    exact ⟨_, rfl, a, _, 0, _, rfl, rfl, hT, rfl, k, rfl, hO, q _ (Ex.refl _)⟩
  | int i =>
    unfold Rep at hR
    subst hR
    unfold Ok at hO
    refine ⟨_, rfl, _, _, _, _, false, rfl, .ty "tuple", .base (.int i), kit_ty (by decide +kernel), false, rfl, iteT ?_⟩
    refine ⟨_, rfl, _, rfl, .inr ⟨i, rfl, false, rfl, iteF ?_⟩⟩
    refine ⟨_, rfl, i, rfl, true, rfl, iteT ?_⟩
    refine ⟨tooGreat, rfl, _, rfl, _, _, rfl, rfl, _, rfl, ?_⟩
    rw [decide_eq_true hO.1]
    refine iteT ⟨_, _, rfl, rfl, ?_⟩
    show Q (.bl (decide (i < tooGreat))) H
    rw [decide_eq_true hO.2]
    exact q _ (Ex.refl _)
  | atom z =>
    unfold Rep at hR
    subst hR
    unfold Ok at hO
    refine ⟨_, rfl, _, _, _, _, false, rfl, .ty "tuple", .base (.str z), kit_ty (by decide +kernel), false, rfl, iteT ?_⟩
    exact ⟨_, rfl, _, rfl, .inl ⟨z, rfl, hO, fun H' e => ⟨true, rfl, iteT (q _ e)⟩⟩⟩
  | comp f as =>
    unfold Rep at hR
    obtain ⟨a, ws, rfl, hT, hA⟩ := hR
    have hl := hA.len
    unfold Ok at hO
    refine ⟨_, rfl, _, _, _, _, true, rfl, .ty "tuple", tyx_tup hT, kit_ty (by decide +kernel), true, rfl, iteF ?_⟩
    refine ⟨_, rfl, a, _, rfl, .inr hT, rfl, _, rfl, ?_⟩
    have e : decide (V.int (((V.str f :: ws).length : Nat) : Int) = V.int 1) = false := by
      rw [show (V.int 1) = V.int ((1 : Nat) : Int) from rfl, dec_len, decide_eq_false]
      rw [List.length_cons]
      omega
    rw [e]
    refine iteF ?_
    refine ⟨_, rfl, a, _, rfl, .inr hT, _, _, rfl, rfl, _, rfl, ?_⟩
    rw [List.length_cons]
    rw [decide_eq_true (show (2 : Int) ≤ ((ws.length + 1 : Nat) : Int) by omega)]
    refine iteT ⟨_, _, rfl, rfl, _, _, rfl, rfl, _, rfl, ?_⟩
    rw [decide_eq_true (show ((ws.length + 1 : Nat) : Int) ≤ (8 : Int) + 1 by omega)]
    refine iteT ⟨_, rfl, a, _, 0, _, rfl, rfl, hT, at0, _, rfl, .inl ⟨f, rfl, hO.1, q⟩⟩

/-! ### is_term, demand_term -/
theorem list_end {α : Type} (l : List α) : l = [] ∨ ∃ r x, l = r ++ [x] := by
  cases h : l.reverse with
  | nil => exact .inl (by simpa using h)
  | cons x r =>
    refine .inr ⟨r.reverse, x, ?_⟩
    have := congrArg List.reverse h
    simpa using this
theorem last_app {α : Type} (r : List α) (x : α) : (r ++ [x])[(r ++ [x]).length - 1]? = some x := by simp
theorem drop_app {α : Type} (r : List α) (x : α) : (r ++ [x]).dropLast = r := by simp
/-- what a call of a def of the program asks and promises: of a term, something that is true from then on -/
def spTerm (K : PySem.W.Frag) (G : Tm → V → Prop) : Sp := fun vs H Q _ => ∃ v t, vs = [v] ∧ Rep K H t v ∧ Ok t ∧ size t ≤ 50000 ∧ ∀ u H', Ex H H' → G t u → Q u H'
theorem ok_is_term (T : Tx K mg) : FnOk P w K mg base CX0 4 T.f_is_term T.d_is_term ["thing"] (spTerm K fun _ u => u = .bl true) := by
  refine T.h_is_term.F.ok sc_is_term (fun vs H Q E h => ?_) (fun cdv A outer s H vs Q E hr h => ?_)
  · obtain ⟨v, t, rfl, _⟩ := h
    rfl
  obtain ⟨v, t, rfl, hR, hO, hz, q⟩ := h
  refine ⟨_, (pss_cons (ps_set (i := 1) sc_is_term.nd rfl (Or.inl rfl) (pe_lst (pa_cons (pv 0) pa_nil)))
    (pss_cons (ps_while PassesOwn.never (pt_truth (pv 1) (by intro _; rfl))
      (pss_cons (ps_set (i := 2) sc_is_term.nd rfl (Or.inl rfl) (pe_bm0 PySem.F.plainAttrs_list PySem.F.slot_list_pop PySem.F.type_list_pop mt_pop (pv 1)))
    (pss_cons (ps_if (pt_not (pt_val (cl (ok_is_part T) T.h_is_part hr (pa_cons (pv 2) pa_nil))))
      (pss_one (ps_ret pe_bl))
      pss_nil)
    (pss_one (ps_expr (pe_bm PySem.F.plainAttrs_list PySem.F.slot_list_extend PySem.F.type_list_extend mt_extT (pv 1) (pa_cons (cl (ok_arguments_of T) T.h_arguments_of hr (pa_cons (pv 2) pa_nil)) pa_nil)))))))
    (pss_one (ps_ret pe_bl)))), ?_⟩
  refine ⟨_, rfl, (by show 1 ≤ sizeLine; decide), fun l hl => ?_⟩
  refine ⟨fun m σ' H' => ∃ x ts ws, σ' = [some v, some (.ref l), x] ∧ Ex H H' ∧ H' l = some (.lst ws) ∧ Reps K H' ts ws ∧ Oks ts ∧ sizes ts = m ∧ m ≤ 50000,
    ⟨size t, none, [t], [v], rfl, Ex.new hl, upd_same, Reps.one (hR.mono (Tups.of (Ex.new hl))), ?_, sizes_one t, hz⟩, ?_⟩
  · rw [oks_cons]
    exact ⟨hO, trivial⟩
  rintro m σ' H' ⟨x, ts, ws, rfl, e1, hL, hRs, hOs, rfl, hm⟩
  refine ⟨_, rfl, _, .inl ⟨ws, SqL.of hL, rfl⟩, ?_⟩
  rcases list_end ts with rfl | ⟨ts, t', rfl⟩
  · rw [hRs.nil_inv]
    exact iteF (q _ _ e1 rfl)
  · obtain ⟨ws, v', rfl, hR1, hR2⟩ := hRs.last
    have hne : (!(ws ++ [v']).isEmpty) = true := by simp
    rw [hne]
    have hO2 := oks_app.mp hOs
    rw [oks_cons] at hO2
    rw [sizes_app, sizes_one] at hm ⊢
    refine iteT ⟨fun σ2 H2 => ∃ m', m' < sizes ts + size t' ∧ ∃ x ts ws, σ2 = [some v, some (.ref l), x] ∧ Ex H H2 ∧ H2 l = some (.lst ws) ∧ Reps K H2 ts ws ∧ Oks ts ∧ sizes ts = m' ∧ m' ≤ 50000, fun _ _ h => h, ?_⟩
    refine ⟨_, rfl, .inl ⟨rfl, _, SqL.of hL⟩, l, _, v', rfl, rfl, hL, last_app _ _, ?_⟩
    rw [drop_app]
    have t1 : Tups K H' (upd H' l (.lst ws)) := Tups.lst hL
    refine ⟨_, rfl, v', t', rfl, hR2.mono t1, hO2.2.1, fun H2 e2 => ⟨true, rfl, iteF ?_⟩⟩
    have hL2 : H2 l = some (.lst ws) := e2 l _ upd_same
    refine ⟨_, rfl, .inl ⟨rfl, _, SqL.of hL2⟩, _, rfl, v', t', rfl, (hR2.mono t1).mono (Tups.of e2), fun p us H3 hp e3 hU hUs => ?_⟩
    have hL3 : H3 l = some (.lst ws) := e3 l _ hL2
    have hlen := hR1.len
    have hlen2 := hUs.len
    have z1 := len_sizes ts
    have z2 := len_sizes t'.args
    have z3 := size_eq t'
    refine ⟨l, p, ws, us, rfl, rfl, hL3, SqT.of hU, small5 (by omega), sizes (ts ++ t'.args), ?_, _, ts ++ t'.args, ws ++ us, rfl, ?_, upd_same, ?_, ?_, rfl, ?_⟩
    · rw [sizes_app]
      omega
    · have e4 : Ex H (upd H' l (.lst ws)) := Ex.mut e1 hl
      exact Ex.mut ((e4.trans e2).trans e3) hl
    · have t3 : Tups K (upd H' l (.lst ws)) (upd H3 l (.lst (ws ++ us))) := ((Tups.of e2).trans (Tups.of e3)).trans (Tups.lst hL3)
      exact Reps.app ((hR1.mono t1).mono t3) (hUs.mono (Tups.lst hL3))
    · exact oks_app.mpr ⟨hO2.1, ok_args hO2.2.1⟩
    · rw [sizes_app]
      omega
theorem ok_demand_term (T : Tx K mg) : FnOk P w K mg base CX0 5 T.f_demand_term T.d_demand_term ["term"] (spTerm K fun _ _ => True) := by
  refine T.h_demand_term.F.ok sc_demand_term (fun vs H Q E h => ?_) (fun cdv A outer s H vs Q E hr h => ?_)
  · obtain ⟨v, t, rfl, _⟩ := h
    rfl
  obtain ⟨v, t, rfl, hR, hO, hz, q⟩ := h
  refine ⟨_, (pss_one (ps_if (pt_not (pt_val (cl (ok_is_term T) T.h_is_term hr (pa_cons (pv 0) pa_nil))))
      (pss_one ps_never)
      pss_nil)), ?_⟩
  refine ⟨_, rfl, v, t, rfl, hR, hO, hz, fun u H' e hu => ?_⟩
  subst hu
  exact ⟨true, rfl, iteF (q _ _ e trivial)⟩

/-! ### parts_of -/
def spParts (K : PySem.W.Frag) : Sp := fun vs H Q _ => ∃ v t, vs = [v] ∧ Rep K H t v ∧ size t ≤ 50000 ∧ ∀ p ws H', H p = none → Ex H H' → H' p = some (.lst ws) → Reps K H' (pre t) ws → Q (.ref p) H'
theorem ok_parts_of (T : Tx K mg) : FnOk P w K mg base CX0 2 T.f_parts_of T.d_parts_of ["term"] (spParts K) := by
  refine T.h_parts_of.F.ok sc_parts_of (fun vs H Q E h => ?_) (fun cdv A outer s H vs Q E hr h => ?_)
  · obtain ⟨v, t, rfl, _⟩ := h
    rfl
  obtain ⟨v, t, rfl, hR, hz, q⟩ := h
  refine ⟨_, (pss_cons (ps_set (i := 1) sc_parts_of.nd rfl (Or.inl rfl) (pe_lst pa_nil))
    (pss_cons (ps_set (i := 2) sc_parts_of.nd rfl (Or.inl rfl) (pe_lst (pa_cons (pv 0) pa_nil)))
    (pss_cons (ps_while PassesOwn.never (pt_truth (pv 2) (by intro _; rfl))
      (pss_cons (ps_set (i := 3) sc_parts_of.nd rfl (Or.inl rfl) (pe_bm0 PySem.F.plainAttrs_list PySem.F.slot_list_pop PySem.F.type_list_pop mt_pop (pv 2)))
    (pss_cons (ps_expr (pe_bm PySem.F.plainAttrs_list PySem.F.slot_list_append PySem.F.type_list_append mt_append (pv 1) (pa_cons (pv 3) pa_nil)))
    (pss_one (ps_expr (pe_bm PySem.F.plainAttrs_list PySem.F.slot_list_extend PySem.F.type_list_extend mt_extT (pv 2) (pa_cons (pe_revT (cl (ok_arguments_of T) T.h_arguments_of hr (pa_cons (pv 3) pa_nil))) pa_nil)))))))
    (pss_one (ps_ret (pv 1)))))), ?_⟩
  refine ⟨Nat.zero_le _, fun f hf => ?_⟩
  refine ⟨_, rfl, (by show 1 ≤ sizeLine; decide), fun l hl' => ?_⟩
  have hfl : f ≠ l := by
    intro e
    subst e
    rw [upd_same] at hl'
    cases hl'
  have hl : H l = none := by
    rw [upd_ne hfl.symm] at hl'
    exact hl'
  have e0 : Ex H (upd (upd H f (.lst [])) l (.lst [v])) := (Ex.new hf).trans (Ex.new hl')
  refine ⟨fun m σ' H' => ∃ x ts ws ds us, σ' = [some v, some (.ref f), some (.ref l), x] ∧ Ex H H' ∧ H' l = some (.lst ws) ∧ Reps K H' ts ws ∧ H' f = some (.lst us) ∧ Reps K H' ds us ∧ ds ++ pres ts.reverse = pre t ∧ sizes ts = m ∧ sizes ts + ds.length ≤ 50000,
    ⟨size t, none, [t], [v], [], [], rfl, e0, upd_same, Reps.one (hR.mono (Tups.of e0)), (by rw [upd_ne hfl, upd_same]), Reps.nil, ?_, sizes_one t, ?_⟩, ?_⟩
  · show pres [t] = pre t
    rw [pres_cons]
    unfold pres
    rw [List.append_nil]
  · rw [sizes_one]
    exact hz
  rintro m σ' H' ⟨x, ts, ws, ds, us, rfl, e1, hL, hRs, hF, hDs, hpre, rfl, hm⟩
  refine ⟨_, rfl, _, .inl ⟨ws, SqL.of hL, rfl⟩, ?_⟩
  rcases list_end ts with rfl | ⟨ts, t', rfl⟩
  · rw [hRs.nil_inv]
    refine iteF ⟨_, rfl, q f us _ hf e1 hF ?_⟩
    rw [← hpre]
    show Reps K H' (ds ++ pres []) us
    unfold pres
    rw [List.append_nil]
    exact hDs
  · obtain ⟨ws, v', rfl, hR1, hR2⟩ := hRs.last
    have hne : (!(ws ++ [v']).isEmpty) = true := by simp
    rw [hne]
    rw [sizes_app, sizes_one] at hm ⊢
    refine iteT ⟨fun σ2 H2 => ∃ m', m' < sizes ts + size t' ∧ ∃ x ts ws ds us, σ2 = [some v, some (.ref f), some (.ref l), x] ∧ Ex H H2 ∧ H2 l = some (.lst ws) ∧ Reps K H2 ts ws ∧ H2 f = some (.lst us) ∧ Reps K H2 ds us ∧ ds ++ pres ts.reverse = pre t ∧ sizes ts = m' ∧ sizes ts + ds.length ≤ 50000, fun _ _ h => h, ?_⟩
    refine ⟨_, rfl, .inl ⟨rfl, _, SqL.of hL⟩, l, _, v', rfl, rfl, hL, last_app _ _, ?_⟩
    rw [drop_app]
    have t1 : Tups K H' (upd H' l (.lst ws)) := Tups.lst hL
    have hF1 : (upd H' l (.lst ws)) f = some (.lst us) := by rw [upd_ne hfl]; exact hF
    have z0 := hDs.len
    have z4 := size_pos t'
    refine ⟨_, rfl, .inl ⟨rfl, _, SqL.of hF1⟩, _, rfl, f, us, v', rfl, rfl, hF1, small5' (by omega), ?_⟩
    have t2 : Tups K (upd H' l (.lst ws)) (upd (upd H' l (.lst ws)) f (.lst (us ++ [v']))) := Tups.lst hF1
    have hL2 : (upd (upd H' l (.lst ws)) f (.lst (us ++ [v']))) l = some (.lst ws) := by rw [upd_ne hfl.symm, upd_same]
    refine ⟨_, rfl, .inl ⟨rfl, _, SqL.of hL2⟩, _, rfl, v', t', rfl, (hR2.mono t1).mono t2, fun p ys H3 hp e3 hU hUs => ?_⟩
    refine ⟨p, ys, rfl, SqT.of hU, fun p' hp' => ?_⟩
    have e4 := Ex.new (o := HO.tup ys.reverse) hp'
    have hL4 : (upd H3 p' (.tup ys.reverse)) l = some (.lst ws) := e4 l _ (e3 l _ hL2)
    have hF4 : (upd H3 p' (.tup ys.reverse)) f = some (.lst (us ++ [v'])) := e4 f _ (e3 f _ upd_same)
    have hlen := hR1.len
    have hlen2 := hUs.len
    have z1 := len_sizes ts
    have z2 := len_sizes t'.args
    have z3 := size_eq t'
    refine ⟨l, p', ws, ys.reverse, rfl, rfl, hL4, SqT.of upd_same, small5 (by rw [List.length_reverse]; omega), sizes (ts ++ t'.args.reverse), ?_, _, ts ++ t'.args.reverse, ws ++ ys.reverse, ds ++ [t'], us ++ [v'], rfl, ?_, upd_same, ?_, ?_, ?_, ?_, rfl, ?_⟩
    · rw [sizes_app, sizes_rev]
      omega
    · have e5 : Ex H (upd (upd H' l (.lst ws)) f (.lst (us ++ [v']))) := Ex.mut (Ex.mut e1 hl) hf
      exact Ex.mut ((e5.trans e3).trans e4) hl
    · have t3 := ((Tups.of (K := K) e3).trans (Tups.of e4)).trans (Tups.lst (o := HO.lst (ws ++ ys.reverse)) hL4)
      exact Reps.app (((hR1.mono t1).mono t2).mono t3) ((hUs.rev.mono (Tups.of e4)).mono (Tups.lst hL4))
    · rw [upd_ne hfl]
      exact hF4
    · have t3 := ((Tups.of (K := K) e3).trans (Tups.of e4)).trans (Tups.lst (o := HO.lst (ws ++ ys.reverse)) hL4)
      exact Reps.app (((hDs.mono t1).mono t2).mono t3) (Reps.one (((hR2.mono t1).mono t2).mono t3))
    · rw [← hpre, List.reverse_append, List.reverse_append, List.reverse_reverse, pres_app, List.append_assoc]
      show ds ++ ([t'] ++ (pres t'.args ++ pres ts.reverse)) = ds ++ pres (t' :: ts.reverse)
      rw [pres_cons, pre_eq t']
      simp
    · rw [sizes_app, sizes_rev, List.length_append, List.length_singleton]
      omega
end
end Hm

set_option Elab.async false
set_option linter.all false
set_option maxRecDepth 100000
set_option maxHeartbeats 4000000
namespace Hm
open PySem PySem.Spec PyProof.Rows L2 HT
open Evl (Ex)
/-! ### rows in a heap -/
def RwRep (K : PySem.W.Frag) (H : Hp) : Rw → V → Prop
  | .leaf t, v => ∃ a u, v = .ref a ∧ SqT K H a [u, .int 0] ∧ Rep K H t u
  | .node f n, v => ∃ a, v = .ref a ∧ SqT K H a [.str f, .int (n : Int)]
def RwReps (K : PySem.W.Frag) (H : Hp) : List Rw → List V → Prop
  | [], vs => vs = []
  | r :: rs, vs => ∃ v ws, vs = v :: ws ∧ RwRep K H r v ∧ RwReps K H rs ws
section
variable {K : PySem.W.Frag} {H H' : Hp}
theorem RwRep.mono (e : Tups K H H') {r : Rw} {v : V} (h : RwRep K H r v) : RwRep K H' r v := by
  cases r with
  | leaf t =>
    obtain ⟨a, u, e1, q, r⟩ := h
    exact ⟨a, u, e1, e _ _ q, r.mono e⟩
  | node f n =>
    obtain ⟨a, e1, q⟩ := h
    exact ⟨a, e1, e _ _ q⟩
theorem RwReps.mono (e : Tups K H H') : ∀ {rs : List Rw} {vs : List V}, RwReps K H rs vs → RwReps K H' rs vs
  | [], _, h => h
  | _ :: _, _, ⟨v, ws, e1, q, r⟩ => ⟨v, ws, e1, q.mono e, RwReps.mono e r⟩
theorem RwReps.len : ∀ {rs : List Rw} {vs : List V}, RwReps K H rs vs → rs.length = vs.length
  | [], _, h => by
    rw [show _ = [] from h]
    rfl
  | _ :: _, _, ⟨v, ws, e1, q, r⟩ => by rw [e1, List.length_cons, List.length_cons, RwReps.len r]
theorem RwReps.app : ∀ {rs us : List Rw} {vs ws : List V}, RwReps K H rs vs → RwReps K H us ws → RwReps K H (rs ++ us) (vs ++ ws)
  | [], _, _, _, h, r => by
    rw [show _ = [] from h]
    exact r
  | _ :: _, _, _, ys, ⟨v, ws, e1, q, s⟩, r => ⟨v, ws ++ ys, by rw [e1]; rfl, q, RwReps.app s r⟩
theorem RwReps.get : ∀ {rs : List Rw} {vs : List V} {i : Nat} {v : V}, RwReps K H rs vs → vs[i]? = some v → ∃ r, rs[i]? = some r ∧ RwRep K H r v
  | [], _, i, _, h, e => by
    rw [show _ = [] from h] at e
    simp at e
  | r :: rs, _, 0, x, ⟨v, ws, e1, q, s⟩, e => by
    rw [e1] at e
    have e2 : v = x := by simpa using e
    subst e2
    exact ⟨r, rfl, q⟩
  | r :: rs, _, i + 1, _, ⟨v, ws, e1, q, s⟩, e => by
    rw [e1] at e
    obtain ⟨u, h1, h2⟩ := RwReps.get (i := i) s (by simpa using e)
    exact ⟨u, by simpa using h1, h2⟩
end
theorem fold_turn_len : ∀ (rs : List Rw) (D : List Tm), (rs.foldr turn D).length ≤ D.length + rs.length
  | [], _ => Nat.le_refl _
  | r :: rs, D => by
    have ih := fold_turn_len rs D
    rw [List.foldr_cons, List.length_cons]
    cases r with
    | leaf t =>
      show (rs.foldr turn D ++ [t]).length ≤ _
      rw [List.length_append, List.length_singleton]
      omega
    | node f n =>
      show ((rs.foldr turn D).take _ ++ [Tm.comp f _]).length ≤ _
      rw [List.length_append, List.length_singleton, List.length_take]
      omega
theorem rooms_drop {rs : List Rw} {D : List Tm} : ∀ (k : Nat), Rooms rs D → Rooms (rs.drop k) D := by
  induction rs with
  | nil => intro k h; rw [List.drop_nil]; exact h
  | cons r rs ih =>
    intro k h
    cases k with
    | zero => exact h
    | succ k =>
      rw [rooms_cons] at h
      rw [List.drop_succ_cons]
      exact ih k h.1
section
variable {P : Program} {w : World} {K : PySem.W.Frag} {mg : Str → Option Value} {base : Heap}
def spFolded (K : PySem.W.Frag) : Sp := fun vs H Q _ => ∃ r rows us t, vs = [.ref r] ∧ SqL K H r us ∧ RwReps K H rows us ∧ rows.foldr turn [] = [t] ∧ Rooms rows [] ∧ rows.length ≤ 50000 ∧ ∀ v H', Ex H H' → Rep K H' t v → Q v H'
theorem ok_folded (T : Tx K mg) : FnOk P w K mg base CX0 1 T.f_folded T.d_folded ["row"] (spFolded K) := by
  refine T.h_folded.F.ok sc_folded (fun vs H Q E h => ?_) (fun cdv A outer s H vs Q E hr h => ?_)
  · obtain ⟨v, t, _, _, rfl, _⟩ := h
    rfl
  obtain ⟨r, rows, us, t, rfl, hS, hRw, hfold, hrooms, hz, q⟩ := h
  refine ⟨_, (pss_cons (ps_set (i := 1) sc_folded.nd rfl (Or.inl rfl) (pe_lst pa_nil))
    (pss_cons (ps_for PassesOwn.never rfl (pi_reversed rfl T.b_reversed (pa_cons (pv 0) pa_nil)) (pg_tup rfl (pgs_cons (pg_name (i := 2) sc_folded.nd rfl (Or.inl rfl)) (pgs_cons (pg_name (i := 3) sc_folded.nd rfl (Or.inl rfl)) pgs_nil)))
      (pss_one (ps_if (pt_cmpR op_eq (pv 3) pe_int (nomark _))
      (pss_one (ps_expr (pe_bm PySem.F.plainAttrs_list PySem.F.slot_list_append PySem.F.type_list_append mt_append (pv 1) (pa_cons (pv 2) pa_nil))))
      (pss_cons (ps_set (i := 4) sc_folded.nd rfl (Or.inl rfl) (pe_backL (pv 1) (pe_op op_sub (pe_un un_neg (pv 3)) pe_int)))
    (pss_cons (ps_delTail (pv 1) (pe_un un_neg (pv 3)))
    (pss_one (ps_expr (pe_bm PySem.F.plainAttrs_list PySem.F.slot_list_append PySem.F.type_list_append mt_append (pv 1) (pa_cons (pe_tup (pa_cons (pv 2) (StX.pa_star (pv 4) pa_nil))) pa_nil)))))))))
    (pss_one (ps_ret (pe_ix ix_list (pv 1) pe_int (fun _ _ => rfl)))))), ?_⟩
  refine ⟨Nat.zero_le _, fun d hd => ?_⟩
  have e0 : Ex H (upd H d (.lst [])) := Ex.new hd
  have hlen := hRw.len
  refine ⟨_, rfl, r, us, rfl, Evl.ex_l e0 hS, for_it walk_rev (fun i σ' H' => ∃ x2 x3 x4 ws, σ' = [some (.ref r), some (.ref d), x2, x3, x4] ∧ Ex H H' ∧ H' d = some (.lst ws) ∧ Reps K H' ((rows.drop (rows.length - i)).foldr turn []) ws)
    ⟨none, none, none, [], rfl, e0, upd_same, ?_⟩ ?_ ?_ ?_⟩
  · rw [Nat.sub_zero, List.drop_length]
    exact Reps.nil
  · rintro i σ' H' _ ⟨_, _, _, _, _, e1, _⟩
    exact Evl.ex_l e1 hS
  · rintro i x σ' H' H2 hi ⟨x2, x3, x4, ws, rfl, e1, hD, hR⟩ ⟨rfl, hx⟩
    have hRw' := hRw.mono (Tups.of e1)
    obtain ⟨rr, hrr, hrep⟩ := hRw'.get hx
    rw [← hlen] at hrr hi
    have hdrop : rows.drop (rows.length - (i + 1)) = rr :: rows.drop (rows.length - i) := by
      have h1 : rows.length - (i + 1) = rows.length - 1 - i := by omega
      have h2 : rows.length - i = (rows.length - 1 - i) + 1 := by omega
      obtain ⟨hlt, he⟩ := List.getElem?_eq_some_iff.mp hrr
      rw [h1, h2, List.drop_eq_getElem_cons hlt, he]
    have hroom := rooms_drop (rows.length - (i + 1)) hrooms
    rw [hdrop, rooms_cons] at hroom
    have hDl := fold_turn_len (rows.drop (rows.length - i)) []
    have hl1 := hR.len
    rw [List.length_drop, List.length_nil] at hDl
    rw [hdrop, List.foldr_cons]
    generalize hDD : (rows.drop (rows.length - i)).foldr turn [] = DD at *
    cases rr with
    | leaf tt =>
      obtain ⟨a, u, rfl, hT, hu⟩ := hrep
      refine ⟨a, _, rfl, hT, rfl, u, _, rfl, .int 0, _, rfl, rfl, _, rfl, rfl, _, rfl, iteT ?_⟩
      refine ⟨_, rfl, .inl ⟨rfl, _, SqL.of hD⟩, _, rfl, d, ws, u, rfl, rfl, hD, small5' (by omega), _, _, _, _, rfl, Ex.mut e1 hd, upd_same, ?_⟩
      have t1 : Tups K H2 (upd H2 d (.lst (ws ++ [u]))) := Tups.lst hD
      exact Reps.app (hR.mono t1) (Reps.one (hu.mono t1))
    | node f n =>
      obtain ⟨a, rfl, hT⟩ := hrep
      obtain ⟨n1, n2⟩ := hroom.2
      refine ⟨a, _, rfl, hT, rfl, .str f, _, rfl, .int (n : Int), _, rfl, rfl, _, rfl, rfl, _, rfl, ?_⟩
      have hne : decide (V.int (n : Int) = V.int 0) = false := by
        rw [show (V.int 0) = V.int ((0 : Nat) : Int) from rfl, dec_len, decide_eq_false]
        omega
      rw [hne]
      refine iteF ?_
      refine ⟨_, rfl, ⟨_, rfl, _, rfl, _, _, rfl, rfl, _, rfl, d, ws, n, rfl, rfl, SqL.of hD, (by omega), fun p hp => ?_⟩⟩
      have hpd : d ≠ p := ne_of_none hD hp
      have e2 := Ex.new (o := HO.lst (ws.drop (ws.length - n)).reverse) hp
      have hD2 := e2 d _ hD
      refine ⟨_, rfl, ⟨_, rfl, _, rfl, _, rfl, d, ws, n, rfl, rfl, hD2, n1, (by omega), ?_⟩⟩
      have t2 : Tups K H2 (upd (upd H2 p (.lst (ws.drop (ws.length - n)).reverse)) d (.lst (ws.take (ws.length - n)))) := (Tups.of e2).trans (Tups.lst hD2)
      have hD3 : (upd (upd H2 p (.lst (ws.drop (ws.length - n)).reverse)) d (.lst (ws.take (ws.length - n)))) d = some (.lst (ws.take (ws.length - n))) := upd_same
      have hP3 : (upd (upd H2 p (.lst (ws.drop (ws.length - n)).reverse)) d (.lst (ws.take (ws.length - n)))) p = some (.lst (ws.drop (ws.length - n)).reverse) := by rw [upd_ne hpd.symm, upd_same]
      refine ⟨_, rfl, .inl ⟨rfl, _, SqL.of hD3⟩, _, rfl, _, rfl, p, _, rfl, .inr (SqL.of hP3), ?_⟩
      refine ⟨small5 ?_, fun tp htp => ?_⟩
      · show ((V.str f) :: ((ws.drop (ws.length - n)).reverse ++ [])).length ≤ _
        rw [List.length_cons, List.append_nil, List.length_reverse, List.length_drop]
        omega
      have e4 := Ex.new (o := HO.tup ((V.str f) :: ((ws.drop (ws.length - n)).reverse ++ []))) htp
      have hD4 := e4 d _ hD3
      refine ⟨d, _, _, rfl, rfl, hD4, small5' ?_, _, _, _, _, rfl, ?_, upd_same, ?_⟩
      · rw [List.length_take]
        omega
      · have e5 : Ex H (upd (upd H2 p (.lst (ws.drop (ws.length - n)).reverse)) d (.lst (ws.take (ws.length - n)))) := Ex.mut (e1.trans e2) hd
        exact Ex.mut (e5.trans e4) hd
      · have t4 : Tups K H2 (upd (upd (upd (upd H2 p (.lst (ws.drop (ws.length - n)).reverse)) d (.lst (ws.take (ws.length - n)))) tp (.tup ((V.str f) :: ((ws.drop (ws.length - n)).reverse ++ [])))) d (.lst (ws.take (ws.length - n) ++ [V.ref tp]))) := (t2.trans (Tups.of e4)).trans (Tups.lst hD4)
        show Reps K _ (DD.take (DD.length - n) ++ [Tm.comp f (DD.drop (DD.length - n)).reverse]) _
        rw [hl1]
        refine Reps.app ((hR.take _).mono t4) (Reps.one ?_)
        unfold Rep
        refine ⟨tp, (ws.drop (ws.length - n)).reverse, rfl, ?_, ((hR.drop _).rev).mono t4⟩
        refine SqT.of ?_
        rw [upd_ne (ne_of_none hD3 htp).symm, upd_same, List.append_nil]
  · rintro σ' H' ⟨x2, x3, x4, ws, rfl, e1, hD, hR⟩
    rw [← hlen, Nat.sub_self, List.drop_zero, hfold] at hR
    obtain ⟨v, vs2, rfl, hv, hnil⟩ := hR.cons_inv
    refine ⟨_, rfl, d, _, 0, v, rfl, rfl, SqL.of hD, at0, q v _ e1 hv⟩
end
end Hm

set_option Elab.async false
set_option linter.all false
set_option maxRecDepth 100000
set_option maxHeartbeats 4000000
namespace Hm
open PySem PySem.Spec PyProof.Rows L2 HT
open Evl (Ex)
/-- a dict comprehension over a walk -/
theorem dc_it {J : It} {n : Nat} {G : Hp → Prop} {Y : Nat → Hp → V → Hp → Prop} (w : Walk J n G Y) {g : TG} {tt : TT} {tk tv : TE} {vs : List Nat} {σ : L2.St} {H1 : Hp} {D : Addr} {Qd : Hp → Prop} (Pv : Nat → Hp → Prop) (h0 : Pv 0 (upd H1 D (.dK []))) (hG : ∀ i H, i ≤ n → Pv i H → G H)
    (hs : ∀ i x H H', i < n → Pv i H → Y i H x H' → g x (wipe σ vs) H' fun σ2 H2 => wipe σ2 vs = wipe σ vs ∧ tt σ2 H2 fun b H3 =>
      if b = true then tk σ2 H3 fun y H4 => tv σ2 H4 fun z H5 => ∃ kvs k, y = kV k ∧ H5 D = some (.dK kvs) ∧ kvs.length < sizeLine ∧ Pv (i + 1) (upd H5 D (.dK (putK kvs k z))) else Pv (i + 1) H3) (hd : ∀ H, Pv n H → Qd H) :
    ∃ W : Nat → Nat → Hp → Prop, (∃ m, W 0 m (upd H1 D (.dK []))) ∧ ∀ i m H, W i m H →
      (J.stop i H ∧ Qd H) ∨ (J.go i H ∧ ∃ Nx : Hp → Prop, (∀ H', Nx H' → ∃ m', m' < m ∧ W (i + 1) m' H') ∧ ∀ x H', J.yld i H x H' → g x (wipe σ vs) H' fun σ2 H2 => wipe σ2 vs = wipe σ vs ∧ tt σ2 H2 fun b H3 =>
        if b = true then tk σ2 H3 fun y H4 => tv σ2 H4 fun z H5 => ∃ kvs k, y = kV k ∧ H5 D = some (.dK kvs) ∧ kvs.length < sizeLine ∧ Nx (upd H5 D (.dK (putK kvs k z))) else Nx H3) := by
  refine ⟨fun i m H => m = n - i ∧ i ≤ n ∧ Pv i H, ⟨n, by simp, Nat.zero_le _, h0⟩, ?_⟩
  rintro i m H ⟨rfl, hi, p⟩
  have q := hG i H hi p
  by_cases hlt : i < n
  · exact .inr ⟨w.goes i H hlt q, Pv (i + 1), fun H' p' => ⟨n - (i + 1), by omega, rfl, hlt, p'⟩, fun x H' y => hs i x H H' hlt p (w.yields i H x H' hlt q y)⟩
  · have e : i = n := by omega
    subst e
    exact .inl ⟨w.stops H q, hd H p⟩
/-! ### a table for variables -/
def TabRep (K : PySem.W.Frag) (H : Hp) (d : Addr) (g : Int → Tm) : Prop := ∃ kvs, Rd H d (.dK kvs) ∧ ∀ k : Int, (∀ u, valV kvs (Sum.inl k : Key) = some u → Rep K H (g k) u) ∧ (valV kvs (Sum.inl k : Key) = none → g k = .var k)
theorem TabRep.mono {K : PySem.W.Frag} {H H' : Hp} {d : Addr} {g : Int → Tm} (e : Ex H H') (h : TabRep K H d g) : TabRep K H' d g := by
  obtain ⟨kvs, h1, h2⟩ := h
  exact ⟨kvs, Evl.ex_rd e h1, fun k => ⟨fun u hu => ((h2 k).1 u hu).mono (Tups.of e), (h2 k).2⟩⟩
mutual
theorem ok_pre : ∀ {t : Tm}, Ok t → Oks (pre t)
  | .var _, h => by unfold pre; rw [oks_cons]; exact ⟨h, trivial⟩
  | .int _, h => by unfold pre; rw [oks_cons]; exact ⟨h, trivial⟩
  | .atom _, h => by unfold pre; rw [oks_cons]; exact ⟨h, trivial⟩
  | .comp f as, h => by
    have h2 := h
    unfold Ok at h2
    unfold pre
    rw [oks_cons]
    exact ⟨h, ok_pres h2.2.2.2⟩
theorem ok_pres : ∀ {ts : List Tm}, Oks ts → Oks (pres ts)
  | [], _ => trivial
  | t :: ts, h => by
    rw [oks_cons] at h
    rw [pres_cons]
    exact oks_app.mpr ⟨ok_pre h.1, ok_pres h.2⟩
end
theorem oks_get : ∀ {ts : List Tm} {i : Nat} {t : Tm}, Oks ts → ts[i]? = some t → Ok t
  | [], i, _, _, e => by simp at e
  | u :: us, 0, t, h, e => by
    rw [oks_cons] at h
    have : u = t := by simpa using e
    exact this ▸ h.1
  | u :: us, i + 1, t, h, e => by
    rw [oks_cons] at h
    exact oks_get h.2 (by simpa using e)
/-! ### numbers as keys of a dict -/
def mkD (acc : List Int) : List (Key × V) := acc.map fun k => ((Sum.inl k : Key), V.bl true)
theorem mkD_val : ∀ (acc : List Int) (k : Int), valV (mkD acc) (Sum.inl k : Key) = if k ∈ acc then some (.bl true) else none
  | [], k => by simp [mkD, valV]
  | a :: acc, k => by
    have ih := mkD_val acc k
    by_cases e : a = k
    · subst e
      show valV (((Sum.inl a : Key), V.bl true) :: mkD acc) (Sum.inl a) = _
      rw [valV_pos rfl, if_pos List.mem_cons_self]
    · show valV (((Sum.inl a : Key), V.bl true) :: mkD acc) (Sum.inl k) = _
      rw [valV_neg (by intro z; injection z with z; exact e z), ih]
      by_cases m : k ∈ acc
      · rw [if_pos m, if_pos (List.mem_cons_of_mem _ m)]
      · rw [if_neg m, if_neg]
        intro z
        rcases List.mem_cons.mp z with z | z
        · exact e z.symm
        · exact m z
theorem mkD_put (acc : List Int) (k : Int) : putK (mkD acc) (Sum.inl k : Key) (.bl true) = mkD (addNew acc k) := by
  unfold addNew
  by_cases m : k ∈ acc
  · rw [if_pos m]
    have h1 : ((mkD acc).any fun kv => decide (kv.1 = (Sum.inl k : Key))) = true := by
      rw [valV_any, mkD_val, if_pos m]
      rfl
    unfold putK
    rw [if_pos h1]
    unfold mkD
    rw [List.map_map]
    apply List.map_congr_left
    intro a _
    show (if (Sum.inl a : Key) = Sum.inl k then ((Sum.inl a : Key), V.bl true) else ((Sum.inl a : Key), V.bl true)) = _
    split <;> rfl
  · rw [if_neg m, putK_new _ (by rw [mkD_val, if_neg m])]
    unfold mkD
    rw [List.map_append]
    rfl
theorem fold_take_succ {α β : Type} (f : α → β → α) (a : α) {l : List β} {i : Nat} {x : β} (h : l[i]? = some x) : (l.take (i + 1)).foldl f a = f ((l.take i).foldl f a) x := by
  rw [List.take_add_one, h]
  simp
section
variable {P : Program} {w : World} {K : PySem.W.Frag} {mg : Str → Option Value} {base : Heap}
def spReplaced (K : PySem.W.Frag) : Sp := fun vs H Q _ => ∃ v t d g, vs = [v, .ref d] ∧ Rep K H t v ∧ Ok t ∧ size t ≤ 50000 ∧ TabRep K H d g ∧ ∀ u H', Ex H H' → Rep K H' (sub g t) u → Q u H'
theorem ok_replaced (T : Tx K mg) : FnOk P w K mg base CX0 3 T.f_replaced T.d_replaced ["term", "table"] (spReplaced K) := by
  refine T.h_replaced.F.ok sc_replaced (fun vs H Q E h => ?_) (fun cdv A outer s H vs Q E hr h => ?_)
  · obtain ⟨v, t, _, _, rfl, _⟩ := h
    rfl
  obtain ⟨v, t, d, g, rfl, hR, hO, hz, hTab, q⟩ := h
  have hu := hu_of hr
  refine ⟨_, (pss_cons (ps_set (i := 2) sc_replaced.nd rfl (Or.inl rfl) (pe_lst pa_nil))
    (pss_cons (ps_for PassesOwn.never rfl (pi_list (cl (ok_parts_of T) T.h_parts_of hr (pa_cons (pv 0) pa_nil))) (pg_name (i := 3) sc_replaced.nd rfl (Or.inl rfl))
      (pss_one (ps_if (pt_val (cl (ok_is_variable T) T.h_is_variable hr (pa_cons (pv 3) pa_nil)))
      (pss_one (ps_expr (pe_bm PySem.F.plainAttrs_list PySem.F.slot_list_append PySem.F.type_list_append mt_append (pv 2) (pa_cons (pe_tup (pa_cons (pe_dget2 hu (pv 1) (pe_ix ix_tup (pv 3) pe_int (fun _ _ => rfl)) (pv 3) ⟨rfl, rfl, rfl, rfl⟩) (pa_cons pe_int pa_nil))) pa_nil))))
      (pss_one (ps_if (pt_val (pe_callB call_isi rfl T.b_isinstance (by decide +kernel) (pa_cons (pv 3) (pa_cons (pe_bltn (v := .ty "tuple") (u := .type "tuple") rfl T.b_tuple (by decide +kernel) rfl) pa_nil))))
      (pss_one (ps_expr (pe_bm PySem.F.plainAttrs_list PySem.F.slot_list_append PySem.F.type_list_append mt_append (pv 2) (pa_cons (pe_tup (pa_cons (pe_ix ix_tup (pv 3) pe_int (fun _ _ => rfl)) (pa_cons (pe_op op_sub (pe_callB call_len_seq rfl T.b_len (by decide +kernel) (pa_cons (pv 3) pa_nil)) pe_int) pa_nil))) pa_nil))))
      (pss_one (ps_expr (pe_bm PySem.F.plainAttrs_list PySem.F.slot_list_append PySem.F.type_list_append mt_append (pv 2) (pa_cons (pe_tup (pa_cons (pv 3) (pa_cons pe_int pa_nil))) pa_nil)))))))))
    (pss_one (ps_ret (cl (ok_folded T) T.h_folded hr (pa_cons (pv 2) pa_nil)))))), ?_⟩
  refine ⟨Nat.zero_le _, fun rr hrr => ?_⟩
  have e0 : Ex H (upd H rr (.lst [])) := Ex.new hrr
  refine ⟨_, rfl, v, t, rfl, hR.mono (Tups.of e0), hz, fun pl ps H1 hpl e1 hL hPs => ?_⟩
  have hne : rr ≠ pl := ne_of_none upd_same hpl
  have hlen := hPs.len
  rw [len_pre] at hlen
  refine ⟨pl, rfl, ⟨ps, SqL.of hL⟩, for_list (fun i σ' H' => ∃ x rs, σ' = [some v, some (.ref d), some (.ref rr), x] ∧ Ex H H' ∧ Tups K H1 H' ∧ H' pl = some (.lst ps) ∧ H' rr = some (.lst rs) ∧ RwReps K H' (((pre t).take i).map (rw1 g)) rs)
    ⟨none, [], rfl, e0.trans e1, Tups.refl _, hL, e1 rr _ upd_same, rfl⟩ (fun i σ' H' _ ⟨_, _, _, _, _, h, _⟩ => SqL.of h) ?_ ?_⟩
  · rintro i x σ' H' hx ⟨x3, rs, rfl, e2, tu, hp, hrs, hRw⟩
    obtain ⟨ti, hti, hrep⟩ := (hPs.mono tu).get hx
    have hOi := oks_get (ok_pre hO) hti
    have hi : i < size t := by
      rw [← len_pre]
      exact (List.getElem?_eq_some_iff.mp hti).1
    have hrl := hRw.len
    rw [List.length_map, List.length_take, len_pre] at hrl
    refine ⟨_, rfl, x, ti, rfl, hrep, hOi, _, rfl, ?_⟩
    rw [tk_succ (rw1 g) hti]
    cases ti with
    | var k =>
      unfold Rep at hrep
      obtain ⟨a, rfl, hT⟩ := hrep
      obtain ⟨kvs, hkv, hval⟩ := hTab.mono e2
      have hres : Rep K H' (g k) ((valV kvs (Sum.inl k : Key)).getD (.ref a)) := by
        cases hv : valV kvs (Sum.inl k : Key) with
        | some u => exact (hval k).1 u hv
        | none =>
          rw [(hval k).2 hv]
          unfold Rep
          exact ⟨a, rfl, hT⟩
      refine iteT ⟨_, rfl, .inl ⟨rfl, _, SqL.of hrs⟩, _, rfl, d, rfl, .inl ⟨kvs, hkv⟩, _, rfl, a, _, 0, _, rfl, rfl, hT, at0, _, rfl, _, .inl ⟨kvs, Sum.inl k, hkv, rfl, rfl⟩, ?_⟩
      refine ⟨(by show 2 ≤ sizeLine; decide), fun tp htp => ?_⟩
      have e3 := Ex.new (o := HO.tup [(valV kvs (Sum.inl k : Key)).getD (.ref a), .int 0]) htp
      have hrs2 := e3 rr _ hrs
      have t3 : Tups K H' (upd (upd H' tp (.tup [(valV kvs (Sum.inl k : Key)).getD (.ref a), .int 0])) rr (.lst (rs ++ [V.ref tp]))) := (Tups.of e3).trans (Tups.lst hrs2)
      refine ⟨rr, rs, _, rfl, rfl, hrs2, small5' (by omega), _, _, rfl, Ex.mut (e2.trans e3) hrr, tu.trans t3, ?_, upd_same, RwReps.app (hRw.mono t3) ⟨_, [], rfl, ⟨tp, (valV kvs (Sum.inl k : Key)).getD (.ref a), rfl, SqT.of ?_, ?_⟩, rfl⟩⟩
      · rw [upd_ne hne.symm]
        exact e3 pl _ hp
      · rw [upd_ne (ne_of_none hrs htp).symm, upd_same]
      · exact hres.mono t3
    | int n =>
      have hrep' := hrep
      unfold Rep at hrep'
      subst hrep'
      refine iteF ⟨_, rfl, _, _, _, _, false, rfl, .ty "tuple", .base (.int n), kit_ty (by decide +kernel), false, rfl, iteF ?_⟩
      refine ⟨_, rfl, .inl ⟨rfl, _, SqL.of hrs⟩, _, rfl, (by show 2 ≤ sizeLine; decide), fun tp htp => ?_⟩
      have e3 := Ex.new (o := HO.tup [.int n, .int 0]) htp
      have hrs2 := e3 rr _ hrs
      have t3 : Tups K H' (upd (upd H' tp (.tup [.int n, .int 0])) rr (.lst (rs ++ [V.ref tp]))) := (Tups.of e3).trans (Tups.lst hrs2)
      refine ⟨rr, rs, _, rfl, rfl, hrs2, small5' (by omega), _, _, rfl, Ex.mut (e2.trans e3) hrr, tu.trans t3, ?_, upd_same, RwReps.app (hRw.mono t3) ⟨_, [], rfl, ⟨tp, .int n, rfl, SqT.of ?_, ?_⟩, rfl⟩⟩
      · rw [upd_ne hne.symm]
        exact e3 pl _ hp
      · rw [upd_ne (ne_of_none hrs htp).symm, upd_same]
      · unfold Rep
        rfl
    | atom n =>
      have hrep' := hrep
      unfold Rep at hrep'
      subst hrep'
      refine iteF ⟨_, rfl, _, _, _, _, false, rfl, .ty "tuple", .base (.str n), kit_ty (by decide +kernel), false, rfl, iteF ?_⟩
      refine ⟨_, rfl, .inl ⟨rfl, _, SqL.of hrs⟩, _, rfl, (by show 2 ≤ sizeLine; decide), fun tp htp => ?_⟩
      have e3 := Ex.new (o := HO.tup [.str n, .int 0]) htp
      have hrs2 := e3 rr _ hrs
      have t3 : Tups K H' (upd (upd H' tp (.tup [.str n, .int 0])) rr (.lst (rs ++ [V.ref tp]))) := (Tups.of e3).trans (Tups.lst hrs2)
      refine ⟨rr, rs, _, rfl, rfl, hrs2, small5' (by omega), _, _, rfl, Ex.mut (e2.trans e3) hrr, tu.trans t3, ?_, upd_same, RwReps.app (hRw.mono t3) ⟨_, [], rfl, ⟨tp, .str n, rfl, SqT.of ?_, ?_⟩, rfl⟩⟩
      · rw [upd_ne hne.symm]
        exact e3 pl _ hp
      · rw [upd_ne (ne_of_none hrs htp).symm, upd_same]
      · unfold Rep
        rfl
    | comp f as =>
      unfold Rep at hrep
      obtain ⟨a, ws, rfl, hT, hA⟩ := hrep
      have hl2 := hA.len
      refine iteF ⟨_, rfl, _, _, _, _, true, rfl, .ty "tuple", tyx_tup hT, kit_ty (by decide +kernel), true, rfl, iteT ?_⟩
      refine ⟨_, rfl, .inl ⟨rfl, _, SqL.of hrs⟩, _, rfl, a, _, 0, _, rfl, rfl, hT, at0, _, rfl, a, _, rfl, .inr hT, _, _, rfl, rfl, (by show 2 ≤ sizeLine; decide), fun tp htp => ?_⟩
      have en : ((V.str f :: ws).length : Int) - 1 = (as.length : Int) := by
        rw [List.length_cons]
        omega
      have e3 := Ex.new (o := HO.tup [.str f, .int (((V.str f :: ws).length : Int) - 1)]) htp
      have hrs2 := e3 rr _ hrs
      have t3 : Tups K H' (upd (upd H' tp (.tup [.str f, .int (((V.str f :: ws).length : Int) - 1)])) rr (.lst (rs ++ [V.ref tp]))) := (Tups.of e3).trans (Tups.lst hrs2)
      refine ⟨rr, rs, _, rfl, rfl, hrs2, small5' (by omega), _, _, rfl, Ex.mut (e2.trans e3) hrr, tu.trans t3, ?_, upd_same, RwReps.app (hRw.mono t3) ⟨_, [], rfl, ⟨tp, rfl, SqT.of ?_⟩, rfl⟩⟩
      · rw [upd_ne hne.symm]
        exact e3 pl _ hp
      · rw [upd_ne (ne_of_none hrs htp).symm, upd_same]
        exact congrArg (fun z => some (HO.tup [V.str f, V.int z])) en
  · rintro σ' H' ⟨x3, rs, rfl, e2, tu, hp, hrs, hRw⟩
    rw [← hlen, List.take_of_length_le (by rw [len_pre]; exact Nat.le_refl _), row_pre] at hRw
    have hl3 : (rowOf g t).length = size t := by rw [← row_pre, List.length_map, len_pre]
    refine ⟨_, rfl, rr, _, rs, sub g t, rfl, SqL.of hrs, hRw, ?_, rooms_row g t [] hO, by omega, fun u H2 e3 hu => q u H2 (e2.trans e3) hu⟩
    rw [fold_row]
    rfl

/-! ### numbers_in -/
def spNums (K : PySem.W.Frag) : Sp := fun vs H Q _ => ∃ v t, vs = [v] ∧ Rep K H t v ∧ Ok t ∧ size t ≤ 50000 ∧ ∀ p H', H p = none → Ex H H' → H' p = some (.lst ((varsOf t).map V.int)) → Q (.ref p) H'
theorem ok_numbers_in (T : Tx K mg) : FnOk P w K mg base CX0 3 T.f_numbers_in T.d_numbers_in ["term"] (spNums K) := by
  refine T.h_numbers_in.F.ok sc_numbers_in (fun vs H Q E h => ?_) (fun cdv A outer s H vs Q E hr h => ?_)
  · obtain ⟨v, t, rfl, _⟩ := h
    rfl
  obtain ⟨v, t, rfl, hR, hO, hz, q⟩ := h
  have hu := hu_of hr
  refine ⟨_, (pss_cons (ps_set (i := 1) sc_numbers_in.nd rfl (Or.inl rfl) pe_dnewK)
    (pss_cons (ps_for PassesOwn.never rfl (pi_list (cl (ok_parts_of T) T.h_parts_of hr (pa_cons (pv 0) pa_nil))) (pg_name (i := 2) sc_numbers_in.nd rfl (Or.inl rfl))
      (pss_one (ps_if (pt_val (cl (ok_is_variable T) T.h_is_variable hr (pa_cons (pv 2) pa_nil)))
      (pss_one (ps_dput hu (pv 1) (pe_ix ix_tup (pv 2) pe_int (fun _ _ => rfl)) pe_bl rfl))
      pss_nil)))
    (pss_one (ps_ret (pe_callTy (call_listD rfl) rfl T.b_list (by decide +kernel) (pa_cons (pv 1) pa_nil)))))), ?_⟩
  intro d hd
  have e0 : Ex H (upd H d (.dK [])) := Ex.new hd
  refine ⟨_, rfl, v, t, rfl, hR.mono (Tups.of e0), hz, fun pl ps H1 hpl e1 hL hPs => ?_⟩
  have hne : d ≠ pl := ne_of_none upd_same hpl
  have hlen := hPs.len
  rw [len_pre] at hlen
  refine ⟨pl, rfl, ⟨ps, SqL.of hL⟩, for_list (fun i σ' H' => ∃ x, σ' = [some v, some (.ref d), x] ∧ Ex H H' ∧ Tups K H1 H' ∧ H' pl = some (.lst ps) ∧ H' d = some (.dK (mkD (((pre t).take i).foldl stepVar []))))
    ⟨none, rfl, e0.trans e1, Tups.refl _, hL, e1 d _ upd_same⟩ (fun i σ' H' _ ⟨_, _, _, _, h, _⟩ => SqL.of h) ?_ ?_⟩
  · rintro i x σ' H' hx ⟨x3, rfl, e2, tu, hp, hD⟩
    obtain ⟨ti, hti, hrep⟩ := (hPs.mono tu).get hx
    have hOi := oks_get (ok_pre hO) hti
    have hi : i < size t := by
      rw [← len_pre]
      exact (List.getElem?_eq_some_iff.mp hti).1
    refine ⟨_, rfl, x, ti, rfl, hrep, hOi, _, rfl, ?_⟩
    have hfold := fold_take_succ stepVar [] hti
    cases ti with
    | var k =>
      unfold Rep at hrep
      obtain ⟨a, rfl, hT⟩ := hrep
      have hl2 := fold_len ((pre t).take i) []
      rw [List.length_nil, List.length_take] at hl2
      refine iteT ⟨_, rfl, _, rfl, a, _, 0, _, rfl, rfl, hT, at0, d, _, rfl, .inl ⟨_, Sum.inl k, hD, rfl, ?_, rfl⟩, ?_⟩
      · unfold mkD
        rw [List.length_map]
        exact small5' (by omega)
      · have t3 : Tups K H' (upd H' d (.dK (putK (mkD (((pre t).take i).foldl stepVar [])) (Sum.inl k : Key) (.bl true)))) := tups_dk hD
        refine ⟨_, rfl, Ex.mut e2 hd, tu.trans t3, ?_, ?_⟩
        · rw [upd_ne hne.symm]
          exact hp
        · rw [upd_same, hfold, mkD_put]
          rfl
    | int n => exact iteF ⟨_, rfl, e2, tu, hp, by rw [hfold]; exact hD⟩
    | atom n => exact iteF ⟨_, rfl, e2, tu, hp, by rw [hfold]; exact hD⟩
    | comp f as => exact iteF ⟨_, rfl, e2, tu, hp, by rw [hfold]; exact hD⟩
  · rintro σ' H' ⟨x3, rfl, e2, tu, hp, hD⟩
    rw [← hlen, List.take_of_length_le (by rw [len_pre]; exact Nat.le_refl _)] at hD
    refine ⟨_, rfl, d, _, rfl, .inl hD, fun p hp2 => q p _ (Evl.fresh_back e2 hp2) (e2.trans (Ex.new hp2)) ?_⟩
    rw [upd_same]
    unfold mkD
    rw [List.map_map]
    rfl
end
end Hm

set_option Elab.async false
set_option linter.all false
set_option maxRecDepth 100000
set_option maxHeartbeats 4000000
namespace Hm
open PySem PySem.Spec PyProof.Rows L2 HT
open Evl (Ex)
/-- a comprehension of two walks: the outer one -/
theorem lc2_it {J : It} {n : Nat} {G : Hp → Prop} {Y : Nat → Hp → V → Hp → Prop} (w : Walk J n G Y) {g : TG} {tt : TT} {vs : List Nat} {σ : L2.St} {H1 : Hp} {D : Addr} {Qd : Hp → Prop} {In : L2.St → Hp → (Hp → Prop) → Prop}
    (Pv : Nat → Hp → Prop) (h0 : Pv 0 (upd H1 D (.lst []))) (hG : ∀ i H, i ≤ n → Pv i H → G H)
    (hs : ∀ i x H H', i < n → Pv i H → Y i H x H' → g x (wipe σ vs) H' fun σ2 H2 => wipe σ2 vs = wipe σ vs ∧ tt σ2 H2 fun b H3 => if b = true then In σ2 H3 (Pv (i + 1)) else Pv (i + 1) H3) (hd : ∀ H, Pv n H → Qd H) :
    ∃ W : Nat → Nat → Hp → Prop, (∃ m, W 0 m (upd H1 D (.lst []))) ∧ ∀ i m H, W i m H →
      (J.stop i H ∧ Qd H) ∨ (J.go i H ∧ ∃ Nx : Hp → Prop, (∀ H', Nx H' → ∃ m', m' < m ∧ W (i + 1) m' H') ∧ ∀ x H', J.yld i H x H' → g x (wipe σ vs) H' fun σ2 H2 => wipe σ2 vs = wipe σ vs ∧ tt σ2 H2 fun b H3 => if b = true then In σ2 H3 Nx else Nx H3) := by
  refine ⟨fun i m H => m = n - i ∧ i ≤ n ∧ Pv i H, ⟨n, by simp, Nat.zero_le _, h0⟩, ?_⟩
  rintro i m H ⟨rfl, hi, p⟩
  have q := hG i H hi p
  by_cases hlt : i < n
  · exact .inr ⟨w.goes i H hlt q, Pv (i + 1), fun H' p' => ⟨n - (i + 1), by omega, rfl, hlt, p'⟩, fun x H' y => hs i x H H' hlt p (w.yields i H x H' hlt q y)⟩
  · have e : i = n := by omega
    subst e
    exact .inl ⟨w.stops H q, hd H p⟩
/-- .. the inner one -/
theorem in_it {J1 : It} {n : Nat} {G : Hp → Prop} {Y : Nat → Hp → V → Hp → Prop} (w : Walk J1 n G Y) {g1 : TG} {tt1 : TT} {te : TE} {vs1 : List Nat} {σ2 : L2.St} {H4 : Hp} {D : Addr} {Nx : Hp → Prop}
    (Pv : Nat → Hp → Prop) (h0 : Pv 0 H4) (hG : ∀ i H, i ≤ n → Pv i H → G H)
    (hs : ∀ i x H H', i < n → Pv i H → Y i H x H' → g1 x (wipe σ2 vs1) H' fun σ3 H5 => wipe σ3 vs1 = wipe σ2 vs1 ∧ tt1 σ3 H5 fun b H6 =>
        if b = true then te σ3 H6 fun y H7 => ∃ acc, H7 D = some (.lst acc) ∧ acc.length < sizeLine ∧ Pv (i + 1) (upd H7 D (.lst (acc ++ [y]))) else Pv (i + 1) H6) (hd : ∀ H, Pv n H → Nx H) :
    ∃ W1 : Nat → Nat → Hp → Prop, (∃ m, W1 0 m H4) ∧ ∀ j k H, W1 j k H →
      (J1.stop j H ∧ Nx H) ∨ (J1.go j H ∧ ∃ Nx1 : Hp → Prop, (∀ H', Nx1 H' → ∃ k', k' < k ∧ W1 (j + 1) k' H') ∧ ∀ x H', J1.yld j H x H' → g1 x (wipe σ2 vs1) H' fun σ3 H5 => wipe σ3 vs1 = wipe σ2 vs1 ∧ tt1 σ3 H5 fun b H6 =>
        if b = true then te σ3 H6 fun y H7 => ∃ acc, H7 D = some (.lst acc) ∧ acc.length < sizeLine ∧ Nx1 (upd H7 D (.lst (acc ++ [y]))) else Nx1 H6) := by
  refine ⟨fun i m H => m = n - i ∧ i ≤ n ∧ Pv i H, ⟨n, by simp, Nat.zero_le _, h0⟩, ?_⟩
  rintro i m H ⟨rfl, hi, p⟩
  have q := hG i H hi p
  by_cases hlt : i < n
  · exact .inr ⟨w.goes i H hlt q, Pv (i + 1), fun H' p' => ⟨n - (i + 1), by omega, rfl, hlt, p'⟩, fun x H' y => hs i x H H' hlt p (w.yields i H x H' hlt q y)⟩
  · have e : i = n := by omega
    subst e
    exact .inl ⟨w.stops H q, hd H p⟩
/-- a term with its variables numbered anew -/
def rg (xs : List Int) (k : Int) : Tm := if k ∈ xs then .var ((xs.idxOf k : Nat) : Int) else .var k
def renum (t : Tm) : Tm := sub (rg (varsOf t)) t
theorem idx_at {xs : List Int} (hn : xs.Nodup) {j : Nat} {k : Int} (h : xs[j]? = some k) : xs.idxOf k = j := by
  obtain ⟨hj, e⟩ := List.getElem?_eq_some_iff.mp h
  have hm : k ∈ xs := e ▸ List.getElem_mem hj
  have h2 : xs.idxOf k < xs.length := List.idxOf_lt_length_of_mem hm
  have h3 : xs[xs.idxOf k]? = some k := by
    rw [List.getElem?_eq_getElem h2, List.getElem_idxOf h2]
  exact nd_ix hn h3 h
section
variable {P : Program} {w : World} {K : PySem.W.Frag} {mg : Str → Option Value} {base : Heap}
theorem ok_size_of (T : Tx K mg) : FnOk P w K mg base CX0 6 T.f_size_of T.d_size_of ["term"] (spTerm K fun t u => u = .int (size t : Int)) := by
  refine T.h_size_of.F.ok sc_size_of (fun vs H Q E h => ?_) (fun cdv A outer s H vs Q E hr h => ?_)
  · obtain ⟨v, t, rfl, _⟩ := h
    rfl
  obtain ⟨v, t, rfl, hR, hO, hz, q⟩ := h
  refine ⟨_, (pss_cons (ps_expr (cl (ok_demand_term T) T.h_demand_term hr (pa_cons (pv 0) pa_nil)))
    (pss_one (ps_ret (pe_callB call_len_seq rfl T.b_len (by decide +kernel) (pa_cons (cl (ok_parts_of T) T.h_parts_of hr (pa_cons (pv 0) pa_nil)) pa_nil))))), ?_⟩
  refine ⟨_, rfl, v, t, rfl, hR, hO, hz, fun _ H1 e1 _ => ?_⟩
  refine ⟨_, rfl, v, t, rfl, hR.mono (Tups.of e1), hz, fun p ws H2 hp e2 hL hPs => ?_⟩
  refine ⟨p, ws, rfl, .inl (SqL.of hL), ?_⟩
  rw [← hPs.len, len_pre]
  exact q _ _ (e1.trans e2) rfl
def spVars (K : PySem.W.Frag) : Sp := spNums K
theorem ok_variables_of (T : Tx K mg) : FnOk P w K mg base CX0 6 T.f_variables_of T.d_variables_of ["term"] (spNums K) := by
  refine T.h_variables_of.F.ok sc_variables_of (fun vs H Q E h => ?_) (fun cdv A outer s H vs Q E hr h => ?_)
  · obtain ⟨v, t, rfl, _⟩ := h
    rfl
  obtain ⟨v, t, rfl, hR, hO, hz, q⟩ := h
  refine ⟨_, (pss_cons (ps_expr (cl (ok_demand_term T) T.h_demand_term hr (pa_cons (pv 0) pa_nil)))
    (pss_one (ps_ret (cl (ok_numbers_in T) T.h_numbers_in hr (pa_cons (pv 0) pa_nil))))), ?_⟩
  refine ⟨_, rfl, v, t, rfl, hR, hO, hz, fun _ H1 e1 _ => ?_⟩
  exact ⟨_, rfl, v, t, rfl, hR.mono (Tups.of e1), hO, hz, fun p H2 hp e2 hL => q p H2 (Evl.fresh_back e1 hp) (e1.trans e2) hL⟩
def spRen (K : PySem.W.Frag) : Sp := fun vs H Q _ => ∃ v t, vs = [v] ∧ Rep K H t v ∧ Ok t ∧ size t ≤ 50000 ∧ ∀ u H', Ex H H' → Rep K H' (renum t) u → Q u H'
theorem putK_len (kvs : List (Key × V)) (k : Key) (v : V) : (putK kvs k v).length ≤ kvs.length + 1 := by
  unfold putK
  split
  · rw [List.length_map]
    omega
  · rw [List.length_append, List.length_singleton]
    exact Nat.le_refl _
theorem ok_renumbered (T : Tx K mg) : FnOk P w K mg base CX0 6 T.f_renumbered T.d_renumbered ["term"] (spRen K) := by
  refine T.h_renumbered.F.ok sc_renumbered (fun vs H Q E h => ?_) (fun cdv A outer s H vs Q E hr h => ?_)
  · obtain ⟨v, t, rfl, _⟩ := h
    rfl
  obtain ⟨v, t, rfl, hR, hO, hz, q⟩ := h
  refine ⟨_, (pss_cons (ps_expr (cl (ok_demand_term T) T.h_demand_term hr (pa_cons (pv 0) pa_nil)))
    (pss_one (ps_ret (cl (ok_replaced T) T.h_replaced hr (pa_cons (pv 0) (pa_cons (pe_dc (own := [("place", 1), ("k", 2)]) (g := gTup K 2 (gCons (gName 1) (gCons (gName 2) gNil))) rfl sc_renumbered.nd (pi_enum rfl T.b_enumerate (pa_cons (cl (ok_numbers_in T) T.h_numbers_in hr (pa_cons (pv 0) pa_nil)) pa_nil)) (blkOk_by (own := [("place", 1), ("k", 2)]) (N := ["term", "place", "k"]) (sc := defScope s_renumbered) (by decide +kernel)) (fun _ _ _ _ _ => pg_tup rfl (pgs_cons (pg_name (i := 1) sc_renumbered.nd rfl (Or.inl rfl)) (pgs_cons (pg_name (i := 2) sc_renumbered.nd rfl (Or.inl rfl)) pgs_nil))) (fun _ _ _ _ _ => pts_nil) (fun _ _ _ _ _ => (pv 2)) (fun _ _ _ _ _ => (pe_tup (pa_cons (pv 1) pa_nil)))) pa_nil)))))), ?_⟩
  refine ⟨_, rfl, v, t, rfl, hR, hO, hz, fun _ H1 e1 _ => ?_⟩
  refine ⟨_, rfl, _, rfl, v, t, rfl, hR.mono (Tups.of e1), hO, hz, fun pl H2 hpl e2 hL => ?_⟩
  have hnd := varsOf_nodup t
  have hvl := varsOf_len t
  generalize hxs : varsOf t = xs at *
  refine ⟨pl, xs.map V.int, rfl, SqL.of hL, fun D hD => dc_it walk_enum (fun i H' => Ex H2 H' ∧ ∃ kvs, H' D = some (.dK kvs) ∧ kvs.length ≤ i ∧
      (∀ k u, valV kvs (Sum.inl k : Key) = some u → ∃ j : Nat, j < i ∧ xs[j]? = some k ∧ Rep K H' (.var (j : Int)) u) ∧ (∀ k, valV kvs (Sum.inl k : Key) = none → ∀ j : Nat, j < i → xs[j]? ≠ some k))
    ⟨Ex.new hD, [], upd_same, Nat.le_refl _, fun k u h => by simp [valV] at h, fun k _ j hj => absurd hj (Nat.not_lt_zero _)⟩ (fun i H' _ h => Evl.ex_l h.1 (SqL.of hL)) ?_ ?_⟩
  · rintro i x H3 H4 hi ⟨e3, kvs, hK, hkl, hk1, hk2⟩ ⟨TT, x1, x2, rfl, hTT, rfl, hx1, hx2⟩
    have e4 := Ex.new (o := HO.tup [x1, x2]) hTT
    have hx1' : x1 = .int (i : Int) := (Option.some.inj hx1).symm
    subst hx1'
    rw [List.length_map] at hi
    obtain ⟨k, hk, rfl⟩ : ∃ k, xs[i]? = some k ∧ x2 = .int k := by
      have hx3 : (xs.map V.int)[i]? = some x2 := hx2
      rw [List.getElem?_map, List.getElem?_eq_getElem hi] at hx3
      rw [List.getElem?_eq_getElem hi]
      exact ⟨_, rfl, (Option.some.inj hx3).symm⟩
    refine ⟨TT, _, rfl, SqT.of upd_same, rfl, _, _, rfl, _, _, rfl, rfl, rfl, yesI ⟨_, rfl, _, rfl, (by show 1 ≤ sizeLine; decide), fun tp htp => ?_⟩⟩
    have e5 := Ex.new (o := HO.tup [V.int (i : Int)]) htp
    have hK5 := e5 D _ (e4 D _ hK)
    refine ⟨kvs, Sum.inl k, rfl, hK5, small5' (by omega), Ex.mut ((e3.trans e4).trans e5) hD, _, upd_same, Nat.le_trans (putK_len _ _ _) (by omega), fun k' u hu => ?_, fun k' hn j hj => ?_⟩
    · have tK : Tups K H3 (upd (upd (upd H3 TT (.tup [.int (i : Int), .int k])) tp (.tup [V.int (i : Int)])) D (.dK (putK kvs (Sum.inl k : Key) (.ref tp)))) := ((Tups.of e4).trans (Tups.of e5)).trans (tups_dk hK5)
      rw [valV_put] at hu
      by_cases hkk : (Sum.inl k' : Key) = Sum.inl k
      · rw [if_pos hkk] at hu
        injection hkk with hkk
        subst hkk
        have := Option.some.inj hu
        subst this
        refine ⟨i, Nat.lt_succ_self _, hk, ?_⟩
        unfold Rep
        refine ⟨tp, rfl, SqT.of ?_⟩
        rw [upd_ne (ne_of_none (e4 D _ hK) htp).symm, upd_same]
      · rw [if_neg hkk] at hu
        obtain ⟨j, hj, h1, h2⟩ := hk1 k' u hu
        exact ⟨j, by omega, h1, h2.mono tK⟩
    · rw [valV_put] at hn
      by_cases hkk : (Sum.inl k' : Key) = Sum.inl k
      · rw [if_pos hkk] at hn
        cases hn
      · rw [if_neg hkk] at hn
        by_cases hji : j = i
        · subst hji
          rw [hk]
          intro z
          exact hkk (by rw [Option.some.inj z])
        · exact hk2 k' hn j (by omega)
  · rintro H3 ⟨e3, kvs, hK, hkl, hk1, hk2⟩
    rw [List.length_map] at hk1 hk2
    refine ⟨v, t, D, rg xs, rfl, ((hR.mono (Tups.of e1)).mono (Tups.of e2)).mono (Tups.of e3), hO, hz, ⟨kvs, .inl hK, fun k => ⟨fun u hu => ?_, fun hn => ?_⟩⟩, fun u H4 e4 hu => q u H4 (((e1.trans e2).trans e3).trans e4) ?_⟩
    · obtain ⟨j, hj, h1, h2⟩ := hk1 k u hu
      have hm : k ∈ xs := List.mem_of_getElem? h1
      unfold rg
      rw [if_pos hm, idx_at hnd h1]
      exact h2
    · have hm : ¬ k ∈ xs := fun hm => by
        obtain ⟨j, hj, h1⟩ := List.getElem_of_mem hm
        exact hk2 k hn j hj (by rw [List.getElem?_eq_getElem hj, h1])
      unfold rg
      rw [if_neg hm]
    · unfold renum
      rw [hxs]
      exact hu
/-- the arguments of a term stay where they were told -/
theorem reps_vals {K : PySem.W.Frag} {H H' : Hp} {ts : List Tm} {ws : List V} (h : Reps K H ts ws) (e : Tups K H H') : Reps K H' ts ws := h.mono e
/-! ### depth_of -/
theorem ok_depth_of (T : Tx K mg) : FnOk P w K mg base CX0 6 T.f_depth_of T.d_depth_of ["term"] (spTerm K fun t u => u = .int (depth t : Int)) := by
  refine T.h_depth_of.F.ok sc_depth_of (fun vs H Q E h => ?_) (fun cdv A outer s H vs Q E hr h => ?_)
  · obtain ⟨v, t, rfl, _⟩ := h
    rfl
  obtain ⟨v, t, rfl, hR, hO, hz, q⟩ := h
  refine ⟨_, (pss_cons (ps_expr (cl (ok_demand_term T) T.h_demand_term hr (pa_cons (pv 0) pa_nil)))
    (pss_cons (ps_set (i := 1) sc_depth_of.nd rfl (Or.inl rfl) pe_int)
    (pss_cons (ps_set (i := 2) sc_depth_of.nd rfl (Or.inl rfl) (pe_lst (pa_cons (pv 0) pa_nil)))
    (pss_cons (ps_while PassesOwn.never (pt_truth (pv 2) (by intro _; rfl))
      (pss_cons (ps_aug (i := 1) sc_depth_of.nd rfl (Or.inl rfl) pe_int ip_add)
    (pss_one (ps_setLc2 (i := 2) (wi1 := iTup K (tCall (spArgs K) [] E0 (tCons (tVar 3) tNil))) (own := [("part", 3), ("inner", 4)]) (g := gName 3) (g1 := gName 4) (vs1 := [4]) rfl sc_depth_of.nd rfl rfl (sw_true rfl rfl rfl (by decide +kernel)) (pi_list (pv 2)) (blkOk_by (own := [("part", 3), ("inner", 4)]) (N := ["term", "depth", "layer", "part", "inner"]) (sc := defScope s_depth_of) (by decide +kernel)) (by decide) (fun _ _ _ _ _ => pg_name (i := 3) sc_depth_of.nd rfl (Or.inl rfl)) (fun _ _ _ _ _ => pts_nil) (fun _ _ _ _ _ => (pi_tup (cl (ok_arguments_of T) T.h_arguments_of hr (pa_cons (pv 3) pa_nil)))) (fun _ _ _ _ _ => pg_name (i := 4) sc_depth_of.nd rfl (Or.inl rfl)) (fun _ _ _ _ _ => pts_nil) (fun _ _ _ _ _ => (pv 4))))))
    (pss_one (ps_ret (pv 1))))))), ?_⟩
  refine ⟨_, rfl, v, t, rfl, hR, hO, hz, fun _ H1 e1 _ => ?_⟩
  refine ⟨_, rfl, (by show 1 ≤ sizeLine; decide), fun l hl => ?_⟩
  have e2 := Ex.new (o := HO.lst [v]) hl
  refine ⟨fun m σ' H' => ∃ (dn : Nat) (l : Addr) (ts : List Tm) (ws : List V) (x3 x4 : Option V), σ' = [some v, some (.int (dn : Int)), some (.ref l), x3, x4] ∧ Ex H H' ∧ H' l = some (.lst ws) ∧ Reps K H' ts ws ∧ dn + depths ts = depth t ∧ sizes ts = m ∧ m ≤ 50000,
    ⟨size t, 0, l, [t], [v], none, none, rfl, e1.trans e2, upd_same, Reps.one ((hR.mono (Tups.of e1)).mono (Tups.of e2)), by simp [depths], sizes_one t, hz⟩, ?_⟩
  rintro m σ' H' ⟨dn, l, ts, ws, x3, x4, rfl, e3, hL, hRs, hd, rfl, hm⟩
  refine ⟨_, rfl, _, .inl ⟨ws, SqL.of hL, rfl⟩, ?_⟩
  have hlen := hRs.len
  cases ts with
  | nil =>
    rw [hRs.nil_inv]
    refine iteF ⟨_, rfl, ?_⟩
    have : dn = depth t := by simpa [depths] using hd
    rw [this]
    exact q _ _ e3 rfl
  | cons t0 ts =>
    obtain ⟨v0, ws0, rfl, hr0, hrs0⟩ := hRs.cons_inv
    refine iteT ⟨fun σ2 H2 => ∃ m', m' < sizes (t0 :: ts) ∧ ∃ (dn : Nat) (l : Addr) (ts : List Tm) (ws : List V) (x3 x4 : Option V), σ2 = [some v, some (.int (dn : Int)), some (.ref l), x3, x4] ∧ Ex H H2 ∧ H2 l = some (.lst ws) ∧ Reps K H2 ts ws ∧ dn + depths ts = depth t ∧ sizes ts = m' ∧ m' ≤ 50000, fun _ _ h => h, ?_⟩
    have hsl := sizes_layer (t0 :: ts)
    generalize hTS : t0 :: ts = TS at *
    generalize hWS : v0 :: ws0 = WS at *
    refine ⟨_, rfl, _, _, rfl, rfl, ?_⟩
    refine ⟨_, rfl, l, rfl, ⟨WS, SqL.of hL⟩, fun D hD => ?_⟩
    refine lc2_it (In := fun σ2 H3 Nx => iTup K (tCall (spArgs K) [] E0 (tCons (tVar 3) tNil)) σ2 H3 fun J1 H4 => _) walk_list (fun i H2 => Ex H' H2 ∧ ∃ us, H2 D = some (.lst us) ∧ Reps K H2 (layer (TS.take i)) us) ⟨Ex.new hD, [], upd_same, Reps.nil⟩ (fun i H2 _ h => Evl.ex_l h.1 (SqL.of hL)) ?_ ?_
    · rintro i x H2 _ hi ⟨e4, us, hU, hUs⟩ ⟨rfl, hx⟩
      obtain ⟨ti, hti, hri⟩ := (hRs.mono (Tups.of e4)).get hx
      refine ⟨rfl, yesI ?_⟩
      refine ⟨_, rfl, x, ti, rfl, hri, fun p ws2 H3 hp e5 hP hPs => ?_⟩
      refine ⟨p, rfl, ⟨ws2, SqT.of hP⟩, ?_⟩
      have hU3 := e5 D _ hU
      have hlp := hPs.len
      have hpD : p ≠ D := fun z => by
        subst z
        rw [hU] at hp
        cases hp
      have hlu := (hUs.mono (Tups.of (K := K) e5)).len
      have hsz : (layer (TS.take i)).length + ti.args.length ≤ 50000 := by
        have h1 := len_sizes (layer (TS.take (i + 1)))
        have h2 := sizes_layer (TS.take (i + 1))
        have h3 : layer (TS.take (i + 1)) = layer (TS.take i) ++ ti.args := by
          unfold layer
          rw [List.take_add_one, hti]
          simp
        have h4 : sizes (TS.take (i + 1)) ≤ sizes TS := by
          have := sizes_app (TS.take (i + 1)) (TS.drop (i + 1))
          rw [List.take_append_drop] at this
          omega
        rw [h3, List.length_append] at h1
        rw [h3] at h2
        omega
      refine in_it walk_tup (fun j H5 => Ex H' H5 ∧ Tups K H3 H5 ∧ H5 p = some (.tup ws2) ∧ ∃ us2, H5 D = some (.lst us2) ∧ Reps K H5 (layer (TS.take i) ++ ti.args.take j) us2) ⟨e4.trans e5, Tups.refl _, hP, us, hU3, ?_⟩ (fun j H5 _ h => SqT.of h.2.2.1) ?_ ?_
      · rw [List.take_zero, List.append_nil]
        exact hUs.mono (Tups.of e5)
      · rintro j y H5x H5 hj ⟨e6, tu6, hP5, us2, hU5, hUs5⟩ ⟨rfl, hy⟩
        have hPs5 : Reps K H5 ti.args ws2 := hPs.mono tu6
        obtain ⟨tj, htj, hrj⟩ := hPs5.get hy
        have hl5 := hUs5.len
        rw [List.length_append, List.length_take] at hl5
        refine ⟨rfl, yesI ⟨_, rfl, us2, hU5, small5' (by omega), Ex.mut e6 hD, tu6.trans (Tups.lst hU5), ?_, _, upd_same, ?_⟩⟩
        · rw [upd_ne hpD]
          exact hP5
        · rw [List.take_add_one, htj]
          have t6 : Tups K H5 (upd H5 D (.lst (us2 ++ [y]))) := Tups.lst hU5
          show Reps K _ (layer (TS.take i) ++ (ti.args.take j ++ [tj])) _
          rw [← List.append_assoc]
          exact Reps.app (hUs5.mono t6) (Reps.one (hrj.mono t6))
      · rintro H5 ⟨e6, tu6, hP5, us2, hU5, hUs5⟩
        refine ⟨e6, us2, hU5, ?_⟩
        have h3 : layer (TS.take (i + 1)) = layer (TS.take i) ++ ti.args := by
          unfold layer
          rw [List.take_add_one, hti]
          simp
        rw [h3]
        rw [← hlp, List.take_of_length_le (Nat.le_refl _)] at hUs5
        exact hUs5
    · rintro H2 ⟨e4, us, hU, hUs⟩
      rw [← hlen, List.take_of_length_le (Nat.le_refl _)] at hUs
      refine ⟨sizes (layer TS), ?_, dn + 1, D, layer TS, us, x3, x4, rfl, e3.trans e4, hU, hUs, ?_, rfl, ?_⟩
      · rw [← hTS] at hsl ⊢
        rw [List.length_cons] at hsl
        omega
      · have := depths_layer t0 ts
        rw [hTS] at this
        omega
      · omega
end
end Hm

set_option Elab.async false
set_option linter.all false
set_option maxRecDepth 100000
set_option maxHeartbeats 4000000
namespace Hm
open PySem PySem.Spec PyProof.Rows L2 HT
open Evl (Ex)
/-! ## two more operators -/
def CPowW (i j : Int) : Prop := 0 ≤ j ∧ (Builtin.Int.intBits i : Int) * j ≤ 2 ^ 27
def rMulS : R2 := fun x y H Q => ∃ z k, x = .str z ∧ y = .int k ∧ 2 ≤ k ∧ k ≤ 1000 ∧ z.length = 1 ∧ (⟨(List.replicate k.toNat z.cps).foldl (· ++ ·) #[]⟩ : Str).length ≤ sizeLine ∧ Q (.str ⟨(List.replicate k.toNat z.cps).foldl (· ++ ·) #[]⟩) H
section
variable {X : Cx}
theorem op_powW : OpR X (binaryOp .Pow) (rI CPowW fun i j => .int (i ^ j.toNat)) := opI fun _ _ _ _ _ _ _ hc q => pow_int hc.1 hc.2 q
theorem op_mulS : OpR X (binaryOp .Mult) rMulS := by
  intro pins s σ H x y v u Q I rx ry h
  obtain ⟨z, k, rfl, rfl, h1, h2, hz, hl, q⟩ := h
  obtain ⟨t, rfl⟩ := rx
  obtain ⟨t', rfl⟩ := ry
  have hk : ¬ k < 1 := by omega
  have hk1 : ¬ ((k == 1 || z.length == 0) = true) := by
    rw [Bool.or_eq_true]
    rintro (e | e)
    · have := eq_of_beq e
      omega
    · have := eq_of_beq e
      omega
  refine PySem.P.mul_str ?_ (fun _ _ => ?_) (fun _ _ => ?_) ?_
  · rw [decide_eq_false (by omega), decide_eq_false (by omega)]
    rfl
  · rw [hz]
    have : (2 ^ 63 - 1 : Int) / k ≥ 1 := (Int.le_ediv_iff_mul_le (by omega)).mpr (by omega)
    omega
  · rw [hz]
    unfold Builtin.Str.tooLong
    exact decide_eq_false (by rw [sizeLine_eq]; omega)
  · rw [if_neg hk, if_neg hk1]
    exact ⟨hl, ⟨.str _, H, I.tok _, ⟨_, rfl⟩, q⟩⟩
end
/-! ## draws: a well is a list of three numbers that changes; what is drawn is any number that may come -/
def Well (H : Hp) (a : Addr) : Prop := ∃ x y z : Int, H a = some (.lst [.int x, .int y, .int z])
/-- all but the well is as it was -/
structure Dr (a : Addr) (H H' : Hp) : Prop where
  well : Well H' a
  keep : ∀ b o, b ≠ a → H b = some o → H' b = some o
theorem Dr.ex {a : Addr} {H H' : Hp} (h : Well H a) (e : Ex H H') : Dr a H H' := by
  obtain ⟨x, y, z, h⟩ := h
  exact ⟨⟨x, y, z, e _ _ h⟩, fun b o _ q => e b o q⟩
theorem Dr.trans {a : Addr} {H H1 H2 : Hp} (p : Dr a H H1) (q : Dr a H1 H2) : Dr a H H2 := ⟨q.well, fun b o n h => q.keep b o n (p.keep b o n h)⟩
theorem Dr.tups {K : PySem.W.Frag} {a : Addr} {H H' : Hp} (h : Well H a) (d : Dr a H H') : Tups K H H' := fun b ys q => by
  obtain ⟨x, y, z, h⟩ := h
  rcases q with (q | ⟨ob, q⟩) | q
  · exact .inl (.inl (d.keep _ _ (ne_of q h (by intro z; cases z)) q))
  · exact .inl (.inr ⟨ob, d.keep _ _ (ne_of q h (by intro z; cases z)) q⟩)
  · exact .inr q
theorem Dr.sql {K : PySem.W.Frag} {a l : Addr} {xs : List V} {H H' : Hp} (d : Dr a H H') (n : l ≠ a) (h : SqL K H l xs) : SqL K H' l xs := by
  rcases h with (h | ⟨o, h⟩) | h
  · exact .inl (.inl (d.keep _ _ n h))
  · exact .inl (.inr ⟨o, d.keep _ _ n h⟩)
  · exact .inr h
theorem Dr.upd {a : Addr} {H : Hp} {x y z : Int} : Dr a H (upd H a (.lst [.int x, .int y, .int z])) := ⟨⟨x, y, z, upd_same⟩, fun b o n h => by rw [upd_ne n]; exact h⟩
theorem Well.ne {H : Hp} {a p : Addr} (h : Well H a) (hp : H p = none) : p ≠ a := by
  obtain ⟨x, y, z, h⟩ := h
  exact (ne_of_none h hp).symm
theorem Dr.free {a p : Addr} {H H' : Hp} (h : Well H a) (d : Dr a H H') (hp : H' p = none) : H p = none := by
  cases hq : H p with
  | none => rfl
  | some o =>
    by_cases e : p = a
    · subst e
      obtain ⟨x, y, z, w⟩ := d.well
      rw [w] at hp
      cases hp
    · rw [d.keep p o e hq] at hp
      cases hp
section
variable {P : Program} {w : World} {K : PySem.W.Frag} {mg : Str → Option Value} {base : Heap}
def spDraw : Sp := fun vs H Q _ => ∃ a m, vs = [.ref a, .int m] ∧ Well H a ∧ 0 < m ∧ m < 1073741824 ∧ ∀ d H', 0 ≤ d → d < m → Dr a H H' → Q (.int d) H'
theorem mod_in {x m : Int} (h : 0 < m) : 0 ≤ x % m ∧ x % m < m := ⟨Int.emod_nonneg x (by omega), Int.emod_lt_of_pos x h⟩
theorem ok_law_draw (T : Tx K mg) : FnOk P w K mg base CX0 1 T.f_law_draw T.d_law_draw ["_law_well_here", "_law_many"] spDraw := by
  refine T.h_law_draw.F.ok sc_law_draw (fun vs H Q E h => ?_) (fun cdv A outer s H vs Q E hr h => ?_)
  · obtain ⟨v, t, rfl, _⟩ := h
    rfl
  obtain ⟨a, m, rfl, ⟨x, y, z, hW⟩, h0, h1, q⟩ := h
  refine ⟨_, (pss_cons (ps_if (pt_cmpR op_gt (pe_ix ix_list (pv 0) pe_int (fun _ _ => rfl)) pe_int (nomark _))
      (pss_cons (ps_set (i := 2) sc_law_draw.nd rfl (Or.inl rfl) (pe_op op_mod (pe_callTy call_int1 rfl T.b_int (by decide +kernel) (pa_cons (pe_ix ix_list (pv 0) pe_int (fun _ _ => rfl)) pa_nil)) (pv 1)))
    (pss_cons (ps_asg (pe_op op_fdiv (pe_ix ix_list (pv 0) pe_int (fun _ _ => rfl)) (pv 1)) (pg_sub (pv 0) pe_int set_list))
    (pss_one (ps_ret (pv 2)))))
      pss_nil)
    (pss_cons (ps_asg (pe_op op_add (pe_ix ix_list (pv 0) pe_int (fun _ _ => rfl)) pe_int) (pg_sub (pv 0) pe_int set_list))
    (pss_cons (ps_set (i := 3) sc_law_draw.nd rfl (Or.inl rfl) (pe_op op_mod (pe_callTy call_int1 rfl T.b_int (by decide +kernel) (pa_cons (pe_op op_mul (pe_op op_add (pe_ix ix_list (pv 0) pe_int (fun _ _ => rfl)) (pe_op op_mul pe_int (pe_ix ix_list (pv 0) pe_int (fun _ _ => rfl)))) pe_int) pa_nil)) pe_int))
    (pss_cons (ps_set (i := 3) sc_law_draw.nd rfl (Or.inl rfl) (pe_op op_mod (pe_callTy call_int1 rfl T.b_int (by decide +kernel) (pa_cons (pe_op op_mul (pv 3) (pe_op op_add (pe_op op_add (pe_op op_fdiv (pv 3) pe_int) pe_int) (pe_ix ix_list (pv 0) pe_int (fun _ _ => rfl)))) pa_nil)) pe_int))
    (pss_one (ps_ret (pe_op op_mod (pe_callTy call_int1 rfl T.b_int (by decide +kernel) (pa_cons (pe_op op_fdiv (pe_op op_mod (pe_callTy call_int1 rfl T.b_int (by decide +kernel) (pa_cons (pe_op op_mul (pv 3) (pe_op op_add (pe_op op_fdiv (pv 3) pe_int) pe_int)) pa_nil)) pe_int) pe_int) pa_nil)) (pv 1)))))))), ?_⟩
  refine ⟨_, rfl, a, _, 0, _, rfl, rfl, SqL.of hW, at0, _, _, rfl, rfl, _, rfl, ?_⟩
  refine ite2 (fun _ => ?_) (fun _ => ?_)
  · refine ⟨_, rfl, a, _, 0, _, rfl, rfl, SqL.of hW, at0, .inl ⟨_, rfl, _, rfl, _, _, rfl, rfl, h0, ?_⟩⟩
    refine ⟨_, rfl, a, _, 0, _, rfl, rfl, SqL.of hW, at0, _, rfl, _, _, rfl, rfl, ⟨h0, h1⟩, ?_⟩
    refine ⟨_, rfl, a, _, 0, 0, rfl, rfl, hW, rfl, ?_⟩
    refine ⟨_, rfl, q _ _ (mod_in h0).1 (mod_in h0).2 Dr.upd⟩
  · refine ⟨_, rfl, a, _, 2, _, rfl, rfl, SqL.of hW, rfl, _, _, rfl, rfl, ?_⟩
    refine ⟨_, rfl, a, _, 2, 2, rfl, rfl, hW, rfl, ?_⟩
    have hW2 : (upd H a (.lst ([V.int x, .int y, .int z].set 2 (.int (z + 1))))) a = some (.lst [.int x, .int y, .int (z + 1)]) := upd_same
    refine ⟨_, rfl, a, _, 1, _, rfl, rfl, SqL.of hW2, rfl, ?_⟩
    refine ⟨_, rfl, a, _, 2, _, rfl, rfl, SqL.of hW2, rfl, _, _, rfl, rfl, .inl ⟨by decide, by decide⟩, _, _, rfl, rfl, _, _, rfl, rfl, .inr ⟨by decide, by decide⟩, .inl ⟨_, rfl, _, _, rfl, rfl, (show (0 : Int) < 2147483647 by decide), ?_⟩⟩
    have b1 := mod_in (x := (y + 7853 * (z + 1)) * 48271) (show (0 : Int) < 2147483647 by decide)
    refine ⟨_, rfl, _, rfl, _, _, rfl, rfl, ⟨by decide, by decide⟩, _, _, rfl, rfl, _, rfl, a, _, 2, _, rfl, rfl, SqL.of hW2, rfl, _, _, rfl, rfl, _, _, rfl, rfl, .inl ⟨by omega, by omega⟩, .inl ⟨_, rfl, _, _, rfl, rfl, (show (0 : Int) < 2147483587 by decide), ?_⟩⟩
    have b2 := mod_in (x := (y + 7853 * (z + 1)) * 48271 % 2147483647 * ((y + 7853 * (z + 1)) * 48271 % 2147483647 / 1013 + 69621 + (z + 1))) (show (0 : Int) < 2147483587 by decide)
    refine ⟨_, rfl, _, rfl, _, _, rfl, rfl, ⟨by decide, by decide⟩, _, _, rfl, rfl, _, _, rfl, rfl, .inl ⟨by omega, by omega⟩, .inl ⟨_, rfl, _, _, rfl, rfl, (show (0 : Int) < 2147483399 by decide), _, _, rfl, rfl, ⟨by decide, by decide⟩, .inl ⟨_, rfl, _, rfl, _, _, rfl, rfl, h0, ?_⟩⟩⟩
    exact q _ _ (mod_in h0).1 (mod_in h0).2 Dr.upd
/-- one of some, any of them -/
def spOne (K : PySem.W.Frag) : Sp := fun vs H Q _ => ∃ a l xs, vs = [.ref a, .ref l] ∧ Well H a ∧ l ≠ a ∧ SqL K H l xs ∧ xs ≠ [] ∧ xs.length ≤ 1000 ∧ ∀ x H', x ∈ xs → Dr a H H' → Q x H'
theorem ok_law_one (T : Tx K mg) : FnOk P w K mg base CX0 2 T.f_law_one T.d_law_one ["_law_well_here", "_law_some"] (spOne K) := by
  refine T.h_law_one.F.ok sc_law_one (fun vs H Q E h => ?_) (fun cdv A outer s H vs Q E hr h => ?_)
  · obtain ⟨v, t, _, rfl, _⟩ := h
    rfl
  obtain ⟨a, l, xs, rfl, hW, hne, hL, hx, hz, q⟩ := h
  have hpos : 0 < xs.length := List.length_pos_iff.mpr hx
  refine ⟨_, (pss_one (ps_ret (pe_ix ix_list (pv 1) (cl (ok_law_draw T) T.h_law_draw hr (pa_cons (pv 0) (pa_cons (pe_callB call_len_seq rfl T.b_len (by decide +kernel) (pa_cons (pv 1) pa_nil)) pa_nil))) (fun _ _ => rfl)))), ?_⟩
  refine ⟨_, rfl, _, rfl, _, rfl, l, xs, rfl, .inl hL, a, _, rfl, hW, by omega, by omega, fun d H' h1 h2 dr => ?_⟩
  obtain ⟨k, rfl⟩ := Int.eq_ofNat_of_zero_le h1
  have hk : k < xs.length := by omega
  exact ⟨l, xs, _, xs[k], rfl, rfl, dr.sql hne hL, atI_nat (List.getElem?_eq_getElem hk), q _ _ (List.getElem_mem hk) dr⟩
end
end Hm

set_option Elab.async false
set_option linter.all false
set_option maxRecDepth 100000
set_option maxHeartbeats 4000000
namespace Hm
open PySem PySem.Spec PyProof.Rows L2 HT
open Evl (Ex)
mutual
/-- variables below m -/
def Vlt (m : Int) : Tm → Prop
  | .var k => k < m
  | .comp _ as => Vlts m as
  | _ => True
def Vlts (m : Int) : List Tm → Prop
  | [] => True
  | t :: ts => Vlt m t ∧ Vlts m ts
end
def atomB (s : Str) : Bool := decide (s.cps.size ≤ 40) && s.cps.toList.all fun c => decide (32 ≤ c) && decide (c ≤ 126) && decide (c ≠ 37)
theorem atomB_ok {s : Str} (h : atomB s = true) : AtomOk s := by
  unfold atomB at h
  rw [Bool.and_eq_true, List.all_eq_true] at h
  refine ⟨of_decide_eq_true h.1, fun c hc => ?_⟩
  have := h.2 c hc
  rw [Bool.and_eq_true, Bool.and_eq_true] at this
  exact ⟨of_decide_eq_true this.1.1, of_decide_eq_true this.1.2, of_decide_eq_true this.2⟩
theorem tg_big : (1000000000000 : Int) < tooGreat := by decide +kernel
/-- the bound of the size of what is drawn -/
def Bd : Nat → Nat
  | 0 => 1
  | 1 => 1
  | 2 => 9
  | d + 3 => 1 + 2 * Bd (d + 2)
theorem bd_step {d n : Nat} (h : n ≤ if d + 1 = 1 then 8 else 2) : 1 + n * Bd (d + 1) ≤ Bd (d + 2) := by
  cases d with
  | zero =>
    rw [if_pos rfl] at h
    show 1 + n * 1 ≤ 9
    omega
  | succ d =>
    rw [if_neg (by omega)] at h
    show 1 + n * Bd (d + 2) ≤ 1 + 2 * Bd (d + 2)
    have := Nat.mul_le_mul_right (Bd (d + 2)) h
    omega
/-- what a draw of a term of some depth may give -/
structure Drawn (m : Int) (d : Nat) (t : Tm) : Prop where
  ok : Ok t
  vlt : Vlt m t
  siz : size t ≤ Bd d
  dep : depth t ≤ max 1 d
theorem great_mul : CMulW (((10 : Int) ^ (60 : Int).toNat) ^ (4 : Int).toNat) ((10 : Int) ^ (59 : Int).toNat) := by
  unfold CMulW
  decide +kernel
theorem great_lo : -tooGreat < ((10 : Int) ^ (60 : Int).toNat) ^ (4 : Int).toNat * (10 : Int) ^ (59 : Int).toNat - 1 := by decide +kernel
theorem great_hi : ((10 : Int) ^ (60 : Int).toNat) ^ (4 : Int).toNat * (10 : Int) ^ (59 : Int).toNat - 1 < tooGreat := by decide +kernel
section
variable {P : Program} {w : World} {K : PySem.W.Frag} {mg : Str → Option Value} {base : Heap}
def spLeaf (K : PySem.W.Frag) : Sp := fun vs H Q _ => ∃ a m, vs = [.ref a, .int m] ∧ Well H a ∧ 0 < m ∧ m ≤ 1000 ∧ ∀ v t H', Dr a H H' → Rep K H' t v → Drawn m 1 t → Q v H'
theorem leaf_drawn {m : Int} {t : Tm} (h : Ok t) (hv : Vlt m t) (ha : t.args = []) : Drawn m 1 t := by
  refine ⟨h, hv, ?_, ?_⟩
  · rw [size_eq, ha]
    show 1 + sizes [] ≤ 1
    simp [sizes]
  · rw [depth_eq, ha]
    simp [depths]
theorem ok_law_leaf (T : Tx K mg) : FnOk P w K mg base CX0 3 T.f_law_leaf T.d_law_leaf ["_law_well_here", "_law_many"] (spLeaf K) := by
  refine T.h_law_leaf.F.ok sc_law_leaf (fun vs H Q E h => ?_) (fun cdv A outer s H vs Q E hr h => ?_)
  · obtain ⟨v, t, rfl, _⟩ := h
    rfl
  obtain ⟨a, m, rfl, hW, h0, h1, q⟩ := h
  have htg := tg_big
  refine ⟨_, (pss_cons (ps_set (i := 2) sc_law_leaf.nd rfl (Or.inl rfl) (cl (ok_law_draw T) T.h_law_draw hr (pa_cons (pv 0) (pa_cons pe_int pa_nil))))
    (Evl.pss_cut (ps_if (PW.pt (pw_and (pt_cmpR op_lt (pv 2) pe_int (nomark _)) (pw_and1 (pt_cmpR op_gt (pv 1) pe_int (nomark _)))))
      (pss_one (ps_ret (pe_tup (pa_cons (cl (ok_law_draw T) T.h_law_draw hr (pa_cons (pv 0) (pa_cons (pv 1) pa_nil))) pa_nil))))
      pss_nil)
    (pss_cons (ps_if (pt_cmpR op_eq (pv 2) pe_int (nomark _))
      (pss_cons (ps_set (i := 3) sc_law_leaf.nd rfl (Or.inl rfl) (pe_op op_sub (pe_op op_mulW (pe_op op_powW (pe_op op_pow pe_int pe_int) pe_int) (pe_op op_pow pe_int pe_int)) pe_int))
    (pss_one (ps_ret (cl (ok_law_one T) T.h_law_one hr (pa_cons (pv 0) (pa_cons (pe_lst (pa_cons pe_int (pa_cons pe_int (pa_cons pe_int (pa_cons (pe_un un_neg pe_int) (pa_cons (pv 3) (pa_cons (pe_op op_sub (cl (ok_law_draw T) T.h_law_draw hr (pa_cons (pv 0) (pa_cons (pe_op op_pow pe_int pe_int) pa_nil))) (pe_op op_mul pe_int (pe_op op_pow pe_int pe_int))) pa_nil))))))) pa_nil))))))
      pss_nil)
    (pss_one (ps_ret (cl (ok_law_one T) T.h_law_one hr (pa_cons (pv 0) (pa_cons (pe_lst (pa_cons pe_str (pa_cons pe_str (pa_cons pe_str (pa_cons pe_str (pa_cons pe_str (pa_cons pe_str (pa_cons pe_str (pa_cons (pe_op op_mulS pe_str pe_int) pa_nil))))))))) pa_nil)))))))), ?_⟩
  refine ⟨_, rfl, a, _, rfl, hW, by decide, by decide, fun way H1 w0 w7 d1 => ?_⟩
  refine ⟨fun σ' H' => σ' = [some (.ref a), some (.int m), some (.int way), none] ∧ Dr a H H', ?_, ?_⟩
  · refine ⟨_, rfl, _, _, rfl, rfl, _, rfl, ?_⟩
    refine ite2 (fun c1 => ?_) (fun c1 => ?_)
    · refine ⟨_, rfl, _, _, rfl, rfl, _, rfl, ?_⟩
      refine ite2 (fun c2 => ?_) (fun c2 => ?_)
      · refine ⟨_, rfl, _, rfl, a, _, rfl, d1.well, h0, by omega, fun k H2 k0 km d2 => ⟨(by show 1 ≤ sizeLine; decide), fun p hp => ?_⟩⟩
        refine q _ (.var k) _ ((d1.trans d2).trans (Dr.ex d2.well (Ex.new hp))) ?_ (leaf_drawn ?_ ?_ rfl)
        · unfold Rep
          exact ⟨p, rfl, SqT.of upd_same⟩
        · unfold Ok
          exact k0
        · unfold Vlt
          exact km
      · exact ⟨rfl, d1⟩
    · exact iteF ⟨rfl, d1⟩
  · rintro _ H2 ⟨rfl, d2⟩
    refine ⟨_, rfl, rfl, _, rfl, ?_⟩
    refine ite2 (fun _ => ?_) (fun _ => ?_)
    · refine ⟨_, _, rfl, rfl, ⟨by decide, by decide, by decide⟩, _, _, rfl, rfl, ⟨by decide, by decide +kernel⟩, _, _, rfl, rfl, ⟨by decide, by decide, by decide⟩, _, _, rfl, rfl, great_mul, _, _, rfl, rfl, ?_⟩
      refine ⟨_, rfl, _, rfl, _, rfl, _, rfl, _, _, rfl, rfl, ⟨by decide, by decide, by decide⟩, a, _, rfl, d2.well, by decide +kernel, by decide +kernel, fun d H3 hd0 hd1 d3 => ?_⟩
      refine ⟨_, _, rfl, rfl, ⟨by decide, by decide, by decide⟩, _, _, rfl, rfl, .inl ⟨by decide, by decide⟩, _, _, rfl, rfl, ?_⟩
      refine ⟨(by show 6 ≤ sizeLine; decide), fun l hl => ?_⟩
      have d4 : ∀ o, Dr a H3 (upd H3 l o) := fun o => Dr.ex d3.well (Ex.new hl)
      refine ⟨a, l, _, rfl, (d4 _).well, d3.well.ne hl, SqL.of upd_same, by simp, (by show 6 ≤ 1000; decide), fun x H5 hx d5 => ?_⟩
      have dd := ((d2.trans d3).trans (d4 _)).trans d5
      have hd2 : d < 1000000000 := hd1
      have fin : ∀ i : Int, -tooGreat < i → i < tooGreat → x = .int i → Q x H5 := fun i i1 i2 e => by
        refine q x (.int i) H5 dd ?_ (leaf_drawn ?_ ?_ rfl)
        · unfold Rep
          exact e
        · unfold Ok
          exact ⟨i1, i2⟩
        · unfold Vlt
          trivial
      simp only [List.mem_cons, List.not_mem_nil, or_false] at hx
      rcases hx with rfl | rfl | rfl | rfl | rfl | rfl
      · exact fin 0 (by omega) (by omega) rfl
      · exact fin 1 (by omega) (by omega) rfl
      · exact fin 7 (by omega) (by omega) rfl
      · exact fin (-1) (by omega) (by omega) rfl
      · exact fin _ great_lo great_hi rfl
      · refine fin (d - 5 * 10 ^ 8) ?_ ?_ rfl
        · have : (5 * 10 ^ 8 : Int) = 500000000 := by decide +kernel
          omega
        · have : (5 * 10 ^ 8 : Int) = 500000000 := by decide +kernel
          omega
    · refine ⟨_, rfl, _, _, rfl, rfl, by decide, by decide, rfl, (by decide +kernel), ?_⟩
      refine ⟨(by show 8 ≤ sizeLine; decide), fun l hl => ?_⟩
      have d4 : ∀ o, Dr a H2 (upd H2 l o) := fun o => Dr.ex d2.well (Ex.new hl)
      refine ⟨a, l, _, rfl, (d4 _).well, d2.well.ne hl, SqL.of upd_same, by simp, (by show 8 ≤ 1000; decide), fun x H5 hx d5 => ?_⟩
      have dd := (d2.trans (d4 _)).trans d5
      have fin : ∀ z : Str, atomB z = true → x = .str z → Q x H5 := fun z hz e => by
        refine q x (.atom z) H5 dd ?_ (leaf_drawn ?_ ?_ rfl)
        · unfold Rep
          exact e
        · unfold Ok
          exact atomB_ok hz
        · unfold Vlt
          trivial
      simp only [List.mem_cons, List.not_mem_nil, or_false] at hx
      rcases hx with rfl | rfl | rfl | rfl | rfl | rfl | rfl | rfl
      all_goals exact fin _ (by decide +kernel) rfl
end
end Hm

set_option Elab.async false
set_option linter.all false
set_option maxRecDepth 100000
set_option maxHeartbeats 400000
namespace Hm
open PySem PySem.Spec PyProof.Rows L2 HT
open Evl (Ex)
/-- a pair of a name and an arity, as a tuple -/
def PairAt (K : PySem.W.Frag) (H : Hp) (n : Nat) (v : V) : Prop := ∃ (p : Addr) (f : Str) (k : Nat), v = .ref p ∧ SqT K H p [.str f, .int (k : Int)] ∧ AtomOk f ∧ 1 ≤ k ∧ k ≤ n
theorem PairAt.mono {K : PySem.W.Frag} {H H' : Hp} {n : Nat} {v : V} (e : Tups K H H') (h : PairAt K H n v) : PairAt K H' n v := by
  obtain ⟨p, f, k, e1, h1, h2⟩ := h
  exact ⟨p, f, k, e1, e _ _ h1, h2⟩
theorem PairAt.new {K : PySem.W.Frag} {H : Hp} {n : Nat} {p : Addr} {f : Str} (k : Nat) (hf : atomB f = true) (h1 : 1 ≤ k) (h2 : k ≤ n) : PairAt K (upd H p (.tup [.str f, .int (k : Int)])) n (.ref p) :=
  ⟨p, f, k, rfl, SqT.of upd_same, atomB_ok hf, h1, h2⟩
theorem vlts_app {m : Int} : ∀ {xs ys : List Tm}, Vlts m xs → Vlts m ys → Vlts m (xs ++ ys)
  | [], ys, _, h => h
  | x :: xs, ys, h, h2 => by
    unfold Vlts at h
    show Vlts m (x :: (xs ++ ys))
    unfold Vlts
    exact ⟨h.1, vlts_app h.2 h2⟩
structure AllDrawn (m : Int) (d : Nat) (ts : List Tm) : Prop where
  ok : Oks ts
  vlt : Vlts m ts
  siz : sizes ts ≤ ts.length * Bd d
  dep : depths ts ≤ max 1 d
theorem AllDrawn.nil {m : Int} {d : Nat} : AllDrawn m d [] := ⟨trivial, trivial, by simp [sizes], by simp [depths]⟩
theorem AllDrawn.snoc {m : Int} {d : Nat} {ts : List Tm} {t : Tm} (h : AllDrawn m d ts) (g : Drawn m d t) : AllDrawn m d (ts ++ [t]) := by
  refine ⟨oks_app.mpr ⟨h.ok, by rw [oks_cons]; exact ⟨g.ok, trivial⟩⟩, vlts_app h.vlt (by unfold Vlts; exact ⟨g.vlt, trivial⟩), ?_, ?_⟩
  · rw [sizes_app, sizes_one, List.length_append, List.length_singleton, Nat.add_mul]
    have h1 := h.siz
    have h2 := g.siz
    omega
  · rw [depths_app]
    have h1 := h.dep
    have h2 := g.dep
    have h3 : depths [t] = depth t := by simp [depths]
    omega
theorem AllDrawn.comp {m : Int} {d : Nat} {ts : List Tm} {f : Str} (h : AllDrawn m (d + 1) ts) (hf : AtomOk f) (h1 : 1 ≤ ts.length) (h2 : ts.length ≤ if d + 1 = 1 then 8 else 2) : Drawn m (d + 2) (.comp f ts) := by
  have hb := bd_step h2
  refine ⟨?_, ?_, ?_, ?_⟩
  · unfold Ok
    exact ⟨hf, h1, by split at h2 <;> omega, h.ok⟩
  · unfold Vlt
    exact h.vlt
  · unfold size
    have := h.siz
    omega
  · unfold depth
    have := h.dep
    omega
theorem dec0 {n : Nat} : decide (V.int ((n : Nat) : Int) = V.int 2) = decide (n = 2) := dec_len (m := 2)
def tPs : List (Str × Int) → TA
  | [] => tNil
  | (f, n) :: r => tCons (tTup (tCons (tC (.str f)) (tCons (tC (.int n)) tNil))) (tPs r)
theorem ps_read : ∀ (ps : List (Str × Int)) (σ : L2.St) (H : Hp) (R : List V → Hp → Prop), (∀ vs H', Ex H H' → Paired (fun (p : Str × Int) (v : V) => ∃ a, v = .ref a ∧ H' a = some (.tup [.str p.1, .int p.2])) ps vs → R vs H') → tPs ps σ H R
  | [], σ, H, R, h => h [] H (Ex.refl H) .nil
  | (f, n) :: r, σ, H, R, h => by
    refine ⟨(by show 2 ≤ sizeLine; decide), fun p hp => ?_⟩
    refine ps_read r σ _ _ fun vs H' e hr => ?_
    exact h (.ref p :: vs) H' ((Ex.new hp).trans e) (.cons ⟨p, rfl, e p _ upd_same⟩ hr)
theorem lst_ps (ps : List (Str × Int)) {ta : TA} {σ : L2.St} {H : Hp} {Q : VK} (e : ta = tPs ps) (hz : ps.length ≤ 100) (h : ∀ vs H' p, Ex H H' → Paired (fun (p : Str × Int) (v : V) => ∃ a, v = .ref a ∧ H' a = some (.tup [.str p.1, .int p.2])) ps vs → H' p = none → Q (.ref p) (upd H' p (.lst vs))) : tLst ta σ H Q := by
  subst e
  exact ps_read ps σ H _ fun vs H' e hp => ⟨small5 (by rw [← hp.length]; omega), fun p hn => h vs H' p e hp hn⟩
theorem set_ps (ps : List (Str × Int)) {ta : TA} {i : Nat} {tz : TS} {D : Ends} {σ : L2.St} {H : Hp} (e : ta = tPs ps) (hz : ps.length ≤ 100) (h : ∀ vs H' p, Ex H H' → Paired (fun (p : Str × Int) (v : V) => ∃ a, v = .ref a ∧ H' a = some (.tup [.str p.1, .int p.2])) ps vs → H' p = none → tz D (σ.set i (some (.ref p))) (upd H' p (.lst vs))) :
    tSeq (tAsg (tLst ta) (gName i)) tz D σ H := lst_ps (Q := fun x H1 => gName i x σ H1 (tz D)) ps e hz h
theorem pairs_at {K : PySem.W.Frag} {H : Hp} (n : Nat) : ∀ {ps : List (Str × Int)} {vs : List V}, Paired (fun (p : Str × Int) (v : V) => ∃ a, v = .ref a ∧ H a = some (.tup [.str p.1, .int p.2])) ps vs →
    (ps.all fun p => atomB p.1 && decide (1 ≤ p.2) && decide (p.2 ≤ (n : Int))) = true → ∀ x ∈ vs, PairAt K H n x
  | [], _, .nil, _, x, hx => by simp at hx
  | (f, k) :: ps, _, .cons h r, hb, x, hx => by
    rw [List.all_cons, Bool.and_eq_true, Bool.and_eq_true, Bool.and_eq_true] at hb
    rcases List.mem_cons.mp hx with rfl | hx
    · obtain ⟨a, e, hT⟩ := h
      have h1 : 1 ≤ k := of_decide_eq_true hb.1.1.2
      have h2 : k ≤ (n : Int) := of_decide_eq_true hb.1.2
      refine ⟨a, f, k.toNat, e, ?_, atomB_ok hb.1.1.1, by omega, by omega⟩
      have : ((k.toNat : Nat) : Int) = k := by omega
      rw [this]
      exact SqT.of hT
    · exact pairs_at n r hb.2 x hx
section
variable {P : Program} {w : World} {K : PySem.W.Frag} {mg : Str → Option Value} {base : Heap}
def spTermD (K : PySem.W.Frag) : Nat → Sp
  | 0 => fun _ _ _ _ => False
  | d + 1 => fun vs H Q _ => ∃ a m, vs = [.ref a, .int ((d + 1 : Nat) : Int), .int m] ∧ Well H a ∧ 0 < m ∧ m ≤ 1000 ∧ ∀ v t H', Dr a H H' → Rep K H' t v → Drawn m (d + 1) t → Q v H'
theorem term_step (T : Tx K mg) (d : Nat) (ih : FnOk P w K mg base CX0 (d + 3) T.f_law_term T.d_law_term ["_law_well_here", "_law_deep", "_law_many"] (spTermD K d)) :
    FnOk P w K mg base CX0 (d + 3 + 1) T.f_law_term T.d_law_term ["_law_well_here", "_law_deep", "_law_many"] (spTermD K (d + 1)) := by
  refine T.h_law_term.F.ok sc_law_term (fun vs H Q E h => ?_) (fun cdv A outer s H vs Q E hr h => ?_)
  · obtain ⟨v, t, rfl, _⟩ := h
    rfl
  obtain ⟨a, m, rfl, hW, h0, h1, q⟩ := h
  refine ⟨_, (Evl.pss_cut (ps_if (PW.pt (pw_or (pt_cmpR op_le (pv 1) pe_int (nomark _)) (pw_or1 (pt_cmpR op_eq (cl (ok_law_draw T) T.h_law_draw hr (pa_cons (pv 0) (pa_cons pe_int pa_nil))) pe_int (nomark _)))))
      (pss_one (ps_ret (cl (ok_law_leaf T) T.h_law_leaf hr (pa_cons (pv 0) (pa_cons (pv 2) pa_nil)))))
      pss_nil)
    (pss_cons (ps_set (i := 3) sc_law_term.nd rfl (Or.inl rfl) (pe_lst (pa_cons (pe_tup (pa_cons pe_str (pa_cons pe_int pa_nil))) (pa_cons (pe_tup (pa_cons pe_str (pa_cons pe_int pa_nil))) (pa_cons (pe_tup (pa_cons pe_str (pa_cons pe_int pa_nil))) (pa_cons (pe_tup (pa_cons pe_str (pa_cons pe_int pa_nil))) (pa_cons (pe_tup (pa_cons pe_str (pa_cons pe_int pa_nil))) (pa_cons (pe_tup (pa_cons pe_str (pa_cons pe_int pa_nil))) pa_nil))))))))
    (Evl.pss_cut (ps_asg (cl (ok_law_one T) T.h_law_one hr (pa_cons (pv 0) (pa_cons (pe_op op_cat (pv 3) (pe_ifExp (pt_cmpR op_eq (pv 1) pe_int (nomark _)) (pe_lst (pa_cons (pe_tup (pa_cons pe_str (pa_cons pe_int pa_nil))) (pa_cons (pe_tup (pa_cons pe_str (pa_cons pe_int pa_nil))) pa_nil))) (pe_lst pa_nil))) pa_nil))) (pg_tup rfl (pgs_cons (pg_name (i := 4) sc_law_term.nd rfl (Or.inl rfl)) (pgs_cons (pg_name (i := 5) sc_law_term.nd rfl (Or.inl rfl)) pgs_nil))))
    (pss_one (ps_ret (pe_op op_catT (pe_tup (pa_cons (pv 4) pa_nil)) (pe_callTy call_tuple_of rfl T.b_tuple (by decide +kernel) (pa_cons (pe_lc (own := [("_law_k", 6)]) (g := gName 6) rfl sc_law_term.nd (pi_range1 rfl T.b_range (pa_cons (pv 5) pa_nil)) (blkOk_by (own := [("_law_k", 6)]) (N := ["_law_well_here", "_law_deep", "_law_many", "_law_some", "_law_name", "_law_arity", "_law_k"]) (sc := defScope s_law_term) (by decide +kernel)) (fun _ _ _ _ _ => pg_name (i := 6) sc_law_term.nd rfl (Or.inl rfl)) (fun _ _ _ _ _ => pts_nil) (fun _ _ _ _ _ => (cl ih T.h_law_term hr (pa_cons (pv 0) (pa_cons (pe_op op_sub (pv 1) pe_int) (pa_cons (pv 2) pa_nil)))))) pa_nil)))))))), ?_⟩
  refine ⟨fun σ' H' => σ' = [some (.ref a), some (.int ((d + 1 : Nat) : Int)), some (.int m), none, none, none, none] ∧ Dr a H H' ∧ 1 ≤ d, ?_, ?_⟩
  · have leaf : ∀ H', Dr a H H' → (tCall (spLeaf K) [] E0 (tCons (tVar 0) (tCons (tVar 2) tNil))) [some (.ref a), some (.int ((d + 1 : Nat) : Int)), some (.int m), none, none, none, none] H' Q := fun H' dr =>
      ⟨_, rfl, _, rfl, a, m, rfl, dr.well, h0, h1, fun v t H2 d2 hR hD => q v t H2 (dr.trans d2) hR ⟨hD.ok, hD.vlt, Nat.le_trans hD.siz (by cases d with | zero => exact Nat.le_refl _ | succ d => have := bd_step (d := d) (n := 0) (Nat.zero_le _); exact Nat.le_trans (by show 1 ≤ _; omega) this), by have := hD.dep; omega⟩⟩
    refine ⟨_, rfl, _, _, rfl, rfl, _, rfl, ?_⟩
    refine ite2 (fun c1 => ?_) (fun c1 => ?_)
    · exact iteT (leaf H (Dr.ex hW (Ex.refl _)))
    · have hd : 1 ≤ d := by
        have : ¬ ((d + 1 : Nat) : Int) ≤ 1 := fun z => c1 (decide_eq_true z)
        omega
      refine ⟨_, rfl, a, _, rfl, hW, by decide, by decide, fun k H1 k0 k4 d1 => ?_⟩
      refine ⟨rfl, _, rfl, ite2 (fun _ => ?_) (fun _ => ?_)⟩
      · exact leaf H1 d1
      · exact ⟨rfl, d1, hd⟩
  · rintro _ H1 ⟨rfl, d1, hd⟩
    obtain ⟨d, rfl⟩ : ∃ e, d = e + 1 := ⟨d - 1, by omega⟩
    refine set_ps [("f", 1), ("f", 2), ("g", 2), (".", 2), ("", 1), ("f", 2)] rfl (by decide) fun vs6 H6 l e6 hp6 gl => ?_
    have l6 : vs6.length = 6 := hp6.length.symm
    have a6 : ∀ x ∈ vs6, PairAt K H6 2 x := pairs_at 2 hp6 (by decide +kernel)
    have e7 := Ex.new (o := HO.lst vs6) gl
    have w6 := (Dr.ex d1.well e6).well
    have d7 : Dr a H (upd H6 l (.lst vs6)) := (d1.trans (Dr.ex d1.well e6)).trans (Dr.ex w6 e7)
    have hla : l ≠ a := w6.ne gl
    have a7 : ∀ x ∈ vs6, PairAt K (upd H6 l (.lst vs6)) 2 x := fun x hx => (a6 x hx).mono (Tups.of e7)
    have hl7 : (upd H6 l (.lst vs6)) l = some (.lst vs6) := upd_same
    generalize upd H6 l (.lst vs6) = H7 at *
    have w7 := d7.well
    refine ⟨fun σ' H' => ∃ (f : Str) (k : Nat), σ' = [some (.ref a), some (.int ((d + 1 + 1 : Nat) : Int)), some (.int m), some (.ref l), some (.str f), some (.int (k : Int)), none] ∧ Dr a H H' ∧ AtomOk f ∧ 1 ≤ k ∧ k ≤ (if d + 1 = 1 then 8 else 2), ?_, ?_⟩
    · refine ⟨_, rfl, _, rfl, _, rfl, rfl, _, rfl, ?_⟩
      refine ite2 (fun c1 => ?_) (fun c1 => ?_)
      · have hd0 : d + 1 = 1 := by
          have := of_decide_eq_true (dec0.symm.trans c1)
          omega
        refine lst_ps [("h", 3), ("k", 8)] rfl (by decide) fun vs2 H8 l2 e8 hp2 gl2 => ?_
        have e9 := Ex.new (o := HO.lst vs2) gl2
        have l2n : vs2.length = 2 := hp2.length.symm
        refine ⟨l, l2, vs6, vs2, rfl, rfl, e9 l _ (e8 l _ hl7), upd_same, small5 (by omega), fun p gp => ?_⟩
        have e10 := Ex.new (o := HO.lst (vs6 ++ vs2)) gp
        have ee := (e8.trans e9).trans e10
        have dd := d7.trans (Dr.ex w7 ee)
        refine ⟨a, p, vs6 ++ vs2, rfl, dd.well, (Dr.ex w7 (e8.trans e9)).well.ne gp, SqL.of upd_same, ?_, ?_, fun x H9 hx d9 => ?_⟩
        · intro z
          have := congrArg List.length z
          rw [List.length_append, List.length_nil] at this
          omega
        · rw [List.length_append]
          omega
        · have hx9 : PairAt K H9 8 x := by
            rcases List.mem_append.mp hx with hx | hx
            · obtain ⟨pp, f, k, h1, h2, h3, h4, h5⟩ := (a7 x hx).mono ((Tups.of ee).trans (Dr.tups dd.well d9))
              exact ⟨pp, f, k, h1, h2, h3, h4, by omega⟩
            · exact (pairs_at 8 hp2 (by decide +kernel) x hx).mono (((Tups.of e9).trans (Tups.of e10)).trans (Dr.tups dd.well d9))
          obtain ⟨pp, f, k, rfl, hT, hf, k1, k2⟩ := hx9
          exact ⟨pp, _, rfl, hT, rfl, _, _, rfl, _, _, rfl, rfl, f, k, rfl, dd.trans d9, hf, k1, by rw [if_pos hd0]; exact k2⟩
      · have hd0 : ¬ d + 1 = 1 := fun z => c1 (by rw [dec0]; exact decide_eq_true (by omega))
        refine ⟨Nat.zero_le _, fun l2 gl2 => ?_⟩
        have e9 := Ex.new (o := HO.lst []) gl2
        refine ⟨l, l2, vs6, [], rfl, rfl, e9 l _ hl7, upd_same, small5 (by rw [List.length_nil]; omega), fun p gp => ?_⟩
        have e10 := Ex.new (o := HO.lst (vs6 ++ [])) gp
        have ee := e9.trans e10
        have dd := d7.trans (Dr.ex w7 ee)
        refine ⟨a, p, vs6 ++ [], rfl, dd.well, (Dr.ex w7 e9).well.ne gp, SqL.of upd_same, ?_, ?_, fun x H9 hx d9 => ?_⟩
        · intro z
          have := congrArg List.length z
          rw [List.append_nil, List.length_nil] at this
          omega
        · rw [List.append_nil]
          omega
        · rw [List.append_nil] at hx
          obtain ⟨pp, f, k, rfl, hT, hf, k1, k2⟩ := (a7 x hx).mono ((Tups.of ee).trans (Dr.tups dd.well d9))
          exact ⟨pp, _, rfl, hT, rfl, _, _, rfl, _, _, rfl, rfl, f, k, rfl, dd.trans d9, hf, k1, by rw [if_neg hd0]; exact k2⟩
    · rintro _ H8 ⟨f, k, rfl, d8, hf, k1, k2⟩
      have w8 := d8.well
      have k8 : k ≤ 8 := by split at k2 <;> omega
      refine ⟨_, rfl, (by show 1 ≤ sizeLine; decide), fun tp htp => ?_⟩
      have e9 := Ex.new (o := HO.tup [.str f]) htp
      have w9 := (Dr.ex w8 e9).well
      have hT9 : SqT K (upd H8 tp (.tup [.str f])) tp [.str f] := SqT.of upd_same
      refine ⟨_, rfl, (k : Int), rfl, by omega, by omega, fun D hD => ?_⟩
      have hDa := w9.ne hD
      have e10 := Ex.new (o := HO.lst []) hD
      refine lc_it walk_range (fun i H' => Dr a (upd H8 tp (.tup [.str f])) H' ∧ ∃ ts us, H' D = some (.lst us) ∧ Reps K H' ts us ∧ ts.length = i ∧ AllDrawn m (d + 1) ts) ⟨Dr.ex w9 e10, [], [], upd_same, Reps.nil, rfl, AllDrawn.nil⟩ (fun _ _ _ _ => trivial) ?_ ?_
      · rintro i x H10x H10 hi ⟨d10, ts, us, hU, hUs, hlen, hall⟩ ⟨rfl, rfl⟩
        refine ⟨rfl, yesI ⟨_, rfl, _, rfl, _, _, rfl, rfl, _, rfl, a, m, ?_, d10.well, h0, h1, fun v t H11 d11 hR hDn => ?_⟩⟩
        · show [V.ref a, V.int (((d + 1 + 1 : Nat) : Int) - 1), V.int m] = _
          congr 3
          omega
        · have hU11 := d11.keep D _ hDa hU
          have t11 : Tups K H10 H11 := Dr.tups d10.well d11
          have t12 : Tups K H11 (upd H11 D (.lst (us ++ [v]))) := Tups.lst hU11
          have hl2 := hUs.len
          refine ⟨us, hU11, small5' (by omega), ?_, ts ++ [t], us ++ [v], upd_same, ?_, ?_, hall.snoc hDn⟩
          · obtain ⟨x1, y1, z1, hw⟩ := d11.well
            refine ⟨⟨x1, y1, z1, by rw [upd_ne hDa.symm]; exact hw⟩, fun b o hb hq => ?_⟩
            have hbD : b ≠ D := fun z => by
              subst z
              rw [hD] at hq
              cases hq
            rw [upd_ne hbD]
            exact d11.keep b o hb (d10.keep b o hb hq)
          · exact Reps.app ((hUs.mono t11).mono t12) (Reps.one (hR.mono t12))
          · rw [List.length_append, List.length_singleton, hlen]
      · rintro H10 ⟨d10, ts, us, hU, hUs, hlen, hall⟩
        have hlen' : ts.length = k := by
          rw [hlen]
          rfl
        have hl2 := hUs.len
        refine ⟨D, us, rfl, .inl ⟨SqL.of hU, fun q2 hq2 => ?_⟩⟩
        have e11 := Ex.new (o := HO.tup us) hq2
        have hTp := (Dr.tups w9 d10) _ _ hT9
        have w11 := (Dr.ex d10.well e11).well
        refine ⟨tp, q2, [.str f], us, rfl, rfl, Evl.ex_t e11 hTp, SqT.of upd_same, by simp, small5 (by simp; omega), fun z => ?_, fun _ p hp => ?_⟩
        · rw [z, List.length_nil] at hl2
          omega
        · have e12 := Ex.new (o := HO.tup ([V.str f] ++ us)) hp
          refine q (.ref p) (.comp f ts) _ (((d8.trans (Dr.ex w8 e9)).trans d10).trans ((Dr.ex d10.well e11).trans (Dr.ex w11 e12))) ?_ ?_
          · unfold Rep
            exact ⟨p, us, rfl, SqT.of upd_same, (hUs.mono (Tups.of e11)).mono (Tups.of e12)⟩
          · exact hall.comp hf (by omega) (by rw [hlen']; exact k2)
theorem ok_law_term (T : Tx K mg) : ∀ d : Nat, FnOk P w K mg base CX0 (d + 3) T.f_law_term T.d_law_term ["_law_well_here", "_law_deep", "_law_many"] (spTermD K d)
  | 0 => ⟨fun _ _ _ _ h => h.elim, fun _ _ _ _ _ _ _ _ _ _ _ _ _ h => h.elim⟩
  | d + 1 => term_step T d (ok_law_term T d)
end
end Hm

set_option Elab.async false
set_option linter.all false
set_option maxRecDepth 100000
set_option maxHeartbeats 1000000
namespace Hm
open PySem PySem.Spec PyProof.Rows L2 HT
open Evl (Ex)
def isComp : Tm → Bool
  | .comp _ _ => true
  | _ => false
theorem args_not {t : Tm} (h : isComp t = false) : t.args = [] := by
  cases t <;> first | rfl | cases h
theorem depths_get : ∀ {ts : List Tm} {i : Nat} {t : Tm}, ts[i]? = some t → depth t ≤ depths ts
  | [], i, _, e => by simp at e
  | u :: us, 0, t, e => by
    have : u = t := by simpa using e
    subst this
    rw [depths_cons]
    omega
  | u :: us, i + 1, t, e => by
    have := depths_get (ts := us) (i := i) (t := t) (by simpa using e)
    rw [depths_cons]
    omega
theorem sizes_get : ∀ {ts : List Tm} {i : Nat} {t : Tm}, ts[i]? = some t → size t ≤ sizes ts
  | [], i, _, e => by simp at e
  | u :: us, 0, t, e => by
    have : u = t := by simpa using e
    subst this
    rw [sizes_cons]
    omega
  | u :: us, i + 1, t, e => by
    have := sizes_get (ts := us) (i := i) (t := t) (by simpa using e)
    rw [sizes_cons]
    omega
theorem sizes_take (ts : List Tm) (i : Nat) : sizes (ts.take i) ≤ sizes ts := by
  have h := sizes_app (ts.take i) (ts.drop i)
  rw [List.take_append_drop] at h
  omega
theorem take_snoc {α : Type} {l : List α} {i : Nat} {x : α} (h : l[i]? = some x) : l.take (i + 1) = l.take i ++ [x] := by
  rw [List.take_add_one, h]
  rfl
theorem pres_one (t : Tm) : pres [t] = pre t := by
  rw [pres_cons]
  unfold pres
  rw [List.append_nil]
theorem subs_app (g : Int → Tm) : ∀ xs ys : List Tm, subs g (xs ++ ys) = subs g xs ++ subs g ys
  | [], _ => by simp [subs]
  | x :: xs, ys => by
    show subs g (x :: (xs ++ ys)) = _
    rw [subs, subs, subs_app g xs ys]
    rfl
theorem subs_one (g : Int → Tm) (t : Tm) : subs g [t] = [sub g t] := by simp [subs]
section
variable {P : Program} {w : World} {K : PySem.W.Frag} {mg : Str → Option Value} {base : Heap}
theorem ok_law_is_variable (T : Tx K mg) : FnOk P w K mg base CX0 1 T.f_law_is_variable T.d_law_is_variable ["_law_term_here"] (spIsVar K) := by
  refine T.h_law_is_variable.F.ok sc_law_is_variable (fun vs H Q E h => ?_) (fun cdv A outer s H vs Q E hr h => ?_)
  · obtain ⟨v, t, rfl, _⟩ := h
    rfl
  obtain ⟨v, t, rfl, hR, hO, q⟩ := h
  refine ⟨_, (pss_one (ps_ret (pe_and (pe_callB call_isi rfl T.b_isinstance (by decide +kernel) (pa_cons (pv 0) (pa_cons (pe_bltn (v := .ty "tuple") (u := .type "tuple") rfl T.b_tuple (by decide +kernel) rfl) pa_nil))) (pe_one (pe_cmpR op_eq (pe_callB call_len_seq rfl T.b_len (by decide +kernel) (pa_cons (pv 0) pa_nil)) pe_int (nomark _)))))), ?_⟩
  cases t with
  | var k =>
    unfold Rep at hR
    obtain ⟨a, rfl, hT⟩ := hR
    refine ⟨_, rfl, _, _, _, _, true, rfl, .ty "tuple", tyx_tup hT, kit_ty (by decide +kernel), true, rfl, iteT ?_⟩
    exact ⟨_, rfl, a, _, rfl, .inr hT, rfl, q⟩
  | int i =>
    unfold Rep at hR
    subst hR
    exact ⟨_, rfl, _, _, _, _, false, rfl, .ty "tuple", .base (.int i), kit_ty (by decide +kernel), false, rfl, iteF q⟩
  | atom z =>
    unfold Rep at hR
    subst hR
    exact ⟨_, rfl, _, _, _, _, false, rfl, .ty "tuple", .base (.str z), kit_ty (by decide +kernel), false, rfl, iteF q⟩
  | comp f as =>
    unfold Rep at hR
    obtain ⟨a, ws, rfl, hT, hA⟩ := hR
    refine ⟨_, rfl, _, _, _, _, true, rfl, .ty "tuple", tyx_tup hT, kit_ty (by decide +kernel), true, rfl, iteT ?_⟩
    refine ⟨_, rfl, a, _, rfl, .inr hT, rfl, ?_⟩
    have hl := hA.len
    unfold Ok at hO
    have e : decide (V.int (((V.str f :: ws).length : Nat) : Int) = V.int 1) = false := by
      rw [show (V.int 1) = V.int ((1 : Nat) : Int) from rfl, dec_len, decide_eq_false]
      rw [List.length_cons]
      omega
    rw [e]
    exact q
def spIsComp (K : PySem.W.Frag) : Sp := fun vs H Q _ => ∃ v t, vs = [v] ∧ Rep K H t v ∧ Ok t ∧ Q (.bl (isComp t)) H
theorem ok_law_is_compound (T : Tx K mg) : FnOk P w K mg base CX0 1 T.f_law_is_compound T.d_law_is_compound ["_law_term_here"] (spIsComp K) := by
  refine T.h_law_is_compound.F.ok sc_law_is_compound (fun vs H Q E h => ?_) (fun cdv A outer s H vs Q E hr h => ?_)
  · obtain ⟨v, t, rfl, _⟩ := h
    rfl
  obtain ⟨v, t, rfl, hR, hO, q⟩ := h
  refine ⟨_, (pss_one (ps_ret (pe_and (pe_callB call_isi rfl T.b_isinstance (by decide +kernel) (pa_cons (pv 0) (pa_cons (pe_bltn (v := .ty "tuple") (u := .type "tuple") rfl T.b_tuple (by decide +kernel) rfl) pa_nil))) (pe_one (pe_cmpR op_gt (pe_callB call_len_seq rfl T.b_len (by decide +kernel) (pa_cons (pv 0) pa_nil)) pe_int (nomark _)))))), ?_⟩
  cases t with
  | var k =>
    unfold Rep at hR
    obtain ⟨a, rfl, hT⟩ := hR
    refine ⟨_, rfl, _, _, _, _, true, rfl, .ty "tuple", tyx_tup hT, kit_ty (by decide +kernel), true, rfl, iteT ?_⟩
    exact ⟨_, rfl, a, _, rfl, .inr hT, _, _, rfl, rfl, q⟩
  | int i =>
    unfold Rep at hR
    subst hR
    exact ⟨_, rfl, _, _, _, _, false, rfl, .ty "tuple", .base (.int i), kit_ty (by decide +kernel), false, rfl, iteF q⟩
  | atom z =>
    unfold Rep at hR
    subst hR
    exact ⟨_, rfl, _, _, _, _, false, rfl, .ty "tuple", .base (.str z), kit_ty (by decide +kernel), false, rfl, iteF q⟩
  | comp f as =>
    unfold Rep at hR
    obtain ⟨a, ws, rfl, hT, hA⟩ := hR
    refine ⟨_, rfl, _, _, _, _, true, rfl, .ty "tuple", tyx_tup hT, kit_ty (by decide +kernel), true, rfl, iteT ?_⟩
    refine ⟨_, rfl, a, _, rfl, .inr hT, _, _, rfl, rfl, ?_⟩
    have hl := hA.len
    unfold Ok at hO
    show Q (.bl (decide ((1 : Int) < (((V.str f :: ws).length : Nat) : Int)))) H
    rw [List.length_cons, decide_eq_true (by omega)]
    exact q
/-- the arguments of a compound, or nothing: t[1:] if it is one else () -/
theorem args_read {H : Hp} {v : V} {t : Tm} {σ : L2.St} {Q : VK} {i : Nat} (hσ : σ[i]? = some (some v)) (hR : Rep K H t v) (hO : Ok t)
    (q : ∀ p ws H', H p = none → Ex H H' → H' p = some (.tup ws) → Reps K H' t.args ws → Q (.ref p) H') :
    tIf (tB (tCall (spIsComp K) [] E0 (tCons (tVar i) tNil))) (tSl (rSlT K) (tVar i) (tPart (tC (.int 1))) tNoPart) (tTup tNil) σ H Q := by
  refine ⟨v, hσ, v, t, rfl, hR, hO, isComp t, rfl, ?_⟩
  cases t with
  | comp f as =>
    unfold Rep at hR
    obtain ⟨a, ws, rfl, hT, hA⟩ := hR
    refine iteT ⟨_, hσ, _, rfl, a, _, rfl, hT, cut1_ne _ _, fun p hp => ?_⟩
    rw [cut1]
    exact q p ws _ hp (Ex.new hp) upd_same (hA.mono (Tups.of (Ex.new hp)))
  | var k => exact iteF ⟨Nat.zero_le _, fun p hp => q p _ _ hp (Ex.new hp) upd_same Reps.nil⟩
  | int k => exact iteF ⟨Nat.zero_le _, fun p hp => q p _ _ hp (Ex.new hp) upd_same Reps.nil⟩
  | atom k => exact iteF ⟨Nat.zero_le _, fun p hp => q p _ _ hp (Ex.new hp) upd_same Reps.nil⟩
/-! ### _law_parts -/
def spLParts (K : PySem.W.Frag) (n : Nat) : Sp := fun vs H Q _ => ∃ v t, vs = [v] ∧ Rep K H t v ∧ Ok t ∧ size t ≤ 1000 ∧ depth t ≤ n ∧ ∀ p ws H', H p = none → Ex H H' → H' p = some (.lst ws) → Reps K H' (pre t) ws → Q (.ref p) H'
theorem parts_step (T : Tx K mg) (n : Nat) (ih : FnOk P w K mg base CX0 (n + 2) T.f_law_parts T.d_law_parts ["_law_term_here"] (spLParts K n)) :
    FnOk P w K mg base CX0 (n + 2 + 1) T.f_law_parts T.d_law_parts ["_law_term_here"] (spLParts K (n + 1)) := by
  refine T.h_law_parts.F.ok sc_law_parts (fun vs H Q E h => ?_) (fun cdv A outer s H vs Q E hr h => ?_)
  · obtain ⟨v, t, rfl, _⟩ := h
    rfl
  obtain ⟨v, t, rfl, hR, hO, hz, hd, q⟩ := h
  refine ⟨_, (pss_cons (ps_set (i := 1) sc_law_parts.nd rfl (Or.inl rfl) (pe_lst (pa_cons (pv 0) pa_nil)))
    (pss_cons (ps_for PassesOwn.never rfl (pi_tup (pe_ifExp (pt_val (cl (ok_law_is_compound T) T.h_law_is_compound hr (pa_cons (pv 0) pa_nil))) (pe_slice sl_tup (pv 0) (po_some pe_int) po_none) (pe_tup pa_nil))) (pg_name (i := 2) sc_law_parts.nd rfl (Or.inl rfl))
      (pss_one (ps_set (i := 1) sc_law_parts.nd rfl (Or.inl rfl) (pe_op op_cat (pv 1) (cl ih T.h_law_parts hr (pa_cons (pv 2) pa_nil))))))
    (pss_one (ps_ret (pv 1))))), ?_⟩
  refine ⟨_, rfl, (by show 1 ≤ sizeLine; decide), fun l hl => ?_⟩
  have e1 := Ex.new (o := HO.lst [v]) hl
  refine args_read rfl (hR.mono (Tups.of e1)) hO fun p ws H2 hp e2 hP hPs => ?_
  refine ⟨p, rfl, ⟨ws, SqT.of hP⟩, ?_⟩
  have hlen := hPs.len
  refine for_it walk_tup (fun i σ' H' => ∃ x l us, σ' = [some v, some (.ref l), x] ∧ Ex H2 H' ∧ H l = none ∧ H' l = some (.lst us) ∧ Reps K H' (t :: pres (t.args.take i)) us)
    ⟨none, l, [v], rfl, Ex.refl _, hl, e2 l _ upd_same, ?_⟩ (fun i σ' H' _ ⟨_, _, _, _, e, _⟩ => SqT.of (e p _ hP)) ?_ ?_
  · exact Reps.one ((hR.mono (Tups.of e1)).mono (Tups.of e2))
  · rintro i x σ' H3x H3 hi ⟨x3, l3, us, rfl, e3, hl3, hU, hUs⟩ ⟨rfl, hx⟩
    obtain ⟨ti, hti, hri⟩ := (hPs.mono (Tups.of e3)).get hx
    have hdt := depth_eq t
    have hst := size_eq t
    have hd1 := depths_get hti
    have hs1 := sizes_get hti
    refine ⟨_, rfl, _, rfl, x, ti, rfl, hri, oks_get (ok_args hO) hti, by omega, by omega, fun p4 ws4 H4 hp4 e4 hL4 hPs4 => ?_⟩
    have hU4 := e4 l3 _ hU
    have h1 := hUs.len
    have h2 := hPs4.len
    rw [len_pre] at h2
    rw [List.length_cons, len_pres] at h1
    have h3 := sizes_take t.args i
    refine ⟨l3, p4, us, ws4, rfl, rfl, hU4, hL4, small5 (by omega), fun p5 hp5 => ?_⟩
    have e5 := Ex.new (o := HO.lst (us ++ ws4)) hp5
    refine ⟨_, p5, us ++ ws4, rfl, (e3.trans e4).trans e5, ?_, upd_same, ?_⟩
    · exact Evl.fresh_back e1 (Evl.fresh_back e2 (Evl.fresh_back e3 (Evl.fresh_back e4 hp5)))
    · rw [take_snoc hti, pres_app, pres_one]
      have := Reps.app ((hUs.mono (Tups.of e4)).mono (Tups.of e5)) (hPs4.mono (Tups.of e5))
      exact this
  · rintro σ' H3 ⟨x3, l3, us, rfl, e3, hl3, hU, hUs⟩
    rw [← hlen, List.take_of_length_le (Nat.le_refl _), ← pre_eq] at hUs
    exact ⟨_, rfl, q l3 us H3 hl3 ((e1.trans e2).trans e3) hU hUs⟩
theorem depth_pos (t : Tm) : 1 ≤ depth t := by
  rw [depth_eq]
  omega
theorem ok_law_parts (T : Tx K mg) : ∀ n : Nat, FnOk P w K mg base CX0 (n + 2) T.f_law_parts T.d_law_parts ["_law_term_here"] (spLParts K n)
  | 0 => by
    have no : ∀ vs H Q E, ¬ spLParts K 0 vs H Q E := fun vs H Q E ⟨v, t, _, _, _, _, h, _⟩ => by
      have := depth_pos t
      omega
    exact ⟨fun vs H Q E h => absurd h (no vs H Q E), fun A outer s H args us vs Q E _ _ _ _ h => absurd h (no vs H Q E)⟩
  | n + 1 => parts_step T n (ok_law_parts T n)
end
end Hm

set_option Elab.async false
set_option linter.all false
set_option maxRecDepth 100000
set_option maxHeartbeats 1000000
namespace Hm
open PySem PySem.Spec PyProof.Rows L2 HT
open Evl (Ex)
theorem inV_ints (k : Int) : ∀ acc : List Int, inV (.int k) (acc.map V.int) = decide (k ∈ acc)
  | [] => by simp [inV]
  | a :: acc => by
    have ih := inV_ints k acc
    unfold inV at ih ⊢
    rw [List.map_cons, List.any_cons, ih]
    show ((a == k) || decide (k ∈ acc)) = decide (k ∈ a :: acc)
    by_cases e : a = k
    · subst e
      simp
    · have : (a == k) = false := by simpa using e
      rw [this, Bool.false_or]
      by_cases m : k ∈ acc
      · rw [decide_eq_true m, decide_eq_true (List.mem_cons_of_mem _ m)]
      · rw [decide_eq_false m, decide_eq_false]
        intro z
        rcases List.mem_cons.mp z with z | z
        · exact e z.symm
        · exact m z
theorem flat_ints (acc : List Int) : (acc.map V.int).all flatV = true := by
  rw [List.all_map, List.all_eq_true]
  intro x _
  rfl
section
variable {P : Program} {w : World} {K : PySem.W.Frag} {mg : Str → Option Value} {base : Heap}
/-! ### _law_numbers -/
def spLNums (K : PySem.W.Frag) (n : Nat) : Sp := fun vs H Q _ => ∃ v t, vs = [v] ∧ Rep K H t v ∧ Ok t ∧ size t ≤ 1000 ∧ depth t ≤ n ∧ ∀ p H', H p = none → Ex H H' → H' p = some (.lst ((varsOf t).map V.int)) → Q (.ref p) H'
theorem ok_law_numbers (T : Tx K mg) : FnOk P w K mg base CX0 13 T.f_law_numbers T.d_law_numbers ["_law_term_here"] (spLNums K 10) := by
  refine T.h_law_numbers.F.ok sc_law_numbers (fun vs H Q E h => ?_) (fun cdv A outer s H vs Q E hr h => ?_)
  · obtain ⟨v, t, rfl, _⟩ := h
    rfl
  obtain ⟨v, t, rfl, hR, hO, hz, hd, q⟩ := h
  refine ⟨_, (pss_cons (ps_set (i := 1) sc_law_numbers.nd rfl (Or.inl rfl) (pe_lst pa_nil))
    (pss_cons (ps_for PassesOwn.never rfl (pi_list (cl (ok_law_parts T 10) T.h_law_parts hr (pa_cons (pv 0) pa_nil))) (pg_name (i := 2) sc_law_numbers.nd rfl (Or.inl rfl))
      (pss_one (ps_if (PW.pt (pw_and (pt_val (cl (ok_law_is_variable T) T.h_law_is_variable hr (pa_cons (pv 2) pa_nil))) (pw_and1 (pt_cmpR op_notIn_seq (pe_ix ix_tup (pv 2) pe_int (fun _ _ => rfl)) (pv 1) (by rfl)))))
      (pss_one (ps_expr (pe_bm PySem.F.plainAttrs_list PySem.F.slot_list_append PySem.F.type_list_append mt_append (pv 1) (pa_cons (pe_ix ix_tup (pv 2) pe_int (fun _ _ => rfl)) pa_nil))))
      pss_nil)))
    (pss_one (ps_ret (pv 1))))), ?_⟩
  refine ⟨Nat.zero_le _, fun l hl => ?_⟩
  have e0 := Ex.new (o := HO.lst []) hl
  refine ⟨_, rfl, v, t, rfl, hR.mono (Tups.of e0), hO, hz, hd, fun pl ps H1 hpl e1 hL hPs => ?_⟩
  have hne : l ≠ pl := ne_of_none upd_same hpl
  have hlen := hPs.len
  rw [len_pre] at hlen
  refine ⟨pl, rfl, ⟨ps, SqL.of hL⟩, for_list (fun i σ' H' => ∃ x, σ' = [some v, some (.ref l), x] ∧ Ex H H' ∧ Tups K H1 H' ∧ H' pl = some (.lst ps) ∧ H' l = some (.lst ((((pre t).take i).foldl stepVar []).map V.int)))
    ⟨none, rfl, e0.trans e1, Tups.refl _, hL, e1 l _ upd_same⟩ (fun i σ' H' _ ⟨_, _, _, _, h, _⟩ => SqL.of h) ?_ ?_⟩
  · rintro i x σ' H' hx ⟨x3, rfl, e2, tu, hp, hD⟩
    obtain ⟨ti, hti, hrep⟩ := (hPs.mono tu).get hx
    have hOi := oks_get (ok_pre hO) hti
    have hi : i < size t := by
      rw [← len_pre]
      exact (List.getElem?_eq_some_iff.mp hti).1
    have hfold := fold_take_succ stepVar [] hti
    have hl2 := fold_len ((pre t).take i) []
    rw [List.length_nil, List.length_take] at hl2
    refine ⟨_, rfl, x, ti, rfl, hrep, hOi, _, rfl, ?_⟩
    cases ti with
    | var k =>
      unfold Rep at hrep
      obtain ⟨a, rfl, hT⟩ := hrep
      refine iteT ⟨_, rfl, a, _, 0, _, rfl, rfl, hT, at0, _, rfl, l, _, rfl, .inl (SqL.of hD), rfl, flat_ints _, _, rfl, ?_⟩
      rw [if_pos rfl, inV_ints]
      by_cases m : k ∈ ((pre t).take i).foldl stepVar []
      · rw [decide_eq_true m]
        refine iteF ⟨_, rfl, e2, tu, hp, ?_⟩
        rw [hfold]
        show H' l = some (.lst ((addNew _ k).map V.int))
        unfold addNew
        rw [if_pos m]
        exact hD
      · rw [decide_eq_false m]
        refine iteT ⟨_, rfl, .inl ⟨rfl, _, SqL.of hD⟩, _, rfl, a, _, 0, _, rfl, rfl, hT, at0, l, _, _, rfl, rfl, hD, small5' (by rw [List.length_map]; omega), ?_⟩
        refine ⟨_, rfl, Ex.mut e2 hl, tu.trans (Tups.lst hD), ?_, ?_⟩
        · rw [upd_ne hne.symm]
          exact hp
        · rw [upd_same, hfold]
          show _ = some (HO.lst ((addNew _ k).map V.int))
          unfold addNew
          rw [if_neg m, List.map_append]
          rfl
    | int n => exact iteF (iteF ⟨_, rfl, e2, tu, hp, by rw [hfold]; exact hD⟩)
    | atom n => exact iteF (iteF ⟨_, rfl, e2, tu, hp, by rw [hfold]; exact hD⟩)
    | comp f as => exact iteF (iteF ⟨_, rfl, e2, tu, hp, by rw [hfold]; exact hD⟩)
  · rintro σ' H' ⟨x3, rfl, e2, tu, hp, hD⟩
    rw [← hlen, List.take_of_length_le (by rw [len_pre]; exact Nat.le_refl _)] at hD
    exact ⟨_, rfl, q l H' hl e2 hD⟩
/-! ### _law_put -/
def spLPut (K : PySem.W.Frag) (n : Nat) : Sp := fun vs H Q _ => ∃ v t d g, vs = [v, .ref d] ∧ Rep K H t v ∧ Ok t ∧ size t ≤ 1000 ∧ depth t ≤ n ∧ TabRep K H d g ∧ ∀ u H', Ex H H' → Rep K H' (sub g t) u → Q u H'
theorem put_step (T : Tx K mg) (n : Nat) (ih : FnOk P w K mg base CX0 (n + 2) T.f_law_put T.d_law_put ["_law_term_here", "_law_table"] (spLPut K n)) :
    FnOk P w K mg base CX0 (n + 2 + 1) T.f_law_put T.d_law_put ["_law_term_here", "_law_table"] (spLPut K (n + 1)) := by
  refine T.h_law_put.F.ok sc_law_put (fun vs H Q E h => ?_) (fun cdv A outer s H vs Q E hr h => ?_)
  · obtain ⟨v, t, _, _, rfl, _⟩ := h
    rfl
  obtain ⟨v, t, d, g, rfl, hR, hO, hz, hd, hTab, q⟩ := h
  have hu := hu_of hr
  refine ⟨_, (pss_cons (ps_if (pt_val (cl (ok_law_is_variable T) T.h_law_is_variable hr (pa_cons (pv 0) pa_nil)))
      (pss_one (ps_ret (pe_dget2 hu (pv 1) (pe_ix ix_tup (pv 0) pe_int (fun _ _ => rfl)) (pv 0) ⟨rfl, rfl, rfl, rfl⟩)))
      pss_nil)
    (pss_cons (ps_if (pt_not (pt_val (cl (ok_law_is_compound T) T.h_law_is_compound hr (pa_cons (pv 0) pa_nil))))
      (pss_one (ps_ret (pv 0)))
      pss_nil)
    (pss_one (ps_ret (pe_op op_catT (pe_tup (pa_cons (pe_ix ix_tup (pv 0) pe_int (fun _ _ => rfl)) pa_nil)) (pe_callTy call_tuple_of rfl T.b_tuple (by decide +kernel) (pa_cons (pe_lc (own := [("_law_part", 2)]) (g := gName 2) rfl sc_law_put.nd (pi_tup (pe_slice sl_tup (pv 0) (po_some pe_int) po_none)) (blkOk_by (own := [("_law_part", 2)]) (N := ["_law_term_here", "_law_table", "_law_part"]) (sc := defScope s_law_put) (by decide +kernel)) (fun _ _ _ _ _ => pg_name (i := 2) sc_law_put.nd rfl (Or.inl rfl)) (fun _ _ _ _ _ => pts_nil) (fun _ _ _ _ _ => (cl ih T.h_law_put hr (pa_cons (pv 2) (pa_cons (pv 1) pa_nil))))) pa_nil))))))), ?_⟩
  refine ⟨_, rfl, v, t, rfl, hR, hO, _, rfl, ?_⟩
  cases t with
  | var k =>
    unfold Rep at hR
    obtain ⟨a, rfl, hT⟩ := hR
    obtain ⟨kvs, hkv, hval⟩ := hTab
    refine iteT ⟨_, rfl, d, rfl, .inl ⟨kvs, hkv⟩, _, rfl, a, _, 0, _, rfl, rfl, hT, at0, _, rfl, _, .inl ⟨kvs, Sum.inl k, hkv, rfl, rfl⟩, q _ H (Ex.refl _) ?_⟩
    show Rep K H (g k) _
    cases hv : valV kvs (Sum.inl k : Key) with
    | some u => exact (hval k).1 u hv
    | none =>
      rw [(hval k).2 hv]
      unfold Rep
      exact ⟨a, rfl, hT⟩
  | int i => exact iteF ⟨_, rfl, v, .int i, rfl, hR, hO, false, rfl, iteT ⟨_, rfl, q _ H (Ex.refl _) hR⟩⟩
  | atom z => exact iteF ⟨_, rfl, v, .atom z, rfl, hR, hO, false, rfl, iteT ⟨_, rfl, q _ H (Ex.refl _) hR⟩⟩
  | comp f as =>
    refine iteF ⟨_, rfl, v, .comp f as, rfl, hR, hO, true, rfl, iteF ?_⟩
    unfold Rep at hR
    obtain ⟨a, ws, rfl, hT, hA⟩ := hR
    refine ⟨_, rfl, a, _, 0, _, rfl, rfl, hT, at0, (by show 1 ≤ sizeLine; decide), fun tp htp => ?_⟩
    have e1 := Ex.new (o := HO.tup [.str f]) htp
    have hT1 : SqT K (upd H tp (.tup [.str f])) tp [.str f] := SqT.of upd_same
    refine ⟨_, rfl, _, rfl, a, _, rfl, Evl.ex_t e1 hT, cut1_ne _ _, fun p hp => ?_⟩
    rw [cut1]
    have e2 := Ex.new (o := HO.tup ws) hp
    have hP : (upd (upd H tp (.tup [.str f])) p (.tup ws)) p = some (.tup ws) := upd_same
    have hA2 := (hA.mono (Tups.of e1)).mono (Tups.of e2)
    have hTab2 := (hTab.mono e1).mono e2
    have hT2 := Evl.ex_t e2 hT1
    have e12 := e1.trans e2
    generalize upd (upd H tp (.tup [.str f])) p (.tup ws) = H2 at *
    have hlen := hA.len
    have hdt := depth_eq (.comp f as)
    have hst := size_eq (.comp f as)
    have hO2 := hO
    unfold Ok at hO2
    refine ⟨p, rfl, ⟨ws, SqT.of hP⟩, fun D hD => ?_⟩
    have e3 := Ex.new (o := HO.lst []) hD
    refine lc_it walk_tup (fun i H' => Ex H2 H' ∧ ∃ us, H' D = some (.lst us) ∧ Reps K H' (subs g (as.take i)) us) ⟨e3, [], upd_same, Reps.nil⟩ (fun i H' _ h => SqT.of (h.1 p _ hP)) ?_ ?_
    · rintro i x H3x H3 hi ⟨e4, us, hU, hUs⟩ ⟨rfl, hx⟩
      obtain ⟨ti, hti, hri⟩ := (hA2.mono (Tups.of e4)).get hx
      have hd1 := depths_get (ts := as) hti
      have hs1 := sizes_get (ts := as) hti
      refine ⟨rfl, yesI ⟨_, rfl, _, rfl, x, ti, d, g, rfl, hri, oks_get hO2.2.2.2 hti, ?_, ?_, hTab2.mono e4, fun u H4 e5 hu => ?_⟩⟩
      · show size ti ≤ 1000
        have : (Tm.comp f as).args = as := rfl
        rw [this] at hst
        omega
      · show depth ti ≤ n
        have : (Tm.comp f as).args = as := rfl
        rw [this] at hdt
        omega
      · have hU4 := e5 D _ hU
        have hl2 := hUs.len
        rw [subs_len, List.length_take] at hl2
        refine ⟨us, hU4, small5' (by omega), Ex.mut (e4.trans e5) hD, us ++ [u], upd_same, ?_⟩
        rw [take_snoc hti, subs_app, subs_one]
        have t6 : Tups K H4 (upd H4 D (.lst (us ++ [u]))) := Tups.lst hU4
        exact Reps.app ((hUs.mono (Tups.of e5)).mono t6) (Reps.one (hu.mono t6))
    · rintro H3 ⟨e4, us, hU, hUs⟩
      rw [← hlen, List.take_of_length_le (Nat.le_refl _)] at hUs
      have hl2 := hUs.len
      rw [subs_len] at hl2
      refine ⟨D, us, rfl, .inl ⟨SqL.of hU, fun q2 hq2 => ?_⟩⟩
      have e5 := Ex.new (o := HO.tup us) hq2
      refine ⟨tp, q2, [.str f], us, rfl, rfl, Evl.ex_t e5 (Evl.ex_t e4 hT2), SqT.of upd_same, by simp, small5 (by simp; omega), fun z => ?_, fun _ p3 hp3 => ?_⟩
      · rw [z, List.length_nil] at hl2
        omega
      · have e6 := Ex.new (o := HO.tup ([V.str f] ++ us)) hp3
        refine q (.ref p3) _ (((e12.trans e4).trans e5).trans e6) ?_
        unfold sub Rep
        exact ⟨p3, us, rfl, SqT.of upd_same, (hUs.mono (Tups.of e5)).mono (Tups.of e6)⟩
theorem ok_law_put (T : Tx K mg) : ∀ n : Nat, FnOk P w K mg base CX0 (n + 2) T.f_law_put T.d_law_put ["_law_term_here", "_law_table"] (spLPut K n)
  | 0 => by
    have no : ∀ vs H Q E, ¬ spLPut K 0 vs H Q E := fun vs H Q E ⟨v, t, _, _, _, _, _, _, h, _⟩ => by
      have := depth_pos t
      omega
    exact ⟨fun vs H Q E h => absurd h (no vs H Q E), fun A outer s H args us vs Q E _ _ _ _ h => absurd h (no vs H Q E)⟩
  | n + 1 => put_step T n (ok_law_put T n)
end
end Hm

set_option Elab.async false
set_option linter.all false
set_option maxRecDepth 100000
set_option maxHeartbeats 1000000
namespace Hm
open PySem PySem.Spec PyProof.Rows L2 HT
open Evl (Ex)
/-! ## mathematics of renaming -/
/-- a table that gives a variable for each variable -/
def vg (f : Int → Int) (k : Int) : Tm := .var (f k)
mutual
theorem size_vg (f : Int → Int) : ∀ t : Tm, size (sub (vg f) t) = size t
  | .var _ => rfl
  | .int _ => rfl
  | .atom _ => rfl
  | .comp g as => by
    unfold sub size
    rw [sizes_vg f as]
theorem sizes_vg (f : Int → Int) : ∀ ts : List Tm, sizes (subs (vg f) ts) = sizes ts
  | [] => rfl
  | t :: ts => by
    unfold subs
    rw [sizes_cons, sizes_cons, size_vg f t, sizes_vg f ts]
end
mutual
theorem depth_vg (f : Int → Int) : ∀ t : Tm, depth (sub (vg f) t) = depth t
  | .var _ => rfl
  | .int _ => rfl
  | .atom _ => rfl
  | .comp g as => by
    unfold sub depth
    rw [depths_vg f as]
theorem depths_vg (f : Int → Int) : ∀ ts : List Tm, depths (subs (vg f) ts) = depths ts
  | [] => rfl
  | t :: ts => by
    unfold subs
    rw [depths_cons, depths_cons, depth_vg f t, depths_vg f ts]
end
mutual
theorem ok_vg {f : Int → Int} {m : Int} (hf : ∀ k, 0 ≤ k → k < m → 0 ≤ f k) : ∀ t : Tm, Ok t → Vlt m t → Ok (sub (vg f) t)
  | .var k, h, h2 => by
    unfold Ok at h
    unfold Vlt at h2
    unfold sub vg Ok
    exact hf k h h2
  | .int _, h, _ => h
  | .atom _, h, _ => h
  | .comp g as, h, h2 => by
    unfold Ok at h
    unfold Vlt at h2
    unfold sub Ok
    rw [subs_len]
    exact ⟨h.1, h.2.1, h.2.2.1, oks_vg hf as h.2.2.2 h2⟩
theorem oks_vg {f : Int → Int} {m : Int} (hf : ∀ k, 0 ≤ k → k < m → 0 ≤ f k) : ∀ ts : List Tm, Oks ts → Vlts m ts → Oks (subs (vg f) ts)
  | [], _, _ => trivial
  | t :: ts, h, h2 => by
    rw [oks_cons] at h
    unfold Vlts at h2
    unfold subs
    rw [oks_cons]
    exact ⟨ok_vg hf t h.1 h2.1, oks_vg hf ts h.2 h2.2⟩
end
/-- the variables of a term in a row, each as often as it stands -/
def vOne : Tm → List Int
  | .var k => [k]
  | _ => []
def vSeq (t : Tm) : List Int := (pre t).flatMap vOne
theorem fold_flat : ∀ (ts : List Tm) (acc : List Int), ts.foldl stepVar acc = (ts.flatMap vOne).foldl addNew acc
  | [], _ => rfl
  | t :: ts, acc => by
    rw [List.foldl_cons, List.flatMap_cons, List.foldl_append, fold_flat ts]
    cases t <;> rfl
theorem varsOf_seq (t : Tm) : varsOf t = (vSeq t).foldl addNew [] := fold_flat _ _
mutual
theorem pre_vg (f : Int → Int) : ∀ t : Tm, (pre (sub (vg f) t)).flatMap vOne = ((pre t).flatMap vOne).map f
  | .var _ => rfl
  | .int _ => rfl
  | .atom _ => rfl
  | .comp g as => by
    unfold sub pre
    rw [List.flatMap_cons, List.flatMap_cons]
    show [] ++ _ = ([] ++ _).map f
    rw [List.nil_append, List.nil_append]
    exact pres_vg f as
theorem pres_vg (f : Int → Int) : ∀ ts : List Tm, (pres (subs (vg f) ts)).flatMap vOne = ((pres ts).flatMap vOne).map f
  | [] => rfl
  | t :: ts => by
    unfold subs
    rw [pres_cons, pres_cons, List.flatMap_append, List.flatMap_append, pre_vg f t, pres_vg f ts, List.map_append]
end
theorem vSeq_vg (f : Int → Int) (t : Tm) : vSeq (sub (vg f) t) = (vSeq t).map f := pre_vg f t
theorem mem_addNew {acc : List Int} {k j : Int} : j ∈ addNew acc k ↔ j ∈ acc ∨ j = k := by
  unfold addNew
  split
  · constructor
    · exact .inl
    · rintro (h | h)
      · exact h
      · subst h; assumption
  · simp
theorem mem_fold : ∀ (ks acc : List Int) (j : Int), j ∈ ks.foldl addNew acc ↔ j ∈ acc ∨ j ∈ ks
  | [], acc, j => by simp
  | k :: ks, acc, j => by
    rw [List.foldl_cons, mem_fold ks, mem_addNew, List.mem_cons]
    constructor
    · rintro ((h | h) | h)
      · exact .inl h
      · exact .inr (.inl h)
      · exact .inr (.inr h)
    · rintro (h | h | h)
      · exact .inl (.inl h)
      · exact .inl (.inr h)
      · exact .inr h
theorem fold_map (f : Int → Int) (S : List Int) (hf : ∀ a ∈ S, ∀ b ∈ S, f a = f b → a = b) : ∀ (ks acc : List Int), (∀ k ∈ ks, k ∈ S) → (∀ k ∈ acc, k ∈ S) → (ks.map f).foldl addNew (acc.map f) = (ks.foldl addNew acc).map f
  | [], _, _, _ => rfl
  | k :: ks, acc, h1, h2 => by
    have hk := h1 k List.mem_cons_self
    have e : addNew (acc.map f) (f k) = (addNew acc k).map f := by
      unfold addNew
      by_cases m : k ∈ acc
      · rw [if_pos m, if_pos (List.mem_map_of_mem m)]
      · rw [if_neg m, if_neg]
        · rw [List.map_append]
          rfl
        · intro z
          obtain ⟨j, hj, he⟩ := List.mem_map.mp z
          exact m (hf j (h2 j hj) k hk he ▸ hj)
    rw [List.map_cons, List.foldl_cons, List.foldl_cons, e]
    exact fold_map f S hf ks _ (fun j hj => h1 j (List.mem_cons_of_mem _ hj)) fun j hj => by
      rcases mem_addNew.mp hj with h | h
      · exact h2 j h
      · exact h ▸ hk
/-- what renumbering does to a number -/
def rf (xs : List Int) (k : Int) : Int := if k ∈ xs then ((xs.idxOf k : Nat) : Int) else k
theorem rg_vg (xs : List Int) : rg xs = vg (rf xs) := by
  funext k
  unfold rg vg rf
  split <;> rfl
theorem renum_vg (t : Tm) : renum t = sub (vg (rf (varsOf t))) t := by
  unfold renum
  rw [rg_vg]
theorem rf_nat {xs : List Int} {k : Int} (h : 0 ≤ k) : 0 ≤ rf xs k := by
  unfold rf
  split
  · exact Int.natCast_nonneg _
  · exact h
mutual
theorem ok_renum' {f : Int → Int} (hf : ∀ k, 0 ≤ k → 0 ≤ f k) : ∀ t : Tm, Ok t → Ok (sub (vg f) t)
  | .var k, h => by
    unfold Ok at h
    unfold sub vg Ok
    exact hf k h
  | .int _, h => h
  | .atom _, h => h
  | .comp g as, h => by
    unfold Ok at h
    unfold sub Ok
    rw [subs_len]
    exact ⟨h.1, h.2.1, h.2.2.1, oks_renum' hf as h.2.2.2⟩
theorem oks_renum' {f : Int → Int} (hf : ∀ k, 0 ≤ k → 0 ≤ f k) : ∀ ts : List Tm, Oks ts → Oks (subs (vg f) ts)
  | [], _ => trivial
  | t :: ts, h => by
    rw [oks_cons] at h
    unfold subs
    rw [oks_cons]
    exact ⟨ok_renum' hf t h.1, oks_renum' hf ts h.2⟩
end
theorem ok_renum {t : Tm} (h : Ok t) : Ok (renum t) := by
  rw [renum_vg]
  exact ok_renum' (fun k hk => rf_nat hk) t h
mutual
theorem sub_id {f : Int → Int} : ∀ t : Tm, (∀ k ∈ (pre t).flatMap vOne, f k = k) → sub (vg f) t = t
  | .var k, h => by
    unfold sub vg
    rw [h k (by simp [pre, vOne])]
  | .int _, _ => rfl
  | .atom _, _ => rfl
  | .comp g as, h => by
    unfold sub
    rw [subs_id as fun k hk => h k (by unfold pre; rw [List.flatMap_cons]; exact List.mem_append_right _ hk)]
theorem subs_id {f : Int → Int} : ∀ ts : List Tm, (∀ k ∈ (pres ts).flatMap vOne, f k = k) → subs (vg f) ts = ts
  | [], _ => rfl
  | t :: ts, h => by
    rw [pres_cons, List.flatMap_append] at h
    unfold subs
    rw [sub_id t fun k hk => h k (List.mem_append_left _ hk), subs_id ts fun k hk => h k (List.mem_append_right _ hk)]
end
theorem varsOf_mem {t : Tm} {k : Int} (h : k ∈ vSeq t) : k ∈ varsOf t := by
  rw [varsOf_seq]
  exact (mem_fold _ _ _).mpr (.inr h)
theorem mem_varsOf {t : Tm} {k : Int} (h : k ∈ varsOf t) : k ∈ vSeq t := by
  rw [varsOf_seq] at h
  rcases (mem_fold _ _ _).mp h with h | h
  · cases h
  · exact h
theorem rf_inj {xs : List Int} : ∀ a ∈ xs, ∀ b ∈ xs, rf xs a = rf xs b → a = b := fun a ha b hb e => by
  unfold rf at e
  rw [if_pos ha, if_pos hb] at e
  have e2 : xs.idxOf a = xs.idxOf b := by omega
  have h1 := List.getElem_idxOf (List.idxOf_lt_length_of_mem ha)
  have h2 := List.getElem_idxOf (List.idxOf_lt_length_of_mem hb)
  rw [← h1, ← h2]
  congr 1
theorem map_rf {xs : List Int} (hn : xs.Nodup) : xs.map (rf xs) = (List.range xs.length).map fun i => ((i : Nat) : Int) := by
  apply List.ext_getElem?
  intro i
  rw [List.getElem?_map, List.getElem?_map]
  by_cases hi : i < xs.length
  · rw [List.getElem?_eq_getElem hi, List.getElem?_range hi]
    show some (rf xs xs[i]) = some ((i : Nat) : Int)
    unfold rf
    rw [if_pos (List.getElem_mem hi), idx_at hn (List.getElem?_eq_getElem hi)]
  · rw [List.getElem?_eq_none (by omega), List.getElem?_eq_none (by rw [List.length_range]; omega)]
    rfl
theorem renum_renum (t : Tm) : renum (renum t) = renum t := by
  have hn := varsOf_nodup t
  have e1 : varsOf (renum t) = (List.range (varsOf t).length).map fun i => ((i : Nat) : Int) := by
    rw [renum_vg, varsOf_seq, vSeq_vg]
    have := fold_map (rf (varsOf t)) (varsOf t) rf_inj (vSeq t) [] (fun k hk => varsOf_mem hk) (fun k hk => by cases hk)
    rw [List.map_nil] at this
    rw [this, ← varsOf_seq, map_rf hn]
  rw [renum_vg (renum t)]
  refine sub_id _ fun k hk => ?_
  have hk2 : k ∈ varsOf (renum t) := varsOf_mem hk
  have hn2 := varsOf_nodup (renum t)
  rw [e1] at hk2 hn2
  rw [e1]
  unfold rf
  rw [if_pos hk2]
  obtain ⟨i, hi, e⟩ := List.mem_map.mp hk2
  have hi2 : i < (varsOf t).length := List.mem_range.mp hi
  have : ((List.range (varsOf t).length).map fun i => ((i : Nat) : Int))[i]? = some k := by
    rw [List.getElem?_map, List.getElem?_range hi2]
    exact congrArg some e
  rw [idx_at hn2 this]
  exact e
theorem size_renum (t : Tm) : size (renum t) = size t := by
  rw [renum_vg, size_vg]
theorem depth_renum (t : Tm) : depth (renum t) = depth t := by
  rw [renum_vg, depth_vg]
/-! ## terms as data -/
mutual
def toD : Tm → PyData
  | .var k => .tuple [.int k]
  | .int i => .int i
  | .atom s => .str s
  | .comp f as => .tuple (.str f :: toDs as)
def toDs : List Tm → List PyData
  | [] => []
  | t :: ts => toD t :: toDs ts
end
section
variable {K : PySem.W.Frag} {H : Hp}
mutual
theorem dp_rep : ∀ {t : Tm} {v : V}, Rep K H t v → Dp K H v (toD t)
  | .var k, v, h => by
    unfold Rep at h
    obtain ⟨a, rfl, hT⟩ := h
    exact .tup hT (.cons (.int k) .nil)
  | .int i, v, h => by
    unfold Rep at h
    subst h
    exact .int i
  | .atom s, v, h => by
    unfold Rep at h
    subst h
    exact .str s
  | .comp f as, v, h => by
    unfold Rep at h
    obtain ⟨a, vs, rfl, hT, hA⟩ := h
    exact .tup hT (.cons (.str f) (dp_reps hA))
theorem dp_reps : ∀ {ts : List Tm} {vs : List V}, Reps K H ts vs → DpAll K H vs (toDs ts)
  | [], vs, h => by
    rw [h.nil_inv]
    exact .nil
  | t :: ts, vs, h => by
    obtain ⟨v, ws, rfl, h1, h2⟩ := h.cons_inv
    exact .cons (dp_rep h1) (dp_reps h2)
end
theorem dp_ints {p : Addr} {ns : List Int} (h : SqL K H p (ns.map V.int)) : Dp K H (.ref p) (.list (ns.map PyData.int)) := by
  refine .lst h ?_
  induction ns with
  | nil => exact .nil
  | cons n ns ih => exact .cons (.int n) (ih' ns)
where ih' : ∀ ns : List Int, DpAll K H (ns.map V.int) (ns.map PyData.int)
  | [] => .nil
  | n :: ns => .cons (.int n) (ih' ns)
end
theorem lay_ints : ∀ ns : List Int, PyData.canLayAll0 (ns.map PyData.int) = true
  | [] => rfl
  | n :: ns => by
    show (PyData.canLay0 (.int n) && PyData.canLayAll0 (ns.map PyData.int)) = true
    rw [lay_ints ns]
    rfl
theorem dep_ints : ∀ ns : List Int, PyData.depthAll (ns.map PyData.int) = 0
  | [] => rfl
  | n :: ns => by
    show max (PyData.depth (.int n)) (PyData.depthAll (ns.map PyData.int)) = 0
    rw [dep_ints ns]
    rfl
theorem shaped_ints (ns : List Int) : SeqAt.shaped (.list (ns.map PyData.int)) = true := by
  show (PyData.canLayAll0 (ns.map PyData.int) && decide (PyData.depthAll (ns.map PyData.int) + 1 ≤ 64)) = true
  rw [lay_ints, dep_ints]
  rfl
theorem eqv_ints (ns : List Int) : PyData.eqv (.list (ns.map PyData.int)) (.list (ns.map PyData.int)) = true := SeqAt.eqv_refl _ (lay_ints ns)
theorem strOk_of {s : Str} (h : AtomOk s) : (PyData.str s).canLay0 = true := by
  show (s.cps.all fun c => decide (c < 0x110000)) = true
  rw [← Array.all_toList, List.all_eq_true]
  intro c hc
  have := h.2 c hc
  exact decide_eq_true (by omega)
mutual
theorem lay_tm : ∀ {t : Tm}, Ok t → (toD t).canLay0 = true
  | .var k, _ => rfl
  | .int i, _ => rfl
  | .atom s, h => by
    unfold Ok at h
    exact strOk_of h
  | .comp f as, h => by
    unfold Ok at h
    unfold toD
    show ((PyData.str f).canLay0 && PyData.canLayAll0 (toDs as)) = true
    rw [strOk_of h.1, lay_tms h.2.2.2]
    rfl
theorem lay_tms : ∀ {ts : List Tm}, Oks ts → PyData.canLayAll0 (toDs ts) = true
  | [], _ => rfl
  | t :: ts, h => by
    rw [oks_cons] at h
    unfold toDs
    show ((toD t).canLay0 && PyData.canLayAll0 (toDs ts)) = true
    rw [lay_tm h.1, lay_tms h.2]
    rfl
end
mutual
theorem dep_tm : ∀ t : Tm, (toD t).depth ≤ depth t
  | .var k => by
    show max (PyData.depth (.int k)) (PyData.depthAll []) + 1 ≤ 1
    exact Nat.le_refl _
  | .int i => Nat.zero_le _
  | .atom s => Nat.zero_le _
  | .comp f as => by
    unfold toD depth
    have := dep_tms as
    show max (PyData.depth (.str f)) (PyData.depthAll (toDs as)) + 1 ≤ _
    have e : PyData.depth (.str f) = 0 := rfl
    omega
theorem dep_tms : ∀ ts : List Tm, PyData.depthAll (toDs ts) ≤ depths ts
  | [] => Nat.zero_le _
  | t :: ts => by
    unfold toDs
    rw [depths_cons]
    have h1 := dep_tm t
    have h2 := dep_tms ts
    show max (toD t).depth (PyData.depthAll (toDs ts)) ≤ _
    omega
end
theorem shaped_tm {t : Tm} (h : Ok t) (hd : depth t ≤ 64) : SeqAt.shaped (toD t) = true := by
  show ((toD t).canLay0 && decide ((toD t).depth ≤ 64)) = true
  rw [lay_tm h, decide_eq_true (Nat.le_trans (dep_tm t) hd)]
  rfl
theorem eqv_tm {t : Tm} (h : Ok t) : PyData.eqv (toD t) (toD t) = true := SeqAt.eqv_refl _ (lay_tm h)
end Hm

set_option Elab.async false
set_option linter.all false
set_option maxRecDepth 100000
set_option maxHeartbeats 1000000
namespace Hm
open PySem PySem.Spec PyProof.Rows L2 HT
open Evl (Ex)
theorem Paired.snoc {α β : Type} {F : α → β → Prop} : ∀ {l1 : List α} {l2 : List β} {a : α} {b : β}, PySem.Paired F l1 l2 → F a b → PySem.Paired F (l1 ++ [a]) (l2 ++ [b])
  | _, _, _, _, .nil, h => .cons h .nil
  | _, _, _, _, .cons r t, h => .cons r (Paired.snoc t h)
theorem merge_snoc (kvs : List (Key × V)) (kv : Key × V) : mergeK [] (kvs ++ [kv]) = putK (mergeK [] kvs) kv.1 kv.2 := by
  unfold mergeK
  rw [List.foldl_append]
  rfl
theorem depths_max : ∀ (ts : List Tm) (m : Int), m ∈ ts.map (fun t => ((depth t : Nat) : Int)) → (∀ y ∈ ts.map (fun t => ((depth t : Nat) : Int)), y ≤ m) → m = ((depths ts : Nat) : Int) := by
  intro ts m hm hle
  have up : ∀ us : List Tm, (∀ y ∈ us.map (fun t => ((depth t : Nat) : Int)), y ≤ m) → ((depths us : Nat) : Int) ≤ m ∨ us = [] := by
    intro us
    induction us with
    | nil => intro _; exact .inr rfl
    | cons u us ih =>
      intro h
      rw [List.map_cons] at h
      have h1 := h _ List.mem_cons_self
      have h2 := ih fun y hy => h y (List.mem_cons_of_mem _ hy)
      refine .inl ?_
      rw [depths_cons]
      rcases h2 with h2 | h2
      · omega
      · subst h2
        have : depths ([] : List Tm) = 0 := by simp [depths]
        omega
  obtain ⟨t, ht, he⟩ := List.mem_map.mp hm
  obtain ⟨i, hi, hg⟩ := List.getElem_of_mem ht
  have h1 := depths_get (ts := ts) (i := i) (t := t) (by rw [List.getElem?_eq_getElem hi, hg])
  rcases up ts hle with h2 | h2
  · omega
  · subst h2
    cases ht
section
variable {P : Program} {w : World} {K : PySem.W.Frag} {mg : Str → Option Value} {base : Heap}
/-! ### _law_depth -/
def spLDepth (K : PySem.W.Frag) (n : Nat) : Sp := fun vs H Q _ => ∃ v t, vs = [v] ∧ Rep K H t v ∧ Ok t ∧ depth t ≤ n ∧ ∀ H', Ex H H' → Q (.int ((depth t : Nat) : Int)) H'
theorem depth_step (T : Tx K mg) (n : Nat) (ih : FnOk P w K mg base CX0 (n + 2) T.f_law_depth T.d_law_depth ["_law_term_here"] (spLDepth K n)) :
    FnOk P w K mg base CX0 (n + 2 + 1) T.f_law_depth T.d_law_depth ["_law_term_here"] (spLDepth K (n + 1)) := by
  refine T.h_law_depth.F.ok sc_law_depth (fun vs H Q E h => ?_) (fun cdv A outer s H vs Q E hr h => ?_)
  · obtain ⟨v, t, rfl, _⟩ := h
    rfl
  obtain ⟨v, t, rfl, hR, hO, hd, q⟩ := h
  refine ⟨_, (pss_one (ps_ret (pe_op op_add pe_int (pe_callB (cr_max rfl) rfl T.b_max (by decide +kernel) (pa_cons (pe_ifExp (pt_val (cl (ok_law_is_compound T) T.h_law_is_compound hr (pa_cons (pv 0) pa_nil))) (pe_lc (own := [("_law_part", 1)]) (g := gName 1) rfl sc_law_depth.nd (pi_tup (pe_slice sl_tup (pv 0) (po_some pe_int) po_none)) (blkOk_by (own := [("_law_part", 1)]) (N := ["_law_term_here", "_law_part"]) (sc := defScope s_law_depth) (by decide +kernel)) (fun _ _ _ _ _ => pg_name (i := 1) sc_law_depth.nd rfl (Or.inl rfl)) (fun _ _ _ _ _ => pts_nil) (fun _ _ _ _ _ => (cl ih T.h_law_depth hr (pa_cons (pv 1) pa_nil)))) (pe_lst (pa_cons pe_int pa_nil))) pa_nil))))), ?_⟩
  refine ⟨_, rfl, v, t, rfl, hR, hO, _, rfl, ?_⟩
  have hdt := depth_eq t
  cases t with
  | var k =>
    refine iteF ⟨(by show 1 ≤ sizeLine; decide), fun p hp => ⟨p, [0], rfl, SqL.of upd_same, by decide, fun m hm hle => ⟨_, _, rfl, rfl, ?_⟩⟩⟩
    have : m = 0 := by simpa using hm
    subst this
    exact q _ (Ex.new hp)
  | int k =>
    refine iteF ⟨(by show 1 ≤ sizeLine; decide), fun p hp => ⟨p, [0], rfl, SqL.of upd_same, by decide, fun m hm hle => ⟨_, _, rfl, rfl, ?_⟩⟩⟩
    have : m = 0 := by simpa using hm
    subst this
    exact q _ (Ex.new hp)
  | atom k =>
    refine iteF ⟨(by show 1 ≤ sizeLine; decide), fun p hp => ⟨p, [0], rfl, SqL.of upd_same, by decide, fun m hm hle => ⟨_, _, rfl, rfl, ?_⟩⟩⟩
    have : m = 0 := by simpa using hm
    subst this
    exact q _ (Ex.new hp)
  | comp f as =>
    unfold Rep at hR
    obtain ⟨a, ws, rfl, hT, hA⟩ := hR
    have hO2 := hO
    unfold Ok at hO2
    have hl := hA.len
    have hda : depths as + 1 ≤ n + 1 := by
      have : (Tm.comp f as).args = as := rfl
      rw [this] at hdt
      omega
    refine iteT ⟨_, rfl, _, rfl, a, _, rfl, hT, cut1_ne _ _, fun p hp => ?_⟩
    rw [cut1]
    have e1 := Ex.new (o := HO.tup ws) hp
    have hP : (upd H p (.tup ws)) p = some (.tup ws) := upd_same
    have hA1 := hA.mono (Tups.of e1)
    generalize upd H p (.tup ws) = H1 at *
    refine ⟨p, rfl, ⟨ws, SqT.of hP⟩, fun D hD => ?_⟩
    have e2 := Ex.new (o := HO.lst []) hD
    refine lc_it walk_tup (fun i H' => Ex H1 H' ∧ H' D = some (.lst ((as.take i).map fun t => V.int ((depth t : Nat) : Int)))) ⟨e2, upd_same⟩ (fun i H' _ h => SqT.of (h.1 p _ hP)) ?_ ?_
    · rintro i x H3x H3 hi ⟨e4, hU⟩ ⟨rfl, hx⟩
      obtain ⟨ti, hti, hri⟩ := (hA1.mono (Tups.of e4)).get hx
      have hd1 := depths_get (ts := as) hti
      refine ⟨rfl, yesI ⟨_, rfl, x, ti, rfl, hri, oks_get hO2.2.2.2 hti, by omega, fun H4 e5 => ?_⟩⟩
      have hU4 := e5 D _ hU
      refine ⟨_, hU4, small5' (by rw [List.length_map, List.length_take]; omega), Ex.mut (e4.trans e5) hD, ?_⟩
      rw [upd_same, tk_succ _ hti]
    · rintro H3 ⟨e4, hU⟩
      rw [← hl, List.take_of_length_le (Nat.le_refl _)] at hU
      refine ⟨D, as.map fun t => ((depth t : Nat) : Int), rfl, SqL.of ?_, ?_, fun m hm hle => ⟨_, _, rfl, rfl, ?_⟩⟩
      · rw [hU, List.map_map]
        rfl
      · rw [List.length_map]
        omega
      · have em := depths_max as m hm hle
        have e5 : (1 : Int) + m = ((depth (Tm.comp f as) : Nat) : Int) := by
          have : (Tm.comp f as).args = as := rfl
          rw [this] at hdt
          omega
        show Q (.int (1 + m)) H3
        rw [e5]
        exact q _ (e1.trans e4)
theorem ok_law_depth (T : Tx K mg) : ∀ n : Nat, FnOk P w K mg base CX0 (n + 2) T.f_law_depth T.d_law_depth ["_law_term_here"] (spLDepth K n)
  | 0 => by
    have no : ∀ vs H Q E, ¬ spLDepth K 0 vs H Q E := fun vs H Q E ⟨v, t, _, _, _, h, _⟩ => by
      have := depth_pos t
      omega
    exact ⟨fun vs H Q E h => absurd h (no vs H Q E), fun A outer s H args us vs Q E _ _ _ _ h => absurd h (no vs H Q E)⟩
  | n + 1 => depth_step T n (ok_law_depth T n)
/-! ### _law_anew -/
def spLAnew (K : PySem.W.Frag) : Sp := fun vs H Q _ => ∃ v t, vs = [v, .int 0] ∧ Rep K H t v ∧ Ok t ∧ size t ≤ 1000 ∧ depth t ≤ 10 ∧ ∀ u H', Ex H H' → Rep K H' (renum t) u → Q u H'
theorem ok_law_anew (T : Tx K mg) : FnOk P w K mg base CX0 14 T.f_law_anew T.d_law_anew ["_law_term_here", "_law_first"] (spLAnew K) := by
  refine T.h_law_anew.F.ok sc_law_anew (fun vs H Q E h => ?_) (fun cdv A outer s H vs Q E hr h => ?_)
  · obtain ⟨v, t, rfl, _⟩ := h
    rfl
  obtain ⟨v, t, rfl, hR, hO, hz, hd, q⟩ := h
  refine ⟨_, PSs.nox (pss_one (ps_ret (cl (ok_law_put T 10) T.h_law_put hr (pa_cons (pv 0) (pa_cons (pe_callTy (call_dictP rfl) rfl T.b_dict (by decide +kernel) (pa_cons (pe_lc (own := [("_law_at", 2), ("_law_number", 3)]) (g := gTup K 2 (gCons (gName 2) (gCons (gName 3) gNil))) rfl sc_law_anew.nd (pi_enum rfl T.b_enumerate (pa_cons (cl (ok_law_numbers T) T.h_law_numbers hr (pa_cons (pv 0) pa_nil)) pa_nil)) (blkOk_by (own := [("_law_at", 2), ("_law_number", 3)]) (N := ["_law_term_here", "_law_first", "_law_at", "_law_number"]) (sc := defScope s_law_anew) (by decide +kernel)) (fun _ _ _ _ _ => pg_tup rfl (pgs_cons (pg_name (i := 2) sc_law_anew.nd rfl (Or.inl rfl)) (pgs_cons (pg_name (i := 3) sc_law_anew.nd rfl (Or.inl rfl)) pgs_nil))) (fun _ _ _ _ _ => pts_nil) (fun _ _ _ _ _ => (pe_tup (pa_cons (pv 3) (pa_cons (pe_tup (pa_cons (pe_op op_add (pv 1) (pv 2)) pa_nil)) pa_nil))))) pa_nil)) pa_nil))))), ?_⟩
  refine ⟨_, rfl, _, rfl, v, t, rfl, hR, hO, hz, hd, fun pl H2 hpl e2 hL => ?_⟩
  have hnd := varsOf_nodup t
  have hvl := varsOf_len t
  generalize hxs : varsOf t = xs at *
  refine ⟨pl, xs.map V.int, rfl, SqL.of hL, fun D hD => lc_it walk_enum (fun i H' => Ex H2 H' ∧ ∃ (ps : List Addr) (kvs : List (Key × V)), H' D = some (.lst (ps.map V.ref)) ∧ PySem.Paired (fun (p : Addr) (kv : Key × V) => SqT K H' p [kV kv.1, kv.2]) ps kvs ∧ ps.length = i ∧
      (∀ k u, valV (mergeK [] kvs) (Sum.inl k : Key) = some u → ∃ j : Nat, j < i ∧ xs[j]? = some k ∧ Rep K H' (.var (j : Int)) u) ∧ (∀ k, valV (mergeK [] kvs) (Sum.inl k : Key) = none → ∀ j : Nat, j < i → xs[j]? ≠ some k))
    ⟨Ex.new hD, [], [], upd_same, .nil, rfl, fun k u h => by simp [valV, mergeK] at h, fun k _ j hj => absurd hj (Nat.not_lt_zero _)⟩ (fun i H' _ h => Evl.ex_l h.1 (SqL.of hL)) ?_ ?_⟩
  · rintro i x H3 H4 hi ⟨e3, ps, kvs, hK, hP, hpl2, hk1, hk2⟩ ⟨TT, x1, x2, rfl, hTT, rfl, hx1, hx2⟩
    have e4 := Ex.new (o := HO.tup [x1, x2]) hTT
    have hx1' : x1 = .int (i : Int) := (Option.some.inj hx1).symm
    subst hx1'
    rw [List.length_map] at hi
    obtain ⟨k, hk, rfl⟩ : ∃ k, xs[i]? = some k ∧ x2 = .int k := by
      have hx3 : (xs.map V.int)[i]? = some x2 := hx2
      rw [List.getElem?_map, List.getElem?_eq_getElem hi] at hx3
      rw [List.getElem?_eq_getElem hi]
      exact ⟨_, rfl, (Option.some.inj hx3).symm⟩
    refine ⟨TT, _, rfl, SqT.of upd_same, rfl, _, _, rfl, _, _, rfl, rfl, rfl, yesI ⟨_, rfl, _, rfl, _, rfl, _, _, rfl, rfl, (by show 1 ≤ sizeLine; decide), fun qp hqp => ⟨(by show 2 ≤ sizeLine; decide), fun tp htp => ?_⟩⟩⟩
    have ez : (0 : Int) + (i : Int) = (i : Int) := Int.zero_add _
    have e5 := Ex.new (o := HO.tup [V.int ((0 : Int) + (i : Int))]) hqp
    have e6 := Ex.new (o := HO.tup [V.int k, V.ref qp]) htp
    have hK6 := e6 D _ (e5 D _ (e4 D _ hK))
    have hq6 : SqT K (upd (upd (upd H3 TT (.tup [.int (i : Int), .int k])) qp (.tup [V.int ((0 : Int) + (i : Int))])) tp (.tup [V.int k, V.ref qp])) qp [.int (i : Int)] := by
      refine SqT.of (e6 qp _ ?_)
      rw [upd_same]
      exact congrArg (fun z => some (HO.tup [V.int z])) ez
    have ht6 : SqT K (upd (upd (upd H3 TT (.tup [.int (i : Int), .int k])) qp (.tup [V.int ((0 : Int) + (i : Int))])) tp (.tup [V.int k, V.ref qp])) tp [.int k, .ref qp] := SqT.of upd_same
    have t6 : Tups K H3 (upd (upd (upd H3 TT (.tup [.int (i : Int), .int k])) qp (.tup [V.int ((0 : Int) + (i : Int))])) tp (.tup [V.int k, V.ref qp])) := ((Tups.of e4).trans (Tups.of e5)).trans (Tups.of e6)
    have e456 := (e4.trans e5).trans e6
    refine ⟨_, hK6, small5' (by rw [List.length_map]; omega), Ex.mut (e3.trans e456) hD, ps ++ [tp], kvs ++ [((Sum.inl k : Key), V.ref qp)], ?_, ?_, by rw [List.length_append, hpl2]; rfl, fun k' u hu => ?_, fun k' hn j hj => ?_⟩
    · rw [upd_same, List.map_append]
      rfl
    · have tD := Tups.lst (K := K) (o := HO.lst (ps.map V.ref ++ [V.ref tp])) hK6
      exact Paired.snoc (Paired.mapP hP fun p kv h => tD _ _ (t6 _ _ h)) (tD _ _ ht6)
    · have tD := Tups.lst (K := K) (o := HO.lst (ps.map V.ref ++ [V.ref tp])) hK6
      rw [merge_snoc, valV_put] at hu
      by_cases hkk : (Sum.inl k' : Key) = Sum.inl k
      · rw [if_pos hkk] at hu
        injection hkk with hkk
        subst hkk
        have := Option.some.inj hu
        subst this
        refine ⟨i, Nat.lt_succ_self _, hk, ?_⟩
        unfold Rep
        exact ⟨qp, rfl, tD _ _ hq6⟩
      · rw [if_neg hkk] at hu
        obtain ⟨j, hj, h1, h2⟩ := hk1 k' u hu
        exact ⟨j, by omega, h1, (h2.mono t6).mono tD⟩
    · rw [merge_snoc, valV_put] at hn
      by_cases hkk : (Sum.inl k' : Key) = Sum.inl k
      · rw [if_pos hkk] at hn
        cases hn
      · rw [if_neg hkk] at hn
        by_cases hji : j = i
        · subst hji
          rw [hk]
          intro z
          exact hkk (by rw [Option.some.inj z])
        · exact hk2 k' hn j (by omega)
  · rintro H3 ⟨e3, ps, kvs, hK, hP, hpl2, hk1, hk2⟩
    rw [List.length_map] at hk1 hk2
    refine ⟨D, ps, kvs, rfl, SqL.of hK, hP, fun d hd2 => ?_⟩
    have e7 := Ex.new (o := HO.dK (mergeK [] kvs)) hd2
    refine ⟨v, t, d, rg xs, rfl, ((hR.mono (Tups.of e2)).mono (Tups.of e3)).mono (Tups.of e7), hO, hz, hd, ⟨mergeK [] kvs, .inl upd_same, fun k => ⟨fun u hu => ?_, fun hn => ?_⟩⟩, fun u H4 e4 hu => q u H4 (((e2.trans e3).trans e7).trans e4) ?_⟩
    · obtain ⟨j, hj, h1, h2⟩ := hk1 k u hu
      have hm : k ∈ xs := List.mem_of_getElem? h1
      unfold rg
      rw [if_pos hm, idx_at hnd h1]
      exact h2.mono (Tups.of e7)
    · have hm : ¬ k ∈ xs := fun hm => by
        obtain ⟨j, hj, h1⟩ := List.getElem_of_mem hm
        exact hk2 k hn j hj (by rw [List.getElem?_eq_getElem hj, h1])
      unfold rg
      rw [if_neg hm]
    · unfold renum
      rw [hxs]
      exact hu
end
end Hm

set_option Elab.async false
set_option linter.all false
set_option maxRecDepth 100000
set_option maxHeartbeats 1000000
namespace Hm
open PySem PySem.Spec PyProof.Rows L2 HT
open Evl (Ex)
/-! ## a long list -/
def lt (s : Int) (r : Tm) : Nat → Tm
  | 0 => r
  | i + 1 => .comp "." [.var ((i : Int) * 7 % s), lt s r i]
def bk (s : Int) (b : List Int) : Nat → List Int
  | 0 => b
  | i + 1 => ((i : Int) * 7 % s) :: bk s b i
theorem len_bk (s : Int) (b : List Int) : ∀ i, (bk s b i).length = i + b.length
  | 0 => by simp [bk]
  | i + 1 => by
    unfold bk
    rw [List.length_cons, len_bk s b i]
    omega
theorem size_lt (s : Int) (r : Tm) : ∀ i, size (lt s r i) = 2 * i + size r
  | 0 => by simp [lt]
  | i + 1 => by
    unfold lt
    rw [size_eq]
    show 1 + sizes [_, _] = _
    rw [sizes_cons, sizes_one, size_lt s r i]
    have : size (.var ((i : Int) * 7 % s)) = 1 := rfl
    omega
theorem depth_lt (s : Int) (r : Tm) : ∀ i, depth (lt s r i) = i + depth r
  | 0 => by simp [lt]
  | i + 1 => by
    unfold lt
    rw [depth_eq]
    show 1 + depths [_, _] = _
    have h1 : depths [lt s r i] = depth (lt s r i) := by simp [depths]
    rw [depths_cons, h1, depth_lt s r i]
    have : depth (.var ((i : Int) * 7 % s)) = 1 := rfl
    have := depth_pos r
    omega
theorem ok_lt {s : Int} (h : 0 < s) {r : Tm} (hr : Ok r) : ∀ i, Ok (lt s r i)
  | 0 => hr
  | i + 1 => by
    unfold lt Ok
    refine ⟨atomB_ok (by decide +kernel), (by show 1 ≤ 2; decide), (by show 2 ≤ 8; decide), ?_⟩
    rw [oks_cons, oks_cons]
    refine ⟨?_, ok_lt h hr i, trivial⟩
    unfold Ok
    exact (mod_in h).1
theorem seq_lt (s : Int) (r : Tm) : ∀ i, vSeq (lt s r i) = bk s (vSeq r) i
  | 0 => rfl
  | i + 1 => by
    unfold lt bk
    rw [← seq_lt s r i]
    unfold vSeq
    rw [pre, List.flatMap_cons]
    show [] ++ (pres [_, _]).flatMap vOne = _
    rw [List.nil_append, pres_cons, pres_one, List.flatMap_append]
    rfl
theorem fold_addNew_len : ∀ (ks acc : List Int), (ks.foldl addNew acc).length ≤ acc.length + ks.length
  | [], _ => Nat.le_refl _
  | k :: ks, acc => by
    have h1 := addNew_len acc k
    have h2 := fold_addNew_len ks (addNew acc k)
    rw [List.foldl_cons, List.length_cons]
    omega
/-- what may stand at the end of a list -/
structure EndOk (r : Tm) : Prop where
  ok : Ok r
  siz : size r = 1
  dep : depth r = 1
  seq : (List.replicate (if PyData.eqv (toD r) (.tuple [.int 3]) = true then (1 : Int) else 0).toNat [V.int 3]).flatten = (vSeq r).map V.int
theorem end_a : EndOk (.atom "[]") := ⟨by unfold Ok; exact atomB_ok (by decide +kernel), rfl, rfl, rfl⟩
theorem end_v : EndOk (.var 3) := ⟨by unfold Ok; decide, rfl, rfl, rfl⟩
theorem end_i : EndOk (.int 7) := ⟨by unfold Ok; decide +kernel, rfl, rfl, rfl⟩
section
variable {P : Program} {w : World} {K : PySem.W.Frag} {mg : Str → Option Value} {base : Heap}
def spLR : Sp := fun vs H Q _ => ∃ a, vs = [.ref a] ∧ Well H a ∧ ∀ H', Dr a H H' → Q (.bl true) H'
theorem ok_law_list_right (T : Tx K mg) : FnOk P w K mg base CX0 15 T.f_law_list_right T.d_law_list_right ["_law_well_here"] spLR := by
  refine T.h_law_list_right.F.ok sc_law_list_right (fun vs H Q E h => ?_) (fun cdv A outer s H vs Q E hr h => ?_)
  · obtain ⟨v, rfl, _⟩ := h
    rfl
  obtain ⟨a, rfl, hW, q⟩ := h
  refine ⟨_, (pss_cons (ps_par3 (i := 1) (j := 2) (l := 3) rfl sc_law_list_right.nd rfl rfl rfl (by decide) (by decide) (by decide) rfl rfl rfl (pa_cons (cl (ok_law_draw T) T.h_law_draw hr (pa_cons (pv 0) (pa_cons pe_int pa_nil))) (pa_cons (pe_op op_add pe_int (cl (ok_law_draw T) T.h_law_draw hr (pa_cons (pv 0) (pa_cons pe_int pa_nil)))) (pa_cons (cl (ok_law_one T) T.h_law_one hr (pa_cons (pv 0) (pa_cons (pe_lst (pa_cons pe_str (pa_cons (pe_tup (pa_cons pe_int pa_nil)) (pa_cons pe_int pa_nil)))) pa_nil))) pa_nil))) rfl)
    (pss_cons (ps_par3 (i := 4) (j := 5) (l := 6) rfl sc_law_list_right.nd rfl rfl rfl (by decide) (by decide) (by decide) rfl rfl rfl (pa_cons (pv 3) (pa_cons (pe_op op_rep (pe_lst (pa_cons pe_int pa_nil)) (pe_callTy call_int1 rfl T.b_int (by decide +kernel) (pa_cons (pe_cmpR (op_eqD hr.units) (pv 3) (pe_tup (pa_cons pe_int pa_nil)) (nomark _)) pa_nil))) (pa_cons (pe_lst pa_nil) pa_nil))) rfl)
    (pss_cons (ps_for PassesOwn.never rfl (pi_range1 rfl T.b_range (pa_cons (pv 1) pa_nil)) (pg_name (i := 7) sc_law_list_right.nd rfl (Or.inl rfl))
      (pss_cons (ps_set (i := 4) sc_law_list_right.nd rfl (Or.inl rfl) (pe_tup (pa_cons pe_str (pa_cons (pe_tup (pa_cons (pe_op op_mod (pe_callTy call_int1 rfl T.b_int (by decide +kernel) (pa_cons (pe_op op_mul (pv 7) pe_int) pa_nil)) (pv 2)) pa_nil)) (pa_cons (pv 4) pa_nil)))))
    (pss_one (ps_set (i := 5) sc_law_list_right.nd rfl (Or.inl rfl) (pe_op op_cat (pe_lst (pa_cons (pe_op op_mod (pe_callTy call_int1 rfl T.b_int (by decide +kernel) (pa_cons (pe_op op_mul (pv 7) pe_int) pa_nil)) (pv 2)) pa_nil)) (pv 5))))))
    (pss_cons (ps_for PassesOwn.never rfl (pi_list (pv 5)) (pg_name (i := 8) sc_law_list_right.nd rfl (Or.inl rfl))
      (pss_one (ps_if (pt_cmpR op_notIn_seq (pv 8) (pv 6) (by rfl))
      (pss_one (ps_expr (pe_bm PySem.F.plainAttrs_list PySem.F.slot_list_append PySem.F.type_list_append mt_append (pv 6) (pa_cons (pv 8) pa_nil))))
      pss_nil)))
    (pss_cons (ps_if (PW.pt (pw_or (pt_cmpR (op_neD hr.units) (cl (ok_variables_of T) T.h_variables_of hr (pa_cons (pv 4) pa_nil)) (pv 6) (nomark _)) (pw_or1 (pt_not (pt_val (cl (ok_is_term T) T.h_is_term hr (pa_cons (pv 4) pa_nil)))))))
      (pss_one (ps_ret pe_bl))
      pss_nil)
    (pss_one (ps_ret (pe_and (pe_cmpR op_eq (cl (ok_size_of T) T.h_size_of hr (pa_cons (pv 4) pa_nil)) (pe_op op_add (pe_op op_mul pe_int (pv 1)) pe_int) (nomark _)) (pe_one (pe_cmpR op_eq (cl (ok_depth_of T) T.h_depth_of hr (pa_cons (pv 4) pa_nil)) (pe_op op_add (pv 1) pe_int) (nomark _))))))))))), ?_⟩
  refine ⟨_, rfl, a, _, rfl, hW, by decide, by decide, fun m H1 m0 m1 d1 => ?_⟩
  refine ⟨_, rfl, a, _, rfl, d1.well, by decide, by decide, fun s H2 s0 s1 d2 => ⟨_, _, rfl, rfl, ?_⟩⟩
  refine ⟨_, rfl, (by show 1 ≤ sizeLine; decide), fun tp htp => ⟨(by show 3 ≤ sizeLine; decide), fun l hl => ?_⟩⟩
  have hT0 : SqT K (upd (upd H2 tp (.tup [V.int 3])) l (.lst [V.str "[]", V.ref tp, V.int 7])) tp [V.int 3] := Evl.ex_t (Ex.new hl) (SqT.of upd_same)
  have hne := (Dr.ex d2.well (Ex.new (o := HO.tup [V.int 3]) htp)).well.ne hl
  have d3 : Dr a H2 (upd (upd H2 tp (.tup [V.int 3])) l (.lst [V.str "[]", V.ref tp, V.int 7])) := Dr.ex d2.well ((Ex.new htp).trans (Ex.new hl))
  refine ⟨a, l, _, rfl, d3.well, hne, SqL.of upd_same, by simp, (by show 3 ≤ 1000; decide), fun x H4 hx d4 => ?_⟩
  obtain ⟨r, hR, hr0⟩ : ∃ r, Rep K H4 r x ∧ EndOk r := by
    simp only [List.mem_cons, List.not_mem_nil, or_false] at hx
    rcases hx with rfl | rfl | rfl
    · exact ⟨.atom "[]", by unfold Rep; rfl, end_a⟩
    · refine ⟨.var 3, ?_, end_v⟩
      unfold Rep
      exact ⟨tp, rfl, Dr.tups d3.well d4 _ _ hT0⟩
    · exact ⟨.int 7, by unfold Rep; rfl, end_i⟩
  have dd := ((d1.trans d2).trans d3).trans d4
  clear hx hT0 d3 d4
  refine ⟨_, _, _, rfl, ?_⟩
  -- found, back, due
  refine ⟨_, rfl, (by show 1 ≤ sizeLine; decide), fun p1 hp1 => ⟨_, rfl, (by show 1 ≤ sizeLine; decide), fun p2 hp2 => ?_⟩⟩
  have e1 := Ex.new (o := HO.lst [V.int 3]) hp1
  have e2 := Ex.new (o := HO.tup [V.int 3]) hp2
  have hR2 := (hR.mono (Tups.of e1)).mono (Tups.of e2)
  refine ⟨toD r, .tuple [.int 3], dp_rep hR2, .tup (SqT.of upd_same) (.cons (.int 3) .nil), shaped_tm hr0.ok (by rw [hr0.dep]; decide), rfl, .inr ⟨_, rfl, ?_⟩⟩
  have hk : 0 ≤ (if PyData.eqv (toD r) (.tuple [.int 3]) = true then (1 : Int) else 0) ∧ (if PyData.eqv (toD r) (.tuple [.int 3]) = true then (1 : Int) else 0) ≤ 1 := by split <;> decide
  have hp1' : (upd (upd H4 p1 (.lst [V.int 3])) p2 (.tup [V.int 3])) p1 = some (.lst [V.int 3]) := e2 _ _ upd_same
  refine ⟨p1, _, [V.int 3], rfl, rfl, hp1', by omega, by omega, small5 (by show 1 * _ ≤ _; omega), fun b0 hb0 => ?_⟩
  rw [hr0.seq]
  have e3 := Ex.new (o := HO.lst ((vSeq r).map V.int)) hb0
  refine ⟨Nat.zero_le _, fun U hU => ⟨_, _, _, rfl, ?_⟩⟩
  have e4 := Ex.new (o := HO.lst []) hU
  have e14 := ((e1.trans e2).trans e3).trans e4
  have hU0 : H4 U = none := by
    cases hz : H4 U with
    | none => rfl
    | some o =>
      have := ((e1.trans e2).trans e3) _ _ hz
      rw [hU] at this
      cases this
  have hbU0 : b0 ≠ U := ne_of_none upd_same hU
  have hB0 := e4 _ _ (upd_same : (upd _ b0 (.lst ((vSeq r).map V.int))) b0 = _)
  have hU1 : (upd (upd (upd (upd H4 p1 (.lst [V.int 3])) p2 (.tup [V.int 3])) b0 (.lst ((vSeq r).map V.int))) U (.lst [])) U = some (.lst []) := upd_same
  have hR4 := (hR2.mono (Tups.of e3)).mono (Tups.of e4)
  generalize (upd (upd (upd (upd H4 p1 (.lst [V.int 3])) p2 (.tup [V.int 3])) b0 (.lst ((vSeq r).map V.int))) U (.lst [])) = H5 at *
  clear hp1' hR2 e1 e2 e3 e4 hb0 hp1 hp2
  obtain ⟨m, rfl⟩ := Int.eq_ofNat_of_zero_le m0
  have hm : m ≤ 290 := by omega
  have hs0 : 0 < 1 + s := by omega
  have hvr : (vSeq r).length ≤ 1 := by
    have := hr0.seq
    have h2 := congrArg List.length this
    rw [List.length_map] at h2
    rw [← h2]
    split <;> decide
  refine ⟨_, rfl, (m : Int), rfl, by omega, by omega, for_range (lo := 0) (n := m) (fun i σ' H' => ∃ fv b kk, σ' = [some (.ref a), some (.int (m : Int)), some (.int (1 + s)), some x, some fv, some (.ref b), some (.ref U), kk, none] ∧ Ex H5 H' ∧ Rep K H' (lt (1 + s) r i) fv ∧ H' b = some (.lst ((bk (1 + s) (vSeq r) i).map V.int)) ∧ b ≠ U)
    ⟨x, b0, none, rfl, Ex.refl _, hR4, hB0, hbU0⟩ ?_ ?_⟩
  · rintro i σ' H6 hi ⟨fv, b, kk, rfl, e6, hf, hb, hbU⟩
    rw [Int.zero_add]
    have e3 : ((i : Int) * 7 % (1 + s)) = ((i : Int) * 7 % (1 + s)) := rfl
    refine ⟨_, rfl, _, _, rfl, rfl, .inr ⟨by decide, by decide⟩, .inl ⟨_, rfl, ?_⟩⟩
    refine ⟨_, rfl, _, _, rfl, rfl, hs0, (by show 1 ≤ sizeLine; decide), fun vp hvp => ⟨_, rfl, (by show 3 ≤ sizeLine; decide), fun cp hcp => ?_⟩⟩
    refine ⟨_, rfl, _, _, rfl, rfl, .inr ⟨by decide, by decide⟩, .inl ⟨_, rfl, ?_⟩⟩
    refine ⟨_, rfl, _, _, rfl, rfl, hs0, (by show 1 ≤ sizeLine; decide), fun b1 hb1 => ⟨_, rfl, ?_⟩⟩
    have k1 := Ex.new (o := HO.tup [V.int ((i : Int) * 7 % (1 + s))]) hvp
    have k2 := Ex.new (o := HO.tup [V.str ".", V.ref vp, fv]) hcp
    have k3 := Ex.new (o := HO.lst [V.int ((i : Int) * 7 % (1 + s))]) hb1
    have hb' := k3 _ _ (k2 _ _ (k1 _ _ hb))
    refine ⟨b1, b, _, _, rfl, rfl, upd_same, hb', small5 (by rw [List.length_map, len_bk]; show 1 + _ ≤ _; omega), fun b2 hb2 => ?_⟩
    have k4 := Ex.new (o := HO.lst ([V.int ((i : Int) * 7 % (1 + s))] ++ (bk (1 + s) (vSeq r) i).map V.int)) hb2
    refine ⟨_, b2, _, rfl, (((e6.trans k1).trans k2).trans k3).trans k4, ?_, ?_, (ne_of_none ((((e6.trans k1).trans k2).trans k3) _ _ hU1) hb2).symm⟩
    · unfold lt Rep
      refine ⟨cp, [V.ref vp, fv], rfl, Evl.ex_t (k3.trans k4) (SqT.of upd_same), ?_⟩
      refine Reps.cons ?_ (Reps.one ?_)
      · unfold Rep
        exact ⟨vp, rfl, Evl.ex_t ((k2.trans k3).trans k4) (SqT.of upd_same)⟩
      · exact hf.mono (Tups.of (((k1.trans k2).trans k3).trans k4))
    · rw [upd_same]
      rfl
  · rintro σ' H6 ⟨fv, b, kk, rfl, e6, hf, hb, hbU⟩
    have hU6 := e6 _ _ hU1
    have hsz := size_lt (1 + s) r m
    have hdp := depth_lt (1 + s) r m
    have hok := ok_lt hs0 hr0.ok m
    have hvs := varsOf_seq (lt (1 + s) r m)
    rw [seq_lt] at hvs
    have hbl := len_bk (1 + s) (vSeq r) m
    rw [hr0.siz] at hsz
    rw [hr0.dep] at hdp
    generalize lt (1 + s) r m = t at *
    generalize bk (1 + s) (vSeq r) m = xs at *
    refine ⟨_, rfl, b, rfl, ⟨_, SqL.of hb⟩, for_list (fun i σ' H' => ∃ kk nn, σ' = [some (.ref a), some (.int (m : Int)), some (.int (1 + s)), some x, some fv, some (.ref b), some (.ref U), kk, nn] ∧ Ex H4 H' ∧ Rep K H' t fv ∧ H' b = some (.lst (xs.map V.int)) ∧ H' U = some (.lst (((xs.take i).foldl addNew []).map V.int)))
      ⟨kk, none, rfl, e14.trans e6, hf, hb, hU6⟩ (fun i σ' H' _ ⟨_, _, _, _, _, h, _⟩ => SqL.of h) ?_ ?_⟩
    · rintro i v σ' H7 hv ⟨k2, n2, rfl, e7, hf7, hb7, hU7⟩
      obtain ⟨k, hk, rfl⟩ : ∃ k, xs[i]? = some k ∧ v = .int k := by
        rw [List.getElem?_map] at hv
        cases hx : xs[i]? with
        | none =>
          rw [hx] at hv
          cases hv
        | some k =>
          rw [hx] at hv
          exact ⟨k, rfl, (Option.some.inj hv).symm⟩
      have hfs : (xs.take (i + 1)).foldl addNew [] = addNew ((xs.take i).foldl addNew []) k := by
        rw [take_snoc hk, List.foldl_append]
        rfl
      have hil : i < xs.length := (List.getElem?_eq_some_iff.mp hk).1
      have hl2 := fold_addNew_len (xs.take i) []
      rw [List.length_nil, List.length_take] at hl2
      refine ⟨_, rfl, _, rfl, U, _, rfl, .inl (SqL.of hU7), rfl, flat_ints _, _, rfl, ?_⟩
      rw [if_pos rfl, inV_ints]
      by_cases mm : k ∈ (xs.take i).foldl addNew []
      · rw [decide_eq_true mm]
        refine iteF ⟨_, _, rfl, e7, hf7, hb7, ?_⟩
        rw [hfs, addNew, if_pos mm]
        exact hU7
      · rw [decide_eq_false mm]
        refine iteT ⟨_, rfl, .inl ⟨rfl, _, SqL.of hU7⟩, _, rfl, U, _, _, rfl, rfl, hU7, small5' (by rw [List.length_map]; omega), ?_⟩
        have t7 : Tups K H7 (upd H7 U (.lst (((xs.take i).foldl addNew []).map V.int ++ [V.int k]))) := Tups.lst hU7
        refine ⟨_, _, rfl, Ex.mut e7 hU0, hf7.mono t7, ?_, ?_⟩
        · rw [upd_ne hbU]
          exact hb7
        · rw [upd_same, hfs, addNew, if_neg mm, List.map_append]
          rfl
    · rintro σ' H7 ⟨k2, n2, rfl, e7, hf7, hb7, hU7⟩
      rw [List.length_map, List.take_of_length_le (Nat.le_refl _), ← hvs] at hU7
      refine ⟨_, rfl, fv, t, rfl, hf7, hok, by omega, fun p H8 hp e8 hL => ?_⟩
      refine ⟨_, rfl, _, _, dp_ints (SqL.of hL), dp_ints (SqL.of (e8 _ _ hU7)), shaped_ints _, shaped_ints _, _, rfl, ?_⟩
      rw [eqv_ints]
      have hz5 : size t ≤ 50000 := by omega
      have t8 := Tups.of (K := K) e8
      refine iteF ⟨_, rfl, fv, t, rfl, hf7.mono t8, hok, hz5, fun u H9 e9 hu => ?_⟩
      subst hu
      have t9 := Tups.of (K := K) e9
      refine ⟨_, rfl, iteF ?_⟩
      refine ⟨_, rfl, fv, t, rfl, (hf7.mono t8).mono t9, hok, hz5, fun u HA eA hu => ?_⟩
      subst hu
      have tA := Tups.of (K := K) eA
      refine ⟨_, rfl, _, _, rfl, rfl, .inl ⟨by decide, by decide⟩, _, _, rfl, rfl, rfl, _, rfl, ?_⟩
      have ez : (((size t : Nat) : Int)) = 2 * (m : Int) + 1 := by omega
      rw [dec_int, ez, beq_self_eq_true]
      refine iteT ⟨_, rfl, fv, t, rfl, ((hf7.mono t8).mono t9).mono tA, hok, hz5, fun u HB eB hu => ?_⟩
      subst hu
      refine ⟨_, rfl, _, _, rfl, rfl, rfl, ?_⟩
      have ed : (((depth t : Nat) : Int)) = (m : Int) + 1 := by omega
      rw [dec_int, ed, beq_self_eq_true]
      exact q _ (dd.trans (Dr.ex dd.well ((((e7.trans e8).trans e9).trans eA).trans eB)))
end
end Hm

set_option Elab.async false
set_option linter.all false
set_option maxRecDepth 100000
set_option maxHeartbeats 1000000
namespace Hm
open PySem PySem.Spec PyProof.Rows L2 HT
open Evl (Ex)
/-- the numbers that a term gets -/
def spr : List Int := [0, 1, 5, 10 ^ (30 : Int).toNat, 3, 2]
def sf (k : Int) : Int := if 0 ≤ k then (spr[k.toNat]?).getD k else k
theorem sf_nat (k : Int) (h : 0 ≤ k) (h6 : k < 6) : 0 ≤ sf k := by
  obtain ⟨n, rfl⟩ := Int.eq_ofNat_of_zero_le h
  have : n = 0 ∨ n = 1 ∨ n = 2 ∨ n = 3 ∨ n = 4 ∨ n = 5 := by omega
  rcases this with rfl | rfl | rfl | rfl | rfl | rfl <;> decide +kernel
theorem sf_out {k : Int} (h : ∀ j : Nat, j < 6 → k ≠ (j : Int)) : sf k = k := by
  unfold sf
  split
  · next h0 =>
    have : ¬ k.toNat < 6 := fun z => h k.toNat z (by omega)
    rw [List.getElem?_eq_none (by show 6 ≤ _; omega)]
    rfl
  · rfl
theorem sf_in {j : Nat} {z : Int} (h : spr[j]? = some z) : sf (j : Int) = z := by
  unfold sf
  rw [if_pos (Int.natCast_nonneg j), Int.toNat_natCast, h]
  rfl
section
variable {P : Program} {w : World} {K : PySem.W.Frag} {mg : Str → Option Value} {base : Heap}
theorem ok_law_right (T : Tx K mg) : FnOk P w K mg base CX0 16 T.f_law_right T.d_law_right ["_law_well_here"] spLR := by
  refine T.h_law_right.F.ok sc_law_right (fun vs H Q E h => ?_) (fun cdv A outer s H vs Q E hr h => ?_)
  · obtain ⟨v, rfl, _⟩ := h
    rfl
  obtain ⟨a, rfl, hW, q⟩ := h
  refine ⟨_, PSs.nox (pss_cons (ps_set (i := 1) sc_law_right.nd rfl (Or.inr rfl) (pe_lst (pa_cons pe_int (pa_cons pe_int (pa_cons pe_int (pa_cons (pe_op op_pow pe_int pe_int) (pa_cons pe_int (pa_cons pe_int pa_nil))))))))
    (pss_cons (ps_set (i := 2) sc_law_right.nd rfl (Or.inl rfl) (cl (ok_law_put T 5) T.h_law_put hr (pa_cons (cl (ok_law_term T 5) T.h_law_term hr (pa_cons (pv 0) (pa_cons pe_int (pa_cons pe_int pa_nil)))) (pa_cons (pe_callTy (call_dictP rfl) rfl T.b_dict (by decide +kernel) (pa_cons (pe_lc (own := [("_law_k", 4)]) (g := gName 4) rfl sc_law_right.nd (pi_range1 rfl T.b_range (pa_cons pe_int pa_nil)) (blkOk_by (own := [("_law_k", 4)]) (N := ["_law_well_here", "_law_spread", "_law_term_here", "_law_due", "_law_k"]) (sc := defScope s_law_right) (by decide +kernel)) (fun _ _ _ _ _ => pg_name (i := 4) sc_law_right.nd rfl (Or.inl rfl)) (fun _ _ _ _ _ => pts_nil) (fun _ _ _ _ _ => (pe_tup (pa_cons (pv 4) (pa_cons (pe_tup (pa_cons (pe_ix (show IxR _ (rIxL K) from ix_list) (pv 1) (pv 4) (fun _ _ => rfl)) pa_nil)) pa_nil))))) pa_nil)) pa_nil))))
    (pss_cons (ps_if (PW.pt (pw_or (pt_not (pt_val (cl (ok_is_term T) T.h_is_term hr (pa_cons (pv 2) pa_nil)))) (pw_or (pt_cmpR op_ne (cl (ok_size_of T) T.h_size_of hr (pa_cons (pv 2) pa_nil)) (pe_callB call_len_seq rfl T.b_len (by decide +kernel) (pa_cons (cl (ok_law_parts T 10) T.h_law_parts hr (pa_cons (pv 2) pa_nil)) pa_nil)) (nomark _)) (pw_or1 (pt_cmpR op_ne (cl (ok_depth_of T) T.h_depth_of hr (pa_cons (pv 2) pa_nil)) (cl (ok_law_depth T 10) T.h_law_depth hr (pa_cons (pv 2) pa_nil)) (nomark _))))))
      (pss_one (ps_ret pe_bl))
      pss_nil)
    (pss_cons (ps_set (i := 3) sc_law_right.nd rfl (Or.inl rfl) (cld (ok_law_anew T) T.h_law_anew hr (pa_cons (pv 2) pa_nil)))
    (pss_cons (ps_if (PW.pt (pw_or (pt_cmpR (op_neD hr.units) (cl (ok_variables_of T) T.h_variables_of hr (pa_cons (pv 2) pa_nil)) (cl (ok_law_numbers T) T.h_law_numbers hr (pa_cons (pv 2) pa_nil)) (nomark _)) (pw_or (pt_cmpR (op_neD hr.units) (cl (ok_renumbered T) T.h_renumbered hr (pa_cons (pv 2) pa_nil)) (pv 3) (nomark _)) (pw_or1 (pt_cmpR (op_neD hr.units) (cl (ok_renumbered T) T.h_renumbered hr (pa_cons (pv 3) pa_nil)) (pv 3) (nomark _))))))
      (pss_one (ps_ret pe_bl))
      pss_nil)
    (pss_one (ps_ret (cl (ok_law_list_right T) T.h_law_list_right hr (pa_cons (pv 0) pa_nil))))))))), ?_⟩
  refine ⟨_, _, rfl, rfl, ⟨by decide, by decide, by decide⟩, (by show 6 ≤ sizeLine; decide), fun l hl => ?_⟩
  have e0 := Ex.new (o := HO.lst [V.int 0, .int 1, .int 5, .int (10 ^ (30 : Int).toNat), .int 3, .int 2]) hl
  have dr0 := Dr.ex hW e0
  refine ⟨_, rfl, a, _, rfl, dr0.well, by decide, by decide, fun v t H1 d1 hR hdr => ?_⟩
  have hl1 : H1 l = some (.lst (spr.map V.int)) := d1.keep _ _ (hW.ne hl) upd_same
  have dd := dr0.trans d1
  clear e0 dr0 d1
  refine ⟨6, rfl, by decide, by decide, fun D hD => ?_⟩
  refine lc_range (lo := 0) (n := 6) (fun i H' => Ex H1 H' ∧ ∃ (ps : List Addr) (kvs : List (Key × V)), H' D = some (.lst (ps.map V.ref)) ∧ PySem.Paired (fun (p : Addr) (kv : Key × V) => SqT K H' p [kV kv.1, kv.2]) ps kvs ∧ ps.length = i ∧
      (∀ k u, valV (mergeK [] kvs) (Sum.inl k : Key) = some u → ∃ j : Nat, j < i ∧ (j : Int) = k ∧ ∃ z, spr[j]? = some z ∧ Rep K H' (.var z) u) ∧ (∀ k, valV (mergeK [] kvs) (Sum.inl k : Key) = none → ∀ j : Nat, j < i → k ≠ (j : Int)))
    ⟨Ex.new hD, [], [], upd_same, .nil, rfl, fun k u h => by simp [valV, mergeK] at h, fun k _ j hj => absurd hj (Nat.not_lt_zero _)⟩ ?_ ?_
  · rintro i H3 hi ⟨e3, ps, kvs, hK, hP, hpl2, hk1, hk2⟩
    rw [Int.zero_add]
    have hi6 : i < spr.length := hi
    have hz : spr[i]? = some spr[i] := List.getElem?_eq_getElem hi6
    have hz2 : (spr.map V.int)[i]? = some (V.int spr[i]) := by
      rw [List.getElem?_map, hz]
      rfl
    generalize spr[i] = z at *
    refine ⟨rfl, yesI ⟨_, rfl, _, rfl, _, rfl, l, _, _, _, rfl, rfl, SqL.of (e3 _ _ hl1), atI_nat hz2, (by show 1 ≤ sizeLine; decide), fun qp hqp => ⟨(by show 2 ≤ sizeLine; decide), fun tp htp => ?_⟩⟩⟩
    have e5 := Ex.new (o := HO.tup [V.int z]) hqp
    have e6 := Ex.new (o := HO.tup [V.int (i : Int), V.ref qp]) htp
    have hK6 := e6 D _ (e5 D _ hK)
    have hq6 : SqT K (upd (upd H3 qp (.tup [V.int z])) tp (.tup [V.int (i : Int), V.ref qp])) qp [.int z] := SqT.of (e6 qp _ upd_same)
    have ht6 : SqT K (upd (upd H3 qp (.tup [V.int z])) tp (.tup [V.int (i : Int), V.ref qp])) tp [.int (i : Int), .ref qp] := SqT.of upd_same
    have e456 := e5.trans e6
    have t6 : Tups K H3 (upd (upd H3 qp (.tup [V.int z])) tp (.tup [V.int (i : Int), V.ref qp])) := Tups.of e456
    refine ⟨_, hK6, small5' (by rw [List.length_map]; omega), Ex.mut (e3.trans e456) hD, ps ++ [tp], kvs ++ [((Sum.inl (i : Int) : Key), V.ref qp)], ?_, ?_, by rw [List.length_append, hpl2]; rfl, fun k' u hu => ?_, fun k' hn j hj => ?_⟩
    · rw [upd_same, List.map_append]
      rfl
    · have tD := Tups.lst (K := K) (o := HO.lst (ps.map V.ref ++ [V.ref tp])) hK6
      exact Paired.snoc (Paired.mapP hP fun p kv h => tD _ _ (t6 _ _ h)) (tD _ _ ht6)
    · have tD := Tups.lst (K := K) (o := HO.lst (ps.map V.ref ++ [V.ref tp])) hK6
      rw [merge_snoc, valV_put] at hu
      by_cases hkk : (Sum.inl k' : Key) = Sum.inl (i : Int)
      · rw [if_pos hkk] at hu
        injection hkk with hkk
        subst hkk
        have := Option.some.inj hu
        subst this
        refine ⟨i, Nat.lt_succ_self _, rfl, z, hz, ?_⟩
        unfold Rep
        exact ⟨qp, rfl, tD _ _ hq6⟩
      · rw [if_neg hkk] at hu
        obtain ⟨j, hj, h1, y, h2, h3⟩ := hk1 k' u hu
        exact ⟨j, by omega, h1, y, h2, (h3.mono t6).mono tD⟩
    · rw [merge_snoc, valV_put] at hn
      by_cases hkk : (Sum.inl k' : Key) = Sum.inl (i : Int)
      · rw [if_pos hkk] at hn
        cases hn
      · rw [if_neg hkk] at hn
        by_cases hji : j = i
        · subst hji
          exact fun z => hkk (by rw [z])
        · exact hk2 k' hn j (by omega)
  · rintro H3 ⟨e3, ps, kvs, hK, hP, hpl2, hk1, hk2⟩
    refine ⟨D, ps, kvs, rfl, SqL.of hK, hP, fun d hd2 => ?_⟩
    have e7 := Ex.new (o := HO.dK (mergeK [] kvs)) hd2
    have hR7 := (hR.mono (Tups.of e3)).mono (Tups.of e7)
    have hsz0 : size t ≤ 79 := hdr.siz
    have hdp0 : depth t ≤ 5 := hdr.dep
    refine ⟨v, t, d, vg sf, rfl, hR7, hdr.ok, by omega, hdp0, ⟨mergeK [] kvs, .inl upd_same, fun k => ⟨fun u hu => ?_, fun hn => ?_⟩⟩, fun u H4 e4 hu => ?_⟩
    · obtain ⟨j, hj, rfl, y, h2, h3⟩ := hk1 k u hu
      unfold vg
      rw [sf_in h2]
      exact h3.mono (Tups.of e7)
    · unfold vg
      rw [sf_out (hk2 k hn)]
    · have hok : Ok (sub (vg sf) t) := ok_vg (m := 6) sf_nat t hdr.ok hdr.vlt
      have hsz : size (sub (vg sf) t) ≤ 79 := by rw [size_vg]; exact hsz0
      have hdp : depth (sub (vg sf) t) ≤ 5 := by rw [depth_vg]; exact hdp0
      have ddx := dd.trans (Dr.ex dd.well ((e3.trans e7).trans e4))
      generalize sub (vg sf) t = t2 at *
      clear hk1 hk2 hP hK hR hR7
      refine ⟨_, rfl, u, t2, rfl, hu, hok, by omega, fun b H5 e5 hb => ?_⟩
      subst hb
      have r5 := hu.mono (Tups.of e5)
      refine ⟨_, rfl, iteF ?_⟩
      refine ⟨_, rfl, u, t2, rfl, r5, hok, by omega, fun b H6 e6 hb => ?_⟩
      subst hb
      have r6 := r5.mono (Tups.of e6)
      refine ⟨_, rfl, u, t2, rfl, r6, hok, by omega, by omega, fun p7 ws H7 hp7 e7' hL7 hPs => ?_⟩
      have r7 := r6.mono (Tups.of e7')
      refine ⟨p7, ws, rfl, .inl (SqL.of hL7), rfl, _, rfl, ?_⟩
      have hlen := hPs.len
      rw [len_pre] at hlen
      rw [dec_int, ← hlen, beq_self_eq_true]
      refine iteF ?_
      refine ⟨_, rfl, u, t2, rfl, r7, hok, by omega, fun b H8 e8 hb => ?_⟩
      subst hb
      have r8 := r7.mono (Tups.of e8)
      refine ⟨_, rfl, u, t2, rfl, r8, hok, by omega, fun H9 e9 => ?_⟩
      have r9 := r8.mono (Tups.of e9)
      refine ⟨rfl, _, rfl, ?_⟩
      rw [dec_int, beq_self_eq_true]
      refine iteF ?_
      refine ⟨_, rfl, u, t2, rfl, r9, hok, by omega, by omega, fun du HA eA rD => ?_⟩
      have rA := r9.mono (Tups.of eA)
      have okr := ok_renum hok
      have szr := size_renum t2
      have dpr := depth_renum t2
      have rr := renum_renum t2
      have s1 := shaped_tm okr (by omega)
      have s2 := eqv_tm okr
      refine ⟨_, rfl, u, t2, rfl, rA, hok, by omega, fun pb HB hpb eB hLB => ?_⟩
      have rB := rA.mono (Tups.of eB)
      refine ⟨_, rfl, u, t2, rfl, rB, hok, by omega, by omega, fun pc HC hpc eC hLC => ?_⟩
      have rC := rB.mono (Tups.of eC)
      refine ⟨_, _, dp_ints (SqL.of (eC _ _ hLB)), dp_ints (SqL.of hLC), shaped_ints _, shaped_ints _, _, rfl, ?_⟩
      rw [eqv_ints]
      refine iteF ?_
      have dC := ((rD.mono (Tups.of eB)).mono (Tups.of eC))
      refine ⟨_, rfl, u, t2, rfl, rC, hok, by omega, fun uE HE eE rE => ?_⟩
      have dE := dC.mono (Tups.of eE)
      refine ⟨_, rfl, _, _, dp_rep rE, dp_rep dE, s1, s1, _, rfl, ?_⟩
      rw [s2]
      refine iteF ?_
      refine ⟨_, rfl, du, renum t2, rfl, dE, okr, by omega, fun uF HF eF rF => ?_⟩
      rw [rr] at rF
      have dF := dE.mono (Tups.of eF)
      refine ⟨_, rfl, _, _, dp_rep rF, dp_rep dF, s1, s1, _, rfl, ?_⟩
      rw [s2]
      refine iteF ?_
      have dd2 := ddx.trans (Dr.ex ddx.well ((((((((((e5.trans e6).trans e7').trans e8).trans e9).trans eA).trans eB).trans eC).trans eE).trans eF)))
      exact ⟨_, rfl, a, rfl, dd2.well, fun H' dr => q _ (dd2.trans dr)⟩
end
end Hm

set_option Elab.async false
set_option linter.all false
set_option maxRecDepth 100000
set_option maxHeartbeats 1000000
namespace Hm
open PySem PySem.Spec PyProof.Rows L2 HT
open Evl (Ex)
section
variable {P : Program} {w : World} {K : PySem.W.Frag} {mg : Str → Option Value} {base : Heap}
def spCell (K : PySem.W.Frag) : Sp := fun vs H Q _ => ∃ (a : Addr) (ns : List Int) (k : Nat), vs = [.ref a, .int (k : Int)] ∧ SqL K H a (ns.map V.int) ∧ ∀ z, Q (.int z) H
theorem ok_law_cell_at (T : Tx K mg) : FnOk P w K mg base CX0 1 T.f_law_cell_at T.d_law_cell_at ["_law_script", "_law_k"] (spCell K) := by
  refine T.h_law_cell_at.F.ok sc_law_cell_at (fun vs H Q E h => ?_) (fun cdv A outer s H vs Q E hr h => ?_)
  · obtain ⟨a, ns, k, rfl, _⟩ := h
    rfl
  obtain ⟨a, ns, k, rfl, hS, q⟩ := h
  refine ⟨_, (pss_one (ps_ret (pe_ifExp (pt_cmpR op_lt (pv 1) (pe_callB call_len_seq rfl T.b_len (by decide +kernel) (pa_cons (pv 0) pa_nil)) (nomark _)) (pe_ix ix_list (pv 0) (pv 1) (fun _ _ => rfl)) pe_int))), ?_⟩
  refine ⟨_, rfl, _, rfl, a, _, rfl, .inl hS, _, _, rfl, rfl, _, rfl, ?_⟩
  refine ite2 (fun c => ?_) (fun c => ?_)
  · have hk : k < ns.length := by
      have := of_decide_eq_true c
      rw [List.length_map] at this
      omega
    refine ⟨_, rfl, _, rfl, a, _, _, _, rfl, rfl, hS, atI_nat (v := V.int ns[k]) (by rw [List.getElem?_map, List.getElem?_eq_getElem hk]; rfl), q _⟩
  · exact q 0
def spWell : Sp := fun vs H Q _ => ∃ c, vs = [.int c] ∧ ∀ p x y z H', H p = none → Ex H H' → H' p = some (.lst [.int x, .int y, .int z]) → Q (.ref p) H'
theorem ok_law_well (T : Tx K mg) : FnOk P w K mg base CX0 1 T.f_law_well T.d_law_well ["_law_cell"] spWell := by
  refine T.h_law_well.F.ok sc_law_well (fun vs H Q E h => ?_) (fun cdv A outer s H vs Q E hr h => ?_)
  · obtain ⟨c, rfl, _⟩ := h
    rfl
  obtain ⟨c, rfl, q⟩ := h
  refine ⟨_, (pss_cons (ps_set (i := 0) sc_law_well.nd rfl (Or.inl rfl) (pe_callB call_abs rfl T.b_abs (by decide +kernel) (pa_cons (pv 0) pa_nil)))
    (pss_one (ps_ret (pe_lst (pa_cons (pe_op op_mul (pv 0) (pe_callTy call_int1 rfl T.b_int (by decide +kernel) (pa_cons (pe_cmpR op_ge (pv 0) (pe_op op_pow pe_int pe_int) (nomark _)) pa_nil))) (pa_cons (pe_op op_add (pe_op op_mod (pe_callTy call_int1 rfl T.b_int (by decide +kernel) (pa_cons (pv 0) pa_nil)) pe_int) pe_int) (pa_cons pe_int pa_nil))))))), ?_⟩
  refine ⟨_, rfl, _, rfl, ?_⟩
  refine ⟨_, rfl, _, rfl, _, _, rfl, rfl, ⟨by decide, by decide, by decide⟩, _, _, rfl, rfl, .inr ⟨_, rfl, ?_⟩⟩
  refine ⟨_, _, rfl, rfl, .inr (by constructor <;> split <;> first | decide | omega), _, rfl, .inl ⟨_, rfl, _, _, rfl, rfl, (show (0 : Int) < 2147483647 by decide), _, _, rfl, rfl, ?_⟩⟩
  refine ⟨(by show 3 ≤ sizeLine; decide), fun p hp => ?_⟩
  exact q p _ _ _ _ hp (Ex.new hp) upd_same
def spLaw (K : PySem.W.Frag) : Sp := fun vs H Q _ => ∃ (a : Addr) (ns : List Int), vs = [.ref a] ∧ SqL K H a (ns.map V.int) ∧ ns.length ≤ 63 ∧ ∀ H', Q (.bl true) H'
theorem ok_law (T : Tx K mg) : FnOk P w K mg base CX0 17 T.f_law T.d_law ["_law_script"] (spLaw K) := by
  refine T.h_law.F.ok sc_law (fun vs H Q E h => ?_) (fun cdv A outer s H vs Q E hr h => ?_)
  · obtain ⟨a, ns, rfl, _⟩ := h
    rfl
  obtain ⟨a, ns, rfl, hS, hn, q⟩ := h
  refine ⟨_, (pss_cons (ps_for PassesOwn.never rfl (pi_range1 rfl T.b_range (pa_cons (pe_callB (call_max2 rfl) rfl T.b_max (by decide +kernel) (pa_cons pe_int (pa_cons (pe_callB (call_min2 rfl) rfl T.b_min (by decide +kernel) (pa_cons pe_int (pa_cons (pe_callB call_len_seq rfl T.b_len (by decide +kernel) (pa_cons (pv 0) pa_nil)) pa_nil))) pa_nil))) pa_nil)) (pg_name (i := 1) sc_law.nd rfl (Or.inl rfl))
      (pss_one (ps_if (pt_not (pt_val (cl (ok_law_right T) T.h_law_right hr (pa_cons (cl (ok_law_well T) T.h_law_well hr (pa_cons (cl (ok_law_cell_at T) T.h_law_cell_at hr (pa_cons (pv 0) (pa_cons (pv 1) pa_nil))) pa_nil)) pa_nil))))
      (pss_one (ps_ret pe_bl))
      pss_nil)))
    (pss_one (ps_ret pe_bl))), ?_⟩
  refine ⟨_, rfl, a, _, rfl, .inl hS, _, _, rfl, _, _, rfl, ?_⟩
  rw [List.length_map]
  refine ⟨_, rfl, (by split <;> split <;> omega), (by split <;> split <;> omega), for_range (lo := 0) (fun i σ' H' => ∃ kk, σ' = [some (.ref a), kk] ∧ Ex H H') ⟨none, rfl, Ex.refl _⟩ ?_ ?_⟩
  · rintro i σ' H1 hi ⟨kk, rfl, e1⟩
    rw [Int.zero_add]
    refine ⟨_, rfl, _, rfl, a, ns, i, rfl, Evl.ex_l e1 hS, fun z => ?_⟩
    refine ⟨z, rfl, fun p x y z2 H2 hp e2 hL => ?_⟩
    refine ⟨p, rfl, ⟨x, y, z2, hL⟩, fun H3 dr => ?_⟩
    refine ⟨_, rfl, iteF ?_⟩
    refine ⟨_, rfl, fun b o hb => ?_⟩
    have h1 := e1 _ _ hb
    exact dr.keep _ _ (ne_of_none h1 hp) (e2 _ _ h1)
  · rintro σ' H1 ⟨kk, rfl, e1⟩
    exact q H1
end
end Hm

set_option Elab.async false
set_option linter.all false
set_option maxRecDepth 100000
set_option maxHeartbeats 4000000
namespace Hm
open PySem PySem.Spec PyProof.Rows L2 HT
theorem all_mk {l : PySem.W.OpenLaw} {w : World} {K : PySem.W.Frag} {h : Heap} {mg : Str → Option Value} {fa : Addr} (X : K.In h) (G : h.Ns mainGlobals mg) (hfa : mg "law" = some (.ref fa))
    {f1 : Addr}
    {od1 an1 : Option Addr} {sl1 : Array (Option Value)} {oc1 kV1 dc1 pm1 cd1 ct1 : Value}
    {f2 : Addr}
    {od2 an2 : Option Addr} {sl2 : Array (Option Value)} {oc2 kV2 dc2 pm2 cd2 ct2 : Value}
    {f3 : Addr}
    {od3 an3 : Option Addr} {sl3 : Array (Option Value)} {oc3 kV3 dc3 pm3 cd3 ct3 : Value}
    {f4 : Addr}
    {od4 an4 : Option Addr} {sl4 : Array (Option Value)} {oc4 kV4 dc4 pm4 cd4 ct4 : Value}
    {f5 : Addr}
    {od5 an5 : Option Addr} {sl5 : Array (Option Value)} {oc5 kV5 dc5 pm5 cd5 ct5 : Value}
    {f6 : Addr}
    {od6 an6 : Option Addr} {sl6 : Array (Option Value)} {oc6 kV6 dc6 pm6 cd6 ct6 : Value}
    {f7 : Addr}
    {od7 an7 : Option Addr} {sl7 : Array (Option Value)} {oc7 kV7 dc7 pm7 cd7 ct7 : Value}
    {f8 : Addr}
    {od8 an8 : Option Addr} {sl8 : Array (Option Value)} {oc8 kV8 dc8 pm8 cd8 ct8 : Value}
    {f9 : Addr}
    {od9 an9 : Option Addr} {sl9 : Array (Option Value)} {oc9 kV9 dc9 pm9 cd9 ct9 : Value}
    {f10 : Addr}
    {od10 an10 : Option Addr} {sl10 : Array (Option Value)} {oc10 kV10 dc10 pm10 cd10 ct10 : Value}
    {f11 : Addr}
    {od11 an11 : Option Addr} {sl11 : Array (Option Value)} {oc11 kV11 dc11 pm11 cd11 ct11 : Value}
    {f12 : Addr}
    {od12 an12 : Option Addr} {sl12 : Array (Option Value)} {oc12 kV12 dc12 pm12 cd12 ct12 : Value}
    {f13 : Addr}
    {od13 an13 : Option Addr} {sl13 : Array (Option Value)} {oc13 kV13 dc13 pm13 cd13 ct13 : Value}
    {f14 : Addr}
    {od14 an14 : Option Addr} {sl14 : Array (Option Value)} {oc14 kV14 dc14 pm14 cd14 ct14 : Value}
    {f15 : Addr}
    {od15 an15 : Option Addr} {sl15 : Array (Option Value)} {oc15 kV15 dc15 pm15 cd15 ct15 : Value}
    {f16 : Addr}
    {od16 an16 : Option Addr} {sl16 : Array (Option Value)} {oc16 kV16 dc16 pm16 cd16 ct16 : Value}
    {f17 : Addr}
    {od17 an17 : Option Addr} {sl17 : Array (Option Value)} {oc17 kV17 dc17 pm17 cd17 ct17 : Value}
    {f18 : Addr}
    {od18 an18 : Option Addr} {sl18 : Array (Option Value)} {oc18 kV18 dc18 pm18 cd18 ct18 : Value}
    {f19 : Addr}
    {od19 an19 : Option Addr} {sl19 : Array (Option Value)} {oc19 kV19 dc19 pm19 cd19 ct19 : Value}
    {f20 : Addr}
    {od20 an20 : Option Addr} {sl20 : Array (Option Value)} {oc20 kV20 dc20 pm20 cd20 ct20 : Value}
    {f21 : Addr}
    {od21 an21 : Option Addr} {sl21 : Array (Option Value)} {oc21 kV21 dc21 pm21 cd21 ct21 : Value}
    {f22 : Addr}
    {od22 an22 : Option Addr} {sl22 : Array (Option Value)} {oc22 kV22 dc22 pm22 cd22 ct22 : Value}
    {f23 : Addr}
    {od23 an23 : Option Addr} {sl23 : Array (Option Value)} {oc23 kV23 dc23 pm23 cd23 ct23 : Value}
    {f24 : Addr}
    {od24 an24 : Option Addr} {sl24 : Array (Option Value)} {oc24 kV24 dc24 pm24 cd24 ct24 : Value}
    {f25 : Addr}
    {od25 an25 : Option Addr} {sl25 : Array (Option Value)} {oc25 kV25 dc25 pm25 cd25 ct25 : Value}
    {f26 : Addr}
    {od26 an26 : Option Addr} {sl26 : Array (Option Value)} {oc26 kV26 dc26 pm26 cd26 ct26 : Value}
    {f27 : Addr}
    {od27 an27 : Option Addr} {sl27 : Array (Option Value)} {oc27 kV27 dc27 pm27 cd27 ct27 : Value}
    {f28 : Addr}
    {od28 an28 : Option Addr} {sl28 : Array (Option Value)} {oc28 kV28 dc28 pm28 cd28 ct28 : Value}
    {f29 : Addr}
    {od29 an29 : Option Addr} {sl29 : Array (Option Value)} {oc29 kV29 dc29 pm29 cd29 ct29 : Value}
    {T29 : Addr} {ou29 : Value} {ow29 : Option Addr} {on29 : Nat} {os29 : Array (Option Value)} {tk29 : Tok}
    {f30 : Addr}
    {od30 an30 : Option Addr} {sl30 : Array (Option Value)} {oc30 kV30 dc30 pm30 cd30 ct30 : Value}
    {f31 : Addr}
    {od31 an31 : Option Addr} {sl31 : Array (Option Value)} {oc31 kV31 dc31 pm31 cd31 ct31 : Value}
    {f32 : Addr}
    {od32 an32 : Option Addr} {sl32 : Array (Option Value)} {oc32 kV32 dc32 pm32 cd32 ct32 : Value}
    {f33 : Addr}
    {od33 an33 : Option Addr} {sl33 : Array (Option Value)} {oc33 kV33 dc33 pm33 cd33 ct33 : Value}
    {u1 : Tok}
    {u2 : Tok}
    {u3 : Tok}
    {u4 : Tok}
    (a1 : PySem.W.nsIn K mainGlobals "is_integer" = some (some (.ref f1)))
    (l1 : K.lookup f1 = some ⟨oc1, od1, .func (PySem.W.fnOf "is_integer" "is_integer" (defArgs s_is_integer) (defBody s_is_integer) (defScope s_is_integer) .none kV1 dc1 pm1 an1 cd1 ct1), sl1⟩)
    (c1 : PySem.W.codeIn K cd1 "is_integer" = true) (k1 : PySem.W.keepIn K (.ref f1) = true)
    (a2 : PySem.W.nsIn K mainGlobals "is_sign" = some (some (.ref f2)))
    (l2 : K.lookup f2 = some ⟨oc2, od2, .func (PySem.W.fnOf "is_sign" "is_sign" (defArgs s_is_sign) (defBody s_is_sign) (defScope s_is_sign) .none kV2 dc2 pm2 an2 cd2 ct2), sl2⟩)
    (c2 : PySem.W.codeIn K cd2 "is_sign" = true) (k2 : PySem.W.keepIn K (.ref f2) = true)
    (a3 : PySem.W.nsIn K mainGlobals "is_atom" = some (some (.ref f3)))
    (l3 : K.lookup f3 = some ⟨oc3, od3, .func (PySem.W.fnOf "is_atom" "is_atom" (defArgs s_is_atom) (defBody s_is_atom) (defScope s_is_atom) .none kV3 dc3 pm3 an3 cd3 ct3), sl3⟩)
    (c3 : PySem.W.codeIn K cd3 "is_atom" = true) (k3 : PySem.W.keepIn K (.ref f3) = true)
    (a4 : PySem.W.nsIn K mainGlobals "is_number" = some (some (.ref f4)))
    (l4 : K.lookup f4 = some ⟨oc4, od4, .func (PySem.W.fnOf "is_number" "is_number" (defArgs s_is_number) (defBody s_is_number) (defScope s_is_number) .none kV4 dc4 pm4 an4 cd4 ct4), sl4⟩)
    (c4 : PySem.W.codeIn K cd4 "is_number" = true) (k4 : PySem.W.keepIn K (.ref f4) = true)
    (a5 : PySem.W.nsIn K mainGlobals "is_term" = some (some (.ref f5)))
    (l5 : K.lookup f5 = some ⟨oc5, od5, .func (PySem.W.fnOf "is_term" "is_term" (defArgs s_is_term) (defBody s_is_term) (defScope s_is_term) .none kV5 dc5 pm5 an5 cd5 ct5), sl5⟩)
    (c5 : PySem.W.codeIn K cd5 "is_term" = true) (k5 : PySem.W.keepIn K (.ref f5) = true)
    (a6 : PySem.W.nsIn K mainGlobals "_is_part" = some (some (.ref f6)))
    (l6 : K.lookup f6 = some ⟨oc6, od6, .func (PySem.W.fnOf "_is_part" "_is_part" (defArgs s_is_part) (defBody s_is_part) (defScope s_is_part) .none kV6 dc6 pm6 an6 cd6 ct6), sl6⟩)
    (c6 : PySem.W.codeIn K cd6 "_is_part" = true) (k6 : PySem.W.keepIn K (.ref f6) = true)
    (a7 : PySem.W.nsIn K mainGlobals "demand_term" = some (some (.ref f7)))
    (l7 : K.lookup f7 = some ⟨oc7, od7, .func (PySem.W.fnOf "demand_term" "demand_term" (defArgs s_demand_term) (defBody s_demand_term) (defScope s_demand_term) .none kV7 dc7 pm7 an7 cd7 ct7), sl7⟩)
    (c7 : PySem.W.codeIn K cd7 "demand_term" = true) (k7 : PySem.W.keepIn K (.ref f7) = true)
    (a8 : PySem.W.nsIn K mainGlobals "is_variable" = some (some (.ref f8)))
    (l8 : K.lookup f8 = some ⟨oc8, od8, .func (PySem.W.fnOf "is_variable" "is_variable" (defArgs s_is_variable) (defBody s_is_variable) (defScope s_is_variable) .none kV8 dc8 pm8 an8 cd8 ct8), sl8⟩)
    (c8 : PySem.W.codeIn K cd8 "is_variable" = true) (k8 : PySem.W.keepIn K (.ref f8) = true)
    (a9 : PySem.W.nsIn K mainGlobals "arguments_of" = some (some (.ref f9)))
    (l9 : K.lookup f9 = some ⟨oc9, od9, .func (PySem.W.fnOf "arguments_of" "arguments_of" (defArgs s_arguments_of) (defBody s_arguments_of) (defScope s_arguments_of) .none kV9 dc9 pm9 an9 cd9 ct9), sl9⟩)
    (c9 : PySem.W.codeIn K cd9 "arguments_of" = true) (k9 : PySem.W.keepIn K (.ref f9) = true)
    (a10 : PySem.W.nsIn K mainGlobals "parts_of" = some (some (.ref f10)))
    (l10 : K.lookup f10 = some ⟨oc10, od10, .func (PySem.W.fnOf "parts_of" "parts_of" (defArgs s_parts_of) (defBody s_parts_of) (defScope s_parts_of) .none kV10 dc10 pm10 an10 cd10 ct10), sl10⟩)
    (c10 : PySem.W.codeIn K cd10 "parts_of" = true) (k10 : PySem.W.keepIn K (.ref f10) = true)
    (a11 : PySem.W.nsIn K mainGlobals "folded" = some (some (.ref f11)))
    (l11 : K.lookup f11 = some ⟨oc11, od11, .func (PySem.W.fnOf "folded" "folded" (defArgs s_folded) (defBody s_folded) (defScope s_folded) .none kV11 dc11 pm11 an11 cd11 ct11), sl11⟩)
    (c11 : PySem.W.codeIn K cd11 "folded" = true) (k11 : PySem.W.keepIn K (.ref f11) = true)
    (a12 : PySem.W.nsIn K mainGlobals "replaced" = some (some (.ref f12)))
    (l12 : K.lookup f12 = some ⟨oc12, od12, .func (PySem.W.fnOf "replaced" "replaced" (defArgs s_replaced) (defBody s_replaced) (defScope s_replaced) .none kV12 dc12 pm12 an12 cd12 ct12), sl12⟩)
    (c12 : PySem.W.codeIn K cd12 "replaced" = true) (k12 : PySem.W.keepIn K (.ref f12) = true)
    (a13 : PySem.W.nsIn K mainGlobals "numbers_in" = some (some (.ref f13)))
    (l13 : K.lookup f13 = some ⟨oc13, od13, .func (PySem.W.fnOf "numbers_in" "numbers_in" (defArgs s_numbers_in) (defBody s_numbers_in) (defScope s_numbers_in) .none kV13 dc13 pm13 an13 cd13 ct13), sl13⟩)
    (c13 : PySem.W.codeIn K cd13 "numbers_in" = true) (k13 : PySem.W.keepIn K (.ref f13) = true)
    (a14 : PySem.W.nsIn K mainGlobals "size_of" = some (some (.ref f14)))
    (l14 : K.lookup f14 = some ⟨oc14, od14, .func (PySem.W.fnOf "size_of" "size_of" (defArgs s_size_of) (defBody s_size_of) (defScope s_size_of) .none kV14 dc14 pm14 an14 cd14 ct14), sl14⟩)
    (c14 : PySem.W.codeIn K cd14 "size_of" = true) (k14 : PySem.W.keepIn K (.ref f14) = true)
    (a15 : PySem.W.nsIn K mainGlobals "depth_of" = some (some (.ref f15)))
    (l15 : K.lookup f15 = some ⟨oc15, od15, .func (PySem.W.fnOf "depth_of" "depth_of" (defArgs s_depth_of) (defBody s_depth_of) (defScope s_depth_of) .none kV15 dc15 pm15 an15 cd15 ct15), sl15⟩)
    (c15 : PySem.W.codeIn K cd15 "depth_of" = true) (k15 : PySem.W.keepIn K (.ref f15) = true)
    (a16 : PySem.W.nsIn K mainGlobals "variables_of" = some (some (.ref f16)))
    (l16 : K.lookup f16 = some ⟨oc16, od16, .func (PySem.W.fnOf "variables_of" "variables_of" (defArgs s_variables_of) (defBody s_variables_of) (defScope s_variables_of) .none kV16 dc16 pm16 an16 cd16 ct16), sl16⟩)
    (c16 : PySem.W.codeIn K cd16 "variables_of" = true) (k16 : PySem.W.keepIn K (.ref f16) = true)
    (a17 : PySem.W.nsIn K mainGlobals "renumbered" = some (some (.ref f17)))
    (l17 : K.lookup f17 = some ⟨oc17, od17, .func (PySem.W.fnOf "renumbered" "renumbered" (defArgs s_renumbered) (defBody s_renumbered) (defScope s_renumbered) .none kV17 dc17 pm17 an17 cd17 ct17), sl17⟩)
    (c17 : PySem.W.codeIn K cd17 "renumbered" = true) (k17 : PySem.W.keepIn K (.ref f17) = true)
    (a18 : PySem.W.nsIn K mainGlobals "_law_cell_at" = some (some (.ref f18)))
    (l18 : K.lookup f18 = some ⟨oc18, od18, .func (PySem.W.fnOf "_law_cell_at" "_law_cell_at" (defArgs s_law_cell_at) (defBody s_law_cell_at) (defScope s_law_cell_at) .none kV18 dc18 pm18 an18 cd18 ct18), sl18⟩)
    (c18 : PySem.W.codeIn K cd18 "_law_cell_at" = true) (k18 : PySem.W.keepIn K (.ref f18) = true)
    (a19 : PySem.W.nsIn K mainGlobals "_law_well" = some (some (.ref f19)))
    (l19 : K.lookup f19 = some ⟨oc19, od19, .func (PySem.W.fnOf "_law_well" "_law_well" (defArgs s_law_well) (defBody s_law_well) (defScope s_law_well) .none kV19 dc19 pm19 an19 cd19 ct19), sl19⟩)
    (c19 : PySem.W.codeIn K cd19 "_law_well" = true) (k19 : PySem.W.keepIn K (.ref f19) = true)
    (a20 : PySem.W.nsIn K mainGlobals "_law_draw" = some (some (.ref f20)))
    (l20 : K.lookup f20 = some ⟨oc20, od20, .func (PySem.W.fnOf "_law_draw" "_law_draw" (defArgs s_law_draw) (defBody s_law_draw) (defScope s_law_draw) .none kV20 dc20 pm20 an20 cd20 ct20), sl20⟩)
    (c20 : PySem.W.codeIn K cd20 "_law_draw" = true) (k20 : PySem.W.keepIn K (.ref f20) = true)
    (a21 : PySem.W.nsIn K mainGlobals "_law_one" = some (some (.ref f21)))
    (l21 : K.lookup f21 = some ⟨oc21, od21, .func (PySem.W.fnOf "_law_one" "_law_one" (defArgs s_law_one) (defBody s_law_one) (defScope s_law_one) .none kV21 dc21 pm21 an21 cd21 ct21), sl21⟩)
    (c21 : PySem.W.codeIn K cd21 "_law_one" = true) (k21 : PySem.W.keepIn K (.ref f21) = true)
    (a22 : PySem.W.nsIn K mainGlobals "_law_leaf" = some (some (.ref f22)))
    (l22 : K.lookup f22 = some ⟨oc22, od22, .func (PySem.W.fnOf "_law_leaf" "_law_leaf" (defArgs s_law_leaf) (defBody s_law_leaf) (defScope s_law_leaf) .none kV22 dc22 pm22 an22 cd22 ct22), sl22⟩)
    (c22 : PySem.W.codeIn K cd22 "_law_leaf" = true) (k22 : PySem.W.keepIn K (.ref f22) = true)
    (a23 : PySem.W.nsIn K mainGlobals "_law_term" = some (some (.ref f23)))
    (l23 : K.lookup f23 = some ⟨oc23, od23, .func (PySem.W.fnOf "_law_term" "_law_term" (defArgs s_law_term) (defBody s_law_term) (defScope s_law_term) .none kV23 dc23 pm23 an23 cd23 ct23), sl23⟩)
    (c23 : PySem.W.codeIn K cd23 "_law_term" = true) (k23 : PySem.W.keepIn K (.ref f23) = true)
    (a24 : PySem.W.nsIn K mainGlobals "_law_is_variable" = some (some (.ref f24)))
    (l24 : K.lookup f24 = some ⟨oc24, od24, .func (PySem.W.fnOf "_law_is_variable" "_law_is_variable" (defArgs s_law_is_variable) (defBody s_law_is_variable) (defScope s_law_is_variable) .none kV24 dc24 pm24 an24 cd24 ct24), sl24⟩)
    (c24 : PySem.W.codeIn K cd24 "_law_is_variable" = true) (k24 : PySem.W.keepIn K (.ref f24) = true)
    (a25 : PySem.W.nsIn K mainGlobals "_law_is_compound" = some (some (.ref f25)))
    (l25 : K.lookup f25 = some ⟨oc25, od25, .func (PySem.W.fnOf "_law_is_compound" "_law_is_compound" (defArgs s_law_is_compound) (defBody s_law_is_compound) (defScope s_law_is_compound) .none kV25 dc25 pm25 an25 cd25 ct25), sl25⟩)
    (c25 : PySem.W.codeIn K cd25 "_law_is_compound" = true) (k25 : PySem.W.keepIn K (.ref f25) = true)
    (a26 : PySem.W.nsIn K mainGlobals "_law_parts" = some (some (.ref f26)))
    (l26 : K.lookup f26 = some ⟨oc26, od26, .func (PySem.W.fnOf "_law_parts" "_law_parts" (defArgs s_law_parts) (defBody s_law_parts) (defScope s_law_parts) .none kV26 dc26 pm26 an26 cd26 ct26), sl26⟩)
    (c26 : PySem.W.codeIn K cd26 "_law_parts" = true) (k26 : PySem.W.keepIn K (.ref f26) = true)
    (a27 : PySem.W.nsIn K mainGlobals "_law_numbers" = some (some (.ref f27)))
    (l27 : K.lookup f27 = some ⟨oc27, od27, .func (PySem.W.fnOf "_law_numbers" "_law_numbers" (defArgs s_law_numbers) (defBody s_law_numbers) (defScope s_law_numbers) .none kV27 dc27 pm27 an27 cd27 ct27), sl27⟩)
    (c27 : PySem.W.codeIn K cd27 "_law_numbers" = true) (k27 : PySem.W.keepIn K (.ref f27) = true)
    (a28 : PySem.W.nsIn K mainGlobals "_law_put" = some (some (.ref f28)))
    (l28 : K.lookup f28 = some ⟨oc28, od28, .func (PySem.W.fnOf "_law_put" "_law_put" (defArgs s_law_put) (defBody s_law_put) (defScope s_law_put) .none kV28 dc28 pm28 an28 cd28 ct28), sl28⟩)
    (c28 : PySem.W.codeIn K cd28 "_law_put" = true) (k28 : PySem.W.keepIn K (.ref f28) = true)
    (a29 : PySem.W.nsIn K mainGlobals "_law_anew" = some (some (.ref f29)))
    (l29 : K.lookup f29 = some ⟨oc29, od29, .func (PySem.W.fnOf "_law_anew" "_law_anew" (defArgs s_law_anew) (defBody s_law_anew) (defScope s_law_anew) (.ref T29) kV29 dc29 pm29 an29 cd29 ct29), sl29⟩)
    (t29 : K.lookup T29 = some ⟨ou29, ow29, .seq #[.int 0 tk29] on29, os29⟩)
    (c29 : PySem.W.codeIn K cd29 "_law_anew" = true) (k29 : PySem.W.keepIn K (.ref f29) = true)
    (a30 : PySem.W.nsIn K mainGlobals "_law_depth" = some (some (.ref f30)))
    (l30 : K.lookup f30 = some ⟨oc30, od30, .func (PySem.W.fnOf "_law_depth" "_law_depth" (defArgs s_law_depth) (defBody s_law_depth) (defScope s_law_depth) .none kV30 dc30 pm30 an30 cd30 ct30), sl30⟩)
    (c30 : PySem.W.codeIn K cd30 "_law_depth" = true) (k30 : PySem.W.keepIn K (.ref f30) = true)
    (a31 : PySem.W.nsIn K mainGlobals "_law_list_right" = some (some (.ref f31)))
    (l31 : K.lookup f31 = some ⟨oc31, od31, .func (PySem.W.fnOf "_law_list_right" "_law_list_right" (defArgs s_law_list_right) (defBody s_law_list_right) (defScope s_law_list_right) .none kV31 dc31 pm31 an31 cd31 ct31), sl31⟩)
    (c31 : PySem.W.codeIn K cd31 "_law_list_right" = true) (k31 : PySem.W.keepIn K (.ref f31) = true)
    (a32 : PySem.W.nsIn K mainGlobals "_law_right" = some (some (.ref f32)))
    (l32 : K.lookup f32 = some ⟨oc32, od32, .func (PySem.W.fnOf "_law_right" "_law_right" (defArgs s_law_right) (defBody s_law_right) (defScope s_law_right) .none kV32 dc32 pm32 an32 cd32 ct32), sl32⟩)
    (c32 : PySem.W.codeIn K cd32 "_law_right" = true) (k32 : PySem.W.keepIn K (.ref f32) = true)
    (a33 : PySem.W.nsIn K mainGlobals "law" = some (some (.ref f33)))
    (l33 : K.lookup f33 = some ⟨oc33, od33, .func (PySem.W.fnOf "law" "law" (defArgs s_law) (defBody s_law) (defScope s_law) .none kV33 dc33 pm33 an33 cd33 ct33), sl33⟩)
    (c33 : PySem.W.codeIn K cd33 "law" = true) (k33 : PySem.W.keepIn K (.ref f33) = true)
    (y1 : PySem.W.nsIn K mainGlobals "MOST_SIGNS" = some (some (.int 40 u1)))
    (y2 : PySem.W.nsIn K mainGlobals "MOST_ARGUMENTS" = some (some (.int 8 u2)))
    (y3 : PySem.W.nsIn K mainGlobals "BARRED_SIGN" = some (some (.int 37 u3)))
    (y4 : PySem.W.nsIn K mainGlobals "TOO_GREAT" = some (some (.int tooGreat u4)))
    (z1 : PySem.W.nsIn K mainGlobals "isinstance" = some none)
    (z2 : PySem.W.nsIn K mainGlobals "int" = some none)
    (z3 : PySem.W.nsIn K mainGlobals "bool" = some none)
    (z4 : PySem.W.nsIn K mainGlobals "str" = some none)
    (z5 : PySem.W.nsIn K mainGlobals "tuple" = some none)
    (z6 : PySem.W.nsIn K mainGlobals "len" = some none)
    (z7 : PySem.W.nsIn K mainGlobals "all" = some none)
    (z8 : PySem.W.nsIn K mainGlobals "ord" = some none)
    (z9 : PySem.W.nsIn K mainGlobals "list" = some none)
    (z10 : PySem.W.nsIn K mainGlobals "reversed" = some none)
    (z11 : PySem.W.nsIn K mainGlobals "enumerate" = some none)
    (z12 : PySem.W.nsIn K mainGlobals "dict" = some none)
    (z13 : PySem.W.nsIn K mainGlobals "range" = some none)
    (z14 : PySem.W.nsIn K mainGlobals "max" = some none)
    (z15 : PySem.W.nsIn K mainGlobals "min" = some none)
    (z16 : PySem.W.nsIn K mainGlobals "abs" = some none) :
    ∃ fd : FuncData, (∀ (s : Shared) (v : Value), BindsTo s fd ⟨[v], []⟩ [("_law_script", v)]) ∧ ∀ base : Heap, K.In base → base.Ns mainGlobals mg → FnOk l.prog w K mg base CX0 17 fa fd ["_law_script"] (spLaw K) := by
  have e := hfa.symm.trans (PySem.W.mg_of X G a33)
  cases e
  have F1 := fun_mk (st := s_is_integer) l1 c1 k1
  have b1 := F1.binds (ps := ["thing"]) fun _ _ _ _ _ _ us hl => match us, hl with | [_], _ => rfl
  have F2 := fun_mk (st := s_is_sign) l2 c2 k2
  have b2 := F2.binds (ps := ["sign"]) fun _ _ _ _ _ _ us hl => match us, hl with | [_], _ => rfl
  have F3 := fun_mk (st := s_is_atom) l3 c3 k3
  have b3 := F3.binds (ps := ["thing"]) fun _ _ _ _ _ _ us hl => match us, hl with | [_], _ => rfl
  have F4 := fun_mk (st := s_is_number) l4 c4 k4
  have b4 := F4.binds (ps := ["thing"]) fun _ _ _ _ _ _ us hl => match us, hl with | [_], _ => rfl
  have F5 := fun_mk (st := s_is_term) l5 c5 k5
  have b5 := F5.binds (ps := ["thing"]) fun _ _ _ _ _ _ us hl => match us, hl with | [_], _ => rfl
  have F6 := fun_mk (st := s_is_part) l6 c6 k6
  have b6 := F6.binds (ps := ["thing"]) fun _ _ _ _ _ _ us hl => match us, hl with | [_], _ => rfl
  have F7 := fun_mk (st := s_demand_term) l7 c7 k7
  have b7 := F7.binds (ps := ["term"]) fun _ _ _ _ _ _ us hl => match us, hl with | [_], _ => rfl
  have F8 := fun_mk (st := s_is_variable) l8 c8 k8
  have b8 := F8.binds (ps := ["part"]) fun _ _ _ _ _ _ us hl => match us, hl with | [_], _ => rfl
  have F9 := fun_mk (st := s_arguments_of) l9 c9 k9
  have b9 := F9.binds (ps := ["part"]) fun _ _ _ _ _ _ us hl => match us, hl with | [_], _ => rfl
  have F10 := fun_mk (st := s_parts_of) l10 c10 k10
  have b10 := F10.binds (ps := ["term"]) fun _ _ _ _ _ _ us hl => match us, hl with | [_], _ => rfl
  have F11 := fun_mk (st := s_folded) l11 c11 k11
  have b11 := F11.binds (ps := ["row"]) fun _ _ _ _ _ _ us hl => match us, hl with | [_], _ => rfl
  have F12 := fun_mk (st := s_replaced) l12 c12 k12
  have b12 := F12.binds (ps := ["term", "table"]) fun _ _ _ _ _ _ us hl => match us, hl with | [_, _], _ => rfl
  have F13 := fun_mk (st := s_numbers_in) l13 c13 k13
  have b13 := F13.binds (ps := ["term"]) fun _ _ _ _ _ _ us hl => match us, hl with | [_], _ => rfl
  have F14 := fun_mk (st := s_size_of) l14 c14 k14
  have b14 := F14.binds (ps := ["term"]) fun _ _ _ _ _ _ us hl => match us, hl with | [_], _ => rfl
  have F15 := fun_mk (st := s_depth_of) l15 c15 k15
  have b15 := F15.binds (ps := ["term"]) fun _ _ _ _ _ _ us hl => match us, hl with | [_], _ => rfl
  have F16 := fun_mk (st := s_variables_of) l16 c16 k16
  have b16 := F16.binds (ps := ["term"]) fun _ _ _ _ _ _ us hl => match us, hl with | [_], _ => rfl
  have F17 := fun_mk (st := s_renumbered) l17 c17 k17
  have b17 := F17.binds (ps := ["term"]) fun _ _ _ _ _ _ us hl => match us, hl with | [_], _ => rfl
  have F18 := fun_mk (st := s_law_cell_at) l18 c18 k18
  have b18 := F18.binds (ps := ["_law_script", "_law_k"]) fun _ _ _ _ _ _ us hl => match us, hl with | [_, _], _ => rfl
  have F19 := fun_mk (st := s_law_well) l19 c19 k19
  have b19 := F19.binds (ps := ["_law_cell"]) fun _ _ _ _ _ _ us hl => match us, hl with | [_], _ => rfl
  have F20 := fun_mk (st := s_law_draw) l20 c20 k20
  have b20 := F20.binds (ps := ["_law_well_here", "_law_many"]) fun _ _ _ _ _ _ us hl => match us, hl with | [_, _], _ => rfl
  have F21 := fun_mk (st := s_law_one) l21 c21 k21
  have b21 := F21.binds (ps := ["_law_well_here", "_law_some"]) fun _ _ _ _ _ _ us hl => match us, hl with | [_, _], _ => rfl
  have F22 := fun_mk (st := s_law_leaf) l22 c22 k22
  have b22 := F22.binds (ps := ["_law_well_here", "_law_many"]) fun _ _ _ _ _ _ us hl => match us, hl with | [_, _], _ => rfl
  have F23 := fun_mk (st := s_law_term) l23 c23 k23
  have b23 := F23.binds (ps := ["_law_well_here", "_law_deep", "_law_many"]) fun _ _ _ _ _ _ us hl => match us, hl with | [_, _, _], _ => rfl
  have F24 := fun_mk (st := s_law_is_variable) l24 c24 k24
  have b24 := F24.binds (ps := ["_law_term_here"]) fun _ _ _ _ _ _ us hl => match us, hl with | [_], _ => rfl
  have F25 := fun_mk (st := s_law_is_compound) l25 c25 k25
  have b25 := F25.binds (ps := ["_law_term_here"]) fun _ _ _ _ _ _ us hl => match us, hl with | [_], _ => rfl
  have F26 := fun_mk (st := s_law_parts) l26 c26 k26
  have b26 := F26.binds (ps := ["_law_term_here"]) fun _ _ _ _ _ _ us hl => match us, hl with | [_], _ => rfl
  have F27 := fun_mk (st := s_law_numbers) l27 c27 k27
  have b27 := F27.binds (ps := ["_law_term_here"]) fun _ _ _ _ _ _ us hl => match us, hl with | [_], _ => rfl
  have F28 := fun_mk (st := s_law_put) l28 c28 k28
  have b28 := F28.binds (ps := ["_law_term_here", "_law_table"]) fun _ _ _ _ _ _ us hl => match us, hl with | [_, _], _ => rfl
  have F29 : FunD K "_law_anew" "_law_anew" (defArgs s_law_anew) (defBody s_law_anew) (defScope s_law_anew) [V.int 0] [] f29 (PySem.W.fnOf "_law_anew" "_law_anew" (defArgs s_law_anew) (defBody s_law_anew) (defScope s_law_anew) (.ref T29) kV29 dc29 pm29 an29 cd29 ct29) := ⟨⟨_, _, _, _, _, _, _, _, _, _, rfl, l29, c29, .inr ⟨by simp, T29, _, [.int 0 tk29], _, rfl, t29, rfl, .cons ⟨_, rfl⟩ .nil⟩, .inl rfl⟩, k29⟩
  have b29 : ∃ ds, Vals [V.int 0] ds ∧ Binds K _ ["_law_term_here", "_law_first"] ds := F29.binds1 (ps := ["_law_term_here", "_law_first"]) 1 0 (by simp) rfl fun _ _ _ _ _ _ _ us its hl hi => match us, its, hl, hi with | [_], [_], _, _ => ⟨_, rfl, rfl⟩
  have F30 := fun_mk (st := s_law_depth) l30 c30 k30
  have b30 := F30.binds (ps := ["_law_term_here"]) fun _ _ _ _ _ _ us hl => match us, hl with | [_], _ => rfl
  have F31 := fun_mk (st := s_law_list_right) l31 c31 k31
  have b31 := F31.binds (ps := ["_law_well_here"]) fun _ _ _ _ _ _ us hl => match us, hl with | [_], _ => rfl
  have F32 := fun_mk (st := s_law_right) l32 c32 k32
  have b32 := F32.binds (ps := ["_law_well_here"]) fun _ _ _ _ _ _ us hl => match us, hl with | [_], _ => rfl
  have F33 := fun_mk (st := s_law) l33 c33 k33
  have b33 := F33.binds (ps := ["_law_script"]) fun _ _ _ _ _ _ us hl => match us, hl with | [_], _ => rfl
  exact ⟨PySem.W.fnOf "law" "law" (defArgs s_law) (defBody s_law) (defScope s_law) .none kV33 dc33 pm33 an33 cd33 ct33, fun s v => .of_eq rfl, fun base _ _ => ok_law (T := ({
    f_is_integer := f1, d_is_integer := _, h_is_integer := ⟨F1, b1, PySem.W.mg_of X G a1⟩,
    f_is_sign := f2, d_is_sign := _, h_is_sign := ⟨F2, b2, PySem.W.mg_of X G a2⟩,
    f_is_atom := f3, d_is_atom := _, h_is_atom := ⟨F3, b3, PySem.W.mg_of X G a3⟩,
    f_is_number := f4, d_is_number := _, h_is_number := ⟨F4, b4, PySem.W.mg_of X G a4⟩,
    f_is_term := f5, d_is_term := _, h_is_term := ⟨F5, b5, PySem.W.mg_of X G a5⟩,
    f_is_part := f6, d_is_part := _, h_is_part := ⟨F6, b6, PySem.W.mg_of X G a6⟩,
    f_demand_term := f7, d_demand_term := _, h_demand_term := ⟨F7, b7, PySem.W.mg_of X G a7⟩,
    f_is_variable := f8, d_is_variable := _, h_is_variable := ⟨F8, b8, PySem.W.mg_of X G a8⟩,
    f_arguments_of := f9, d_arguments_of := _, h_arguments_of := ⟨F9, b9, PySem.W.mg_of X G a9⟩,
    f_parts_of := f10, d_parts_of := _, h_parts_of := ⟨F10, b10, PySem.W.mg_of X G a10⟩,
    f_folded := f11, d_folded := _, h_folded := ⟨F11, b11, PySem.W.mg_of X G a11⟩,
    f_replaced := f12, d_replaced := _, h_replaced := ⟨F12, b12, PySem.W.mg_of X G a12⟩,
    f_numbers_in := f13, d_numbers_in := _, h_numbers_in := ⟨F13, b13, PySem.W.mg_of X G a13⟩,
    f_size_of := f14, d_size_of := _, h_size_of := ⟨F14, b14, PySem.W.mg_of X G a14⟩,
    f_depth_of := f15, d_depth_of := _, h_depth_of := ⟨F15, b15, PySem.W.mg_of X G a15⟩,
    f_variables_of := f16, d_variables_of := _, h_variables_of := ⟨F16, b16, PySem.W.mg_of X G a16⟩,
    f_renumbered := f17, d_renumbered := _, h_renumbered := ⟨F17, b17, PySem.W.mg_of X G a17⟩,
    f_law_cell_at := f18, d_law_cell_at := _, h_law_cell_at := ⟨F18, b18, PySem.W.mg_of X G a18⟩,
    f_law_well := f19, d_law_well := _, h_law_well := ⟨F19, b19, PySem.W.mg_of X G a19⟩,
    f_law_draw := f20, d_law_draw := _, h_law_draw := ⟨F20, b20, PySem.W.mg_of X G a20⟩,
    f_law_one := f21, d_law_one := _, h_law_one := ⟨F21, b21, PySem.W.mg_of X G a21⟩,
    f_law_leaf := f22, d_law_leaf := _, h_law_leaf := ⟨F22, b22, PySem.W.mg_of X G a22⟩,
    f_law_term := f23, d_law_term := _, h_law_term := ⟨F23, b23, PySem.W.mg_of X G a23⟩,
    f_law_is_variable := f24, d_law_is_variable := _, h_law_is_variable := ⟨F24, b24, PySem.W.mg_of X G a24⟩,
    f_law_is_compound := f25, d_law_is_compound := _, h_law_is_compound := ⟨F25, b25, PySem.W.mg_of X G a25⟩,
    f_law_parts := f26, d_law_parts := _, h_law_parts := ⟨F26, b26, PySem.W.mg_of X G a26⟩,
    f_law_numbers := f27, d_law_numbers := _, h_law_numbers := ⟨F27, b27, PySem.W.mg_of X G a27⟩,
    f_law_put := f28, d_law_put := _, h_law_put := ⟨F28, b28, PySem.W.mg_of X G a28⟩,
    f_law_anew := f29, d_law_anew := _, h_law_anew := ⟨F29, PySem.W.mg_of X G a29, b29⟩,
    f_law_depth := f30, d_law_depth := _, h_law_depth := ⟨F30, b30, PySem.W.mg_of X G a30⟩,
    f_law_list_right := f31, d_law_list_right := _, h_law_list_right := ⟨F31, b31, PySem.W.mg_of X G a31⟩,
    f_law_right := f32, d_law_right := _, h_law_right := ⟨F32, b32, PySem.W.mg_of X G a32⟩,
    f_law := fa, d_law := _, h_law := ⟨F33, b33, PySem.W.mg_of X G a33⟩,
    c_MOST_SIGNS := ⟨_, PySem.W.mg_of X G y1⟩,
    c_MOST_ARGUMENTS := ⟨_, PySem.W.mg_of X G y2⟩,
    c_BARRED_SIGN := ⟨_, PySem.W.mg_of X G y3⟩,
    c_TOO_GREAT := ⟨_, PySem.W.mg_of X G y4⟩,
    b_isinstance := PySem.W.mg_none_of X G z1,
    b_int := PySem.W.mg_none_of X G z2,
    b_bool := PySem.W.mg_none_of X G z3,
    b_str := PySem.W.mg_none_of X G z4,
    b_tuple := PySem.W.mg_none_of X G z5,
    b_len := PySem.W.mg_none_of X G z6,
    b_all := PySem.W.mg_none_of X G z7,
    b_ord := PySem.W.mg_none_of X G z8,
    b_list := PySem.W.mg_none_of X G z9,
    b_reversed := PySem.W.mg_none_of X G z10,
    b_enumerate := PySem.W.mg_none_of X G z11,
    b_dict := PySem.W.mg_none_of X G z12,
    b_range := PySem.W.mg_none_of X G z13,
    b_max := PySem.W.mg_none_of X G z14,
    b_min := PySem.W.mg_none_of X G z15,
    b_abs := PySem.W.mg_none_of X G z16 } : Tx K mg))⟩
theorem walk {l : PySem.W.OpenLaw} {q : Program} {loose : List Str} {XP : (Str → Option Value) → Heap → Prop} {YP : World → Heap → Prop} {d : DefRec} {K : Params → PySem.W.Frag} (hn : l.most = some 63) (hdf : d.params.defaults = [])
    (hY : ∀ (w : World) (h : Heap), YP w h → (K w.params).In h)
    (F : ∀ (w : World) (mg : Str → Option Value) (fa : Addr) (h : Heap), (K w.params).In h → h.Ns mainGlobals mg → mg d.name = some (.ref fa) →
      ∃ fd : FuncData, (∀ (s : Shared) (u : Value), BindsTo s fd ⟨[u], []⟩ [("_law_script", u)]) ∧ ∀ base : Heap, (K w.params).In base → base.Ns mainGlobals mg → FnOk l.prog w (K w.params) mg base CX0 17 fa fd ["_law_script"] (spLaw (K w.params))) :
    PySem.W.WalkO q loose XP YP l.row.toRowW d [] (fun f vs => PySem.call f vs) :=
  L2.walk_of (n := 63) (k := 17) (x := "_law_script") (CX := fun _ => CX0) (sp := fun w => spLaw (K w.params)) hn (by decide) hdf ⟨rfl, by decide, by decide⟩ hY F (fun _ _ a ns hl _ hS => ⟨a, ns, rfl, hS, hl, fun _ => rfl⟩) fun _ _ _ _ _ z => z
end Hm

open PySem PySem.W PyProof.Rows
set_option maxRecDepth 100000 in
set_option maxHeartbeats 0 in
theorem PySem.Challenge.cw_hornmill_k01_terms_told_holds : PySem.Challenge.rw_hornmill_k01_terms_told.Holds := by
  w_on; o_law; k_head; (case hw => w_witness2)
  k_fill
  refine Hm.walk (l := PySem.Challenge.rw_hornmill_k01_terms_told) rfl rfl (fun w h Y => PySem.W.kIn_of Y) ?F
  case F =>
    intro w mg fa h KX G hmg
    refine' Hm.all_mk KX G hmg ?a1 ?l1 ?c1 ?k1 ?a2 ?l2 ?c2 ?k2 ?a3 ?l3 ?c3 ?k3 ?a4 ?l4 ?c4 ?k4 ?a5 ?l5 ?c5 ?k5 ?a6 ?l6 ?c6 ?k6 ?a7 ?l7 ?c7 ?k7 ?a8 ?l8 ?c8 ?k8 ?a9 ?l9 ?c9 ?k9 ?a10 ?l10 ?c10 ?k10 ?a11 ?l11 ?c11 ?k11 ?a12 ?l12 ?c12 ?k12 ?a13 ?l13 ?c13 ?k13 ?a14 ?l14 ?c14 ?k14 ?a15 ?l15 ?c15 ?k15 ?a16 ?l16 ?c16 ?k16 ?a17 ?l17 ?c17 ?k17 ?a18 ?l18 ?c18 ?k18 ?a19 ?l19 ?c19 ?k19 ?a20 ?l20 ?c20 ?k20 ?a21 ?l21 ?c21 ?k21 ?a22 ?l22 ?c22 ?k22 ?a23 ?l23 ?c23 ?k23 ?a24 ?l24 ?c24 ?k24 ?a25 ?l25 ?c25 ?k25 ?a26 ?l26 ?c26 ?k26 ?a27 ?l27 ?c27 ?k27 ?a28 ?l28 ?c28 ?k28 ?a29 ?l29 ?t29 ?c29 ?k29 ?a30 ?l30 ?c30 ?k30 ?a31 ?l31 ?c31 ?k31 ?a32 ?l32 ?c32 ?k32 ?a33 ?l33 ?c33 ?k33 ?y1 ?y2 ?y3 ?y4 ?z1 ?z2 ?z3 ?z4 ?z5 ?z6 ?z7 ?z8 ?z9 ?z10 ?z11 ?z12 ?z13 ?z14 ?z15 ?z16
    (case a1 => k_is)
    (case l1 => k_is)
    (case c1 => k_is)
    (case k1 => k_is)
    (case a2 => k_is)
    (case l2 => k_is)
    (case c2 => k_is)
    (case k2 => k_is)
    (case a3 => k_is)
    (case l3 => k_is)
    (case c3 => k_is)
    (case k3 => k_is)
    (case a4 => k_is)
    (case l4 => k_is)
    (case c4 => k_is)
    (case k4 => k_is)
    (case a5 => k_is)
    (case l5 => k_is)
    (case c5 => k_is)
    (case k5 => k_is)
    (case a6 => k_is)
    (case l6 => k_is)
    (case c6 => k_is)
    (case k6 => k_is)
    (case a7 => k_is)
    (case l7 => k_is)
    (case c7 => k_is)
    (case k7 => k_is)
    (case a8 => k_is)
    (case l8 => k_is)
    (case c8 => k_is)
    (case k8 => k_is)
    (case a9 => k_is)
    (case l9 => k_is)
    (case c9 => k_is)
    (case k9 => k_is)
    (case a10 => k_is)
    (case l10 => k_is)
    (case c10 => k_is)
    (case k10 => k_is)
    (case a11 => k_is)
    (case l11 => k_is)
    (case c11 => k_is)
    (case k11 => k_is)
    (case a12 => k_is)
    (case l12 => k_is)
    (case c12 => k_is)
    (case k12 => k_is)
    (case a13 => k_is)
    (case l13 => k_is)
    (case c13 => k_is)
    (case k13 => k_is)
    (case a14 => k_is)
    (case l14 => k_is)
    (case c14 => k_is)
    (case k14 => k_is)
    (case a15 => k_is)
    (case l15 => k_is)
    (case c15 => k_is)
    (case k15 => k_is)
    (case a16 => k_is)
    (case l16 => k_is)
    (case c16 => k_is)
    (case k16 => k_is)
    (case a17 => k_is)
    (case l17 => k_is)
    (case c17 => k_is)
    (case k17 => k_is)
    (case a18 => k_is)
    (case l18 => k_is)
    (case c18 => k_is)
    (case k18 => k_is)
    (case a19 => k_is)
    (case l19 => k_is)
    (case c19 => k_is)
    (case k19 => k_is)
    (case a20 => k_is)
    (case l20 => k_is)
    (case c20 => k_is)
    (case k20 => k_is)
    (case a21 => k_is)
    (case l21 => k_is)
    (case c21 => k_is)
    (case k21 => k_is)
    (case a22 => k_is)
    (case l22 => k_is)
    (case c22 => k_is)
    (case k22 => k_is)
    (case a23 => k_is)
    (case l23 => k_is)
    (case c23 => k_is)
    (case k23 => k_is)
    (case a24 => k_is)
    (case l24 => k_is)
    (case c24 => k_is)
    (case k24 => k_is)
    (case a25 => k_is)
    (case l25 => k_is)
    (case c25 => k_is)
    (case k25 => k_is)
    (case a26 => k_is)
    (case l26 => k_is)
    (case c26 => k_is)
    (case k26 => k_is)
    (case a27 => k_is)
    (case l27 => k_is)
    (case c27 => k_is)
    (case k27 => k_is)
    (case a28 => k_is)
    (case l28 => k_is)
    (case c28 => k_is)
    (case k28 => k_is)
    (case a29 => k_is)
    (case l29 => k_is)
    (case t29 => k_is)
    (case c29 => k_is)
    (case k29 => k_is)
    (case a30 => k_is)
    (case l30 => k_is)
    (case c30 => k_is)
    (case k30 => k_is)
    (case a31 => k_is)
    (case l31 => k_is)
    (case c31 => k_is)
    (case k31 => k_is)
    (case a32 => k_is)
    (case l32 => k_is)
    (case c32 => k_is)
    (case k32 => k_is)
    (case a33 => k_is)
    (case l33 => k_is)
    (case c33 => k_is)
    (case k33 => k_is)
    (case y1 => k_is)
    (case y2 => k_is)
    (case y3 => k_is)
    (case y4 => k_is)
    (case z1 => k_is)
    (case z2 => k_is)
    (case z3 => k_is)
    (case z4 => k_is)
    (case z5 => k_is)
    (case z6 => k_is)
    (case z7 => k_is)
    (case z8 => k_is)
    (case z9 => k_is)
    (case z10 => k_is)
    (case z11 => k_is)
    (case z12 => k_is)
    (case z13 => k_is)
    (case z14 => k_is)
    (case z15 => k_is)
    (case z16 => k_is)

