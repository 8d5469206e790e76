import PyProof.Rows.All
import Wide.All
import OpenK.AllK
import Wide.FinOn
import HandS.ForMost
import HandS.Style
import HandS.TupAny
import HandS.Flow
import HandS.Star
import HandS.IsInst
import HandS.Rev
import HandS.Evl
import HandS.More
import HandS.DictComp
import HandS.Wide
import HandS.Walk
import KE.LtSeq
import KE.LtData
import HandS.SortKw
import KE.KSortKey
import KE.SortCalls
import HandS.Lambda
import HandS.ListItems
import HandS.DictTup
import HandS.Zip
import KE.KDictZip
import HandS.EndTab
import HandS.Defaults
import PySem.Challenge.RW_hornmill_k07_terms_matched
import HandS.SetKeys
set_option Elab.async false
set_option linter.all false
set_option maxRecDepth 100000
set_option maxHeartbeats 4000000
namespace Hm
open PySem PySem.Spec PyProof.Rows L2 HT

/-! ## rules that the layer lacks -/
section
variable {prog : Program} {w : World} {A : Around} {E : Value → Shared → Prop} {s : Shared}
theorem sliceApplied_back {sl : Addr} {n : Nat} {ti : Tok} {Q : Int × Int × Nat → Shared → Prop} (hs : s.heap.IsSliceOf sl .none .none (.int (-1) ti))
    (h : Q ((n : Int) - 1, -1, n) s) : wpAny (model prog w) A (Builtin.Slice.sliceApplied (.ref sl) (pure (n : Int))) Q E s := by
  obtain ⟨os, hos, hcs, hds⟩ := id hs
  unfold Builtin.Slice.sliceApplied Builtin.Slice.sliceFields
  refine wpAny_bind (wpAny_bind (wpAny_field hos hds (x := .none) rfl (wpAny_bind (wpAny_field hos hds (x := .none) rfl (wpAny_bind (wpAny_field hos hds (x := .int (-1) ti) rfl (wpAny_pure ?_)))))))
  refine wpAny_bind (slicePart_ (.int (-1) ti) ?_)
  show wpAny _ _ (if ((-1 : Int) == 0) = true then _ else _) _ _ s
  rw [if_neg (by decide)]
  refine wpAny_bind (slicePart_ .none (wpAny_bind (slicePart_ .none (wpAny_bind (wpAny_pure ?_)))))
  show wpAny _ _ (pure ((n : Int) - 1, (-1 : Int), Builtin.Slice.slicePlaces ((n : Int) - 1) (-1) (-1))) _ _ s
  have e : Builtin.Slice.slicePlaces ((n : Int) - 1) (-1) (-1) = n := by
    unfold Builtin.Slice.slicePlaces
    rw [if_neg (by decide)]
    by_cases hn : (n : Int) - 1 > -1
    · rw [if_pos hn]
      have : -(-1 : Int) = 1 := by decide
      rw [this, Int.ediv_one]
      omega
    · rw [if_neg hn]
      omega
  rw [e]
  exact wpAny_pure h
theorem fm_congr {α β : Type} {f g : α → Option β} : ∀ l : List α, (∀ x ∈ l, f x = g x) → l.filterMap f = l.filterMap g
  | [], _ => rfl
  | x :: r, h => by
    rw [List.filterMap_cons, List.filterMap_cons, h x List.mem_cons_self, fm_congr r fun y hy => h y (List.mem_cons_of_mem _ hy)]
theorem pick_back (xs : List Value) : ((List.range xs.toArray.size).filterMap fun (k : Nat) => xs.toArray[(((xs.toArray.size : Nat) : Int) - 1 + (k : Int) * -1).toNat]?).toArray = xs.reverse.toArray := by
  apply congrArg List.toArray
  have key : ∀ m : Nat, m ≤ xs.length → ((List.range m).filterMap fun (k : Nat) => xs[xs.length - 1 - k]?) = xs.reverse.take m := by
    intro m
    induction m with
    | zero => intro _; simp
    | succ m ih =>
      intro hm
      rw [List.range_succ, List.filterMap_append, ih (by omega), List.take_add_one]
      congr 1
      have hlt : xs.length - 1 - m < xs.length := by omega
      rw [List.getElem?_reverse (by omega)]
      simp [List.getElem?_eq_getElem hlt]
  have k2 := key xs.length (Nat.le_refl _)
  rw [List.take_of_length_le (by simp)] at k2
  rw [← k2, List.size_toArray]
  refine fm_congr _ fun k hk => ?_
  have hk' : k < xs.length := List.mem_range.mp hk
  have e : (((xs.length : Nat) : Int) - 1 + (k : Int) * -1).toNat = xs.length - 1 - k := by omega
  rw [e]
  simp
theorem getItem_tuple_back {t sl : Addr} {items : List Value} {ti : Tok} {Q : Value → Shared → Prop} (ht : IsTup s.heap t items.toArray) (hs : s.heap.IsSliceOf sl .none .none (.int (-1) ti))
    (h : Q (.ref s.heap.objs.size) { s with heap := s.heap.push { cls := .type "tuple", data := .seq items.reverse.toArray } })
    (hsz : items.length ≤ sizeLine) : wpAny (model prog w) A (getItem (.ref t) (.ref sl)) Q E s := by
  have htake : sizeOk (.seq items.reverse.toArray) := by
    show items.reverse.toArray.size ≤ sizeLine
    rw [List.size_toArray, List.length_reverse]
    exact hsz
  obtain ⟨os, hos, hcs, hds⟩ := id hs
  have hTs : s.TypeIs (.ref sl) "slice" := ⟨os, hos, hcs⟩
  unfold getItem
  try with_reducible refine wpAny_holding ?_
  first | refine wpAny_bind (wpAny_pure ?_) | skip
  refine wpAny_bind (wpAny_sequenceKey ht.typeIs (by decide) ?_)
  refine wpAny_bind (wpAny_callSpecial?_slot (name := Str.ofString "__getitem__") ht.typeIs PyProof.Rows.slot_tuple_getitem
    (wpAny_call_entry PyProof.Rows.slot_tuple_getitem ht.typeIs entry_tuple_getitem ?_ (args_tuple_getitem _ _)))
  show wpAny _ _ (Builtin.Tuple.tupleItemsOf (.ref t) >>= _) _ _ s
  refine wpAny_bind (tupleItemsOf_ ht ?_)
  refine wpAny_bind (wpAny_typeOf hTs ?_)
  rw [if_pos (by decide)]
  refine wpAny_bind (sliceApplied_back hs ?_)
  have hno : ¬ ((((items.toArray.size : Nat) : Int) - 1 == 0 && (-1 : Int) == 1 && items.toArray.size == items.toArray.size) = true) := by
    intro q
    rw [Bool.and_eq_true, Bool.and_eq_true] at q
    exact absurd q.1.2 (by decide)
  show wpAny _ _ (if (((items.toArray.size : Nat) : Int) - 1 == 0 && (-1 : Int) == 1 && items.toArray.size == items.toArray.size) = true then _ else _) _ _ s
  rw [if_neg hno, pick_back]
  first
    | exact wpAny_bind (m := Builtin.Tuple.tupleExact _) (wpAny_newObj_type (wpAny_pure ⟨_, rfl, wpAny_pure h⟩) htake)
    | exact wpAny_bind (m := Builtin.Tuple.tupleExact _) (wpAny_newObj_type (wpAny_bind (wpAny_pure (wpAny_pure ⟨_, rfl, wpAny_pure h⟩))) htake)
    | exact wpAny_bind (wpAny_bind (m := Builtin.Tuple.tupleExact _) (wpAny_newObj_type (wpAny_pure (wpAny_pure ⟨_, rfl, wpAny_pure h⟩)) htake))
    | exact wpAny_bind (wpAny_bind (m := Builtin.Tuple.tupleExact _) (wpAny_newObj_type (wpAny_pure ⟨_, rfl, wpAny_pure h⟩) htake))
end

/-- t[::-1] of a tuple -/
def tRevT (K : PySem.W.Frag) (te : TE) : TE := fun σ H Q => te σ H fun x H1 => ∃ a xs, x = .ref a ∧ SqT K H1 a xs ∧ ∀ p, H1 p = none → Q (.ref p) (upd H1 p (.tup xs.reverse))
section
variable {X : Cx}
theorem pe_revT {e : Expr} {te : TE} {k : Nat} {p1 p2 p3 pos : Pos} (he : PE X e te) : PE X (.Subscript e (.Slice none none (some (.UnaryOp .USub (.Constant (.int 1) k p1) p2)) p3) pos) (tRevT X.K te) := by
  refine ⟨fun pins s σ H Q I h => ?_⟩
  refine Subscript_ (thn (he.run pins s σ H _ I h) fun v s1 ⟨x, H1, I1, r1, q1⟩ => ?_)
  obtain ⟨a, xs, ex, hx, q⟩ := q1
  subst ex
  cases r1
  have hst : PO X (some (.UnaryOp .USub (.Constant (.int 1) k p1) p2)) (tPart (tUn (rU fun i => .int (-i)) (tC (.int 1)))) := po_some (pe_un un_neg pe_int)
  refine wpAny_Slice (thn (po_none.run pins s1 σ H1 (fun o H2 => o = none ∧ H2 = H1) I1 ⟨rfl, rfl⟩) fun vl s2 ⟨l, H2, I2, pl, el, e2⟩ => ?_)
  subst el e2
  refine thn (po_none.run pins s2 σ H2 (fun o H3 => o = none ∧ H3 = H2) I2 ⟨rfl, rfl⟩) fun vu s3 ⟨u, H3, I3, pu, eu, e3⟩ => ?_
  subst eu e3
  refine thn (hst.run pins s3 σ H3 (fun o H4 => o = some (-1) ∧ H4 = H3) I3 ⟨1, rfl, -1, rfl, rfl, rfl⟩) fun vs s4 ⟨o, H4, I4, ps, eo, e4⟩ => ?_
  subst eo e4
  cases pl
  cases pu
  obtain ⟨ti, rfl⟩ : ∃ ti, vs = Value.int (-1) ti := by
    cases ps
    exact ⟨_, rfl⟩
  have I5 : Inv X pins σ H4 { s4 with heap := s4.heap.push { cls := .type "slice", data := .fields #[Value.none, Value.none, Value.int (-1) ti] } } := I4.kept (t' := s4.toks) fun b ob q => Heap.get?_push_of_some _ q
  obtain ⟨its, r, ht, hz⟩ := I5.tuple hx
  have hlen := r.length
  show wpAny (model X.prog X.w) X.A (subscriptTail e (.Slice none none (some (.UnaryOp .USub (.Constant (.int 1) k p1) p2)) p3) (.ref a) (.ref s4.heap.objs.size)) (EP X pins σ Q) X.xe { s4 with heap := s4.heap.push { cls := .type "slice", data := .fields #[Value.none, Value.none, Value.int (-1) ti] } }
  refine tail_any (ops := [.ref a, .ref s4.heap.objs.size]) ht.typeIs (PyProof.Rows.slot_tuple_getitem.lookup) ?_ (by with_unfolding_all rfl)
  refine getItem_tuple_back ht (Heap.IsSliceOf.new _ Value.none Value.none (Value.int (-1) ti)) ?_ (by rw [← hlen]; exact hz)
  refine ⟨.ref _, _, I5.laid (t' := s4.toks) (o := .tup xs.reverse) (fun b ob q => Heap.get?_push_of_some _ q) (Nat.le_refl _) ?_, rfl, q _ (I5.hok.fresh (Nat.le_refl _))⟩
  exact ⟨by rw [List.length_reverse]; exact hz, _, r.reverse, IsTup.new _ _⟩
end

/-! ### xs[:-m-1:-1] of a list: the last m, the last one first -/
def tBackL (K : PySem.W.Frag) (te tu : TE) : TE := fun σ H Q => te σ H fun x H1 => tPart tu σ H1 fun o H2 => ∃ (a : Addr) (xs : List V) (m : Nat), x = .ref a ∧ o = some (-(m : Int) - 1) ∧ SqL K H2 a xs ∧ m ≤ xs.length ∧ ∀ p, H2 p = none → Q (.ref p) (upd H2 p (.lst (xs.drop (xs.length - m)).reverse))
theorem back_bounds (n m : Nat) (h : m ≤ n) : sliceBounds none (some (-(m : Int) - 1)) (some (-1)) n = ((n : Int) - 1, (n : Int) - m - 1, -1) := by
  have h1 : -(m : Int) - 1 < 0 := by omega
  have h2 : ¬ ((-1 : Int) > 0) := by decide
  simp only [sliceBounds, Option.getD_some, h1, h2, if_true, if_false]
  have e : max (-1) (min (-(m : Int) - 1 + n) ((n : Int) - 1)) = (n : Int) - m - 1 := by omega
  rw [e]
theorem back_range (n m : Nat) (h : m ≤ n) : sliceRange ((n : Int) - 1) ((n : Int) - m - 1) (-1) = (List.range m).map fun k => n - 1 - k := by
  unfold sliceRange
  have h1 : ¬ ((-1 : Int) > 0) := by decide
  by_cases hm : (n : Int) - 1 > (n : Int) - m - 1
  · have e : ((n : Int) - 1 - ((n : Int) - m - 1) - -1 - 1) / (- -1) = (m : Int) := by
      rw [show (- -1 : Int) = 1 by decide, Int.ediv_one]
      omega
    simp only [h1, if_false, hm, if_true, e, Int.toNat_natCast]
    apply List.map_congr_left
    intro k hk
    have := List.mem_range.mp hk
    omega
  · have e : m = 0 := by omega
    subst e
    simp
theorem back_pick (xs : List Value) (m : Nat) (h : m ≤ xs.length) : slicePick xs.toArray none (some (-(m : Int) - 1)) (some (-1)) = ((xs.drop (xs.length - m)).reverse).toArray := by
  unfold slicePick
  rw [List.size_toArray, back_bounds _ _ h]
  show ((sliceRange ((xs.length : Int) - 1) ((xs.length : Int) - m - 1) (-1)).filterMap (xs.toArray[·]?)).toArray = _
  rw [back_range _ _ h]
  apply congrArg List.toArray
  rw [List.filterMap_map]
  have key : ∀ j : Nat, j ≤ xs.length → ((List.range j).filterMap fun (k : Nat) => xs[xs.length - 1 - k]?) = xs.reverse.take j := by
    intro j
    induction j with
    | zero => intro _; simp
    | succ j ih =>
      intro hm
      rw [List.range_succ, List.filterMap_append, ih (by omega), List.take_add_one]
      congr 1
      have hlt : xs.length - 1 - j < xs.length := by omega
      rw [List.getElem?_reverse (by omega)]
      simp [List.getElem?_eq_getElem hlt]
  have e : ((fun x : Nat => xs.toArray[x]?) ∘ fun k => xs.length - 1 - k) = fun k => xs[xs.length - 1 - k]? := by
    funext k
    simp
  rw [e, key m h, List.take_reverse]
section
variable {X : Cx}
theorem pe_backL {e u : Expr} {te tu : TE} {k : Nat} {p1 p2 p3 pos : Pos} (he : PE X e te) (hu : PE X u tu) : PE X (.Subscript e (.Slice none (some u) (some (.UnaryOp .USub (.Constant (.int 1) k p1) p2)) p3) pos) (tBackL X.K te tu) := by
  refine ⟨fun pins s σ H Q I h => ?_⟩
  refine Subscript_ (thn (he.run pins s σ H _ I h) fun v s1 ⟨x, H1, I1, r1, q1⟩ => ?_)
  have hup : PO X (some u) (tPart tu) := po_some hu
  have hst : PO X (some (.UnaryOp .USub (.Constant (.int 1) k p1) p2)) (tPart (tUn (rU fun i => .int (-i)) (tC (.int 1)))) := po_some (pe_un un_neg pe_int)
  refine wpAny_Slice (thn (po_none.run pins s1 σ H1 (fun o H2 => o = none ∧ H2 = H1) I1 ⟨rfl, rfl⟩) fun vl s2 ⟨l, H2, I2, pl, el, e2⟩ => ?_)
  subst el e2
  refine thn (hup.run pins s2 σ H2 (fun o H3 => ∃ (a : Addr) (xs : List V) (m : Nat), x = .ref a ∧ o = some (-(m : Int) - 1) ∧ SqL X.K H3 a xs ∧ m ≤ xs.length ∧ ∀ p, H3 p = none → Q (.ref p) (upd H3 p (.lst (xs.drop (xs.length - m)).reverse))) I2 q1) fun vu s3 ⟨u', H3, I3, pu, qu⟩ => ?_
  obtain ⟨a, xs, m, ex, eu, hx, hm, q⟩ := qu
  subst ex eu
  refine thn (hst.run pins s3 σ H3 (fun o H4 => o = some (-1) ∧ H4 = H3) I3 ⟨1, rfl, -1, rfl, rfl, rfl⟩) fun vs s4 ⟨o, H4, I4, ps, eo, e4⟩ => ?_
  subst eo e4
  cases r1
  have I5 : Inv X pins σ H4 { s4 with heap := s4.heap.push { cls := .type "slice", data := .fields #[vl, vu, vs] } } := I4.kept (t' := s4.toks) fun b ob q => Heap.get?_push_of_some _ q
  obtain ⟨its, r, ht, hz⟩ := I5.list hx
  have hlen := r.length
  show wpAny (model X.prog X.w) X.A (subscriptTail e (.Slice none (some u) (some (.UnaryOp .USub (.Constant (.int 1) k p1) p2)) p3) (.ref a) (.ref s4.heap.objs.size)) (EP X pins σ Q) X.xe { s4 with heap := s4.heap.push { cls := .type "slice", data := .fields #[vl, vu, vs] } }
  refine tail_any (ops := [.ref a, .ref s4.heap.objs.size]) ht.isList.typeIs (PySem.slot_list_getitem.lookup) ?_ (by with_unfolding_all rfl)
  refine wpAny_getItem_list_slice ht.isList (Heap.IsSliceOf.new _ vl vu vs) pl pu ps (by decide) ?_ (by rw [List.size_toArray]; omega)
  rw [back_pick its m (by omega)]
  refine ⟨.ref _, _, I5.laid (t' := s4.toks) (o := .lst (xs.drop (xs.length - m)).reverse) (fun b ob q => Heap.get?_push_of_some _ q) (Nat.le_refl _) ?_, rfl, q _ (I5.hok.fresh (Nat.le_refl _))⟩
  refine ⟨by rw [List.length_reverse, List.length_drop]; omega, _, 0, ?_, Heap.get?_push_size _ rfl⟩
  rw [hlen]
  exact (r.drop _).reverse
end

/-! ### del xs[-m:] of a list, 1 ≤ m -/
def sel (start stop step : Int) (i : Nat) : Bool :=
  if step > 0 then start ≤ i && i < stop && (i - start) % step == 0
  else stop < i && i ≤ start && (start - i) % (-step) == 0
theorem del_bounds (n m : Nat) (h : m ≤ n) (h1 : 1 ≤ m) : sliceBounds (some (-(m : Int))) none none n = ((n : Int) - m, (n : Int), 1) := by
  have h2 : -(m : Int) < 0 := by omega
  have h3 : (1 : Int) > 0 := by decide
  simp only [sliceBounds, Option.getD_none, h2, h3, if_true]
  have e : max 0 (min (-(m : Int) + n) (n : Int)) = (n : Int) - m := by omega
  rw [e]
theorem del_keep (n m : Nat) (h : m ≤ n) (xs : List Value) : ∀ k : Nat, k + xs.length = n →
    ((xs.zipIdx k).filterMap fun (p : Value × Nat) => if sel ((n : Int) - m) (n : Int) 1 p.2 then none else some p.1) = xs.take (n - m - k) := by
  induction xs with
  | nil => intro k _; simp
  | cons x r ih =>
    intro k hk
    rw [List.length_cons] at hk
    rw [List.zipIdx_cons, List.filterMap_cons]
    have hs : sel ((n : Int) - m) (n : Int) 1 k = decide (n - m ≤ k) := by
      unfold sel
      rw [if_pos (by decide), Int.emod_one]
      by_cases q : n - m ≤ k
      · have q1 : (n : Int) - m ≤ (k : Int) := by omega
        have q2 : (k : Int) < (n : Int) := by omega
        simp [q, q1, q2]
      · have q1 : ¬ (n : Int) - m ≤ (k : Int) := by omega
        simp [q, q1]
    have i2 := ih (k + 1) (by omega)
    rw [i2]
    dsimp only
    rw [hs]
    by_cases q : n - m ≤ k
    · rw [if_pos (by simpa using q)]
      have e1 : n - m - (k + 1) = 0 := by omega
      have e2 : n - m - k = 0 := by omega
      rw [e1, e2]
      simp
    · rw [if_neg (by simpa using q)]
      have e1 : n - m - k = (n - m - (k + 1)) + 1 := by omega
      rw [e1, List.take_succ_cons]
section
variable {prog : Program} {w : World} {A : Around} {E : Value → Shared → Prop} {s : Shared}
theorem delItem_tail {l sl : Addr} {its : List Value} {n m : Nat} {ti : Tok} {Q : Unit → Shared → Prop}
    (e : s.heap.get? l = some { cls := .type "list", data := .seq its.toArray n }) (hs : s.heap.IsSliceOf sl (.int (-(m : Int)) ti) .none .none) (h1 : 1 ≤ m) (hm : m ≤ its.length) (hsz : its.length ≤ sizeLine)
    (h : ∀ f : Array Value → Array Value, f its.toArray = (its.take (its.length - m)).toArray → Q () { s with heap := s.heap.update l (Obj.mapSeq f) }) :
    wpAny (model prog w) A (delItem (.ref l) (.ref sl)) Q E s := by
  have hl : s.heap.IsList l its.toArray := PySem.IsL.isList e
  obtain ⟨os, hos, hcs, hds⟩ := id hs
  have hTs : s.TypeIs (.ref sl) "slice" := ⟨os, hos, hcs⟩
  have hstep : ¬ ((rawPart none == rawInt 0) = true) := Bool.false_ne_true
  refine wpAny_delItem_slot hl.typeIs (by decide) PySem.F.slot_list_delitem
    (wpAny_call_entry PySem.F.slot_list_delitem hl.typeIs PySem.F.entry_list_delitem ?_ (PySem.F.args_list_delitem_2 _ _))
  show wpAny _ _ (Builtin.List.listSubscript? (.ref sl) >>= _) _ _ s
  refine wpAny_bind ?_
  unfold Builtin.List.listSubscript?
  refine wpAny_bind (wpAny_specialOf hTs slice_no_index ?_)
  simp only [Option.isNone_none, if_true]
  refine wpAny_pure ?_
  show wpAny _ _ (typeOf (.ref sl) >>= _) _ _ s
  refine wpAny_bind (wpAny_typeOf hTs ?_)
  first
    | rw [if_neg (by decide)]
    | refine PySem.W.KFB.if_not (by decide) ?_
  rw [listSliceParts_eq]
  refine wpAny_bind (wpAny_bind (wpAny_field hos hds (x := .none) rfl (wpAny_bind (wpAny_listPart .none ?_))))
  rw [if_neg hstep]
  refine wpAny_bind (wpAny_field hos hds (x := .int (-(m : Int)) ti) rfl (wpAny_bind (wpAny_listPart (.int (-(m : Int)) ti) ?_)))
  refine wpAny_bind (wpAny_field hos hds (x := .none) rfl (wpAny_bind (wpAny_listPart .none (wpAny_pure ?_))))
  unfold Builtin.List.listItems
  refine wpAny_bind (wpAny_bind (wpAny_seqItems e rfl (wpAny_pure ?_)))
  refine wpAny_bind (wpAny_of_eq ((sliceIndices_raw (some (-(m : Int))) none none its.toArray.size (by simp)).trans (congrArg (pure : Int × Int × Int → Sem (Int × Int × Int)) (show sliceBounds (some (-(m : Int))) none none its.toArray.size = ((its.length : Int) - m, (its.length : Int), 1) from del_bounds its.length m hm h1))) ?_)
  refine wpAny_bind (wpAny_rule ?_)
  have hf := congrArg List.toArray (del_keep its.length m hm its 0 (Nat.zero_add _))
  rw [Nat.sub_zero] at hf
  show wpAny _ _ (updateSeq l (fun xs : Array Value => (xs.toList.zipIdx.filterMap fun (p : Value × Nat) => if sel ((its.length : Int) - m) (its.length : Int) 1 p.2 then none else some p.1).toArray) >>= _) _ _ s
  have hf' : (fun xs : Array Value => (xs.toList.zipIdx.filterMap fun (p : Value × Nat) => if sel ((its.length : Int) - m) (its.length : Int) 1 p.2 then none else some p.1).toArray) its.toArray = (its.take (its.length - m)).toArray := hf
  have hz2 : ((fun xs : Array Value => (xs.toList.zipIdx.filterMap fun (p : Value × Nat) => if sel ((its.length : Int) - m) (its.length : Int) 1 p.2 then none else some p.1).toArray) its.toArray).size ≤ sizeLine + 1 := by
    rw [hf', List.size_toArray, List.length_take]
    omega
  refine wpAny_bind (wpAny_updateSeq (hz := by rw [List.size_toArray]; exact hsz) (_hz' := hz2) e rfl ?_)
  refine wpAny_bind (wpAny_letGo ?_)
  have k := h (fun xs : Array Value => (xs.toList.zipIdx.filterMap fun (p : Value × Nat) => if sel ((its.length : Int) - m) (its.length : Int) 1 p.2 then none else some p.1).toArray) hf'
  first
    | exact wpAny_bind (wpAny_pure (wpAny_pure ⟨.none, rfl, k⟩))
    | exact wpAny_pure ⟨.none, rfl, k⟩
end
def tDelTail (te tu : TE) : TS := fun D σ H => te σ H fun x H1 => tPart tu σ H1 fun o H2 => ∃ (l : Addr) (xs : List V) (m : Nat), x = .ref l ∧ o = some (-(m : Int)) ∧ H2 l = some (.lst xs) ∧ 1 ≤ m ∧ m ≤ xs.length ∧ D.nx σ (upd H2 l (.lst (xs.take (xs.length - m))))
section
variable {X : Cx}
theorem ps_delTail {e u : Expr} {te tu : TE} {p3 tpos pos : Pos} (he : PE X e te) (hu : PE X u tu) : PS X (.Delete [.Subscript e (.Slice (some u) none none p3) tpos] pos) (tDelTail te tu) := by
  refine ⟨fun pins s σ H D I h => ?_⟩
  refine wpAny_Delete (wpAny_deleteEach_cons (wpAny_delete_Subscript (thn (he.run pins s σ H _ I h) fun v s1 ⟨x, H1, I1, r1, q1⟩ => ?_)))
  have hup : PO X (some u) (tPart tu) := po_some hu
  refine wpAny_Slice (thn (hup.run pins s1 σ H1 (fun o H2 => ∃ (l : Addr) (xs : List V) (m : Nat), x = .ref l ∧ o = some (-(m : Int)) ∧ H2 l = some (.lst xs) ∧ 1 ≤ m ∧ m ≤ xs.length ∧ D.nx σ (upd H2 l (.lst (xs.take (xs.length - m))))) I1 q1) fun vl s2 ⟨o, H2, I2, pl, q2⟩ => ?_)
  obtain ⟨l, xs, m, ex, eo, hH, h1, hm, q⟩ := q2
  subst ex eo
  cases r1
  rw [evalPart_none]
  refine wpAny_pure ?_
  refine wpAny_pure ?_
  obtain ⟨i, ti, rfl, ei⟩ : ∃ i ti, vl = Value.int i ti ∧ i = -(m : Int) := by
    cases pl
    exact ⟨_, _, rfl, rfl⟩
  subst ei
  have I5 : Inv X pins σ H2 { s2 with heap := s2.heap.push { cls := .type "slice", data := .fields #[.int (-(m : Int)) ti, Value.none, Value.none] } } := I2.kept (t' := s2.toks) fun b ob q => Heap.get?_push_of_some _ q
  obtain ⟨z, its, n, r, hl, e5⟩ := I5.lstM hH
  refine delItem_tail e5 (Heap.IsSliceOf.new _ (.int (-(m : Int)) ti) Value.none Value.none) h1 (by omega) (by omega) fun f hf => wpAny_deleteEach_nil ⟨σ, _, ?_, q⟩
  refine I5.lset (its' := its.take (its.length - m)) (t' := s2.toks) hH e5 hf ?_ (by rw [List.length_take]; omega)
  rw [hl]
  exact r.take _
end

/-! ### xs.extend(a tuple) -/
section
open AutoSeq1
theorem list_extend_tupW (l : Addr) (items : Array Value) (n : Nat) (b : Addr) (items2 : Array Value) (n2 : Nat) (dd : Option Addr) (sl : Array (Option Value)) (hs0 : ¬(!items.isEmpty && Builtin.List.listTooLong (items.size + items2.size)) = true) (hs1 : items.size ≤ sizeLine) (hs2 : items.size + items2.size ≤ sizeLine + 1) :
    Meets (Builtin.«list.extend» ⟨[.ref l, .ref b], []⟩) (fun _ R s => s.heap.get? l = some { cls := .type "list", dict := none, data := .seq items n, slots := #[] } ∧ s.heap.get? b = some { cls := .type "tuple", dict := dd, data := .seq items2 n2, slots := sl } ∧ R (.ok (.ret Value.none)) { s with heap := s.heap.update l (Obj.mapSeq fun x => x ++ items2), toks := s.toks }) :=
  .of_wp fun prog w A R s h => by
    obtain ⟨hp, g, d, tk, os⟩ := s; obtain ⟨hl, hb, h⟩ := h; have f1 := AutoSeq1.idx_int; have f2 := AutoSeq1.sub_tuple_tuple; have f3 := AutoSeq1.sub_list_list; have f4 := AutoSeq1.sub_tuple_list; have f5 := AutoSeq1.sub_list_tuple;
    have hz' : (items ++ items2).size ≤ sizeLine + 1 := by rw [Array.size_append]; exact hs2
    wp_walk using (wpAny_updateSeq hl rfl (hz := hs1) (_hz' := hz')), wpAny_loadPart' hl, wpAny_loadPart' hb; exact ⟨_, rfl, h⟩
end
def rExtT (K : PySem.W.Frag) : V → List V → Hp → VK → Prop := fun x vs H Q => ∃ l b xs zs, x = .ref l ∧ vs = [.ref b] ∧ H l = some (.lst xs) ∧ SqT K H b zs ∧ xs.length + zs.length ≤ sizeLine ∧ Q .non (upd H l (.lst (xs ++ zs)))
section
variable {X : Cx}
theorem mt_extT : MtR X "list.extend" (rExtT X.K) := by
  intro pins s σ H x vs v us Q I rx rv h
  obtain ⟨l, b, xs, zs, rfl, rfl, hH, hB, hz, q⟩ := h
  cases rx
  obtain ⟨u, rfl, ru⟩ := rv.one
  cases ru
  obtain ⟨z, its, n, r, hl, e⟩ := I.lstM hH
  obtain ⟨its2, r2, ⟨⟨oc, od, dt, sl⟩, e2, c2, n2, d2⟩, z2⟩ := I.tuple hB
  simp only at c2 d2
  subst c2 d2
  have hl2 := r2.length
  have hsz : its.toArray.size + its2.toArray.size ≤ sizeLine := by rw [List.size_toArray, List.size_toArray]; omega
  have hlong : ¬ (!its.toArray.isEmpty && Builtin.List.listTooLong (its.toArray.size + its2.toArray.size)) = true := by
    rw [notLongL hsz, Bool.and_false]
    exact Bool.false_ne_true
  refine call_meets PySem.F.slot_list_extend ⟨_, e, rfl⟩ PySem.F.entry_list_extend (PySem.F.args_list_extend_2 _ _)
    (list_extend_tupW l its.toArray n b its2.toArray n2 od sl hlong (by rw [List.size_toArray]; omega) (by omega)) ⟨e, e2, ?_⟩
  refine ⟨.non, _, I.lset (its' := its ++ its2) (t' := s.toks) hH e (by simp) (r.append r2) ?_, rfl, q⟩
  rw [List.length_append]
  omega
end
end Hm

set_option Elab.async false
set_option linter.all false
set_option maxRecDepth 100000
set_option maxHeartbeats 4000000
namespace Hm
open PySem PySem.Spec PyProof.Rows L2 HT

/-! ## terms, told in Lean -/
inductive Tm where
  | var (k : Int)
  | int (i : Int)
  | atom (s : Str)
  | comp (f : Str) (as : List Tm)

def Tm.args : Tm → List Tm
  | .comp _ as => as
  | _ => []
mutual
def size : Tm → Nat
  | .comp _ as => 1 + sizes as
  | _ => 1
def sizes : List Tm → Nat
  | [] => 0
  | t :: ts => size t + sizes ts
end
mutual
def depth : Tm → Nat
  | .comp _ as => 1 + depths as
  | _ => 1
def depths : List Tm → Nat
  | [] => 0
  | t :: ts => max (depth t) (depths ts)
end
mutual
/-- the parts, each ahead of its arguments -/
def pre : Tm → List Tm
  | .var k => [.var k]
  | .int i => [.int i]
  | .atom s => [.atom s]
  | .comp f as => .comp f as :: pres as
def pres : List Tm → List Tm
  | [] => []
  | t :: ts => pre t ++ pres ts
end
mutual
/-- variables replaced, all at once -/
def sub (g : Int → Tm) : Tm → Tm
  | .var k => g k
  | .int i => .int i
  | .atom s => .atom s
  | .comp f as => .comp f (subs g as)
def subs (g : Int → Tm) : List Tm → List Tm
  | [] => []
  | t :: ts => sub g t :: subs g ts
end
def AtomOk (s : Str) : Prop := s.cps.size ≤ 40 ∧ ∀ c ∈ s.cps.toList, 32 ≤ c ∧ c ≤ 126 ∧ c ≠ 37
def tooGreat : Int := (10 ^ 60) ^ 5
mutual
/-- a term as the document tells it -/
def Ok : Tm → Prop
  | .var k => 0 ≤ k
  | .int i => -tooGreat < i ∧ i < tooGreat
  | .atom s => AtomOk s
  | .comp f as => AtomOk f ∧ 1 ≤ as.length ∧ as.length ≤ 8 ∧ Oks as
def Oks : List Tm → Prop
  | [] => True
  | t :: ts => Ok t ∧ Oks ts
end

theorem sizes_cons (t : Tm) (ts : List Tm) : sizes (t :: ts) = size t + sizes ts := by rw [sizes]
theorem depths_cons (t : Tm) (ts : List Tm) : depths (t :: ts) = max (depth t) (depths ts) := by rw [depths]
theorem pres_cons (t : Tm) (ts : List Tm) : pres (t :: ts) = pre t ++ pres ts := by rw [pres]
theorem oks_cons (t : Tm) (ts : List Tm) : Oks (t :: ts) = (Ok t ∧ Oks ts) := by rw [Oks]
theorem size_pos : ∀ t : Tm, 1 ≤ size t
  | .var _ => Nat.le_refl _
  | .int _ => Nat.le_refl _
  | .atom _ => Nat.le_refl _
  | .comp _ as => by unfold size; omega
theorem sizes_app : ∀ xs ys : List Tm, sizes (xs ++ ys) = sizes xs + sizes ys
  | [], ys => by show sizes ys = sizes [] + sizes ys; unfold sizes; omega
  | x :: xs, ys => by
    show sizes (x :: (xs ++ ys)) = _
    rw [sizes_cons, sizes_cons, sizes_app xs ys]
    omega
theorem sizes_rev : ∀ xs : List Tm, sizes xs.reverse = sizes xs
  | [] => rfl
  | x :: xs => by
    rw [List.reverse_cons, sizes_app, sizes_rev xs, sizes_cons x xs]
    have : sizes [x] = size x := by simp [sizes]
    omega
theorem sizes_one (t : Tm) : sizes [t] = size t := by simp [sizes]
theorem size_eq : ∀ t : Tm, size t = 1 + sizes t.args
  | .var _ => by simp [size, Tm.args, sizes]
  | .int _ => by simp [size, Tm.args, sizes]
  | .atom _ => by simp [size, Tm.args, sizes]
  | .comp _ as => by simp [size, Tm.args]
theorem len_sizes : ∀ ts : List Tm, ts.length ≤ sizes ts
  | [] => Nat.zero_le _
  | t :: ts => by
    have h1 := size_pos t
    have h2 := len_sizes ts
    rw [List.length_cons]
    unfold sizes
    omega
theorem pre_eq : ∀ t : Tm, pre t = t :: pres t.args
  | .var _ => by simp [pre, Tm.args, pres]
  | .int _ => by simp [pre, Tm.args, pres]
  | .atom _ => by simp [pre, Tm.args, pres]
  | .comp _ as => by simp [pre, Tm.args]
theorem pres_app : ∀ xs ys : List Tm, pres (xs ++ ys) = pres xs ++ pres ys
  | [], ys => by simp [pres]
  | x :: xs, ys => by
    show pres (x :: (xs ++ ys)) = _
    rw [pres_cons, pres_cons, pres_app xs ys, List.append_assoc]
mutual
theorem len_pre : ∀ t : Tm, (pre t).length = size t
  | .var _ => rfl
  | .int _ => rfl
  | .atom _ => rfl
  | .comp f as => by
    unfold pre size
    rw [List.length_cons, len_pres as]
    omega
theorem len_pres : ∀ ts : List Tm, (pres ts).length = sizes ts
  | [] => rfl
  | t :: ts => by
    unfold pres sizes
    rw [List.length_append, len_pre t, len_pres ts]
end
theorem oks_app : ∀ {xs ys : List Tm}, Oks (xs ++ ys) ↔ Oks xs ∧ Oks ys
  | [], ys => by simp [Oks]
  | x :: xs, ys => by
    show Oks (x :: (xs ++ ys)) ↔ _
    rw [oks_cons, oks_cons, oks_app (xs := xs) (ys := ys)]
    constructor
    · rintro ⟨a, b, c⟩; exact ⟨⟨a, b⟩, c⟩
    · rintro ⟨⟨a, b⟩, c⟩; exact ⟨a, b, c⟩
theorem ok_args : ∀ {t : Tm}, Ok t → Oks t.args
  | .var _, _ => trivial
  | .int _, _ => trivial
  | .atom _, _ => trivial
  | .comp _ _, h => by unfold Ok at h; exact h.2.2.2
theorem depths_app : ∀ xs ys : List Tm, depths (xs ++ ys) = max (depths xs) (depths ys)
  | [], ys => by simp [depths]
  | x :: xs, ys => by
    show depths (x :: (xs ++ ys)) = _
    rw [depths_cons, depths_cons, depths_app xs ys]
    omega
theorem depth_eq : ∀ t : Tm, depth t = 1 + depths t.args
  | .var _ => by simp [depth, Tm.args, depths]
  | .int _ => by simp [depth, Tm.args, depths]
  | .atom _ => by simp [depth, Tm.args, depths]
  | .comp _ as => by simp [depth, Tm.args]
/-- the next layer -/
def layer (ts : List Tm) : List Tm := ts.flatMap Tm.args
theorem depths_layer : ∀ t ts, depths (t :: ts) = 1 + depths (layer (t :: ts))
  | t, [] => by
    unfold layer
    simp [depths, depth_eq]
  | t, u :: us => by
    have ih := depths_layer u us
    unfold layer at ih ⊢
    rw [List.flatMap_cons, depths_app]
    show max (depth t) (depths (u :: us)) = _
    rw [ih, depth_eq]
    omega
theorem sizes_layer : ∀ ts, sizes (layer ts) + ts.length = sizes ts
  | [] => rfl
  | t :: ts => by
    have ih := sizes_layer ts
    unfold layer at ih ⊢
    rw [List.flatMap_cons, sizes_app, List.length_cons, sizes_cons, size_eq t]
    omega

/-! ## variables, by first occurrence -/
def addNew (acc : List Int) (k : Int) : List Int := if k ∈ acc then acc else acc ++ [k]
def stepVar (acc : List Int) : Tm → List Int
  | .var k => addNew acc k
  | _ => acc
def varsOf (t : Tm) : List Int := (pre t).foldl stepVar []
theorem addNew_nodup {acc : List Int} {k : Int} (h : acc.Nodup) : (addNew acc k).Nodup := by
  unfold addNew
  by_cases q : k ∈ acc
  · rw [if_pos q]; exact h
  · rw [if_neg q, List.nodup_append]
    exact ⟨h, by simp, fun a ha b hb e => by
      simp only [List.mem_singleton] at hb
      subst hb
      subst e
      exact q ha⟩
theorem addNew_len (acc : List Int) (k : Int) : (addNew acc k).length ≤ acc.length + 1 := by
  unfold addNew
  split
  · omega
  · rw [List.length_append, List.length_singleton]; omega
theorem stepVar_nodup {acc : List Int} {t : Tm} (h : acc.Nodup) : (stepVar acc t).Nodup := by
  cases t <;> first | exact addNew_nodup h | exact h
theorem stepVar_len (acc : List Int) (t : Tm) : (stepVar acc t).length ≤ acc.length + 1 := by
  cases t <;> first | exact addNew_len acc _ | exact Nat.le_succ _
theorem fold_nodup : ∀ (ts : List Tm) {acc : List Int}, acc.Nodup → (ts.foldl stepVar acc).Nodup
  | [], _, h => h
  | t :: ts, _, h => fold_nodup ts (stepVar_nodup h)
theorem fold_len : ∀ (ts : List Tm) (acc : List Int), (ts.foldl stepVar acc).length ≤ acc.length + ts.length
  | [], _ => Nat.le_refl _
  | t :: ts, acc => by
    have h := fold_len ts (stepVar acc t)
    have h2 := stepVar_len acc t
    rw [List.foldl_cons, List.length_cons]
    omega
theorem varsOf_nodup (t : Tm) : (varsOf t).Nodup := fold_nodup _ List.nodup_nil
theorem varsOf_len (t : Tm) : (varsOf t).length ≤ size t := by
  have h := fold_len (pre t) []
  rw [len_pre, List.length_nil, Nat.zero_add] at h
  exact h

/-! ## rows, and what folding them gives -/
inductive Rw where
  | leaf (t : Tm)
  | node (f : Str) (n : Nat)
mutual
def rowOf (g : Int → Tm) : Tm → List Rw
  | .var k => [.leaf (g k)]
  | .int i => [.leaf (.int i)]
  | .atom s => [.leaf (.atom s)]
  | .comp f as => .node f as.length :: rowsOf g as
def rowsOf (g : Int → Tm) : List Tm → List Rw
  | [] => []
  | t :: ts => rowOf g t ++ rowsOf g ts
end
def rw1 (g : Int → Tm) : Tm → Rw
  | .var k => .leaf (g k)
  | .int i => .leaf (.int i)
  | .atom s => .leaf (.atom s)
  | .comp f as => .node f as.length
mutual
theorem row_pre (g : Int → Tm) : ∀ t : Tm, (pre t).map (rw1 g) = rowOf g t
  | .var _ => rfl
  | .int _ => rfl
  | .atom _ => rfl
  | .comp f as => by
    unfold pre rowOf
    rw [List.map_cons, row_pres g as]
    rfl
theorem row_pres (g : Int → Tm) : ∀ ts : List Tm, (pres ts).map (rw1 g) = rowsOf g ts
  | [] => rfl
  | t :: ts => by
    unfold pres rowsOf
    rw [List.map_append, row_pre g t, row_pres g ts]
end
/-- one turn of folding: the stack has its top at its end -/
def turn (r : Rw) (D : List Tm) : List Tm :=
  match r with
  | .leaf t => D ++ [t]
  | .node f n => D.take (D.length - n) ++ [.comp f (D.drop (D.length - n)).reverse]
theorem subs_len (g : Int → Tm) : ∀ ts : List Tm, (subs g ts).length = ts.length
  | [] => rfl
  | t :: ts => by
    unfold subs
    rw [List.length_cons, List.length_cons, subs_len g ts]
mutual
theorem fold_row (g : Int → Tm) : ∀ (t : Tm) (D : List Tm), (rowOf g t).foldr turn D = D ++ [sub g t]
  | .var _, _ => rfl
  | .int _, _ => rfl
  | .atom _, _ => rfl
  | .comp f as, D => by
    unfold rowOf sub
    rw [List.foldr_cons, fold_rows g as D]
    unfold turn
    have hl : (D ++ (subs g as).reverse).length - as.length = D.length := by
      rw [List.length_append, List.length_reverse, subs_len]
      omega
    dsimp only
    rw [hl, List.take_left' rfl, List.drop_left' rfl, List.reverse_reverse]
theorem fold_rows (g : Int → Tm) : ∀ (ts : List Tm) (D : List Tm), (rowsOf g ts).foldr turn D = D ++ (subs g ts).reverse
  | [], D => by simp [rowsOf, subs]
  | t :: ts, D => by
    unfold rowsOf subs
    rw [List.foldr_append, fold_rows g ts D, fold_row g t, List.reverse_cons, List.append_assoc]
end
/-- each node of a row finds its arguments on the stack -/
def Rooms : List Rw → List Tm → Prop
  | [], _ => True
  | r :: rs, D => Rooms rs D ∧ (match r with
    | .leaf _ => True
    | .node _ n => 1 ≤ n ∧ n ≤ (rs.foldr turn D).length)
theorem rooms_cons (r : Rw) (rs : List Rw) (D : List Tm) : Rooms (r :: rs) D = (Rooms rs D ∧ (match r with
    | .leaf _ => True
    | .node _ n => 1 ≤ n ∧ n ≤ (rs.foldr turn D).length)) := by
  cases r <;> rfl
theorem rooms_app : ∀ {xs ys : List Rw} {D : List Tm}, Rooms (xs ++ ys) D ↔ Rooms ys D ∧ Rooms xs (ys.foldr turn D)
  | [], ys, D => by simp [Rooms]
  | x :: xs, ys, D => by
    show Rooms (x :: (xs ++ ys)) D ↔ _
    rw [rooms_cons, rooms_cons, rooms_app (xs := xs) (ys := ys), List.foldr_append]
    constructor
    · rintro ⟨⟨a, b⟩, c⟩; exact ⟨a, b, c⟩
    · rintro ⟨a, b, c⟩; exact ⟨⟨a, b⟩, c⟩
mutual
theorem rooms_row (g : Int → Tm) : ∀ (t : Tm) (D : List Tm), Ok t → Rooms (rowOf g t) D
  | .var _, _, _ => ⟨trivial, trivial⟩
  | .int _, _, _ => ⟨trivial, trivial⟩
  | .atom _, _, _ => ⟨trivial, trivial⟩
  | .comp f as, D, h => by
    unfold Ok at h
    unfold rowOf
    refine ⟨rooms_rows g as D h.2.2.2, h.2.1, ?_⟩
    rw [fold_rows g as D, List.length_append, List.length_reverse, subs_len]
    omega
theorem rooms_rows (g : Int → Tm) : ∀ (ts : List Tm) (D : List Tm), Oks ts → Rooms (rowsOf g ts) D
  | [], _, _ => trivial
  | t :: ts, D, h => by
    unfold Oks at h
    unfold rowsOf
    exact rooms_app.mpr ⟨rooms_rows g ts D h.2, rooms_row g t _ h.1⟩
end

/-! ## how a heap bears a term -/
mutual
def Rep (K : PySem.W.Frag) (H : Hp) : Tm → V → Prop
  | .var k, v => ∃ a, v = .ref a ∧ SqT K H a [.int k]
  | .int i, v => v = .int i
  | .atom s, v => v = .str s
  | .comp f as, v => ∃ a vs, v = .ref a ∧ SqT K H a (.str f :: vs) ∧ Reps K H as vs
def Reps (K : PySem.W.Frag) (H : Hp) : List Tm → List V → Prop
  | [], vs => vs = []
  | t :: ts, vs => ∃ v ws, vs = v :: ws ∧ Rep K H t v ∧ Reps K H ts ws
end
/-- tuples stay -/
def Tups (K : PySem.W.Frag) (H H' : Hp) : Prop := ∀ a xs, SqT K H a xs → SqT K H' a xs
theorem Tups.refl {K : PySem.W.Frag} (H : Hp) : Tups K H H := fun _ _ h => h
theorem Tups.trans {K : PySem.W.Frag} {H H1 H2 : Hp} (a : Tups K H H1) (b : Tups K H1 H2) : Tups K H H2 := fun x xs h => b x xs (a x xs h)
theorem Tups.of {K : PySem.W.Frag} {H H' : Hp} (e : Evl.Ex H H') : Tups K H H' := fun _ _ h => Evl.ex_t e h
/-- a list of H is changed -/
theorem Tups.lst {K : PySem.W.Frag} {H : Hp} {l : Addr} {xs : List V} {o : HO} (h : H l = some (.lst xs)) : Tups K H (upd H l o) := fun a ys q => by
  rcases q with (q | ⟨ob, q⟩) | q
  · exact .inl (.inl (by rw [upd_ne (ne_of q h (by intro z; cases z))]; exact q))
  · exact .inl (.inr ⟨ob, by rw [upd_ne (ne_of q h (by intro z; cases z))]; exact q⟩)
  · exact .inr q
theorem tups_dk {K : PySem.W.Frag} {H : Hp} {l : Addr} {kvs : List (Key × V)} {o : HO} (h : H l = some (.dK kvs)) : Tups K H (upd H l o) := fun a ys q => by
  rcases q with (q | ⟨ob, q⟩) | q
  · exact .inl (.inl (by rw [upd_ne (ne_of q h (by intro z; cases z))]; exact q))
  · exact .inl (.inr ⟨ob, by rw [upd_ne (ne_of q h (by intro z; cases z))]; exact q⟩)
  · exact .inr q
section
variable {K : PySem.W.Frag} {H H' : Hp}
mutual
theorem Rep.mono (e : Tups K H H') : ∀ {t : Tm} {v : V}, Rep K H t v → Rep K H' t v
  | .var k, v, h => by
    unfold Rep at h ⊢
    obtain ⟨a, e1, q⟩ := h
    exact ⟨a, e1, e _ _ q⟩
  | .int i, v, h => by unfold Rep at h ⊢; exact h
  | .atom s, v, h => by unfold Rep at h ⊢; exact h
  | .comp f as, v, h => by
    unfold Rep at h ⊢
    obtain ⟨a, vs, e1, q, r⟩ := h
    exact ⟨a, vs, e1, e _ _ q, Reps.mono e r⟩
theorem Reps.mono (e : Tups K H H') : ∀ {ts : List Tm} {vs : List V}, Reps K H ts vs → Reps K H' ts vs
  | [], vs, h => by unfold Reps at h ⊢; exact h
  | t :: ts, vs, h => by
    unfold Reps at h ⊢
    obtain ⟨v, ws, e1, q, r⟩ := h
    exact ⟨v, ws, e1, Rep.mono e q, Reps.mono e r⟩
end
theorem Reps.nil : Reps K H [] [] := by unfold Reps; rfl
theorem Reps.cons {t : Tm} {ts : List Tm} {v : V} {vs : List V} (h : Rep K H t v) (r : Reps K H ts vs) : Reps K H (t :: ts) (v :: vs) := by
  unfold Reps
  exact ⟨v, vs, rfl, h, r⟩
theorem Reps.one {t : Tm} {v : V} (h : Rep K H t v) : Reps K H [t] [v] := Reps.cons h Reps.nil
theorem Reps.cons_inv {t : Tm} {ts : List Tm} {vs : List V} (h : Reps K H (t :: ts) vs) : ∃ v ws, vs = v :: ws ∧ Rep K H t v ∧ Reps K H ts ws := by
  unfold Reps at h
  exact h
theorem Reps.nil_inv {vs : List V} (h : Reps K H [] vs) : vs = [] := by
  unfold Reps at h
  exact h
theorem Reps.len : ∀ {ts : List Tm} {vs : List V}, Reps K H ts vs → ts.length = vs.length
  | [], vs, h => by rw [h.nil_inv] <;> rfl
  | t :: ts, vs, h => by
    obtain ⟨v, ws, e, _, r⟩ := h.cons_inv
    rw [e, List.length_cons, List.length_cons, Reps.len r]
theorem Reps.app : ∀ {ts us : List Tm} {vs ws : List V}, Reps K H ts vs → Reps K H us ws → Reps K H (ts ++ us) (vs ++ ws)
  | [], us, vs, ws, h, r => by rw [h.nil_inv]; exact r
  | t :: ts, us, vs, ws, h, r => by
    obtain ⟨v, xs, e, q, s⟩ := h.cons_inv
    rw [e]
    exact Reps.cons q (Reps.app s r)
theorem Reps.app_inv : ∀ {ts us : List Tm} {vs : List V}, Reps K H (ts ++ us) vs → ∃ v1 v2, vs = v1 ++ v2 ∧ Reps K H ts v1 ∧ Reps K H us v2
  | [], us, vs, h => ⟨[], vs, rfl, Reps.nil, h⟩
  | t :: ts, us, vs, h => by
    obtain ⟨v, ws, e, q, r⟩ := Reps.cons_inv (ts := ts ++ us) h
    obtain ⟨v1, v2, e2, r1, r2⟩ := Reps.app_inv r
    exact ⟨v :: v1, v2, by rw [e, e2]; rfl, Reps.cons q r1, r2⟩
theorem Reps.rev : ∀ {ts : List Tm} {vs : List V}, Reps K H ts vs → Reps K H ts.reverse vs.reverse
  | [], vs, h => by rw [h.nil_inv]; exact Reps.nil
  | t :: ts, vs, h => by
    obtain ⟨v, ws, e, q, r⟩ := h.cons_inv
    rw [e, List.reverse_cons, List.reverse_cons]
    exact Reps.app (Reps.rev r) (Reps.one q)
theorem Reps.get : ∀ {ts : List Tm} {vs : List V} {i : Nat} {v : V}, Reps K H ts vs → vs[i]? = some v → ∃ t, ts[i]? = some t ∧ Rep K H t v
  | [], vs, i, v, h, e => by rw [h.nil_inv] at e; simp at e
  | t :: ts, vs, i, v, h, e => by
    obtain ⟨w, ws, e1, q, r⟩ := h.cons_inv
    rw [e1] at e
    cases i with
    | zero =>
      have : w = v := by simpa using e
      subst this
      exact ⟨t, rfl, q⟩
    | succ i =>
      obtain ⟨u, h1, h2⟩ := Reps.get (i := i) r (by simpa using e)
      exact ⟨u, by simpa using h1, h2⟩
/-- the last one -/
theorem Reps.last {ts : List Tm} {t : Tm} {vs : List V} (h : Reps K H (ts ++ [t]) vs) : ∃ ws v, vs = ws ++ [v] ∧ Reps K H ts ws ∧ Rep K H t v := by
  obtain ⟨v1, v2, e, r1, r2⟩ := h.app_inv
  obtain ⟨v, ws, e2, q, r⟩ := r2.cons_inv
  rw [r.nil_inv] at e2
  exact ⟨v1, v, by rw [e, e2], r1, q⟩
theorem Reps.take {ts : List Tm} {vs : List V} (h : Reps K H ts vs) (n : Nat) : Reps K H (ts.take n) (vs.take n) := by
  induction n generalizing ts vs with
  | zero => exact Reps.nil
  | succ n ih =>
    cases ts with
    | nil => rw [h.nil_inv]; exact Reps.nil
    | cons t ts =>
      obtain ⟨v, ws, e, q, r⟩ := h.cons_inv
      rw [e, List.take_succ_cons, List.take_succ_cons]
      exact Reps.cons q (ih r)
theorem Reps.drop {ts : List Tm} {vs : List V} (h : Reps K H ts vs) (n : Nat) : Reps K H (ts.drop n) (vs.drop n) := by
  induction n generalizing ts vs with
  | zero => exact h
  | succ n ih =>
    cases ts with
    | nil => rw [h.nil_inv]; exact Reps.nil
    | cons t ts =>
      obtain ⟨v, ws, e, q, r⟩ := h.cons_inv
      rw [e, List.drop_succ_cons, List.drop_succ_cons]
      exact ih r
end
end Hm

set_option Elab.async false
set_option linter.all false
set_option maxRecDepth 100000
set_option maxHeartbeats 1000000
namespace Hm
open PySem PySem.Spec PyProof.Rows L2 HT
theorem oks_get : ∀ {ts : List Tm} {i : Nat} {t : Tm}, Oks ts → ts[i]? = some t → Ok t
  | [], i, _, _, e => by simp at e
  | u :: us, 0, t, h, e => by
    rw [oks_cons] at h
    have : u = t := by simpa using e
    exact this ▸ h.1
  | u :: us, i + 1, t, h, e => by
    rw [oks_cons] at h
    exact oks_get h.2 (by simpa using e)
mutual
theorem ok_pre : ∀ {t : Tm}, Ok t → Oks (pre t)
  | .var _, h => by unfold pre; rw [oks_cons]; exact ⟨h, trivial⟩
  | .int _, h => by unfold pre; rw [oks_cons]; exact ⟨h, trivial⟩
  | .atom _, h => by unfold pre; rw [oks_cons]; exact ⟨h, trivial⟩
  | .comp f as, h => by
    have h2 := h
    unfold Ok at h2
    unfold pre
    rw [oks_cons]
    exact ⟨h, ok_pres h2.2.2.2⟩
theorem ok_pres : ∀ {ts : List Tm}, Oks ts → Oks (pres ts)
  | [], _ => trivial
  | t :: ts, h => by
    rw [oks_cons] at h
    rw [pres_cons]
    exact oks_app.mpr ⟨ok_pre h.1, ok_pres h.2⟩
end
/-! ## comparing: -1, 0, 1 -/
structure Cmpr {α : Type} (c : α → α → Int) : Prop where
  refl : ∀ a, c a a = 0
  eq : ∀ a b, c a b = 0 → a = b
  anti : ∀ a b, c b a = - c a b
  tr : ∀ a b d, c a b ≤ 0 → c b d ≤ 0 → c a d ≤ 0
  ran : ∀ a b, c a b = -1 ∨ c a b = 0 ∨ c a b = 1
def intC (i j : Int) : Int := if i = j then 0 else if i < j then -1 else 1
theorem intC_ok : Cmpr intC := by
  refine ⟨fun a => if_pos rfl, fun a b h => ?_, fun a b => ?_, fun a b d h1 h2 => ?_, fun a b => ?_⟩
  · unfold intC at h
    split at h
    · assumption
    · split at h <;> omega
  · unfold intC
    split <;> split <;> (try split) <;> (try split) <;> omega
  · unfold intC at *
    split at h1 <;> split at h2 <;> (try split at h1) <;> (try split at h2) <;> split <;> (try split) <;> omega
  · unfold intC
    split
    · exact .inr (.inl rfl)
    · split
      · exact .inl rfl
      · exact .inr (.inr rfl)
def lexC {α : Type} (c : α → α → Int) : List α → List α → Int
  | [], [] => 0
  | [], _ :: _ => -1
  | _ :: _, [] => 1
  | x :: xs, y :: ys => if c x y = 0 then lexC c xs ys else c x y
section
variable {α : Type} {c : α → α → Int}
theorem lexC_cons (x y : α) (xs ys : List α) : lexC c (x :: xs) (y :: ys) = if c x y = 0 then lexC c xs ys else c x y := by rw [lexC]
theorem lexC_refl (C : Cmpr c) : ∀ xs : List α, lexC c xs xs = 0
  | [] => rfl
  | x :: xs => by
    rw [lexC_cons, if_pos (C.refl x), lexC_refl C xs]
theorem lexC_eq (C : Cmpr c) : ∀ xs ys : List α, lexC c xs ys = 0 → xs = ys
  | [], [], _ => rfl
  | [], _ :: _, h => by simp [lexC] at h
  | _ :: _, [], h => by simp [lexC] at h
  | x :: xs, y :: ys, h => by
    rw [lexC_cons] at h
    split at h
    · next e => rw [C.eq x y e, lexC_eq C xs ys h]
    · contradiction
theorem lexC_anti (C : Cmpr c) : ∀ xs ys : List α, lexC c ys xs = - lexC c xs ys
  | [], [] => rfl
  | [], _ :: _ => by simp [lexC]
  | _ :: _, [] => by simp [lexC]
  | x :: xs, y :: ys => by
    have a := C.anti x y
    rw [lexC_cons, lexC_cons, lexC_anti C xs ys]
    split <;> split <;> omega
theorem lexC_ran (C : Cmpr c) : ∀ xs ys : List α, lexC c xs ys = -1 ∨ lexC c xs ys = 0 ∨ lexC c xs ys = 1
  | [], [] => .inr (.inl rfl)
  | [], _ :: _ => .inl rfl
  | _ :: _, [] => .inr (.inr rfl)
  | x :: xs, y :: ys => by
    rw [lexC_cons]
    split
    · exact lexC_ran C xs ys
    · exact C.ran x y
theorem lexC_tr (C : Cmpr c) : ∀ xs ys zs : List α, lexC c xs ys ≤ 0 → lexC c ys zs ≤ 0 → lexC c xs zs ≤ 0
  | [], _, [], _, _ => by simp [lexC]
  | [], _, _ :: _, _, _ => by simp [lexC]
  | _ :: _, [], _, h, _ => by simp [lexC] at h
  | _ :: _, _ :: _, [], _, h => by simp [lexC] at h
  | x :: xs, y :: ys, z :: zs, h1, h2 => by
    rw [lexC_cons] at h1 h2 ⊢
    have ran := C.ran x y
    by_cases e1 : c x y = 0
    · rw [if_pos e1] at h1
      have := C.eq x y e1
      subst this
      by_cases e2 : c x z = 0
      · rw [if_pos e2] at h2 ⊢
        exact lexC_tr C xs ys zs h1 h2
      · rw [if_neg e2] at h2 ⊢
        exact h2
    · rw [if_neg e1] at h1
      by_cases e2 : c y z = 0
      · have := C.eq y z e2
        subst this
        rw [if_neg e1]
        exact h1
      · rw [if_neg e2] at h2
        have h3 := C.tr x y z h1 h2
        have h4 : c x z ≠ 0 := fun e => by
          have := C.eq x z e
          subst this
          have := C.anti x y
          omega
        rw [if_neg h4]
        exact h3
theorem lexC_ok (C : Cmpr c) : Cmpr (lexC c) := ⟨lexC_refl C, lexC_eq C, lexC_anti C, lexC_tr C, lexC_ran C⟩
end
/-! ## heads -/
def cpsI (s : Str) : List Int := s.cps.toList.map fun n : Nat => (n : Int)
def sC (a b : Str) : Int := lexC intC (cpsI a) (cpsI b)
theorem natlex : ∀ xs ys : List Nat, lexC intC (xs.map fun n : Nat => (n : Int)) (ys.map fun n : Nat => (n : Int)) = if xs = ys then 0 else if xs < ys then -1 else 1
  | [], [] => by simp [lexC]
  | [], y :: ys => by simp [lexC]
  | x :: xs, [] => by simp [lexC]
  | x :: xs, y :: ys => by
    rw [List.map_cons, List.map_cons, lexC_cons, natlex xs ys]
    unfold intC
    by_cases e : x = y
    · subst e
      rw [if_pos rfl, if_pos rfl]
      by_cases e2 : xs = ys
      · subst e2
        simp
      · have n2 : ¬ x :: xs = x :: ys := fun z => e2 (List.cons.inj z).2
        rw [if_neg e2, if_neg n2]
        by_cases l : xs < ys
        · rw [if_pos l, if_pos (List.cons_lt_cons_iff.mpr (.inr ⟨rfl, l⟩))]
        · rw [if_neg l, if_neg]
          intro z
          rcases List.cons_lt_cons_iff.mp z with z | z
          · omega
          · exact l z.2
    · have e1 : ¬ (x : Int) = (y : Int) := by omega
      have n2 : ¬ x :: xs = y :: ys := fun z => e (List.cons.inj z).1
      rw [if_neg e1, if_neg n2]
      by_cases l : (x : Int) < (y : Int)
      · rw [if_pos l, if_neg (by decide), if_pos (List.cons_lt_cons_iff.mpr (.inl (by omega)))]
      · rw [if_neg l, if_neg (by decide), if_neg]
        intro z
        rcases List.cons_lt_cons_iff.mp z with z | z
        · omega
        · exact e z.1
theorem sC_eq (a b : Str) : sC a b = if a = b then 0 else if a.cps.toList < b.cps.toList then -1 else 1 := by
  unfold sC cpsI
  rw [natlex]
  by_cases e : a = b
  · subst e
    rw [if_pos rfl, if_pos rfl]
  · rw [if_neg e, if_neg]
    intro z
    have := Array.toList_inj.mp z
    apply e
    cases a
    cases b
    simp only [Str.mk.injEq]
    exact this
def hcode : Tm → List Int
  | .var k => [0, k]
  | .int i => [1, i]
  | .atom s => 2 :: cpsI s
  | .comp f as => 3 :: (as.length : Int) :: cpsI f
abbrev hC : List Int → List Int → Int := lexC intC
theorem hC_ok : Cmpr hC := lexC_ok intC_ok
abbrev kC : List (List Int) → List (List Int) → Int := lexC hC
theorem kC_ok : Cmpr kC := lexC_ok hC_ok
def kcode (t : Tm) : List (List Int) := (pre t).map hcode
mutual
def tord : Tm → Tm → Int
  | .comp f as, .comp g bs => if intC as.length bs.length = 0 then (if sC f g = 0 then tords as bs else sC f g) else intC as.length bs.length
  | .var k, t => hC (hcode (.var k)) (hcode t)
  | .int k, t => hC (hcode (.int k)) (hcode t)
  | .atom k, t => hC (hcode (.atom k)) (hcode t)
  | .comp f as, t => hC (hcode (.comp f as)) (hcode t)
def tords : List Tm → List Tm → Int
  | a :: as, b :: bs => if tord a b = 0 then tords as bs else tord a b
  | _, _ => 0
end
theorem hC3 (n m : Int) (f g : Str) : hC (3 :: n :: cpsI f) (3 :: m :: cpsI g) = if intC n m = 0 then sC f g else intC n m := by
  show lexC intC _ _ = _
  rw [lexC_cons, if_pos (by decide), lexC_cons]
  rfl
theorem hC_tag {a b : Int} (h : a ≠ b) (xs ys : List Int) : hC (a :: xs) (b :: ys) ≠ 0 := by
  show lexC intC _ _ ≠ 0
  have : intC a b ≠ 0 := fun z => h (intC_ok.eq a b z)
  rw [lexC_cons, if_neg this]
  exact this
def rank : Tm → Int
  | .var _ => 0
  | .int _ => 1
  | .atom _ => 2
  | .comp _ _ => 3
theorem hC_rank {s t : Tm} (h : rank s ≠ rank t) : hC (hcode s) (hcode t) ≠ 0 := by
  cases s <;> cases t <;> first | exact absurd rfl h | exact hC_tag (by decide) _ _
mutual
theorem ord_pre : ∀ (s t : Tm) (xs ys : List (List Int)), kC ((pre s).map hcode ++ xs) ((pre t).map hcode ++ ys) = if tord s t = 0 then kC xs ys else tord s t
  | .var i, .var j, xs, ys => by
    show lexC hC (hcode (.var i) :: xs) (hcode (.var j) :: ys) = _
    rw [lexC_cons]
    rfl
  | .var i, .int j, xs, ys => by
    show lexC hC (hcode (.var i) :: xs) (hcode (.int j) :: ys) = _
    rw [lexC_cons]
    rfl
  | .var i, .atom j, xs, ys => by
    show lexC hC (hcode (.var i) :: xs) (hcode (.atom j) :: ys) = _
    rw [lexC_cons]
    rfl
  | .var i, .comp g bs, xs, ys => by
    rw [pre, pre]
    show lexC hC (hcode (.var i) :: xs) (hcode (.comp g bs) :: _) = _
    have h : hC (hcode (.var i)) (hcode (.comp g bs)) ≠ 0 := hC_rank (by simp [rank])
    rw [lexC_cons, if_neg h]
    show _ = if hC (hcode (.var i)) (hcode (.comp g bs)) = 0 then _ else _
    rw [if_neg h]
    rfl
  | .int i, .var j, xs, ys => by
    show lexC hC (hcode (.int i) :: xs) (hcode (.var j) :: ys) = _
    rw [lexC_cons]
    rfl
  | .int i, .int j, xs, ys => by
    show lexC hC (hcode (.int i) :: xs) (hcode (.int j) :: ys) = _
    rw [lexC_cons]
    rfl
  | .int i, .atom j, xs, ys => by
    show lexC hC (hcode (.int i) :: xs) (hcode (.atom j) :: ys) = _
    rw [lexC_cons]
    rfl
  | .int i, .comp g bs, xs, ys => by
    rw [pre, pre]
    show lexC hC (hcode (.int i) :: xs) (hcode (.comp g bs) :: _) = _
    have h : hC (hcode (.int i)) (hcode (.comp g bs)) ≠ 0 := hC_rank (by simp [rank])
    rw [lexC_cons, if_neg h]
    show _ = if hC (hcode (.int i)) (hcode (.comp g bs)) = 0 then _ else _
    rw [if_neg h]
    rfl
  | .atom i, .var j, xs, ys => by
    show lexC hC (hcode (.atom i) :: xs) (hcode (.var j) :: ys) = _
    rw [lexC_cons]
    rfl
  | .atom i, .int j, xs, ys => by
    show lexC hC (hcode (.atom i) :: xs) (hcode (.int j) :: ys) = _
    rw [lexC_cons]
    rfl
  | .atom i, .atom j, xs, ys => by
    show lexC hC (hcode (.atom i) :: xs) (hcode (.atom j) :: ys) = _
    rw [lexC_cons]
    rfl
  | .atom i, .comp g bs, xs, ys => by
    rw [pre, pre]
    show lexC hC (hcode (.atom i) :: xs) (hcode (.comp g bs) :: _) = _
    have h : hC (hcode (.atom i)) (hcode (.comp g bs)) ≠ 0 := hC_rank (by simp [rank])
    rw [lexC_cons, if_neg h]
    show _ = if hC (hcode (.atom i)) (hcode (.comp g bs)) = 0 then _ else _
    rw [if_neg h]
    rfl
  | .comp f as, .var j, xs, ys => by
    rw [pre, pre]
    show lexC hC (hcode (.comp f as) :: _) (hcode (.var j) :: _) = _
    have h : hC (hcode (.comp f as)) (hcode (.var j)) ≠ 0 := hC_rank (by simp [rank])
    rw [lexC_cons, if_neg h]
    show _ = if hC (hcode (.comp f as)) (hcode (.var j)) = 0 then _ else _
    rw [if_neg h]
    rfl
  | .comp f as, .int j, xs, ys => by
    rw [pre, pre]
    show lexC hC (hcode (.comp f as) :: _) (hcode (.int j) :: _) = _
    have h : hC (hcode (.comp f as)) (hcode (.int j)) ≠ 0 := hC_rank (by simp [rank])
    rw [lexC_cons, if_neg h]
    show _ = if hC (hcode (.comp f as)) (hcode (.int j)) = 0 then _ else _
    rw [if_neg h]
    rfl
  | .comp f as, .atom j, xs, ys => by
    rw [pre, pre]
    show lexC hC (hcode (.comp f as) :: _) (hcode (.atom j) :: _) = _
    have h : hC (hcode (.comp f as)) (hcode (.atom j)) ≠ 0 := hC_rank (by simp [rank])
    rw [lexC_cons, if_neg h]
    show _ = if hC (hcode (.comp f as)) (hcode (.atom j)) = 0 then _ else _
    rw [if_neg h]
    rfl
  | .comp f as, .comp g bs, xs, ys => by
    rw [pre, pre, tord]
    show lexC hC (hcode (.comp f as) :: ((pres as).map hcode ++ xs)) (hcode (.comp g bs) :: ((pres bs).map hcode ++ ys)) = _
    have h : hC (hcode (.comp f as)) (hcode (.comp g bs)) = _ := hC3 _ _ f g
    rw [lexC_cons, h]
    by_cases e1 : intC (as.length : Int) (bs.length : Int) = 0
    · rw [if_pos e1, if_pos e1]
      by_cases e2 : sC f g = 0
      · rw [if_pos e2, if_pos e2]
        have := intC_ok.eq _ _ e1
        exact ord_pres as bs xs ys (by omega)
      · rw [if_neg e2, if_neg e2, if_neg e2]
    · rw [if_neg e1, if_neg e1, if_neg e1, if_neg e1]
theorem ord_pres : ∀ (as bs : List Tm) (xs ys : List (List Int)), as.length = bs.length → kC ((pres as).map hcode ++ xs) ((pres bs).map hcode ++ ys) = if tords as bs = 0 then kC xs ys else tords as bs
  | [], [], xs, ys, _ => by
    show kC xs ys = if tords [] [] = 0 then _ else _
    rw [tords, if_pos rfl]
    intro a as b bs h
    cases h
  | [], _ :: _, _, _, h => by simp at h
  | _ :: _, [], _, _, h => by simp at h
  | a :: as, b :: bs, xs, ys, h => by
    rw [pres, pres, List.map_append, List.map_append, List.append_assoc, List.append_assoc, ord_pre a b, tords]
    by_cases e : tord a b = 0
    · rw [if_pos e, if_pos e]
      exact ord_pres as bs xs ys (by simpa using h)
    · rw [if_neg e, if_neg e, if_neg e]
end
theorem ord_key (s t : Tm) : kC (kcode s) (kcode t) = tord s t := by
  have h := ord_pre s t [] []
  rw [List.append_nil, List.append_nil] at h
  unfold kcode
  rw [h]
  split
  · next e => rw [e]; rfl
  · rfl
mutual
theorem hcode_eq : ∀ (s t : Tm), tord s t = 0 → s = t
  | .comp f as, .comp g bs, h => by
    rw [tord] at h
    by_cases e1 : intC (as.length : Int) (bs.length : Int) = 0
    · rw [if_pos e1] at h
      by_cases e2 : sC f g = 0
      · rw [if_pos e2] at h
        have hl := intC_ok.eq _ _ e1
        have hf : f = g := by
          rw [sC_eq] at e2
          split at e2
          · assumption
          · split at e2 <;> omega
        rw [hf, hcodes_eq as bs (by omega) h]
      · rw [if_neg e2] at h
        exact absurd h e2
    · rw [if_neg e1] at h
      exact absurd h e1
  | .var i, .var j, h => by
    have := hC_ok.eq _ _ (show hC [0, i] [0, j] = 0 from h)
    simp at this
    rw [this]
  | .int i, .int j, h => by
    have := hC_ok.eq _ _ (show hC [1, i] [1, j] = 0 from h)
    simp at this
    rw [this]
  | .atom i, .atom j, h => by
    have h2 : sC i j = 0 := by
      have h3 : lexC intC (2 :: cpsI i) (2 :: cpsI j) = 0 := h
      rw [lexC_cons, if_pos (by decide)] at h3
      exact h3
    rw [sC_eq] at h2
    split at h2
    · next e => rw [e]
    · split at h2 <;> omega
  | .var _, .int _, h => absurd h (hC_rank (by simp [rank]))
  | .var _, .atom _, h => absurd h (hC_rank (by simp [rank]))
  | .var _, .comp _ _, h => absurd h (hC_rank (by simp [rank]))
  | .int _, .var _, h => absurd h (hC_rank (by simp [rank]))
  | .int _, .atom _, h => absurd h (hC_rank (by simp [rank]))
  | .int _, .comp _ _, h => absurd h (hC_rank (by simp [rank]))
  | .atom _, .var _, h => absurd h (hC_rank (by simp [rank]))
  | .atom _, .int _, h => absurd h (hC_rank (by simp [rank]))
  | .atom _, .comp _ _, h => absurd h (hC_rank (by simp [rank]))
  | .comp _ _, .var _, h => absurd h (hC_rank (by simp [rank]))
  | .comp _ _, .int _, h => absurd h (hC_rank (by simp [rank]))
  | .comp _ _, .atom _, h => absurd h (hC_rank (by simp [rank]))
theorem hcodes_eq : ∀ (as bs : List Tm), as.length = bs.length → tords as bs = 0 → as = bs
  | [], [], _, _ => rfl
  | [], _ :: _, h, _ => by simp at h
  | _ :: _, [], h, _ => by simp at h
  | a :: as, b :: bs, h, h2 => by
    rw [tords] at h2
    by_cases e : tord a b = 0
    · rw [if_pos e] at h2
      rw [hcode_eq a b e, hcodes_eq as bs (by simpa using h) h2]
    · rw [if_neg e] at h2
      exact absurd h2 e
end
theorem tord_ok : Cmpr tord := by
  refine ⟨fun a => ?_, hcode_eq, fun a b => ?_, fun a b d h1 h2 => ?_, fun a b => ?_⟩
  · rw [← ord_key]
    exact kC_ok.refl _
  · rw [← ord_key, ← ord_key]
    exact kC_ok.anti _ _
  · rw [← ord_key] at *
    exact kC_ok.tr _ _ _ h1 h2
  · rw [← ord_key]
    exact kC_ok.ran _ _
/-- in order -/
def Rising (ts : List Tm) : Prop := ts.Pairwise fun a b => tord a b ≤ 0
theorem rising_uniq : ∀ {ts us : List Tm}, Rising ts → Rising us → ts.Perm us → ts = us
  | [], us, _, _, p => (List.Perm.nil_eq p)
  | t :: ts, [], _, _, p => absurd p.length_eq (by simp)
  | t :: ts, u :: us, h1, h2, p => by
    have a1 := List.pairwise_cons.mp h1
    have a2 := List.pairwise_cons.mp h2
    have e1 : tord t u ≤ 0 := by
      rcases List.mem_cons.mp (p.mem_iff.mpr (List.mem_cons_self (a := u) (l := us))) with e | e
      · rw [e, tord_ok.refl]
        exact Int.le_refl _
      · exact a1.1 u e
    have e2 : tord u t ≤ 0 := by
      rcases List.mem_cons.mp (p.mem_iff.mp (List.mem_cons_self (a := t) (l := ts))) with e | e
      · rw [e, tord_ok.refl]
        exact Int.le_refl _
      · exact a2.1 t e
    have e3 := tord_ok.anti t u
    have e : t = u := tord_ok.eq t u (by omega)
    subst e
    rw [rising_uniq a1.2 a2.2 p.cons_inv]
end Hm

set_option Elab.async false
set_option linter.all false
set_option maxRecDepth 100000
set_option maxHeartbeats 4000000
namespace Hm
open PySem PySem.SeqAt
open AutoSeq1 (wpAny_loadPart')
open MeetsSeq MeetsSeq2 MeetsSeq3 SeqRoads2
/-! ## x < y of two rows of values: what decides is the first place that differs; what stands behind it may be anything -/
inductive Dec (A : Around) (s : Shared) : List Value → List Value → Bool → Prop
  | both : Dec A s [] [] false
  | short (y : Value) (ys : List Value) : Dec A s [] (y :: ys) true
  | long (x : Value) (xs : List Value) : Dec A s (x :: xs) [] false
  | same {x y : Value} {xs ys : List Value} {b : Bool} : EqAt A s x y true → Dec A s xs ys b → Dec A s (x :: xs) (y :: ys) b
  | here {x y : Value} {xs ys : List Value} {b : Bool} : EqAt A s x y false → RcLt A s x y b → Dec A s (x :: xs) (y :: ys) b
def tupObj (its : Array Value) (n : Nat) (dd : Option Addr) (sl : Array (Option Value)) : Obj := { cls := .type "tuple", dict := dd, data := .seq its n, slots := sl }
theorem dec_tup (p q : Addr) (is js : Array Value) (n m : Nat) (d1 d2 : Option Addr) (s1 s2 : Array (Option Value)) (b : Bool) :
    Meets (Builtin.«tuple.__lt__» ⟨[.ref p, .ref q], []⟩) (fun A R s => s.heap.get? p = some (tupObj is n d1 s1) ∧ s.heap.get? q = some (tupObj js m d2 s2) ∧ Dec A.in1 s is.toList js.toList b ∧ R (.ok (.ret (.bool b))) s) :=
  .of_wp fun prog w A R s z => by
    have st := AutoSeq1.sub_tuple_tuple
    obtain ⟨heap, gens, drawn, toks, os⟩ := s
    obtain ⟨gp, gq, dc, fin⟩ := z
    unfold tupObj at gp gq
    wp_walk using wpAny_loadPart' gp, wpAny_loadPart' gq, wpAny_forIn_list _ (fun left bb s' => bb.1 = none ∧ s' = ⟨heap, gens, drawn, toks, os⟩ ∧ ∃ xs ys, left = xs.zip ys ∧ Dec A.in1 ⟨heap, gens, drawn, toks, os⟩ xs ys b ∧ xs.length + js.size = ys.length + is.size) _
    case turn =>
      rintro ⟨x, y⟩ left bb s' ⟨h0, rfl, xs, ys, hz, hd, hl⟩
      cases hd with
      | both => cases hz
      | short => cases hz
      | long => cases hz
      | @same x' y' xs ys _ he hr =>
        rw [List.zip_cons_cons] at hz
        injection hz with h1 h2
        injection h1 with h3 h4
        subst h3 h4 h2
        refine wpAny_bind (he prog w _ _ ?_)
        wp_walk
        exact ⟨rfl, rfl, xs, ys, rfl, hr, by simp only [List.length_cons] at hl; omega⟩
      | @here x' y' xs ys _ he hr =>
        rw [List.zip_cons_cons] at hz
        injection hz with h1 h2
        injection h1 with h3 h4
        subst h3 h4 h2
        have rc : ∀ {Q : Value → Shared → Prop} {E : Value → Shared → Prop}, Q (.bool b) ⟨heap, gens, drawn, toks, os⟩ → wpAny (model prog w) A.in1 (richCompare .Lt x y) Q E ⟨heap, gens, drawn, toks, os⟩ := fun z => hr prog w _ _ z
        refine wpAny_bind (he prog w _ _ ?_)
        wp_walk using rc
        exact ⟨_, rfl, fin⟩
    case fin =>
      rintro ⟨b1, b2⟩ s' ⟨h0, rfl, xs, ys, hz, hd, hl⟩
      simp only at h0
      subst h0
      wp_walk
      refine ⟨_, rfl, ?_⟩
      have e : decide (is.size < js.size) = b := by
        cases hd with
        | both => exact decide_eq_false (by simp only [List.length_nil] at hl; omega)
        | short => exact decide_eq_true (by simp only [List.length_nil, List.length_cons] at hl; omega)
        | long => exact decide_eq_false (by simp only [List.length_nil, List.length_cons] at hl; omega)
        | same => simp at hz
        | here => simp at hz
      simpa [Builtin.Tuple.tupleCompareSizes, e] using fin
    case h => exact ⟨rfl, rfl, is.toList, js.toList, rfl, dc, by simp; omega⟩
def lstObj (its : Array Value) (n : Nat) (dd : Option Addr) (sl : Array (Option Value)) : Obj := { cls := .type "list", dict := dd, data := .seq its n, slots := sl }
theorem dec_nil {A : Around} {s : Shared} {xs ys : List Value} {b : Bool} (h : Dec A s xs ys b) (e : xs = [] ∨ ys = []) : b = decide (xs.length < ys.length) := by
  cases h with
  | both => rfl
  | short => rfl
  | long => rfl
  | same => simp at e
  | here => simp at e
theorem dec_loop (p q : Addr) (is js : Array Value) (n m : Nat) (d1 d2 : Option Addr) (s1 s2 : Array (Option Value)) (b : Bool) (k : Nat) :
    ∀ i : Nat, is.size + js.size = k + 2 * i ∨ is.size + js.size = k + 2 * i + 1 → i ≤ is.size → i ≤ js.size → Meets (Builtin.«list.__eq__.loop» ⟨[.ref p, .ref q, rawInt i, rawInt 0], []⟩)
      (fun A R s => s.heap.get? p = some (lstObj is n d1 s1) ∧ s.heap.get? q = some (lstObj js m d2 s2) ∧ Dec A.in1 s (is.toList.drop i) (js.toList.drop i) b ∧ R (.ok (.ret (.bool b))) s) := by
  induction k using Nat.strongRecOn with
  | ind k ih =>
    intro i hk li lj prog w A R s z
    obtain ⟨heap, gens, drawn, toks, os⟩ := s
    obtain ⟨gp, gq, dc, fin⟩ := z
    unfold lstObj at gp gq
    by_cases ei : i < is.size
    · by_cases ej : i < js.size
      · have gi : is[((i : Nat) : Int).toNat]? = some is[i] := by simp [ei]
        have gj : js[((i : Nat) : Int).toNat]? = some js[i] := by simp [ej]
        have di : is.toList.drop i = is[i] :: is.toList.drop (i + 1) := by simp [List.drop_eq_getElem_cons, ei]
        have dj : js.toList.drop i = js[i] :: js.toList.drop (i + 1) := by simp [List.drop_eq_getElem_cons, ej]
        have nx : ((i : Int) + 1) = ((i + 1 : Nat) : Int) := by push_cast; rfl
        rw [di, dj] at dc
        wp_walk using wpAny_loadPart' gp, wpAny_loadPart' gq
        rw [gi, gj]
        cases dc with
        | same he hr =>
          refine wpAny_bind (he prog w _ _ ?_)
          wp_walk
          rw [nx]
          refine ⟨plainId_quiet plain_eq_loop _, codeAny_builtin entry_eq_loop ?_⟩
          rw [Around.under_plainId plain_eq_loop _]
          exact ih (k - 2) (by omega) (i + 1) (by omega) (by omega) (by omega) prog w A R _ ⟨gp, gq, hr, fin⟩
        | here he hr =>
          refine wpAny_bind (he prog w _ _ ?_)
          wp_walk using wpAny_loadPart' gp, wpAny_loadPart' gq
          rw [gi, gj]
          have rc : ∀ {Q : Value → Shared → Prop} {E : Value → Shared → Prop}, Q (.bool b) ⟨heap, gens, drawn, toks, os⟩ → wpAny (model prog w) A.in1 (richCompare .Lt is[i] js[i]) Q E ⟨heap, gens, drawn, toks, os⟩ := fun z => hr prog w _ _ z
          wp_walk using rc
          exact fin
      · have gi : is[((i : Nat) : Int).toNat]? = some is[i] := by simp [ei]
        have gj : js[((i : Nat) : Int).toNat]? = none := by simp; omega
        have e := dec_nil dc (.inr (by simp; omega))
        have e2 : decide (is.size < js.size) = b := by
          rw [e]
          simp
          omega
        wp_walk using wpAny_loadPart' gp, wpAny_loadPart' gq
        rw [gi, gj]
        wp_walk using wpAny_loadPart' gp, wpAny_loadPart' gq
        rw [← e2] at fin
        exact fin
    · have gi : is[((i : Nat) : Int).toNat]? = none := by simp; omega
      have e := dec_nil dc (.inl (by simp; omega))
      have e2 : decide (is.size < js.size) = b := by
        rw [e]
        simp
        omega
      wp_walk using wpAny_loadPart' gp, wpAny_loadPart' gq
      rw [gi]
      wp_walk using wpAny_loadPart' gp, wpAny_loadPart' gq
      rw [← e2] at fin
      exact fin
theorem dec_lst (p q : Addr) (is js : Array Value) (n m : Nat) (d1 d2 : Option Addr) (s1 s2 : Array (Option Value)) (b : Bool) :
    Meets (Builtin.«list.__lt__» ⟨[.ref p, .ref q], []⟩) (fun A R s => s.heap.get? p = some (lstObj is n d1 s1) ∧ s.heap.get? q = some (lstObj js m d2 s2) ∧ Dec A.in1 s is.toList js.toList b ∧ R (.ok (.ret (.bool b))) s) := by
  intro prog w A R s z
  have st := AutoSeq1.sub_list_list
  obtain ⟨heap, gens, drawn, toks, os⟩ := s
  obtain ⟨gp, gq, dc, fin⟩ := z
  unfold lstObj at gp gq
  wp_walk using wpAny_loadPart' gp, wpAny_loadPart' gq
  refine ⟨plainId_quiet plain_eq_loop _, codeAny_builtin entry_eq_loop ?_⟩
  rw [Around.under_plainId plain_eq_loop _]
  exact dec_loop p q is js n m d1 d2 s1 s2 b (is.size + js.size) 0 (.inl (by omega)) (Nat.zero_le _) (Nat.zero_le _) prog w A R _ ⟨gp, gq, dc, fin⟩
theorem obj_tup {h : Heap} {p : Addr} {is : Array Value} (hp : h.IsTuple p is) : ∃ n d sl, h.get? p = some (tupObj is n d sl) := by
  obtain ⟨⟨cls, dd, data, sl⟩, ho, hc, n, hd⟩ := hp
  simp only at hc hd
  subst hc hd
  exact ⟨n, dd, sl, ho⟩
theorem obj_lst {h : Heap} {p : Addr} {is : Array Value} (hp : h.IsList p is) : ∃ n d sl, h.get? p = some (lstObj is n d sl) := by
  obtain ⟨⟨cls, dd, data, sl⟩, ho, hc, n, hd⟩ := hp
  simp only at hc hd
  subst hc hd
  exact ⟨n, dd, sl, ho⟩
section
variable {A : Around} {s : Shared} {p q : Addr} {is js : Array Value} {b : Bool}
theorem rc_tup (hp : s.heap.IsTuple p is) (hq : s.heap.IsTuple q js) (hu : A.units < cLine) (h : Dec A.in1 s is.toList js.toList b) : RcLt A s (.ref p) (.ref q) b := fun prog w E Q z => by
  obtain ⟨n, d, sl, e⟩ := obj_tup hp
  obtain ⟨m, d', sl', e'⟩ := obj_tup hq
  exact richCompare_meets_room (op := .Lt) ⟨_, e, rfl⟩ ⟨_, e', rfl⟩ F.slot_tuple_lt F.entry_tuple_lt (F.args_tuple_lt_2 _ _) (dec_tup p q is js n m d d' sl sl' b) ⟨e, e', h, show Value.bool b ≠ Value.notImplemented ∧ Q (.bool b) s from ⟨(fun x => nomatch x), z⟩⟩ hu
theorem rc_lst (hp : s.heap.IsList p is) (hq : s.heap.IsList q js) (hu : A.units < cLine) (h : Dec A.in1 s is.toList js.toList b) : RcLt A s (.ref p) (.ref q) b := fun prog w E Q z => by
  obtain ⟨n, d, sl, e⟩ := obj_lst hp
  obtain ⟨m, d', sl', e'⟩ := obj_lst hq
  exact richCompare_meets_room (op := .Lt) ⟨_, e, rfl⟩ ⟨_, e', rfl⟩ F.slot_list_lt F.entry_list_lt (F.args_list_lt_2 _ _) (dec_lst p q is js n m d d' sl sl' b) ⟨e, e', h, show Value.bool b ≠ Value.notImplemented ∧ Q (.bool b) s from ⟨(fun x => nomatch x), z⟩⟩ hu
/-- the same, as sorting asks -/
theorem call_lst {prog : Program} {w : World} {E Q : Value → Shared → Prop} (hp : s.heap.IsList p is) (hq : s.heap.IsList q js) (h : Dec A.in1 s is.toList js.toList b) (z : Q (.bool b) s) : wpAny (model prog w) A (call (.builtin "list.__lt__") [.ref p, .ref q]) Q E s := by
  obtain ⟨n, d, sl, e⟩ := obj_lst hp
  obtain ⟨m, d', sl', e'⟩ := obj_lst hq
  exact call_meets F.slot_list_lt ⟨_, e, rfl⟩ F.entry_list_lt (F.args_list_lt_2 _ _) (dec_lst p q is js n m d d' sl sl' b) ⟨e, e', h, z⟩
end
end Hm

set_option Elab.async false
set_option linter.all false
set_option maxRecDepth 100000
set_option maxHeartbeats 4000000
namespace Hm
open PySem PySem.Spec PySem.SeqAt PySem.W
/-! ## keys: rows of heads, as data -/
def hdD : Tm → PyData
  | .var k => .tuple [.int 0, .int k]
  | .int i => .tuple [.int 1, .int i]
  | .atom s => .tuple [.int 2, .str s]
  | .comp f as => .tuple [.int 3, .int (as.length : Int), .str f]
theorem hd_depth (t : Tm) : (hdD t).depth = 1 := by cases t <;> rfl
theorem intC_beq (i j : Int) : (i == j) = decide (intC i j = 0) := by
  by_cases e : i = j
  · subst e
    rw [beq_self_eq_true, decide_eq_true (intC_ok.refl i)]
  · rw [decide_eq_false (fun z => e (intC_ok.eq i j z))]
    exact beq_false_of_ne e
theorem intC_lt (i j : Int) (h : intC i j ≠ 0) : decide (i < j) = decide (intC i j < 0) := by
  have e : i ≠ j := fun z => h (z ▸ intC_ok.refl i)
  unfold intC
  rw [if_neg e]
  by_cases l : i < j
  · rw [if_pos l, decide_eq_true l]
    rfl
  · rw [if_neg l, decide_eq_false l]
    rfl
theorem sC_beq (a b : Str) : (a == b) = decide (sC a b = 0) := by
  rw [sC_eq]
  by_cases e : a = b
  · subst e
    rw [if_pos rfl, beq_self_eq_true]
    rfl
  · rw [if_neg e, beq_false_of_ne e]
    split <;> rfl
theorem sC_lt (a b : Str) (h : sC a b ≠ 0) : decide (a.cps.toList < b.cps.toList) = decide (sC a b < 0) := by
  rw [sC_eq] at *
  by_cases e : a = b
  · rw [if_pos e] at h
    exact absurd rfl h
  · rw [if_neg e]
    by_cases l : a.cps.toList < b.cps.toList
    · rw [if_pos l, decide_eq_true l]
      rfl
    · rw [if_neg l, decide_eq_false l]
      rfl
theorem hC_tag' {a b : Int} (h : a ≠ b) (xs ys : List Int) : hC (a :: xs) (b :: ys) = intC a b := by
  show lexC intC _ _ = _
  have : intC a b ≠ 0 := fun z => h (intC_ok.eq a b z)
  rw [lexC_cons, if_neg this]
theorem hC_two (a i j : Int) : hC [a, i] [a, j] = intC i j := by
  show lexC intC _ _ = _
  rw [lexC_cons, if_pos (intC_ok.refl a), lexC_cons]
  split
  · next e => rw [e]; rfl
  · rfl
theorem hC_str (f g : Str) : hC (2 :: cpsI f) (2 :: cpsI g) = sC f g := by
  show lexC intC _ _ = _
  rw [lexC_cons, if_pos (intC_ok.refl 2)]
  rfl
section
variable {A : Around} {s : Shared}
theorem eq_int (i j : Int) (t u : Tok) : EqAt A s (.int i t) (.int j u) (decide (intC i j = 0)) := by
  rw [← intC_beq]
  exact EqAt.int_int i t j u
theorem lt_int (i j : Int) (t u : Tok) (h : intC i j ≠ 0) : RcLt A s (.int i t) (.int j u) (decide (intC i j < 0)) := by
  rw [← intC_lt i j h, ← dataLt_int]
  by_cases z : A.units < cLine
  · exact rcLt_alike (.int i) (.int j) A s _ _ _ _ (.int i t) (.int j u) rfl (by simp) (by show A.units + 0 < _; omega)
  · intro prog w E Q q
    rw [dataLt_int] at q
    exact PyProof.Rows.lt_int q
theorem eq_str (i j : Str) (t u : Tok) : EqAt A s (.str i t) (.str j u) (decide (sC i j = 0)) := by
  rw [← sC_beq]
  exact EqAt.str_str i t j u
theorem lt_str (i j : Str) (t u : Tok) (hu : A.units < cLine) (h : sC i j ≠ 0) : RcLt A s (.str i t) (.str j u) (decide (sC i j < 0)) := by
  rw [← sC_lt i j h, ← dataLt_str]
  exact rcLt_alike (.str i) (.str j) A s _ _ _ _ (.str i t) (.str j u) rfl (by simp) (by show A.units + 0 < _; omega)
theorem dec_int1 (i j : Int) (t u : Tok) {xs ys : List Value} {b : Bool} (hs : intC i j = 0 → Dec A s xs ys b) (hn : intC i j ≠ 0 → b = decide (intC i j < 0)) : Dec A s (.int i t :: xs) (.int j u :: ys) b := by
  have e := eq_int (A := A) (s := s) i j t u
  by_cases z : intC i j = 0
  · rw [decide_eq_true z] at e
    exact .same e (hs z)
  · rw [decide_eq_false z] at e
    rw [hn z]
    exact .here e (lt_int i j t u z)
theorem dec_str1 (i j : Str) (t u : Tok) {xs ys : List Value} {b : Bool} (hu : A.units < cLine) (hs : sC i j = 0 → Dec A s xs ys b) (hn : sC i j ≠ 0 → b = decide (sC i j < 0)) : Dec A s (.str i t :: xs) (.str j u :: ys) b := by
  have e := eq_str (A := A) (s := s) i j t u
  by_cases z : sC i j = 0
  · rw [decide_eq_true z] at e
    exact .same e (hs z)
  · rw [decide_eq_false z] at e
    rw [hn z]
    exact .here e (lt_str i j t u hu z)
/-- the first sign of a head and what stands behind it -/
def hdR : Tm → List PyData
  | .var k => [.int k]
  | .int i => [.int i]
  | .atom s => [.str s]
  | .comp f as => [.int (as.length : Int), .str f]
theorem hd_row (t : Tm) : hdD t = .tuple (.int (rank t) :: hdR t) := by cases t <;> rfl
theorem hcode_row (t : Tm) : ∃ r, hcode t = rank t :: r := by cases t <;> exact ⟨_, rfl⟩
theorem head_dec {t t' : Tm} {vs us : List Value} {as bs : List Addr} (hu : A.units < cLine) (r1 : ReadsAll s.heap vs (.int (rank t) :: hdR t) as) (r2 : ReadsAll s.heap us (.int (rank t') :: hdR t') bs) : Dec A s vs us (decide (hC (hcode t) (hcode t') < 0)) := by
  cases r1 with
  | cons q1 r1 =>
    cases r2 with
    | cons q2 r2 =>
      cases q1
      cases q2
      by_cases e : rank t = rank t'
      · cases t <;> cases t' <;> first | (simp [rank] at e; done) | skip
        · cases r1 with
          | cons a1 b1 =>
            cases r2 with
            | cons a2 b2 =>
              cases a1; cases a2; cases b1; cases b2
              show Dec A s _ _ (decide (hC [0, _] [0, _] < 0))
              rw [hC_two]
              exact dec_int1 _ _ _ _ (fun _ => dec_int1 _ _ _ _ (fun z => by rw [z]; exact .both) fun _ => rfl) fun z => absurd (intC_ok.refl 0) z
        · cases r1 with
          | cons a1 b1 =>
            cases r2 with
            | cons a2 b2 =>
              cases a1; cases a2; cases b1; cases b2
              show Dec A s _ _ (decide (hC [1, _] [1, _] < 0))
              rw [hC_two]
              exact dec_int1 _ _ _ _ (fun _ => dec_int1 _ _ _ _ (fun z => by rw [z]; exact .both) fun _ => rfl) fun z => absurd (intC_ok.refl 1) z
        · cases r1 with
          | cons a1 b1 =>
            cases r2 with
            | cons a2 b2 =>
              cases a1; cases a2; cases b1; cases b2
              show Dec A s _ _ (decide (hC (2 :: cpsI _) (2 :: cpsI _) < 0))
              rw [hC_str]
              exact dec_int1 _ _ _ _ (fun _ => dec_str1 _ _ _ _ hu (fun z => by rw [z]; exact .both) fun _ => rfl) fun z => absurd (intC_ok.refl 2) z
        · cases r1 with
          | cons a1 b1 =>
            cases r2 with
            | cons a2 b2 =>
              cases b1 with
              | cons c1 d1 =>
                cases b2 with
                | cons c2 d2 =>
                  cases a1; cases a2; cases c1; cases c2; cases d1; cases d2
                  show Dec A s _ _ (decide (hC (3 :: _ :: cpsI _) (3 :: _ :: cpsI _) < 0))
                  rw [hC3]
                  refine dec_int1 _ _ _ _ (fun _ => dec_int1 _ _ _ _ (fun z => ?_) fun z => by rw [if_neg z]) fun z => absurd (intC_ok.refl 3) z
                  rw [if_pos z]
                  exact dec_str1 _ _ _ _ hu (fun z => by rw [z]; exact .both) fun _ => rfl
      · obtain ⟨x, e1⟩ := hcode_row t
        obtain ⟨y, e2⟩ := hcode_row t'
        rw [e1, e2, hC_tag' e]
        exact dec_int1 _ _ _ _ (fun z => absurd (intC_ok.eq _ _ z) e) fun _ => rfl
theorem hd_lay (t : Tm) (h : Ok t) : (hdD t).canLay0 = true := by
  have hs : ∀ z : Str, AtomOk z → (PyData.str z).canLay0 = true := fun z h => by
    show (z.cps.all fun c => decide (c < 0x110000)) = true
    rw [← Array.all_toList, List.all_eq_true]
    intro c hc
    have := h.2 c hc
    exact decide_eq_true (by omega)
  cases t with
  | var k => rfl
  | int i => rfl
  | atom z =>
    unfold Ok at h
    show ((PyData.int 2).canLay0 && ((PyData.str z).canLay0 && true)) = true
    rw [hs z h]
    rfl
  | comp f as =>
    unfold Ok at h
    show ((PyData.int 3).canLay0 && ((PyData.int (as.length : Int)).canLay0 && ((PyData.str f).canLay0 && true))) = true
    rw [hs f h.1]
    rfl
theorem eqv_hd (t t' : Tm) : PyData.eqv (hdD t) (hdD t') = decide (hC (hcode t) (hcode t') = 0) := by
  by_cases e : rank t = rank t'
  · cases t <;> cases t' <;> first | (simp [rank] at e; done) | skip
    · show ((0 == 0 : Bool) && ((_ == _ : Bool) && true)) = decide (hC [0, _] [0, _] = 0)
      rw [hC_two, intC_beq, Bool.and_true]
      rfl
    · show (((1 : Int) == 1 : Bool) && ((_ == _ : Bool) && true)) = decide (hC [1, _] [1, _] = 0)
      rw [hC_two, ← intC_beq, Bool.and_true]
      rfl
    · show (((2 : Int) == 2 : Bool) && ((_ == _ : Bool) && true)) = decide (hC (2 :: cpsI _) (2 :: cpsI _) = 0)
      rw [hC_str, sC_beq, Bool.and_true]
      rfl
    · next f as g bs =>
      show (((3 : Int) == 3 : Bool) && (((as.length : Int) == (bs.length : Int) : Bool) && ((f == g : Bool) && true))) = decide (hC (3 :: (as.length : Int) :: cpsI f) (3 :: (bs.length : Int) :: cpsI g) = 0)
      rw [hC3, intC_beq (as.length : Int), sC_beq, Bool.and_true]
      by_cases z : intC (as.length : Int) (bs.length : Int) = 0
      · rw [if_pos z, decide_eq_true z]
        rfl
      · rw [if_neg z, decide_eq_false z]
        rfl
  · obtain ⟨x, e1⟩ := hcode_row t
    obtain ⟨y, e2⟩ := hcode_row t'
    rw [e1, e2, hC_tag' e, hd_row, hd_row]
    have z : intC (rank t) (rank t') ≠ 0 := fun z => e (intC_ok.eq _ _ z)
    rw [decide_eq_false z]
    show ((rank t == rank t' : Bool) && _) = false
    rw [beq_false_of_ne e]
    rfl
theorem head_rc {t t' : Tm} {v u : Value} {as bs : List Addr} (hu : A.units + 1 < cLine) (r1 : Reads s.heap v (hdD t) as) (r2 : Reads s.heap u (hdD t') bs) : RcLt A s v u (decide (hC (hcode t) (hcode t') < 0)) := by
  rw [hd_row] at r1 r2
  cases r1 with
  | @tuple p o vs n _ _ h1 h2 h3 h4 =>
    cases r2 with
    | @tuple q o' us n' _ _ k1 k2 k3 k4 =>
      exact rc_tup ⟨o, h1, h2, n, h3⟩ ⟨o', k1, k2, n', k3⟩ (by omega) (head_dec (A := A.in1) hu h4 k4)
theorem heads_dec (hu : A.units + 2 < cLine) : ∀ (ts us : List Tm) (vs ws : List Value) (as bs : List Addr), Oks ts → Oks us → ReadsAll s.heap vs (ts.map hdD) as → ReadsAll s.heap ws (us.map hdD) bs → Dec A s vs ws (decide (kC (ts.map hcode) (us.map hcode) < 0))
  | [], [], _, _, _, _, _, _, r1, r2 => by
    cases r1
    cases r2
    exact .both
  | [], _ :: _, _, _, _, _, _, _, r1, r2 => by
    cases r1
    cases r2 with
    | cons a b => exact .short _ _
  | _ :: _, [], _, _, _, _, _, _, r1, r2 => by
    cases r2
    cases r1 with
    | cons a b => exact .long _ _
  | t :: ts, u :: us, _, _, _, _, o1, o2, r1, r2 => by
    rw [oks_cons] at o1 o2
    cases r1 with
    | cons a1 b1 =>
      cases r2 with
      | cons a2 b2 =>
        have e := eqAt_reads _ _ A s _ _ _ _ a1 a2 (hd_lay t o1.1) (hd_lay u o2.1) (by rw [hd_depth, hd_depth]; show A.units + 1 < _; omega)
        rw [eqv_hd] at e
        rw [List.map_cons, List.map_cons]
        show Dec A s _ _ (decide (lexC hC _ _ < 0))
        rw [lexC_cons]
        by_cases z : hC (hcode t) (hcode u) = 0
        · rw [decide_eq_true z] at e
          rw [if_pos z]
          exact .same e (heads_dec hu ts us _ _ _ _ o1.2 o2.2 b1 b2)
        · rw [decide_eq_false z] at e
          rw [if_neg z]
          exact .here e (head_rc (by omega) a1 a2)
/-- two keys -/
theorem keys_rc {ts us : List Tm} {v w : Value} {as bs : List Addr} (hu : A.units + 3 < cLine) (o1 : Oks ts) (o2 : Oks us) (r1 : Reads s.heap v (.list (ts.map hdD)) as) (r2 : Reads s.heap w (.list (us.map hdD)) bs) : RcLt A s v w (decide (kC (ts.map hcode) (us.map hcode) < 0)) := by
  cases r1 with
  | @list p o vs n _ _ h1 h2 h3 h4 =>
    cases r2 with
    | @list q o' us n' _ _ k1 k2 k3 k4 => exact rc_lst ⟨o, h1, h2, n, h3⟩ ⟨o', k1, k2, n', k3⟩ (by omega) (heads_dec (A := A.in1) (by show A.units + 1 + 2 < _; omega) _ _ _ _ _ _ o1 o2 h4 k4)
end
end Hm

set_option Elab.async false
set_option linter.all false
set_option maxRecDepth 100000
set_option maxHeartbeats 4000000
namespace Hm
open PySem PySem.Spec PySem.W PyProof.Rows SrtO
section
variable {prog : Program} {w : World} {A : Around} {E : Value → Shared → Prop} {s : Shared}
/-- the sorting itself, where the keys are all there -/
theorem srt_end {a kS : Addr} {its keys : Array Value} {e e1 : Nat} {P : Keyed → Prop} {lt : Keyed → Keyed → Bool} {R : PySem.Fin → Shared → Prop} (O : Swo lt) (hka : kS ≠ a) (hz : its.size ≤ sizeLine) (hkz : keys.size = its.size)
    (nk : s.heap.get? kS = some (seqObj "list" keys e)) (na : s.heap.get? a = some (seqObj "list" #[] e1)) (T : 2 ≤ keys.size → Cmp prog w A s oneType' P lt) (hP : AllL P (keys.zip its).toList)
    (hty : ∀ v ∈ keys.toList, Looks (model prog w) s.heap (typeOf v) (Value.type "list"))
    (h : ∀ out : List Keyed, Srtd lt out → Stb lt out (keys.zip its).toList → R (.done (.ret .none)) { s with heap := (s.heap.update kS (Obj.mapSeq fun _ => #[])).update a (Obj.mapSeq fun _ => (out.map (·.2)).toArray) }) :
    wpAny (model prog w) A (ksk_end a false its e1 (.ref kS) keys) R E s := by
  have pz : (keys.zip its).size = its.size := by rw [Array.size_zip, hkz, Nat.min_self]
  have last : ∀ st : SortSt, failedOf st = none → Srtd lt (arrOf st).toList → Stb lt (arrOf st).toList (keys.zip its).toList → wpAny (model prog w) A (ksk_tail a false e1 (.ref kS) st) R E s := by
    intro st hf h1 h2
    have sz : (arrOf st).size = its.size := by
      have := h2.len
      rw [Array.length_toList, Array.length_toList, pz] at this
      exact this
    have na1 : (s.heap.update kS (Obj.mapSeq fun _ => (#[] : Array Value))).get? a = some (seqObj "list" #[] e1) := (Heap.get?_update_ne _ _ _ _ hka.symm).trans na
    unfold ksk_tail
    try dsimp only
    refine wpAny_bind (listUpdate_at nk rfl ?_ (by rw [hkz]; exact hz) (Nat.zero_le _))
    refine wpAny_bind (wpAny_letGo ?_)
    refine wpAny_bind (seqEpoch_at na1 rfl ?_)
    refine wpAny_bind (listUpdate_at na1 rfl ?_ (Nat.zero_le _) (by show ((arrOf st).map _).size ≤ _; rw [Array.size_map, sz]; omega))
    rw [hf]
    simp only [bne_self_eq_false, Bool.false_eq_true, if_false]
    have r := h _ h1 h2
    rw [← Array.toList_map, Array.toArray_toList] at r
    exact wpAny_pure r
  unfold ksk_end
  try dsimp only
  simp only [Bool.false_eq_true, if_false]
  by_cases h2 : its.size < 2
  · rw [if_pos h2, if_pos h2]
    refine wpAny_bind (wpAny_pure ?_)
    rw [StateT.run_pure]
    refine wpAny_bind (wpAny_pure ?_)
    try dsimp only
    refine last (SortSt.mk' general' (keys.zip its) #[] 7 none) rfl ?_ (Stb.refl _)
    show Srtd lt (keys.zip its).toList
    have l1 : (keys.zip its).toList.length < 2 := by rw [Array.length_toList, pz]; exact h2
    match (keys.zip its).toList, l1 with
    | [], _ => exact List.Pairwise.nil
    | [x], _ => exact List.pairwise_singleton _ _
    | x :: y :: r, l1 => exact absurd l1 (by simp)
  · rw [if_neg h2, if_neg h2]
    have kk : keyKind' keys = keyKind' keys.toList.toArray := by rw [Array.toArray_toList]
    rw [kk]
    refine wpAny_bind (kas_kind (T := Value.type "list") (by rw [Array.length_toList]; omega) hty (by rfl) (by rfl) ?_)
    refine wpAny_bind (wpAny_mono (wpS_sortO (st0 := SortSt.mk' oneType' (keys.zip its) #[] 7 none) (Q := fun _ st' => Srtd lt (arrOf st').toList ∧ Stb lt (arrOf st').toList (keys.zip its).toList ∧ failedOf st' = none) O (T (by omega)) rfl hP rfl rfl fun st' a1 a2 a3 => ⟨a1, a2, a3⟩) ?_ fun _ _ q => q)
    rintro ⟨⟨⟩, st'⟩ s' ⟨rfl, p1, p2, p3⟩
    try dsimp only
    exact last st' p3 p1 p2
end
/-! ## a call of the program's own function by sorted's own -/
section
open L2 HT
open Evl (Ex)
variable {X : Cx} {pins : List (Addr × Obj)} {σ : L2.St} {H : Hp} {s : Shared}
theorem run2 {k : Nat} {f : Addr} {fd : FuncData} {ps : List Str} {sp : Sp} {us : List Value} {vs : List V} {Q : VK} (F : FnOk X.prog X.w X.K X.mg X.base CX0 k f fd ps sp) (hr : Room k X.A.in1.in1) (hb : Binds X.K fd ps []) (I : Inv X pins σ H s) (r : Vals vs us) (h : sp vs H Q E0) :
    wpAny (model X.prog X.w) X.A.in1.in1 (call (.ref f) us) (EP X pins σ Q) (fun _ _ => False) s := by
  have hl : us.length = ps.length := r.length.symm.trans (F.len _ _ _ _ h)
  have hb' := hb s us I.kIn (by rw [List.append_nil]; exact hl)
  rw [List.append_nil] at hb'
  refine wpAny_call (codeAny_mono (F.run X.A.in1.in1 X.stack s H ⟨us, []⟩ us vs Q E0 hr I.env0.in1.in1 hb' r h) fun r s' hq => ?_)
  match r, hq with
  | .error e, hq => exact hq.elim
  | .ok (.ret u), hq => exact I.after hq
  | .ok .next, hq => exact hq.elim
  | .ok .brk, hq => exact hq.elim
  | .ok .cont, hq => exact hq.elim
def hdV : Tm → List V
  | .var k => [.int 0, .int k]
  | .int i => [.int 1, .int i]
  | .atom s => [.int 2, .str s]
  | .comp f as => [.int 3, .int (as.length : Int), .str f]
def HdAt (K : PySem.W.Frag) (H : Hp) (w : V) (t : Tm) : Prop := ∃ q, w = .ref q ∧ SqT K H q (hdV t)
def KeyL (K : PySem.W.Frag) (H : Hp) (p : Addr) (ts : List Tm) : Prop := ∃ ws, H p = some (.lst ws) ∧ PySem.Paired (HdAt K H) ws ts
theorem KeyL.ex {K : PySem.W.Frag} {H H' : Hp} {p : Addr} {ts : List Tm} (h : KeyL K H p ts) (e : Ex H H') : KeyL K H' p ts := by
  obtain ⟨ws, h1, h2⟩ := h
  exact ⟨ws, e _ _ h1, Paired.mapP h2 fun w t ⟨q, a, b⟩ => ⟨q, a, Evl.ex_t e b⟩⟩
theorem KeyL.put {K : PySem.W.Frag} {H : Hp} {p l : Addr} {xs : List V} {o : HO} {ts : List Tm} (h : KeyL K H p ts) (hl : H l = some (.lst xs)) (n : p ≠ l) : KeyL K (upd H l o) p ts := by
  obtain ⟨ws, h1, h2⟩ := h
  exact ⟨ws, by rw [upd_ne n]; exact h1, Paired.mapP h2 fun w t ⟨q, a, b⟩ => ⟨q, a, Tups.lst hl _ _ b⟩⟩
theorem dp_hd {K : PySem.W.Frag} {H : Hp} {w : V} {t : Tm} (h : HdAt K H w t) : Dp K H w (hdD t) := by
  obtain ⟨q, rfl, h⟩ := h
  cases t with
  | var k => exact .tup h (.cons (.int 0) (.cons (.int k) .nil))
  | int k => exact .tup h (.cons (.int 1) (.cons (.int k) .nil))
  | atom k => exact .tup h (.cons (.int 2) (.cons (.str k) .nil))
  | comp f as => exact .tup h (.cons (.int 3) (.cons (.int _) (.cons (.str f) .nil)))
theorem dp_hds {K : PySem.W.Frag} {H : Hp} : ∀ {ws : List V} {ts : List Tm}, PySem.Paired (HdAt K H) ws ts → DpAll K H ws (ts.map hdD)
  | _, _, .nil => .nil
  | _, _, .cons h r => .cons (dp_hd h) (dp_hds r)
theorem KeyL.dp {K : PySem.W.Frag} {H : Hp} {p : Addr} {ts : List Tm} (h : KeyL K H p ts) : Dp K H (.ref p) (.list (ts.map hdD)) := by
  obtain ⟨ws, h1, h2⟩ := h
  exact .lst (SqL.of h1) (dp_hds h2)
/-- what a key is of: where it stands, the term's value in the hand layer and in the heap, the term -/
structure Ent where
  p : Addr
  v : V
  u : Value
  t : Tm
theorem perm_back {α β : Type} {f : α → β} {l m : List β} (h : l.Perm m) : ∀ Z : List α, m = Z.map f → ∃ Z' : List α, Z'.Perm Z ∧ l = Z'.map f := by
  induction h with
  | nil => exact fun Z e => ⟨Z, .refl _, e⟩
  | cons x _ ih =>
    intro Z e
    match Z, e with
    | z :: Z, e =>
      rw [List.map_cons] at e
      injection e with e1 e2
      obtain ⟨Z', h1, h2⟩ := ih Z e2
      exact ⟨z :: Z', h1.cons z, by rw [List.map_cons, e1, h2]⟩
    | [], e => cases e
  | swap x y l =>
    intro Z e
    match Z, e with
    | z :: z' :: Z, e =>
      rw [List.map_cons, List.map_cons] at e
      injection e with e1 e2
      injection e2 with e2 e3
      exact ⟨z' :: z :: Z, .swap _ _ _, by rw [List.map_cons, List.map_cons, e1, e2, e3]⟩
    | [z], e => simp at e
    | [], e => cases e
  | trans _ _ ih1 ih2 =>
    intro Z e
    obtain ⟨Z1, a1, b1⟩ := ih2 Z e
    obtain ⟨Z2, a2, b2⟩ := ih1 Z1 b1
    exact ⟨Z2, a2.trans a1, b2⟩
/-- the code of a key's value -/
def codeOf (Z : List Ent) : Value → List (List Int)
  | .ref p => match Z.find? (fun z => z.p == p) with
    | some z => kcode z.t
    | none => []
  | _ => []
theorem code_at {z : Ent} : ∀ {Z : List Ent}, (Z.map Ent.p).Nodup → z ∈ Z → codeOf Z (.ref z.p) = kcode z.t
  | [], _, h => by cases h
  | y :: Z, hn, h => by
    rw [List.map_cons, List.nodup_cons] at hn
    show (match List.find? (fun x : Ent => x.p == z.p) (y :: Z) with
      | some x => kcode x.t
      | none => []) = kcode z.t
    rw [List.find?_cons]
    rcases List.mem_cons.mp h with rfl | h
    · rw [beq_self_eq_true]
    · have ne : y.p ≠ z.p := fun e => hn.1 (by rw [e]; exact List.mem_map_of_mem h)
      rw [beq_false_of_ne ne]
      exact code_at hn.2 h
def ltK (Z : List Ent) (x y : Keyed) : Bool := decide (kC (codeOf Z x.1) (codeOf Z y.1) < 0)
theorem ltK_swo (Z : List Ent) : Swo (ltK Z) := by
  refine ⟨fun x y h => ?_, fun x y z h1 h2 => ?_⟩
  · have := of_decide_eq_true h
    have a := kC_ok.anti (codeOf Z x.1) (codeOf Z y.1)
    exact decide_eq_false (by omega)
  · have h1 := of_decide_eq_false h1
    have h2 := of_decide_eq_false h2
    have a1 := kC_ok.anti (codeOf Z x.1) (codeOf Z y.1)
    have a2 := kC_ok.anti (codeOf Z y.1) (codeOf Z z.1)
    have a3 := kC_ok.anti (codeOf Z x.1) (codeOf Z z.1)
    have t := kC_ok.tr _ _ _ (show kC (codeOf Z x.1) (codeOf Z y.1) ≤ 0 by omega) (show kC (codeOf Z y.1) (codeOf Z z.1) ≤ 0 by omega)
    exact decide_eq_false (by omega)
/-- an address that no one of this frame knows yet -/
structure Fre (X : Cx) (pins : List (Addr × Obj)) (L : Addr) : Prop where
  far : X.s_0.heap.objs.size ≤ L
  loc : L ≠ X.env.locals
  cel : ∀ x c, X.env.cells.lookup x = some c → c ≠ L
  pin : ∀ p ∈ X.pn ++ pins, p.1 ≠ L
  nfs : L ∉ X.fs
theorem Fre.of (I : Inv X pins σ H s) {L : Addr} (h : s.heap.objs.size ≤ L) : Fre X pins L := by
  have lt : ∀ b o, s.heap.get? b = some o → b ≠ L := fun b o e z => by
    subst z
    exact absurd (Heap.lt_size e) (Nat.not_lt.mpr h)
  refine ⟨Nat.le_trans I.sz h, fun z => ?_, fun x c e => ?_, fun p hp => lt _ _ (I.pin p hp).1, I.nofs h⟩
  · subst z
    exact absurd I.lt (Nat.not_lt.mpr h)
  · obtain ⟨v, o, ho, _⟩ := I.cell x c e
    exact lt _ _ ho
/-- such an object is changed, and is told in the hand layer from now on, or not -/
theorem adopt {L : Addr} {o : HO} {h' : Heap} (I : Inv X pins σ H s) (f : Fre X pins L) (hn : H L = none) (k : ∀ b u, b ≠ L → s.heap.get? b = some u → h'.get? b = some u) (new : ObjOk X.prog X.w (upd H L o) h' L o) : Inv X pins σ (upd H L o) { s with heap := h' } := by
  have ne : ∀ b u, H b = some u → b ≠ L := fun b u e z => by rw [z, hn] at e; cases e
  refine I.step (t' := s.toks) (g' := s.gens) (d' := s.drawn) (ch := [L]) (fun b hb => ?_) (fun b o _ _ hc e _ => k b o (fun z => hc (by simp [z])) e) (fun b o _ _ hc e _ => ⟨o.slots, k b o (fun z => hc (by simp [z])) e⟩) (fun b o hc e n => by rw [upd_ne (fun z => hc (by simp [z]))]; exact n)
    (fun b o hc e => ⟨o, k b o (fun z => hc (by simp [z])) e⟩) (fun b xs e => by rw [upd_ne (ne b _ e)]; exact e) (fun b o u e => by rw [upd_ne (ne b _ e)]; exact e) (fun b ps e => ⟨#[], by rw [upd_ne (ne b _ e), e]; simp⟩) (fun m hm => ?_) (fun b u e => ?_) I.bare
  · have e : b = L := by simpa using hb
    subst e
    exact ⟨.inr f.far, f.loc, f.cel, f.pin⟩
  · obtain ⟨o, es, ep, ho, r⟩ := hm
    exact ⟨o, es, ep, k _ o (Ne.symm f.loc) ho, r⟩
  · by_cases hb : b = L
    · subst hb
      rw [upd_same] at e
      cases e
      exact new
    · rw [upd_ne hb] at e
      refine (I.hok b u e).stay (fun c v hc q => k c v ?_ q) (fun c q => by rw [upd_ne (ne c _ q)]; exact q) fun c xs q => by rw [upd_ne (ne c _ q)]; exact q
      rcases hc with z | z
      · rw [z]; exact hb
      · exact ne c _ z
theorem touched {L : Addr} {h' : Heap} (I : Inv X pins σ H s) (f : Fre X pins L) (hn : H L = none) (k : ∀ b u, b ≠ L → s.heap.get? b = some u → h'.get? b = some u) : Inv X pins σ H { s with heap := h' } :=
  I.turned (t' := s.toks) (fun b o hb e => k b o hb e) hn f.loc (.inr f.far) f.cel f.pin
theorem pinned {L : Addr} {o : Obj} (I : Inv X pins σ H s) (f : Fre X pins L) (hn : H L = none) (h : s.heap.get? L = some o) (nc : ∀ v, o.data ≠ .cell v) : Inv X ((L, o) :: pins) σ H s :=
  I.pins_of fun p hp => by
    rcases List.mem_cons.mp hp with rfl | hp
    · exact ⟨h, hn, f.loc, f.nfs, nc⟩
    · exact I.pin p (List.mem_append_right _ hp)
theorem unpinned {L : Addr} {o : Obj} (I : Inv X ((L, o) :: pins) σ H s) : Inv X pins σ H s := I.pins_of fun p hp => I.pin p (List.mem_append_right _ (List.mem_cons_of_mem _ hp))
theorem vals_at : ∀ {xs : List V} {us : List Value}, Vals xs us → ∀ {j : Nat} {u : Value}, us[j]? = some u → ∃ x, xs[j]? = some x ∧ RelV x u
  | _, _, .nil, j, u, h => by simp at h
  | _, _, .cons h r, 0, u, e => ⟨_, rfl, by
      have := Option.some.inj e
      subst this
      exact h⟩
  | _, _, .cons h r, j + 1, u, e => vals_at r (by simpa using e)
theorem vals_refs : ∀ {Z : List Ent} {us : List Value}, Vals (Z.map fun z => V.ref z.p) us → us = Z.map fun z => Value.ref z.p
  | [], _, h => by cases h; rfl
  | z :: Z, _, h => by
    cases h with
    | cons h r =>
      rw [List.map_cons, ← vals_refs r]
      exact congrArg (· :: _) h
theorem zip_ents : ∀ Z : List Ent, (Z.map fun z => Value.ref z.p).zip (Z.map Ent.u) = Z.map fun z => (Value.ref z.p, z.u)
  | [] => rfl
  | z :: Z => by
    rw [List.map_cons, List.map_cons, List.map_cons, List.zip_cons_cons, zip_ents Z]
theorem vals_ents : ∀ {Z : List Ent}, (∀ z ∈ Z, RelV z.v z.u) → Vals (Z.map Ent.v) (Z.map Ent.u)
  | [], _ => .nil
  | z :: Z, h => .cons (h z List.mem_cons_self) (vals_ents fun y hy => h y (List.mem_cons_of_mem _ hy))
theorem reps_ents {K : PySem.W.Frag} : ∀ {Z : List Ent}, (∀ z ∈ Z, Rep K H z.t z.v) → Reps K H (Z.map Ent.t) (Z.map Ent.v)
  | [], _ => Reps.nil
  | z :: Z, h => Reps.cons (h z List.mem_cons_self) (reps_ents fun y hy => h y (List.mem_cons_of_mem _ hy))
def spKey (K : PySem.W.Frag) : Sp := fun vs H Q _ => ∃ v t, vs = [v] ∧ Rep K H t v ∧ Ok t ∧ size t ≤ 50000 ∧ ∀ p H', H p = none → Ex H H' → KeyL K H' p (pre t) → Q (.ref p) H'
def rSrt (K : PySem.W.Frag) (f : Addr) : List V → List V → Hp → VK → Prop := fun vs zs H Q => ∃ a xs ts, vs = [V.ref a] ∧ zs = [V.ref f] ∧ (SqL K H a xs ∨ SqT K H a xs) ∧ Reps K H ts xs ∧ Oks ts ∧ (∀ t ∈ ts, size t ≤ 50000) ∧ xs.length ≤ 1000 ∧
  ∀ p ys us H', H p = none → Ex H H' → H' p = some (.lst ys) → Reps K H' us ys → us.Perm ts → Rising us → Q (.ref p) H'
theorem cr_srt {k : Nat} {f : Addr} {fd : FuncData} {ps : List Str} (F : FnOk X.prog X.w X.K X.mg X.base CX0 k f fd ps (spKey X.K)) (hb : Binds X.K fd ps []) (hr : Room (k + 2) X.A) : CallRK X (.builtin "sorted") [Str.ofString "key"] (rSrt X.K f) := by
  intro pins s σ H vs zs us ws Q I r rz h
  obtain ⟨a, xs, ts, rfl, rfl, hS, hR, hO, hz0, hx, q⟩ := h
  have hz' : ∀ (t : Tm) {j : Nat}, ts[j]? = some t → size t ≤ 50000 := fun t j e => hz0 t (List.mem_of_getElem? e)
  obtain rfl := Vals.ref1 r
  obtain ⟨w1, rfl, e1⟩ := vals1 rz
  obtain rfl : w1 = Value.ref f := e1
  obtain ⟨its, rv, T, o, n, hT, ho, hc, hd⟩ : ∃ its, Vals xs its ∧ ∃ (T : String) (o : Obj) (n : Nat), (T = "list" ∨ T = "tuple") ∧ s.heap.get? a = some o ∧ o.cls = .type T ∧ o.data = .seq its.toArray n := by
    rcases hS with hS | hS
    · obtain ⟨its, rv, hl, _⟩ := I.list hS
      obtain ⟨o, ho, hc, n, hd⟩ := hl.isList
      exact ⟨its, rv, "list", o, n, .inl rfl, ho, hc, hd⟩
    · obtain ⟨its, rv, ⟨o, ho, hc, n, hd⟩, _⟩ := I.tuple hS
      exact ⟨its, rv, "tuple", o, n, .inr rfl, ho, hc, hd⟩
  have hlen : its.length ≤ 1000 := by rw [← rv.length]; exact hx
  have hsz : its.length ≤ sizeLine := Nat.le_trans hlen (by decide)
  refine call_function_entry_kw kind_sorted plain_sorted entry_sorted (ksk_s1 _ _) ?_
  unfold Builtin.«sorted»
  refine wpAny_bind (m := checkCount "sorted" 1 1 _) (wpAny_pure ?_)
  refine wpAny_bind (wpAny_collect_seq a hT ho hc hd (fun h1 k1 => ?_) (by rw [List.size_toArray]; exact hsz))
  have I1 : Inv X pins σ H { s with heap := h1 } := I.kept (t' := s.toks) k1
  rw [List.toList_toArray]
  refine wpAny_bind (wpAny_newList ?_ hsz)
  have fL : H h1.objs.size = none := I1.hok.fresh (Nat.le_refl _)
  have frL : Fre X pins h1.objs.size := Fre.of I1 (Nat.le_refl _)
  have hoL : (h1.push (seqObj "list" its.toArray 0)).get? h1.objs.size = some (seqObj "list" its.toArray 0) := Heap.get?_push_size _ rfl
  have I2 : Inv X pins σ H { s with heap := h1.push (seqObj "list" its.toArray 0) } := I1.kept (t' := s.toks) fun b u e => Heap.get?_push_of_some _ e
  generalize h1.objs.size = L at *
  refine wpAny_bind (wpAny_holding (wpAny_call_entry_kw slot_list_sort ⟨_, hoL, rfl⟩ entry_list_sort ?body (ksk_l1 _ _)))
  case body =>
    show wpAny (model X.prog X.w) X.A.in1.in1 (Builtin.«list.sort» ⟨[.ref L], [(Str.ofString "key", .ref f)]⟩) _ _ _
    rw [ksk_t1]
    unfold ksk_tree
    refine wpAny_bind (listItems_at hoL rfl ?_)
    refine wpAny_bind (listUpdate_at hoL rfl ?_ (by rw [List.size_toArray]; exact hsz) (Nat.zero_le _))
    obtain ⟨e1, ho1⟩ : ∃ e1, ((h1.push (seqObj "list" its.toArray 0)).update L (Obj.mapSeq fun _ => (#[] : Array Value))).get? L = some (seqObj "list" #[] e1) := ⟨_, get?_update_seq hoL fun _ => #[]⟩
    have I3 : Inv X pins σ H { s with heap := (h1.push (seqObj "list" its.toArray 0)).update L (Obj.mapSeq fun _ => (#[] : Array Value)) }     := touched (s := { s with heap := h1.push (seqObj "list" its.toArray 0) }) I2 frL fL fun b u hb hu => (Heap.get?_update_ne _ _ _ _ hb).trans hu
    refine wpAny_bind (seqEpoch_at ho1 rfl ?_)
    generalize (h1.push (seqObj "list" its.toArray 0)).update L (Obj.mapSeq fun _ => (#[] : Array Value)) = h3 at *
    refine wpAny_bind (wpAny_newTuple ?_ (by rw [List.toList_toArray]; exact hsz))
    refine wpAny_bind (wpAny_newList ?_ (Nat.zero_le _))
    refine wpAny_holding ?_
    rw [List.toList_toArray]
    have I4 : Inv X pins σ H { s with heap := h3.push (seqObj "tuple" its.toArray 0) } := I3.kept (t' := s.toks) fun b u e => Heap.get?_push_of_some _ e
    have ho4 : (h3.push (seqObj "tuple" its.toArray 0)).get? L = some (seqObj "list" #[] e1) := Heap.get?_push_of_some _ ho1
    generalize hh4 : h3.push (seqObj "tuple" its.toArray 0) = h4 at *
    have I4 := pinned I4 frL fL ho4 (fun v z => by cases z)
    have fK : H h4.objs.size = none := I4.hok.fresh (Nat.le_refl _)
    have hoK : (h4.push (seqObj "list" #[] 0)).get? h4.objs.size = some (seqObj "list" #[] 0) := Heap.get?_push_size _ rfl
    have I5 : Inv X ((L, seqObj "list" #[] e1) :: pins) σ (upd H h4.objs.size (.lst [])) { s with heap := h4.push (seqObj "list" #[] 0) } := I4.laid (t' := s.toks) (fun b u e => Heap.get?_push_of_some _ e) (Nat.le_refl _) ⟨Nat.zero_le _, [], 0, .nil, hoK⟩
    have hLK : L ≠ h4.objs.size := Nat.ne_of_lt (Heap.lt_size ho4)
    generalize h4.objs.size = kS at *
    unfold ksk_rest
    refine wpAny_bind (wpAny_rule ?_)
    rw [List.forIn_toArray]
    refine wpAny_bind (ksk_fold (fun j s' => ∃ (H' : Hp) (Z : List Ent), Inv X ((L, seqObj "list" #[] e1) :: pins) σ H' s' ∧ Ex H H' ∧ H' kS = some (.lst (Z.map fun z => V.ref z.p)) ∧ Z.map Ent.t = ts.take j ∧ Z.map Ent.u = its.take j ∧ (Z.map Ent.p).Nodup ∧ ∀ z ∈ Z, z.p ≠ kS ∧ KeyL X.K H' z.p (pre z.t) ∧ Rep X.K H z.t z.v ∧ RelV z.v z.u) its 0 _ ?init ?step ?done)
    case init =>
      exact ⟨_, [], I5, Ex.new fK, upd_same, rfl, rfl, List.nodup_nil, fun z hz => by cases hz⟩
    case step =>
      rintro j u s' hju ⟨H', Z, I', eH, hK', zt, zu, nd, hz⟩
      simp only [Nat.zero_add] at zt zu ⊢
      obtain ⟨x, hxj, hxu⟩ := vals_at rv hju
      obtain ⟨t, htj, hrt⟩ := hR.get hxj
      refine wpAny_bind (wpAny_attempt (wpAny_mono (run2 (Q := fun v H2 => ∃ p, v = .ref p ∧ H' p = none ∧ Ex H' H2 ∧ KeyL X.K H2 p (pre t)) F (hr.in1.in1) hb I' (.cons hxu .nil) ⟨x, t, rfl, hrt.mono (Tups.of eH), oks_get hO htj, hz' t htj, fun p H2 hp e2 hk => ⟨p, rfl, hp, e2, hk⟩⟩) (fun kv s2 he => ?_) fun _ _ hF => hF.elim))
      obtain ⟨v, H2, I6, rkv, p, rfl, hp, e2, hky⟩ := he
      have hK2 := e2 _ _ hK'
      have zlen : Z.length = j := by
        have := congrArg List.length zu
        rw [List.length_map, List.length_take] at this
        have hj : j < its.length := (List.getElem?_eq_some_iff.mp hju).1
        omega
      have hj : j < its.length := (List.getElem?_eq_some_iff.mp hju).1
      obtain ⟨hz2, kis, kn, kv2, hgK⟩ := I6.hok _ _ hK2
      obtain ⟨c2, hc2⟩ : ∃ c2, (s2.heap.update kS (Obj.mapSeq (·.push kv))).get? kS = some (seqObj "list" (kis.toArray.push kv) c2) := ⟨_, get?_update_seq hgK (·.push kv)⟩
      have kl : kis.length = j := by
        rw [← kv2.length, List.length_map, zlen]
      have e3 : kis.toArray.push kv = (kis ++ [kv]).toArray := by simp
      rw [e3] at hc2
      refine wpAny_bind (listUpdate_at hgK rfl ?_ (by rw [List.size_toArray, kl]; omega) (by rw [Array.size_push, List.size_toArray, kl]; omega))
      have hpK : p ≠ kS := (ne_of_none hK' hp).symm
      have I7 : Inv X ((L, seqObj "list" #[] e1) :: pins) σ (upd H2 kS (.lst ((Z ++ [(⟨p, x, u, t⟩ : Ent)]).map fun z => V.ref z.p))) { s2 with heap := s2.heap.update kS (Obj.mapSeq (·.push kv)) } :=
        I6.write (e := kS) (t' := s2.toks) (by rw [hK2]; trivial) (.inl rfl) (fun b u hb hu => (Heap.get?_update_ne _ _ _ _ hb).trans hu) ⟨_, hc2⟩ ⟨by rw [List.length_map, List.length_append, zlen]; show j + 1 ≤ _; omega, kis ++ [kv], c2, by rw [List.map_append]; exact kv2.append (.cons rkv .nil), hc2⟩
      refine wpAny_pure ⟨rfl, _, Z ++ [⟨p, x, u, t⟩], I7, Ex.mut (eH.trans e2) fK, upd_same, ?_, ?_, ?_, fun z hm => ?_⟩
      · rw [List.map_append, zt, List.take_add_one, htj]
        rfl
      · rw [List.map_append, zu, List.take_add_one, hju]
        rfl
      · rw [List.map_append, List.nodup_append]
        refine ⟨nd, by simp, fun y hy z hzz e => ?_⟩
        simp only [List.map_cons, List.map_nil, List.mem_singleton] at hzz
        subst hzz
        subst e
        obtain ⟨y, hy1, hy2⟩ := List.mem_map.mp hy
        obtain ⟨_, ⟨ws, hk, _⟩, _⟩ := hz y hy1
        rw [hy2, hp] at hk
        cases hk
      · rcases List.mem_append.mp hm with hm | hm
        · obtain ⟨a1, a3, a4, a5⟩ := hz z hm
          exact ⟨a1, (a3.ex e2).put hK2 a1, a4, a5⟩
        · have := List.mem_singleton.mp hm
          subst this
          exact ⟨hpK, hky.put hK2 hpK, hrt, hxu⟩
    case done =>
      rintro s' ⟨H', Z, I', eH, hK', zt, zu, nd, hz⟩
      simp only [Nat.zero_add] at zt zu
      have lts : ts.length = its.length := by rw [hR.len, rv.length]
      rw [List.take_of_length_le (by omega)] at zt zu
      obtain ⟨hz2, kis, kn, kv2, hgK⟩ := I'.hok _ _ hK'
      have ek := vals_refs kv2
      have lK : kis.length = its.length := by rw [ek, ← zu, List.length_map, List.length_map]
      obtain ⟨hgL, nL, _⟩ := I'.pin (L, seqObj "list" #[] e1) (List.mem_append_right _ List.mem_cons_self)
      have ez : (kis.toArray.zip its.toArray).toList = Z.map fun z => (Value.ref z.p, z.u) := by
        rw [ksk_zip, List.toList_toArray, ek, ← zu, zip_ents]
      have rd : ∀ z ∈ Z, ∃ as, Reads s'.heap (.ref z.p) (.list ((pre z.t).map hdD)) as := fun z hm => Dp.reads I' _ _ _ (hz z hm).2.1.dp rfl
      have okz : ∀ z ∈ Z, Ok z.t := fun z hm => by
        have : z.t ∈ ts := by rw [← zt]; exact List.mem_map_of_mem hm
        obtain ⟨i, hi, e⟩ := List.getElem_of_mem this
        exact oks_get hO (by rw [List.getElem?_eq_getElem hi, e])
      refine wpAny_bind (listItems_at hgK rfl ?_)
      refine srt_end (P := fun p => ∃ z ∈ Z, p.1 = .ref z.p) (lt := ltK Z) (ltK_swo Z) hLK.symm (by rw [List.size_toArray]; exact hsz) (by rw [List.size_toArray, List.size_toArray, lK]) hgK hgL (fun _ => ?_) (fun p hp => ?_) (fun v hv => ?_) fun out h1 h2 => ?_
      · rintro x y ⟨z, z1, z2⟩ ⟨z', z1', z2'⟩
        show wpAny _ _ (keyLt' oneType' x.1 y.1) (fun r s'' => s'' = s' ∧ r = ltK Z x y) _ s'
        have el : ltK Z x y = decide (kC (kcode z.t) (kcode z'.t) < 0) := by
          unfold ltK
          rw [z2, z2', code_at nd z1, code_at nd z1']
        rw [z2, z2', keyLt'_oneType, oneLt'_eq, el]
        simp only [if_true]
        obtain ⟨as, r1⟩ := rd z z1
        obtain ⟨bs, r2⟩ := rd z' z1'
        have un := hr.un
        have du : X.A.in1.in1.units = X.A.units + 2 := rfl
        cases r1 with
        | @list p1 o1 vs1 n1 _ as1 a1 a2 a3 a4 =>
          cases r2 with
          | @list p2 o2 vs2 n2 _ as2 b1 b2 b3 b4 =>
            refine wpAny_bind (wpAny_cRoomFor (by rw [du]; omega) ?_)
            refine wpAny_bind (wpAny_callSpecialIfBound?_slot (T := "list") ⟨_, a1, a2⟩ PySem.F.slot_list_lt (call_lst ⟨o1, a1, a2, n1, a3⟩ ⟨o2, b1, b2, n2, b3⟩ (heads_dec (A := X.A.in1.in1.in1) (by show X.A.units + 3 + 2 < _; omega) _ _ _ _ _ _ (ok_pre (okz z z1)) (ok_pre (okz z' z1')) a4 b4) ?_))
            exact wpAny_truthy_bool ⟨rfl, rfl⟩
      · rw [ez] at hp
        obtain ⟨z, hm, e⟩ := List.mem_map.mp hp
        exact ⟨z, hm, by rw [← e]⟩
      · rw [List.toList_toArray, ek] at hv
        obtain ⟨z, hm, e⟩ := List.mem_map.mp hv
        obtain ⟨as, r1⟩ := rd z hm
        rw [← e]
        exact looks_reads r1
      · rw [ez] at h2
        obtain ⟨Z', pZ, eZ⟩ := perm_back h2.perm Z rfl
        have hz3 : ∀ z ∈ Z', z ∈ Z := fun z hm => pZ.mem_iff.mp hm
        have eo : (out.map (·.2)) = Z'.map Ent.u := by rw [eZ, List.map_map]; rfl
        have lZ : Z'.length = its.length := by rw [pZ.length_eq, ← zu, List.length_map]
        obtain ⟨c2, hc2⟩ : ∃ c2, (s'.heap.update kS (Obj.mapSeq fun _ => (#[] : Array Value))).get? kS = some (seqObj "list" #[] c2) := ⟨_, get?_update_seq hgK fun _ => #[]⟩
        have I8 : Inv X pins σ (upd H' kS (.lst [])) { s' with heap := s'.heap.update kS (Obj.mapSeq fun _ => (#[] : Array Value)) } :=
          (unpinned I').write (e := kS) (t' := s'.toks) (by rw [hK']; trivial) (.inl rfl) (fun b u hb hu => (Heap.get?_update_ne _ _ _ _ hb).trans hu) ⟨_, hc2⟩ ⟨Nat.zero_le _, [], c2, .nil, hc2⟩
        have hgL8 : (s'.heap.update kS (Obj.mapSeq fun _ => (#[] : Array Value))).get? L = some (seqObj "list" #[] e1) := (Heap.get?_update_ne _ _ _ _ hLK).trans hgL
        have nL8 : upd H' kS (.lst []) L = none := by rw [upd_ne hLK]; exact nL
        obtain ⟨c3, hc3⟩ : ∃ c3, ((s'.heap.update kS (Obj.mapSeq fun _ => (#[] : Array Value))).update L (Obj.mapSeq fun _ => (out.map (·.2)).toArray)).get? L = some (seqObj "list" (out.map (·.2)).toArray c3) := ⟨_, get?_update_seq hgL8 fun _ => (out.map (·.2)).toArray⟩
        have I9 : Inv X pins σ (upd (upd H' kS (.lst [])) L (.lst (Z'.map Ent.v))) { s' with heap := (s'.heap.update kS (Obj.mapSeq fun _ => (#[] : Array Value))).update L (Obj.mapSeq fun _ => (out.map (·.2)).toArray) } :=
          adopt (s := { s' with heap := s'.heap.update kS (Obj.mapSeq fun _ => (#[] : Array Value)) }) I8 frL nL8 (fun b u hb hu => (Heap.get?_update_ne _ _ _ _ hb).trans hu) ⟨by rw [List.length_map, lZ]; exact hsz, out.map (·.2), c3, by rw [eo]; exact vals_ents fun z hm => (hz z (hz3 z hm)).2.2.2, hc3⟩
        have eH9 : Ex H (upd (upd H' kS (.lst [])) L (.lst (Z'.map Ent.v))) := Ex.mut (Ex.mut eH fK) fL
        refine ⟨_, rfl, wpAny_pure ⟨_, rfl, .ref L, _, I9, rfl, q L _ (Z'.map Ent.t) _ fL eH9 upd_same (reps_ents fun z hm => (hz z (hz3 z hm)).2.2.1.mono (Tups.of eH9)) (by rw [← zt]; exact pZ.map _) ?_⟩⟩
        have h1' := h1
        unfold Srtd at h1'
        rw [eZ, List.pairwise_map] at h1'
        refine List.pairwise_map.mpr (h1'.imp_of_mem fun {x y} hx hy g => ?_)
        unfold ltK at g
        have g2 := of_decide_eq_false g
        rw [code_at nd (hz3 y hy), code_at nd (hz3 x hx), ord_key] at g2
        have g3 := tord_ok.anti x.t y.t
        omega
end
end Hm

set_option Elab.async false
set_option linter.all false
set_option maxRecDepth 100000
set_option maxHeartbeats 4000000
namespace Hm
open PySem PySem.Spec PySem.W PyProof.Rows SrtO L2 HT LamX
open Evl (Ex)
section
variable {X : Cx} {pins : List (Addr × Obj)} {σ : L2.St} {H : Hp} {s : Shared}
/-- a lambda of one parameter, called by sorted's own -/
theorem run_lam {k : Nat} {a q : Str} {N : List Str} {params : Arguments} {body : Expr} {scope : Scope} {f c' : Addr} {pm ctv : Value} {tb : TE} {x : V} {u : Value} {Q : VK}
    (S : FnScope N [a] scope) (hbind : ∀ u : Value, bindArgs (PySem.W.kla_fn "<lambda>" q params body scope [] pm (.ref c') ctv) ⟨[u], []⟩ = pure [(a, u)])
    (I : Inv X pins σ H s) (hf : s.heap.get? f = some (PySem.W.kla_obj "<lambda>" q params body scope [] pm c' ctv)) (hc : H c' = some (CodeO c' q)) (hr : Room (k + 1) X.A.in1.in1) (r : RelV x u)
    (hbody : ∀ (A : Around) (outer : List Env) (s : Shared) (H : Hp), Room k (A.deeper (envOfC q scope s.heap.objs.size f (.ref c'))) → PE (cxOf CX0 X.prog X.w X.K X.mg X.base N q scope f (.ref c') A outer s H E0) body tb)
    (h : tb (start N [x]) H Q) :
    wpAny (model X.prog X.w) X.A.in1.in1 (call (.ref f) [u]) (EP X pins σ Q) (fun _ _ => False) s := by
  obtain ⟨⟨oc, vs, t, hoc, hdc, hvc⟩, _, _⟩ := I.hok c' _ hc
  have e0 := I.env0.in1.in1
  have lim : s.heap.NoLimit := I.nolimit
  have hkind : ∀ y ∈ [a].zip [u], scope.names.lookup y.1 = some .local ∨ (scope.names.lookup y.1 = some .cell ∧ ((cellsFrom (s.heap.objs.size + 1) scope.names []).lookup y.1).isSome = true) := fun ⟨n, v⟩ hy => by
    rcases S.par n (List.of_mem_zip hy).1 with q | q
    · exact .inl q
    · exact .inr ⟨q, PySem.W.cellsFrom_some _ _ _ (.inl q)⟩
  have rc : codeAny (model X.prog X.w) X.A.in1.in1 (.call (.ref f) ⟨[u], []⟩) (CR CX0 X.stack X.prog X.w H s Q E0) s := by
    refine PySem.W.kla_callFunE hr.depth hf rfl S.co S.gen rfl ⟨c', oc, vs, t, rfl, hoc, hdc, hvc⟩ ?_
    rw [hbind]
    refine wpAny_pure (wpAny_newFunctionEnv_cells S.kind hkind fun env he s1 y => ?_)
    subst he
    refine ⟨lim.keeps y.toInCall.keep, ?_⟩
    have J := inv_start (CX := CX0) (E := E0) (vs := [x]) (us := [u]) S hr.hd e0 rfl (.cons r .nil) y
    refine PySem.W.kla_codeExpr (wpAny_mono ((hbody _ _ s H (hr.deeper _)).run [] _ _ H Q J h) (fun v s' hq => ?_) fun e s' hq => hq)
    obtain ⟨w', H', J', rv, q⟩ := hq
    exact ⟨w', H', J'.os, J'.bare, J'.base, J'.hok, rv, q⟩
  refine wpAny_call (codeAny_mono rc fun r s' hq => ?_)
  match r, hq with
  | .error e, hq => exact hq.elim
  | .ok (.ret u), hq => exact I.after hq
  | .ok .next, hq => exact hq.elim
  | .ok .brk, hq => exact hq.elim
  | .ok .cont, hq => exact hq.elim
end
section
variable {prog : Program} {w : World} {A : Around} {E : Value → Shared → Prop} {s : Shared}
/-- the sorting itself, where the keys are whole numbers -/
theorem srt_endI {a kS : Addr} {its keys : Array Value} {kz : List Int} {e e1 : Nat} {R : PySem.Fin → Shared → Prop} (hI : IntsAre keys.toList kz) (hka : kS ≠ a) (hz : its.size ≤ sizeLine) (hkz : keys.size = its.size)
    (nk : s.heap.get? kS = some (seqObj "list" keys e)) (na : s.heap.get? a = some (seqObj "list" #[] e1))
    (h : ∀ out : List Keyed, Srtd (lt2 ltIv) out → Stb (lt2 ltIv) out (keys.zip its).toList → R (.done (.ret .none)) { s with heap := (s.heap.update kS (Obj.mapSeq fun _ => #[])).update a (Obj.mapSeq fun _ => (out.map (·.2)).toArray) }) :
    wpAny (model prog w) A (ksk_end a false its e1 (.ref kS) keys) R E s := by
  have pz : (keys.zip its).size = its.size := by rw [Array.size_zip, hkz, Nat.min_self]
  have last : ∀ st : SortSt, failedOf st = none → Srtd (lt2 ltIv) (arrOf st).toList → Stb (lt2 ltIv) (arrOf st).toList (keys.zip its).toList → wpAny (model prog w) A (ksk_tail a false e1 (.ref kS) st) R E s := by
    intro st hf h1 h2
    have sz : (arrOf st).size = its.size := by
      have := h2.len
      rw [Array.length_toList, Array.length_toList, pz] at this
      exact this
    have na1 : (s.heap.update kS (Obj.mapSeq fun _ => (#[] : Array Value))).get? a = some (seqObj "list" #[] e1) := (Heap.get?_update_ne _ _ _ _ hka.symm).trans na
    unfold ksk_tail
    try dsimp only
    refine wpAny_bind (listUpdate_at nk rfl ?_ (by rw [hkz]; exact hz) (Nat.zero_le _))
    refine wpAny_bind (wpAny_letGo ?_)
    refine wpAny_bind (seqEpoch_at na1 rfl ?_)
    refine wpAny_bind (listUpdate_at na1 rfl ?_ (Nat.zero_le _) (by show ((arrOf st).map _).size ≤ _; rw [Array.size_map, sz]; omega))
    rw [hf]
    simp only [bne_self_eq_false, Bool.false_eq_true, if_false]
    have r := h _ h1 h2
    rw [← Array.toList_map, Array.toArray_toList] at r
    exact wpAny_pure r
  unfold ksk_end
  try dsimp only
  simp only [Bool.false_eq_true, if_false]
  by_cases h2 : its.size < 2
  · rw [if_pos h2, if_pos h2]
    refine wpAny_bind (wpAny_pure ?_)
    rw [StateT.run_pure]
    refine wpAny_bind (wpAny_pure ?_)
    try dsimp only
    refine last (SortSt.mk' general' (keys.zip its) #[] 7 none) rfl ?_ (Stb.refl _)
    show Srtd (lt2 ltIv) (keys.zip its).toList
    have l1 : (keys.zip its).toList.length < 2 := by rw [Array.length_toList, pz]; exact h2
    match (keys.zip its).toList, l1 with
    | [], _ => exact List.Pairwise.nil
    | [x], _ => exact List.pairwise_singleton _ _
    | x :: y :: r, l1 => exact absurd l1 (by simp)
  · rw [if_neg h2, if_neg h2]
    rw [ksk_kind hI (by omega)]
    refine wpAny_bind (wpAny_pure ?_)
    have hP : AllL (fun p : Keyed => p.1 ∈ keys.toList) (keys.zip its).toList := fun p hp => by
      have e3 : (keys.zip its).toList = keys.toList.zip its.toList := by
        have := ksk_zip keys its.toList
        rw [Array.toArray_toList] at this
        exact this
      rw [e3] at hp
      exact (List.of_mem_zip hp).1
    refine wpAny_bind (wpAny_mono (wpS_sortO (st0 := SortSt.mk' oneType' (keys.zip its) #[] 7 none) (Q := fun _ st' => Srtd (lt2 ltIv) (arrOf st').toList ∧ Stb (lt2 ltIv) (arrOf st').toList (keys.zip its).toList ∧ failedOf st' = none) (swo2 swo_int) (int_cmp hI) rfl hP rfl rfl fun st' a1 a2 a3 => ⟨a1, a2, a3⟩) ?_ fun _ _ q => q)
    rintro ⟨⟨⟩, st'⟩ s' ⟨rfl, p1, p2, p3⟩
    try dsimp only
    exact last st' p3 p1 p2
end
/-- an item: its key, its value in the hand layer, in the heap -/
structure En where
  k : Int
  v : V
  u : Value
theorem vals_en : ∀ {Z : List En}, (∀ z ∈ Z, RelV z.v z.u) → Vals (Z.map En.v) (Z.map En.u)
  | [], _ => .nil
  | z :: Z, h => .cons (h z List.mem_cons_self) (vals_en fun y hy => h y (List.mem_cons_of_mem _ hy))
theorem zip_en : ∀ Z : List En, (Z.map En.k).zip (Z.map En.u) = Z.map fun z => (z.k, z.u)
  | [] => rfl
  | z :: Z => by rw [List.map_cons, List.map_cons, List.map_cons, List.zip_cons_cons, zip_en Z]
section
variable {X : Cx} {pins : List (Addr × Obj)} {σ : L2.St} {H : Hp} {s : Shared}
theorem srt_lam {k : Nat} {a0 q0 : Str} {N : List Str} {params : Arguments} {body : Expr} {scope : Scope} {f c' : Addr} {pm ctv : Value} {tb : TE} {a : Addr} {es : List (Int × V)} {Q : VK}
    (S : FnScope N [a0] scope) (hbind : ∀ u : Value, bindArgs (PySem.W.kla_fn "<lambda>" q0 params body scope [] pm (.ref c') ctv) ⟨[u], []⟩ = pure [(a0, u)])
    (I : Inv X pins σ H s) (hf : s.heap.get? f = some (PySem.W.kla_obj "<lambda>" q0 params body scope [] pm c' ctv)) (hfn : H f = none) (hfr : f ∉ frs X.stack) (hc : H c' = some (CodeO c' q0)) (hr : Room (k + 3) X.A)
    (hbody : ∀ (A : Around) (outer : List Env) (s : Shared) (H : Hp), Room k (A.deeper (envOfC q0 scope s.heap.objs.size f (.ref c'))) → PE (cxOf CX0 X.prog X.w X.K X.mg X.base N q0 scope f (.ref c') A outer s H E0) body tb)
    (hS : SqL X.K H a (es.map (·.2))) (hz0 : es.length ≤ 1000)
    (ht : ∀ e ∈ es, ∀ H', Ex H H' → ∀ Q : VK, Q (.int e.1) H' → tb (start N [e.2]) H' Q)
    (q : ∀ (p : Addr) (es' : List (Int × V)) (H' : Hp), H p = none → Ex H H' → H' p = some (.lst (es'.map (·.2))) → es'.Perm es → es'.Pairwise (fun x y => x.1 ≤ y.1) → Q (.ref p) H') :
    wpAny (model X.prog X.w) X.A (call (.builtin "sorted") [.ref a] [(Str.ofString "key", .ref f)]) (EP X pins σ Q) X.xe s := by
  obtain ⟨its, rv, hl, _⟩ := I.list hS
  obtain ⟨o, ho, hc0, n, hd⟩ := hl.isList
  have hlen : its.length = es.length := by rw [← rv.length, List.length_map]
  have hsz : its.length ≤ sizeLine := Nat.le_trans (by omega) (show 1000 ≤ sizeLine by decide)
  have hsub : ∀ b, b ∈ X.fs → b ∈ frs X.stack := fun b hb => by
    rcases I.ok.stk with e | ⟨e, _⟩
    · rw [e]; exact hb
    · rw [e]
      unfold frs
      rw [List.filterMap_cons]
      split
      · exact hb
      · exact List.mem_cons_of_mem _ hb
  have hfl : f ≠ X.env.locals := fun z => by
    obtain ⟨m, ⟨o', es', ep, ho', hd', _⟩, _⟩ := I.loc
    rw [z, ho'] at hf
    cases hf
    cases hd'
  have I := (show Inv X ((f, _) :: pins) σ H s from I.pins_of fun p hp => by
    rcases List.mem_cons.mp hp with rfl | hp
    · exact ⟨hf, hfn, hfl, fun z => hfr (hsub _ z), fun v z => by cases z⟩
    · exact I.pin p (List.mem_append_right _ hp))
  refine wpAny_mono (Q := EP X ((f, PySem.W.kla_obj "<lambda>" q0 params body scope [] pm c' ctv) :: pins) σ Q) ?main (fun u s' ⟨v, H', J, r, g⟩ => ⟨v, H', unpinned J, r, g⟩) fun _ _ z => z
  refine call_function_entry_kw kind_sorted plain_sorted entry_sorted (ksk_s1 _ _) ?_
  unfold Builtin.«sorted»
  refine wpAny_bind (m := checkCount "sorted" 1 1 _) (wpAny_pure ?_)
  refine wpAny_bind (wpAny_collect_seq a (.inl rfl) ho hc0 hd (fun h1 k1 => ?_) (by rw [List.size_toArray]; exact hsz))
  have I1 : Inv X ((f, PySem.W.kla_obj "<lambda>" q0 params body scope [] pm c' ctv) :: pins) σ H { s with heap := h1 } := I.kept (t' := s.toks) k1
  rw [List.toList_toArray]
  refine wpAny_bind (wpAny_newList ?_ hsz)
  have fL : H h1.objs.size = none := I1.hok.fresh (Nat.le_refl _)
  have frL := Fre.of I1 (Nat.le_refl _)
  have hoL : (h1.push (seqObj "list" its.toArray 0)).get? h1.objs.size = some (seqObj "list" its.toArray 0) := Heap.get?_push_size _ rfl
  have I2 : Inv X ((f, PySem.W.kla_obj "<lambda>" q0 params body scope [] pm c' ctv) :: pins) σ H { s with heap := h1.push (seqObj "list" its.toArray 0) } := I1.kept (t' := s.toks) fun b u e => Heap.get?_push_of_some _ e
  generalize hPP : ((f, PySem.W.kla_obj "<lambda>" q0 params body scope [] pm c' ctv) :: pins) = PP at *
  have hfP : (f, PySem.W.kla_obj "<lambda>" q0 params body scope [] pm c' ctv) ∈ PP := by rw [← hPP]; exact List.mem_cons_self
  generalize h1.objs.size = L at *
  refine wpAny_bind (wpAny_holding (wpAny_call_entry_kw slot_list_sort ⟨_, hoL, rfl⟩ entry_list_sort ?body (ksk_l1 _ _)))
  case body =>
    show wpAny (model X.prog X.w) X.A.in1.in1 (Builtin.«list.sort» ⟨[.ref L], [(Str.ofString "key", .ref f)]⟩) _ _ _
    rw [ksk_t1]
    unfold ksk_tree
    refine wpAny_bind (listItems_at hoL rfl ?_)
    refine wpAny_bind (listUpdate_at hoL rfl ?_ (by rw [List.size_toArray]; exact hsz) (Nat.zero_le _))
    obtain ⟨e1, ho1⟩ : ∃ e1, ((h1.push (seqObj "list" its.toArray 0)).update L (Obj.mapSeq fun _ => (#[] : Array Value))).get? L = some (seqObj "list" #[] e1) := ⟨_, get?_update_seq hoL fun _ => #[]⟩
    have I3 : Inv X PP σ H { s with heap := (h1.push (seqObj "list" its.toArray 0)).update L (Obj.mapSeq fun _ => (#[] : Array Value)) }     := touched (s := { s with heap := h1.push (seqObj "list" its.toArray 0) }) I2 frL fL fun b u hb hu => (Heap.get?_update_ne _ _ _ _ hb).trans hu
    refine wpAny_bind (seqEpoch_at ho1 rfl ?_)
    generalize (h1.push (seqObj "list" its.toArray 0)).update L (Obj.mapSeq fun _ => (#[] : Array Value)) = h3 at *
    refine wpAny_bind (wpAny_newTuple ?_ (by rw [List.toList_toArray]; exact hsz))
    refine wpAny_bind (wpAny_newList ?_ (Nat.zero_le _))
    refine wpAny_holding ?_
    rw [List.toList_toArray]
    have I4 : Inv X PP σ H { s with heap := h3.push (seqObj "tuple" its.toArray 0) } := I3.kept (t' := s.toks) fun b u e => Heap.get?_push_of_some _ e
    have ho4 : (h3.push (seqObj "tuple" its.toArray 0)).get? L = some (seqObj "list" #[] e1) := Heap.get?_push_of_some _ ho1
    generalize hh4 : h3.push (seqObj "tuple" its.toArray 0) = h4 at *
    have I4 := pinned I4 frL fL ho4 (fun v z => by cases z)
    have fK : H h4.objs.size = none := I4.hok.fresh (Nat.le_refl _)
    have hoK : (h4.push (seqObj "list" #[] 0)).get? h4.objs.size = some (seqObj "list" #[] 0) := Heap.get?_push_size _ rfl
    have I5 : Inv X ((L, seqObj "list" #[] e1) :: PP) σ (upd H h4.objs.size (.lst [])) { s with heap := h4.push (seqObj "list" #[] 0) } := I4.laid (t' := s.toks) (fun b u e => Heap.get?_push_of_some _ e) (Nat.le_refl _) ⟨Nat.zero_le _, [], 0, .nil, hoK⟩
    have hLK : L ≠ h4.objs.size := Nat.ne_of_lt (Heap.lt_size ho4)
    generalize h4.objs.size = kS at *
    unfold ksk_rest
    refine wpAny_bind (wpAny_rule ?_)
    rw [List.forIn_toArray]
    refine wpAny_bind (ksk_fold (fun j s' => ∃ (H' : Hp) (Z : List En), Inv X ((L, seqObj "list" #[] e1) :: PP) σ H' s' ∧ Ex H H' ∧ H' kS = some (.lst (Z.map fun z => V.int z.k)) ∧ Z.map (fun z => (z.k, z.v)) = es.take j ∧ Z.map En.u = its.take j ∧ ∀ z ∈ Z, RelV z.v z.u) its 0 _ ?init ?step ?done)
    case init =>
      exact ⟨_, [], I5, Ex.new fK, upd_same, rfl, rfl, fun z hz => by cases hz⟩
    case step =>
      rintro j u s' hju ⟨H', Z, I', eH, hK', zt, zu, hz⟩
      simp only [Nat.zero_add] at zt zu ⊢
      obtain ⟨x, hxj, hxu⟩ := vals_at rv hju
      obtain ⟨en, hen, hex⟩ : ∃ en, es[j]? = some en ∧ en.2 = x := by
        rw [List.getElem?_map] at hxj
        cases he : es[j]? with
        | none => rw [he] at hxj; cases hxj
        | some en =>
          rw [he] at hxj
          exact ⟨en, rfl, Option.some.inj hxj⟩
      subst hex
      have hpin := (I'.pin _ (List.mem_append_right _ (List.mem_cons_of_mem _ hfP))).1
      refine wpAny_bind (wpAny_attempt (wpAny_mono (run_lam (Q := fun v H2 => v = .int en.1 ∧ H2 = H') S hbind I' hpin (eH _ _ hc) (hr.in1.in1) hxu hbody (ht en (List.mem_of_getElem? hen) H' eH _ ⟨rfl, rfl⟩)) (fun kv s2 he => ?_) fun _ _ hF => hF.elim))
      obtain ⟨v, H2, I6, rkv, rfl, rfl⟩ := he
      have zlen : Z.length = j := by
        have := congrArg List.length zu
        rw [List.length_map, List.length_take] at this
        have hj : j < its.length := (List.getElem?_eq_some_iff.mp hju).1
        omega
      have hj : j < its.length := (List.getElem?_eq_some_iff.mp hju).1
      obtain ⟨hz2, kis, kn, kv2, hgK⟩ := I6.hok _ _ hK'
      obtain ⟨c2, hc2⟩ : ∃ c2, (s2.heap.update kS (Obj.mapSeq (·.push kv))).get? kS = some (seqObj "list" (kis.toArray.push kv) c2) := ⟨_, get?_update_seq hgK (·.push kv)⟩
      have kl : kis.length = j := by
        rw [← kv2.length, List.length_map, zlen]
      have e3 : kis.toArray.push kv = (kis ++ [kv]).toArray := by simp
      rw [e3] at hc2
      refine wpAny_bind (listUpdate_at hgK rfl ?_ (by rw [List.size_toArray, kl]; omega) (by rw [Array.size_push, List.size_toArray, kl]; omega))
      have I7 : Inv X ((L, seqObj "list" #[] e1) :: PP) σ (upd H2 kS (.lst ((Z ++ [(⟨en.1, en.2, u⟩ : En)]).map fun z => V.int z.k))) { s2 with heap := s2.heap.update kS (Obj.mapSeq (·.push kv)) } :=
        I6.write (e := kS) (t' := s2.toks) (by rw [hK']; trivial) (.inl rfl) (fun b u hb hu => (Heap.get?_update_ne _ _ _ _ hb).trans hu) ⟨_, hc2⟩ ⟨by rw [List.length_map, List.length_append, zlen]; show j + 1 ≤ _; omega, kis ++ [kv], c2, by rw [List.map_append]; exact kv2.append (.cons rkv .nil), hc2⟩
      refine wpAny_pure ⟨rfl, _, Z ++ [⟨en.1, en.2, u⟩], I7, Ex.mut eH fK, upd_same, ?_, ?_, fun z hm => ?_⟩
      · rw [List.map_append, zt, List.take_add_one, hen]
        rfl
      · rw [List.map_append, zu, List.take_add_one, hju]
        rfl
      · rcases List.mem_append.mp hm with hm | hm
        · exact hz z hm
        · have := List.mem_singleton.mp hm
          subst this
          exact hxu
    case done =>
      rintro s' ⟨H', Z, I', eH, hK', zt, zu, hz⟩
      simp only [Nat.zero_add] at zt zu
      rw [List.take_of_length_le (by omega)] at zt
      rw [List.take_of_length_le (by omega)] at zu
      obtain ⟨hz2, kis, kn, kv2, hgK⟩ := I'.hok _ _ hK'
      have hI : IntsAre kis (Z.map En.k) := by
        have e : (Z.map fun z => V.int z.k) = (Z.map En.k).map V.int := by rw [List.map_map]; rfl
        rw [e] at kv2
        exact kv2.ints
      have lK : kis.length = its.length := by rw [hI.length, ← zu, List.length_map, List.length_map]
      obtain ⟨hgL, nL, _⟩ := I'.pin (L, seqObj "list" #[] e1) (List.mem_append_right _ List.mem_cons_self)
      refine wpAny_bind (listItems_at hgK rfl ?_)
      refine srt_endI (kz := Z.map En.k) (by rw [List.toList_toArray]; exact hI) hLK.symm (by rw [List.size_toArray]; exact hsz) (by rw [List.size_toArray, List.size_toArray, lK]) hgK hgL fun out h1 h2 => ?_
      have ez : ((kis.toArray.zip its.toArray).toList).map (fun p : Keyed => (iv p.1, p.2)) = Z.map fun z => (z.k, z.u) := by
        rw [ksk_zip, List.toList_toArray, ← zip_en, ← iv_ints hI, zu, List.zip_map_left]
        exact List.map_congr_left fun ⟨x, y⟩ _ => rfl
      have h3 : (out.map (fun p : Keyed => (iv p.1, p.2))).Perm (Z.map fun z => (z.k, z.u)) := by
        rw [← ez]
        exact h2.perm.map _
      obtain ⟨Z', pZ, eZ⟩ := perm_back h3 Z rfl
      have hz3 : ∀ z ∈ Z', z ∈ Z := fun z hm => pZ.mem_iff.mp hm
      have eo : (out.map (·.2)) = Z'.map En.u := by
        have := congrArg (List.map Prod.snd) eZ
        rw [List.map_map, List.map_map] at this
        exact this
      have lZ : Z'.length = its.length := by rw [pZ.length_eq, ← zu, List.length_map]
      obtain ⟨c2, hc2⟩ : ∃ c2, (s'.heap.update kS (Obj.mapSeq fun _ => (#[] : Array Value))).get? kS = some (seqObj "list" #[] c2) := ⟨_, get?_update_seq hgK fun _ => #[]⟩
      have I8 : Inv X PP σ (upd H' kS (.lst [])) { s' with heap := s'.heap.update kS (Obj.mapSeq fun _ => (#[] : Array Value)) } :=
        (unpinned I').write (e := kS) (t' := s'.toks) (by rw [hK']; trivial) (.inl rfl) (fun b u hb hu => (Heap.get?_update_ne _ _ _ _ hb).trans hu) ⟨_, hc2⟩ ⟨Nat.zero_le _, [], c2, .nil, hc2⟩
      have hgL8 : (s'.heap.update kS (Obj.mapSeq fun _ => (#[] : Array Value))).get? L = some (seqObj "list" #[] e1) := (Heap.get?_update_ne _ _ _ _ hLK).trans hgL
      have nL8 : upd H' kS (.lst []) L = none := by rw [upd_ne hLK]; exact nL
      obtain ⟨c3, hc3⟩ : ∃ c3, ((s'.heap.update kS (Obj.mapSeq fun _ => (#[] : Array Value))).update L (Obj.mapSeq fun _ => (out.map (·.2)).toArray)).get? L = some (seqObj "list" (out.map (·.2)).toArray c3) := ⟨_, get?_update_seq hgL8 fun _ => (out.map (·.2)).toArray⟩
      have I9 : Inv X PP σ (upd (upd H' kS (.lst [])) L (.lst (Z'.map En.v))) { s' with heap := (s'.heap.update kS (Obj.mapSeq fun _ => (#[] : Array Value))).update L (Obj.mapSeq fun _ => (out.map (·.2)).toArray) } :=
        adopt (s := { s' with heap := s'.heap.update kS (Obj.mapSeq fun _ => (#[] : Array Value)) }) I8 frL nL8 (fun b u hb hu => (Heap.get?_update_ne _ _ _ _ hb).trans hu) ⟨by rw [List.length_map, lZ]; exact hsz, out.map (·.2), c3, by rw [eo]; exact vals_en fun z hm => hz z (hz3 z hm), hc3⟩
      have eH9 : Ex H (upd (upd H' kS (.lst [])) L (.lst (Z'.map En.v))) := Ex.mut (Ex.mut eH fK) fL
      have e5 : Z'.map En.v = (Z'.map fun z => (z.k, z.v)).map (·.2) := by rw [List.map_map]; rfl
      refine ⟨_, rfl, wpAny_pure ⟨_, rfl, .ref L, _, I9, rfl, q L (Z'.map fun z => (z.k, z.v)) _ fL eH9 (by rw [← e5]; exact upd_same) (by rw [← zt]; exact pZ.map _) ?_⟩⟩
      have h4 : (out.map (fun p : Keyed => (iv p.1, p.2))).Pairwise (fun x y => x.1 ≤ y.1) := by
        rw [List.pairwise_map]
        have h1' := h1
        unfold Srtd at h1'
        refine h1'.imp fun {x y} g => ?_
        have g2 := of_decide_eq_false (p := iv y.1 < iv x.1) g
        show iv x.1 ≤ iv y.1
        omega
      rw [eZ, List.pairwise_map] at h4
      exact List.pairwise_map.mpr h4
end
end Hm

set_option Elab.async false
set_option linter.all false
set_option maxRecDepth 100000
set_option maxHeartbeats 4000000
namespace Hm
open PySem PySem.Spec PySem.W PyProof.Rows SrtO L2 HT LamX
open Evl (Ex)
/-! ## what a lambda leaves as it was -/
theorem ExtN.sqt {K : PySem.W.Frag} {H H' : Hp} {a : Addr} {xs : List V} (e : ExtN H H') (h : SqT K H a xs) : SqT K H' a xs := by
  rcases h with (h | ⟨o, h⟩) | h
  · exact .inl (.inl (e _ _ h fun ps z => by cases z))
  · exact .inl (.inr ⟨o, e _ _ h fun ps z => by cases z⟩)
  · exact .inr h
theorem ExtN.sql {K : PySem.W.Frag} {H H' : Hp} {a : Addr} {xs : List V} (e : ExtN H H') (h : SqL K H a xs) : SqL K H' a xs := by
  rcases h with (h | ⟨o, h⟩) | h
  · exact .inl (.inl (e _ _ h fun ps z => by cases z))
  · exact .inl (.inr ⟨o, e _ _ h fun ps z => by cases z⟩)
  · exact .inr h
theorem ExtN.tups {K : PySem.W.Frag} {H H' : Hp} (e : ExtN H H') : Tups K H H' := fun _ _ h => ExtN.sqt e h
theorem ExtN.ex {H H' : Hp} (e : Ex H H') : ExtN H H' := ExtN.of e
/-! ## sorted(xs, key=lambda row: row[0]) -/
/-- a row: a tuple whose first item is a whole number -/
def RowAt (K : PySem.W.Frag) (H : Hp) (i : Int) (v : V) : Prop := ∃ (p : Addr) (u : V), v = .ref p ∧ SqT K H p [.int i, u]
def tSrtL (K : PySem.W.Frag) (T : List (Addr × Str)) (te : TE) : TE := fun σ H Q => te σ H fun x H1 => Tabs T H1 ∧ ∃ (a : Addr) (es : List (Int × V)), x = .ref a ∧ SqL K H1 a (es.map (·.2)) ∧ es.length ≤ 1000 ∧ (∀ e ∈ es, RowAt K H1 e.1 e.2) ∧
  ∀ (p : Addr) (es' : List (Int × V)) (H' : Hp), ExtN H1 H' → Tabs T H' → H' p = some (.lst (es'.map (·.2))) → es'.Perm es → es'.Pairwise (fun x y => x.1 ≤ y.1) → Q (.ref p) H'
section
variable {X : Cx}
theorem pe_srtLam {T : List (Addr × Str)} {c P : Addr} {k : Nat} {a0 : Str} {N : List Str} {params : Arguments} {body : Expr} {scope : Scope} {tb te : TE} {e : Expr} {p lpos kpos pos : Pos}
    (hg : Gl X "sorted") (hm : X.mg "sorted" = none) (TB : TabB X.base X.mg c P) (hcode : X.env.code = .ref c) (hmT : (P, X.env.qual ++ "<lambda>") ∈ T) (hu : ∀ p ∈ T, p.1 = P → p.2 = X.env.qual ++ "<lambda>") (hr : Room (k + 3) X.A)
    (S : FnScope N [a0] scope) (hdef : defaultsOf params X.env = ([], [])) (hclo : cloFrom X.env.cells scope.names [] = [])
    (hbind : ∀ (q : Str) (pm cv ctv u : Value), bindArgs (PySem.W.kla_fn "<lambda>" q params body scope [] pm cv ctv) ⟨[u], []⟩ = pure [(a0, u)])
    (hbody : ∀ (A : Around) (outer : List Env) (s : Shared) (H : Hp) (f c' : Addr), PE (cxOf CX0 X.prog X.w X.K X.mg X.base N (X.env.qual ++ "<lambda>") scope f (.ref c') A outer s H E0) body tb)
    (ht : ∀ (v : V) (i : Int) (H : Hp), RowAt X.K H i v → ∀ Q : VK, Q (.int i) H → tb (start N [v]) H Q) (ha : PE X e te)
    (hs : backTo pos (starEach [e] X.env) = (false, eval e X.env) :: backTo pos (starEach [] X.env) := by rfl) (hpl : (backTo pos (starEach [e] X.env)).any (·.1) = false := by rfl)
    (hs2 : starEach [e] X.env = (false, eval e X.env) :: starEach [] X.env := by rfl) :
    PE X (.Call (.Name "sorted" p) [e] [⟨some "key", .Lambda params body scope lpos, kpos⟩] pos) (tSrtL X.K T te) := by
  refine ⟨fun pins s σ H Q I h => ?_⟩
  refine wpAny_Call_Name_kw (ld_blt I hg hm (by rfl : bootBuiltins "sorted" = some (.builtin "sorted")) ?_)
  refine PyProof.Rows.callWith_kw ?_ hs hpl (by rfl) (by rfl)
  rw [hs]
  refine Calls.spliced_cons (thn (ha.run pins s σ H _ I h) fun u s1 ⟨x, H1, I1, r1, hT, a, es, e2, hS, hz, hrow, q⟩ => ?_)
  subst e2
  obtain rfl : u = Value.ref a := r1
  refine Calls.spliced_nil ?_
  have hfree : ∀ y ∈ scope.names, y.2 = .free → ∃ c, X.env.cells.lookup y.1 = some c := fun y hy z => absurd z (S.nofree y hy)
  refine kwAll_cons (lam_make2 I1 TB hcode hmT hu hT hdef hfree fun f c' pm ctv H2 s2 I2 eN T2 hf hfn hfr hco => kwAll_nil ?_)
  rw [hclo] at hf
  refine srt_lam (k := k) S (fun u => hbind _ _ _ _ u) I2 hf hfn hfr hco hr (fun A outer s H _ => hbody A outer s H f c') (ExtN.sql eN hS) hz (fun en hen H' eH Q hQ => ht _ _ _ ?_ _ hQ) fun p es' H' hp eH hL pm pw => q p es' H' (eN.trans (ExtN.ex eH)) (T2.ext eH) hL pm pw
  obtain ⟨p, u, e3, h3⟩ := hrow en hen
  exact ⟨p, u, e3, ExtN.sqt (ExtN.ex eH) (ExtN.sqt eN h3)⟩
end
/-! ## sorted(d.items()) of a dict whose keys are whole numbers -/
section
variable {X : Cx}
def rItemsK : V → List V → Hp → VK → Prop := fun x xs H Q => ∃ (a : Addr) (kvs : List (Key × V)), x = .ref a ∧ xs = [] ∧ H a = some (.dK kvs) ∧ ∀ p, H p = none → Q (.ref p) (upd H p (L2.DX.itemsO p a))
theorem mt_itemsK : MtR X "dict.items" rItemsK := by
  intro pins s σ H x xs v us Q I rx rxs h
  obtain ⟨a, kvs, rfl, rfl, ha, q⟩ := h
  cases rx
  cases rxs
  obtain ⟨hz, hs0, vs, kv, hdo⟩ := I.hok a _ ha
  refine call_meetsIn F.slot_dict_items hdo.typeIs F.entry_dict_items (F.args_dict_items_1 _) (meets_dict_items (mixKind X.prog X.w) a hs0) ⟨⟨vs, hdo⟩, ?_⟩
  have hf : H s.heap.objs.size = none := I.hok.fresh (Nat.le_refl _)
  exact ⟨.ref s.heap.objs.size, upd H s.heap.objs.size (L2.DX.itemsO s.heap.objs.size a), I.laid (t' := s.toks) (fun b u e => Heap.get?_push_of_some _ e) (Nat.le_refl _) (L2.DX.itemsO_ok (Heap.get?_push_size _ rfl)), rfl, q _ hf⟩
end
/-- a tuple of a whole number and something, as it lies in the heap -/
def RowIn (h : Heap) (v : Value) (i : Int) (x : Value) : Prop := ∃ (a : Addr) (t : Tok), v = .ref a ∧ h.get? a = some { cls := .type "tuple", data := .seq #[.int i t, x] }
def kI (h : Heap) : Value → Int
  | .ref a => match h.get? a with
    | some o => match o.data with
      | .seq xs _ => iv (xs.getD 0 .none)
      | _ => 0
    | none => 0
  | _ => 0
theorem kI_row {h : Heap} {v x : Value} {i : Int} (r : RowIn h v i x) : kI h v = i := by
  obtain ⟨a, t, rfl, e⟩ := r
  simp only [kI, e]
  rfl
def ltR (h : Heap) (v u : Value) : Bool := decide (kI h v < kI h u)
theorem ltR_swo (h : Heap) : Swo (ltR h) := by
  refine ⟨fun x y a => ?_, fun x y z a b => ?_⟩
  · have a := of_decide_eq_true (p := kI h x < kI h y) a
    exact decide_eq_false (p := kI h y < kI h x) (by omega)
  · have a := of_decide_eq_false (p := kI h y < kI h x) a
    have b := of_decide_eq_false (p := kI h z < kI h y) b
    exact decide_eq_false (p := kI h z < kI h x) (by omega)
theorem row_firsts {h : Heap} : ∀ {vs : List Value}, (∀ v ∈ vs, ∃ i x, RowIn h v i x) → ∃ fs : List Value, KatTups h vs fs ∧ fs.length = vs.length ∧ ∀ f ∈ fs, ∃ i t, f = Value.int i t
  | [], _ => ⟨[], KatTups.nil, rfl, fun _ hm => by simp at hm⟩
  | v :: vs, hp => by
    obtain ⟨fs, h1, h2, h3⟩ := row_firsts (vs := vs) fun u hm => hp u (List.mem_cons_of_mem _ hm)
    obtain ⟨i, x, a, t, e, ho⟩ := hp v List.mem_cons_self
    subst e
    refine ⟨.int i t :: fs, KatTups.cons ho rfl rfl rfl h1, by rw [List.length_cons, List.length_cons, h2], fun f hm => ?_⟩
    rcases List.mem_cons.mp hm with rfl | hm
    · exact ⟨i, t, rfl⟩
    · exact h3 f hm
section
variable {prog : Program} {w : World} {A : Around} {s : Shared}
theorem row_sortable {h0 : Heap} {a : Addr} {vs : List Value} (h2 : 2 ≤ vs.length) (hp : ∀ v ∈ vs, ∃ i x, RowIn h0 v i x) (ho : ∀ v ∈ vs, ∀ u ∈ vs, kI h0 v = kI h0 u → v = u)
    (hk : ∀ b o, h0.get? b = some o → b ≠ a ∧ s.heap.get? b = some o) : SortableO prog w A s a vs (ltR h0) := by
  intro h' keep
  have hp' : ∀ v ∈ vs, ∀ i x, RowIn h0 v i x → RowIn h' v i x := fun v hv i x ⟨b, t, e, hb⟩ => ⟨b, t, e, keep b _ (hk b _ hb).1 (hk b _ hb).2⟩
  obtain ⟨fs, f1, f2, f3⟩ := row_firsts (h := h') fun v hv => by
    obtain ⟨i, x, r⟩ := hp v hv
    exact ⟨i, x, hp' v hv i x r⟩
  refine ⟨tuples' true, fun Q E hq => ?_, ?_⟩
  · refine kat_kind (T := .type "int") f1 (by omega) (fun f hm => ?_) (by rfl) ?_
    · obtain ⟨i, t, rfl⟩ := f3 f hm
      exact Looks.now
    · have e : (Value.type "int" != Value.type "tuple") = true := by decide +kernel
      rw [e]
      exact hq
  · intro p q hm hm'
    obtain ⟨i, x, r⟩ := hp p.1 hm
    obtain ⟨j, y, r'⟩ := hp q.1 hm'
    show wpAny (model prog w) A (keyLt' (tuples' true) p.1 q.1) (fun r s' => s' = { s with heap := h' } ∧ r = ltR h0 p.1 q.1) (fun _ _ => False) { s with heap := h' }
    have el : ltR h0 p.1 q.1 = decide (i < j) := by
      unfold ltR
      rw [kI_row r, kI_row r']
    have same : i = j → p.1 = q.1 := fun z => ho _ hm _ hm' (by rw [kI_row r, kI_row r', z])
    rw [el]
    obtain ⟨b, t, e, hb⟩ := hp' _ hm _ _ r
    obtain ⟨b', t', e', hb'⟩ := hp' _ hm' _ _ r'
    rw [e, e'] at same ⊢
    refine kat_lt hb rfl hb' rfl ?_
    show KatLex prog w A true (decide (2 < 2)) _ [(.int i t, .int j t'), (x, y)] 0 _
    refine kat_cons (SeqAt.EqAt.int_int i t j t' prog w _ _ ?_)
    refine kat_go (fun e1 => ?_) (fun e1 => ?_)
    · have ei : i = j := by simpa using e1
      have eb := same ei
      injection eb with eb
      subst eb
      rw [hb] at hb'
      have exy : x = y := by
        have := Option.some.inj hb'
        injection this with _ _ h3
        injection h3 with h3
        have h4 := congrArg Array.toList h3
        simp at h4
        exact h4.2
      subst exy
      refine kat_yes (kat_cons (SeqAt.EqAt.same x prog w _ _ ?_))
      exact kat_yes (kat_nil ⟨rfl, by rw [decide_eq_false (show ¬ i < j by omega)]; rfl⟩)
    · exact kat_no (oneLt_int ⟨rfl, rfl⟩)
end
section
variable {X : Cx}
def rSortIK : List V → Hp → VK → Prop := fun vs H Q => ∃ (p d : Addr) (es : List (Int × V)), vs = [.ref p] ∧ H p = some (L2.DX.itemsO p d) ∧ H d = some (.dK (es.map fun e => ((Sum.inl e.1 : Key), e.2))) ∧ (es.map (·.1)).Nodup ∧ es.length ≤ 1000 ∧
  ∀ (l : Addr) (es' : List (Int × V)) (ps : List V) (H' : Hp), Ex H H' → H' l = some (.lst ps) → PySem.Paired (fun (v : V) (e : Int × V) => ∃ t, v = .ref t ∧ H' t = some (.tup [.int e.1, e.2])) ps es' → es'.Perm es → es'.Pairwise (fun x y => x.1 ≤ y.1) → Q (.ref l) H'
theorem cr_sortIK (hc : X.calm = true) : CallR X (.builtin "sorted") rSortIK := by
  intro pins s σ H xs us Q I r h
  obtain ⟨p, d, es, rfl, hp, hd, hn, hl, q⟩ := h
  obtain rfl := Vals.ref1 r
  have view : s.heap.IsItemsView p d := (I.hok p _ hp).1
  obtain ⟨hz, hs0, vs, kv, hdo⟩ := I.hok d _ hd
  obtain ⟨ep, hat⟩ := hdo.dictAt
  have hh : X.A.handled = none := I.ok.hd hc
  have lk : es.length = vs.length := by
    have := Paired.length kv
    rw [List.length_map] at this
    exact this
  have zz : vs.length ≤ sizeLine := Nat.le_trans (by omega) (show 1000 ≤ sizeLine by decide)
  refine Calls.call_function_entry kind_sorted plain_sorted entry_sorted (args_sorted1 _) ?_
  unfold Builtin.«sorted»
  refine wpAny_bind (m := checkCount "sorted" 1 1 _) (wpAny_pure ?_)
  refine wpAny_bind (kdx_collect (A := X.A.in1) (knd := mixKind X.prog X.w) (kvs := vs) (ep := ep) hh view hat zz fun h' tk as hk hla hG => ?_)
  have nd : as.Nodup := List.Pairwise.imp (fun {a b} (h : a < b) => Nat.ne_of_lt h) hG.rise
  -- each tuple that was made
  have at_ : ∀ (j : Nat) (b : Addr), as[j]? = some b → ∃ (e : Int × V) (t : Tok) (x : Value), es[j]? = some e ∧ RelV e.2 x ∧ h'.get? b = some { cls := .type "tuple", data := .seq #[.int e.1 t, x] } := by
    intro j b hj
    obtain ⟨key, kk, x, f1, f2, f3⟩ := hG.pairs j b hj
    obtain ⟨e0, g1, g2, g3⟩ := L2.DX.pget kv f1
    rw [List.getElem?_map] at g1
    cases he : es[j]? with
    | none => rw [he] at g1; cases g1
    | some e =>
      rw [he] at g1
      have := Option.some.inj g1
      subst this
      have rk : RelV (kV (Sum.inl e.1 : Key)) key := by
        have g2' : (Sum.inl e.1 : Key) = kk := g2
        rw [g2']
        exact relV_key (show keyIs kk key = true from f2)
      obtain ⟨t, rfl⟩ := rk
      exact ⟨e, t, x, rfl, g3, f3⟩
  have I1 : Inv X pins σ H { s with heap := h', toks := tk } := I.kept (t' := tk) hk
  obtain ⟨H2, I2, e2, tr⟩ := L2.DX.takeT (h' := h') (tk := tk) (P := fun b vs => ∃ (j : Nat) (e : Int × V), as[j]? = some b ∧ es[j]? = some e ∧ vs = [.int e.1, e.2]) I as H I1 nd fun b hb => by
    obtain ⟨j, hj⟩ := List.mem_iff_getElem?.mp hb
    obtain ⟨e, t, x, he, rx, hob⟩ := at_ j b hj
    have lo := Nat.le_of_lt (hG.above b hb)
    exact ⟨lo, I.hok.fresh lo, [.int e.1, e.2], ⟨j, e, hj, he, rfl⟩, fun H2 => ⟨by show 2 ≤ sizeLine; decide, [.int e.1 t, x], .cons ⟨t, rfl⟩ (.cons rx .nil), ⟨_, hob, rfl, _, rfl⟩⟩⟩
  refine wpAny_bind (wpAny_newList ?_ (by rw [List.length_map, hla]; exact zz))
  have hoL : (h'.push (seqObj "list" (as.map Value.ref).toArray 0)).get? h'.objs.size = some (seqObj "list" (as.map Value.ref).toArray 0) := Heap.get?_push_size _ rfl
  have keep : ∀ b o, h'.get? b = some o → b ≠ h'.objs.size ∧ (h'.push (seqObj "list" (as.map Value.ref).toArray 0)).get? b = some o := fun b o e => ⟨Nat.ne_of_lt (Heap.lt_size e), Heap.get?_push_of_some _ e⟩
  have rows : ∀ v ∈ as.map Value.ref, ∃ i x, RowIn h' v i x := fun v hv => by
    obtain ⟨b, hb, rfl⟩ := List.mem_map.mp hv
    obtain ⟨j, hj⟩ := List.mem_iff_getElem?.mp hb
    obtain ⟨e, t, x, he, rx, hob⟩ := at_ j b hj
    exact ⟨e.1, x, b, t, rfl, hob⟩
  have inj : ∀ v ∈ as.map Value.ref, ∀ u ∈ as.map Value.ref, kI h' v = kI h' u → v = u := fun v hv u hu z => by
    obtain ⟨b, hb, rfl⟩ := List.mem_map.mp hv
    obtain ⟨j, hj⟩ := List.mem_iff_getElem?.mp hb
    obtain ⟨e, t, x, he, rx, hob⟩ := at_ j b hj
    obtain ⟨b', hb', rfl⟩ := List.mem_map.mp hu
    obtain ⟨j', hj'⟩ := List.mem_iff_getElem?.mp hb'
    obtain ⟨e', t', x', he', rx', hob'⟩ := at_ j' b' hj'
    rw [kI_row ⟨b, t, rfl, hob⟩, kI_row ⟨b', t', rfl, hob'⟩] at z
    have k1 : (es.map (·.1))[j]? = some e.1 := by rw [List.getElem?_map, he]; rfl
    have k2 : (es.map (·.1))[j']? = some e.1 := by rw [List.getElem?_map, he', z]; rfl
    have ej := nd_ix hn k1 k2
    subst ej
    rw [hj] at hj'
    rw [Option.some.inj hj']
  refine wpAny_bind (wpAny_holding (wpAny_call_entry slot_list_sort ⟨_, hoL, rfl⟩ entry_list_sort (list_sort_ord (ltR_swo h') hoL (by rw [List.length_map, hla]; exact zz) (fun h2 => row_sortable (s := { s with heap := h'.push (seqObj "list" (as.map Value.ref).toArray 0), toks := tk }) h2 rows inj keep) fun out hs hb => ⟨_, rfl, ?_⟩) (args_list_sort _)))
  obtain ⟨c, hc2⟩ := sortedHeap_at (vs := as.map Value.ref) (out := out.toArray) hoL
  -- what comes out
  have e0 : as.map Value.ref = (as.zip es).map fun z => Value.ref z.1 := by
    have : (as.zip es).map Prod.fst = as := List.map_fst_zip (by omega)
    conv => lhs; rw [← this]
    rw [List.map_map]
    rfl
  obtain ⟨Z, pZ, eZ⟩ := perm_back (f := fun z : Addr × (Int × V) => Value.ref z.1) hb.perm (as.zip es) e0
  have ix : ∀ z ∈ Z, H2 z.1 = some (.tup [.int z.2.1, z.2.2]) ∧ kI h' (.ref z.1) = z.2.1 := fun z hz2 => by
    obtain ⟨j, hj⟩ := List.mem_iff_getElem?.mp (pZ.mem_iff.mp hz2)
    obtain ⟨h1, h2⟩ := List.getElem?_zip_eq_some.mp hj
    obtain ⟨vs2, ⟨j2, e, hj2, he, e5⟩, e6⟩ := tr z.1 (List.mem_of_getElem? h1)
    have ej := nd_ix nd h1 hj2
    subst ej
    rw [h2] at he
    have := Option.some.inj he
    subst this
    obtain ⟨e', t, x, he', rx, hob⟩ := at_ j z.1 h1
    rw [h2] at he'
    have := Option.some.inj he'
    subst this
    exact ⟨by rw [e6, e5], kI_row ⟨z.1, t, rfl, hob⟩⟩
  have lZ : Z.length = es.length := by rw [pZ.length_eq, List.length_zip, hla, lk, Nat.min_self]
  have v1 : ∀ Z : List (Addr × (Int × V)), Vals (Z.map fun z => V.ref z.1) (Z.map fun z => Value.ref z.1) := fun Z => by
    induction Z with
    | nil => exact .nil
    | cons z Z ih => exact .cons rfl ih
  have I3 : Inv X pins σ (upd H2 h'.objs.size (.lst (Z.map fun z => V.ref z.1))) { s with heap := sortedHeap (h'.push (seqObj "list" (as.map Value.ref).toArray 0)) h'.objs.size (as.map Value.ref) out.toArray, toks := tk } :=
    I2.laid (t' := tk) (fun b u e => (sortedHeap_old (keep b u e).1 (Heap.lt_size (keep b u e).2)).trans (keep b u e).2) (Nat.le_refl _) ⟨by rw [List.length_map, lZ, lk]; exact zz, out, c, by rw [eZ]; exact v1 Z, hc2⟩
  have hL2 : H2 h'.objs.size = none := I2.hok.fresh (Nat.le_refl _)
  have eF : Ex H (upd H2 h'.objs.size (.lst (Z.map fun z => V.ref z.1))) := Ex.trans e2 (Ex.new hL2)
  refine wpAny_pure ⟨_, rfl, .ref h'.objs.size, _, I3, rfl, q _ (Z.map (·.2)) _ _ eF upd_same ?_ ?_ ?_⟩
  · have pr : ∀ Z : List (Addr × (Int × V)), (∀ z ∈ Z, H2 z.1 = some (.tup [.int z.2.1, z.2.2])) → PySem.Paired (fun (v : V) (e : Int × V) => ∃ t, v = .ref t ∧ (upd H2 h'.objs.size (.lst (List.map (fun z : Addr × (Int × V) => V.ref z.1) Z))) t = some (.tup [.int e.1, e.2])) [] [] := fun _ _ => .nil
    have go : ∀ (o : HO) (Z : List (Addr × (Int × V))), (∀ z ∈ Z, H2 z.1 = some (.tup [.int z.2.1, z.2.2])) → PySem.Paired (fun (v : V) (e : Int × V) => ∃ t, v = .ref t ∧ (upd H2 h'.objs.size o) t = some (.tup [.int e.1, e.2])) (Z.map fun z => V.ref z.1) (Z.map (·.2)) := fun o Z => by
      induction Z with
      | nil => exact fun _ => .nil
      | cons z Z ih =>
        intro h
        refine .cons ⟨z.1, rfl, ?_⟩ (ih fun y hy => h y (List.mem_cons_of_mem _ hy))
        have := h z List.mem_cons_self
        rw [upd_ne (ne_of_none this hL2)]
        exact this
    exact go _ Z fun z hz2 => (ix z hz2).1
  · have := pZ.map (·.2)
    rw [List.map_snd_zip (by omega)] at this
    exact this
  · have h1 := hs
    unfold Srtd at h1
    rw [eZ, List.pairwise_map] at h1
    rw [List.pairwise_map]
    refine h1.imp_of_mem fun {x y} hx hy g => ?_
    have g2 := of_decide_eq_false (p := kI h' (.ref y.1) < kI h' (.ref x.1)) g
    rw [(ix x hx).2, (ix y hy).2] at g2
    omega
end
end Hm

set_option Elab.async false
set_option linter.all false
set_option maxRecDepth 100000
set_option maxHeartbeats 4000000
namespace Hm
open PySem PySem.Spec PySem.W PyProof.Rows L2 HT RZ
open Evl (Ex)
/-! ## list(zip(t, u)) of two tuples -/
section
variable {prog : Program} {w : World} {A : Around} {E : Value → Shared → Prop} {s : Shared}
variable {z TI TO T i1 i2 l1 l2 : Addr} {f : Bool} {oT : Obj} {k1 k2 : Nat} {xs ys : Array Value}
/-- a turn of a zip whose last tuple is held -/
theorem zt_held {x y : Value} {Q : Value → Shared → Prop} (D : ZipApart z TI TO i1 i2 l1 l2) (hz : IsZipHeld s.heap z TI TO T f) (hT : s.heap.get? T = some oT) (hTI : IsPair s.heap TI (.ref i1) (.ref i2))
    (h1 : s.heap.IsTupleIter i1 l1 k1) (h2 : s.heap.IsTupleIter i2 l2 k2) (hl1 : s.heap.IsTuple l1 xs) (hl2 : s.heap.IsTuple l2 ys) (hx : xs[k1]? = some x) (hy : ys[k2]? = some y)
    (hQ : ∀ h', IsZipHeld h' z TI TO T true → h'.IsTupleIter i1 l1 (k1 + 1) → h'.IsTupleIter i2 l2 (k2 + 1) → IsPair h' s.heap.objs.size x y → h'.objs.size = s.heap.objs.size + 1 → (∀ c o, c ≠ z → c ≠ i1 → c ≠ i2 → s.heap.get? c = some o → h'.get? c = some o) → Q (.ref s.heap.objs.size) { s with heap := h' }) :
    wpAny (model prog w) A (Builtin.«zip.__next__» ⟨[.ref z], []⟩) (fun fin s' => ∃ v, fin = .done (.ret v) ∧ Q v s') E s := by
  show wpAny _ _ (field (.ref z) 2 >>= _) _ _ _
  refine wpAny_bind (wpAny_field hz rfl (x := .bool false) rfl ?_)
  show wpAny _ _ (field (.ref z) 3 >>= _) _ _ _
  refine wpAny_bind (wpAny_field hz rfl (x := .ref TI) rfl (wpAny_bind (wpAny_seqItems hTI rfl ?_)))
  show wpAny _ _ (Builtin.SmallTypes.ownedTupleIsFree (.ref z) >>= _) _ _ _
  refine wpAny_bind (wpAny_tupleHeld_zip hz hT fun g1 z1 e1 => ?_)
  simp only [Bool.false_eq_true, if_false]
  rw [← Array.forIn_toList]
  simp only [List.forIn_cons, List.forIn_nil]
  refine wpAny_bind (wpAny_bind (wpAny_bind (wpAny_holding ?_)))
  show wpAny _ _ (Builtin.SmallTypes.nextOf (.ref i1) >>= _) _ _ _
  refine wpAny_bind (nextOf_tuple_item (s := { s with heap := g1 }) (h1.at fun o e => e1.extBut _ o D.i1z e) (hl1.at fun o e => e1.extBut _ o D.l1z e) hx fun g2 a2 e2 => wpAny_pure (wpAny_pure ?_))
  refine wpAny_bind (wpAny_bind (wpAny_holding ?_))
  show wpAny _ _ (Builtin.SmallTypes.nextOf (.ref i2) >>= _) _ _ _
  refine wpAny_bind (nextOf_tuple_item (s := { s with heap := g2 }) (h2.at fun o e => e2.extBut _ o D.i12.symm (e1.extBut _ o D.i2z e)) (hl2.at fun o e => e2.extBut _ o D.l2i1 (e1.extBut _ o D.l2z e)) hy fun g3 a3 e3 => wpAny_pure (wpAny_pure (wpAny_pure ?_)))
  show wpAny _ _ (newTuple [x, y] >>= _) _ _ _
  have sz : g3.objs.size = s.heap.objs.size := by rw [e3.1, e2.1, e1.1]
  have keep : ∀ c o, c ≠ z → c ≠ i1 → c ≠ i2 → s.heap.get? c = some o → g3.get? c = some o := fun c o c1 c2 c3 e => e3.extBut _ _ c3 (e2.extBut _ _ c2 (e1.extBut _ _ c1 e))
  have z3 : IsZipHeld g3 z TI TO T true := e3.extBut _ _ D.i2z.symm (e2.extBut _ _ D.i1z.symm z1)
  refine wpAny_bind (wpAny_newTuple (wpAny_pure ⟨_, rfl, ?_⟩))
  have new : (g3.push { cls := .type "tuple", data := .seq [x, y].toArray }).get? g3.objs.size = some { cls := .type "tuple", data := .seq [x, y].toArray } := Heap.get?_push_size _ rfl
  have sz4 : (g3.push { cls := .type "tuple", data := .seq [x, y].toArray }).objs.size = g3.objs.size + 1 := Heap.size_push ..
  rw [sz] at new sz4
  have r := hQ (g3.push { cls := .type "tuple", data := .seq [x, y].toArray }) (Heap.get?_push_of_some _ z3) ((a2.at fun o e => e3.extBut _ o D.i12 e).at fun o e => Heap.get?_push_of_some _ e) (a3.at fun o e => Heap.get?_push_of_some _ e) new sz4 fun c o c1 c2 c3 e => Heap.get?_push_of_some _ (keep c o c1 c2 c3 e)
  show Q (.ref g3.objs.size) _
  rw [sz]
  exact r
theorem zt_held_end {Q : Fin → Shared → Prop} (hh : A.handled = none) (D : ZipApart z TI TO i1 i2 l1 l2) (hz : IsZipHeld s.heap z TI TO T f) (hT : s.heap.get? T = some oT) (hTI : IsPair s.heap TI (.ref i1) (.ref i2))
    (h1 : s.heap.IsTupleIter i1 l1 k1) (hl1 : s.heap.IsTuple l1 xs) (hend : xs[k1]? = none)
    (hE : ∀ h' e, (∀ c o, c ≠ z → c ≠ i1 → c ≠ i2 → s.heap.get? c = some o → h'.get? c = some o) → (∃ o, h'.get? e = some o ∧ o.cls = .type "StopIteration") → E (.ref e) { s with heap := h' }) :
    wpAny (model prog w) A (Builtin.«zip.__next__» ⟨[.ref z], []⟩) Q E s := by
  show wpAny _ _ (field (.ref z) 2 >>= _) _ _ _
  refine wpAny_bind (wpAny_field hz rfl (x := .bool false) rfl ?_)
  show wpAny _ _ (field (.ref z) 3 >>= _) _ _ _
  refine wpAny_bind (wpAny_field hz rfl (x := .ref TI) rfl (wpAny_bind (wpAny_seqItems hTI rfl ?_)))
  show wpAny _ _ (Builtin.SmallTypes.ownedTupleIsFree (.ref z) >>= _) _ _ _
  refine wpAny_bind (wpAny_tupleHeld_zip hz hT fun g1 z1 e1 => ?_)
  simp only [Bool.false_eq_true, if_false]
  rw [← Array.forIn_toList]
  simp only [List.forIn_cons, List.forIn_nil]
  refine wpAny_bind (wpAny_bind (wpAny_bind (wpAny_holding ?_)))
  show wpAny _ _ (Builtin.SmallTypes.nextOf (.ref i1) >>= _) _ _ _
  refine wpAny_bind (nextOf_tuple_end (s := { s with heap := g1 }) hh (h1.at fun o e => e1.extBut _ o D.i1z e) (hl1.at fun o e => e1.extBut _ o D.l1z e) hend fun g2 e e2 he => ?_)
  exact hE g2 e (fun c o c1 c2 _ q => e2 _ _ c2 (e1.extBut _ _ c1 q)) he
end
/-- a zip of two tuples ahead of turn i, the list at S being filled -/
def ZSt (z TI TO i1 i2 l1 l2 : Addr) (xs ys : Array Value) (S : Addr) (i : Nat) (h : Heap) : Prop :=
  IsPair h TI (.ref i1) (.ref i2) ∧ h.IsTupleIter i1 l1 i ∧ h.IsTupleIter i2 l2 i ∧ h.IsTuple l1 xs ∧ h.IsTuple l2 ys ∧
    ((IsZip h z TI TO .none ∧ ∃ a b, IsPair h TO a b) ∨ ∃ T f oT, IsZipHeld h z TI TO T f ∧ h.get? T = some oT ∧ T ≠ z ∧ T ≠ i1 ∧ T ≠ i2 ∧ T ≠ S)
section
variable {prog : Program} {w : World} {A : Around} {E : Value → Shared → Prop} {s : Shared}
variable {z TI TO i1 i2 l1 l2 S : Addr} {xs ys : Array Value} {i : Nat}
theorem ZSt.keep {h h' : Heap} (st : ZSt z TI TO i1 i2 l1 l2 xs ys S i h) (nS : S ≠ z ∧ S ≠ TI ∧ S ≠ TO ∧ S ≠ i1 ∧ S ≠ i2 ∧ S ≠ l1 ∧ S ≠ l2) (k : ∀ b o, b ≠ S → h.get? b = some o → h'.get? b = some o) : ZSt z TI TO i1 i2 l1 l2 xs ys S i h' := by
  obtain ⟨n1, n2, n3, n4, n5, n6, n7⟩ := nS
  obtain ⟨a1, a2, a3, a4, a5, a6⟩ := st
  refine ⟨k _ _ n2.symm a1, a2.at fun o e => k _ o n4.symm e, a3.at fun o e => k _ o n5.symm e, a4.at fun o e => k _ o n6.symm e, a5.at fun o e => k _ o n7.symm e, ?_⟩
  rcases a6 with ⟨b1, a, b, b2⟩ | ⟨T, f, oT, b1, b2, b3, b4, b5, b6⟩
  · exact .inl ⟨k _ _ n1.symm b1, a, b, k _ _ n3.symm b2⟩
  · exact .inr ⟨T, f, oT, k _ _ n1.symm b1, k _ _ b6 b2, b3, b4, b5, b6⟩
theorem zst_item {x y : Value} {Q : Option Value → Shared → Prop} (D : ZipApart z TI TO i1 i2 l1 l2) (st : ZSt z TI TO i1 i2 l1 l2 xs ys S i s.heap) (hS : S < s.heap.objs.size) (hx : xs[i]? = some x) (hy : ys[i]? = some y)
    (hQ : ∀ h', ZSt z TI TO i1 i2 l1 l2 xs ys S (i + 1) h' → IsPair h' s.heap.objs.size x y → h'.objs.size = s.heap.objs.size + 1 → (∀ c o, c ≠ z → c ≠ TO → c ≠ i1 → c ≠ i2 → s.heap.get? c = some o → h'.get? c = some o) → Q (some (.ref s.heap.objs.size)) { s with heap := h' }) :
    wpAny (model prog w) A (pyNext (.ref z)) Q E s := by
  obtain ⟨a1, a2, a3, a4, a5, a6⟩ := st
  have new : ∀ {c o}, s.heap.get? c = some o → s.heap.objs.size ≠ c := fun e => Nat.ne_of_gt (Heap.lt_size e)
  have m1 : s.heap.objs.size ≠ i1 := let ⟨_, e, _⟩ := a2; new e
  have m2 : s.heap.objs.size ≠ i2 := let ⟨_, e, _⟩ := a3; new e
  rcases a6 with ⟨b1, a, b, b2⟩ | ⟨T, f, oT, b1, b2, b3, b4, b5, b6⟩
  · refine pyNext_zipT_item D b1 a1 b2 a2 a3 a4 a5 hx hy fun h' c1 c2 c3 c4 c5 c6 k => ?_
    exact hQ h' ⟨k _ _ D.TIz D.TITO D.TIi1 D.TIi2 a1, c3, c4, a4.at fun o e => k _ o D.l1z D.l1TO D.l1i1 D.l1i2 e, a5.at fun o e => k _ o D.l2z D.l2TO D.l2i1 D.l2i2 e, .inr ⟨_, false, _, c1, c5, new b1, m1, m2, Nat.ne_of_gt hS⟩⟩ c5 c6 k
  · have ty : s.TypeIs (.ref z) "zip" := ⟨_, b1, rfl⟩
    unfold pyNext
    refine wpAny_bind (wpAny_attempt (wpAny_callSpecial?_slot (name := Str.ofString "__next__") ty F.slot_zip_next (wpAny_call_entry F.slot_zip_next ty F.entry_zip_next (zt_held D b1 b2 a1 a2 a3 a4 a5 hx hy fun h' c1 c2 c3 c4 c5 k => ?_) (F.args_zip_next_1 _))))
    exact wpAny_pure (hQ h' ⟨k _ _ D.TIz D.TIi1 D.TIi2 a1, c2, c3, a4.at fun o e => k _ o D.l1z D.l1i1 D.l1i2 e, a5.at fun o e => k _ o D.l2z D.l2i1 D.l2i2 e, .inr ⟨T, true, oT, c1, k _ _ b3 b4 b5 b2, b3, b4, b5, b6⟩⟩ c4 c5 fun c o d1 _ d3 d4 e => k c o d1 d3 d4 e)
theorem zst_end {Q : Option Value → Shared → Prop} (hh : A.handled = none) (D : ZipApart z TI TO i1 i2 l1 l2) (st : ZSt z TI TO i1 i2 l1 l2 xs ys S i s.heap) (hx : xs[i]? = none)
    (hQ : ∀ h', (∀ c o, c ≠ z → c ≠ TO → c ≠ i1 → c ≠ i2 → s.heap.get? c = some o → h'.get? c = some o) → Q none { s with heap := h' }) : wpAny (model prog w) A (pyNext (.ref z)) Q E s := by
  obtain ⟨a1, a2, a3, a4, a5, a6⟩ := st
  rcases a6 with ⟨b1, a, b, b2⟩ | ⟨T, f, oT, b1, b2, b3, b4, b5, b6⟩
  · exact pyNext_zipT_end hh D b1 a1 b2 a2 a3 a4 a5 (.inl hx) hQ
  · have ty : s.TypeIs (.ref z) "zip" := ⟨_, b1, rfl⟩
    unfold pyNext
    refine wpAny_bind (wpAny_attempt (wpAny_callSpecial?_slot (name := Str.ofString "__next__") ty F.slot_zip_next (wpAny_call_entry F.slot_zip_next ty F.entry_zip_next (zt_held_end hh D b1 b2 a1 a2 a4 hx fun h' e k he => ?_) (F.args_zip_next_1 _))))
    obtain ⟨o, ho, hc⟩ := he
    exact wpAny_bind (wpAny_isInstance (T := "StopIteration") (b := true) ⟨o, ho, hc⟩ isSubtype_stop (wpAny_pure (hQ _ fun c o d1 _ d3 d4 e => k c o d1 d3 d4 e)))
/-- the tuples that were made -/
structure ZTups (xs ys : Array Value) (lo : Addr) (h : Heap) (as : List Addr) : Prop where
  rise : as.Pairwise (· < ·)
  above : ∀ a ∈ as, lo ≤ a
  pairs : ∀ (j : Nat) (a : Addr), as[j]? = some a → ∃ x y, xs[j]? = some x ∧ ys[j]? = some y ∧ IsPair h a x y
theorem zst_loop {R : Result → Shared → Prop} {lo : Addr} {h0 : Heap} (hh : A.handled = none) (D : ZipApart z TI TO i1 i2 l1 l2) (nS : S ≠ z ∧ S ≠ TI ∧ S ≠ TO ∧ S ≠ i1 ∧ S ≠ i2 ∧ S ≠ l1 ∧ S ≠ l2) (hl : z < lo ∧ TO < lo ∧ i1 < lo ∧ i2 < lo ∧ S < lo) (hn : xs.size ≤ sizeLine) (hxy : xs.size = ys.size) (res : Value)
    (hR : ∀ h' tk acc c as, (∀ b o, b < lo → b ≠ S → b ≠ z → b ≠ TO → b ≠ i1 → b ≠ i2 → h0.get? b = some o → h'.get? b = some o) → h'.get? S = some { cls := .type "list", dict := none, data := .seq acc c, slots := #[] } → as.length = xs.size → ZTups xs ys lo h' as → acc.toList = as.map Value.ref → R (.ok (.ret res)) { s with heap := h', toks := tk }) :
    ∀ (k i : Nat) (h : Heap) (tk c : Nat) (acc : Array Value) (as : List Addr), xs.size - i = k → i ≤ xs.size → ZSt z TI TO i1 i2 l1 l2 xs ys S i h → (∀ b o, b < lo → b ≠ S → b ≠ z → b ≠ TO → b ≠ i1 → b ≠ i2 → h0.get? b = some o → h.get? b = some o) →
      h.get? S = some { cls := .type "list", dict := none, data := .seq acc c, slots := #[] } → acc.toList = as.map Value.ref → as.length = i → ZTups xs ys lo h as → lo ≤ h.objs.size →
      codeAny (model prog w) A (.builtin "list.extend.loop" ⟨[.ref S, .ref z, res], []⟩) R { s with heap := h, toks := tk } := by
  intro k
  have ab : ∀ {b : Addr}, lo ≤ b → b ≠ z ∧ b ≠ TO ∧ b ≠ i1 ∧ b ≠ i2 ∧ b ≠ S := fun {b} hb => ⟨Nat.ne_of_gt (Nat.lt_of_lt_of_le hl.1 hb), Nat.ne_of_gt (Nat.lt_of_lt_of_le hl.2.1 hb), Nat.ne_of_gt (Nat.lt_of_lt_of_le hl.2.2.1 hb), Nat.ne_of_gt (Nat.lt_of_lt_of_le hl.2.2.2.1 hb), Nat.ne_of_gt (Nat.lt_of_lt_of_le hl.2.2.2.2 hb)⟩
  induction k with
  | zero =>
    intro i h tk c acc as hk hi st kp hS hacc hal G hlo
    have hin : i = xs.size := by omega
    refine codeAny_builtin PySem.F.entry_extend_loop ?_
    rw [Around.under_plainId PySem.F.plain_extend_loop _]
    show wpAny _ A.in1 (pyNext (.ref z) >>= _) _ _ _
    refine wpAny_bind (zst_end (s := { s with heap := h, toks := tk }) (A := A.in1) hh D st (by rw [hin]; exact Array.getElem?_eq_none (Nat.le_refl _)) fun h' k' => ?_)
    refine wpAny_pure (hR h' tk acc c as (fun b o c0 c1 c2 c3 c4 c5 e => k' b o c2 c3 c4 c5 (kp b o c0 c1 c2 c3 c4 c5 e)) (k' S _ nS.1 nS.2.2.1 nS.2.2.2.1 nS.2.2.2.2.1 hS) (by omega) ⟨G.rise, G.above, fun j a hj => ?_⟩ hacc)
    obtain ⟨x, y, e1, e2, e3⟩ := G.pairs j a hj
    obtain ⟨n1, n2, n3, n4, _⟩ := ab (G.above a (List.mem_of_getElem? hj))
    exact ⟨x, y, e1, e2, k' a _ n1 n2 n3 n4 e3⟩
  | succ k ih =>
    intro i h tk c acc as hk hi st kp hS hacc hal G hlo
    have hlt : i < xs.size := by omega
    have hlt2 : i < ys.size := by omega
    have hsz : acc.size = i := by rw [← Array.length_toList, hacc, List.length_map, hal]
    refine codeAny_builtin PySem.F.entry_extend_loop ?_
    rw [Around.under_plainId PySem.F.plain_extend_loop _]
    show wpAny _ A.in1 (pyNext (.ref z) >>= _) _ _ _
    refine wpAny_bind (zst_item (s := { s with heap := h, toks := tk }) D st (Heap.lt_size hS) (Array.getElem?_eq_getElem hlt) (Array.getElem?_eq_getElem hlt2) fun h' st' hp hz' k' => ?_)
    dsimp only at hp hz' k' ⊢
    have hS' := k' S _ nS.1 nS.2.2.1 nS.2.2.2.1 nS.2.2.2.2.1 hS
    have up : ∀ b o, b ≠ S → h'.get? b = some o → (h'.update S (Obj.mapSeq (·.push (Value.ref h.objs.size)))).get? b = some o := fun b o hb e => (Heap.get?_update_other _ _ (Ne.symm hb)).trans e
    obtain ⟨m1, m2, m3, m4, m5⟩ := ab hlo
    show wpAny _ A.in1 (updateSeq S (·.push (Value.ref h.objs.size)) >>= _) _ _ _
    refine wpAny_bind ?_
    refine wpAny_updateSeq hS' rfl (wpAny_pure ⟨plainId_quiet PySem.F.plain_extend_loop _, ih (i + 1) _ tk _ (acc.push (Value.ref h.objs.size)) (as ++ [h.objs.size]) (by omega) hlt (st'.keep nS up)
      (fun b o c0 c1 c2 c3 c4 c5 e => up b o c1 (k' b o c2 c3 c4 c5 (kp b o c0 c1 c2 c3 c4 c5 e))) (Heap.get?_update_self _ hS' rfl) (by rw [Array.toList_push, hacc, List.map_append]; rfl) (by rw [List.length_append, hal]; rfl) ⟨?_, ?_, ?_⟩ ?_⟩) (by rw [hsz]; omega) (by show (acc.push (Value.ref h.objs.size)).size ≤ sizeLine + 1; rw [Array.size_push, hsz]; omega)
    · refine List.pairwise_append.mpr ⟨G.rise, List.pairwise_singleton _ _, fun a ha b hb => ?_⟩
      rw [List.mem_singleton.mp hb]
      obtain ⟨j, hj⟩ := List.mem_iff_getElem?.mp ha
      obtain ⟨_, _, _, _, e3⟩ := G.pairs j a hj
      exact Heap.lt_size e3
    · intro a ha
      rcases List.mem_append.mp ha with ha | ha
      · exact G.above a ha
      · rw [List.mem_singleton.mp ha]; exact hlo
    · intro j b hj
      rcases Nat.lt_trichotomy j as.length with q | q | q
      · rw [List.getElem?_append_left q] at hj
        obtain ⟨x, y, e1, e2, e3⟩ := G.pairs j b hj
        obtain ⟨n1, n2, n3, n4, n5⟩ := ab (G.above b (List.mem_of_getElem? hj))
        exact ⟨x, y, e1, e2, up b _ n5 (k' b _ n1 n2 n3 n4 e3)⟩
      · subst q
        have e : h.objs.size = b := by simpa using hj
        subst e
        rw [hal]
        exact ⟨_, _, Array.getElem?_eq_getElem hlt, Array.getElem?_eq_getElem hlt2, up _ _ m5 hp⟩
      · rw [List.getElem?_eq_none (by rw [List.length_append, List.length_singleton]; omega)] at hj
        cases hj
    · have e : (h'.update S (Obj.mapSeq (·.push (Value.ref h.objs.size)))).get? h.objs.size = _ := up _ _ m5 hp
      exact Nat.le_of_lt (Nat.lt_of_le_of_lt hlo (Heap.lt_size e))
end
theorem zip_len0 : typeLookup (.type "zip") "__len__" = pure none := by rw [typeLookup_type, builtinLookup_eq_fast]; kernel_rfl
theorem zip_hint0 : typeLookup (.type "zip") "__length_hint__" = pure none := by rw [typeLookup_type, builtinLookup_eq_fast]; kernel_rfl
section
variable {prog : Program} {w : World} {A : Around} {E : Value → Shared → Prop} {s : Shared}
variable {z TI TO i1 i2 l1 l2 : Addr} {xs ys : Array Value}
theorem list_zipT {Q : Value → Shared → Prop} (hh : A.handled = none) (D : ZipApart z TI TO i1 i2 l1 l2) (st : ZSt z TI TO i1 i2 l1 l2 xs ys s.heap.objs.size 0 s.heap) (hz : z < s.heap.objs.size ∧ TI < s.heap.objs.size ∧ TO < s.heap.objs.size ∧ i1 < s.heap.objs.size ∧ i2 < s.heap.objs.size ∧ l1 < s.heap.objs.size ∧ l2 < s.heap.objs.size)
    (zz : IsZip s.heap z TI TO .none) (hn : xs.size ≤ sizeLine) (hxy : xs.size = ys.size)
    (hQ : ∀ h' tk acc c as, (∀ b o, b ≠ z → b ≠ TO → b ≠ i1 → b ≠ i2 → s.heap.get? b = some o → h'.get? b = some o) → h'.get? s.heap.objs.size = some { cls := .type "list", dict := none, data := .seq acc c, slots := #[] } → as.length = xs.size → ZTups xs ys (s.heap.objs.size + 1) h' as → acc.toList = as.map Value.ref → Q (.ref s.heap.objs.size) { s with heap := h', toks := tk }) :
    wpAny (model prog w) A (call (.type "list") [.ref z]) Q E s := by
  obtain ⟨d1, d2, d3, d4, d5, d6, d7⟩ := hz
  have nS : s.heap.objs.size ≠ z ∧ s.heap.objs.size ≠ TI ∧ s.heap.objs.size ≠ TO ∧ s.heap.objs.size ≠ i1 ∧ s.heap.objs.size ≠ i2 ∧ s.heap.objs.size ≠ l1 ∧ s.heap.objs.size ≠ l2 := ⟨Nat.ne_of_gt d1, Nat.ne_of_gt d2, Nat.ne_of_gt d3, Nat.ne_of_gt d4, Nat.ne_of_gt d5, Nat.ne_of_gt d6, Nat.ne_of_gt d7⟩
  refine callType_codes (Q₁ := fun obj s₁ => obj = .ref s.heap.objs.size ∧ s₁ = { s with heap := s.heap.push { cls := .type "list", data := .seq #[] } }) PySem.F.called_list (PySem.F.typeCall_list_1 _) PySem.F.entry_list_init (code_list_new _ ⟨rfl, rfl⟩) fun obj s₁ h₁ => ?_
  obtain ⟨rfl, rfl⟩ := h₁
  have hS : (s.heap.push { cls := .type "list", data := .seq #[] }).get? s.heap.objs.size = some { cls := .type "list", data := .seq #[] } := Heap.get?_push_size _ rfl
  have hsz : (s.heap.push { cls := .type "list", data := .seq #[] }).objs.size = s.heap.objs.size + 1 := Heap.size_push ..
  have st1 : ZSt z TI TO i1 i2 l1 l2 xs ys s.heap.objs.size 0 (s.heap.push { cls := .type "list", data := .seq #[] }) := st.keep nS fun b o _ e => Heap.get?_push_of_some _ e
  have k1 : ∀ b o, s.heap.get? b = some o → (s.heap.push { cls := .type "list", data := .seq #[] }).get? b = some o := fun b o e => Heap.get?_push_of_some _ e
  refine ⟨⟨_, hS, rfl⟩, PySem.F.args_list_init_2 _ _, ?_⟩
  generalize hL : s.heap.objs.size = S at *
  generalize s.heap.push { cls := .type "list", data := .seq #[] } = h0 at *
  show wpAny _ A.in1.in1 (do let old ← Builtin.List.listItems (.ref S); Builtin.List.listUpdate (.ref S) (fun _ => #[]); letGo old.toList.reverse; Builtin.List.listExtendWith (.ref S) (.ref z) .none) _ _ _
  refine wpAny_bind ?_
  unfold Builtin.List.listItems
  refine wpAny_bind (wpAny_seqItems hS rfl (wpAny_pure ?_))
  show wpAny _ A.in1.in1 (updateSeq S (fun _ => #[]) >>= fun _ => letGo (#[] : Array Value).toList.reverse >>= fun _ => Builtin.List.listExtendWith (.ref S) (.ref z) .none) _ _ _
  refine wpAny_bind (wpAny_updateSeq hS rfl ?_)
  have hS1 := Heap.get?_update_self (Obj.mapSeq (fun _ => (#[] : Array Value))) hS rfl
  have u1 : ∀ b o, b ≠ S → h0.get? b = some o → (h0.update S (Obj.mapSeq (fun _ => (#[] : Array Value)))).get? b = some o := fun b o hb e => (Heap.get?_update_other _ _ (Ne.symm hb)).trans e
  have z1 : (h0.update S (Obj.mapSeq (fun _ => (#[] : Array Value)))).objs.size = S + 1 := by rw [Heap.size_update, hsz]
  have st2 := st1.keep nS u1
  have zz2 := u1 _ _ nS.1.symm (k1 _ _ zz)
  generalize h0.update S (Obj.mapSeq (fun _ => (#[] : Array Value))) = g1 at *
  refine wpAny_bind (wpAny_letGo ?_)
  unfold Builtin.List.listExtendWith
  have ty : ∀ g : Heap, ZSt z TI TO i1 i2 l1 l2 xs ys S 0 g → ∀ s' : Shared, s'.heap = g → s'.TypeIs (.ref z) "zip" := fun g st s' e => by
    obtain ⟨_, _, _, _, _, a6⟩ := st
    rcases a6 with ⟨b1, _⟩ | ⟨T, f, oT, b1, _⟩
    · exact ⟨_, by rw [e]; exact b1, rfl⟩
    · exact ⟨_, by rw [e]; exact b1, rfl⟩
  refine wpAny_bind (wpAny_typeOf (ty _ st2 _ rfl) ?_)
  have f1 : Builtin.List.listSameRef (.ref S) (.ref z) = false := by simp [Builtin.List.listSameRef, nS.1]
  have f2 : (Value.type "zip" == Value.type "list") = false := by decide
  have f3 : (Value.type "zip" == Value.type "tuple") = false := by decide
  simp only [f1, f2, f3, Bool.or_false, Bool.false_eq_true, if_false]
  refine wpAny_bind (wpAny_pyIter_zip (s := { s with heap := g1 }) zz2 ?_)
  refine wpAny_bind (wpAny_holding ?_)
  unfold Builtin.List.listLengthHint
  refine wpAny_bind (wpAny_specialOf (ty _ st2 _ rfl) zip_len0 ?_)
  show wpAny _ _ (specialOf (Value.ref z) (Str.ofString "__length_hint__") >>= _) _ _ _
  refine wpAny_bind (wpAny_specialOf (ty _ st2 _ rfl) zip_hint0 ?_)
  refine wpAny_pure ?_
  show wpAny _ _ (rule "list.extend.makes-room" >>= fun _ => Builtin.List.listTouch (.ref S) >>= fun _ => again (.builtin "list.extend.loop" ⟨[.ref S, .ref z, .none], []⟩)) _ _ _
  refine wpAny_bind (wpAny_rule (wpAny_bind ?_))
  show wpAny _ _ (updateSeq S (·.push .none) >>= fun _ => updateSeq S (·.pop)) _ _ _
  refine wpAny_bind (wpAny_updateSeq hS1 rfl ?_)
  have hS2 := Heap.get?_update_self (Obj.mapSeq (·.push Value.none)) hS1 rfl
  refine wpAny_updateSeq (hz := by seq_fits) hS2 rfl ?_
  have hS3 := Heap.get?_update_self (Obj.mapSeq (·.pop)) hS2 rfl
  have u3 : ∀ b o, b ≠ S → g1.get? b = some o → ((g1.update S (Obj.mapSeq (·.push Value.none))).update S (Obj.mapSeq (·.pop))).get? b = some o := fun b o hb e => (Heap.get?_update_other _ _ (Ne.symm hb)).trans ((Heap.get?_update_other _ _ (Ne.symm hb)).trans e)
  have z3 : ((g1.update S (Obj.mapSeq (·.push Value.none))).update S (Obj.mapSeq (·.pop))).objs.size = S + 1 := by rw [Heap.size_update, Heap.size_update, z1]
  refine wpAny_pure ⟨plainId_quiet PySem.F.plain_extend_loop _, zst_loop (A := A.in1) (s := s) (lo := S + 1) (h0 := s.heap) hh D nS ⟨Nat.lt_succ_of_lt d1, Nat.lt_succ_of_lt d3, Nat.lt_succ_of_lt d4, Nat.lt_succ_of_lt d5, Nat.lt_succ_self _⟩ hn hxy .none (fun h' tk acc c as kp hS' hal G hacc => ⟨rfl, hQ h' tk acc c as (fun b o c2 c3 c4 c5 e => ?_) hS' hal G hacc⟩) xs.size 0 _ _ _ #[] [] (Nat.sub_zero _) (Nat.zero_le _) (st2.keep nS u3)
    (fun b o c0 c1 c2 c3 c4 c5 e => u3 b o c1 (u1 b o c1 (k1 b o e))) hS3 rfl rfl ⟨List.Pairwise.nil, (fun _ ha => nomatch ha), fun j a hj => by simp at hj⟩ (Nat.le_of_eq z3.symm)⟩
  have hb : b < S := by rw [← hL]; exact Heap.lt_size e
  exact kp b o (Nat.lt_succ_of_lt hb) (Nat.ne_of_lt hb) c2 c3 c4 c5 e
end
theorem n_bnd {n m a b : Nat} (e : m = n + 5) (ha : a < n) (hb : b < n) : n + 4 < m ∧ n + 2 < m ∧ n + 3 < m ∧ n < m ∧ n + 1 < m ∧ a < m ∧ b < m := by omega
theorem n_ne {a n : Nat} (k : Nat) (h : a < n) : a ≠ n + k := by omega
theorem n_lo {n t m : Nat} (e : m = n + 5) (h : m + 1 ≤ t) : n ≤ t := by omega
theorem n_no {n m : Nat} (e : m = n + 5) (h : m + 1 ≤ n + 5) : False := by omega
def tListZip (K : PySem.W.Frag) (ta : TA) : TE := fun σ H Q => ta σ H fun vs H1 => ∃ (a b : Addr) (xs ys : List V), vs = [.ref a, .ref b] ∧ SqT K H1 a xs ∧ SqT K H1 b ys ∧ xs.length = ys.length ∧ xs.length ≤ 1000 ∧
  ∀ (p : Addr) (ts : List Addr) (H' : Hp), H1 p = none → Ex H1 H' → H' p = some (.lst (ts.map V.ref)) → PySem.Paired (fun (t : Addr) (q : V × V) => H' t = some (.tup [q.1, q.2])) ts (xs.zip ys) → Q (.ref p) H'
section
variable {X : Cx} {e e2 : Expr} {ta : TA} {p p2 zpos pos : Pos}
theorem pe_listZip (hc : X.calm = true) (hg : Gl X "list") (hm : X.mg "list" = none) (hgz : Gl X "zip") (hmz : X.mg "zip" = none) (ha : PA X [e, e2] ta)
    (hs : starEach [.Call (.Name "zip" p2) [e, e2] [] zpos] X.env = (false, eval (.Call (.Name "zip" p2) [e, e2] [] zpos) X.env) :: starEach [] X.env := by rfl)
    (hsz : starEach [e, e2] X.env = (false, eval e X.env) :: starEach [e2] X.env := by rfl) (hpl : (backTo zpos (starEach [e2] X.env)).any (·.1) = false := by rfl) :
    PE X (.Call (.Name "list" p) [.Call (.Name "zip" p2) [e, e2] [] zpos] [] pos) (tListZip X.K ta) := by
  refine ⟨fun pins s σ H Q I h => ?_⟩
  refine wpAny_Call_Name_kw (ld_blt I hg hm (by rfl : bootBuiltins "list" = some (.type "list")) ?_)
  refine PyProof.Rows.callWith_type1 ?_ hs rfl
  rw [hs]
  refine Calls.spliced_cons ?_
  refine wpAny_Call_Name_kw (ld_blt I hgz hmz PyProof.Rows.boot_zip (PyProof.Rows.callWith_type1 (thn (ha.run zpos pins s σ H _ I h) fun us s1 ⟨vs, H1, I1, r1, q1⟩ => ?_) hsz hpl))
  obtain ⟨a, b, xs, ys, rfl, hx, hy, hl, hz, q⟩ := q1
  obtain ⟨u1, u2, rfl, r2, r3⟩ := vals2 r1
  cases r2
  cases r3
  obtain ⟨its, rv, pa, _⟩ := I1.tuple hx
  obtain ⟨its2, rv2, pb, _⟩ := I1.tuple hy
  obtain ⟨o1, ho1, _⟩ := id pa
  obtain ⟨o2, ho2, _⟩ := id pb
  have la := Heap.lt_size ho1
  have lb := Heap.lt_size ho2
  refine call_zipT (show s1.heap.IsTuple a its.toArray from pa) (show s1.heap.IsTuple b its2.toArray from pb) fun h' hz1 hTI hTO h1 h2 hsize hk => Calls.spliced_nil ?_
  have l1 := rv.length
  have l2 := rv2.length
  have I2 : Inv X pins σ H1 { s1 with heap := h' } := I1.kept (t' := s1.toks) hk
  have pa' : h'.IsTuple a its.toArray := (show s1.heap.IsTuple a its.toArray from pa).at fun o e => hk _ o e
  have pb' : h'.IsTuple b its2.toArray := (show s1.heap.IsTuple b its2.toArray from pb).at fun o e => hk _ o e
  have hZ : ZSt (s1.heap.objs.size + 4) (s1.heap.objs.size + 2) (s1.heap.objs.size + 3) s1.heap.objs.size (s1.heap.objs.size + 1) a b its.toArray its2.toArray h'.objs.size 0 h' := ⟨hTI, h1, h2, pa', pb', .inl ⟨hz1, _, _, hTO⟩⟩
  refine list_zipT (s := { s1 with heap := h' }) (I1.ok.hd hc) (PySem.W.ktu_apart s1.heap.objs.size a b la lb) hZ (n_bnd hsize la lb) hz1 (by rw [List.size_toArray]; exact Nat.le_trans (by omega) (show 1000 ≤ sizeLine by decide)) (by rw [List.size_toArray, List.size_toArray]; omega) fun h2 tk acc c as kp hS' hal G hacc => ?_
  rw [List.size_toArray] at hal
  have kp2 : ∀ b o, s1.heap.get? b = some o → h2.get? b = some o := fun b o e =>
    kp b o (n_ne 4 (Heap.lt_size e)) (n_ne 3 (Heap.lt_size e)) (n_ne 0 (Heap.lt_size e)) (n_ne 1 (Heap.lt_size e)) (hk b o e)
  have I3 : Inv X pins σ H1 { s1 with heap := h2, toks := tk } := I1.kept (t' := tk) kp2
  have nd : as.Nodup := List.Pairwise.imp (fun {a b} (h : a < b) => Nat.ne_of_lt h) G.rise
  have at_ : ∀ (j : Nat) (t : Addr), as[j]? = some t → ∃ (x y : V) (u v : Value), xs[j]? = some x ∧ ys[j]? = some y ∧ RelV x u ∧ RelV y v ∧ h2.get? t = some { cls := .type "tuple", data := .seq #[u, v] } := by
    intro j t hj
    obtain ⟨u, v, e1, e2, e3⟩ := G.pairs j t hj
    have e1' : its[j]? = some u := by simpa using e1
    have e2' : its2[j]? = some v := by simpa using e2
    obtain ⟨x, hx1, hx2⟩ := vals_at rv e1'
    obtain ⟨y, hy1, hy2⟩ := vals_at rv2 e2'
    exact ⟨x, y, u, v, hx1, hy1, hx2, hy2, e3⟩
  have hL0 : s1.heap.objs.size ≤ h'.objs.size := by
    rw [hsize]
    exact Nat.le_add_right _ _
  have hL1 : H1 h'.objs.size = none := I1.hok.fresh hL0
  have vr : ∀ as : List Addr, Vals (as.map V.ref) (as.map Value.ref) := fun as => by
    induction as with
    | nil => exact .nil
    | cons a as ih => exact .cons rfl ih
  have hal2 : as.length = xs.length := by
    rw [hal, l1]
  have I5 : Inv X pins σ (upd H1 h'.objs.size (.lst (as.map V.ref))) { s1 with heap := h2, toks := tk } := I3.take (h' := h2) (t' := tk) (fun b ob _ e => e) (I1.fpOk hL0 hL1) ⟨by rw [List.length_map, hal2]; exact Nat.le_trans hz (show 1000 ≤ sizeLine by decide), acc.toList, c, by rw [hacc]; exact vr as, by rw [Array.toArray_toList]; exact hS'⟩
  obtain ⟨H2, I4, e4, tr⟩ := L2.DX.takeT (h' := h2) (tk := tk) (P := fun t vs => ∃ (j : Nat) (x y : V), as[j]? = some t ∧ xs[j]? = some x ∧ ys[j]? = some y ∧ vs = [x, y]) I1 as _ I5 nd fun t ht => by
    obtain ⟨j, hj⟩ := List.mem_iff_getElem?.mp ht
    obtain ⟨x, y, u, v, hx1, hy1, hx2, hy2, hob⟩ := at_ j t hj
    have lo := n_lo hsize (G.above t ht)
    exact ⟨lo, by rw [upd_ne (Nat.ne_of_gt (G.above t ht))]; exact I1.hok.fresh lo, [x, y], ⟨j, x, y, hj, hx1, hy1, rfl⟩, fun H2 => ⟨by show 2 ≤ sizeLine; decide, [u, v], .cons hx2 (.cons hy2 .nil), ⟨_, hob, rfl, _, rfl⟩⟩⟩
  have pr : ∀ (as : List Addr) (zs : List (V × V)), as.length = zs.length → (∀ (j : Nat) (t : Addr) (q : V × V), as[j]? = some t → zs[j]? = some q → H2 t = some (.tup [q.1, q.2])) → PySem.Paired (fun (t : Addr) (q : V × V) => H2 t = some (.tup [q.1, q.2])) as zs := by
    intro as
    induction as with
    | nil =>
      intro zs hl _
      cases zs with
      | nil => exact .nil
      | cons z zs => simp at hl
    | cons a as ih =>
      intro zs hl h
      cases zs with
      | nil => simp at hl
      | cons z zs => exact .cons (h 0 a z rfl rfl) (ih zs (by simpa using hl) fun j t q h1 h2 => h (j + 1) t q (by simpa using h1) (by simpa using h2))
  refine ⟨.ref h'.objs.size, H2, I4, rfl, q _ as H2 hL1 (Ex.trans (Ex.new hL1) e4) (e4 _ _ upd_same) (pr as _ (by rw [List.length_zip, hal2, ← hl, Nat.min_self]) fun j t qq h1 h2 => ?_)⟩
  obtain ⟨vs, ⟨j2, x, y, g1, g2, g3, g4⟩, g5⟩ := tr t (List.mem_of_getElem? h1)
  have ej := nd_ix nd h1 g1
  subst ej
  obtain ⟨k1, k2⟩ := List.getElem?_zip_eq_some.mp h2
  rw [k1] at g2
  rw [k2] at g3
  rw [g5, g4, Option.some.inj g2, Option.some.inj g3]
end
end Hm

set_option Elab.async false
set_option linter.all false
set_option maxRecDepth 100000
set_option maxHeartbeats 1000000
namespace Hm
open PySem PySem.Spec PyProof.Rows L2 HT
open Evl (Ex)
/-! ## terms as data -/
mutual
def toD : Tm → PyData
  | .var k => .tuple [.int k]
  | .int i => .int i
  | .atom s => .str s
  | .comp f as => .tuple (.str f :: toDs as)
def toDs : List Tm → List PyData
  | [] => []
  | t :: ts => toD t :: toDs ts
end
section
variable {K : PySem.W.Frag} {H : Hp}
mutual
theorem dp_rep : ∀ {t : Tm} {v : V}, Rep K H t v → Dp K H v (toD t)
  | .var k, v, h => by
    unfold Rep at h
    obtain ⟨a, rfl, hT⟩ := h
    exact .tup hT (.cons (.int k) .nil)
  | .int i, v, h => by
    unfold Rep at h
    subst h
    exact .int i
  | .atom s, v, h => by
    unfold Rep at h
    subst h
    exact .str s
  | .comp f as, v, h => by
    unfold Rep at h
    obtain ⟨a, vs, rfl, hT, hA⟩ := h
    exact .tup hT (.cons (.str f) (dp_reps hA))
theorem dp_reps : ∀ {ts : List Tm} {vs : List V}, Reps K H ts vs → DpAll K H vs (toDs ts)
  | [], vs, h => by
    rw [h.nil_inv]
    exact .nil
  | t :: ts, vs, h => by
    obtain ⟨v, ws, rfl, h1, h2⟩ := h.cons_inv
    exact .cons (dp_rep h1) (dp_reps h2)
end
theorem dp_ints {p : Addr} {ns : List Int} (h : SqL K H p (ns.map V.int)) : Dp K H (.ref p) (.list (ns.map PyData.int)) := by
  refine .lst h ?_
  induction ns with
  | nil => exact .nil
  | cons n ns ih => exact .cons (.int n) (ih' ns)
where ih' : ∀ ns : List Int, DpAll K H (ns.map V.int) (ns.map PyData.int)
  | [] => .nil
  | n :: ns => .cons (.int n) (ih' ns)
end
theorem lay_ints : ∀ ns : List Int, PyData.canLayAll0 (ns.map PyData.int) = true
  | [] => rfl
  | n :: ns => by
    show (PyData.canLay0 (.int n) && PyData.canLayAll0 (ns.map PyData.int)) = true
    rw [lay_ints ns]
    rfl
theorem dep_ints : ∀ ns : List Int, PyData.depthAll (ns.map PyData.int) = 0
  | [] => rfl
  | n :: ns => by
    show max (PyData.depth (.int n)) (PyData.depthAll (ns.map PyData.int)) = 0
    rw [dep_ints ns]
    rfl
theorem shaped_ints (ns : List Int) : SeqAt.shaped (.list (ns.map PyData.int)) = true := by
  show (PyData.canLayAll0 (ns.map PyData.int) && decide (PyData.depthAll (ns.map PyData.int) + 1 ≤ 64)) = true
  rw [lay_ints, dep_ints]
  rfl
theorem eqv_ints (ns : List Int) : PyData.eqv (.list (ns.map PyData.int)) (.list (ns.map PyData.int)) = true := SeqAt.eqv_refl _ (lay_ints ns)
theorem strOk_of {s : Str} (h : AtomOk s) : (PyData.str s).canLay0 = true := by
  show (s.cps.all fun c => decide (c < 0x110000)) = true
  rw [← Array.all_toList, List.all_eq_true]
  intro c hc
  have := h.2 c hc
  exact decide_eq_true (by omega)
mutual
theorem lay_tm : ∀ {t : Tm}, Ok t → (toD t).canLay0 = true
  | .var k, _ => rfl
  | .int i, _ => rfl
  | .atom s, h => by
    unfold Ok at h
    exact strOk_of h
  | .comp f as, h => by
    unfold Ok at h
    unfold toD
    show ((PyData.str f).canLay0 && PyData.canLayAll0 (toDs as)) = true
    rw [strOk_of h.1, lay_tms h.2.2.2]
    rfl
theorem lay_tms : ∀ {ts : List Tm}, Oks ts → PyData.canLayAll0 (toDs ts) = true
  | [], _ => rfl
  | t :: ts, h => by
    rw [oks_cons] at h
    unfold toDs
    show ((toD t).canLay0 && PyData.canLayAll0 (toDs ts)) = true
    rw [lay_tm h.1, lay_tms h.2]
    rfl
end
mutual
theorem dep_tm : ∀ t : Tm, (toD t).depth ≤ depth t
  | .var k => by
    show max (PyData.depth (.int k)) (PyData.depthAll []) + 1 ≤ 1
    exact Nat.le_refl _
  | .int i => Nat.zero_le _
  | .atom s => Nat.zero_le _
  | .comp f as => by
    unfold toD depth
    have := dep_tms as
    show max (PyData.depth (.str f)) (PyData.depthAll (toDs as)) + 1 ≤ _
    have e : PyData.depth (.str f) = 0 := rfl
    omega
theorem dep_tms : ∀ ts : List Tm, PyData.depthAll (toDs ts) ≤ depths ts
  | [] => Nat.zero_le _
  | t :: ts => by
    unfold toDs
    rw [depths_cons]
    have h1 := dep_tm t
    have h2 := dep_tms ts
    show max (toD t).depth (PyData.depthAll (toDs ts)) ≤ _
    omega
end
theorem shaped_tm {t : Tm} (h : Ok t) (hd : depth t ≤ 64) : SeqAt.shaped (toD t) = true := by
  show ((toD t).canLay0 && decide ((toD t).depth ≤ 64)) = true
  rw [lay_tm h, decide_eq_true (Nat.le_trans (dep_tm t) hd)]
  rfl
theorem eqv_tm {t : Tm} (h : Ok t) : PyData.eqv (toD t) (toD t) = true := SeqAt.eqv_refl _ (lay_tm h)
mutual
theorem eqv_toD : ∀ s t : Tm, PyData.eqv (toD s) (toD t) = decide (tord s t = 0)
  | .var i, .var j => by
    show ((i == j : Bool) && true) = decide (hC [0, i] [0, j] = 0)
    rw [hC_two, intC_beq, Bool.and_true]
  | .int i, .int j => by
    show (i == j : Bool) = decide (hC [1, i] [1, j] = 0)
    rw [hC_two, intC_beq]
  | .atom i, .atom j => by
    show (i == j : Bool) = decide (hC (2 :: cpsI i) (2 :: cpsI j) = 0)
    rw [hC_str, sC_beq]
  | .comp f as, .comp g bs => by
    rw [tord]
    unfold toD
    show ((f == g : Bool) && PyData.eqvAll (toDs as) (toDs bs)) = _
    rw [eqv_toDs as bs, sC_beq]
    by_cases e1 : intC (as.length : Int) (bs.length : Int) = 0
    · have := intC_ok.eq _ _ e1
      rw [if_pos e1, decide_eq_true (show as.length = bs.length by omega), Bool.true_and]
      by_cases e2 : sC f g = 0
      · rw [if_pos e2, decide_eq_true e2, Bool.true_and]
      · rw [if_neg e2, decide_eq_false e2, Bool.false_and]
    · have hl : ¬ as.length = bs.length := fun z => e1 (by rw [z]; exact intC_ok.refl _)
      rw [if_neg e1, decide_eq_false e1, decide_eq_false hl, Bool.false_and, Bool.and_false]
  | .var i, .int j => by rw [decide_eq_false (show tord (.var i) (.int j) ≠ 0 from hC_rank (by simp [rank]))]; rfl
  | .var i, .atom j => by rw [decide_eq_false (show tord (.var i) (.atom j) ≠ 0 from hC_rank (by simp [rank]))]; rfl
  | .var i, .comp g bs => by
    rw [decide_eq_false (show tord (.var i) (.comp g bs) ≠ 0 from hC_rank (by simp [rank]))]
    unfold toD
    rfl
  | .int i, .var j => by rw [decide_eq_false (show tord (.int i) (.var j) ≠ 0 from hC_rank (by simp [rank]))]; rfl
  | .int i, .atom j => by rw [decide_eq_false (show tord (.int i) (.atom j) ≠ 0 from hC_rank (by simp [rank]))]; rfl
  | .int i, .comp g bs => by
    rw [decide_eq_false (show tord (.int i) (.comp g bs) ≠ 0 from hC_rank (by simp [rank]))]
    unfold toD
    rfl
  | .atom i, .var j => by rw [decide_eq_false (show tord (.atom i) (.var j) ≠ 0 from hC_rank (by simp [rank]))]; rfl
  | .atom i, .int j => by rw [decide_eq_false (show tord (.atom i) (.int j) ≠ 0 from hC_rank (by simp [rank]))]; rfl
  | .atom i, .comp g bs => by
    rw [decide_eq_false (show tord (.atom i) (.comp g bs) ≠ 0 from hC_rank (by simp [rank]))]
    unfold toD
    rfl
  | .comp g bs, .var j => by
    rw [decide_eq_false (show tord (.comp g bs) (.var j) ≠ 0 from hC_rank (by simp [rank]))]
    unfold toD
    rfl
  | .comp g bs, .int j => by
    rw [decide_eq_false (show tord (.comp g bs) (.int j) ≠ 0 from hC_rank (by simp [rank]))]
    unfold toD
    rfl
  | .comp g bs, .atom j => by
    rw [decide_eq_false (show tord (.comp g bs) (.atom j) ≠ 0 from hC_rank (by simp [rank]))]
    unfold toD
    rfl
theorem eqv_toDs : ∀ as bs : List Tm, PyData.eqvAll (toDs as) (toDs bs) = (decide (as.length = bs.length) && decide (tords as bs = 0))
  | [], [] => by simp [toDs, PyData.eqvAll, tords]
  | [], b :: bs => by simp [toDs, PyData.eqvAll]
  | a :: as, [] => by simp [toDs, PyData.eqvAll]
  | a :: as, b :: bs => by
    unfold toDs
    show (PyData.eqv (toD a) (toD b) && PyData.eqvAll (toDs as) (toDs bs)) = _
    rw [eqv_toD a b, eqv_toDs as bs, tords]
    have e : decide ((a :: as).length = (b :: bs).length) = decide (as.length = bs.length) := by simp
    rw [e]
    by_cases z : tord a b = 0
    · rw [if_pos z, decide_eq_true z, Bool.true_and]
    · rw [if_neg z, decide_eq_false z, Bool.false_and, Bool.and_false]
end
theorem tord_rank {s t : Tm} (h : rank s ≠ rank t) : tord s t = intC (rank s) (rank t) := by
  obtain ⟨x, e1⟩ := hcode_row s
  obtain ⟨y, e2⟩ := hcode_row t
  have e : tord s t = hC (hcode s) (hcode t) := by
    cases s <;> cases t <;> first | rfl | exact absurd rfl h
  rw [e, e1, e2, hC_tag' h]
theorem tord_var (i j : Int) : tord (.var i) (.var j) = intC i j := hC_two 0 i j
theorem tord_int (i j : Int) : tord (.int i) (.int j) = intC i j := hC_two 1 i j
theorem tord_atom (a b : Str) : tord (.atom a) (.atom b) = sC a b := hC_str a b
end Hm

set_option Elab.async false
set_option linter.all false
set_option maxRecDepth 100000
set_option maxHeartbeats 4000000
namespace Hm
open PySem PySem.Spec PyProof.Rows L2 HT
/-- a def of the text as it stands behind the top -/
structure Df (K : PySem.W.Frag) (mg : Str → Option Value) (x : Str) (st : Stmt) (ps : List Str) (ds : List Value) (f : Addr) (fd : FuncData) : Prop where
  F : Fun K x x st f fd
  b : Binds K fd ps ds
  m : mg x = some (.ref f)
theorem cl {X : Cx} {x : Str} {f : Addr} {fd : FuncData} {ps : List Str} {sp : Sp} {j k : Nat} {st : Stmt} {e : Expr} {es : List Expr} {t : TA} {p pos : Pos} (G : FnOk X.prog X.w X.K X.mg X.base CX0 k f fd ps sp) (D : Df X.K X.mg x st ps [] f fd) (hr : Room j X.A) (ha : PA X (e :: es) t)
    (hj : k ≤ j := by first | decide | omega) (hg : Gl X x := by rfl) (hd : (x == ("__debug__" : Str)) = false := by decide) (hs : starEach (e :: es) X.env = (false, eval e X.env) :: starEach es X.env := by rfl) (hst : (backTo pos (starEach es X.env)).any (·.1) = false := by rfl) : PE X (.Call (.Name x p) (e :: es) [] pos) (tCall sp [] E0 t) :=
  pe_call G (hr.mono hj) hg D.m D.F.kp D.b .nil pass0 ha (hdb := hd) (he := hs) (hpl := hst)
/-- a def with default values -/
structure DfD (K : PySem.W.Frag) (mg : Str → Option Value) (x : Str) (st : Stmt) (ps : List Str) (dvs : List V) (f : Addr) (fd : FuncData) : Prop where
  F : FunD K x x (defArgs st) (defBody st) (defScope st) dvs [] f fd
  m : mg x = some (.ref f)
  b : ∃ ds, Vals dvs ds ∧ Binds K fd ps ds
theorem cld {X : Cx} {x : Str} {f : Addr} {fd : FuncData} {ps : List Str} {sp : Sp} {j k : Nat} {st : Stmt} {dvs : List V} {e : Expr} {es : List Expr} {t : TA} {p pos : Pos} (G : FnOk X.prog X.w X.K X.mg X.base CX0 k f fd ps sp) (D : DfD X.K X.mg x st ps dvs f fd) (hr : Room j X.A) (ha : PA X (e :: es) t)
    (hj : k ≤ j := by first | decide | omega) (hg : Gl X x := by rfl) (hd : (x == ("__debug__" : Str)) = false := by decide) (hs : starEach (e :: es) X.env = (false, eval e X.env) :: starEach es X.env := by rfl) (hst : (backTo pos (starEach es X.env)).any (·.1) = false := by rfl) : PE X (.Call (.Name x p) (e :: es) [] pos) (tCall sp dvs E0 t) := by
  obtain ⟨ds, hv, hb⟩ := D.b
  exact pe_call G (hr.mono hj) hg D.m D.F.kp hb hv pass0 ha (hdb := hd) (he := hs) (hpl := hst)
/-- a def of the text whose code object is told -/
structure DfC (K : PySem.W.Frag) (mg : Str → Option Value) (x : Str) (st : Stmt) (ps : List Str) (f : Addr) (fd : FuncData) (c : Addr) : Prop where
  F : Fun K x x st f fd
  b : Binds K fd ps []
  m : mg x = some (.ref f)
  x : ∃ (oc : Value) (od : Option Addr) (kV doc pm : Value) (an : Option Addr) (ct : Value) (osl : Array (Option Value)),
    fd = PySem.W.fnOf x x (defArgs st) (defBody st) (defScope st) .none kV doc pm an (.ref c) ct ∧ K.lookup f = some ⟨oc, od, .func fd, osl⟩ ∧ PySem.W.codeIn K (.ref c) x = true
theorem DfC.df {K : PySem.W.Frag} {mg : Str → Option Value} {x : Str} {st : Stmt} {ps : List Str} {f : Addr} {fd : FuncData} {c : Addr} (D : DfC K mg x st ps f fd c) : Df K mg x st ps [] f fd := ⟨D.F, D.b, D.m⟩
theorem DfC.ok {P : Program} {w : World} {K : PySem.W.Frag} {mg : Str → Option Value} {base : Heap} {x : Str} {st : Stmt} {ps N : List Str} {f : Addr} {fd : FuncData} {c : Addr} {k : Nat} {sp : Sp} (D : DfC K mg x st ps f fd c) (S : FnScope N ps (defScope st)) (len : ∀ vs H Q E, sp vs H Q E → vs.length = ps.length)
    (hbody : ∀ (A : Around) (outer : List Env) (s : Shared) (H : Hp) (vs : List V) (Q : VK) (E : XK), Room k (A.deeper (envOfC x (defScope st) s.heap.objs.size f (.ref c))) → sp vs H Q E →
      ∃ t, PSs (cxOf CX0 P w K mg base N x (defScope st) f (.ref c) A outer s H E).nox (defBody st) t ∧ t { nx := fun _ H' => Q .non H', rt := Q } (start N vs) H) : FnOk P w K mg base CX0 (k + 1) f fd ps sp := by
  obtain ⟨oc, od, kV, doc, pm, an, ct, osl, rfl, lk, hcd⟩ := D.x
  refine fn_of lk hcd S len fun A outer s H vs Q E hr hsp => ?_
  obtain ⟨t, h, q⟩ := hbody A outer s H vs Q E hr hsp
  exact ⟨t, h.nox, q⟩
def top (i : Nat) : Stmt := PySem.Challenge.pw_hornmill_k07_terms_matched.main.body.getD i (.Pass ⟨0, 0, 0, 0⟩)
abbrev s_is_integer : Stmt := top 12
theorem sc_is_integer : FnScope ["thing"] ["thing"] (defScope s_is_integer) := ⟨rfl, rfl, rfl, by decide +kernel, rfl, by decide +kernel, by decide +kernel⟩
abbrev s_is_sign : Stmt := top 13
theorem sc_is_sign : FnScope ["sign"] ["sign"] (defScope s_is_sign) := ⟨rfl, rfl, rfl, by decide +kernel, rfl, by decide +kernel, by decide +kernel⟩
abbrev s_is_atom : Stmt := top 14
theorem sc_is_atom : FnScope ["thing", "sign"] ["thing"] (defScope s_is_atom) := ⟨rfl, rfl, rfl, by decide +kernel, rfl, by decide +kernel, by decide +kernel⟩
abbrev s_is_number : Stmt := top 15
theorem sc_is_number : FnScope ["thing"] ["thing"] (defScope s_is_number) := ⟨rfl, rfl, rfl, by decide +kernel, rfl, by decide +kernel, by decide +kernel⟩
abbrev s_is_term : Stmt := top 16
theorem sc_is_term : FnScope ["thing", "waiting", "part"] ["thing"] (defScope s_is_term) := ⟨rfl, rfl, rfl, by decide +kernel, rfl, by decide +kernel, by decide +kernel⟩
abbrev s_is_part : Stmt := top 17
theorem sc_is_part : FnScope ["thing"] ["thing"] (defScope s_is_part) := ⟨rfl, rfl, rfl, by decide +kernel, rfl, by decide +kernel, by decide +kernel⟩
abbrev s_demand_term : Stmt := top 18
theorem sc_demand_term : FnScope ["term"] ["term"] (defScope s_demand_term) := ⟨rfl, rfl, rfl, by decide +kernel, rfl, by decide +kernel, by decide +kernel⟩
abbrev s_is_variable : Stmt := top 19
theorem sc_is_variable : FnScope ["part"] ["part"] (defScope s_is_variable) := ⟨rfl, rfl, rfl, by decide +kernel, rfl, by decide +kernel, by decide +kernel⟩
abbrev s_arguments_of : Stmt := top 20
theorem sc_arguments_of : FnScope ["part"] ["part"] (defScope s_arguments_of) := ⟨rfl, rfl, rfl, by decide +kernel, rfl, by decide +kernel, by decide +kernel⟩
abbrev s_parts_of : Stmt := top 21
theorem sc_parts_of : FnScope ["term", "found", "waiting", "part"] ["term"] (defScope s_parts_of) := ⟨rfl, rfl, rfl, by decide +kernel, rfl, by decide +kernel, by decide +kernel⟩
abbrev s_head_of : Stmt := top 22
theorem sc_head_of : FnScope ["part"] ["part"] (defScope s_head_of) := ⟨rfl, rfl, rfl, by decide +kernel, rfl, by decide +kernel, by decide +kernel⟩
abbrev s_folded : Stmt := top 23
theorem sc_folded : FnScope ["row", "done", "what", "many", "inner"] ["row"] (defScope s_folded) := ⟨rfl, rfl, rfl, by decide +kernel, rfl, by decide +kernel, by decide +kernel⟩
abbrev s_replaced : Stmt := top 24
theorem sc_replaced : FnScope ["term", "table", "row", "part"] ["term", "table"] (defScope s_replaced) := ⟨rfl, rfl, rfl, by decide +kernel, rfl, by decide +kernel, by decide +kernel⟩
abbrev s_numbers_in : Stmt := top 25
theorem sc_numbers_in : FnScope ["term", "seen", "part"] ["term"] (defScope s_numbers_in) := ⟨rfl, rfl, rfl, by decide +kernel, rfl, by decide +kernel, by decide +kernel⟩
abbrev s_renumbered : Stmt := top 26
theorem sc_renumbered : FnScope ["term", "place", "k"] ["term"] (defScope s_renumbered) := ⟨rfl, rfl, rfl, by decide +kernel, rfl, by decide +kernel, by decide +kernel⟩
abbrev s_order_key : Stmt := top 28
theorem sc_order_key : FnScope ["term", "part"] ["term"] (defScope s_order_key) := ⟨rfl, rfl, rfl, by decide +kernel, rfl, by decide +kernel, by decide +kernel⟩
abbrev s_matching : Stmt := top 30
theorem sc_matching : FnScope ["general", "special", "found", "waiting", "one", "other", "known"] ["general", "special"] (defScope s_matching) := ⟨rfl, rfl, rfl, by decide +kernel, rfl, by decide +kernel, by decide +kernel⟩
abbrev s_subsumes : Stmt := top 31
theorem sc_subsumes : FnScope ["general", "special"] ["general", "special"] (defScope s_subsumes) := ⟨rfl, rfl, rfl, by decide +kernel, rfl, by decide +kernel, by decide +kernel⟩
abbrev s_is_variant : Stmt := top 32
theorem sc_is_variant : FnScope ["one", "other"] ["one", "other"] (defScope s_is_variant) := ⟨rfl, rfl, rfl, by decide +kernel, rfl, by decide +kernel, by decide +kernel⟩
abbrev s_law_cell_at : Stmt := top 34
theorem sc_law_cell_at : FnScope ["_law_script", "_law_k"] ["_law_script", "_law_k"] (defScope s_law_cell_at) := ⟨rfl, rfl, rfl, by decide +kernel, rfl, by decide +kernel, by decide +kernel⟩
abbrev s_law_well : Stmt := top 35
theorem sc_law_well : FnScope ["_law_cell"] ["_law_cell"] (defScope s_law_well) := ⟨rfl, rfl, rfl, by decide +kernel, rfl, by decide +kernel, by decide +kernel⟩
abbrev s_law_draw : Stmt := top 36
theorem sc_law_draw : FnScope ["_law_well_here", "_law_many", "_law_digit", "_law_mixed"] ["_law_well_here", "_law_many"] (defScope s_law_draw) := ⟨rfl, rfl, rfl, by decide +kernel, rfl, by decide +kernel, by decide +kernel⟩
abbrev s_law_one : Stmt := top 37
theorem sc_law_one : FnScope ["_law_well_here", "_law_some"] ["_law_well_here", "_law_some"] (defScope s_law_one) := ⟨rfl, rfl, rfl, by decide +kernel, rfl, by decide +kernel, by decide +kernel⟩
abbrev s_law_leaf : Stmt := top 38
theorem sc_law_leaf : FnScope ["_law_well_here", "_law_many", "_law_way", "_law_great"] ["_law_well_here", "_law_many"] (defScope s_law_leaf) := ⟨rfl, rfl, rfl, by decide +kernel, rfl, by decide +kernel, by decide +kernel⟩
abbrev s_law_term : Stmt := top 39
theorem sc_law_term : FnScope ["_law_well_here", "_law_deep", "_law_many", "_law_some", "_law_name", "_law_arity", "_law_k"] ["_law_well_here", "_law_deep", "_law_many"] (defScope s_law_term) := ⟨rfl, rfl, rfl, by decide +kernel, rfl, by decide +kernel, by decide +kernel⟩
abbrev s_law_is_variable : Stmt := top 40
theorem sc_law_is_variable : FnScope ["_law_term_here"] ["_law_term_here"] (defScope s_law_is_variable) := ⟨rfl, rfl, rfl, by decide +kernel, rfl, by decide +kernel, by decide +kernel⟩
abbrev s_law_is_compound : Stmt := top 41
theorem sc_law_is_compound : FnScope ["_law_term_here"] ["_law_term_here"] (defScope s_law_is_compound) := ⟨rfl, rfl, rfl, by decide +kernel, rfl, by decide +kernel, by decide +kernel⟩
abbrev s_law_parts : Stmt := top 42
theorem sc_law_parts : FnScope ["_law_term_here", "_law_found_here", "_law_part"] ["_law_term_here"] (defScope s_law_parts) := ⟨rfl, rfl, rfl, by decide +kernel, rfl, by decide +kernel, by decide +kernel⟩
abbrev s_law_numbers : Stmt := top 43
theorem sc_law_numbers : FnScope ["_law_term_here", "_law_found_here", "_law_part"] ["_law_term_here"] (defScope s_law_numbers) := ⟨rfl, rfl, rfl, by decide +kernel, rfl, by decide +kernel, by decide +kernel⟩
abbrev s_law_put : Stmt := top 44
theorem sc_law_put : FnScope ["_law_term_here", "_law_table", "_law_part"] ["_law_term_here", "_law_table"] (defScope s_law_put) := ⟨rfl, rfl, rfl, by decide +kernel, rfl, by decide +kernel, by decide +kernel⟩
abbrev s_law_anew : Stmt := top 45
theorem sc_law_anew : FnScope ["_law_term_here", "_law_first", "_law_at", "_law_number"] ["_law_term_here", "_law_first"] (defScope s_law_anew) := ⟨rfl, rfl, rfl, by decide +kernel, rfl, by decide +kernel, by decide +kernel⟩
abbrev s_law_found : Stmt := top 46
theorem sc_law_found : FnScope ["_law_general", "_law_special", "_law_table", "_law_one_here", "_law_other_here"] ["_law_general", "_law_special", "_law_table"] (defScope s_law_found) := ⟨rfl, rfl, rfl, by decide +kernel, rfl, by decide +kernel, by decide +kernel⟩
abbrev s_law_due : Stmt := top 47
theorem sc_law_due : FnScope ["_law_general", "_law_special", "_law_table"] ["_law_general", "_law_special"] (defScope s_law_due) := ⟨rfl, rfl, rfl, by decide +kernel, rfl, by decide +kernel, by decide +kernel⟩
abbrev s_law_other : Stmt := top 48
theorem sc_law_other : FnScope ["_law_well_here", "_law_term_here", "_law_way", "_law_table", "_law_left", "_law_k", "_law_at"] ["_law_well_here", "_law_term_here"] (defScope s_law_other) := ⟨rfl, rfl, rfl, by decide +kernel, rfl, by decide +kernel, by decide +kernel⟩
abbrev s_law_right : Stmt := top 49
theorem sc_law_right : FnScope ["_law_well_here", "_law_one_here", "_law_turn", "_law_other_here", "_law_due_here", "_law_back", "_law_is_both", "_law_k"] ["_law_well_here"] (defScope s_law_right) := ⟨rfl, rfl, rfl, by decide +kernel, rfl, by decide +kernel, by decide +kernel⟩
abbrev s_law : Stmt := top 50
theorem sc_law : FnScope ["_law_script", "_law_k"] ["_law_script"] (defScope s_law) := ⟨rfl, rfl, rfl, by decide +kernel, rfl, by decide +kernel, by decide +kernel⟩
structure Tx (K : PySem.W.Frag) (mg : Str → Option Value) where
  f_is_integer : Addr
  d_is_integer : FuncData
  h_is_integer : Df K mg "is_integer" s_is_integer ["thing"] [] f_is_integer d_is_integer
  f_is_sign : Addr
  d_is_sign : FuncData
  h_is_sign : Df K mg "is_sign" s_is_sign ["sign"] [] f_is_sign d_is_sign
  f_is_atom : Addr
  d_is_atom : FuncData
  h_is_atom : Df K mg "is_atom" s_is_atom ["thing"] [] f_is_atom d_is_atom
  f_is_number : Addr
  d_is_number : FuncData
  h_is_number : Df K mg "is_number" s_is_number ["thing"] [] f_is_number d_is_number
  f_is_term : Addr
  d_is_term : FuncData
  h_is_term : Df K mg "is_term" s_is_term ["thing"] [] f_is_term d_is_term
  f_is_part : Addr
  d_is_part : FuncData
  h_is_part : Df K mg "_is_part" s_is_part ["thing"] [] f_is_part d_is_part
  f_demand_term : Addr
  d_demand_term : FuncData
  h_demand_term : Df K mg "demand_term" s_demand_term ["term"] [] f_demand_term d_demand_term
  f_is_variable : Addr
  d_is_variable : FuncData
  h_is_variable : Df K mg "is_variable" s_is_variable ["part"] [] f_is_variable d_is_variable
  f_arguments_of : Addr
  d_arguments_of : FuncData
  h_arguments_of : Df K mg "arguments_of" s_arguments_of ["part"] [] f_arguments_of d_arguments_of
  f_parts_of : Addr
  d_parts_of : FuncData
  h_parts_of : Df K mg "parts_of" s_parts_of ["term"] [] f_parts_of d_parts_of
  f_head_of : Addr
  d_head_of : FuncData
  h_head_of : Df K mg "head_of" s_head_of ["part"] [] f_head_of d_head_of
  f_folded : Addr
  d_folded : FuncData
  h_folded : Df K mg "folded" s_folded ["row"] [] f_folded d_folded
  f_replaced : Addr
  d_replaced : FuncData
  h_replaced : Df K mg "replaced" s_replaced ["term", "table"] [] f_replaced d_replaced
  f_numbers_in : Addr
  d_numbers_in : FuncData
  h_numbers_in : Df K mg "numbers_in" s_numbers_in ["term"] [] f_numbers_in d_numbers_in
  f_renumbered : Addr
  d_renumbered : FuncData
  h_renumbered : Df K mg "renumbered" s_renumbered ["term"] [] f_renumbered d_renumbered
  f_order_key : Addr
  d_order_key : FuncData
  h_order_key : Df K mg "order_key" s_order_key ["term"] [] f_order_key d_order_key
  f_matching : Addr
  d_matching : FuncData
  cc : Addr
  h_matching : DfC K mg "matching" s_matching ["general", "special"] f_matching d_matching cc
  f_subsumes : Addr
  d_subsumes : FuncData
  h_subsumes : Df K mg "subsumes" s_subsumes ["general", "special"] [] f_subsumes d_subsumes
  f_is_variant : Addr
  d_is_variant : FuncData
  h_is_variant : Df K mg "is_variant" s_is_variant ["one", "other"] [] f_is_variant d_is_variant
  f_law_cell_at : Addr
  d_law_cell_at : FuncData
  h_law_cell_at : Df K mg "_law_cell_at" s_law_cell_at ["_law_script", "_law_k"] [] f_law_cell_at d_law_cell_at
  f_law_well : Addr
  d_law_well : FuncData
  h_law_well : Df K mg "_law_well" s_law_well ["_law_cell"] [] f_law_well d_law_well
  f_law_draw : Addr
  d_law_draw : FuncData
  h_law_draw : Df K mg "_law_draw" s_law_draw ["_law_well_here", "_law_many"] [] f_law_draw d_law_draw
  f_law_one : Addr
  d_law_one : FuncData
  h_law_one : Df K mg "_law_one" s_law_one ["_law_well_here", "_law_some"] [] f_law_one d_law_one
  f_law_leaf : Addr
  d_law_leaf : FuncData
  h_law_leaf : Df K mg "_law_leaf" s_law_leaf ["_law_well_here", "_law_many"] [] f_law_leaf d_law_leaf
  f_law_term : Addr
  d_law_term : FuncData
  h_law_term : Df K mg "_law_term" s_law_term ["_law_well_here", "_law_deep", "_law_many"] [] f_law_term d_law_term
  f_law_is_variable : Addr
  d_law_is_variable : FuncData
  h_law_is_variable : Df K mg "_law_is_variable" s_law_is_variable ["_law_term_here"] [] f_law_is_variable d_law_is_variable
  f_law_is_compound : Addr
  d_law_is_compound : FuncData
  h_law_is_compound : Df K mg "_law_is_compound" s_law_is_compound ["_law_term_here"] [] f_law_is_compound d_law_is_compound
  f_law_parts : Addr
  d_law_parts : FuncData
  h_law_parts : Df K mg "_law_parts" s_law_parts ["_law_term_here"] [] f_law_parts d_law_parts
  f_law_numbers : Addr
  d_law_numbers : FuncData
  h_law_numbers : Df K mg "_law_numbers" s_law_numbers ["_law_term_here"] [] f_law_numbers d_law_numbers
  f_law_put : Addr
  d_law_put : FuncData
  h_law_put : Df K mg "_law_put" s_law_put ["_law_term_here", "_law_table"] [] f_law_put d_law_put
  f_law_anew : Addr
  d_law_anew : FuncData
  h_law_anew : DfD K mg "_law_anew" s_law_anew ["_law_term_here", "_law_first"] [.int 0] f_law_anew d_law_anew
  f_law_found : Addr
  d_law_found : FuncData
  h_law_found : Df K mg "_law_found" s_law_found ["_law_general", "_law_special", "_law_table"] [] f_law_found d_law_found
  f_law_due : Addr
  d_law_due : FuncData
  h_law_due : Df K mg "_law_due" s_law_due ["_law_general", "_law_special"] [] f_law_due d_law_due
  f_law_other : Addr
  d_law_other : FuncData
  h_law_other : Df K mg "_law_other" s_law_other ["_law_well_here", "_law_term_here"] [] f_law_other d_law_other
  f_law_right : Addr
  d_law_right : FuncData
  h_law_right : Df K mg "_law_right" s_law_right ["_law_well_here"] [] f_law_right d_law_right
  f_law : Addr
  d_law : FuncData
  h_law : Df K mg "law" s_law ["_law_script"] [] f_law d_law
  c_VARIABLE : ∃ t, mg "VARIABLE" = some (.int 0 t)
  c_INTEGER : ∃ t, mg "INTEGER" = some (.int 1 t)
  c_ATOM : ∃ t, mg "ATOM" = some (.int 2 t)
  c_COMPOUND : ∃ t, mg "COMPOUND" = some (.int 3 t)
  c_MOST_SIGNS : ∃ t, mg "MOST_SIGNS" = some (.int 40 t)
  c_MOST_ARGUMENTS : ∃ t, mg "MOST_ARGUMENTS" = some (.int 8 t)
  c_BARRED_SIGN : ∃ t, mg "BARRED_SIGN" = some (.int 37 t)
  c_TOO_GREAT : ∃ t, mg "TOO_GREAT" = some (.int tooGreat t)
  b_abs : mg "abs" = none
  b_all : mg "all" = none
  b_bool : mg "bool" = none
  b_dict : mg "dict" = none
  b_enumerate : mg "enumerate" = none
  b_int : mg "int" = none
  b_isinstance : mg "isinstance" = none
  b_len : mg "len" = none
  b_list : mg "list" = none
  b_max : mg "max" = none
  b_min : mg "min" = none
  b_ord : mg "ord" = none
  b_range : mg "range" = none
  b_reversed : mg "reversed" = none
  b_sorted : mg "sorted" = none
  b_str : mg "str" = none
  b_tuple : mg "tuple" = none
  b_zip : mg "zip" = none
end Hm

set_option Elab.async false
set_option linter.all false
set_option maxRecDepth 100000
set_option maxHeartbeats 4000000
namespace Hm
open PySem PySem.Spec PyProof.Rows L2 HT
open Evl (Ex)
section
variable {P : Program} {w : World} {K : PySem.W.Frag} {mg : Str → Option Value} {base : Heap}
theorem tk_succ {α β : Type} {l : List α} {i : Nat} {x : α} (f : α → β) (h : l[i]? = some x) : (l.take (i + 1)).map f = (l.take i).map f ++ [f x] := by
  rw [List.take_add_one, h]
  simp
theorem yesI {σ : L2.St} {H : Hp} {A B : Hp → Prop} (h : A H) : tYes σ H (fun b H3 => if b = true then A H3 else B H3) := by
  show (if true = true then A H else B H)
  exact iteT h
theorem small5 {n : Nat} (h : n ≤ 100000) : n ≤ sizeLine := Nat.le_trans h (by decide)
theorem small5' {n : Nat} (h : n ≤ 100000) : n < sizeLine := Nat.lt_of_le_of_lt h (by decide)
theorem tyx_tup {H : Hp} {a : Addr} {xs : List V} (h : SqT K H a xs) : TyX K H (.ref a) (.type "tuple") := by
  rcases h with (h | ⟨o, h⟩) | ⟨o, its, n, h1, h2, _⟩
  · exact .base (.tup h)
  · exact .fTuple h
  · exact .kTuple h1 h2
theorem cut1 (x : V) (vs : List V) : cutV (x :: vs) (some 1) none = vs := by
  unfold cutV
  have e : sIx (x :: vs).length 0 (some 1) = 1 := by
    show (if (1 : Int) < 0 then ((1 : Int) + ((x :: vs).length : Int)).toNat else min (1 : Int).toNat (x :: vs).length) = 1
    rw [if_neg (by decide), List.length_cons]
    show min 1 (vs.length + 1) = 1
    omega
  rw [e, sIx_none]
  show (vs.take ((x :: vs).length - 1)) = vs
  rw [List.length_cons]
  exact List.take_of_length_le (by omega)
theorem cut1_ne (x : V) (vs : List V) : ¬ (sIx (x :: vs).length 0 (some 1) = 0 ∧ sIx (x :: vs).length (x :: vs).length none = (x :: vs).length) := by
  intro h
  have e : sIx (x :: vs).length 0 (some 1) = 1 := by
    show (if (1 : Int) < 0 then ((1 : Int) + ((x :: vs).length : Int)).toNat else min (1 : Int).toNat (x :: vs).length) = 1
    rw [if_neg (by decide), List.length_cons]
    show min 1 (vs.length + 1) = 1
    omega
  rw [e] at h
  exact absurd h.1 (by decide)

/-! ### is_integer, of an int -/
def spInt : Sp := fun vs H Q _ => ∃ i, vs = [.int i] ∧ Q (.bl true) H
theorem ok_is_integer (T : Tx K mg) : FnOk P w K mg base CX0 1 T.f_is_integer T.d_is_integer ["thing"] spInt := by
  refine T.h_is_integer.F.ok sc_is_integer (fun vs H Q E h => ?_) (fun cdv A outer s H vs Q E hr h => ?_)
  · obtain ⟨i, rfl, _⟩ := h
    rfl
  obtain ⟨i, rfl, q⟩ := h
  refine ⟨_, (pss_one (ps_ret (pe_and (pe_callB call_isi rfl T.b_isinstance (by decide +kernel) (pa_cons (pv 0) (pa_cons (pe_bltn (v := .ty "int") (u := .type "int") rfl T.b_int (by decide +kernel) rfl) pa_nil))) (pe_one (pe_not (pe_callB call_isi rfl T.b_isinstance (by decide +kernel) (pa_cons (pv 0) (pa_cons (pe_bltn (v := .ty "bool") (u := .type "bool") rfl T.b_bool (by decide +kernel) rfl) pa_nil)))))))), ?_⟩
  refine ⟨_, rfl, _, _, _, _, true, rfl, .ty "int", .base (.int i), kit_ty (by decide +kernel), true, rfl, iteT ?_⟩
  exact ⟨_, rfl, _, _, _, _, false, rfl, .ty "bool", .base (.int i), kit_ty (by decide +kernel), false, rfl, q⟩

/-! ### is_sign, of one sign -/
def signOk (c : Nat) : Bool := decide (32 ≤ c ∧ c ≤ 126 ∧ c ≠ 37)
def spSign : Sp := fun vs H Q _ => ∃ c : Nat, vs = [.str ⟨#[c]⟩] ∧ Q (.bl (signOk c)) H
theorem one_lt {a b : Nat} : (([a] : List Nat) < [b]) ↔ a < b := by
  constructor
  · intro h
    cases h with
    | rel h => exact h
    | cons h => cases h
  · intro h
    exact List.Lex.rel h
theorem ok_is_sign (T : Tx K mg) : FnOk P w K mg base CX0 1 T.f_is_sign T.d_is_sign ["sign"] spSign := by
  refine T.h_is_sign.F.ok sc_is_sign (fun vs H Q E h => ?_) (fun cdv A outer s H vs Q E hr h => ?_)
  · obtain ⟨c, rfl, _⟩ := h
    rfl
  obtain ⟨c, rfl, q⟩ := h
  obtain ⟨tk, hc_BARRED_SIGN⟩ := T.c_BARRED_SIGN
  refine ⟨_, (pss_one (ps_ret (pe_and (pe_chain op_le_str op_le_str pe_str (pv 0) pe_str) (pe_one (pe_cmpR op_ne (pe_callB call_ord rfl T.b_ord (by decide +kernel) (pa_cons (pv 0) pa_nil)) (pe_glob (v := .int 37) rfl hc_BARRED_SIGN ⟨_, rfl⟩) (nomark _)))))), ?_⟩
  refine ⟨_, rfl, _, _, rfl, rfl, _, rfl, ?_⟩
  have e1 : (!decide ((⟨#[c]⟩ : Str).cps.toList < (" " : Str).cps.toList)) = decide (32 ≤ c) := by
    show (!decide (([c] : List Nat) < [32])) = _
    by_cases h : c < 32
    · rw [decide_eq_true (one_lt.mpr h), decide_eq_false (by omega)]
      rfl
    · rw [decide_eq_false (fun z => h (one_lt.mp z)), decide_eq_true (by omega)]
      rfl
  have e2 : (!decide (("~" : Str).cps.toList < (⟨#[c]⟩ : Str).cps.toList)) = decide (c ≤ 126) := by
    show (!decide (([126] : List Nat) < [c])) = _
    by_cases h : 126 < c
    · rw [decide_eq_true (one_lt.mpr h), decide_eq_false (by omega)]
      rfl
    · rw [decide_eq_false (fun z => h (one_lt.mp z)), decide_eq_true (by omega)]
      rfl
  rw [e1]
  by_cases h1 : 32 ≤ c
  · rw [decide_eq_true h1]
    refine iteT ⟨_, _, rfl, rfl, _, rfl, ?_⟩
    rw [e2]
    by_cases h2 : c ≤ 126
    · rw [decide_eq_true h2]
      refine iteT ⟨_, rfl, _, rfl, rfl, rfl, ?_⟩
      have e3 : (!decide (V.int (((#[c] : Array Nat).getD 0 0 : Nat) : Int) = V.int 37)) = signOk c := by
        show (!decide (V.int (c : Int) = V.int 37)) = _
        unfold signOk
        by_cases h3 : c = 37
        · subst h3
          decide
        · rw [decide_eq_false (by intro z; injection z with z; omega), decide_eq_true ⟨h1, h2, h3⟩]
          rfl
      exact e3 ▸ q
    · rw [decide_eq_false h2]
      refine iteF ?_
      have : signOk c = false := decide_eq_false (fun z => h2 z.2.1)
      exact this ▸ q
  · rw [decide_eq_false h1]
    refine iteF ⟨_, rfl, iteF ?_⟩
    have : signOk c = false := decide_eq_false (fun z => h1 z.1)
    exact this ▸ q

/-! ### is_atom, of an atom or an int -/
def spAtom : Sp := fun vs H Q _ => ∃ x, vs = [x] ∧ ((∃ s, x = .str s ∧ AtomOk s ∧ ∀ H', Ex H H' → Q (.bl true) H') ∨ (∃ i, x = .int i ∧ Q (.bl false) H))
theorem ok_is_atom (T : Tx K mg) : FnOk P w K mg base CX0 2 T.f_is_atom T.d_is_atom ["thing"] spAtom := by
  refine T.h_is_atom.F.ok sc_is_atom (fun vs H Q E h => ?_) (fun cdv A outer s H vs Q E hr h => ?_)
  · obtain ⟨x, rfl, _⟩ := h
    rfl
  obtain ⟨x, rfl, h⟩ := h
  obtain ⟨tk, hc_MOST_SIGNS⟩ := T.c_MOST_SIGNS
  refine ⟨_, (pss_one (ps_ret (pe_and (pe_callB call_isi rfl T.b_isinstance (by decide +kernel) (pa_cons (pv 0) (pa_cons (pe_bltn (v := .ty "str") (u := .type "str") rfl T.b_str (by decide +kernel) rfl) pa_nil))) (pe_and (pe_cmpR op_le (pe_callB call_len_str rfl T.b_len (by decide +kernel) (pa_cons (pv 0) pa_nil)) (pe_glob (v := .int 40) rfl hc_MOST_SIGNS ⟨_, rfl⟩) (nomark _)) (pe_one (pe_callB (cr_all rfl) rfl T.b_all (by decide +kernel) (pa_cons (pe_lc (own := [("sign", 1)]) (g := gName 1) rfl sc_is_atom.nd (pi_str (pv 0)) (blkOk_by (own := [("sign", 1)]) (N := ["thing", "sign"]) (sc := defScope s_is_atom) (by decide +kernel)) (fun _ _ _ _ _ => pg_name (i := 1) sc_is_atom.nd rfl (Or.inl rfl)) (fun _ _ _ _ _ => pts_nil) (fun _ _ _ _ _ => (cl (ok_is_sign T) T.h_is_sign hr (pa_cons (pv 1) pa_nil)))) pa_nil))))))), ?_⟩
  rcases h with ⟨z, rfl, ⟨hz, hc⟩, q⟩ | ⟨i, rfl, q⟩
  · refine ⟨_, rfl, _, _, _, _, true, rfl, .ty "str", .base (.str z), kit_ty (by decide +kernel), true, rfl, iteT ?_⟩
    have hl : z.length ≤ 40 := hz
    refine ⟨_, rfl, z, rfl, small5 (by omega), _, _, rfl, rfl, _, rfl, ?_⟩
    rw [decide_eq_true (show ((z.length : Nat) : Int) ≤ 40 by omega)]
    refine iteT ⟨_, rfl, z, rfl, fun D hD => lc_it walk_str (fun i H' => Ex H H' ∧ H' D = some (.lst ((z.cps.toList.take i).map fun c => V.bl (signOk c)))) ⟨Ex.new hD, upd_same⟩ (fun _ _ _ _ => trivial) ?_ ?_⟩
    · rintro i x H1 H2 hi ⟨e1, hL⟩ ⟨rfl, c, hc', rfl⟩
      refine ⟨rfl, yesI ⟨_, rfl, c, rfl, _, hL, ?_, Ex.mut e1 hD, ?_⟩⟩
      · rw [List.length_map, List.length_take]
        exact small5' (by omega)
      · rw [upd_same, tk_succ (x := c)]
        rw [← hc', Array.getElem?_toList]
    · rintro H1 ⟨e1, hL⟩
      refine ⟨D, z.cps.toList.map signOk, rfl, SqL.of ?_, ?_⟩
      · rw [hL, List.take_of_length_le (by simp), List.map_map]
        rfl
      · have : (z.cps.toList.map signOk).all id = true := by
          rw [List.all_map, List.all_eq_true]
          intro c hm
          exact decide_eq_true (hc c hm)
        rw [this]
        exact q _ e1
  · refine ⟨_, rfl, _, _, _, _, false, rfl, .ty "str", .base (.int i), kit_ty (by decide +kernel), false, rfl, iteF q⟩

/-! ### is_number, of an int from 0 on -/
def spNum : Sp := fun vs H Q _ => ∃ i : Int, vs = [.int i] ∧ 0 ≤ i ∧ Q (.bl true) H
theorem ok_is_number (T : Tx K mg) : FnOk P w K mg base CX0 2 T.f_is_number T.d_is_number ["thing"] spNum := by
  refine T.h_is_number.F.ok sc_is_number (fun vs H Q E h => ?_) (fun cdv A outer s H vs Q E hr h => ?_)
  · obtain ⟨x, rfl, _⟩ := h
    rfl
  obtain ⟨i, rfl, h0, q⟩ := h
  refine ⟨_, (pss_one (ps_ret (pe_and (cl (ok_is_integer T) T.h_is_integer hr (pa_cons (pv 0) pa_nil)) (pe_one (pe_cmpR op_ge (pv 0) pe_int (nomark _)))))), ?_⟩
  refine ⟨_, rfl, i, rfl, true, rfl, iteT ⟨_, rfl, _, _, rfl, rfl, ?_⟩⟩
  show Q (.bl (decide ((0 : Int) ≤ i))) H
  rw [decide_eq_true h0]
  exact q

/-! ### arguments_of, of a term -/
def spArgs (K : PySem.W.Frag) : Sp := fun vs H Q _ => ∃ v t, vs = [v] ∧ Rep K H t v ∧ ∀ p ws H', H p = none → Ex H H' → H' p = some (.tup ws) → Reps K H' t.args ws → Q (.ref p) H'
theorem ok_arguments_of (T : Tx K mg) : FnOk P w K mg base CX0 1 T.f_arguments_of T.d_arguments_of ["part"] (spArgs K) := by
  refine T.h_arguments_of.F.ok sc_arguments_of (fun vs H Q E h => ?_) (fun cdv A outer s H vs Q E hr h => ?_)
  · obtain ⟨v, t, rfl, _⟩ := h
    rfl
  obtain ⟨v, t, rfl, hR, q⟩ := h
  refine ⟨_, (pss_one (ps_ret (pe_ifExp (pt_val (pe_callB call_isi rfl T.b_isinstance (by decide +kernel) (pa_cons (pv 0) (pa_cons (pe_bltn (v := .ty "tuple") (u := .type "tuple") rfl T.b_tuple (by decide +kernel) rfl) pa_nil)))) (pe_slice sl_tup (pv 0) (po_some pe_int) po_none) (pe_tup pa_nil)))), ?_⟩
  cases t with
  | var k =>
    unfold Rep at hR
    obtain ⟨a, rfl, hT⟩ := hR
    refine ⟨_, rfl, _, _, _, _, true, rfl, .ty "tuple", tyx_tup hT, kit_ty (by decide +kernel), true, rfl, iteT ?_⟩
    refine ⟨_, rfl, _, rfl, a, _, rfl, hT, cut1_ne _ _, fun p hp => ?_⟩
    rw [cut1]
    exact q p _ _ hp (Ex.new hp) upd_same Reps.nil
  | int i =>
    unfold Rep at hR
    subst hR
    refine ⟨_, rfl, _, _, _, _, false, rfl, .ty "tuple", .base (.int i), kit_ty (by decide +kernel), false, rfl, iteF ?_⟩
    exact ⟨Nat.zero_le _, fun p hp => q p _ _ hp (Ex.new hp) upd_same Reps.nil⟩
  | atom z =>
    unfold Rep at hR
    subst hR
    refine ⟨_, rfl, _, _, _, _, false, rfl, .ty "tuple", .base (.str z), kit_ty (by decide +kernel), false, rfl, iteF ?_⟩
    exact ⟨Nat.zero_le _, fun p hp => q p _ _ hp (Ex.new hp) upd_same Reps.nil⟩
  | comp f as =>
    unfold Rep at hR
    obtain ⟨a, ws, rfl, hT, hA⟩ := hR
    refine ⟨_, rfl, _, _, _, _, true, rfl, .ty "tuple", tyx_tup hT, kit_ty (by decide +kernel), true, rfl, iteT ?_⟩
    refine ⟨_, rfl, _, rfl, a, _, rfl, hT, cut1_ne _ _, fun p hp => ?_⟩
    rw [cut1]
    exact q p ws _ hp (Ex.new hp) upd_same (hA.mono (Tups.of (Ex.new hp)))

/-! ### is_variable, of a term -/
def isVar : Tm → Bool
  | .var _ => true
  | _ => false
def spIsVar (K : PySem.W.Frag) : Sp := fun vs H Q _ => ∃ v t, vs = [v] ∧ Rep K H t v ∧ Ok t ∧ Q (.bl (isVar t)) H
theorem dec_len {n m : Nat} : decide (V.int (n : Int) = V.int (m : Int)) = decide (n = m) := by
  by_cases h : n = m
  · subst h
    simp
  · rw [decide_eq_false h, decide_eq_false]
    intro z
    injection z with z
    omega
theorem ok_is_variable (T : Tx K mg) : FnOk P w K mg base CX0 1 T.f_is_variable T.d_is_variable ["part"] (spIsVar K) := by
  refine T.h_is_variable.F.ok sc_is_variable (fun vs H Q E h => ?_) (fun cdv A outer s H vs Q E hr h => ?_)
  · obtain ⟨v, t, rfl, _⟩ := h
    rfl
  obtain ⟨v, t, rfl, hR, hO, q⟩ := h
  refine ⟨_, (pss_one (ps_ret (pe_and (pe_callB call_isi rfl T.b_isinstance (by decide +kernel) (pa_cons (pv 0) (pa_cons (pe_bltn (v := .ty "tuple") (u := .type "tuple") rfl T.b_tuple (by decide +kernel) rfl) pa_nil))) (pe_one (pe_cmpR op_eq (pe_callB call_len_seq rfl T.b_len (by decide +kernel) (pa_cons (pv 0) pa_nil)) pe_int (nomark _)))))), ?_⟩
  cases t with
  | var k =>
    unfold Rep at hR
    obtain ⟨a, rfl, hT⟩ := hR
    refine ⟨_, rfl, _, _, _, _, true, rfl, .ty "tuple", tyx_tup hT, kit_ty (by decide +kernel), true, rfl, iteT ?_⟩
    exact ⟨_, rfl, a, _, rfl, .inr hT, rfl, q⟩
  | int i =>
    unfold Rep at hR
    subst hR
    exact ⟨_, rfl, _, _, _, _, false, rfl, .ty "tuple", .base (.int i), kit_ty (by decide +kernel), false, rfl, iteF q⟩
  | atom z =>
    unfold Rep at hR
    subst hR
    exact ⟨_, rfl, _, _, _, _, false, rfl, .ty "tuple", .base (.str z), kit_ty (by decide +kernel), false, rfl, iteF q⟩
  | comp f as =>
    unfold Rep at hR
    obtain ⟨a, ws, rfl, hT, hA⟩ := hR
    refine ⟨_, rfl, _, _, _, _, true, rfl, .ty "tuple", tyx_tup hT, kit_ty (by decide +kernel), true, rfl, iteT ?_⟩
    refine ⟨_, rfl, a, _, rfl, .inr hT, rfl, ?_⟩
    have hl := hA.len
    unfold Ok at hO
    have e : decide (V.int (((V.str f :: ws).length : Nat) : Int) = V.int 1) = false := by
      rw [show (V.int 1) = V.int ((1 : Nat) : Int) from rfl, dec_len, decide_eq_false]
      rw [List.length_cons]
      omega
    rw [e]
    exact q
end
end Hm

set_option Elab.async false
set_option linter.all false
set_option maxRecDepth 100000
set_option maxHeartbeats 4000000
namespace Hm
open PySem PySem.Spec PyProof.Rows L2 HT
open Evl (Ex)
section
variable {P : Program} {w : World} {K : PySem.W.Frag} {mg : Str → Option Value} {base : Heap}

theorem at0 {α : Type} {x : α} {xs : List α} : atI (x :: xs) 0 = some x := atI_nat (j := 0) rfl
/-! ### _is_part, of a term -/
def spPart (K : PySem.W.Frag) : Sp := fun vs H Q _ => ∃ v t, vs = [v] ∧ Rep K H t v ∧ Ok t ∧ ∀ H', Ex H H' → Q (.bl true) H'
theorem ok_is_part (T : Tx K mg) : FnOk P w K mg base CX0 3 T.f_is_part T.d_is_part ["thing"] (spPart K) := by
  refine T.h_is_part.F.ok sc_is_part (fun vs H Q E h => ?_) (fun cdv A outer s H vs Q E hr h => ?_)
  · obtain ⟨v, t, rfl, _⟩ := h
    rfl
  obtain ⟨v, t, rfl, hR, hO, q⟩ := h
  obtain ⟨tk, hc_TOO_GREAT⟩ := T.c_TOO_GREAT
  obtain ⟨tk2, hc_MOST_ARGUMENTS⟩ := T.c_MOST_ARGUMENTS
  refine ⟨_, (pss_cons (ps_if (pt_not (pt_val (pe_callB call_isi rfl T.b_isinstance (by decide +kernel) (pa_cons (pv 0) (pa_cons (pe_bltn (v := .ty "tuple") (u := .type "tuple") rfl T.b_tuple (by decide +kernel) rfl) pa_nil)))))
      (pss_one (ps_ret (pe_or (cl (ok_is_atom T) T.h_is_atom hr (pa_cons (pv 0) pa_nil)) (pe_one (pe_and (cl (ok_is_integer T) T.h_is_integer hr (pa_cons (pv 0) pa_nil)) (pe_one (pe_chain op_lt op_lt (pe_un un_neg (pe_glob (v := .int tooGreat) rfl hc_TOO_GREAT ⟨_, rfl⟩)) (pv 0) (pe_glob (v := .int tooGreat) rfl hc_TOO_GREAT ⟨_, rfl⟩))))))))
      pss_nil)
    (pss_cons (ps_if (pt_cmpR op_eq (pe_callB call_len_seq rfl T.b_len (by decide +kernel) (pa_cons (pv 0) pa_nil)) pe_int (nomark _))
      (pss_one (ps_ret (cl (ok_is_number T) T.h_is_number hr (pa_cons (pe_ix ix_tup (pv 0) pe_int (fun _ _ => rfl)) pa_nil))))
      pss_nil)
    (pss_one (ps_ret (pe_and (pe_chain op_le op_le pe_int (pe_callB call_len_seq rfl T.b_len (by decide +kernel) (pa_cons (pv 0) pa_nil)) (pe_op op_add (pe_glob (v := .int 8) rfl hc_MOST_ARGUMENTS ⟨_, rfl⟩) pe_int)) (pe_one (cl (ok_is_atom T) T.h_is_atom hr (pa_cons (pe_ix ix_tup (pv 0) pe_int (fun _ _ => rfl)) pa_nil)))))))), ?_⟩
  cases t with
  | var k =>
    unfold Rep at hR
    obtain ⟨a, rfl, hT⟩ := hR
    unfold Ok at hO
    refine ⟨_, rfl, _, _, _, _, true, rfl, .ty "tuple", tyx_tup hT, kit_ty (by decide +kernel), true, rfl, iteF ?_⟩
    refine ⟨_, rfl, a, _, rfl, .inr hT, rfl, _, rfl, iteT ?_⟩
    exact ⟨_, rfl, a, _, 0, _, rfl, rfl, hT, rfl, k, rfl, hO, q _ (Ex.refl _)⟩
  | int i =>
    unfold Rep at hR
    subst hR
    unfold Ok at hO
    refine ⟨_, rfl, _, _, _, _, false, rfl, .ty "tuple", .base (.int i), kit_ty (by decide +kernel), false, rfl, iteT ?_⟩
    refine ⟨_, rfl, _, rfl, .inr ⟨i, rfl, false, rfl, iteF ?_⟩⟩
    refine ⟨_, rfl, i, rfl, true, rfl, iteT ?_⟩
    refine ⟨tooGreat, rfl, _, rfl, _, _, rfl, rfl, _, rfl, ?_⟩
    rw [decide_eq_true hO.1]
    refine iteT ⟨_, _, rfl, rfl, ?_⟩
    show Q (.bl (decide (i < tooGreat))) H
    rw [decide_eq_true hO.2]
    exact q _ (Ex.refl _)
  | atom z =>
    unfold Rep at hR
    subst hR
    unfold Ok at hO
    refine ⟨_, rfl, _, _, _, _, false, rfl, .ty "tuple", .base (.str z), kit_ty (by decide +kernel), false, rfl, iteT ?_⟩
    exact ⟨_, rfl, _, rfl, .inl ⟨z, rfl, hO, fun H' e => ⟨true, rfl, iteT (q _ e)⟩⟩⟩
  | comp f as =>
    unfold Rep at hR
    obtain ⟨a, ws, rfl, hT, hA⟩ := hR
    have hl := hA.len
    unfold Ok at hO
    refine ⟨_, rfl, _, _, _, _, true, rfl, .ty "tuple", tyx_tup hT, kit_ty (by decide +kernel), true, rfl, iteF ?_⟩
    refine ⟨_, rfl, a, _, rfl, .inr hT, rfl, _, rfl, ?_⟩
    have e : decide (V.int (((V.str f :: ws).length : Nat) : Int) = V.int 1) = false := by
      rw [show (V.int 1) = V.int ((1 : Nat) : Int) from rfl, dec_len, decide_eq_false]
      rw [List.length_cons]
      omega
    rw [e]
    refine iteF ?_
    refine ⟨_, rfl, a, _, rfl, .inr hT, _, _, rfl, rfl, _, rfl, ?_⟩
    rw [List.length_cons]
    rw [decide_eq_true (show (2 : Int) ≤ ((ws.length + 1 : Nat) : Int) by omega)]
    refine iteT ⟨_, _, rfl, rfl, _, _, rfl, rfl, _, rfl, ?_⟩
    rw [decide_eq_true (show ((ws.length + 1 : Nat) : Int) ≤ (8 : Int) + 1 by omega)]
    refine iteT ⟨_, rfl, a, _, 0, _, rfl, rfl, hT, at0, _, rfl, .inl ⟨f, rfl, hO.1, q⟩⟩

/-! ### is_term, demand_term -/
theorem list_end {α : Type} (l : List α) : l = [] ∨ ∃ r x, l = r ++ [x] := by
  cases h : l.reverse with
  | nil => exact .inl (by simpa using h)
  | cons x r =>
    refine .inr ⟨r.reverse, x, ?_⟩
    have := congrArg List.reverse h
    simpa using this
theorem last_app {α : Type} (r : List α) (x : α) : (r ++ [x])[(r ++ [x]).length - 1]? = some x := by simp
theorem drop_app {α : Type} (r : List α) (x : α) : (r ++ [x]).dropLast = r := by simp
/-- what a call of a def of the program asks and promises: of a term, something that is true from then on -/
def spTerm (K : PySem.W.Frag) (G : Tm → V → Prop) : Sp := fun vs H Q _ => ∃ v t, vs = [v] ∧ Rep K H t v ∧ Ok t ∧ size t ≤ 50000 ∧ ∀ u H', Ex H H' → G t u → Q u H'
theorem ok_is_term (T : Tx K mg) : FnOk P w K mg base CX0 4 T.f_is_term T.d_is_term ["thing"] (spTerm K fun _ u => u = .bl true) := by
  refine T.h_is_term.F.ok sc_is_term (fun vs H Q E h => ?_) (fun cdv A outer s H vs Q E hr h => ?_)
  · obtain ⟨v, t, rfl, _⟩ := h
    rfl
  obtain ⟨v, t, rfl, hR, hO, hz, q⟩ := h
  refine ⟨_, (pss_cons (ps_set (i := 1) sc_is_term.nd rfl (Or.inl rfl) (pe_lst (pa_cons (pv 0) pa_nil)))
    (pss_cons (ps_while PassesOwn.never (pt_truth (pv 1) (by intro _; rfl))
      (pss_cons (ps_set (i := 2) sc_is_term.nd rfl (Or.inl rfl) (pe_bm0 PySem.F.plainAttrs_list PySem.F.slot_list_pop PySem.F.type_list_pop mt_pop (pv 1)))
    (pss_cons (ps_if (pt_not (pt_val (cl (ok_is_part T) T.h_is_part hr (pa_cons (pv 2) pa_nil))))
      (pss_one (ps_ret pe_bl))
      pss_nil)
    (pss_one (ps_expr (pe_bm PySem.F.plainAttrs_list PySem.F.slot_list_extend PySem.F.type_list_extend mt_extT (pv 1) (pa_cons (cl (ok_arguments_of T) T.h_arguments_of hr (pa_cons (pv 2) pa_nil)) pa_nil)))))))
    (pss_one (ps_ret pe_bl)))), ?_⟩
  refine ⟨_, rfl, (by show 1 ≤ sizeLine; decide), fun l hl => ?_⟩
  refine ⟨fun m σ' H' => ∃ x ts ws, σ' = [some v, some (.ref l), x] ∧ Ex H H' ∧ H' l = some (.lst ws) ∧ Reps K H' ts ws ∧ Oks ts ∧ sizes ts = m ∧ m ≤ 50000,
    ⟨size t, none, [t], [v], rfl, Ex.new hl, upd_same, Reps.one (hR.mono (Tups.of (Ex.new hl))), ?_, sizes_one t, hz⟩, ?_⟩
  · rw [oks_cons]
    exact ⟨hO, trivial⟩
  rintro m σ' H' ⟨x, ts, ws, rfl, e1, hL, hRs, hOs, rfl, hm⟩
  refine ⟨_, rfl, _, .inl ⟨ws, SqL.of hL, rfl⟩, ?_⟩
  rcases list_end ts with rfl | ⟨ts, t', rfl⟩
  · rw [hRs.nil_inv]
    exact iteF (q _ _ e1 rfl)
  · obtain ⟨ws, v', rfl, hR1, hR2⟩ := hRs.last
    have hne : (!(ws ++ [v']).isEmpty) = true := by simp
    rw [hne]
    have hO2 := oks_app.mp hOs
    rw [oks_cons] at hO2
    rw [sizes_app, sizes_one] at hm ⊢
    refine iteT ⟨fun σ2 H2 => ∃ m', m' < sizes ts + size t' ∧ ∃ x ts ws, σ2 = [some v, some (.ref l), x] ∧ Ex H H2 ∧ H2 l = some (.lst ws) ∧ Reps K H2 ts ws ∧ Oks ts ∧ sizes ts = m' ∧ m' ≤ 50000, fun _ _ h => h, ?_⟩
    refine ⟨_, rfl, .inl ⟨rfl, _, SqL.of hL⟩, l, _, v', rfl, rfl, hL, last_app _ _, ?_⟩
    rw [drop_app]
    have t1 : Tups K H' (upd H' l (.lst ws)) := Tups.lst hL
    refine ⟨_, rfl, v', t', rfl, hR2.mono t1, hO2.2.1, fun H2 e2 => ⟨true, rfl, iteF ?_⟩⟩
    have hL2 : H2 l = some (.lst ws) := e2 l _ upd_same
    refine ⟨_, rfl, .inl ⟨rfl, _, SqL.of hL2⟩, _, rfl, v', t', rfl, (hR2.mono t1).mono (Tups.of e2), fun p us H3 hp e3 hU hUs => ?_⟩
    have hL3 : H3 l = some (.lst ws) := e3 l _ hL2
    have hlen := hR1.len
    have hlen2 := hUs.len
    have z1 := len_sizes ts
    have z2 := len_sizes t'.args
    have z3 := size_eq t'
    refine ⟨l, p, ws, us, rfl, rfl, hL3, SqT.of hU, small5 (by omega), sizes (ts ++ t'.args), ?_, _, ts ++ t'.args, ws ++ us, rfl, ?_, upd_same, ?_, ?_, rfl, ?_⟩
    · rw [sizes_app]
      omega
    · have e4 : Ex H (upd H' l (.lst ws)) := Ex.mut e1 hl
      exact Ex.mut ((e4.trans e2).trans e3) hl
    · have t3 : Tups K (upd H' l (.lst ws)) (upd H3 l (.lst (ws ++ us))) := ((Tups.of e2).trans (Tups.of e3)).trans (Tups.lst hL3)
      exact Reps.app ((hR1.mono t1).mono t3) (hUs.mono (Tups.lst hL3))
    · exact oks_app.mpr ⟨hO2.1, ok_args hO2.2.1⟩
    · rw [sizes_app]
      omega
theorem ok_demand_term (T : Tx K mg) : FnOk P w K mg base CX0 5 T.f_demand_term T.d_demand_term ["term"] (spTerm K fun _ _ => True) := by
  refine T.h_demand_term.F.ok sc_demand_term (fun vs H Q E h => ?_) (fun cdv A outer s H vs Q E hr h => ?_)
  · obtain ⟨v, t, rfl, _⟩ := h
    rfl
  obtain ⟨v, t, rfl, hR, hO, hz, q⟩ := h
  refine ⟨_, (pss_one (ps_if (pt_not (pt_val (cl (ok_is_term T) T.h_is_term hr (pa_cons (pv 0) pa_nil))))
      (pss_one ps_never)
      pss_nil)), ?_⟩
  refine ⟨_, rfl, v, t, rfl, hR, hO, hz, fun u H' e hu => ?_⟩
  subst hu
  exact ⟨true, rfl, iteF (q _ _ e trivial)⟩

/-! ### parts_of -/
def spParts (K : PySem.W.Frag) : Sp := fun vs H Q _ => ∃ v t, vs = [v] ∧ Rep K H t v ∧ size t ≤ 50000 ∧ ∀ p ws H', H p = none → Ex H H' → H' p = some (.lst ws) → Reps K H' (pre t) ws → Q (.ref p) H'
theorem ok_parts_of (T : Tx K mg) : FnOk P w K mg base CX0 2 T.f_parts_of T.d_parts_of ["term"] (spParts K) := by
  refine T.h_parts_of.F.ok sc_parts_of (fun vs H Q E h => ?_) (fun cdv A outer s H vs Q E hr h => ?_)
  · obtain ⟨v, t, rfl, _⟩ := h
    rfl
  obtain ⟨v, t, rfl, hR, hz, q⟩ := h
  refine ⟨_, (pss_cons (ps_set (i := 1) sc_parts_of.nd rfl (Or.inl rfl) (pe_lst pa_nil))
    (pss_cons (ps_set (i := 2) sc_parts_of.nd rfl (Or.inl rfl) (pe_lst (pa_cons (pv 0) pa_nil)))
    (pss_cons (ps_while PassesOwn.never (pt_truth (pv 2) (by intro _; rfl))
      (pss_cons (ps_set (i := 3) sc_parts_of.nd rfl (Or.inl rfl) (pe_bm0 PySem.F.plainAttrs_list PySem.F.slot_list_pop PySem.F.type_list_pop mt_pop (pv 2)))
    (pss_cons (ps_expr (pe_bm PySem.F.plainAttrs_list PySem.F.slot_list_append PySem.F.type_list_append mt_append (pv 1) (pa_cons (pv 3) pa_nil)))
    (pss_one (ps_expr (pe_bm PySem.F.plainAttrs_list PySem.F.slot_list_extend PySem.F.type_list_extend mt_extT (pv 2) (pa_cons (pe_revT (cl (ok_arguments_of T) T.h_arguments_of hr (pa_cons (pv 3) pa_nil))) pa_nil)))))))
    (pss_one (ps_ret (pv 1)))))), ?_⟩
  refine ⟨Nat.zero_le _, fun f hf => ?_⟩
  refine ⟨_, rfl, (by show 1 ≤ sizeLine; decide), fun l hl' => ?_⟩
  have hfl : f ≠ l := by
    intro e
    subst e
    rw [upd_same] at hl'
    cases hl'
  have hl : H l = none := by
    rw [upd_ne hfl.symm] at hl'
    exact hl'
  have e0 : Ex H (upd (upd H f (.lst [])) l (.lst [v])) := (Ex.new hf).trans (Ex.new hl')
  refine ⟨fun m σ' H' => ∃ x ts ws ds us, σ' = [some v, some (.ref f), some (.ref l), x] ∧ Ex H H' ∧ H' l = some (.lst ws) ∧ Reps K H' ts ws ∧ H' f = some (.lst us) ∧ Reps K H' ds us ∧ ds ++ pres ts.reverse = pre t ∧ sizes ts = m ∧ sizes ts + ds.length ≤ 50000,
    ⟨size t, none, [t], [v], [], [], rfl, e0, upd_same, Reps.one (hR.mono (Tups.of e0)), (by rw [upd_ne hfl, upd_same]), Reps.nil, ?_, sizes_one t, ?_⟩, ?_⟩
  · show pres [t] = pre t
    rw [pres_cons]
    unfold pres
    rw [List.append_nil]
  · rw [sizes_one]
    exact hz
  rintro m σ' H' ⟨x, ts, ws, ds, us, rfl, e1, hL, hRs, hF, hDs, hpre, rfl, hm⟩
  refine ⟨_, rfl, _, .inl ⟨ws, SqL.of hL, rfl⟩, ?_⟩
  rcases list_end ts with rfl | ⟨ts, t', rfl⟩
  · rw [hRs.nil_inv]
    refine iteF ⟨_, rfl, q f us _ hf e1 hF ?_⟩
    rw [← hpre]
    show Reps K H' (ds ++ pres []) us
    unfold pres
    rw [List.append_nil]
    exact hDs
  · obtain ⟨ws, v', rfl, hR1, hR2⟩ := hRs.last
    have hne : (!(ws ++ [v']).isEmpty) = true := by simp
    rw [hne]
    rw [sizes_app, sizes_one] at hm ⊢
    refine iteT ⟨fun σ2 H2 => ∃ m', m' < sizes ts + size t' ∧ ∃ x ts ws ds us, σ2 = [some v, some (.ref f), some (.ref l), x] ∧ Ex H H2 ∧ H2 l = some (.lst ws) ∧ Reps K H2 ts ws ∧ H2 f = some (.lst us) ∧ Reps K H2 ds us ∧ ds ++ pres ts.reverse = pre t ∧ sizes ts = m' ∧ sizes ts + ds.length ≤ 50000, fun _ _ h => h, ?_⟩
    refine ⟨_, rfl, .inl ⟨rfl, _, SqL.of hL⟩, l, _, v', rfl, rfl, hL, last_app _ _, ?_⟩
    rw [drop_app]
    have t1 : Tups K H' (upd H' l (.lst ws)) := Tups.lst hL
    have hF1 : (upd H' l (.lst ws)) f = some (.lst us) := by rw [upd_ne hfl]; exact hF
    have z0 := hDs.len
    have z4 := size_pos t'
    refine ⟨_, rfl, .inl ⟨rfl, _, SqL.of hF1⟩, _, rfl, f, us, v', rfl, rfl, hF1, small5' (by omega), ?_⟩
    have t2 : Tups K (upd H' l (.lst ws)) (upd (upd H' l (.lst ws)) f (.lst (us ++ [v']))) := Tups.lst hF1
    have hL2 : (upd (upd H' l (.lst ws)) f (.lst (us ++ [v']))) l = some (.lst ws) := by rw [upd_ne hfl.symm, upd_same]
    refine ⟨_, rfl, .inl ⟨rfl, _, SqL.of hL2⟩, _, rfl, v', t', rfl, (hR2.mono t1).mono t2, fun p ys H3 hp e3 hU hUs => ?_⟩
    refine ⟨p, ys, rfl, SqT.of hU, fun p' hp' => ?_⟩
    have e4 := Ex.new (o := HO.tup ys.reverse) hp'
    have hL4 : (upd H3 p' (.tup ys.reverse)) l = some (.lst ws) := e4 l _ (e3 l _ hL2)
    have hF4 : (upd H3 p' (.tup ys.reverse)) f = some (.lst (us ++ [v'])) := e4 f _ (e3 f _ upd_same)
    have hlen := hR1.len
    have hlen2 := hUs.len
    have z1 := len_sizes ts
    have z2 := len_sizes t'.args
    have z3 := size_eq t'
    refine ⟨l, p', ws, ys.reverse, rfl, rfl, hL4, SqT.of upd_same, small5 (by rw [List.length_reverse]; omega), sizes (ts ++ t'.args.reverse), ?_, _, ts ++ t'.args.reverse, ws ++ ys.reverse, ds ++ [t'], us ++ [v'], rfl, ?_, upd_same, ?_, ?_, ?_, ?_, rfl, ?_⟩
    · rw [sizes_app, sizes_rev]
      omega
    · have e5 : Ex H (upd (upd H' l (.lst ws)) f (.lst (us ++ [v']))) := Ex.mut (Ex.mut e1 hl) hf
      exact Ex.mut ((e5.trans e3).trans e4) hl
    · have t3 := ((Tups.of (K := K) e3).trans (Tups.of e4)).trans (Tups.lst (o := HO.lst (ws ++ ys.reverse)) hL4)
      exact Reps.app (((hR1.mono t1).mono t2).mono t3) ((hUs.rev.mono (Tups.of e4)).mono (Tups.lst hL4))
    · rw [upd_ne hfl]
      exact hF4
    · have t3 := ((Tups.of (K := K) e3).trans (Tups.of e4)).trans (Tups.lst (o := HO.lst (ws ++ ys.reverse)) hL4)
      exact Reps.app (((hDs.mono t1).mono t2).mono t3) (Reps.one (((hR2.mono t1).mono t2).mono t3))
    · rw [← hpre, List.reverse_append, List.reverse_append, List.reverse_reverse, pres_app, List.append_assoc]
      show ds ++ ([t'] ++ (pres t'.args ++ pres ts.reverse)) = ds ++ pres (t' :: ts.reverse)
      rw [pres_cons, pre_eq t']
      simp
    · rw [sizes_app, sizes_rev, List.length_append, List.length_singleton]
      omega
end
end Hm

set_option Elab.async false
set_option linter.all false
set_option maxRecDepth 100000
set_option maxHeartbeats 4000000
namespace Hm
open PySem PySem.Spec PyProof.Rows L2 HT
open Evl (Ex)
/-! ### rows in a heap -/
def RwRep (K : PySem.W.Frag) (H : Hp) : Rw → V → Prop
  | .leaf t, v => ∃ a u, v = .ref a ∧ SqT K H a [u, .int 0] ∧ Rep K H t u
  | .node f n, v => ∃ a, v = .ref a ∧ SqT K H a [.str f, .int (n : Int)]
def RwReps (K : PySem.W.Frag) (H : Hp) : List Rw → List V → Prop
  | [], vs => vs = []
  | r :: rs, vs => ∃ v ws, vs = v :: ws ∧ RwRep K H r v ∧ RwReps K H rs ws
section
variable {K : PySem.W.Frag} {H H' : Hp}
theorem RwRep.mono (e : Tups K H H') {r : Rw} {v : V} (h : RwRep K H r v) : RwRep K H' r v := by
  cases r with
  | leaf t =>
    obtain ⟨a, u, e1, q, r⟩ := h
    exact ⟨a, u, e1, e _ _ q, r.mono e⟩
  | node f n =>
    obtain ⟨a, e1, q⟩ := h
    exact ⟨a, e1, e _ _ q⟩
theorem RwReps.mono (e : Tups K H H') : ∀ {rs : List Rw} {vs : List V}, RwReps K H rs vs → RwReps K H' rs vs
  | [], _, h => h
  | _ :: _, _, ⟨v, ws, e1, q, r⟩ => ⟨v, ws, e1, q.mono e, RwReps.mono e r⟩
theorem RwReps.len : ∀ {rs : List Rw} {vs : List V}, RwReps K H rs vs → rs.length = vs.length
  | [], _, h => by
    rw [show _ = [] from h]
    rfl
  | _ :: _, _, ⟨v, ws, e1, q, r⟩ => by rw [e1, List.length_cons, List.length_cons, RwReps.len r]
theorem RwReps.app : ∀ {rs us : List Rw} {vs ws : List V}, RwReps K H rs vs → RwReps K H us ws → RwReps K H (rs ++ us) (vs ++ ws)
  | [], _, _, _, h, r => by
    rw [show _ = [] from h]
    exact r
  | _ :: _, _, _, ys, ⟨v, ws, e1, q, s⟩, r => ⟨v, ws ++ ys, by rw [e1]; rfl, q, RwReps.app s r⟩
theorem RwReps.get : ∀ {rs : List Rw} {vs : List V} {i : Nat} {v : V}, RwReps K H rs vs → vs[i]? = some v → ∃ r, rs[i]? = some r ∧ RwRep K H r v
  | [], _, i, _, h, e => by
    rw [show _ = [] from h] at e
    simp at e
  | r :: rs, _, 0, x, ⟨v, ws, e1, q, s⟩, e => by
    rw [e1] at e
    have e2 : v = x := by simpa using e
    subst e2
    exact ⟨r, rfl, q⟩
  | r :: rs, _, i + 1, _, ⟨v, ws, e1, q, s⟩, e => by
    rw [e1] at e
    obtain ⟨u, h1, h2⟩ := RwReps.get (i := i) s (by simpa using e)
    exact ⟨u, by simpa using h1, h2⟩
end
theorem fold_turn_len : ∀ (rs : List Rw) (D : List Tm), (rs.foldr turn D).length ≤ D.length + rs.length
  | [], _ => Nat.le_refl _
  | r :: rs, D => by
    have ih := fold_turn_len rs D
    rw [List.foldr_cons, List.length_cons]
    cases r with
    | leaf t =>
      show (rs.foldr turn D ++ [t]).length ≤ _
      rw [List.length_append, List.length_singleton]
      omega
    | node f n =>
      show ((rs.foldr turn D).take _ ++ [Tm.comp f _]).length ≤ _
      rw [List.length_append, List.length_singleton, List.length_take]
      omega
theorem rooms_drop {rs : List Rw} {D : List Tm} : ∀ (k : Nat), Rooms rs D → Rooms (rs.drop k) D := by
  induction rs with
  | nil => intro k h; rw [List.drop_nil]; exact h
  | cons r rs ih =>
    intro k h
    cases k with
    | zero => exact h
    | succ k =>
      rw [rooms_cons] at h
      rw [List.drop_succ_cons]
      exact ih k h.1
section
variable {P : Program} {w : World} {K : PySem.W.Frag} {mg : Str → Option Value} {base : Heap}
def spFolded (K : PySem.W.Frag) : Sp := fun vs H Q _ => ∃ r rows us t, vs = [.ref r] ∧ SqL K H r us ∧ RwReps K H rows us ∧ rows.foldr turn [] = [t] ∧ Rooms rows [] ∧ rows.length ≤ 50000 ∧ ∀ v H', Ex H H' → Rep K H' t v → Q v H'
theorem ok_folded (T : Tx K mg) : FnOk P w K mg base CX0 1 T.f_folded T.d_folded ["row"] (spFolded K) := by
  refine T.h_folded.F.ok sc_folded (fun vs H Q E h => ?_) (fun cdv A outer s H vs Q E hr h => ?_)
  · obtain ⟨v, t, _, _, rfl, _⟩ := h
    rfl
  obtain ⟨r, rows, us, t, rfl, hS, hRw, hfold, hrooms, hz, q⟩ := h
  refine ⟨_, (pss_cons (ps_set (i := 1) sc_folded.nd rfl (Or.inl rfl) (pe_lst pa_nil))
    (pss_cons (ps_for PassesOwn.never rfl (pi_reversed rfl T.b_reversed (pa_cons (pv 0) pa_nil)) (pg_tup rfl (pgs_cons (pg_name (i := 2) sc_folded.nd rfl (Or.inl rfl)) (pgs_cons (pg_name (i := 3) sc_folded.nd rfl (Or.inl rfl)) pgs_nil)))
      (pss_one (ps_if (pt_cmpR op_eq (pv 3) pe_int (nomark _))
      (pss_one (ps_expr (pe_bm PySem.F.plainAttrs_list PySem.F.slot_list_append PySem.F.type_list_append mt_append (pv 1) (pa_cons (pv 2) pa_nil))))
      (pss_cons (ps_set (i := 4) sc_folded.nd rfl (Or.inl rfl) (pe_backL (pv 1) (pe_op op_sub (pe_un un_neg (pv 3)) pe_int)))
    (pss_cons (ps_delTail (pv 1) (pe_un un_neg (pv 3)))
    (pss_one (ps_expr (pe_bm PySem.F.plainAttrs_list PySem.F.slot_list_append PySem.F.type_list_append mt_append (pv 1) (pa_cons (pe_tup (pa_cons (pv 2) (StX.pa_star (pv 4) pa_nil))) pa_nil)))))))))
    (pss_one (ps_ret (pe_ix ix_list (pv 1) pe_int (fun _ _ => rfl)))))), ?_⟩
  refine ⟨Nat.zero_le _, fun d hd => ?_⟩
  have e0 : Ex H (upd H d (.lst [])) := Ex.new hd
  have hlen := hRw.len
  refine ⟨_, rfl, r, us, rfl, Evl.ex_l e0 hS, for_it walk_rev (fun i σ' H' => ∃ x2 x3 x4 ws, σ' = [some (.ref r), some (.ref d), x2, x3, x4] ∧ Ex H H' ∧ H' d = some (.lst ws) ∧ Reps K H' ((rows.drop (rows.length - i)).foldr turn []) ws)
    ⟨none, none, none, [], rfl, e0, upd_same, ?_⟩ ?_ ?_ ?_⟩
  · rw [Nat.sub_zero, List.drop_length]
    exact Reps.nil
  · rintro i σ' H' _ ⟨_, _, _, _, _, e1, _⟩
    exact Evl.ex_l e1 hS
  · rintro i x σ' H' H2 hi ⟨x2, x3, x4, ws, rfl, e1, hD, hR⟩ ⟨rfl, hx⟩
    have hRw' := hRw.mono (Tups.of e1)
    obtain ⟨rr, hrr, hrep⟩ := hRw'.get hx
    rw [← hlen] at hrr hi
    have hdrop : rows.drop (rows.length - (i + 1)) = rr :: rows.drop (rows.length - i) := by
      have h1 : rows.length - (i + 1) = rows.length - 1 - i := by omega
      have h2 : rows.length - i = (rows.length - 1 - i) + 1 := by omega
      obtain ⟨hlt, he⟩ := List.getElem?_eq_some_iff.mp hrr
      rw [h1, h2, List.drop_eq_getElem_cons hlt, he]
    have hroom := rooms_drop (rows.length - (i + 1)) hrooms
    rw [hdrop, rooms_cons] at hroom
    have hDl := fold_turn_len (rows.drop (rows.length - i)) []
    have hl1 := hR.len
    rw [List.length_drop, List.length_nil] at hDl
    rw [hdrop, List.foldr_cons]
    generalize hDD : (rows.drop (rows.length - i)).foldr turn [] = DD at *
    cases rr with
    | leaf tt =>
      obtain ⟨a, u, rfl, hT, hu⟩ := hrep
      refine ⟨a, _, rfl, hT, rfl, u, _, rfl, .int 0, _, rfl, rfl, _, rfl, rfl, _, rfl, iteT ?_⟩
      refine ⟨_, rfl, .inl ⟨rfl, _, SqL.of hD⟩, _, rfl, d, ws, u, rfl, rfl, hD, small5' (by omega), _, _, _, _, rfl, Ex.mut e1 hd, upd_same, ?_⟩
      have t1 : Tups K H2 (upd H2 d (.lst (ws ++ [u]))) := Tups.lst hD
      exact Reps.app (hR.mono t1) (Reps.one (hu.mono t1))
    | node f n =>
      obtain ⟨a, rfl, hT⟩ := hrep
      obtain ⟨n1, n2⟩ := hroom.2
      refine ⟨a, _, rfl, hT, rfl, .str f, _, rfl, .int (n : Int), _, rfl, rfl, _, rfl, rfl, _, rfl, ?_⟩
      have hne : decide (V.int (n : Int) = V.int 0) = false := by
        rw [show (V.int 0) = V.int ((0 : Nat) : Int) from rfl, dec_len, decide_eq_false]
        omega
      rw [hne]
      refine iteF ?_
      refine ⟨_, rfl, ⟨_, rfl, _, rfl, _, _, rfl, rfl, _, rfl, d, ws, n, rfl, rfl, SqL.of hD, (by omega), fun p hp => ?_⟩⟩
      have hpd : d ≠ p := ne_of_none hD hp
      have e2 := Ex.new (o := HO.lst (ws.drop (ws.length - n)).reverse) hp
      have hD2 := e2 d _ hD
      refine ⟨_, rfl, ⟨_, rfl, _, rfl, _, rfl, d, ws, n, rfl, rfl, hD2, n1, (by omega), ?_⟩⟩
      have t2 : Tups K H2 (upd (upd H2 p (.lst (ws.drop (ws.length - n)).reverse)) d (.lst (ws.take (ws.length - n)))) := (Tups.of e2).trans (Tups.lst hD2)
      have hD3 : (upd (upd H2 p (.lst (ws.drop (ws.length - n)).reverse)) d (.lst (ws.take (ws.length - n)))) d = some (.lst (ws.take (ws.length - n))) := upd_same
      have hP3 : (upd (upd H2 p (.lst (ws.drop (ws.length - n)).reverse)) d (.lst (ws.take (ws.length - n)))) p = some (.lst (ws.drop (ws.length - n)).reverse) := by rw [upd_ne hpd.symm, upd_same]
      refine ⟨_, rfl, .inl ⟨rfl, _, SqL.of hD3⟩, _, rfl, _, rfl, p, _, rfl, .inr (SqL.of hP3), ?_⟩
      refine ⟨small5 ?_, fun tp htp => ?_⟩
      · show ((V.str f) :: ((ws.drop (ws.length - n)).reverse ++ [])).length ≤ _
        rw [List.length_cons, List.append_nil, List.length_reverse, List.length_drop]
        omega
      have e4 := Ex.new (o := HO.tup ((V.str f) :: ((ws.drop (ws.length - n)).reverse ++ []))) htp
      have hD4 := e4 d _ hD3
      refine ⟨d, _, _, rfl, rfl, hD4, small5' ?_, _, _, _, _, rfl, ?_, upd_same, ?_⟩
      · rw [List.length_take]
        omega
      · have e5 : Ex H (upd (upd H2 p (.lst (ws.drop (ws.length - n)).reverse)) d (.lst (ws.take (ws.length - n)))) := Ex.mut (e1.trans e2) hd
        exact Ex.mut (e5.trans e4) hd
      · have t4 : Tups K H2 (upd (upd (upd (upd H2 p (.lst (ws.drop (ws.length - n)).reverse)) d (.lst (ws.take (ws.length - n)))) tp (.tup ((V.str f) :: ((ws.drop (ws.length - n)).reverse ++ [])))) d (.lst (ws.take (ws.length - n) ++ [V.ref tp]))) := (t2.trans (Tups.of e4)).trans (Tups.lst hD4)
        show Reps K _ (DD.take (DD.length - n) ++ [Tm.comp f (DD.drop (DD.length - n)).reverse]) _
        rw [hl1]
        refine Reps.app ((hR.take _).mono t4) (Reps.one ?_)
        unfold Rep
        refine ⟨tp, (ws.drop (ws.length - n)).reverse, rfl, ?_, ((hR.drop _).rev).mono t4⟩
        refine SqT.of ?_
        rw [upd_ne (ne_of_none hD3 htp).symm, upd_same, List.append_nil]
  · rintro σ' H' ⟨x2, x3, x4, ws, rfl, e1, hD, hR⟩
    rw [← hlen, Nat.sub_self, List.drop_zero, hfold] at hR
    obtain ⟨v, vs2, rfl, hv, hnil⟩ := hR.cons_inv
    refine ⟨_, rfl, d, _, 0, v, rfl, rfl, SqL.of hD, at0, q v _ e1 hv⟩
end
end Hm

set_option Elab.async false
set_option linter.all false
set_option maxRecDepth 100000
set_option maxHeartbeats 4000000
namespace Hm
open PySem PySem.Spec PyProof.Rows L2 HT
open Evl (Ex)
/-- a dict comprehension over a walk -/
theorem dc_it {J : It} {n : Nat} {G : Hp → Prop} {Y : Nat → Hp → V → Hp → Prop} (w : Walk J n G Y) {g : TG} {tt : TT} {tk tv : TE} {vs : List Nat} {σ : L2.St} {H1 : Hp} {D : Addr} {Qd : Hp → Prop} (Pv : Nat → Hp → Prop) (h0 : Pv 0 (upd H1 D (.dK []))) (hG : ∀ i H, i ≤ n → Pv i H → G H)
    (hs : ∀ i x H H', i < n → Pv i H → Y i H x H' → g x (wipe σ vs) H' fun σ2 H2 => wipe σ2 vs = wipe σ vs ∧ tt σ2 H2 fun b H3 =>
      if b = true then tk σ2 H3 fun y H4 => tv σ2 H4 fun z H5 => ∃ kvs k, y = kV k ∧ H5 D = some (.dK kvs) ∧ kvs.length < sizeLine ∧ Pv (i + 1) (upd H5 D (.dK (putK kvs k z))) else Pv (i + 1) H3) (hd : ∀ H, Pv n H → Qd H) :
    ∃ W : Nat → Nat → Hp → Prop, (∃ m, W 0 m (upd H1 D (.dK []))) ∧ ∀ i m H, W i m H →
      (J.stop i H ∧ Qd H) ∨ (J.go i H ∧ ∃ Nx : Hp → Prop, (∀ H', Nx H' → ∃ m', m' < m ∧ W (i + 1) m' H') ∧ ∀ x H', J.yld i H x H' → g x (wipe σ vs) H' fun σ2 H2 => wipe σ2 vs = wipe σ vs ∧ tt σ2 H2 fun b H3 =>
        if b = true then tk σ2 H3 fun y H4 => tv σ2 H4 fun z H5 => ∃ kvs k, y = kV k ∧ H5 D = some (.dK kvs) ∧ kvs.length < sizeLine ∧ Nx (upd H5 D (.dK (putK kvs k z))) else Nx H3) := by
  refine ⟨fun i m H => m = n - i ∧ i ≤ n ∧ Pv i H, ⟨n, by simp, Nat.zero_le _, h0⟩, ?_⟩
  rintro i m H ⟨rfl, hi, p⟩
  have q := hG i H hi p
  by_cases hlt : i < n
  · exact .inr ⟨w.goes i H hlt q, Pv (i + 1), fun H' p' => ⟨n - (i + 1), by omega, rfl, hlt, p'⟩, fun x H' y => hs i x H H' hlt p (w.yields i H x H' hlt q y)⟩
  · have e : i = n := by omega
    subst e
    exact .inl ⟨w.stops H q, hd H p⟩
/-! ### a table for variables -/
def TabRep (K : PySem.W.Frag) (H : Hp) (d : Addr) (g : Int → Tm) : Prop := ∃ kvs, Rd H d (.dK kvs) ∧ ∀ k : Int, (∀ u, valV kvs (Sum.inl k : Key) = some u → Rep K H (g k) u) ∧ (valV kvs (Sum.inl k : Key) = none → g k = .var k)
theorem TabRep.mono {K : PySem.W.Frag} {H H' : Hp} {d : Addr} {g : Int → Tm} (e : Ex H H') (h : TabRep K H d g) : TabRep K H' d g := by
  obtain ⟨kvs, h1, h2⟩ := h
  exact ⟨kvs, Evl.ex_rd e h1, fun k => ⟨fun u hu => ((h2 k).1 u hu).mono (Tups.of e), (h2 k).2⟩⟩
/-! ### numbers as keys of a dict -/
def mkD (acc : List Int) : List (Key × V) := acc.map fun k => ((Sum.inl k : Key), V.bl true)
theorem mkD_val : ∀ (acc : List Int) (k : Int), valV (mkD acc) (Sum.inl k : Key) = if k ∈ acc then some (.bl true) else none
  | [], k => by simp [mkD, valV]
  | a :: acc, k => by
    have ih := mkD_val acc k
    by_cases e : a = k
    · subst e
      show valV (((Sum.inl a : Key), V.bl true) :: mkD acc) (Sum.inl a) = _
      rw [valV_pos rfl, if_pos List.mem_cons_self]
    · show valV (((Sum.inl a : Key), V.bl true) :: mkD acc) (Sum.inl k) = _
      rw [valV_neg (by intro z; injection z with z; exact e z), ih]
      by_cases m : k ∈ acc
      · rw [if_pos m, if_pos (List.mem_cons_of_mem _ m)]
      · rw [if_neg m, if_neg]
        intro z
        rcases List.mem_cons.mp z with z | z
        · exact e z.symm
        · exact m z
theorem mkD_put (acc : List Int) (k : Int) : putK (mkD acc) (Sum.inl k : Key) (.bl true) = mkD (addNew acc k) := by
  unfold addNew
  by_cases m : k ∈ acc
  · rw [if_pos m]
    have h1 : ((mkD acc).any fun kv => decide (kv.1 = (Sum.inl k : Key))) = true := by
      rw [valV_any, mkD_val, if_pos m]
      rfl
    unfold putK
    rw [if_pos h1]
    unfold mkD
    rw [List.map_map]
    apply List.map_congr_left
    intro a _
    show (if (Sum.inl a : Key) = Sum.inl k then ((Sum.inl a : Key), V.bl true) else ((Sum.inl a : Key), V.bl true)) = _
    split <;> rfl
  · rw [if_neg m, putK_new _ (by rw [mkD_val, if_neg m])]
    unfold mkD
    rw [List.map_append]
    rfl
theorem fold_take_succ {α β : Type} (f : α → β → α) (a : α) {l : List β} {i : Nat} {x : β} (h : l[i]? = some x) : (l.take (i + 1)).foldl f a = f ((l.take i).foldl f a) x := by
  rw [List.take_add_one, h]
  simp
section
variable {P : Program} {w : World} {K : PySem.W.Frag} {mg : Str → Option Value} {base : Heap}
def spReplaced (K : PySem.W.Frag) : Sp := fun vs H Q _ => ∃ v t d g, vs = [v, .ref d] ∧ Rep K H t v ∧ Ok t ∧ size t ≤ 50000 ∧ TabRep K H d g ∧ ∀ u H', Ex H H' → Rep K H' (sub g t) u → Q u H'
theorem ok_replaced (T : Tx K mg) : FnOk P w K mg base CX0 3 T.f_replaced T.d_replaced ["term", "table"] (spReplaced K) := by
  refine T.h_replaced.F.ok sc_replaced (fun vs H Q E h => ?_) (fun cdv A outer s H vs Q E hr h => ?_)
  · obtain ⟨v, t, _, _, rfl, _⟩ := h
    rfl
  obtain ⟨v, t, d, g, rfl, hR, hO, hz, hTab, q⟩ := h
  have hu := hu_of hr
  refine ⟨_, (pss_cons (ps_set (i := 2) sc_replaced.nd rfl (Or.inl rfl) (pe_lst pa_nil))
    (pss_cons (ps_for PassesOwn.never rfl (pi_list (cl (ok_parts_of T) T.h_parts_of hr (pa_cons (pv 0) pa_nil))) (pg_name (i := 3) sc_replaced.nd rfl (Or.inl rfl))
      (pss_one (ps_if (pt_val (cl (ok_is_variable T) T.h_is_variable hr (pa_cons (pv 3) pa_nil)))
      (pss_one (ps_expr (pe_bm PySem.F.plainAttrs_list PySem.F.slot_list_append PySem.F.type_list_append mt_append (pv 2) (pa_cons (pe_tup (pa_cons (pe_dget2 hu (pv 1) (pe_ix ix_tup (pv 3) pe_int (fun _ _ => rfl)) (pv 3) ⟨rfl, rfl, rfl, rfl⟩) (pa_cons pe_int pa_nil))) pa_nil))))
      (pss_one (ps_if (pt_val (pe_callB call_isi rfl T.b_isinstance (by decide +kernel) (pa_cons (pv 3) (pa_cons (pe_bltn (v := .ty "tuple") (u := .type "tuple") rfl T.b_tuple (by decide +kernel) rfl) pa_nil))))
      (pss_one (ps_expr (pe_bm PySem.F.plainAttrs_list PySem.F.slot_list_append PySem.F.type_list_append mt_append (pv 2) (pa_cons (pe_tup (pa_cons (pe_ix ix_tup (pv 3) pe_int (fun _ _ => rfl)) (pa_cons (pe_op op_sub (pe_callB call_len_seq rfl T.b_len (by decide +kernel) (pa_cons (pv 3) pa_nil)) pe_int) pa_nil))) pa_nil))))
      (pss_one (ps_expr (pe_bm PySem.F.plainAttrs_list PySem.F.slot_list_append PySem.F.type_list_append mt_append (pv 2) (pa_cons (pe_tup (pa_cons (pv 3) (pa_cons pe_int pa_nil))) pa_nil)))))))))
    (pss_one (ps_ret (cl (ok_folded T) T.h_folded hr (pa_cons (pv 2) pa_nil)))))), ?_⟩
  refine ⟨Nat.zero_le _, fun rr hrr => ?_⟩
  have e0 : Ex H (upd H rr (.lst [])) := Ex.new hrr
  refine ⟨_, rfl, v, t, rfl, hR.mono (Tups.of e0), hz, fun pl ps H1 hpl e1 hL hPs => ?_⟩
  have hne : rr ≠ pl := ne_of_none upd_same hpl
  have hlen := hPs.len
  rw [len_pre] at hlen
  refine ⟨pl, rfl, ⟨ps, SqL.of hL⟩, for_list (fun i σ' H' => ∃ x rs, σ' = [some v, some (.ref d), some (.ref rr), x] ∧ Ex H H' ∧ Tups K H1 H' ∧ H' pl = some (.lst ps) ∧ H' rr = some (.lst rs) ∧ RwReps K H' (((pre t).take i).map (rw1 g)) rs)
    ⟨none, [], rfl, e0.trans e1, Tups.refl _, hL, e1 rr _ upd_same, rfl⟩ (fun i σ' H' _ ⟨_, _, _, _, _, h, _⟩ => SqL.of h) ?_ ?_⟩
  · rintro i x σ' H' hx ⟨x3, rs, rfl, e2, tu, hp, hrs, hRw⟩
    obtain ⟨ti, hti, hrep⟩ := (hPs.mono tu).get hx
    have hOi := oks_get (ok_pre hO) hti
    have hi : i < size t := by
      rw [← len_pre]
      exact (List.getElem?_eq_some_iff.mp hti).1
    have hrl := hRw.len
    rw [List.length_map, List.length_take, len_pre] at hrl
    refine ⟨_, rfl, x, ti, rfl, hrep, hOi, _, rfl, ?_⟩
    rw [tk_succ (rw1 g) hti]
    cases ti with
    | var k =>
      unfold Rep at hrep
      obtain ⟨a, rfl, hT⟩ := hrep
      obtain ⟨kvs, hkv, hval⟩ := hTab.mono e2
      have hres : Rep K H' (g k) ((valV kvs (Sum.inl k : Key)).getD (.ref a)) := by
        cases hv : valV kvs (Sum.inl k : Key) with
        | some u => exact (hval k).1 u hv
        | none =>
          rw [(hval k).2 hv]
          unfold Rep
          exact ⟨a, rfl, hT⟩
      refine iteT ⟨_, rfl, .inl ⟨rfl, _, SqL.of hrs⟩, _, rfl, d, rfl, .inl ⟨kvs, hkv⟩, _, rfl, a, _, 0, _, rfl, rfl, hT, at0, _, rfl, _, .inl ⟨kvs, Sum.inl k, hkv, rfl, rfl⟩, ?_⟩
      refine ⟨(by show 2 ≤ sizeLine; decide), fun tp htp => ?_⟩
      have e3 := Ex.new (o := HO.tup [(valV kvs (Sum.inl k : Key)).getD (.ref a), .int 0]) htp
      have hrs2 := e3 rr _ hrs
      have t3 : Tups K H' (upd (upd H' tp (.tup [(valV kvs (Sum.inl k : Key)).getD (.ref a), .int 0])) rr (.lst (rs ++ [V.ref tp]))) := (Tups.of e3).trans (Tups.lst hrs2)
      refine ⟨rr, rs, _, rfl, rfl, hrs2, small5' (by omega), _, _, rfl, Ex.mut (e2.trans e3) hrr, tu.trans t3, ?_, upd_same, RwReps.app (hRw.mono t3) ⟨_, [], rfl, ⟨tp, (valV kvs (Sum.inl k : Key)).getD (.ref a), rfl, SqT.of ?_, ?_⟩, rfl⟩⟩
      · rw [upd_ne hne.symm]
        exact e3 pl _ hp
      · rw [upd_ne (ne_of_none hrs htp).symm, upd_same]
      · exact hres.mono t3
    | int n =>
      have hrep' := hrep
      unfold Rep at hrep'
      subst hrep'
      refine iteF ⟨_, rfl, _, _, _, _, false, rfl, .ty "tuple", .base (.int n), kit_ty (by decide +kernel), false, rfl, iteF ?_⟩
      refine ⟨_, rfl, .inl ⟨rfl, _, SqL.of hrs⟩, _, rfl, (by show 2 ≤ sizeLine; decide), fun tp htp => ?_⟩
      have e3 := Ex.new (o := HO.tup [.int n, .int 0]) htp
      have hrs2 := e3 rr _ hrs
      have t3 : Tups K H' (upd (upd H' tp (.tup [.int n, .int 0])) rr (.lst (rs ++ [V.ref tp]))) := (Tups.of e3).trans (Tups.lst hrs2)
      refine ⟨rr, rs, _, rfl, rfl, hrs2, small5' (by omega), _, _, rfl, Ex.mut (e2.trans e3) hrr, tu.trans t3, ?_, upd_same, RwReps.app (hRw.mono t3) ⟨_, [], rfl, ⟨tp, .int n, rfl, SqT.of ?_, ?_⟩, rfl⟩⟩
      · rw [upd_ne hne.symm]
        exact e3 pl _ hp
      · rw [upd_ne (ne_of_none hrs htp).symm, upd_same]
      · unfold Rep
        rfl
    | atom n =>
      have hrep' := hrep
      unfold Rep at hrep'
      subst hrep'
      refine iteF ⟨_, rfl, _, _, _, _, false, rfl, .ty "tuple", .base (.str n), kit_ty (by decide +kernel), false, rfl, iteF ?_⟩
      refine ⟨_, rfl, .inl ⟨rfl, _, SqL.of hrs⟩, _, rfl, (by show 2 ≤ sizeLine; decide), fun tp htp => ?_⟩
      have e3 := Ex.new (o := HO.tup [.str n, .int 0]) htp
      have hrs2 := e3 rr _ hrs
      have t3 : Tups K H' (upd (upd H' tp (.tup [.str n, .int 0])) rr (.lst (rs ++ [V.ref tp]))) := (Tups.of e3).trans (Tups.lst hrs2)
      refine ⟨rr, rs, _, rfl, rfl, hrs2, small5' (by omega), _, _, rfl, Ex.mut (e2.trans e3) hrr, tu.trans t3, ?_, upd_same, RwReps.app (hRw.mono t3) ⟨_, [], rfl, ⟨tp, .str n, rfl, SqT.of ?_, ?_⟩, rfl⟩⟩
      · rw [upd_ne hne.symm]
        exact e3 pl _ hp
      · rw [upd_ne (ne_of_none hrs htp).symm, upd_same]
      · unfold Rep
        rfl
    | comp f as =>
      unfold Rep at hrep
      obtain ⟨a, ws, rfl, hT, hA⟩ := hrep
      have hl2 := hA.len
      refine iteF ⟨_, rfl, _, _, _, _, true, rfl, .ty "tuple", tyx_tup hT, kit_ty (by decide +kernel), true, rfl, iteT ?_⟩
      refine ⟨_, rfl, .inl ⟨rfl, _, SqL.of hrs⟩, _, rfl, a, _, 0, _, rfl, rfl, hT, at0, _, rfl, a, _, rfl, .inr hT, _, _, rfl, rfl, (by show 2 ≤ sizeLine; decide), fun tp htp => ?_⟩
      have en : ((V.str f :: ws).length : Int) - 1 = (as.length : Int) := by
        rw [List.length_cons]
        omega
      have e3 := Ex.new (o := HO.tup [.str f, .int (((V.str f :: ws).length : Int) - 1)]) htp
      have hrs2 := e3 rr _ hrs
      have t3 : Tups K H' (upd (upd H' tp (.tup [.str f, .int (((V.str f :: ws).length : Int) - 1)])) rr (.lst (rs ++ [V.ref tp]))) := (Tups.of e3).trans (Tups.lst hrs2)
      refine ⟨rr, rs, _, rfl, rfl, hrs2, small5' (by omega), _, _, rfl, Ex.mut (e2.trans e3) hrr, tu.trans t3, ?_, upd_same, RwReps.app (hRw.mono t3) ⟨_, [], rfl, ⟨tp, rfl, SqT.of ?_⟩, rfl⟩⟩
      · rw [upd_ne hne.symm]
        exact e3 pl _ hp
      · rw [upd_ne (ne_of_none hrs htp).symm, upd_same]
        exact congrArg (fun z => some (HO.tup [V.str f, V.int z])) en
  · rintro σ' H' ⟨x3, rs, rfl, e2, tu, hp, hrs, hRw⟩
    rw [← hlen, List.take_of_length_le (by rw [len_pre]; exact Nat.le_refl _), row_pre] at hRw
    have hl3 : (rowOf g t).length = size t := by rw [← row_pre, List.length_map, len_pre]
    refine ⟨_, rfl, rr, _, rs, sub g t, rfl, SqL.of hrs, hRw, ?_, rooms_row g t [] hO, by omega, fun u H2 e3 hu => q u H2 (e2.trans e3) hu⟩
    rw [fold_row]
    rfl

/-! ### numbers_in -/
def spNums (K : PySem.W.Frag) : Sp := fun vs H Q _ => ∃ v t, vs = [v] ∧ Rep K H t v ∧ Ok t ∧ size t ≤ 50000 ∧ ∀ p H', H p = none → Ex H H' → H' p = some (.lst ((varsOf t).map V.int)) → Q (.ref p) H'
theorem ok_numbers_in (T : Tx K mg) : FnOk P w K mg base CX0 3 T.f_numbers_in T.d_numbers_in ["term"] (spNums K) := by
  refine T.h_numbers_in.F.ok sc_numbers_in (fun vs H Q E h => ?_) (fun cdv A outer s H vs Q E hr h => ?_)
  · obtain ⟨v, t, rfl, _⟩ := h
    rfl
  obtain ⟨v, t, rfl, hR, hO, hz, q⟩ := h
  have hu := hu_of hr
  refine ⟨_, (pss_cons (ps_set (i := 1) sc_numbers_in.nd rfl (Or.inl rfl) pe_dnewK)
    (pss_cons (ps_for PassesOwn.never rfl (pi_list (cl (ok_parts_of T) T.h_parts_of hr (pa_cons (pv 0) pa_nil))) (pg_name (i := 2) sc_numbers_in.nd rfl (Or.inl rfl))
      (pss_one (ps_if (pt_val (cl (ok_is_variable T) T.h_is_variable hr (pa_cons (pv 2) pa_nil)))
      (pss_one (ps_dput hu (pv 1) (pe_ix ix_tup (pv 2) pe_int (fun _ _ => rfl)) pe_bl rfl))
      pss_nil)))
    (pss_one (ps_ret (pe_callTy (call_listD rfl) rfl T.b_list (by decide +kernel) (pa_cons (pv 1) pa_nil)))))), ?_⟩
  intro d hd
  have e0 : Ex H (upd H d (.dK [])) := Ex.new hd
  refine ⟨_, rfl, v, t, rfl, hR.mono (Tups.of e0), hz, fun pl ps H1 hpl e1 hL hPs => ?_⟩
  have hne : d ≠ pl := ne_of_none upd_same hpl
  have hlen := hPs.len
  rw [len_pre] at hlen
  refine ⟨pl, rfl, ⟨ps, SqL.of hL⟩, for_list (fun i σ' H' => ∃ x, σ' = [some v, some (.ref d), x] ∧ Ex H H' ∧ Tups K H1 H' ∧ H' pl = some (.lst ps) ∧ H' d = some (.dK (mkD (((pre t).take i).foldl stepVar []))))
    ⟨none, rfl, e0.trans e1, Tups.refl _, hL, e1 d _ upd_same⟩ (fun i σ' H' _ ⟨_, _, _, _, h, _⟩ => SqL.of h) ?_ ?_⟩
  · rintro i x σ' H' hx ⟨x3, rfl, e2, tu, hp, hD⟩
    obtain ⟨ti, hti, hrep⟩ := (hPs.mono tu).get hx
    have hOi := oks_get (ok_pre hO) hti
    have hi : i < size t := by
      rw [← len_pre]
      exact (List.getElem?_eq_some_iff.mp hti).1
    refine ⟨_, rfl, x, ti, rfl, hrep, hOi, _, rfl, ?_⟩
    have hfold := fold_take_succ stepVar [] hti
    cases ti with
    | var k =>
      unfold Rep at hrep
      obtain ⟨a, rfl, hT⟩ := hrep
      have hl2 := fold_len ((pre t).take i) []
      rw [List.length_nil, List.length_take] at hl2
      refine iteT ⟨_, rfl, _, rfl, a, _, 0, _, rfl, rfl, hT, at0, d, _, rfl, .inl ⟨_, Sum.inl k, hD, rfl, ?_, rfl⟩, ?_⟩
      · unfold mkD
        rw [List.length_map]
        exact small5' (by omega)
      · have t3 : Tups K H' (upd H' d (.dK (putK (mkD (((pre t).take i).foldl stepVar [])) (Sum.inl k : Key) (.bl true)))) := tups_dk hD
        refine ⟨_, rfl, Ex.mut e2 hd, tu.trans t3, ?_, ?_⟩
        · rw [upd_ne hne.symm]
          exact hp
        · rw [upd_same, hfold, mkD_put]
          rfl
    | int n => exact iteF ⟨_, rfl, e2, tu, hp, by rw [hfold]; exact hD⟩
    | atom n => exact iteF ⟨_, rfl, e2, tu, hp, by rw [hfold]; exact hD⟩
    | comp f as => exact iteF ⟨_, rfl, e2, tu, hp, by rw [hfold]; exact hD⟩
  · rintro σ' H' ⟨x3, rfl, e2, tu, hp, hD⟩
    rw [← hlen, List.take_of_length_le (by rw [len_pre]; exact Nat.le_refl _)] at hD
    refine ⟨_, rfl, d, _, rfl, .inl hD, fun p hp2 => q p _ (Evl.fresh_back e2 hp2) (e2.trans (Ex.new hp2)) ?_⟩
    rw [upd_same]
    unfold mkD
    rw [List.map_map]
    rfl
end
end Hm

set_option Elab.async false
set_option linter.all false
set_option maxRecDepth 100000
set_option maxHeartbeats 4000000
namespace Hm
open PySem PySem.Spec PyProof.Rows L2 HT
open Evl (Ex)
/-- a comprehension of two walks: the outer one -/
theorem lc2_it {J : It} {n : Nat} {G : Hp → Prop} {Y : Nat → Hp → V → Hp → Prop} (w : Walk J n G Y) {g : TG} {tt : TT} {vs : List Nat} {σ : L2.St} {H1 : Hp} {D : Addr} {Qd : Hp → Prop} {In : L2.St → Hp → (Hp → Prop) → Prop}
    (Pv : Nat → Hp → Prop) (h0 : Pv 0 (upd H1 D (.lst []))) (hG : ∀ i H, i ≤ n → Pv i H → G H)
    (hs : ∀ i x H H', i < n → Pv i H → Y i H x H' → g x (wipe σ vs) H' fun σ2 H2 => wipe σ2 vs = wipe σ vs ∧ tt σ2 H2 fun b H3 => if b = true then In σ2 H3 (Pv (i + 1)) else Pv (i + 1) H3) (hd : ∀ H, Pv n H → Qd H) :
    ∃ W : Nat → Nat → Hp → Prop, (∃ m, W 0 m (upd H1 D (.lst []))) ∧ ∀ i m H, W i m H →
      (J.stop i H ∧ Qd H) ∨ (J.go i H ∧ ∃ Nx : Hp → Prop, (∀ H', Nx H' → ∃ m', m' < m ∧ W (i + 1) m' H') ∧ ∀ x H', J.yld i H x H' → g x (wipe σ vs) H' fun σ2 H2 => wipe σ2 vs = wipe σ vs ∧ tt σ2 H2 fun b H3 => if b = true then In σ2 H3 Nx else Nx H3) := by
  refine ⟨fun i m H => m = n - i ∧ i ≤ n ∧ Pv i H, ⟨n, by simp, Nat.zero_le _, h0⟩, ?_⟩
  rintro i m H ⟨rfl, hi, p⟩
  have q := hG i H hi p
  by_cases hlt : i < n
  · exact .inr ⟨w.goes i H hlt q, Pv (i + 1), fun H' p' => ⟨n - (i + 1), by omega, rfl, hlt, p'⟩, fun x H' y => hs i x H H' hlt p (w.yields i H x H' hlt q y)⟩
  · have e : i = n := by omega
    subst e
    exact .inl ⟨w.stops H q, hd H p⟩
/-- .. the inner one -/
theorem in_it {J1 : It} {n : Nat} {G : Hp → Prop} {Y : Nat → Hp → V → Hp → Prop} (w : Walk J1 n G Y) {g1 : TG} {tt1 : TT} {te : TE} {vs1 : List Nat} {σ2 : L2.St} {H4 : Hp} {D : Addr} {Nx : Hp → Prop}
    (Pv : Nat → Hp → Prop) (h0 : Pv 0 H4) (hG : ∀ i H, i ≤ n → Pv i H → G H)
    (hs : ∀ i x H H', i < n → Pv i H → Y i H x H' → g1 x (wipe σ2 vs1) H' fun σ3 H5 => wipe σ3 vs1 = wipe σ2 vs1 ∧ tt1 σ3 H5 fun b H6 =>
        if b = true then te σ3 H6 fun y H7 => ∃ acc, H7 D = some (.lst acc) ∧ acc.length < sizeLine ∧ Pv (i + 1) (upd H7 D (.lst (acc ++ [y]))) else Pv (i + 1) H6) (hd : ∀ H, Pv n H → Nx H) :
    ∃ W1 : Nat → Nat → Hp → Prop, (∃ m, W1 0 m H4) ∧ ∀ j k H, W1 j k H →
      (J1.stop j H ∧ Nx H) ∨ (J1.go j H ∧ ∃ Nx1 : Hp → Prop, (∀ H', Nx1 H' → ∃ k', k' < k ∧ W1 (j + 1) k' H') ∧ ∀ x H', J1.yld j H x H' → g1 x (wipe σ2 vs1) H' fun σ3 H5 => wipe σ3 vs1 = wipe σ2 vs1 ∧ tt1 σ3 H5 fun b H6 =>
        if b = true then te σ3 H6 fun y H7 => ∃ acc, H7 D = some (.lst acc) ∧ acc.length < sizeLine ∧ Nx1 (upd H7 D (.lst (acc ++ [y]))) else Nx1 H6) := by
  refine ⟨fun i m H => m = n - i ∧ i ≤ n ∧ Pv i H, ⟨n, by simp, Nat.zero_le _, h0⟩, ?_⟩
  rintro i m H ⟨rfl, hi, p⟩
  have q := hG i H hi p
  by_cases hlt : i < n
  · exact .inr ⟨w.goes i H hlt q, Pv (i + 1), fun H' p' => ⟨n - (i + 1), by omega, rfl, hlt, p'⟩, fun x H' y => hs i x H H' hlt p (w.yields i H x H' hlt q y)⟩
  · have e : i = n := by omega
    subst e
    exact .inl ⟨w.stops H q, hd H p⟩
/-- a term with its variables numbered anew -/
def rg (xs : List Int) (k : Int) : Tm := if k ∈ xs then .var ((xs.idxOf k : Nat) : Int) else .var k
def renum (t : Tm) : Tm := sub (rg (varsOf t)) t
theorem idx_at {xs : List Int} (hn : xs.Nodup) {j : Nat} {k : Int} (h : xs[j]? = some k) : xs.idxOf k = j := by
  obtain ⟨hj, e⟩ := List.getElem?_eq_some_iff.mp h
  have hm : k ∈ xs := e ▸ List.getElem_mem hj
  have h2 : xs.idxOf k < xs.length := List.idxOf_lt_length_of_mem hm
  have h3 : xs[xs.idxOf k]? = some k := by
    rw [List.getElem?_eq_getElem h2, List.getElem_idxOf h2]
  exact nd_ix hn h3 h
section
variable {P : Program} {w : World} {K : PySem.W.Frag} {mg : Str → Option Value} {base : Heap}
def spRen (K : PySem.W.Frag) : Sp := fun vs H Q _ => ∃ v t, vs = [v] ∧ Rep K H t v ∧ Ok t ∧ size t ≤ 50000 ∧ ∀ u H', Ex H H' → Rep K H' (renum t) u → Q u H'
theorem putK_len (kvs : List (Key × V)) (k : Key) (v : V) : (putK kvs k v).length ≤ kvs.length + 1 := by
  unfold putK
  split
  · rw [List.length_map]
    omega
  · rw [List.length_append, List.length_singleton]
    exact Nat.le_refl _
theorem ok_renumbered (T : Tx K mg) : FnOk P w K mg base CX0 6 T.f_renumbered T.d_renumbered ["term"] (spRen K) := by
  refine T.h_renumbered.F.ok sc_renumbered (fun vs H Q E h => ?_) (fun cdv A outer s H vs Q E hr h => ?_)
  · obtain ⟨v, t, rfl, _⟩ := h
    rfl
  obtain ⟨v, t, rfl, hR, hO, hz, q⟩ := h
  refine ⟨_, (pss_cons (ps_expr (cl (ok_demand_term T) T.h_demand_term hr (pa_cons (pv 0) pa_nil)))
    (pss_one (ps_ret (cl (ok_replaced T) T.h_replaced hr (pa_cons (pv 0) (pa_cons (pe_dc (own := [("place", 1), ("k", 2)]) (g := gTup K 2 (gCons (gName 1) (gCons (gName 2) gNil))) rfl sc_renumbered.nd (pi_enum rfl T.b_enumerate (pa_cons (cl (ok_numbers_in T) T.h_numbers_in hr (pa_cons (pv 0) pa_nil)) pa_nil)) (blkOk_by (own := [("place", 1), ("k", 2)]) (N := ["term", "place", "k"]) (sc := defScope s_renumbered) (by decide +kernel)) (fun _ _ _ _ _ => pg_tup rfl (pgs_cons (pg_name (i := 1) sc_renumbered.nd rfl (Or.inl rfl)) (pgs_cons (pg_name (i := 2) sc_renumbered.nd rfl (Or.inl rfl)) pgs_nil))) (fun _ _ _ _ _ => pts_nil) (fun _ _ _ _ _ => (pv 2)) (fun _ _ _ _ _ => (pe_tup (pa_cons (pv 1) pa_nil)))) pa_nil)))))), ?_⟩
  refine ⟨_, rfl, v, t, rfl, hR, hO, hz, fun _ H1 e1 _ => ?_⟩
  refine ⟨_, rfl, _, rfl, v, t, rfl, hR.mono (Tups.of e1), hO, hz, fun pl H2 hpl e2 hL => ?_⟩
  have hnd := varsOf_nodup t
  have hvl := varsOf_len t
  generalize hxs : varsOf t = xs at *
  refine ⟨pl, xs.map V.int, rfl, SqL.of hL, fun D hD => dc_it walk_enum (fun i H' => Ex H2 H' ∧ ∃ kvs, H' D = some (.dK kvs) ∧ kvs.length ≤ i ∧
      (∀ k u, valV kvs (Sum.inl k : Key) = some u → ∃ j : Nat, j < i ∧ xs[j]? = some k ∧ Rep K H' (.var (j : Int)) u) ∧ (∀ k, valV kvs (Sum.inl k : Key) = none → ∀ j : Nat, j < i → xs[j]? ≠ some k))
    ⟨Ex.new hD, [], upd_same, Nat.le_refl _, fun k u h => by simp [valV] at h, fun k _ j hj => absurd hj (Nat.not_lt_zero _)⟩ (fun i H' _ h => Evl.ex_l h.1 (SqL.of hL)) ?_ ?_⟩
  · rintro i x H3 H4 hi ⟨e3, kvs, hK, hkl, hk1, hk2⟩ ⟨TT, x1, x2, rfl, hTT, rfl, hx1, hx2⟩
    have e4 := Ex.new (o := HO.tup [x1, x2]) hTT
    have hx1' : x1 = .int (i : Int) := (Option.some.inj hx1).symm
    subst hx1'
    rw [List.length_map] at hi
    obtain ⟨k, hk, rfl⟩ : ∃ k, xs[i]? = some k ∧ x2 = .int k := by
      have hx3 : (xs.map V.int)[i]? = some x2 := hx2
      rw [List.getElem?_map, List.getElem?_eq_getElem hi] at hx3
      rw [List.getElem?_eq_getElem hi]
      exact ⟨_, rfl, (Option.some.inj hx3).symm⟩
    refine ⟨TT, _, rfl, SqT.of upd_same, rfl, _, _, rfl, _, _, rfl, rfl, rfl, yesI ⟨_, rfl, _, rfl, (by show 1 ≤ sizeLine; decide), fun tp htp => ?_⟩⟩
    have e5 := Ex.new (o := HO.tup [V.int (i : Int)]) htp
    have hK5 := e5 D _ (e4 D _ hK)
    refine ⟨kvs, Sum.inl k, rfl, hK5, small5' (by omega), Ex.mut ((e3.trans e4).trans e5) hD, _, upd_same, Nat.le_trans (putK_len _ _ _) (by omega), fun k' u hu => ?_, fun k' hn j hj => ?_⟩
    · have tK : Tups K H3 (upd (upd (upd H3 TT (.tup [.int (i : Int), .int k])) tp (.tup [V.int (i : Int)])) D (.dK (putK kvs (Sum.inl k : Key) (.ref tp)))) := ((Tups.of e4).trans (Tups.of e5)).trans (tups_dk hK5)
      rw [valV_put] at hu
      by_cases hkk : (Sum.inl k' : Key) = Sum.inl k
      · rw [if_pos hkk] at hu
        injection hkk with hkk
        subst hkk
        have := Option.some.inj hu
        subst this
        refine ⟨i, Nat.lt_succ_self _, hk, ?_⟩
        unfold Rep
        refine ⟨tp, rfl, SqT.of ?_⟩
        rw [upd_ne (ne_of_none (e4 D _ hK) htp).symm, upd_same]
      · rw [if_neg hkk] at hu
        obtain ⟨j, hj, h1, h2⟩ := hk1 k' u hu
        exact ⟨j, by omega, h1, h2.mono tK⟩
    · rw [valV_put] at hn
      by_cases hkk : (Sum.inl k' : Key) = Sum.inl k
      · rw [if_pos hkk] at hn
        cases hn
      · rw [if_neg hkk] at hn
        by_cases hji : j = i
        · subst hji
          rw [hk]
          intro z
          exact hkk (by rw [Option.some.inj z])
        · exact hk2 k' hn j (by omega)
  · rintro H3 ⟨e3, kvs, hK, hkl, hk1, hk2⟩
    rw [List.length_map] at hk1 hk2
    refine ⟨v, t, D, rg xs, rfl, ((hR.mono (Tups.of e1)).mono (Tups.of e2)).mono (Tups.of e3), hO, hz, ⟨kvs, .inl hK, fun k => ⟨fun u hu => ?_, fun hn => ?_⟩⟩, fun u H4 e4 hu => q u H4 (((e1.trans e2).trans e3).trans e4) ?_⟩
    · obtain ⟨j, hj, h1, h2⟩ := hk1 k u hu
      have hm : k ∈ xs := List.mem_of_getElem? h1
      unfold rg
      rw [if_pos hm, idx_at hnd h1]
      exact h2
    · have hm : ¬ k ∈ xs := fun hm => by
        obtain ⟨j, hj, h1⟩ := List.getElem_of_mem hm
        exact hk2 k hn j hj (by rw [List.getElem?_eq_getElem hj, h1])
      unfold rg
      rw [if_neg hm]
    · unfold renum
      rw [hxs]
      exact hu
/-- the arguments of a term stay where they were told -/
theorem reps_vals {K : PySem.W.Frag} {H H' : Hp} {ts : List Tm} {ws : List V} (h : Reps K H ts ws) (e : Tups K H H') : Reps K H' ts ws := h.mono e
end
end Hm

set_option Elab.async false
set_option linter.all false
set_option maxRecDepth 100000
set_option maxHeartbeats 4000000
namespace Hm
open PySem PySem.Spec PyProof.Rows L2 HT
open Evl (Ex)
/-! ## two more operators -/
def CPowW (i j : Int) : Prop := 0 ≤ j ∧ (Builtin.Int.intBits i : Int) * j ≤ 2 ^ 27
def rMulS : R2 := fun x y H Q => ∃ z k, x = .str z ∧ y = .int k ∧ 2 ≤ k ∧ k ≤ 1000 ∧ z.length = 1 ∧ (⟨(List.replicate k.toNat z.cps).foldl (· ++ ·) #[]⟩ : Str).length ≤ sizeLine ∧ Q (.str ⟨(List.replicate k.toNat z.cps).foldl (· ++ ·) #[]⟩) H
section
variable {X : Cx}
theorem op_powW : OpR X (binaryOp .Pow) (rI CPowW fun i j => .int (i ^ j.toNat)) := opI fun _ _ _ _ _ _ _ hc q => pow_int hc.1 hc.2 q
theorem op_mulS : OpR X (binaryOp .Mult) rMulS := by
  intro pins s σ H x y v u Q I rx ry h
  obtain ⟨z, k, rfl, rfl, h1, h2, hz, hl, q⟩ := h
  obtain ⟨t, rfl⟩ := rx
  obtain ⟨t', rfl⟩ := ry
  have hk : ¬ k < 1 := by omega
  have hk1 : ¬ ((k == 1 || z.length == 0) = true) := by
    rw [Bool.or_eq_true]
    rintro (e | e)
    · have := eq_of_beq e
      omega
    · have := eq_of_beq e
      omega
  refine PySem.P.mul_str ?_ (fun _ _ => ?_) (fun _ _ => ?_) ?_
  · rw [decide_eq_false (by omega), decide_eq_false (by omega)]
    rfl
  · rw [hz]
    have : (2 ^ 63 - 1 : Int) / k ≥ 1 := (Int.le_ediv_iff_mul_le (by omega)).mpr (by omega)
    omega
  · rw [hz]
    unfold Builtin.Str.tooLong
    exact decide_eq_false (by rw [sizeLine_eq]; omega)
  · rw [if_neg hk, if_neg hk1]
    exact ⟨hl, ⟨.str _, H, I.tok _, ⟨_, rfl⟩, q⟩⟩
end
/-! ## draws: a well is a list of three numbers that changes; what is drawn is any number that may come -/
def Well (H : Hp) (a : Addr) : Prop := ∃ x y z : Int, H a = some (.lst [.int x, .int y, .int z])
/-- all but the well is as it was -/
structure Dr (a : Addr) (H H' : Hp) : Prop where
  well : Well H' a
  keep : ∀ b o, b ≠ a → H b = some o → H' b = some o
theorem Dr.ex {a : Addr} {H H' : Hp} (h : Well H a) (e : Ex H H') : Dr a H H' := by
  obtain ⟨x, y, z, h⟩ := h
  exact ⟨⟨x, y, z, e _ _ h⟩, fun b o _ q => e b o q⟩
theorem Dr.trans {a : Addr} {H H1 H2 : Hp} (p : Dr a H H1) (q : Dr a H1 H2) : Dr a H H2 := ⟨q.well, fun b o n h => q.keep b o n (p.keep b o n h)⟩
theorem Dr.tups {K : PySem.W.Frag} {a : Addr} {H H' : Hp} (h : Well H a) (d : Dr a H H') : Tups K H H' := fun b ys q => by
  obtain ⟨x, y, z, h⟩ := h
  rcases q with (q | ⟨ob, q⟩) | q
  · exact .inl (.inl (d.keep _ _ (ne_of q h (by intro z; cases z)) q))
  · exact .inl (.inr ⟨ob, d.keep _ _ (ne_of q h (by intro z; cases z)) q⟩)
  · exact .inr q
theorem Dr.sql {K : PySem.W.Frag} {a l : Addr} {xs : List V} {H H' : Hp} (d : Dr a H H') (n : l ≠ a) (h : SqL K H l xs) : SqL K H' l xs := by
  rcases h with (h | ⟨o, h⟩) | h
  · exact .inl (.inl (d.keep _ _ n h))
  · exact .inl (.inr ⟨o, d.keep _ _ n h⟩)
  · exact .inr h
theorem Dr.upd {a : Addr} {H : Hp} {x y z : Int} : Dr a H (upd H a (.lst [.int x, .int y, .int z])) := ⟨⟨x, y, z, upd_same⟩, fun b o n h => by rw [upd_ne n]; exact h⟩
theorem Well.ne {H : Hp} {a p : Addr} (h : Well H a) (hp : H p = none) : p ≠ a := by
  obtain ⟨x, y, z, h⟩ := h
  exact (ne_of_none h hp).symm
theorem Dr.free {a p : Addr} {H H' : Hp} (h : Well H a) (d : Dr a H H') (hp : H' p = none) : H p = none := by
  cases hq : H p with
  | none => rfl
  | some o =>
    by_cases e : p = a
    · subst e
      obtain ⟨x, y, z, w⟩ := d.well
      rw [w] at hp
      cases hp
    · rw [d.keep p o e hq] at hp
      cases hp
section
variable {P : Program} {w : World} {K : PySem.W.Frag} {mg : Str → Option Value} {base : Heap}
def spDraw : Sp := fun vs H Q _ => ∃ a m, vs = [.ref a, .int m] ∧ Well H a ∧ 0 < m ∧ m < 1073741824 ∧ ∀ d H', 0 ≤ d → d < m → Dr a H H' → Q (.int d) H'
theorem mod_in {x m : Int} (h : 0 < m) : 0 ≤ x % m ∧ x % m < m := ⟨Int.emod_nonneg x (by omega), Int.emod_lt_of_pos x h⟩
theorem ok_law_draw (T : Tx K mg) : FnOk P w K mg base CX0 1 T.f_law_draw T.d_law_draw ["_law_well_here", "_law_many"] spDraw := by
  refine T.h_law_draw.F.ok sc_law_draw (fun vs H Q E h => ?_) (fun cdv A outer s H vs Q E hr h => ?_)
  · obtain ⟨v, t, rfl, _⟩ := h
    rfl
  obtain ⟨a, m, rfl, ⟨x, y, z, hW⟩, h0, h1, q⟩ := h
  refine ⟨_, (pss_cons (ps_if (pt_cmpR op_gt (pe_ix ix_list (pv 0) pe_int (fun _ _ => rfl)) pe_int (nomark _))
      (pss_cons (ps_set (i := 2) sc_law_draw.nd rfl (Or.inl rfl) (pe_op op_mod (pe_callTy call_int1 rfl T.b_int (by decide +kernel) (pa_cons (pe_ix ix_list (pv 0) pe_int (fun _ _ => rfl)) pa_nil)) (pv 1)))
    (pss_cons (ps_asg (pe_op op_fdiv (pe_ix ix_list (pv 0) pe_int (fun _ _ => rfl)) (pv 1)) (pg_sub (pv 0) pe_int set_list))
    (pss_one (ps_ret (pv 2)))))
      pss_nil)
    (pss_cons (ps_asg (pe_op op_add (pe_ix ix_list (pv 0) pe_int (fun _ _ => rfl)) pe_int) (pg_sub (pv 0) pe_int set_list))
    (pss_cons (ps_set (i := 3) sc_law_draw.nd rfl (Or.inl rfl) (pe_op op_mod (pe_callTy call_int1 rfl T.b_int (by decide +kernel) (pa_cons (pe_op op_mul (pe_op op_add (pe_ix ix_list (pv 0) pe_int (fun _ _ => rfl)) (pe_op op_mul pe_int (pe_ix ix_list (pv 0) pe_int (fun _ _ => rfl)))) pe_int) pa_nil)) pe_int))
    (pss_cons (ps_set (i := 3) sc_law_draw.nd rfl (Or.inl rfl) (pe_op op_mod (pe_callTy call_int1 rfl T.b_int (by decide +kernel) (pa_cons (pe_op op_mul (pv 3) (pe_op op_add (pe_op op_add (pe_op op_fdiv (pv 3) pe_int) pe_int) (pe_ix ix_list (pv 0) pe_int (fun _ _ => rfl)))) pa_nil)) pe_int))
    (pss_one (ps_ret (pe_op op_mod (pe_callTy call_int1 rfl T.b_int (by decide +kernel) (pa_cons (pe_op op_fdiv (pe_op op_mod (pe_callTy call_int1 rfl T.b_int (by decide +kernel) (pa_cons (pe_op op_mul (pv 3) (pe_op op_add (pe_op op_fdiv (pv 3) pe_int) pe_int)) pa_nil)) pe_int) pe_int) pa_nil)) (pv 1)))))))), ?_⟩
  refine ⟨_, rfl, a, _, 0, _, rfl, rfl, SqL.of hW, at0, _, _, rfl, rfl, _, rfl, ?_⟩
  refine ite2 (fun _ => ?_) (fun _ => ?_)
  · refine ⟨_, rfl, a, _, 0, _, rfl, rfl, SqL.of hW, at0, .inl ⟨_, rfl, _, rfl, _, _, rfl, rfl, h0, ?_⟩⟩
    refine ⟨_, rfl, a, _, 0, _, rfl, rfl, SqL.of hW, at0, _, rfl, _, _, rfl, rfl, ⟨h0, h1⟩, ?_⟩
    refine ⟨_, rfl, a, _, 0, 0, rfl, rfl, hW, rfl, ?_⟩
    refine ⟨_, rfl, q _ _ (mod_in h0).1 (mod_in h0).2 Dr.upd⟩
  · refine ⟨_, rfl, a, _, 2, _, rfl, rfl, SqL.of hW, rfl, _, _, rfl, rfl, ?_⟩
    refine ⟨_, rfl, a, _, 2, 2, rfl, rfl, hW, rfl, ?_⟩
    have hW2 : (upd H a (.lst ([V.int x, .int y, .int z].set 2 (.int (z + 1))))) a = some (.lst [.int x, .int y, .int (z + 1)]) := upd_same
    refine ⟨_, rfl, a, _, 1, _, rfl, rfl, SqL.of hW2, rfl, ?_⟩
    refine ⟨_, rfl, a, _, 2, _, rfl, rfl, SqL.of hW2, rfl, _, _, rfl, rfl, .inl ⟨by decide, by decide⟩, _, _, rfl, rfl, _, _, rfl, rfl, .inr ⟨by decide, by decide⟩, .inl ⟨_, rfl, _, _, rfl, rfl, (show (0 : Int) < 2147483647 by decide), ?_⟩⟩
    have b1 := mod_in (x := (y + 7853 * (z + 1)) * 48271) (show (0 : Int) < 2147483647 by decide)
    refine ⟨_, rfl, _, rfl, _, _, rfl, rfl, ⟨by decide, by decide⟩, _, _, rfl, rfl, _, rfl, a, _, 2, _, rfl, rfl, SqL.of hW2, rfl, _, _, rfl, rfl, _, _, rfl, rfl, .inl ⟨by omega, by omega⟩, .inl ⟨_, rfl, _, _, rfl, rfl, (show (0 : Int) < 2147483587 by decide), ?_⟩⟩
    have b2 := mod_in (x := (y + 7853 * (z + 1)) * 48271 % 2147483647 * ((y + 7853 * (z + 1)) * 48271 % 2147483647 / 1013 + 69621 + (z + 1))) (show (0 : Int) < 2147483587 by decide)
    refine ⟨_, rfl, _, rfl, _, _, rfl, rfl, ⟨by decide, by decide⟩, _, _, rfl, rfl, _, _, rfl, rfl, .inl ⟨by omega, by omega⟩, .inl ⟨_, rfl, _, _, rfl, rfl, (show (0 : Int) < 2147483399 by decide), _, _, rfl, rfl, ⟨by decide, by decide⟩, .inl ⟨_, rfl, _, rfl, _, _, rfl, rfl, h0, ?_⟩⟩⟩
    exact q _ _ (mod_in h0).1 (mod_in h0).2 Dr.upd
/-- one of some, any of them -/
def spOne (K : PySem.W.Frag) : Sp := fun vs H Q _ => ∃ a l xs, vs = [.ref a, .ref l] ∧ Well H a ∧ l ≠ a ∧ SqL K H l xs ∧ xs ≠ [] ∧ xs.length ≤ 1000 ∧ ∀ x H', x ∈ xs → Dr a H H' → Q x H'
theorem ok_law_one (T : Tx K mg) : FnOk P w K mg base CX0 2 T.f_law_one T.d_law_one ["_law_well_here", "_law_some"] (spOne K) := by
  refine T.h_law_one.F.ok sc_law_one (fun vs H Q E h => ?_) (fun cdv A outer s H vs Q E hr h => ?_)
  · obtain ⟨v, t, _, rfl, _⟩ := h
    rfl
  obtain ⟨a, l, xs, rfl, hW, hne, hL, hx, hz, q⟩ := h
  have hpos : 0 < xs.length := List.length_pos_iff.mpr hx
  refine ⟨_, (pss_one (ps_ret (pe_ix ix_list (pv 1) (cl (ok_law_draw T) T.h_law_draw hr (pa_cons (pv 0) (pa_cons (pe_callB call_len_seq rfl T.b_len (by decide +kernel) (pa_cons (pv 1) pa_nil)) pa_nil))) (fun _ _ => rfl)))), ?_⟩
  refine ⟨_, rfl, _, rfl, _, rfl, l, xs, rfl, .inl hL, a, _, rfl, hW, by omega, by omega, fun d H' h1 h2 dr => ?_⟩
  obtain ⟨k, rfl⟩ := Int.eq_ofNat_of_zero_le h1
  have hk : k < xs.length := by omega
  exact ⟨l, xs, _, xs[k], rfl, rfl, dr.sql hne hL, atI_nat (List.getElem?_eq_getElem hk), q _ _ (List.getElem_mem hk) dr⟩
end
end Hm

set_option Elab.async false
set_option linter.all false
set_option maxRecDepth 100000
set_option maxHeartbeats 4000000
namespace Hm
open PySem PySem.Spec PyProof.Rows L2 HT
open Evl (Ex)
mutual
/-- variables below m -/
def Vlt (m : Int) : Tm → Prop
  | .var k => k < m
  | .comp _ as => Vlts m as
  | _ => True
def Vlts (m : Int) : List Tm → Prop
  | [] => True
  | t :: ts => Vlt m t ∧ Vlts m ts
end
def atomB (s : Str) : Bool := decide (s.cps.size ≤ 40) && s.cps.toList.all fun c => decide (32 ≤ c) && decide (c ≤ 126) && decide (c ≠ 37)
theorem atomB_ok {s : Str} (h : atomB s = true) : AtomOk s := by
  unfold atomB at h
  rw [Bool.and_eq_true, List.all_eq_true] at h
  refine ⟨of_decide_eq_true h.1, fun c hc => ?_⟩
  have := h.2 c hc
  rw [Bool.and_eq_true, Bool.and_eq_true] at this
  exact ⟨of_decide_eq_true this.1.1, of_decide_eq_true this.1.2, of_decide_eq_true this.2⟩
theorem tg_big : (1000000000000 : Int) < tooGreat := by decide +kernel
/-- the bound of the size of what is drawn -/
def Bd : Nat → Nat
  | 0 => 1
  | 1 => 1
  | 2 => 9
  | d + 3 => 1 + 2 * Bd (d + 2)
theorem bd_step {d n : Nat} (h : n ≤ if d + 1 = 1 then 8 else 2) : 1 + n * Bd (d + 1) ≤ Bd (d + 2) := by
  cases d with
  | zero =>
    rw [if_pos rfl] at h
    show 1 + n * 1 ≤ 9
    omega
  | succ d =>
    rw [if_neg (by omega)] at h
    show 1 + n * Bd (d + 2) ≤ 1 + 2 * Bd (d + 2)
    have := Nat.mul_le_mul_right (Bd (d + 2)) h
    omega
/-- what a draw of a term of some depth may give -/
structure Drawn (m : Int) (d : Nat) (t : Tm) : Prop where
  ok : Ok t
  vlt : Vlt m t
  siz : size t ≤ Bd d
  dep : depth t ≤ max 1 d
theorem great_mul : CMulW (((10 : Int) ^ (60 : Int).toNat) ^ (4 : Int).toNat) ((10 : Int) ^ (59 : Int).toNat) := by
  unfold CMulW
  decide +kernel
theorem great_lo : -tooGreat < ((10 : Int) ^ (60 : Int).toNat) ^ (4 : Int).toNat * (10 : Int) ^ (59 : Int).toNat - 1 := by decide +kernel
theorem great_hi : ((10 : Int) ^ (60 : Int).toNat) ^ (4 : Int).toNat * (10 : Int) ^ (59 : Int).toNat - 1 < tooGreat := by decide +kernel
section
variable {P : Program} {w : World} {K : PySem.W.Frag} {mg : Str → Option Value} {base : Heap}
def spLeaf (K : PySem.W.Frag) : Sp := fun vs H Q _ => ∃ a m, vs = [.ref a, .int m] ∧ Well H a ∧ 0 < m ∧ m ≤ 1000 ∧ ∀ v t H', Dr a H H' → Rep K H' t v → Drawn m 1 t → Q v H'
theorem leaf_drawn {m : Int} {t : Tm} (h : Ok t) (hv : Vlt m t) (ha : t.args = []) : Drawn m 1 t := by
  refine ⟨h, hv, ?_, ?_⟩
  · rw [size_eq, ha]
    show 1 + sizes [] ≤ 1
    simp [sizes]
  · rw [depth_eq, ha]
    simp [depths]
theorem ok_law_leaf (T : Tx K mg) : FnOk P w K mg base CX0 3 T.f_law_leaf T.d_law_leaf ["_law_well_here", "_law_many"] (spLeaf K) := by
  refine T.h_law_leaf.F.ok sc_law_leaf (fun vs H Q E h => ?_) (fun cdv A outer s H vs Q E hr h => ?_)
  · obtain ⟨v, t, rfl, _⟩ := h
    rfl
  obtain ⟨a, m, rfl, hW, h0, h1, q⟩ := h
  have htg := tg_big
  refine ⟨_, (pss_cons (ps_set (i := 2) sc_law_leaf.nd rfl (Or.inl rfl) (cl (ok_law_draw T) T.h_law_draw hr (pa_cons (pv 0) (pa_cons pe_int pa_nil))))
    (Evl.pss_cut (ps_if (PW.pt (pw_and (pt_cmpR op_lt (pv 2) pe_int (nomark _)) (pw_and1 (pt_cmpR op_gt (pv 1) pe_int (nomark _)))))
      (pss_one (ps_ret (pe_tup (pa_cons (cl (ok_law_draw T) T.h_law_draw hr (pa_cons (pv 0) (pa_cons (pv 1) pa_nil))) pa_nil))))
      pss_nil)
    (pss_cons (ps_if (pt_cmpR op_eq (pv 2) pe_int (nomark _))
      (pss_cons (ps_set (i := 3) sc_law_leaf.nd rfl (Or.inl rfl) (pe_op op_sub (pe_op op_mulW (pe_op op_powW (pe_op op_pow pe_int pe_int) pe_int) (pe_op op_pow pe_int pe_int)) pe_int))
    (pss_one (ps_ret (cl (ok_law_one T) T.h_law_one hr (pa_cons (pv 0) (pa_cons (pe_lst (pa_cons pe_int (pa_cons pe_int (pa_cons pe_int (pa_cons (pe_un un_neg pe_int) (pa_cons (pv 3) (pa_cons (pe_op op_sub (cl (ok_law_draw T) T.h_law_draw hr (pa_cons (pv 0) (pa_cons (pe_op op_pow pe_int pe_int) pa_nil))) (pe_op op_mul pe_int (pe_op op_pow pe_int pe_int))) pa_nil))))))) pa_nil))))))
      pss_nil)
    (pss_one (ps_ret (cl (ok_law_one T) T.h_law_one hr (pa_cons (pv 0) (pa_cons (pe_lst (pa_cons pe_str (pa_cons pe_str (pa_cons pe_str (pa_cons pe_str (pa_cons pe_str (pa_cons pe_str (pa_cons pe_str (pa_cons (pe_op op_mulS pe_str pe_int) pa_nil))))))))) pa_nil)))))))), ?_⟩
  refine ⟨_, rfl, a, _, rfl, hW, by decide, by decide, fun way H1 w0 w7 d1 => ?_⟩
  refine ⟨fun σ' H' => σ' = [some (.ref a), some (.int m), some (.int way), none] ∧ Dr a H H', ?_, ?_⟩
  · refine ⟨_, rfl, _, _, rfl, rfl, _, rfl, ?_⟩
    refine ite2 (fun c1 => ?_) (fun c1 => ?_)
    · refine ⟨_, rfl, _, _, rfl, rfl, _, rfl, ?_⟩
      refine ite2 (fun c2 => ?_) (fun c2 => ?_)
      · refine ⟨_, rfl, _, rfl, a, _, rfl, d1.well, h0, by omega, fun k H2 k0 km d2 => ⟨(by show 1 ≤ sizeLine; decide), fun p hp => ?_⟩⟩
        refine q _ (.var k) _ ((d1.trans d2).trans (Dr.ex d2.well (Ex.new hp))) ?_ (leaf_drawn ?_ ?_ rfl)
        · unfold Rep
          exact ⟨p, rfl, SqT.of upd_same⟩
        · unfold Ok
          exact k0
        · unfold Vlt
          exact km
      · exact ⟨rfl, d1⟩
    · exact iteF ⟨rfl, d1⟩
  · rintro _ H2 ⟨rfl, d2⟩
    refine ⟨_, rfl, rfl, _, rfl, ?_⟩
    refine ite2 (fun _ => ?_) (fun _ => ?_)
    · refine ⟨_, _, rfl, rfl, ⟨by decide, by decide, by decide⟩, _, _, rfl, rfl, ⟨by decide, by decide +kernel⟩, _, _, rfl, rfl, ⟨by decide, by decide, by decide⟩, _, _, rfl, rfl, great_mul, _, _, rfl, rfl, ?_⟩
      refine ⟨_, rfl, _, rfl, _, rfl, _, rfl, _, _, rfl, rfl, ⟨by decide, by decide, by decide⟩, a, _, rfl, d2.well, by decide +kernel, by decide +kernel, fun d H3 hd0 hd1 d3 => ?_⟩
      refine ⟨_, _, rfl, rfl, ⟨by decide, by decide, by decide⟩, _, _, rfl, rfl, .inl ⟨by decide, by decide⟩, _, _, rfl, rfl, ?_⟩
      refine ⟨(by show 6 ≤ sizeLine; decide), fun l hl => ?_⟩
      have d4 : ∀ o, Dr a H3 (upd H3 l o) := fun o => Dr.ex d3.well (Ex.new hl)
      refine ⟨a, l, _, rfl, (d4 _).well, d3.well.ne hl, SqL.of upd_same, by simp, (by show 6 ≤ 1000; decide), fun x H5 hx d5 => ?_⟩
      have dd := ((d2.trans d3).trans (d4 _)).trans d5
      have hd2 : d < 1000000000 := hd1
      have fin : ∀ i : Int, -tooGreat < i → i < tooGreat → x = .int i → Q x H5 := fun i i1 i2 e => by
        refine q x (.int i) H5 dd ?_ (leaf_drawn ?_ ?_ rfl)
        · unfold Rep
          exact e
        · unfold Ok
          exact ⟨i1, i2⟩
        · unfold Vlt
          trivial
      simp only [List.mem_cons, List.not_mem_nil, or_false] at hx
      rcases hx with rfl | rfl | rfl | rfl | rfl | rfl
      · exact fin 0 (by omega) (by omega) rfl
      · exact fin 1 (by omega) (by omega) rfl
      · exact fin 7 (by omega) (by omega) rfl
      · exact fin (-1) (by omega) (by omega) rfl
      · exact fin _ great_lo great_hi rfl
      · refine fin (d - 5 * 10 ^ 8) ?_ ?_ rfl
        · have : (5 * 10 ^ 8 : Int) = 500000000 := by decide +kernel
          omega
        · have : (5 * 10 ^ 8 : Int) = 500000000 := by decide +kernel
          omega
    · refine ⟨_, rfl, _, _, rfl, rfl, by decide, by decide, rfl, (by decide +kernel), ?_⟩
      refine ⟨(by show 8 ≤ sizeLine; decide), fun l hl => ?_⟩
      have d4 : ∀ o, Dr a H2 (upd H2 l o) := fun o => Dr.ex d2.well (Ex.new hl)
      refine ⟨a, l, _, rfl, (d4 _).well, d2.well.ne hl, SqL.of upd_same, by simp, (by show 8 ≤ 1000; decide), fun x H5 hx d5 => ?_⟩
      have dd := (d2.trans (d4 _)).trans d5
      have fin : ∀ z : Str, atomB z = true → x = .str z → Q x H5 := fun z hz e => by
        refine q x (.atom z) H5 dd ?_ (leaf_drawn ?_ ?_ rfl)
        · unfold Rep
          exact e
        · unfold Ok
          exact atomB_ok hz
        · unfold Vlt
          trivial
      simp only [List.mem_cons, List.not_mem_nil, or_false] at hx
      rcases hx with rfl | rfl | rfl | rfl | rfl | rfl | rfl | rfl
      all_goals exact fin _ (by decide +kernel) rfl
end
end Hm

set_option Elab.async false
set_option linter.all false
set_option maxRecDepth 100000
set_option maxHeartbeats 400000
namespace Hm
open PySem PySem.Spec PyProof.Rows L2 HT
open Evl (Ex)
/-- a pair of a name and an arity, as a tuple -/
def PairAt (K : PySem.W.Frag) (H : Hp) (n : Nat) (v : V) : Prop := ∃ (p : Addr) (f : Str) (k : Nat), v = .ref p ∧ SqT K H p [.str f, .int (k : Int)] ∧ AtomOk f ∧ 1 ≤ k ∧ k ≤ n
theorem PairAt.mono {K : PySem.W.Frag} {H H' : Hp} {n : Nat} {v : V} (e : Tups K H H') (h : PairAt K H n v) : PairAt K H' n v := by
  obtain ⟨p, f, k, e1, h1, h2⟩ := h
  exact ⟨p, f, k, e1, e _ _ h1, h2⟩
theorem PairAt.new {K : PySem.W.Frag} {H : Hp} {n : Nat} {p : Addr} {f : Str} (k : Nat) (hf : atomB f = true) (h1 : 1 ≤ k) (h2 : k ≤ n) : PairAt K (upd H p (.tup [.str f, .int (k : Int)])) n (.ref p) :=
  ⟨p, f, k, rfl, SqT.of upd_same, atomB_ok hf, h1, h2⟩
theorem vlts_app {m : Int} : ∀ {xs ys : List Tm}, Vlts m xs → Vlts m ys → Vlts m (xs ++ ys)
  | [], ys, _, h => h
  | x :: xs, ys, h, h2 => by
    unfold Vlts at h
    show Vlts m (x :: (xs ++ ys))
    unfold Vlts
    exact ⟨h.1, vlts_app h.2 h2⟩
structure AllDrawn (m : Int) (d : Nat) (ts : List Tm) : Prop where
  ok : Oks ts
  vlt : Vlts m ts
  siz : sizes ts ≤ ts.length * Bd d
  dep : depths ts ≤ max 1 d
theorem AllDrawn.nil {m : Int} {d : Nat} : AllDrawn m d [] := ⟨trivial, trivial, by simp [sizes], by simp [depths]⟩
theorem AllDrawn.snoc {m : Int} {d : Nat} {ts : List Tm} {t : Tm} (h : AllDrawn m d ts) (g : Drawn m d t) : AllDrawn m d (ts ++ [t]) := by
  refine ⟨oks_app.mpr ⟨h.ok, by rw [oks_cons]; exact ⟨g.ok, trivial⟩⟩, vlts_app h.vlt (by unfold Vlts; exact ⟨g.vlt, trivial⟩), ?_, ?_⟩
  · rw [sizes_app, sizes_one, List.length_append, List.length_singleton, Nat.add_mul]
    have h1 := h.siz
    have h2 := g.siz
    omega
  · rw [depths_app]
    have h1 := h.dep
    have h2 := g.dep
    have h3 : depths [t] = depth t := by simp [depths]
    omega
theorem AllDrawn.comp {m : Int} {d : Nat} {ts : List Tm} {f : Str} (h : AllDrawn m (d + 1) ts) (hf : AtomOk f) (h1 : 1 ≤ ts.length) (h2 : ts.length ≤ if d + 1 = 1 then 8 else 2) : Drawn m (d + 2) (.comp f ts) := by
  have hb := bd_step h2
  refine ⟨?_, ?_, ?_, ?_⟩
  · unfold Ok
    exact ⟨hf, h1, by split at h2 <;> omega, h.ok⟩
  · unfold Vlt
    exact h.vlt
  · unfold size
    have := h.siz
    omega
  · unfold depth
    have := h.dep
    omega
theorem dec0 {n : Nat} : decide (V.int ((n : Nat) : Int) = V.int 2) = decide (n = 2) := dec_len (m := 2)
def tPs : List (Str × Int) → TA
  | [] => tNil
  | (f, n) :: r => tCons (tTup (tCons (tC (.str f)) (tCons (tC (.int n)) tNil))) (tPs r)
theorem ps_read : ∀ (ps : List (Str × Int)) (σ : L2.St) (H : Hp) (R : List V → Hp → Prop), (∀ vs H', Ex H H' → Paired (fun (p : Str × Int) (v : V) => ∃ a, v = .ref a ∧ H' a = some (.tup [.str p.1, .int p.2])) ps vs → R vs H') → tPs ps σ H R
  | [], σ, H, R, h => h [] H (Ex.refl H) .nil
  | (f, n) :: r, σ, H, R, h => by
    refine ⟨(by show 2 ≤ sizeLine; decide), fun p hp => ?_⟩
    refine ps_read r σ _ _ fun vs H' e hr => ?_
    exact h (.ref p :: vs) H' ((Ex.new hp).trans e) (.cons ⟨p, rfl, e p _ upd_same⟩ hr)
theorem lst_ps (ps : List (Str × Int)) {ta : TA} {σ : L2.St} {H : Hp} {Q : VK} (e : ta = tPs ps) (hz : ps.length ≤ 100) (h : ∀ vs H' p, Ex H H' → Paired (fun (p : Str × Int) (v : V) => ∃ a, v = .ref a ∧ H' a = some (.tup [.str p.1, .int p.2])) ps vs → H' p = none → Q (.ref p) (upd H' p (.lst vs))) : tLst ta σ H Q := by
  subst e
  exact ps_read ps σ H _ fun vs H' e hp => ⟨small5 (by rw [← hp.length]; omega), fun p hn => h vs H' p e hp hn⟩
theorem set_ps (ps : List (Str × Int)) {ta : TA} {i : Nat} {tz : TS} {D : Ends} {σ : L2.St} {H : Hp} (e : ta = tPs ps) (hz : ps.length ≤ 100) (h : ∀ vs H' p, Ex H H' → Paired (fun (p : Str × Int) (v : V) => ∃ a, v = .ref a ∧ H' a = some (.tup [.str p.1, .int p.2])) ps vs → H' p = none → tz D (σ.set i (some (.ref p))) (upd H' p (.lst vs))) :
    tSeq (tAsg (tLst ta) (gName i)) tz D σ H := lst_ps (Q := fun x H1 => gName i x σ H1 (tz D)) ps e hz h
theorem pairs_at {K : PySem.W.Frag} {H : Hp} (n : Nat) : ∀ {ps : List (Str × Int)} {vs : List V}, Paired (fun (p : Str × Int) (v : V) => ∃ a, v = .ref a ∧ H a = some (.tup [.str p.1, .int p.2])) ps vs →
    (ps.all fun p => atomB p.1 && decide (1 ≤ p.2) && decide (p.2 ≤ (n : Int))) = true → ∀ x ∈ vs, PairAt K H n x
  | [], _, .nil, _, x, hx => by simp at hx
  | (f, k) :: ps, _, .cons h r, hb, x, hx => by
    rw [List.all_cons, Bool.and_eq_true, Bool.and_eq_true, Bool.and_eq_true] at hb
    rcases List.mem_cons.mp hx with rfl | hx
    · obtain ⟨a, e, hT⟩ := h
      have h1 : 1 ≤ k := of_decide_eq_true hb.1.1.2
      have h2 : k ≤ (n : Int) := of_decide_eq_true hb.1.2
      refine ⟨a, f, k.toNat, e, ?_, atomB_ok hb.1.1.1, by omega, by omega⟩
      have : ((k.toNat : Nat) : Int) = k := by omega
      rw [this]
      exact SqT.of hT
    · exact pairs_at n r hb.2 x hx
section
variable {P : Program} {w : World} {K : PySem.W.Frag} {mg : Str → Option Value} {base : Heap}
def spTermD (K : PySem.W.Frag) : Nat → Sp
  | 0 => fun _ _ _ _ => False
  | d + 1 => fun vs H Q _ => ∃ a m, vs = [.ref a, .int ((d + 1 : Nat) : Int), .int m] ∧ Well H a ∧ 0 < m ∧ m ≤ 1000 ∧ ∀ v t H', Dr a H H' → Rep K H' t v → Drawn m (d + 1) t → Q v H'
theorem term_step (T : Tx K mg) (d : Nat) (ih : FnOk P w K mg base CX0 (d + 3) T.f_law_term T.d_law_term ["_law_well_here", "_law_deep", "_law_many"] (spTermD K d)) :
    FnOk P w K mg base CX0 (d + 3 + 1) T.f_law_term T.d_law_term ["_law_well_here", "_law_deep", "_law_many"] (spTermD K (d + 1)) := by
  refine T.h_law_term.F.ok sc_law_term (fun vs H Q E h => ?_) (fun cdv A outer s H vs Q E hr h => ?_)
  · obtain ⟨v, t, rfl, _⟩ := h
    rfl
  obtain ⟨a, m, rfl, hW, h0, h1, q⟩ := h
  refine ⟨_, (Evl.pss_cut (ps_if (PW.pt (pw_or (pt_cmpR op_le (pv 1) pe_int (nomark _)) (pw_or1 (pt_cmpR op_eq (cl (ok_law_draw T) T.h_law_draw hr (pa_cons (pv 0) (pa_cons pe_int pa_nil))) pe_int (nomark _)))))
      (pss_one (ps_ret (cl (ok_law_leaf T) T.h_law_leaf hr (pa_cons (pv 0) (pa_cons (pv 2) pa_nil)))))
      pss_nil)
    (pss_cons (ps_set (i := 3) sc_law_term.nd rfl (Or.inl rfl) (pe_lst (pa_cons (pe_tup (pa_cons pe_str (pa_cons pe_int pa_nil))) (pa_cons (pe_tup (pa_cons pe_str (pa_cons pe_int pa_nil))) (pa_cons (pe_tup (pa_cons pe_str (pa_cons pe_int pa_nil))) (pa_cons (pe_tup (pa_cons pe_str (pa_cons pe_int pa_nil))) (pa_cons (pe_tup (pa_cons pe_str (pa_cons pe_int pa_nil))) (pa_cons (pe_tup (pa_cons pe_str (pa_cons pe_int pa_nil))) pa_nil))))))))
    (Evl.pss_cut (ps_asg (cl (ok_law_one T) T.h_law_one hr (pa_cons (pv 0) (pa_cons (pe_op op_cat (pv 3) (pe_ifExp (pt_cmpR op_eq (pv 1) pe_int (nomark _)) (pe_lst (pa_cons (pe_tup (pa_cons pe_str (pa_cons pe_int pa_nil))) (pa_cons (pe_tup (pa_cons pe_str (pa_cons pe_int pa_nil))) pa_nil))) (pe_lst pa_nil))) pa_nil))) (pg_tup rfl (pgs_cons (pg_name (i := 4) sc_law_term.nd rfl (Or.inl rfl)) (pgs_cons (pg_name (i := 5) sc_law_term.nd rfl (Or.inl rfl)) pgs_nil))))
    (pss_one (ps_ret (pe_op op_catT (pe_tup (pa_cons (pv 4) pa_nil)) (pe_callTy call_tuple_of rfl T.b_tuple (by decide +kernel) (pa_cons (pe_lc (own := [("_law_k", 6)]) (g := gName 6) rfl sc_law_term.nd (pi_range1 rfl T.b_range (pa_cons (pv 5) pa_nil)) (blkOk_by (own := [("_law_k", 6)]) (N := ["_law_well_here", "_law_deep", "_law_many", "_law_some", "_law_name", "_law_arity", "_law_k"]) (sc := defScope s_law_term) (by decide +kernel)) (fun _ _ _ _ _ => pg_name (i := 6) sc_law_term.nd rfl (Or.inl rfl)) (fun _ _ _ _ _ => pts_nil) (fun _ _ _ _ _ => (cl ih T.h_law_term hr (pa_cons (pv 0) (pa_cons (pe_op op_sub (pv 1) pe_int) (pa_cons (pv 2) pa_nil)))))) pa_nil)))))))), ?_⟩
  refine ⟨fun σ' H' => σ' = [some (.ref a), some (.int ((d + 1 : Nat) : Int)), some (.int m), none, none, none, none] ∧ Dr a H H' ∧ 1 ≤ d, ?_, ?_⟩
  · have leaf : ∀ H', Dr a H H' → (tCall (spLeaf K) [] E0 (tCons (tVar 0) (tCons (tVar 2) tNil))) [some (.ref a), some (.int ((d + 1 : Nat) : Int)), some (.int m), none, none, none, none] H' Q := fun H' dr =>
      ⟨_, rfl, _, rfl, a, m, rfl, dr.well, h0, h1, fun v t H2 d2 hR hD => q v t H2 (dr.trans d2) hR ⟨hD.ok, hD.vlt, Nat.le_trans hD.siz (by cases d with | zero => exact Nat.le_refl _ | succ d => have := bd_step (d := d) (n := 0) (Nat.zero_le _); exact Nat.le_trans (by show 1 ≤ _; omega) this), by have := hD.dep; omega⟩⟩
    refine ⟨_, rfl, _, _, rfl, rfl, _, rfl, ?_⟩
    refine ite2 (fun c1 => ?_) (fun c1 => ?_)
    · exact iteT (leaf H (Dr.ex hW (Ex.refl _)))
    · have hd : 1 ≤ d := by
        have : ¬ ((d + 1 : Nat) : Int) ≤ 1 := fun z => c1 (decide_eq_true z)
        omega
      refine ⟨_, rfl, a, _, rfl, hW, by decide, by decide, fun k H1 k0 k4 d1 => ?_⟩
      refine ⟨rfl, _, rfl, ite2 (fun _ => ?_) (fun _ => ?_)⟩
      · exact leaf H1 d1
      · exact ⟨rfl, d1, hd⟩
  · rintro _ H1 ⟨rfl, d1, hd⟩
    obtain ⟨d, rfl⟩ : ∃ e, d = e + 1 := ⟨d - 1, by omega⟩
    refine set_ps [("f", 1), ("f", 2), ("g", 2), (".", 2), ("", 1), ("f", 2)] rfl (by decide) fun vs6 H6 l e6 hp6 gl => ?_
    have l6 : vs6.length = 6 := hp6.length.symm
    have a6 : ∀ x ∈ vs6, PairAt K H6 2 x := pairs_at 2 hp6 (by decide +kernel)
    have e7 := Ex.new (o := HO.lst vs6) gl
    have w6 := (Dr.ex d1.well e6).well
    have d7 : Dr a H (upd H6 l (.lst vs6)) := (d1.trans (Dr.ex d1.well e6)).trans (Dr.ex w6 e7)
    have hla : l ≠ a := w6.ne gl
    have a7 : ∀ x ∈ vs6, PairAt K (upd H6 l (.lst vs6)) 2 x := fun x hx => (a6 x hx).mono (Tups.of e7)
    have hl7 : (upd H6 l (.lst vs6)) l = some (.lst vs6) := upd_same
    generalize upd H6 l (.lst vs6) = H7 at *
    have w7 := d7.well
    refine ⟨fun σ' H' => ∃ (f : Str) (k : Nat), σ' = [some (.ref a), some (.int ((d + 1 + 1 : Nat) : Int)), some (.int m), some (.ref l), some (.str f), some (.int (k : Int)), none] ∧ Dr a H H' ∧ AtomOk f ∧ 1 ≤ k ∧ k ≤ (if d + 1 = 1 then 8 else 2), ?_, ?_⟩
    · refine ⟨_, rfl, _, rfl, _, rfl, rfl, _, rfl, ?_⟩
      refine ite2 (fun c1 => ?_) (fun c1 => ?_)
      · have hd0 : d + 1 = 1 := by
          have := of_decide_eq_true (dec0.symm.trans c1)
          omega
        refine lst_ps [("h", 3), ("k", 8)] rfl (by decide) fun vs2 H8 l2 e8 hp2 gl2 => ?_
        have e9 := Ex.new (o := HO.lst vs2) gl2
        have l2n : vs2.length = 2 := hp2.length.symm
        refine ⟨l, l2, vs6, vs2, rfl, rfl, e9 l _ (e8 l _ hl7), upd_same, small5 (by omega), fun p gp => ?_⟩
        have e10 := Ex.new (o := HO.lst (vs6 ++ vs2)) gp
        have ee := (e8.trans e9).trans e10
        have dd := d7.trans (Dr.ex w7 ee)
        refine ⟨a, p, vs6 ++ vs2, rfl, dd.well, (Dr.ex w7 (e8.trans e9)).well.ne gp, SqL.of upd_same, ?_, ?_, fun x H9 hx d9 => ?_⟩
        · intro z
          have := congrArg List.length z
          rw [List.length_append, List.length_nil] at this
          omega
        · rw [List.length_append]
          omega
        · have hx9 : PairAt K H9 8 x := by
            rcases List.mem_append.mp hx with hx | hx
            · obtain ⟨pp, f, k, h1, h2, h3, h4, h5⟩ := (a7 x hx).mono ((Tups.of ee).trans (Dr.tups dd.well d9))
              exact ⟨pp, f, k, h1, h2, h3, h4, by omega⟩
            · exact (pairs_at 8 hp2 (by decide +kernel) x hx).mono (((Tups.of e9).trans (Tups.of e10)).trans (Dr.tups dd.well d9))
          obtain ⟨pp, f, k, rfl, hT, hf, k1, k2⟩ := hx9
          exact ⟨pp, _, rfl, hT, rfl, _, _, rfl, _, _, rfl, rfl, f, k, rfl, dd.trans d9, hf, k1, by rw [if_pos hd0]; exact k2⟩
      · have hd0 : ¬ d + 1 = 1 := fun z => c1 (by rw [dec0]; exact decide_eq_true (by omega))
        refine ⟨Nat.zero_le _, fun l2 gl2 => ?_⟩
        have e9 := Ex.new (o := HO.lst []) gl2
        refine ⟨l, l2, vs6, [], rfl, rfl, e9 l _ hl7, upd_same, small5 (by rw [List.length_nil]; omega), fun p gp => ?_⟩
        have e10 := Ex.new (o := HO.lst (vs6 ++ [])) gp
        have ee := e9.trans e10
        have dd := d7.trans (Dr.ex w7 ee)
        refine ⟨a, p, vs6 ++ [], rfl, dd.well, (Dr.ex w7 e9).well.ne gp, SqL.of upd_same, ?_, ?_, fun x H9 hx d9 => ?_⟩
        · intro z
          have := congrArg List.length z
          rw [List.append_nil, List.length_nil] at this
          omega
        · rw [List.append_nil]
          omega
        · rw [List.append_nil] at hx
          obtain ⟨pp, f, k, rfl, hT, hf, k1, k2⟩ := (a7 x hx).mono ((Tups.of ee).trans (Dr.tups dd.well d9))
          exact ⟨pp, _, rfl, hT, rfl, _, _, rfl, _, _, rfl, rfl, f, k, rfl, dd.trans d9, hf, k1, by rw [if_neg hd0]; exact k2⟩
    · rintro _ H8 ⟨f, k, rfl, d8, hf, k1, k2⟩
      have w8 := d8.well
      have k8 : k ≤ 8 := by split at k2 <;> omega
      refine ⟨_, rfl, (by show 1 ≤ sizeLine; decide), fun tp htp => ?_⟩
      have e9 := Ex.new (o := HO.tup [.str f]) htp
      have w9 := (Dr.ex w8 e9).well
      have hT9 : SqT K (upd H8 tp (.tup [.str f])) tp [.str f] := SqT.of upd_same
      refine ⟨_, rfl, (k : Int), rfl, by omega, by omega, fun D hD => ?_⟩
      have hDa := w9.ne hD
      have e10 := Ex.new (o := HO.lst []) hD
      refine lc_it walk_range (fun i H' => Dr a (upd H8 tp (.tup [.str f])) H' ∧ ∃ ts us, H' D = some (.lst us) ∧ Reps K H' ts us ∧ ts.length = i ∧ AllDrawn m (d + 1) ts) ⟨Dr.ex w9 e10, [], [], upd_same, Reps.nil, rfl, AllDrawn.nil⟩ (fun _ _ _ _ => trivial) ?_ ?_
      · rintro i x H10x H10 hi ⟨d10, ts, us, hU, hUs, hlen, hall⟩ ⟨rfl, rfl⟩
        refine ⟨rfl, yesI ⟨_, rfl, _, rfl, _, _, rfl, rfl, _, rfl, a, m, ?_, d10.well, h0, h1, fun v t H11 d11 hR hDn => ?_⟩⟩
        · show [V.ref a, V.int (((d + 1 + 1 : Nat) : Int) - 1), V.int m] = _
          congr 3
          omega
        · have hU11 := d11.keep D _ hDa hU
          have t11 : Tups K H10 H11 := Dr.tups d10.well d11
          have t12 : Tups K H11 (upd H11 D (.lst (us ++ [v]))) := Tups.lst hU11
          have hl2 := hUs.len
          refine ⟨us, hU11, small5' (by omega), ?_, ts ++ [t], us ++ [v], upd_same, ?_, ?_, hall.snoc hDn⟩
          · obtain ⟨x1, y1, z1, hw⟩ := d11.well
            refine ⟨⟨x1, y1, z1, by rw [upd_ne hDa.symm]; exact hw⟩, fun b o hb hq => ?_⟩
            have hbD : b ≠ D := fun z => by
              subst z
              rw [hD] at hq
              cases hq
            rw [upd_ne hbD]
            exact d11.keep b o hb (d10.keep b o hb hq)
          · exact Reps.app ((hUs.mono t11).mono t12) (Reps.one (hR.mono t12))
          · rw [List.length_append, List.length_singleton, hlen]
      · rintro H10 ⟨d10, ts, us, hU, hUs, hlen, hall⟩
        have hlen' : ts.length = k := by
          rw [hlen]
          rfl
        have hl2 := hUs.len
        refine ⟨D, us, rfl, .inl ⟨SqL.of hU, fun q2 hq2 => ?_⟩⟩
        have e11 := Ex.new (o := HO.tup us) hq2
        have hTp := (Dr.tups w9 d10) _ _ hT9
        have w11 := (Dr.ex d10.well e11).well
        refine ⟨tp, q2, [.str f], us, rfl, rfl, Evl.ex_t e11 hTp, SqT.of upd_same, by simp, small5 (by simp; omega), fun z => ?_, fun _ p hp => ?_⟩
        · rw [z, List.length_nil] at hl2
          omega
        · have e12 := Ex.new (o := HO.tup ([V.str f] ++ us)) hp
          refine q (.ref p) (.comp f ts) _ (((d8.trans (Dr.ex w8 e9)).trans d10).trans ((Dr.ex d10.well e11).trans (Dr.ex w11 e12))) ?_ ?_
          · unfold Rep
            exact ⟨p, us, rfl, SqT.of upd_same, (hUs.mono (Tups.of e11)).mono (Tups.of e12)⟩
          · exact hall.comp hf (by omega) (by rw [hlen']; exact k2)
theorem ok_law_term (T : Tx K mg) : ∀ d : Nat, FnOk P w K mg base CX0 (d + 3) T.f_law_term T.d_law_term ["_law_well_here", "_law_deep", "_law_many"] (spTermD K d)
  | 0 => ⟨fun _ _ _ _ h => h.elim, fun _ _ _ _ _ _ _ _ _ _ _ _ _ h => h.elim⟩
  | d + 1 => term_step T d (ok_law_term T d)
end
end Hm

set_option Elab.async false
set_option linter.all false
set_option maxRecDepth 100000
set_option maxHeartbeats 1000000
namespace Hm
open PySem PySem.Spec PyProof.Rows L2 HT
open Evl (Ex)
def isComp : Tm → Bool
  | .comp _ _ => true
  | _ => false
theorem args_not {t : Tm} (h : isComp t = false) : t.args = [] := by
  cases t <;> first | rfl | cases h
theorem depths_get : ∀ {ts : List Tm} {i : Nat} {t : Tm}, ts[i]? = some t → depth t ≤ depths ts
  | [], i, _, e => by simp at e
  | u :: us, 0, t, e => by
    have : u = t := by simpa using e
    subst this
    rw [depths_cons]
    omega
  | u :: us, i + 1, t, e => by
    have := depths_get (ts := us) (i := i) (t := t) (by simpa using e)
    rw [depths_cons]
    omega
theorem sizes_get : ∀ {ts : List Tm} {i : Nat} {t : Tm}, ts[i]? = some t → size t ≤ sizes ts
  | [], i, _, e => by simp at e
  | u :: us, 0, t, e => by
    have : u = t := by simpa using e
    subst this
    rw [sizes_cons]
    omega
  | u :: us, i + 1, t, e => by
    have := sizes_get (ts := us) (i := i) (t := t) (by simpa using e)
    rw [sizes_cons]
    omega
theorem sizes_take (ts : List Tm) (i : Nat) : sizes (ts.take i) ≤ sizes ts := by
  have h := sizes_app (ts.take i) (ts.drop i)
  rw [List.take_append_drop] at h
  omega
theorem take_snoc {α : Type} {l : List α} {i : Nat} {x : α} (h : l[i]? = some x) : l.take (i + 1) = l.take i ++ [x] := by
  rw [List.take_add_one, h]
  rfl
theorem pres_one (t : Tm) : pres [t] = pre t := by
  rw [pres_cons]
  unfold pres
  rw [List.append_nil]
theorem subs_app (g : Int → Tm) : ∀ xs ys : List Tm, subs g (xs ++ ys) = subs g xs ++ subs g ys
  | [], _ => by simp [subs]
  | x :: xs, ys => by
    show subs g (x :: (xs ++ ys)) = _
    rw [subs, subs, subs_app g xs ys]
    rfl
theorem subs_one (g : Int → Tm) (t : Tm) : subs g [t] = [sub g t] := by simp [subs]
section
variable {P : Program} {w : World} {K : PySem.W.Frag} {mg : Str → Option Value} {base : Heap}
theorem ok_law_is_variable (T : Tx K mg) : FnOk P w K mg base CX0 1 T.f_law_is_variable T.d_law_is_variable ["_law_term_here"] (spIsVar K) := by
  refine T.h_law_is_variable.F.ok sc_law_is_variable (fun vs H Q E h => ?_) (fun cdv A outer s H vs Q E hr h => ?_)
  · obtain ⟨v, t, rfl, _⟩ := h
    rfl
  obtain ⟨v, t, rfl, hR, hO, q⟩ := h
  refine ⟨_, (pss_one (ps_ret (pe_and (pe_callB call_isi rfl T.b_isinstance (by decide +kernel) (pa_cons (pv 0) (pa_cons (pe_bltn (v := .ty "tuple") (u := .type "tuple") rfl T.b_tuple (by decide +kernel) rfl) pa_nil))) (pe_one (pe_cmpR op_eq (pe_callB call_len_seq rfl T.b_len (by decide +kernel) (pa_cons (pv 0) pa_nil)) pe_int (nomark _)))))), ?_⟩
  cases t with
  | var k =>
    unfold Rep at hR
    obtain ⟨a, rfl, hT⟩ := hR
    refine ⟨_, rfl, _, _, _, _, true, rfl, .ty "tuple", tyx_tup hT, kit_ty (by decide +kernel), true, rfl, iteT ?_⟩
    exact ⟨_, rfl, a, _, rfl, .inr hT, rfl, q⟩
  | int i =>
    unfold Rep at hR
    subst hR
    exact ⟨_, rfl, _, _, _, _, false, rfl, .ty "tuple", .base (.int i), kit_ty (by decide +kernel), false, rfl, iteF q⟩
  | atom z =>
    unfold Rep at hR
    subst hR
    exact ⟨_, rfl, _, _, _, _, false, rfl, .ty "tuple", .base (.str z), kit_ty (by decide +kernel), false, rfl, iteF q⟩
  | comp f as =>
    unfold Rep at hR
    obtain ⟨a, ws, rfl, hT, hA⟩ := hR
    refine ⟨_, rfl, _, _, _, _, true, rfl, .ty "tuple", tyx_tup hT, kit_ty (by decide +kernel), true, rfl, iteT ?_⟩
    refine ⟨_, rfl, a, _, rfl, .inr hT, rfl, ?_⟩
    have hl := hA.len
    unfold Ok at hO
    have e : decide (V.int (((V.str f :: ws).length : Nat) : Int) = V.int 1) = false := by
      rw [show (V.int 1) = V.int ((1 : Nat) : Int) from rfl, dec_len, decide_eq_false]
      rw [List.length_cons]
      omega
    rw [e]
    exact q
def spIsComp (K : PySem.W.Frag) : Sp := fun vs H Q _ => ∃ v t, vs = [v] ∧ Rep K H t v ∧ Ok t ∧ Q (.bl (isComp t)) H
theorem ok_law_is_compound (T : Tx K mg) : FnOk P w K mg base CX0 1 T.f_law_is_compound T.d_law_is_compound ["_law_term_here"] (spIsComp K) := by
  refine T.h_law_is_compound.F.ok sc_law_is_compound (fun vs H Q E h => ?_) (fun cdv A outer s H vs Q E hr h => ?_)
  · obtain ⟨v, t, rfl, _⟩ := h
    rfl
  obtain ⟨v, t, rfl, hR, hO, q⟩ := h
  refine ⟨_, (pss_one (ps_ret (pe_and (pe_callB call_isi rfl T.b_isinstance (by decide +kernel) (pa_cons (pv 0) (pa_cons (pe_bltn (v := .ty "tuple") (u := .type "tuple") rfl T.b_tuple (by decide +kernel) rfl) pa_nil))) (pe_one (pe_cmpR op_gt (pe_callB call_len_seq rfl T.b_len (by decide +kernel) (pa_cons (pv 0) pa_nil)) pe_int (nomark _)))))), ?_⟩
  cases t with
  | var k =>
    unfold Rep at hR
    obtain ⟨a, rfl, hT⟩ := hR
    refine ⟨_, rfl, _, _, _, _, true, rfl, .ty "tuple", tyx_tup hT, kit_ty (by decide +kernel), true, rfl, iteT ?_⟩
    exact ⟨_, rfl, a, _, rfl, .inr hT, _, _, rfl, rfl, q⟩
  | int i =>
    unfold Rep at hR
    subst hR
    exact ⟨_, rfl, _, _, _, _, false, rfl, .ty "tuple", .base (.int i), kit_ty (by decide +kernel), false, rfl, iteF q⟩
  | atom z =>
    unfold Rep at hR
    subst hR
    exact ⟨_, rfl, _, _, _, _, false, rfl, .ty "tuple", .base (.str z), kit_ty (by decide +kernel), false, rfl, iteF q⟩
  | comp f as =>
    unfold Rep at hR
    obtain ⟨a, ws, rfl, hT, hA⟩ := hR
    refine ⟨_, rfl, _, _, _, _, true, rfl, .ty "tuple", tyx_tup hT, kit_ty (by decide +kernel), true, rfl, iteT ?_⟩
    refine ⟨_, rfl, a, _, rfl, .inr hT, _, _, rfl, rfl, ?_⟩
    have hl := hA.len
    unfold Ok at hO
    show Q (.bl (decide ((1 : Int) < (((V.str f :: ws).length : Nat) : Int)))) H
    rw [List.length_cons, decide_eq_true (by omega)]
    exact q
/-- the arguments of a compound, or nothing: t[1:] if it is one else () -/
theorem args_read {H : Hp} {v : V} {t : Tm} {σ : L2.St} {Q : VK} {i : Nat} (hσ : σ[i]? = some (some v)) (hR : Rep K H t v) (hO : Ok t)
    (q : ∀ p ws H', H p = none → Ex H H' → H' p = some (.tup ws) → Reps K H' t.args ws → Q (.ref p) H') :
    tIf (tB (tCall (spIsComp K) [] E0 (tCons (tVar i) tNil))) (tSl (rSlT K) (tVar i) (tPart (tC (.int 1))) tNoPart) (tTup tNil) σ H Q := by
  refine ⟨v, hσ, v, t, rfl, hR, hO, isComp t, rfl, ?_⟩
  cases t with
  | comp f as =>
    unfold Rep at hR
    obtain ⟨a, ws, rfl, hT, hA⟩ := hR
    refine iteT ⟨_, hσ, _, rfl, a, _, rfl, hT, cut1_ne _ _, fun p hp => ?_⟩
    rw [cut1]
    exact q p ws _ hp (Ex.new hp) upd_same (hA.mono (Tups.of (Ex.new hp)))
  | var k => exact iteF ⟨Nat.zero_le _, fun p hp => q p _ _ hp (Ex.new hp) upd_same Reps.nil⟩
  | int k => exact iteF ⟨Nat.zero_le _, fun p hp => q p _ _ hp (Ex.new hp) upd_same Reps.nil⟩
  | atom k => exact iteF ⟨Nat.zero_le _, fun p hp => q p _ _ hp (Ex.new hp) upd_same Reps.nil⟩
/-! ### _law_parts -/
def spLParts (K : PySem.W.Frag) (n : Nat) : Sp := fun vs H Q _ => ∃ v t, vs = [v] ∧ Rep K H t v ∧ Ok t ∧ size t ≤ 1000 ∧ depth t ≤ n ∧ ∀ p ws H', H p = none → Ex H H' → H' p = some (.lst ws) → Reps K H' (pre t) ws → Q (.ref p) H'
theorem parts_step (T : Tx K mg) (n : Nat) (ih : FnOk P w K mg base CX0 (n + 2) T.f_law_parts T.d_law_parts ["_law_term_here"] (spLParts K n)) :
    FnOk P w K mg base CX0 (n + 2 + 1) T.f_law_parts T.d_law_parts ["_law_term_here"] (spLParts K (n + 1)) := by
  refine T.h_law_parts.F.ok sc_law_parts (fun vs H Q E h => ?_) (fun cdv A outer s H vs Q E hr h => ?_)
  · obtain ⟨v, t, rfl, _⟩ := h
    rfl
  obtain ⟨v, t, rfl, hR, hO, hz, hd, q⟩ := h
  refine ⟨_, (pss_cons (ps_set (i := 1) sc_law_parts.nd rfl (Or.inl rfl) (pe_lst (pa_cons (pv 0) pa_nil)))
    (pss_cons (ps_for PassesOwn.never rfl (pi_tup (pe_ifExp (pt_val (cl (ok_law_is_compound T) T.h_law_is_compound hr (pa_cons (pv 0) pa_nil))) (pe_slice sl_tup (pv 0) (po_some pe_int) po_none) (pe_tup pa_nil))) (pg_name (i := 2) sc_law_parts.nd rfl (Or.inl rfl))
      (pss_one (ps_set (i := 1) sc_law_parts.nd rfl (Or.inl rfl) (pe_op op_cat (pv 1) (cl ih T.h_law_parts hr (pa_cons (pv 2) pa_nil))))))
    (pss_one (ps_ret (pv 1))))), ?_⟩
  refine ⟨_, rfl, (by show 1 ≤ sizeLine; decide), fun l hl => ?_⟩
  have e1 := Ex.new (o := HO.lst [v]) hl
  refine args_read rfl (hR.mono (Tups.of e1)) hO fun p ws H2 hp e2 hP hPs => ?_
  refine ⟨p, rfl, ⟨ws, SqT.of hP⟩, ?_⟩
  have hlen := hPs.len
  refine for_it walk_tup (fun i σ' H' => ∃ x l us, σ' = [some v, some (.ref l), x] ∧ Ex H2 H' ∧ H l = none ∧ H' l = some (.lst us) ∧ Reps K H' (t :: pres (t.args.take i)) us)
    ⟨none, l, [v], rfl, Ex.refl _, hl, e2 l _ upd_same, ?_⟩ (fun i σ' H' _ ⟨_, _, _, _, e, _⟩ => SqT.of (e p _ hP)) ?_ ?_
  · exact Reps.one ((hR.mono (Tups.of e1)).mono (Tups.of e2))
  · rintro i x σ' H3x H3 hi ⟨x3, l3, us, rfl, e3, hl3, hU, hUs⟩ ⟨rfl, hx⟩
    obtain ⟨ti, hti, hri⟩ := (hPs.mono (Tups.of e3)).get hx
    have hdt := depth_eq t
    have hst := size_eq t
    have hd1 := depths_get hti
    have hs1 := sizes_get hti
    refine ⟨_, rfl, _, rfl, x, ti, rfl, hri, oks_get (ok_args hO) hti, by omega, by omega, fun p4 ws4 H4 hp4 e4 hL4 hPs4 => ?_⟩
    have hU4 := e4 l3 _ hU
    have h1 := hUs.len
    have h2 := hPs4.len
    rw [len_pre] at h2
    rw [List.length_cons, len_pres] at h1
    have h3 := sizes_take t.args i
    refine ⟨l3, p4, us, ws4, rfl, rfl, hU4, hL4, small5 (by omega), fun p5 hp5 => ?_⟩
    have e5 := Ex.new (o := HO.lst (us ++ ws4)) hp5
    refine ⟨_, p5, us ++ ws4, rfl, (e3.trans e4).trans e5, ?_, upd_same, ?_⟩
    · exact Evl.fresh_back e1 (Evl.fresh_back e2 (Evl.fresh_back e3 (Evl.fresh_back e4 hp5)))
    · rw [take_snoc hti, pres_app, pres_one]
      have := Reps.app ((hUs.mono (Tups.of e4)).mono (Tups.of e5)) (hPs4.mono (Tups.of e5))
      exact this
  · rintro σ' H3 ⟨x3, l3, us, rfl, e3, hl3, hU, hUs⟩
    rw [← hlen, List.take_of_length_le (Nat.le_refl _), ← pre_eq] at hUs
    exact ⟨_, rfl, q l3 us H3 hl3 ((e1.trans e2).trans e3) hU hUs⟩
theorem depth_pos (t : Tm) : 1 ≤ depth t := by
  rw [depth_eq]
  omega
theorem ok_law_parts (T : Tx K mg) : ∀ n : Nat, FnOk P w K mg base CX0 (n + 2) T.f_law_parts T.d_law_parts ["_law_term_here"] (spLParts K n)
  | 0 => by
    have no : ∀ vs H Q E, ¬ spLParts K 0 vs H Q E := fun vs H Q E ⟨v, t, _, _, _, _, h, _⟩ => by
      have := depth_pos t
      omega
    exact ⟨fun vs H Q E h => absurd h (no vs H Q E), fun A outer s H args us vs Q E _ _ _ _ h => absurd h (no vs H Q E)⟩
  | n + 1 => parts_step T n (ok_law_parts T n)
end
end Hm

set_option Elab.async false
set_option linter.all false
set_option maxRecDepth 100000
set_option maxHeartbeats 1000000
namespace Hm
open PySem PySem.Spec PyProof.Rows L2 HT
open Evl (Ex)
theorem inV_ints (k : Int) : ∀ acc : List Int, inV (.int k) (acc.map V.int) = decide (k ∈ acc)
  | [] => by simp [inV]
  | a :: acc => by
    have ih := inV_ints k acc
    unfold inV at ih ⊢
    rw [List.map_cons, List.any_cons, ih]
    show ((a == k) || decide (k ∈ acc)) = decide (k ∈ a :: acc)
    by_cases e : a = k
    · subst e
      simp
    · have : (a == k) = false := by simpa using e
      rw [this, Bool.false_or]
      by_cases m : k ∈ acc
      · rw [decide_eq_true m, decide_eq_true (List.mem_cons_of_mem _ m)]
      · rw [decide_eq_false m, decide_eq_false]
        intro z
        rcases List.mem_cons.mp z with z | z
        · exact e z.symm
        · exact m z
theorem flat_ints (acc : List Int) : (acc.map V.int).all flatV = true := by
  rw [List.all_map, List.all_eq_true]
  intro x _
  rfl
section
variable {P : Program} {w : World} {K : PySem.W.Frag} {mg : Str → Option Value} {base : Heap}
/-! ### _law_numbers -/
def spLNums (K : PySem.W.Frag) (n : Nat) : Sp := fun vs H Q _ => ∃ v t, vs = [v] ∧ Rep K H t v ∧ Ok t ∧ size t ≤ 1000 ∧ depth t ≤ n ∧ ∀ p H', H p = none → Ex H H' → H' p = some (.lst ((varsOf t).map V.int)) → Q (.ref p) H'
theorem ok_law_numbers (T : Tx K mg) : FnOk P w K mg base CX0 13 T.f_law_numbers T.d_law_numbers ["_law_term_here"] (spLNums K 10) := by
  refine T.h_law_numbers.F.ok sc_law_numbers (fun vs H Q E h => ?_) (fun cdv A outer s H vs Q E hr h => ?_)
  · obtain ⟨v, t, rfl, _⟩ := h
    rfl
  obtain ⟨v, t, rfl, hR, hO, hz, hd, q⟩ := h
  refine ⟨_, (pss_cons (ps_set (i := 1) sc_law_numbers.nd rfl (Or.inl rfl) (pe_lst pa_nil))
    (pss_cons (ps_for PassesOwn.never rfl (pi_list (cl (ok_law_parts T 10) T.h_law_parts hr (pa_cons (pv 0) pa_nil))) (pg_name (i := 2) sc_law_numbers.nd rfl (Or.inl rfl))
      (pss_one (ps_if (PW.pt (pw_and (pt_val (cl (ok_law_is_variable T) T.h_law_is_variable hr (pa_cons (pv 2) pa_nil))) (pw_and1 (pt_cmpR op_notIn_seq (pe_ix ix_tup (pv 2) pe_int (fun _ _ => rfl)) (pv 1) (by rfl)))))
      (pss_one (ps_expr (pe_bm PySem.F.plainAttrs_list PySem.F.slot_list_append PySem.F.type_list_append mt_append (pv 1) (pa_cons (pe_ix ix_tup (pv 2) pe_int (fun _ _ => rfl)) pa_nil))))
      pss_nil)))
    (pss_one (ps_ret (pv 1))))), ?_⟩
  refine ⟨Nat.zero_le _, fun l hl => ?_⟩
  have e0 := Ex.new (o := HO.lst []) hl
  refine ⟨_, rfl, v, t, rfl, hR.mono (Tups.of e0), hO, hz, hd, fun pl ps H1 hpl e1 hL hPs => ?_⟩
  have hne : l ≠ pl := ne_of_none upd_same hpl
  have hlen := hPs.len
  rw [len_pre] at hlen
  refine ⟨pl, rfl, ⟨ps, SqL.of hL⟩, for_list (fun i σ' H' => ∃ x, σ' = [some v, some (.ref l), x] ∧ Ex H H' ∧ Tups K H1 H' ∧ H' pl = some (.lst ps) ∧ H' l = some (.lst ((((pre t).take i).foldl stepVar []).map V.int)))
    ⟨none, rfl, e0.trans e1, Tups.refl _, hL, e1 l _ upd_same⟩ (fun i σ' H' _ ⟨_, _, _, _, h, _⟩ => SqL.of h) ?_ ?_⟩
  · rintro i x σ' H' hx ⟨x3, rfl, e2, tu, hp, hD⟩
    obtain ⟨ti, hti, hrep⟩ := (hPs.mono tu).get hx
    have hOi := oks_get (ok_pre hO) hti
    have hi : i < size t := by
      rw [← len_pre]
      exact (List.getElem?_eq_some_iff.mp hti).1
    have hfold := fold_take_succ stepVar [] hti
    have hl2 := fold_len ((pre t).take i) []
    rw [List.length_nil, List.length_take] at hl2
    refine ⟨_, rfl, x, ti, rfl, hrep, hOi, _, rfl, ?_⟩
    cases ti with
    | var k =>
      unfold Rep at hrep
      obtain ⟨a, rfl, hT⟩ := hrep
      refine iteT ⟨_, rfl, a, _, 0, _, rfl, rfl, hT, at0, _, rfl, l, _, rfl, .inl (SqL.of hD), rfl, flat_ints _, _, rfl, ?_⟩
      rw [if_pos rfl, inV_ints]
      by_cases m : k ∈ ((pre t).take i).foldl stepVar []
      · rw [decide_eq_true m]
        refine iteF ⟨_, rfl, e2, tu, hp, ?_⟩
        rw [hfold]
        show H' l = some (.lst ((addNew _ k).map V.int))
        unfold addNew
        rw [if_pos m]
        exact hD
      · rw [decide_eq_false m]
        refine iteT ⟨_, rfl, .inl ⟨rfl, _, SqL.of hD⟩, _, rfl, a, _, 0, _, rfl, rfl, hT, at0, l, _, _, rfl, rfl, hD, small5' (by rw [List.length_map]; omega), ?_⟩
        refine ⟨_, rfl, Ex.mut e2 hl, tu.trans (Tups.lst hD), ?_, ?_⟩
        · rw [upd_ne hne.symm]
          exact hp
        · rw [upd_same, hfold]
          show _ = some (HO.lst ((addNew _ k).map V.int))
          unfold addNew
          rw [if_neg m, List.map_append]
          rfl
    | int n => exact iteF (iteF ⟨_, rfl, e2, tu, hp, by rw [hfold]; exact hD⟩)
    | atom n => exact iteF (iteF ⟨_, rfl, e2, tu, hp, by rw [hfold]; exact hD⟩)
    | comp f as => exact iteF (iteF ⟨_, rfl, e2, tu, hp, by rw [hfold]; exact hD⟩)
  · rintro σ' H' ⟨x3, rfl, e2, tu, hp, hD⟩
    rw [← hlen, List.take_of_length_le (by rw [len_pre]; exact Nat.le_refl _)] at hD
    exact ⟨_, rfl, q l H' hl e2 hD⟩
/-! ### _law_put -/
def spLPut (K : PySem.W.Frag) (n : Nat) : Sp := fun vs H Q _ => ∃ v t d g, vs = [v, .ref d] ∧ Rep K H t v ∧ Ok t ∧ size t ≤ 1000 ∧ depth t ≤ n ∧ TabRep K H d g ∧ ∀ u H', Ex H H' → Rep K H' (sub g t) u → Q u H'
theorem put_step (T : Tx K mg) (n : Nat) (ih : FnOk P w K mg base CX0 (n + 2) T.f_law_put T.d_law_put ["_law_term_here", "_law_table"] (spLPut K n)) :
    FnOk P w K mg base CX0 (n + 2 + 1) T.f_law_put T.d_law_put ["_law_term_here", "_law_table"] (spLPut K (n + 1)) := by
  refine T.h_law_put.F.ok sc_law_put (fun vs H Q E h => ?_) (fun cdv A outer s H vs Q E hr h => ?_)
  · obtain ⟨v, t, _, _, rfl, _⟩ := h
    rfl
  obtain ⟨v, t, d, g, rfl, hR, hO, hz, hd, hTab, q⟩ := h
  have hu := hu_of hr
  refine ⟨_, (pss_cons (ps_if (pt_val (cl (ok_law_is_variable T) T.h_law_is_variable hr (pa_cons (pv 0) pa_nil)))
      (pss_one (ps_ret (pe_dget2 hu (pv 1) (pe_ix ix_tup (pv 0) pe_int (fun _ _ => rfl)) (pv 0) ⟨rfl, rfl, rfl, rfl⟩)))
      pss_nil)
    (pss_cons (ps_if (pt_not (pt_val (cl (ok_law_is_compound T) T.h_law_is_compound hr (pa_cons (pv 0) pa_nil))))
      (pss_one (ps_ret (pv 0)))
      pss_nil)
    (pss_one (ps_ret (pe_op op_catT (pe_tup (pa_cons (pe_ix ix_tup (pv 0) pe_int (fun _ _ => rfl)) pa_nil)) (pe_callTy call_tuple_of rfl T.b_tuple (by decide +kernel) (pa_cons (pe_lc (own := [("_law_part", 2)]) (g := gName 2) rfl sc_law_put.nd (pi_tup (pe_slice sl_tup (pv 0) (po_some pe_int) po_none)) (blkOk_by (own := [("_law_part", 2)]) (N := ["_law_term_here", "_law_table", "_law_part"]) (sc := defScope s_law_put) (by decide +kernel)) (fun _ _ _ _ _ => pg_name (i := 2) sc_law_put.nd rfl (Or.inl rfl)) (fun _ _ _ _ _ => pts_nil) (fun _ _ _ _ _ => (cl ih T.h_law_put hr (pa_cons (pv 2) (pa_cons (pv 1) pa_nil))))) pa_nil))))))), ?_⟩
  refine ⟨_, rfl, v, t, rfl, hR, hO, _, rfl, ?_⟩
  cases t with
  | var k =>
    unfold Rep at hR
    obtain ⟨a, rfl, hT⟩ := hR
    obtain ⟨kvs, hkv, hval⟩ := hTab
    refine iteT ⟨_, rfl, d, rfl, .inl ⟨kvs, hkv⟩, _, rfl, a, _, 0, _, rfl, rfl, hT, at0, _, rfl, _, .inl ⟨kvs, Sum.inl k, hkv, rfl, rfl⟩, q _ H (Ex.refl _) ?_⟩
    show Rep K H (g k) _
    cases hv : valV kvs (Sum.inl k : Key) with
    | some u => exact (hval k).1 u hv
    | none =>
      rw [(hval k).2 hv]
      unfold Rep
      exact ⟨a, rfl, hT⟩
  | int i => exact iteF ⟨_, rfl, v, .int i, rfl, hR, hO, false, rfl, iteT ⟨_, rfl, q _ H (Ex.refl _) hR⟩⟩
  | atom z => exact iteF ⟨_, rfl, v, .atom z, rfl, hR, hO, false, rfl, iteT ⟨_, rfl, q _ H (Ex.refl _) hR⟩⟩
  | comp f as =>
    refine iteF ⟨_, rfl, v, .comp f as, rfl, hR, hO, true, rfl, iteF ?_⟩
    unfold Rep at hR
    obtain ⟨a, ws, rfl, hT, hA⟩ := hR
    refine ⟨_, rfl, a, _, 0, _, rfl, rfl, hT, at0, (by show 1 ≤ sizeLine; decide), fun tp htp => ?_⟩
    have e1 := Ex.new (o := HO.tup [.str f]) htp
    have hT1 : SqT K (upd H tp (.tup [.str f])) tp [.str f] := SqT.of upd_same
    refine ⟨_, rfl, _, rfl, a, _, rfl, Evl.ex_t e1 hT, cut1_ne _ _, fun p hp => ?_⟩
    rw [cut1]
    have e2 := Ex.new (o := HO.tup ws) hp
    have hP : (upd (upd H tp (.tup [.str f])) p (.tup ws)) p = some (.tup ws) := upd_same
    have hA2 := (hA.mono (Tups.of e1)).mono (Tups.of e2)
    have hTab2 := (hTab.mono e1).mono e2
    have hT2 := Evl.ex_t e2 hT1
    have e12 := e1.trans e2
    generalize upd (upd H tp (.tup [.str f])) p (.tup ws) = H2 at *
    have hlen := hA.len
    have hdt := depth_eq (.comp f as)
    have hst := size_eq (.comp f as)
    have hO2 := hO
    unfold Ok at hO2
    refine ⟨p, rfl, ⟨ws, SqT.of hP⟩, fun D hD => ?_⟩
    have e3 := Ex.new (o := HO.lst []) hD
    refine lc_it walk_tup (fun i H' => Ex H2 H' ∧ ∃ us, H' D = some (.lst us) ∧ Reps K H' (subs g (as.take i)) us) ⟨e3, [], upd_same, Reps.nil⟩ (fun i H' _ h => SqT.of (h.1 p _ hP)) ?_ ?_
    · rintro i x H3x H3 hi ⟨e4, us, hU, hUs⟩ ⟨rfl, hx⟩
      obtain ⟨ti, hti, hri⟩ := (hA2.mono (Tups.of e4)).get hx
      have hd1 := depths_get (ts := as) hti
      have hs1 := sizes_get (ts := as) hti
      refine ⟨rfl, yesI ⟨_, rfl, _, rfl, x, ti, d, g, rfl, hri, oks_get hO2.2.2.2 hti, ?_, ?_, hTab2.mono e4, fun u H4 e5 hu => ?_⟩⟩
      · show size ti ≤ 1000
        have : (Tm.comp f as).args = as := rfl
        rw [this] at hst
        omega
      · show depth ti ≤ n
        have : (Tm.comp f as).args = as := rfl
        rw [this] at hdt
        omega
      · have hU4 := e5 D _ hU
        have hl2 := hUs.len
        rw [subs_len, List.length_take] at hl2
        refine ⟨us, hU4, small5' (by omega), Ex.mut (e4.trans e5) hD, us ++ [u], upd_same, ?_⟩
        rw [take_snoc hti, subs_app, subs_one]
        have t6 : Tups K H4 (upd H4 D (.lst (us ++ [u]))) := Tups.lst hU4
        exact Reps.app ((hUs.mono (Tups.of e5)).mono t6) (Reps.one (hu.mono t6))
    · rintro H3 ⟨e4, us, hU, hUs⟩
      rw [← hlen, List.take_of_length_le (Nat.le_refl _)] at hUs
      have hl2 := hUs.len
      rw [subs_len] at hl2
      refine ⟨D, us, rfl, .inl ⟨SqL.of hU, fun q2 hq2 => ?_⟩⟩
      have e5 := Ex.new (o := HO.tup us) hq2
      refine ⟨tp, q2, [.str f], us, rfl, rfl, Evl.ex_t e5 (Evl.ex_t e4 hT2), SqT.of upd_same, by simp, small5 (by simp; omega), fun z => ?_, fun _ p3 hp3 => ?_⟩
      · rw [z, List.length_nil] at hl2
        omega
      · have e6 := Ex.new (o := HO.tup ([V.str f] ++ us)) hp3
        refine q (.ref p3) _ (((e12.trans e4).trans e5).trans e6) ?_
        unfold sub Rep
        exact ⟨p3, us, rfl, SqT.of upd_same, (hUs.mono (Tups.of e5)).mono (Tups.of e6)⟩
theorem ok_law_put (T : Tx K mg) : ∀ n : Nat, FnOk P w K mg base CX0 (n + 2) T.f_law_put T.d_law_put ["_law_term_here", "_law_table"] (spLPut K n)
  | 0 => by
    have no : ∀ vs H Q E, ¬ spLPut K 0 vs H Q E := fun vs H Q E ⟨v, t, _, _, _, _, _, _, h, _⟩ => by
      have := depth_pos t
      omega
    exact ⟨fun vs H Q E h => absurd h (no vs H Q E), fun A outer s H args us vs Q E _ _ _ _ h => absurd h (no vs H Q E)⟩
  | n + 1 => put_step T n (ok_law_put T n)
end
end Hm

set_option Elab.async false
set_option linter.all false
set_option maxRecDepth 100000
set_option maxHeartbeats 1000000
namespace Hm
open PySem PySem.Spec PyProof.Rows L2 HT
open Evl (Ex)
section
variable {P : Program} {w : World} {K : PySem.W.Frag} {mg : Str → Option Value} {base : Heap}
theorem Paired.snoc {α β : Type} {F : α → β → Prop} : ∀ {l1 : List α} {l2 : List β} {a : α} {b : β}, PySem.Paired F l1 l2 → F a b → PySem.Paired F (l1 ++ [a]) (l2 ++ [b])
  | _, _, _, _, .nil, h => .cons h .nil
  | _, _, _, _, .cons r t, h => .cons r (Paired.snoc t h)
/-! ### head_of -/
def spHead (K : PySem.W.Frag) : Sp := fun vs H Q _ => ∃ v t, vs = [v] ∧ Rep K H t v ∧ Ok t ∧ ∀ p, H p = none → Q (.ref p) (upd H p (.tup (hdV t)))
theorem ok_head_of (T : Tx K mg) : FnOk P w K mg base CX0 2 T.f_head_of T.d_head_of ["part"] (spHead K) := by
  refine T.h_head_of.F.ok sc_head_of (fun vs H Q E h => ?_) (fun cdv A outer s H vs Q E hr h => ?_)
  · obtain ⟨v, t, rfl, _⟩ := h
    rfl
  obtain ⟨v, t, rfl, hR, hO, q⟩ := h
  obtain ⟨t0, hc_VARIABLE⟩ := T.c_VARIABLE
  obtain ⟨t1, hc_INTEGER⟩ := T.c_INTEGER
  obtain ⟨t2, hc_ATOM⟩ := T.c_ATOM
  obtain ⟨t3, hc_COMPOUND⟩ := T.c_COMPOUND
  refine ⟨_, (pss_cons (ps_if (pt_val (pe_callB call_isi rfl T.b_isinstance (by decide +kernel) (pa_cons (pv 0) (pa_cons (pe_bltn (v := .ty "str") (u := .type "str") rfl T.b_str (by decide +kernel) rfl) pa_nil))))
      (pss_one (ps_ret (pe_tup (pa_cons (pe_glob (v := .int 2) rfl hc_ATOM ⟨_, rfl⟩) (pa_cons (pv 0) pa_nil)))))
      pss_nil)
    (pss_cons (ps_if (pt_not (pt_val (pe_callB call_isi rfl T.b_isinstance (by decide +kernel) (pa_cons (pv 0) (pa_cons (pe_bltn (v := .ty "tuple") (u := .type "tuple") rfl T.b_tuple (by decide +kernel) rfl) pa_nil)))))
      (pss_one (ps_ret (pe_tup (pa_cons (pe_glob (v := .int 1) rfl hc_INTEGER ⟨_, rfl⟩) (pa_cons (pv 0) pa_nil)))))
      pss_nil)
    (pss_cons (ps_if (pt_val (cl (ok_is_variable T) T.h_is_variable hr (pa_cons (pv 0) pa_nil)))
      (pss_one (ps_ret (pe_tup (pa_cons (pe_glob (v := .int 0) rfl hc_VARIABLE ⟨_, rfl⟩) (pa_cons (pe_ix ix_tup (pv 0) pe_int (fun _ _ => rfl)) pa_nil)))))
      pss_nil)
    (pss_one (ps_ret (pe_tup (pa_cons (pe_glob (v := .int 3) rfl hc_COMPOUND ⟨_, rfl⟩) (pa_cons (pe_op op_sub (pe_callB call_len_seq rfl T.b_len (by decide +kernel) (pa_cons (pv 0) pa_nil)) pe_int) (pa_cons (pe_ix ix_tup (pv 0) pe_int (fun _ _ => rfl)) pa_nil))))))))), ?_⟩
  cases t with
  | var k =>
    have hR0 := hR
    unfold Rep at hR
    obtain ⟨a, rfl, hT⟩ := hR
    refine ⟨_, rfl, _, _, _, _, false, rfl, .ty "str", tyx_tup hT, kit_ty (by decide +kernel), false, rfl, iteF ?_⟩
    refine ⟨_, rfl, _, _, _, _, true, rfl, .ty "tuple", tyx_tup hT, kit_ty (by decide +kernel), true, rfl, iteF ?_⟩
    refine ⟨_, rfl, _, .var k, rfl, hR0, hO, true, rfl, iteT ?_⟩
    exact ⟨_, rfl, a, _, 0, _, rfl, rfl, hT, at0, (by show 2 ≤ sizeLine; decide), fun p hp => q p hp⟩
  | int i =>
    unfold Rep at hR
    subst hR
    refine ⟨_, rfl, _, _, _, _, false, rfl, .ty "str", .base (.int i), kit_ty (by decide +kernel), false, rfl, iteF ?_⟩
    refine ⟨_, rfl, _, _, _, _, false, rfl, .ty "tuple", .base (.int i), kit_ty (by decide +kernel), false, rfl, iteT ?_⟩
    exact ⟨_, rfl, (by show 2 ≤ sizeLine; decide), fun p hp => q p hp⟩
  | atom z =>
    unfold Rep at hR
    subst hR
    refine ⟨_, rfl, _, _, _, _, true, rfl, .ty "str", .base (.str z), kit_ty (by decide +kernel), true, rfl, iteT ?_⟩
    exact ⟨_, rfl, (by show 2 ≤ sizeLine; decide), fun p hp => q p hp⟩
  | comp f as =>
    have hR0 := hR
    unfold Rep at hR
    obtain ⟨a, ws, rfl, hT, hA⟩ := hR
    have hl := hA.len
    refine ⟨_, rfl, _, _, _, _, false, rfl, .ty "str", tyx_tup hT, kit_ty (by decide +kernel), false, rfl, iteF ?_⟩
    refine ⟨_, rfl, _, _, _, _, true, rfl, .ty "tuple", tyx_tup hT, kit_ty (by decide +kernel), true, rfl, iteF ?_⟩
    refine ⟨_, rfl, _, .comp f as, rfl, hR0, hO, false, rfl, iteF ?_⟩
    refine ⟨_, rfl, a, _, rfl, .inr hT, _, _, rfl, rfl, _, rfl, a, _, 0, _, rfl, rfl, hT, at0, (by show 3 ≤ sizeLine; decide), fun p hp => ?_⟩
    have e : (((V.str f :: ws).length : Nat) : Int) - 1 = (as.length : Int) := by
      rw [List.length_cons]
      omega
    have r := q p hp
    show Q (.ref p) (upd H p (.tup [.int 3, .int ((((V.str f :: ws).length : Nat) : Int) - 1), .str f]))
    rw [e]
    exact r
/-! ### order_key -/
theorem ok_order_key (T : Tx K mg) : FnOk P w K mg base CX0 4 T.f_order_key T.d_order_key ["term"] (spKey K) := by
  refine T.h_order_key.F.ok sc_order_key (fun vs H Q E h => ?_) (fun cdv A outer s H vs Q E hr h => ?_)
  · obtain ⟨v, t, rfl, _⟩ := h
    rfl
  obtain ⟨v, t, rfl, hR, hO, hz, q⟩ := h
  refine ⟨_, (pss_one (ps_ret (pe_lc (own := [("part", 1)]) (g := gName 1) rfl sc_order_key.nd (pi_list (cl (ok_parts_of T) T.h_parts_of hr (pa_cons (pv 0) pa_nil))) (blkOk_by (own := [("part", 1)]) (N := ["term", "part"]) (sc := defScope s_order_key) (by decide +kernel)) (fun _ _ _ _ _ => pg_name (i := 1) sc_order_key.nd rfl (Or.inl rfl)) (fun _ _ _ _ _ => pts_nil) (fun _ _ _ _ _ => (cl (ok_head_of T) T.h_head_of hr (pa_cons (pv 1) pa_nil)))))), ?_⟩
  refine ⟨_, rfl, v, t, rfl, hR, hz, fun l ps H1 hl e1 hL hP => ?_⟩
  have hlen := hP.len
  rw [len_pre] at hlen
  refine ⟨l, rfl, ⟨ps, SqL.of hL⟩, fun D hD => ?_⟩
  have e2 := Ex.new (o := HO.lst []) hD
  have hfree : H D = none := by
    cases hz2 : H D with
    | none => rfl
    | some o =>
      have := e1 _ _ hz2
      rw [hD] at this
      cases this
  refine lc_it walk_list (fun i H' => Ex H1 H' ∧ ∃ us, H' D = some (.lst us) ∧ PySem.Paired (HdAt K H') us ((pre t).take i)) ⟨e2, [], upd_same, .nil⟩ (fun i H' _ h => SqL.of (h.1 l _ hL)) ?_ ?_
  · rintro i x H3x H3 hi ⟨e4, us, hU, hUs⟩ ⟨rfl, hx⟩
    obtain ⟨ti, hti, hri⟩ := (hP.mono (Tups.of e4)).get hx
    have hs : i < size t := by
      rw [← len_pre]
      exact (List.getElem?_eq_some_iff.mp hti).1
    refine ⟨rfl, yesI ⟨_, rfl, x, ti, rfl, hri, oks_get (ok_pre hO) hti, fun p hp => ?_⟩⟩
    have e5 := Ex.new (o := HO.tup (hdV ti)) hp
    have hU4 := e5 D _ hU
    have hl2 := Paired.length hUs
    rw [List.length_take] at hl2
    have t6 : Tups K (upd H3 p (.tup (hdV ti))) (upd (upd H3 p (.tup (hdV ti))) D (.lst (us ++ [V.ref p]))) := Tups.lst hU4
    refine ⟨us, hU4, small5' (by omega), Ex.mut (e4.trans e5) hD, us ++ [.ref p], upd_same, ?_⟩
    rw [take_snoc hti]
    exact Paired.snoc (Paired.mapP hUs fun w t ⟨q2, a, b⟩ => ⟨q2, a, t6 _ _ (Evl.ex_t e5 b)⟩) ⟨p, rfl, t6 _ _ (SqT.of upd_same)⟩
  · rintro H3 ⟨e4, us, hU, hUs⟩
    rw [← hlen, List.take_of_length_le (by rw [len_pre]; exact Nat.le_refl _)] at hUs
    exact q D H3 hfree (e1.trans e4) ⟨us, hU, hUs⟩
/-! ### two rules for keys -/
theorem eqv_keys : ∀ ts us : List Tm, PyData.eqv (.list (ts.map hdD)) (.list (us.map hdD)) = decide (kC (ts.map hcode) (us.map hcode) = 0)
  | [], [] => rfl
  | [], _ :: _ => rfl
  | _ :: _, [] => rfl
  | t :: ts, u :: us => by
    have ih := eqv_keys ts us
    show (PyData.eqv (hdD t) (hdD u) && PyData.eqv (.list (ts.map hdD)) (.list (us.map hdD))) = decide (lexC hC (hcode t :: ts.map hcode) (hcode u :: us.map hcode) = 0)
    rw [ih, eqv_hd, lexC_cons]
    by_cases e : hC (hcode t) (hcode u) = 0
    · rw [if_pos e, decide_eq_true e, Bool.true_and]
    · rw [if_neg e, decide_eq_false e, Bool.false_and]
theorem keys_lay : ∀ ts : List Tm, Oks ts → PyData.canLayAll0 (ts.map hdD) = true
  | [], _ => rfl
  | t :: ts, h => by
    rw [oks_cons] at h
    show ((hdD t).canLay0 && PyData.canLayAll0 (ts.map hdD)) = true
    rw [hd_lay t h.1, keys_lay ts h.2]
    rfl
theorem keys_dep : ∀ ts : List Tm, PyData.depthAll (ts.map hdD) ≤ 1
  | [] => Nat.zero_le _
  | t :: ts => by
    show max (hdD t).depth (PyData.depthAll (ts.map hdD)) ≤ 1
    rw [hd_depth]
    have := keys_dep ts
    omega
theorem keys_shaped {ts : List Tm} (h : Oks ts) : SeqAt.shaped (.list (ts.map hdD)) = true := by
  show (PyData.canLayAll0 (ts.map hdD) && decide (PyData.depthAll (ts.map hdD) + 1 ≤ 64)) = true
  have := keys_dep ts
  rw [keys_lay ts h, decide_eq_true (by omega)]
  rfl
end
end Hm

set_option Elab.async false
set_option linter.all false
set_option maxRecDepth 100000
set_option maxHeartbeats 1000000
namespace Hm
open PySem PySem.Spec PyProof.Rows L2 HT
open Evl (Ex)
/-! ## mathematics of renaming -/
/-- a table that gives a variable for each variable -/
def vg (f : Int → Int) (k : Int) : Tm := .var (f k)
mutual
theorem size_vg (f : Int → Int) : ∀ t : Tm, size (sub (vg f) t) = size t
  | .var _ => rfl
  | .int _ => rfl
  | .atom _ => rfl
  | .comp g as => by
    unfold sub size
    rw [sizes_vg f as]
theorem sizes_vg (f : Int → Int) : ∀ ts : List Tm, sizes (subs (vg f) ts) = sizes ts
  | [] => rfl
  | t :: ts => by
    unfold subs
    rw [sizes_cons, sizes_cons, size_vg f t, sizes_vg f ts]
end
mutual
theorem depth_vg (f : Int → Int) : ∀ t : Tm, depth (sub (vg f) t) = depth t
  | .var _ => rfl
  | .int _ => rfl
  | .atom _ => rfl
  | .comp g as => by
    unfold sub depth
    rw [depths_vg f as]
theorem depths_vg (f : Int → Int) : ∀ ts : List Tm, depths (subs (vg f) ts) = depths ts
  | [] => rfl
  | t :: ts => by
    unfold subs
    rw [depths_cons, depths_cons, depth_vg f t, depths_vg f ts]
end
mutual
theorem ok_vg {f : Int → Int} {m : Int} (hf : ∀ k, 0 ≤ k → k < m → 0 ≤ f k) : ∀ t : Tm, Ok t → Vlt m t → Ok (sub (vg f) t)
  | .var k, h, h2 => by
    unfold Ok at h
    unfold Vlt at h2
    unfold sub vg Ok
    exact hf k h h2
  | .int _, h, _ => h
  | .atom _, h, _ => h
  | .comp g as, h, h2 => by
    unfold Ok at h
    unfold Vlt at h2
    unfold sub Ok
    rw [subs_len]
    exact ⟨h.1, h.2.1, h.2.2.1, oks_vg hf as h.2.2.2 h2⟩
theorem oks_vg {f : Int → Int} {m : Int} (hf : ∀ k, 0 ≤ k → k < m → 0 ≤ f k) : ∀ ts : List Tm, Oks ts → Vlts m ts → Oks (subs (vg f) ts)
  | [], _, _ => trivial
  | t :: ts, h, h2 => by
    rw [oks_cons] at h
    unfold Vlts at h2
    unfold subs
    rw [oks_cons]
    exact ⟨ok_vg hf t h.1 h2.1, oks_vg hf ts h.2 h2.2⟩
end
/-- the variables of a term in a row, each as often as it stands -/
def vOne : Tm → List Int
  | .var k => [k]
  | _ => []
def vSeq (t : Tm) : List Int := (pre t).flatMap vOne
theorem fold_flat : ∀ (ts : List Tm) (acc : List Int), ts.foldl stepVar acc = (ts.flatMap vOne).foldl addNew acc
  | [], _ => rfl
  | t :: ts, acc => by
    rw [List.foldl_cons, List.flatMap_cons, List.foldl_append, fold_flat ts]
    cases t <;> rfl
theorem varsOf_seq (t : Tm) : varsOf t = (vSeq t).foldl addNew [] := fold_flat _ _
mutual
theorem pre_vg (f : Int → Int) : ∀ t : Tm, (pre (sub (vg f) t)).flatMap vOne = ((pre t).flatMap vOne).map f
  | .var _ => rfl
  | .int _ => rfl
  | .atom _ => rfl
  | .comp g as => by
    unfold sub pre
    rw [List.flatMap_cons, List.flatMap_cons]
    show [] ++ _ = ([] ++ _).map f
    rw [List.nil_append, List.nil_append]
    exact pres_vg f as
theorem pres_vg (f : Int → Int) : ∀ ts : List Tm, (pres (subs (vg f) ts)).flatMap vOne = ((pres ts).flatMap vOne).map f
  | [] => rfl
  | t :: ts => by
    unfold subs
    rw [pres_cons, pres_cons, List.flatMap_append, List.flatMap_append, pre_vg f t, pres_vg f ts, List.map_append]
end
theorem vSeq_vg (f : Int → Int) (t : Tm) : vSeq (sub (vg f) t) = (vSeq t).map f := pre_vg f t
theorem mem_addNew {acc : List Int} {k j : Int} : j ∈ addNew acc k ↔ j ∈ acc ∨ j = k := by
  unfold addNew
  split
  · constructor
    · exact .inl
    · rintro (h | h)
      · exact h
      · subst h; assumption
  · simp
theorem mem_fold : ∀ (ks acc : List Int) (j : Int), j ∈ ks.foldl addNew acc ↔ j ∈ acc ∨ j ∈ ks
  | [], acc, j => by simp
  | k :: ks, acc, j => by
    rw [List.foldl_cons, mem_fold ks, mem_addNew, List.mem_cons]
    constructor
    · rintro ((h | h) | h)
      · exact .inl h
      · exact .inr (.inl h)
      · exact .inr (.inr h)
    · rintro (h | h | h)
      · exact .inl (.inl h)
      · exact .inl (.inr h)
      · exact .inr h
theorem fold_map (f : Int → Int) (S : List Int) (hf : ∀ a ∈ S, ∀ b ∈ S, f a = f b → a = b) : ∀ (ks acc : List Int), (∀ k ∈ ks, k ∈ S) → (∀ k ∈ acc, k ∈ S) → (ks.map f).foldl addNew (acc.map f) = (ks.foldl addNew acc).map f
  | [], _, _, _ => rfl
  | k :: ks, acc, h1, h2 => by
    have hk := h1 k List.mem_cons_self
    have e : addNew (acc.map f) (f k) = (addNew acc k).map f := by
      unfold addNew
      by_cases m : k ∈ acc
      · rw [if_pos m, if_pos (List.mem_map_of_mem m)]
      · rw [if_neg m, if_neg]
        · rw [List.map_append]
          rfl
        · intro z
          obtain ⟨j, hj, he⟩ := List.mem_map.mp z
          exact m (hf j (h2 j hj) k hk he ▸ hj)
    rw [List.map_cons, List.foldl_cons, List.foldl_cons, e]
    exact fold_map f S hf ks _ (fun j hj => h1 j (List.mem_cons_of_mem _ hj)) fun j hj => by
      rcases mem_addNew.mp hj with h | h
      · exact h2 j h
      · exact h ▸ hk
/-- what renumbering does to a number -/
def rf (xs : List Int) (k : Int) : Int := if k ∈ xs then ((xs.idxOf k : Nat) : Int) else k
theorem rg_vg (xs : List Int) : rg xs = vg (rf xs) := by
  funext k
  unfold rg vg rf
  split <;> rfl
theorem renum_vg (t : Tm) : renum t = sub (vg (rf (varsOf t))) t := by
  unfold renum
  rw [rg_vg]
theorem rf_nat {xs : List Int} {k : Int} (h : 0 ≤ k) : 0 ≤ rf xs k := by
  unfold rf
  split
  · exact Int.natCast_nonneg _
  · exact h
mutual
theorem ok_renum' {f : Int → Int} (hf : ∀ k, 0 ≤ k → 0 ≤ f k) : ∀ t : Tm, Ok t → Ok (sub (vg f) t)
  | .var k, h => by
    unfold Ok at h
    unfold sub vg Ok
    exact hf k h
  | .int _, h => h
  | .atom _, h => h
  | .comp g as, h => by
    unfold Ok at h
    unfold sub Ok
    rw [subs_len]
    exact ⟨h.1, h.2.1, h.2.2.1, oks_renum' hf as h.2.2.2⟩
theorem oks_renum' {f : Int → Int} (hf : ∀ k, 0 ≤ k → 0 ≤ f k) : ∀ ts : List Tm, Oks ts → Oks (subs (vg f) ts)
  | [], _ => trivial
  | t :: ts, h => by
    rw [oks_cons] at h
    unfold subs
    rw [oks_cons]
    exact ⟨ok_renum' hf t h.1, oks_renum' hf ts h.2⟩
end
theorem ok_renum {t : Tm} (h : Ok t) : Ok (renum t) := by
  rw [renum_vg]
  exact ok_renum' (fun k hk => rf_nat hk) t h
mutual
theorem sub_id {f : Int → Int} : ∀ t : Tm, (∀ k ∈ (pre t).flatMap vOne, f k = k) → sub (vg f) t = t
  | .var k, h => by
    unfold sub vg
    rw [h k (by simp [pre, vOne])]
  | .int _, _ => rfl
  | .atom _, _ => rfl
  | .comp g as, h => by
    unfold sub
    rw [subs_id as fun k hk => h k (by unfold pre; rw [List.flatMap_cons]; exact List.mem_append_right _ hk)]
theorem subs_id {f : Int → Int} : ∀ ts : List Tm, (∀ k ∈ (pres ts).flatMap vOne, f k = k) → subs (vg f) ts = ts
  | [], _ => rfl
  | t :: ts, h => by
    rw [pres_cons, List.flatMap_append] at h
    unfold subs
    rw [sub_id t fun k hk => h k (List.mem_append_left _ hk), subs_id ts fun k hk => h k (List.mem_append_right _ hk)]
end
theorem varsOf_mem {t : Tm} {k : Int} (h : k ∈ vSeq t) : k ∈ varsOf t := by
  rw [varsOf_seq]
  exact (mem_fold _ _ _).mpr (.inr h)
theorem mem_varsOf {t : Tm} {k : Int} (h : k ∈ varsOf t) : k ∈ vSeq t := by
  rw [varsOf_seq] at h
  rcases (mem_fold _ _ _).mp h with h | h
  · cases h
  · exact h
theorem rf_inj {xs : List Int} : ∀ a ∈ xs, ∀ b ∈ xs, rf xs a = rf xs b → a = b := fun a ha b hb e => by
  unfold rf at e
  rw [if_pos ha, if_pos hb] at e
  have e2 : xs.idxOf a = xs.idxOf b := by omega
  have h1 := List.getElem_idxOf (List.idxOf_lt_length_of_mem ha)
  have h2 := List.getElem_idxOf (List.idxOf_lt_length_of_mem hb)
  rw [← h1, ← h2]
  congr 1
theorem map_rf {xs : List Int} (hn : xs.Nodup) : xs.map (rf xs) = (List.range xs.length).map fun i => ((i : Nat) : Int) := by
  apply List.ext_getElem?
  intro i
  rw [List.getElem?_map, List.getElem?_map]
  by_cases hi : i < xs.length
  · rw [List.getElem?_eq_getElem hi, List.getElem?_range hi]
    show some (rf xs xs[i]) = some ((i : Nat) : Int)
    unfold rf
    rw [if_pos (List.getElem_mem hi), idx_at hn (List.getElem?_eq_getElem hi)]
  · rw [List.getElem?_eq_none (by omega), List.getElem?_eq_none (by rw [List.length_range]; omega)]
    rfl
theorem renum_renum (t : Tm) : renum (renum t) = renum t := by
  have hn := varsOf_nodup t
  have e1 : varsOf (renum t) = (List.range (varsOf t).length).map fun i => ((i : Nat) : Int) := by
    rw [renum_vg, varsOf_seq, vSeq_vg]
    have := fold_map (rf (varsOf t)) (varsOf t) rf_inj (vSeq t) [] (fun k hk => varsOf_mem hk) (fun k hk => by cases hk)
    rw [List.map_nil] at this
    rw [this, ← varsOf_seq, map_rf hn]
  rw [renum_vg (renum t)]
  refine sub_id _ fun k hk => ?_
  have hk2 : k ∈ varsOf (renum t) := varsOf_mem hk
  have hn2 := varsOf_nodup (renum t)
  rw [e1] at hk2 hn2
  rw [e1]
  unfold rf
  rw [if_pos hk2]
  obtain ⟨i, hi, e⟩ := List.mem_map.mp hk2
  have hi2 : i < (varsOf t).length := List.mem_range.mp hi
  have : ((List.range (varsOf t).length).map fun i => ((i : Nat) : Int))[i]? = some k := by
    rw [List.getElem?_map, List.getElem?_range hi2]
    exact congrArg some e
  rw [idx_at hn2 this]
  exact e
theorem size_renum (t : Tm) : size (renum t) = size t := by
  rw [renum_vg, size_vg]
theorem depth_renum (t : Tm) : depth (renum t) = depth t := by
  rw [renum_vg, depth_vg]
end Hm

set_option Elab.async false
set_option linter.all false
set_option maxRecDepth 100000
set_option maxHeartbeats 1000000
namespace Hm
open PySem PySem.Spec PyProof.Rows L2 HT
/-! ## matching: a table of what variables must be -/
abbrev Tb := List (Int × Tm)
def Sat (T : Tb) (g : Int → Tm) : Prop := ∀ p ∈ T, g p.1 = p.2
def Fits (W : List (Tm × Tm)) (g : Int → Tm) : Prop := ∀ p ∈ W, sub g p.1 = p.2
theorem sat_nil {g : Int → Tm} : Sat [] g := fun p h => by cases h
theorem sat_snoc {T : Tb} {k : Int} {t : Tm} {g : Int → Tm} : Sat (T ++ [(k, t)]) g ↔ Sat T g ∧ g k = t := by
  unfold Sat
  constructor
  · exact fun h => ⟨fun p hp => h p (List.mem_append_left _ hp), h (k, t) (by simp)⟩
  · rintro ⟨h1, h2⟩ p hp
    rcases List.mem_append.mp hp with hp | hp
    · exact h1 p hp
    · rw [List.mem_singleton.mp hp]
      exact h2
theorem fits_nil {g : Int → Tm} : Fits [] g := fun p h => by cases h
theorem fits_app {A B : List (Tm × Tm)} {g : Int → Tm} : Fits (A ++ B) g ↔ Fits A g ∧ Fits B g := by
  unfold Fits
  constructor
  · exact fun h => ⟨fun p hp => h p (List.mem_append_left _ hp), fun p hp => h p (List.mem_append_right _ hp)⟩
  · rintro ⟨h1, h2⟩ p hp
    rcases List.mem_append.mp hp with hp | hp
    · exact h1 p hp
    · exact h2 p hp
theorem fits_one {s t : Tm} {g : Int → Tm} : Fits [(s, t)] g ↔ sub g s = t := by
  unfold Fits
  constructor
  · exact fun h => h (s, t) (by simp)
  · intro h p hp
    rw [List.mem_singleton.mp hp]
    exact h
theorem sub_var (g : Int → Tm) (k : Int) : sub g (.var k) = g k := by unfold sub; rfl
theorem sub_comp (g : Int → Tm) (f : Str) (as : List Tm) : sub g (.comp f as) = .comp f (subs g as) := by
  conv => lhs; unfold sub
theorem subs_cons (g : Int → Tm) (t : Tm) (ts : List Tm) : subs g (t :: ts) = sub g t :: subs g ts := by
  conv => lhs; unfold subs
theorem subs_fits (g : Int → Tm) : ∀ {as bs : List Tm}, as.length = bs.length → (subs g as = bs ↔ Fits (as.zip bs) g)
  | [], [], _ => ⟨fun _ => fits_nil, fun _ => by unfold subs; rfl⟩
  | [], _ :: _, h => by simp at h
  | _ :: _, [], h => by simp at h
  | a :: as, b :: bs, h => by
    have ih := subs_fits g (as := as) (bs := bs) (by simpa using h)
    rw [subs_cons, List.zip_cons_cons, show (a, b) :: as.zip bs = [(a, b)] ++ as.zip bs from rfl, fits_app, fits_one, ← ih]
    constructor
    · intro e
      injection e with e1 e2
      exact ⟨e1, e2⟩
    · rintro ⟨e1, e2⟩
      rw [e1, e2]
theorem comp_fits (g : Int → Tm) (f : Str) {as bs : List Tm} (h : as.length = bs.length) : sub g (.comp f as) = .comp f bs ↔ Fits (as.zip bs) g := by
  rw [sub_comp, ← subs_fits g h]
  constructor
  · intro e
    injection e
  · intro e
    rw [e]
theorem comp_len {g : Int → Tm} {f h : Str} {as bs : List Tm} (e : sub g (.comp f as) = .comp h bs) : f = h ∧ as.length = bs.length := by
  rw [sub_comp] at e
  injection e with e1 e2
  exact ⟨e1, by rw [← e2, subs_len]⟩
/-- a table as a function; what it has nothing of is as d says -/
def mk (T : Tb) (d : Int → Tm) (k : Int) : Tm := match T.find? (fun p => p.1 == k) with
  | some p => p.2
  | none => d k
theorem mk_at {T : Tb} {d : Int → Tm} {k : Int} {t : Tm} (h : (k, t) ∈ T) (n : (T.map (·.1)).Nodup) : mk T d k = t := by
  unfold mk
  induction T with
  | nil => cases h
  | cons p T ih =>
    rw [List.map_cons, List.nodup_cons] at n
    rw [List.find?_cons]
    by_cases e : p.1 = k
    · rw [e, beq_self_eq_true]
      rcases List.mem_cons.mp h with h | h
      · rw [← h]
      · exact absurd (List.mem_map_of_mem (f := (·.1)) h) (by rw [← e]; exact n.1)
    · rw [beq_false_of_ne e]
      rcases List.mem_cons.mp h with h | h
      · rw [← h] at e
        exact absurd rfl e
      · exact ih h n.2
theorem mk_off {T : Tb} {d : Int → Tm} {k : Int} (h : k ∉ T.map (·.1)) : mk T d k = d k := by
  unfold mk
  have : T.find? (fun p => p.1 == k) = none := by
    rw [List.find?_eq_none]
    intro p hp e
    exact h (by rw [← eq_of_beq e]; exact List.mem_map_of_mem (f := (·.1)) hp)
  rw [this]
theorem mk_sat {T : Tb} {d : Int → Tm} (n : (T.map (·.1)).Nodup) : Sat T (mk T d) := fun p hp => mk_at (t := p.2) hp n
theorem sat_mem {T U : Tb} (n : (U.map (·.1)).Nodup) (h : ∀ g, Sat U g → Sat T g) : ∀ p ∈ T, p ∈ U := by
  rintro ⟨k, t⟩ hp
  have e : ∀ d, mk U d k = t := fun d => h _ (mk_sat n) (k, t) hp
  by_cases hk : k ∈ U.map (·.1)
  · obtain ⟨⟨k', t'⟩, hq, ek⟩ := List.mem_map.mp hk
    have ek : k' = k := ek
    subst ek
    have := e (fun _ => .int 0)
    rw [mk_at hq n] at this
    rw [← this]
    exact hq
  · have e1 := e (fun _ => .int 0)
    have e2 := e (fun _ => .int 1)
    rw [mk_off hk] at e1 e2
    rw [← e1] at e2
    cases e2
theorem keys_nodup {T : Tb} (n : (T.map (·.1)).Nodup) : T.Nodup := by
  unfold List.Nodup at n ⊢
  rw [List.pairwise_map] at n
  exact n.imp fun {a b} h e => h (by rw [e])
theorem sat_uniq {T U : Tb} (n1 : (T.map (·.1)).Nodup) (n2 : (U.map (·.1)).Nodup) (h : ∀ g, Sat T g ↔ Sat U g) : T.Perm U :=
  (List.perm_ext_iff_of_nodup (keys_nodup n1) (keys_nodup n2)).mpr fun p => ⟨sat_mem n2 (fun g => (h g).mpr) p, sat_mem n1 (fun g => (h g).mp) p⟩
/-- tables in rising order -/
def Rise (T : Tb) : Prop := T.Pairwise fun x y => x.1 ≤ y.1
theorem rise_uniq {T U : Tb} (n1 : (T.map (·.1)).Nodup) (r1 : Rise T) (r2 : Rise U) (p : T.Perm U) : T = U := by
  refine List.Perm.eq_of_pairwise (le := fun x y : Int × Tm => x.1 ≤ y.1) (fun a b ha hb h1 h2 => ?_) r1 r2 p
  have hb' := p.mem_iff.mpr hb
  have e : a.1 = b.1 := by omega
  have m1 := mk_at (d := fun _ => .int 0) (k := a.1) (t := a.2) ha n1
  have m2 := mk_at (d := fun _ => .int 0) (k := b.1) (t := b.2) hb' n1
  rw [e, m2] at m1
  exact Prod.ext e m1.symm
/-- two rising tables for the same -/
theorem due_uniq {T U : Tb} {s t : Tm} (n1 : (T.map (·.1)).Nodup) (n2 : (U.map (·.1)).Nodup) (r1 : Rise T) (r2 : Rise U) (h1 : ∀ g, sub g s = t ↔ Sat T g) (h2 : ∀ g, sub g s = t ↔ Sat U g) : T = U :=
  rise_uniq n1 r1 r2 (sat_uniq n1 n2 fun g => (h1 g).symm.trans (h2 g))
/-- what matching tells -/
def Told (s t : Tm) : Option Tb → Prop
  | none => ∀ g, sub g s ≠ t
  | some T => (T.map (·.1)).Nodup ∧ Rise T ∧ ∀ g, sub g s = t ↔ Sat T g
theorem told_uniq {s t : Tm} : ∀ {a b : Option Tb}, Told s t a → Told s t b → a = b
  | none, none, _, _ => rfl
  | none, some T, h, ⟨n, _, k⟩ => absurd ((k _).mpr (mk_sat (d := fun _ => .int 0) n)) (h _)
  | some T, none, ⟨n, _, k⟩, h => absurd ((k _).mpr (mk_sat (d := fun _ => .int 0) n)) (h _)
  | some T, some U, ⟨n1, r1, k1⟩, ⟨n2, r2, k2⟩ => congrArg some (due_uniq n1 n2 r1 r2 k1 k2)
theorem told_some {s t : Tm} {a : Option Tb} (h : Told s t a) : a.isSome = true ↔ ∃ g, sub g s = t := by
  match a, h with
  | none, h => exact ⟨(fun z => absurd z (by simp)), fun ⟨g, e⟩ => absurd e (h g)⟩
  | some T, ⟨n, _, k⟩ => exact ⟨fun _ => ⟨_, (k _).mpr (mk_sat (d := fun _ => .int 0) n)⟩, fun _ => rfl⟩
/-! ## variables that matter -/
mutual
theorem sub_agree {g h : Int → Tm} : ∀ t : Tm, sub g t = sub h t ↔ ∀ k ∈ (pre t).flatMap vOne, g k = h k
  | .var k => by
    rw [sub_var, sub_var]
    constructor
    · intro e j hj
      have : j = k := by simpa [pre, vOne] using hj
      rw [this]
      exact e
    · exact fun e => e k (by simp [pre, vOne])
  | .int i => ⟨fun _ k hk => by simp [pre, vOne] at hk, fun _ => by unfold sub; rfl⟩
  | .atom i => ⟨fun _ k hk => by simp [pre, vOne] at hk, fun _ => by unfold sub; rfl⟩
  | .comp f as => by
    rw [sub_comp, sub_comp]
    unfold pre
    rw [List.flatMap_cons]
    show _ ↔ ∀ k ∈ [] ++ _, _
    rw [List.nil_append, ← subs_agree as]
    constructor
    · intro e
      injection e
    · intro e
      rw [e]
theorem subs_agree {g h : Int → Tm} : ∀ ts : List Tm, subs g ts = subs h ts ↔ ∀ k ∈ (pres ts).flatMap vOne, g k = h k
  | [] => ⟨fun _ k hk => by simp [pres] at hk, fun _ => by unfold subs; rfl⟩
  | t :: ts => by
    rw [subs_cons, subs_cons, pres_cons, List.flatMap_append]
    constructor
    · intro e k hk
      injection e with e1 e2
      rcases List.mem_append.mp hk with hk | hk
      · exact (sub_agree t).mp e1 k hk
      · exact (subs_agree ts).mp e2 k hk
    · intro e
      rw [(sub_agree t).mpr fun k hk => e k (List.mem_append_left _ hk), (subs_agree ts).mpr fun k hk => e k (List.mem_append_right _ hk)]
end
mutual
theorem sub_sub (g h : Int → Tm) : ∀ t : Tm, sub h (sub g t) = sub (fun k => sub h (g k)) t
  | .var k => by rw [sub_var, sub_var]
  | .int i => by simp [sub]
  | .atom i => by simp [sub]
  | .comp f as => by rw [sub_comp, sub_comp, sub_comp, subs_subs g h as]
theorem subs_subs (g h : Int → Tm) : ∀ ts : List Tm, subs h (subs g ts) = subs (fun k => sub h (g k)) ts
  | [] => by simp [subs]
  | t :: ts => by rw [subs_cons, subs_cons, subs_cons, sub_sub g h t, subs_subs g h ts]
end
theorem sub_self (t : Tm) : sub (fun k => .var k) t = t := sub_id (f := fun k => k) t fun _ _ => rfl
theorem self_iff (t : Tm) (g : Int → Tm) : sub g t = t ↔ ∀ k ∈ varsOf t, g k = .var k := by
  have h := sub_agree (g := g) (h := fun k => .var k) t
  rw [sub_self] at h
  rw [h]
  exact ⟨fun e k hk => e k (mem_varsOf hk), fun e k hk => e k (varsOf_mem hk)⟩
/-- a term matched with itself -/
theorem self_told {t : Tm} {xs : List Int} (p : xs.Perm (varsOf t)) (r : xs.Pairwise (· ≤ ·)) : Told t t (some (xs.map fun k => (k, Tm.var k))) := by
  refine ⟨?_, ?_, fun g => ?_⟩
  · rw [List.map_map]
    have : (List.map ((fun x : Int × Tm => x.1) ∘ fun k => (k, Tm.var k)) xs) = xs := by
      conv => rhs; rw [← List.map_id xs]
      rfl
    rw [this]
    exact p.nodup_iff.mpr (varsOf_nodup t)
  · unfold Rise
    rw [List.pairwise_map]
    exact r
  · rw [self_iff]
    constructor
    · intro h q hq
      obtain ⟨k, hk, rfl⟩ := List.mem_map.mp hq
      exact h k (p.mem_iff.mp hk)
    · intro h k hk
      exact h (k, .var k) (List.mem_map.mpr ⟨k, p.mem_iff.mpr hk, rfl⟩)
/-! ## variants -/
theorem renum_back (t : Tm) : ∃ g, sub g (renum t) = t := by
  have hn := varsOf_nodup t
  refine ⟨vg fun i => (varsOf t).getD i.toNat 0, ?_⟩
  rw [renum_vg, sub_sub]
  refine Eq.trans ((sub_agree (h := fun k => .var k) t).mpr fun k hk => ?_) (sub_self t)
  have hm := varsOf_mem (t := t) hk
  show sub (vg _) (.var (rf (varsOf t) k)) = .var k
  rw [sub_var]
  unfold vg rf
  rw [if_pos hm]
  have hl := List.idxOf_lt_length_of_mem hm
  congr 1
  show (varsOf t).getD (((varsOf t).idxOf k : Nat) : Int).toNat 0 = k
  rw [Int.toNat_natCast, List.getD_eq_getElem?_getD, List.getElem?_eq_getElem hl]
  exact List.getElem_idxOf hl
theorem renum_eq {s : Tm} {f : Int → Int} (hf : ∀ a ∈ varsOf s, ∀ b ∈ varsOf s, f a = f b → a = b) : renum (sub (vg f) s) = renum s := by
  have e : varsOf (sub (vg f) s) = (varsOf s).map f := by
    rw [varsOf_seq, vSeq_vg, varsOf_seq]
    exact fold_map f (varsOf s) hf (vSeq s) [] (fun k hk => varsOf_mem hk) (fun k hk => by cases hk)
  rw [renum_vg, renum_vg, e, sub_sub]
  refine (sub_agree s).mpr fun k hk => ?_
  have hm := varsOf_mem (t := s) hk
  show sub (vg _) (.var (f k)) = vg _ k
  rw [sub_var]
  unfold vg rf
  rw [if_pos (List.mem_map_of_mem hm), if_pos hm]
  congr 1
  have hl := List.idxOf_lt_length_of_mem hm
  have h1 : ((varsOf s).map f)[(varsOf s).idxOf k]? = some (f k) := by
    rw [List.getElem?_map, List.getElem?_eq_getElem hl, List.getElem_idxOf hl]
    rfl
  have n2 : ((varsOf s).map f).Nodup := by
    unfold List.Nodup
    rw [List.pairwise_map]
    exact (varsOf_nodup s).imp_of_mem fun {a b} ha hb hne he => hne (hf a ha b hb he)
  rw [idx_at n2 h1]
theorem var_of {h : Int → Tm} {u : Tm} {k : Int} (e : sub h u = .var k) : ∃ j, u = .var j := by
  cases u with
  | var j => exact ⟨j, rfl⟩
  | int i => simp [sub] at e
  | atom i => simp [sub] at e
  | comp f as => simp [sub] at e
theorem variant_iff (s t : Tm) : renum s = renum t ↔ (∃ g, sub g s = t) ∧ ∃ h, sub h t = s := by
  constructor
  · intro e
    obtain ⟨a, ha⟩ := renum_back s
    obtain ⟨b, hb⟩ := renum_back t
    refine ⟨⟨fun k => sub b (rg (varsOf s) k), ?_⟩, ⟨fun k => sub a (rg (varsOf t) k), ?_⟩⟩
    · rw [← sub_sub]
      show sub b (renum s) = t
      rw [e, hb]
    · rw [← sub_sub]
      show sub a (renum t) = s
      rw [← e, ha]
  · rintro ⟨⟨g, hg⟩, h, hh⟩
    have h1 : ∀ k ∈ varsOf s, sub h (g k) = .var k := by
      rw [← self_iff, ← sub_sub, hg, hh]
    have h2 : ∀ k ∈ varsOf s, ∃ j, g k = .var j := fun k hk => var_of (h1 k hk)
    let f : Int → Int := fun k => match g k with
      | .var j => j
      | _ => 0
    have h3 : ∀ k ∈ varsOf s, g k = .var (f k) := fun k hk => by
      obtain ⟨j, e⟩ := h2 k hk
      show g k = .var (match g k with
        | .var j => j
        | _ => 0)
      rw [e]
    have h4 : sub (vg f) s = t := by
      rw [← hg]
      exact (sub_agree s).mpr fun k hk => (h3 k (varsOf_mem hk)).symm
    rw [← h4]
    refine (renum_eq fun a ha b hb e => ?_).symm
    have ea := h1 a ha
    have eb := h1 b hb
    rw [h3 a ha] at ea
    rw [h3 b hb, ← e, ea] at eb
    injection eb
end Hm

set_option Elab.async false
set_option linter.all false
set_option maxRecDepth 100000
set_option maxHeartbeats 1000000
namespace Hm
open PySem PySem.Spec PyProof.Rows L2 HT LamX
open Evl (Ex)
theorem sC_zero {f g : Str} : sC f g = 0 ↔ f = g := by
  constructor
  · intro h
    rw [sC_eq] at h
    split at h
    · assumption
    · split at h <;> omega
  · intro h
    rw [h, sC_eq, if_pos rfl]
/-- two heads are equal -/
theorem head_leaf {s t : Tm} (n : isVar s = false) (c : isComp s = false) : hC (hcode s) (hcode t) = 0 ↔ s = t := by
  constructor
  · intro h
    cases s with
    | var k => cases n
    | int i => exact tord_ok.eq _ _ (show tord (.int i) t = 0 from h)
    | atom i => exact tord_ok.eq _ _ (show tord (.atom i) t = 0 from h)
    | comp f as => cases c
  · intro h
    rw [h]
    exact hC_ok.refl _
theorem head_comp {f : Str} {as : List Tm} {t : Tm} : hC (hcode (.comp f as)) (hcode t) = 0 ↔ ∃ bs, t = .comp f bs ∧ as.length = bs.length := by
  constructor
  · intro h
    cases t with
    | comp g bs =>
      have e : hC (hcode (.comp f as)) (hcode (.comp g bs)) = _ := hC3 _ _ f g
      rw [e] at h
      by_cases z : intC (as.length : Int) (bs.length : Int) = 0
      · rw [if_pos z] at h
        have := intC_ok.eq _ _ z
        exact ⟨bs, by rw [sC_zero.mp h], by omega⟩
      · rw [if_neg z] at h
        exact absurd h z
    | var k => exact absurd h (hC_rank (by simp [rank]))
    | int k => exact absurd h (hC_rank (by simp [rank]))
    | atom k => exact absurd h (hC_rank (by simp [rank]))
  · rintro ⟨bs, rfl, hl⟩
    have e : hC (hcode (.comp f as)) (hcode (.comp f bs)) = _ := hC3 _ _ f f
    rw [e, hl, if_pos (intC_ok.refl _), sC_zero.mpr rfl]
/-! ## tables and pairs in a heap -/
def kvT (es : List (Int × V)) : List (Key × V) := es.map fun e => ((Sum.inl e.1 : Key), e.2)
def TbV (K : PySem.W.Frag) (H : Hp) (es : List (Int × V)) (T : Tb) : Prop := PySem.Paired (fun (e : Int × V) (p : Int × Tm) => e.1 = p.1 ∧ Rep K H p.2 e.2) es T
def TbD (K : PySem.W.Frag) (H : Hp) (d : Addr) (T : Tb) : Prop := ∃ es, H d = some (.dK (kvT es)) ∧ TbV K H es T
def PrAt (K : PySem.W.Frag) (H : Hp) (v : V) (q : Tm × Tm) : Prop := ∃ (p : Addr) (x y : V), v = .ref p ∧ SqT K H p [x, y] ∧ Rep K H q.1 x ∧ Rep K H q.2 y
section
variable {K : PySem.W.Frag} {H H' : Hp}
theorem TbV.mono (e : Tups K H H') {es : List (Int × V)} {T : Tb} (h : TbV K H es T) : TbV K H' es T := Paired.mapP h fun _ _ ⟨a, b⟩ => ⟨a, b.mono e⟩
theorem PrAt.mono (e : Tups K H H') {v : V} {q : Tm × Tm} (h : PrAt K H v q) : PrAt K H' v q := by
  obtain ⟨p, x, y, e1, a, b, c⟩ := h
  exact ⟨p, x, y, e1, e _ _ a, b.mono e, c.mono e⟩
theorem TbV.keys : ∀ {es : List (Int × V)} {T : Tb}, TbV K H es T → es.map (·.1) = T.map (·.1)
  | _, _, .nil => rfl
  | _, _, .cons h r => by
    rw [List.map_cons, List.map_cons, h.1, TbV.keys r]
theorem tbv_some : ∀ {es : List (Int × V)} {T : Tb} {k : Int} {u : V}, TbV K H es T → valV (kvT es) (Sum.inl k : Key) = some u → ∃ t, (k, t) ∈ T ∧ Rep K H t u
  | [], _, k, u, _, h => by simp [kvT, valV] at h
  | e :: es, _, k, u, .cons (b := p) (l₂ := T) h r, g => by
    by_cases z : e.1 = k
    · have g' : valV (((Sum.inl e.1 : Key), e.2) :: kvT es) (Sum.inl k) = some u := g
      rw [valV_pos (by rw [z])] at g'
      have := Option.some.inj g'
      subst this
      refine ⟨p.2, List.mem_cons.mpr (.inl ?_), h.2⟩
      rw [← z, h.1]
    · have g' : valV (((Sum.inl e.1 : Key), e.2) :: kvT es) (Sum.inl k) = some u := g
      rw [valV_neg (by intro w; injection w with w; exact z w)] at g'
      obtain ⟨t, h1, h2⟩ := tbv_some r g'
      exact ⟨t, List.mem_cons_of_mem _ h1, h2⟩
theorem tbv_none : ∀ {es : List (Int × V)} {T : Tb} {k : Int}, TbV K H es T → valV (kvT es) (Sum.inl k : Key) = none → k ∉ T.map (·.1)
  | [], _, k, .nil, _ => by simp
  | e :: es, _, k, .cons (b := p) (l₂ := T) h r, g => by
    by_cases z : e.1 = k
    · have g' : valV (((Sum.inl e.1 : Key), e.2) :: kvT es) (Sum.inl k) = none := g
      rw [valV_pos (by rw [z])] at g'
      cases g'
    · have g' : valV (((Sum.inl e.1 : Key), e.2) :: kvT es) (Sum.inl k) = none := g
      rw [valV_neg (by intro w; injection w with w; exact z w)] at g'
      have := tbv_none r g'
      rw [List.map_cons, List.mem_cons]
      rintro (w | w)
      · exact z (by rw [h.1, w])
      · exact this w
theorem TbV.snoc {es : List (Int × V)} {T : Tb} {k : Int} {u : V} {t : Tm} (h : TbV K H es T) (r : Rep K H t u) : TbV K H (es ++ [(k, u)]) (T ++ [(k, t)]) := Paired.snoc h ⟨rfl, r⟩
theorem kvT_put {es : List (Int × V)} {k : Int} {u : V} (h : valV (kvT es) (Sum.inl k : Key) = none) : putK (kvT es) (Sum.inl k : Key) u = kvT (es ++ [(k, u)]) := by
  rw [putK_new _ h]
  unfold kvT
  rw [List.map_append]
  rfl
end
/-- no key twice, behind one more -/
theorem nodup_snoc {T : Tb} {k : Int} {t : Tm} (n : (T.map (·.1)).Nodup) (h : k ∉ T.map (·.1)) : ((T ++ [(k, t)]).map (·.1)).Nodup := by
  rw [List.map_append, List.nodup_append]
  refine ⟨n, by simp, fun a ha b hb e => ?_⟩
  have : b = k := by simpa using hb
  rw [e, this] at ha
  exact h ha
/-- what a part of the special term is good for -/
def Good (d : Nat) (t : Tm) : Prop := Ok t ∧ size t ≤ 50000 ∧ depth t ≤ d
/-- a table, or None -/
def DueAt (K : PySem.W.Frag) (H : Hp) (x : V) : Option Tb → Prop
  | none => x = .non
  | some T => ∃ p us, x = .ref p ∧ H p = some (.lst us) ∧ PySem.Paired (fun (v : V) (e : Int × Tm) => ∃ t y, v = .ref t ∧ SqT K H t [.int e.1, y] ∧ Rep K H e.2 y) us T
def GoodT (d : Nat) : Option Tb → Prop
  | none => True
  | some T => ∀ e ∈ T, Good d e.2
theorem sorted_rise {F : (Int × V) → (Int × Tm) → Prop} (hF : ∀ e p, F e p → e.1 = p.1) {es es' : List (Int × V)} {T : Tb} (h : PySem.Paired F es T) (p : es'.Perm es) (r : es'.Pairwise fun x y => x.1 ≤ y.1) : ∃ U : Tb, PySem.Paired F es' U ∧ U.Perm T ∧ Rise U := by
  have len := Paired.length h
  have e0 : (es.zip T).map Prod.fst = es := List.map_fst_zip (by omega)
  obtain ⟨Z, pZ, eZ⟩ := perm_back (f := fun z : (Int × V) × (Int × Tm) => z.1) p (es.zip T) e0.symm
  have al : ∀ (es : List (Int × V)) (T : Tb), PySem.Paired F es T → ∀ z ∈ es.zip T, F z.1 z.2 := by
    intro es T h
    induction h with
    | nil => exact fun z hz => by cases hz
    | cons h r ih =>
      intro z hz
      rw [List.zip_cons_cons] at hz
      rcases List.mem_cons.mp hz with rfl | hz
      · exact h
      · exact ih z hz
  have az : ∀ z ∈ Z, F z.1 z.2 := fun z hz => al es T h z (pZ.mem_iff.mp hz)
  refine ⟨Z.map (·.2), ?_, ?_, ?_⟩
  · rw [eZ]
    clear eZ pZ
    induction Z with
    | nil => exact .nil
    | cons z Z ih => exact .cons (az z List.mem_cons_self) (ih fun y hy => az y (List.mem_cons_of_mem _ hy))
  · have := pZ.map Prod.snd
    rw [List.map_snd_zip (by omega)] at this
    exact this
  · unfold Rise
    rw [eZ, List.pairwise_map] at r
    rw [List.pairwise_map]
    refine r.imp_of_mem fun {x y} hx hy g => ?_
    rw [← hF _ _ (az x hx), ← hF _ _ (az y hy)]
    exact g
theorem paired_last {α β : Type} {F : α → β → Prop} : ∀ {xs : List α} {ys : List β} {y : β}, PySem.Paired F xs (ys ++ [y]) → ∃ xs' x, xs = xs' ++ [x] ∧ PySem.Paired F xs' ys ∧ F x y
  | xs, [], y, h => by
    match xs, h with
    | [x], .cons h .nil => exact ⟨[], x, rfl, .nil, h⟩
  | xs, z :: ys, y, h => by
    match xs, h with
    | x :: xs, .cons h r =>
      obtain ⟨xs', x', e, r2, h2⟩ := paired_last (ys := ys) r
      exact ⟨x :: xs', x', by rw [e]; rfl, .cons h r2, h2⟩
theorem paired_app {α β : Type} {F : α → β → Prop} : ∀ {a : List α} {b : List β} {c : List α} {d : List β}, PySem.Paired F a b → PySem.Paired F c d → PySem.Paired F (a ++ c) (b ++ d)
  | _, _, _, _, .nil, h => h
  | _, _, _, _, .cons h r, k => .cons h (paired_app r k)
/-- pairs of arguments, as zip lays them -/
theorem zip_prs {K : PySem.W.Frag} {H : Hp} : ∀ {ts : List Addr} {as bs : List Tm} {xs ys : List V}, Reps K H as xs → Reps K H bs ys → as.length = bs.length → PySem.Paired (fun (t : Addr) (q : V × V) => H t = some (.tup [q.1, q.2])) ts (xs.zip ys) → PySem.Paired (PrAt K H) (ts.map V.ref) (as.zip bs)
  | ts, [], [], xs, ys, hx, hy, _, h => by
    rw [hx.nil_inv, hy.nil_inv] at h
    match ts, h with
    | [], .nil => exact .nil
  | _, [], _ :: _, _, _, _, _, hl, _ => by simp at hl
  | _, _ :: _, [], _, _, _, _, hl, _ => by simp at hl
  | ts, a :: as, b :: bs, xs, ys, hx, hy, hl, h => by
    obtain ⟨x, xs', rfl, r1, r2⟩ := hx.cons_inv
    obtain ⟨y, ys', rfl, s1, s2⟩ := hy.cons_inv
    rw [List.zip_cons_cons] at h
    match ts, h with
    | t :: ts, .cons h r =>
      rw [List.map_cons, List.zip_cons_cons]
      exact .cons ⟨t, x, y, rfl, SqT.of h, r1, s1⟩ (zip_prs r2 s2 (by simpa using hl) r)
theorem good_args {d : Nat} {t : Tm} (h : Good d t) : ∀ u ∈ t.args, Good d u := fun u hu => by
  obtain ⟨h1, h2, h3⟩ := h
  obtain ⟨i, hi⟩ := List.mem_iff_getElem?.mp hu
  have z1 := sizes_get hi
  have z2 := depths_get hi
  rw [size_eq] at h2
  rw [depth_eq] at h3
  exact ⟨oks_get (ok_args h1) hi, by omega, by omega⟩
theorem sizes_map_zip : ∀ {as bs : List Tm}, as.length = bs.length → (as.zip bs).map (·.1) = as
  | as, bs, h => List.map_fst_zip (by omega)
theorem leaf_sub {s : Tm} (n : isVar s = false) (c : isComp s = false) (g : Int → Tm) : sub g s = s := by
  cases s with
  | var k => cases n
  | int i => simp [sub]
  | atom i => simp [sub]
  | comp f as => cases c
theorem head_no {s u : Tm} (n : isVar s = false) (h : hC (hcode s) (hcode u) ≠ 0) (g : Int → Tm) : sub g s ≠ u := by
  intro e
  cases c : isComp s with
  | false =>
    rw [leaf_sub n c] at e
    exact h ((head_leaf n c).mpr e)
  | true =>
    cases s with
    | comp f as =>
      apply h
      rw [head_comp, ← e, sub_comp]
      exact ⟨_, rfl, (subs_len g as).symm⟩
    | var k => cases c
    | int k => cases c
    | atom k => cases c
theorem head_yes {s u : Tm} (n : isVar s = false) (h : hC (hcode s) (hcode u) = 0) : s.args.length = u.args.length ∧ ∀ g, sub g s = u ↔ Fits (s.args.zip u.args) g := by
  cases c : isComp s with
  | false =>
    have e := (head_leaf n c).mp h
    rw [← e]
    refine ⟨rfl, fun g => ?_⟩
    rw [args_not c]
    exact ⟨fun _ => fits_nil, fun _ => leaf_sub n c g⟩
  | true =>
    cases s with
    | comp f as =>
      obtain ⟨bs, rfl, hl⟩ := head_comp.mp h
      exact ⟨hl, fun g => comp_fits g f hl⟩
    | var k => cases c
    | int k => cases c
    | atom k => cases c
theorem hd_shaped {t : Tm} (h : Ok t) : SeqAt.shaped (hdD t) = true := by
  show ((hdD t).canLay0 && decide ((hdD t).depth ≤ 64)) = true
  rw [hd_lay t h, hd_depth]
  rfl
/-- a row of a table as a tuple -/
def RwAt (K : PySem.W.Frag) (H : Hp) (e : Int × V) (p : Int × Tm) : Prop := e.1 = p.1 ∧ ∃ t y, e.2 = .ref t ∧ SqT K H t [.int p.1, y] ∧ Rep K H p.2 y
theorem rows_of {K : PySem.W.Frag} {H : Hp} : ∀ {ts : List Addr} {es : List (Int × V)} {U : Tb}, PySem.Paired (fun (t : Addr) (q : Key × V) => H t = some (.tup [kV q.1, q.2])) ts (kvT es) → TbV K H es U → ∃ er : List (Int × V), er.map (·.2) = ts.map V.ref ∧ PySem.Paired (RwAt K H) er U
  | ts, [], _, h, .nil => by
    match ts, h with
    | [], .nil => exact ⟨[], rfl, .nil⟩
  | ts, e :: es, _, h, .cons (b := p) (l₂ := U) g r => by
    match ts, h with
    | t :: ts, .cons h h2 =>
      obtain ⟨er, e1, e2⟩ := rows_of h2 r
      refine ⟨(e.1, .ref t) :: er, by rw [List.map_cons, List.map_cons, e1], .cons ⟨g.1, t, e.2, rfl, ?_, g.2⟩ e2⟩
      rw [← g.1]
      exact SqT.of h
theorem rows_at {K : PySem.W.Frag} {H : Hp} : ∀ {er : List (Int × V)} {U : Tb}, PySem.Paired (RwAt K H) er U → ∀ e ∈ er, RowAt K H e.1 e.2
  | _, _, .nil, e, h => by cases h
  | _, _, .cons h r, e, he => by
    rcases List.mem_cons.mp he with rfl | he
    · obtain ⟨h1, t, y, h2, h3, _⟩ := h
      exact ⟨t, y, h2, by rw [h1]; exact h3⟩
    · exact rows_at r e he
theorem rows_due {K : PySem.W.Frag} {H H' : Hp} (m : Tups K H H') : ∀ {er : List (Int × V)} {U : Tb}, PySem.Paired (RwAt K H) er U → PySem.Paired (fun (v : V) (e : Int × Tm) => ∃ t y, v = .ref t ∧ SqT K H' t [.int e.1, y] ∧ Rep K H' e.2 y) (er.map (·.2)) U
  | _, _, .nil => .nil
  | _, _, .cons h r => by
    obtain ⟨h1, t, y, h2, h3, h4⟩ := h
    exact .cons ⟨t, y, h2, m _ _ h3, h4.mono m⟩ (rows_due m r)
end Hm

set_option Elab.async false
set_option linter.all false
set_option maxRecDepth 100000
set_option maxHeartbeats 4000000
namespace Hm
open PySem PySem.Spec PyProof.Rows L2 HT LamX LiI
open Evl (Ex)
section
variable {P : Program} {w : World} {K : PySem.W.Frag} {mg : Str → Option Value} {base : Heap}
def qM : Str := (("matching" : Str) ++ (".<locals>." : Str)) ++ ("<lambda>" : Str)
abbrev TM (pp : Addr) : List (Addr × Str) := [(pp, qM)]
def spMatch (K : PySem.W.Frag) (pp : Addr) : Sp := fun vs H Q _ => ∃ v t v' t' d, vs = [v, v'] ∧ Rep K H t v ∧ Rep K H t' v' ∧ Ok t ∧ size t ≤ 1000 ∧ Good d t' ∧ Tabs (TM pp) H ∧
  ∀ x o H', ExtN H H' → Tabs (TM pp) H' → DueAt K H' x o → Told t t' o → GoodT d o → Q x H'
/-- ahead of a turn of matching -/
structure MSt (K : PySem.W.Frag) (t t' : Tm) (dd : Nat) (W : List (Tm × Tm)) (T : Tb) : Prop where
  nd : (T.map (·.1)).Nodup
  iff : ∀ g, sub g t = t' ↔ Sat T g ∧ Fits W g
  fine : ∀ q ∈ W, Ok q.1 ∧ Good dd q.2
  good : ∀ e ∈ T, Good dd e.2
  len : sizes (W.map (·.1)) + T.length ≤ 1000
theorem ok_matching (T : Tx K mg) {pp : Addr} (TB : TabB base mg T.cc pp) : FnOk P w K mg base CX0 8 T.f_matching T.d_matching ["general", "special"] (spMatch K pp) := by
  refine T.h_matching.ok sc_matching (fun vs H Q E h => ?_) (fun A outer s H vs Q E hr h => ?_)
  · obtain ⟨v, t, v', t', d, rfl, _⟩ := h
    rfl
  obtain ⟨v, t, v', t', dd, rfl, hR, hR', hO, hz, hG, hTab, q⟩ := h
  have hu := hu_of hr
  refine ⟨_, (pss_cons (ps_expr (cl (ok_demand_term T) T.h_demand_term hr (pa_cons (pv 0) pa_nil)))
    (pss_cons (ps_expr (cl (ok_demand_term T) T.h_demand_term hr (pa_cons (pv 1) pa_nil)))
    (pss_cons (ps_set (i := 2) sc_matching.nd rfl (Or.inl rfl) pe_dnewK)
    (pss_cons (ps_set (i := 3) sc_matching.nd rfl (Or.inl rfl) (pe_lst (pa_cons (pe_tup (pa_cons (pv 0) (pa_cons (pv 1) pa_nil))) pa_nil)))
    (pss_cons (ps_while PassesOwn.never (pt_truth (pv 3) (by intro _; rfl))
      (pss_cons (ps_asg (pe_bm0 PySem.F.plainAttrs_list PySem.F.slot_list_pop PySem.F.type_list_pop mt_pop (pv 3)) (pg_tup rfl (pgs_cons (pg_name (i := 4) sc_matching.nd rfl (Or.inl rfl)) (pgs_cons (pg_name (i := 5) sc_matching.nd rfl (Or.inl rfl)) pgs_nil))))
    (pss_one (ps_if (pt_val (cl (ok_is_variable T) T.h_is_variable hr (pa_cons (pv 4) pa_nil)))
      (Evl.pss_cut (ps_set (i := 6) sc_matching.nd rfl (Or.inl rfl) (pe_dsetd (pv 2) (pe_ix ix_tup (pv 4) pe_int (fun _ _ => rfl)) (pv 5) ⟨rfl, rfl, rfl, rfl⟩))
    (pss_one (ps_if (pt_cmpR (op_neD hr.units) (cl (ok_order_key T) T.h_order_key hr (pa_cons (pv 6) pa_nil)) (cl (ok_order_key T) T.h_order_key hr (pa_cons (pv 5) pa_nil)) (nomark _))
      (pss_one (ps_ret pe_non))
      pss_nil)))
      (pss_one (ps_if (pt_cmpR (op_neD hr.units) (cl (ok_head_of T) T.h_head_of hr (pa_cons (pv 4) pa_nil)) (cl (ok_head_of T) T.h_head_of hr (pa_cons (pv 5) pa_nil)) (nomark _))
      (pss_one (ps_ret pe_non))
      (pss_one (ps_expr (pe_bm PySem.F.plainAttrs_list PySem.F.slot_list_extend PySem.F.type_list_extend mt_extend (pv 3) (pa_cons (pe_listZip rfl rfl T.b_list rfl T.b_zip (pa_cons (cl (ok_arguments_of T) T.h_arguments_of hr (pa_cons (pv 4) pa_nil)) (pa_cons (cl (ok_arguments_of T) T.h_arguments_of hr (pa_cons (pv 5) pa_nil)) pa_nil))) pa_nil))))))))))
    (pss_one (ps_ret (pe_srtLam (T := TM pp) (k := 3) (a0 := "row") (N := ["row"]) rfl T.b_sorted TB rfl (by exact List.mem_singleton.mpr rfl) (fun p hp _ => by rw [List.mem_singleton.mp hp]; rfl) (hr.mono (by decide)) ⟨rfl, rfl, rfl, by decide +kernel, rfl, by decide +kernel, by decide +kernel⟩ rfl rfl (fun _ _ _ _ _ => rfl) (fun _ _ _ _ _ _ => pe_ix (show IxR _ (rIxT K) from ix_tup) (pv 0) pe_int (fun _ _ => rfl)) (fun v i H hv Q hq => by obtain ⟨p, u, rfl, hT⟩ := hv; exact ⟨_, rfl, p, _, 0, _, rfl, rfl, hT, at0, hq⟩) (pe_listItems rfl (pv 2) rfl T.b_list rfl))))))))), ?_⟩
  refine ⟨_, rfl, v, t, rfl, hR, hO, by omega, fun _ H1 e1 _ => ?_⟩
  refine ⟨_, rfl, v', t', rfl, hR'.mono (Tups.of e1), hG.1, hG.2.1, fun _ H2 e2 _ => ?_⟩
  intro d hd
  have e3 := Ex.new (o := HO.dK []) hd
  refine ⟨_, rfl, _, rfl, (by show 2 ≤ sizeLine; decide), fun tp htp => ⟨(by show 1 ≤ sizeLine; decide), fun l hl => ?_⟩⟩
  have e4 := Ex.new (o := HO.tup [v, v']) htp
  have e5 := Ex.new (o := HO.lst [V.ref tp]) hl
  have e12 := e1.trans e2
  have hd0 : H d = none := Evl.fresh_back e12 hd
  have hl0 : H l = none := Evl.fresh_back e12 (Evl.fresh_back e3 (Evl.fresh_back e4 hl))
  have hld : l ≠ d := (ne_of_none (e4 _ _ upd_same) hl).symm
  have eS : Ex H (upd (upd (upd H2 d (.dK [])) tp (.tup [v, v'])) l (.lst [V.ref tp])) := ((e12.trans e3).trans e4).trans e5
  have hDS : (upd (upd (upd H2 d (.dK [])) tp (.tup [v, v'])) l (.lst [V.ref tp])) d = some (.dK []) := e5 _ _ (e4 _ _ upd_same)
  have hPS : PrAt K (upd (upd (upd H2 d (.dK [])) tp (.tup [v, v'])) l (.lst [V.ref tp])) (.ref tp) (t, t') := ⟨tp, v, v', rfl, Evl.ex_t e5 (SqT.of upd_same), hR.mono (Tups.of eS), hR'.mono (Tups.of eS)⟩
  have hLS : (upd (upd (upd H2 d (.dK [])) tp (.tup [v, v'])) l (.lst [V.ref tp])) l = some (.lst [V.ref tp]) := upd_same
  generalize upd (upd (upd H2 d (.dK [])) tp (.tup [v, v'])) l (.lst [V.ref tp]) = HS at *
  refine ⟨fun m σ' H' => ∃ W U ws x4 x5 x6, σ' = [some v, some v', some (.ref d), some (.ref l), x4, x5, x6] ∧ Ex H H' ∧ H' l = some (.lst ws) ∧ PySem.Paired (PrAt K H') ws W ∧ TbD K H' d U ∧ MSt K t t' dd W U ∧ sizes (W.map (·.1)) = m,
    ⟨size t, [(t, t')], [], [.ref tp], none, none, none, rfl, eS, hLS, .cons hPS .nil, ⟨[], hDS, .nil⟩, ⟨List.nodup_nil, fun g => ?_, fun q hq => ?_, (fun e he => by cases he), ?_⟩, sizes_one t⟩, ?_⟩
  · rw [fits_one]
    exact ⟨fun h => ⟨sat_nil, h⟩, fun h => h.2⟩
  · rw [List.mem_singleton.mp hq]
    exact ⟨hO, hG⟩
  · show sizes [t] + 0 ≤ 1000
    rw [sizes_one]
    omega
  rintro m σ' H' ⟨W, U, ws, x4, x5, x6, rfl, eH, hL, hW, hU, hS, rfl⟩
  refine ⟨_, rfl, _, .inl ⟨ws, SqL.of hL, rfl⟩, ?_⟩
  have lW := Paired.length hW
  rcases list_end W with rfl | ⟨W, ⟨s, u⟩, rfl⟩
  · -- the end: sorted rows
    have hw0 : ws = [] := by
      cases hW
      rfl
    subst hw0
    refine iteF ?_
    obtain ⟨es, hD, hV⟩ := hU
    have lU := Paired.length hV
    have hlen := hS.len
    refine ⟨_, rfl, d, _, rfl, hD, fun H3 p ts k1 k2 k3 k4 hp hT => ?_⟩
    have e3' : Ex H H3 := eH.trans k1
    obtain ⟨er, er1, er2⟩ := rows_of hT (hV.mono (Tups.of k1))
    have le := Paired.length er2
    refine ⟨hTab.ext e3', p, er, rfl, by rw [er1]; exact SqL.of hp, by omega, rows_at er2, fun p2 es' H4 eN T4 hL4 pm pw => ?_⟩
    obtain ⟨U', hF', pU, rU⟩ := sorted_rise (fun _ _ h => h.1) er2 pm pw
    refine q (.ref p2) (some U') H4 (ExtN.trans (ExtN.ex e3') eN) T4 ⟨p2, _, rfl, hL4, rows_due (ExtN.tups eN) hF'⟩ ⟨(pU.map (·.1)).nodup_iff.mpr hS.nd, rU, fun g => ?_⟩ fun e he => hS.good e (pU.mem_iff.mp he)
    rw [hS.iff g]
    exact ⟨fun h e he => h.1 e (pU.mem_iff.mp he), fun h => ⟨fun e he => h e (pU.mem_iff.mpr he), fits_nil⟩⟩
  · obtain ⟨ws, wv, rfl, hW1, tpp, x, y, rfl, hTp, hx, hy⟩ := paired_last hW
    have hne : (!(ws ++ [V.ref tpp]).isEmpty) = true := by simp
    rw [hne]
    have lW1 := Paired.length hW1
    have fin := hS.fine (s, u) (by simp)
    have hsz : sizes ((W ++ [(s, u)]).map (·.1)) = sizes (W.map (·.1)) + size s := by
      rw [List.map_append, sizes_app]
      show _ + sizes [s] = _
      rw [sizes_one]
    have hlen := hS.len
    rw [hsz] at hlen ⊢
    have lwz := len_sizes (W.map (·.1))
    rw [List.length_map] at lwz
    have siff : ∀ g, sub g t = t' ↔ Sat U g ∧ Fits W g ∧ sub g s = u := fun g => by
      rw [hS.iff g, fits_app, fits_one]
    refine iteT ⟨fun σ2 H2 => ∃ m', m' < sizes (W.map (·.1)) + size s ∧ ∃ W U ws x4 x5 x6, σ2 = [some v, some v', some (.ref d), some (.ref l), x4, x5, x6] ∧ Ex H H2 ∧ H2 l = some (.lst ws) ∧ PySem.Paired (PrAt K H2) ws W ∧ TbD K H2 d U ∧ MSt K t t' dd W U ∧ sizes (W.map (·.1)) = m', fun _ _ h => h, ?_⟩
    have t1 : Tups K H' (upd H' l (.lst ws)) := Tups.lst hL
    refine ⟨_, rfl, .inl ⟨rfl, _, SqL.of hL⟩, l, _, _, rfl, rfl, hL, last_app _ _, ?_⟩
    rw [drop_app]
    refine ⟨tpp, [x, y], rfl, t1 _ _ hTp, rfl, x, [y], rfl, y, [], rfl, rfl, ?_⟩
    have eH1 : Ex H (upd H' l (.lst ws)) := Ex.mut eH hl0
    have hL1 : (upd H' l (.lst ws)) l = some (.lst ws) := upd_same
    have hW2 : PySem.Paired (PrAt K (upd H' l (.lst ws))) ws W := Paired.mapP hW1 fun _ _ h => h.mono t1
    have hU1 : TbD K (upd H' l (.lst ws)) d U := by
      obtain ⟨es, hD, hV⟩ := hU
      exact ⟨es, by rw [upd_ne hld.symm]; exact hD, hV.mono t1⟩
    have hx1 := hx.mono t1
    have hy1 := hy.mono t1
    generalize upd H' l (.lst ws) = H1' at *
    have szp := size_pos s
    refine ⟨_, rfl, x, s, rfl, hx1, fin.1, _, rfl, ?_⟩
    cases hv : isVar s with
    | true =>
      obtain ⟨k, rfl⟩ : ∃ k, s = .var k := by
        cases s with
        | var k => exact ⟨k, rfl⟩
        | int i => cases hv
        | atom i => cases hv
        | comp f as => cases hv
      have hxk := hx1
      unfold Rep at hxk
      obtain ⟨ax, rfl, hTx⟩ := hxk
      obtain ⟨es, hD, hV⟩ := hU1
      have lV := Paired.length hV
      have lk : (kvT es).length = es.length := by
        unfold kvT
        rw [List.length_map]
      have s1 : size (Tm.var k) = 1 := rfl
      have kiff : ∀ g, sub g t = t' ↔ Sat U g ∧ Fits W g ∧ g k = u := fun g => by
        rw [siff g, sub_var]
      refine iteT ⟨fun σ2 H2 => ∃ w tk U2, σ2 = [some v, some v', some (.ref d), some (.ref l), some (.ref ax), some y, some w] ∧ Ex H H2 ∧ H2 l = some (.lst ws) ∧ PySem.Paired (PrAt K H2) ws W ∧ TbD K H2 d U2 ∧ Rep K H2 tk w ∧ Rep K H2 u y ∧ Good dd tk ∧ (tk = u → MSt K t t' dd W U2) ∧ (tk ≠ u → ∀ g, sub g t ≠ t'), ?_, ?_⟩
      · refine ⟨_, rfl, d, rfl, .inl ⟨_, .inl hD⟩, _, rfl, ax, _, 0, _, rfl, rfl, hTx, at0, _, rfl, kvT es, Sum.inl k, hD, rfl, small5' (by omega), fun ww hw => ?_, fun hn => ?_⟩
        · obtain ⟨tk, hm, hr2⟩ := tbv_some hV hw
          refine ⟨ww, tk, U, rfl, eH1, hL1, hW2, ⟨es, hD, hV⟩, hr2, hy1, hS.good _ hm, fun e => ⟨hS.nd, fun g => ?_, fun qq hq => hS.fine qq (List.mem_append_left _ hq), hS.good, by omega⟩, fun ne g e => ?_⟩
          · rw [kiff g]
            exact ⟨fun h => ⟨h.1, h.2.1⟩, fun h => ⟨h.1, h.2, (h.1 _ hm).trans e⟩⟩
          · obtain ⟨h1, _, h3⟩ := (kiff g).mp e
            exact ne ((h1 _ hm).symm.trans h3)
        · have hk := tbv_none hV hn
          have t3 : Tups K H1' (upd H1' d (.dK (putK (kvT es) (Sum.inl k : Key) y))) := tups_dk hD
          refine ⟨y, u, U ++ [(k, u)], rfl, Ex.mut eH1 hd0, ?_, Paired.mapP hW2 fun _ _ h => h.mono t3, ⟨es ++ [(k, y)], ?_, (hV.mono t3).snoc (hy1.mono t3)⟩, hy1.mono t3, hy1.mono t3, fin.2, fun _ => ⟨nodup_snoc hS.nd hk, fun g => ?_, fun qq hq => hS.fine qq (List.mem_append_left _ hq), fun e he => ?_, ?_⟩, fun ne => absurd rfl ne⟩
          · rw [upd_ne hld]
            exact hL1
          · rw [upd_same, kvT_put hn]
          · rw [kiff g, sat_snoc]
            exact ⟨fun h => ⟨⟨h.1, h.2.2⟩, h.2.1⟩, fun h => ⟨h.1.1, h.2, h.1.2⟩⟩
          · rcases List.mem_append.mp he with he | he
            · exact hS.good e he
            · rw [List.mem_singleton.mp he]
              exact fin.2
          · rw [List.length_append, List.length_singleton]
            omega
      · rintro σ2 H2 ⟨ww, tk, U2, rfl, eH2, hL2, hW3, hU2, hrw, hry, gk, yes, no⟩
        refine ⟨_, rfl, ww, tk, rfl, hrw, gk.1, gk.2.1, fun p1 H3 hp1 e1 hk1 => ?_⟩
        refine ⟨_, rfl, y, u, rfl, hry.mono (Tups.of e1), fin.2.1, fin.2.2.1, fun p2 H4 hp2 e2 hk2 => ?_⟩
        refine ⟨_, _, (hk1.ex e2).dp, hk2.dp, keys_shaped (ok_pre gk.1), keys_shaped (ok_pre fin.2.1), _, rfl, ?_⟩
        rw [eqv_keys]
        have ek : kC ((pre tk).map hcode) ((pre u).map hcode) = tord tk u := ord_key tk u
        rw [ek]
        have e12 := e1.trans e2
        by_cases z : tord tk u = 0
        · rw [decide_eq_true z]
          have eu := tord_ok.eq _ _ z
          refine iteF ⟨sizes (W.map (·.1)), by omega, W, U2, ws, _, _, _, rfl, eH2.trans e12, e12 _ _ hL2, Paired.mapP hW3 fun _ _ h => h.mono (Tups.of e12), ?_, yes eu, rfl⟩
          obtain ⟨es2, hD2, hV2⟩ := hU2
          exact ⟨es2, e12 _ _ hD2, hV2.mono (Tups.of e12)⟩
        · rw [decide_eq_false z]
          refine iteT ?_
          exact q .non none _ (ExtN.ex (eH2.trans e12)) (hTab.ext (eH2.trans e12)) rfl (no fun e => z (by rw [e]; exact tord_ok.refl _)) trivial
    | false =>
      refine iteF ⟨_, rfl, x, s, rfl, hx1, fin.1, fun p1 hp1 => ?_⟩
      have f1 := Ex.new (o := HO.tup (hdV s)) hp1
      refine ⟨_, rfl, y, u, rfl, hy1.mono (Tups.of f1), fin.2.1, fun p2 hp2 => ?_⟩
      have f2 := Ex.new (o := HO.tup (hdV u)) hp2
      refine ⟨_, _, dp_hd ⟨p1, rfl, Evl.ex_t f2 (SqT.of upd_same)⟩, dp_hd ⟨p2, rfl, SqT.of upd_same⟩, hd_shaped fin.1, hd_shaped fin.2.1, _, rfl, ?_⟩
      rw [eqv_hd]
      have f12 := f1.trans f2
      have eH2 := eH1.trans f12
      by_cases z : hC (hcode s) (hcode u) = 0
      · rw [decide_eq_true z]
        obtain ⟨hal, hfit⟩ := head_yes hv z
        refine iteF ?_
        have hL2 := f12 _ _ hL1
        refine ⟨_, rfl, .inl ⟨rfl, _, SqL.of hL2⟩, _, rfl, x, s, rfl, hx1.mono (Tups.of f12), fun pa wa Ha hpa ea hPa hRa => ⟨_, rfl, y, u, rfl, (hy1.mono (Tups.of f12)).mono (Tups.of ea), fun pb wb Hb hpb eb hPb hRb => ?_⟩⟩
        have la := hRa.len
        have lb := hRb.len
        have zs := size_eq s
        have zl := len_sizes s.args
        refine ⟨pa, pb, wa, wb, rfl, SqT.of (eb _ _ hPa), SqT.of hPb, by omega, by omega, fun pz ts Hz hpz ez hLz hTz => ?_⟩
        have g := ((f12.trans ea).trans eb).trans ez
        have hL3 := g _ _ hL1
        have lt := Paired.length hTz
        rw [List.length_zip] at lt
        refine ⟨l, pz, ws, _, rfl, rfl, hL3, hLz, small5 (by rw [List.length_map]; omega), ?_⟩
        have t3 : Tups K Hz (upd Hz l (.lst (ws ++ ts.map V.ref))) := Tups.lst hL3
        have hZ := zip_prs ((hRa.mono (Tups.of eb)).mono (Tups.of ez)) (hRb.mono (Tups.of ez)) hal hTz
        have zm : ((W ++ s.args.zip u.args).map (·.1)) = W.map (·.1) ++ s.args := by
          rw [List.map_append, sizes_map_zip hal]
        refine ⟨sizes (W.map (·.1)) + sizes s.args, by omega, W ++ s.args.zip u.args, U, ws ++ ts.map V.ref, _, _, _, rfl, Ex.mut (eH1.trans g) hl0, upd_same, ?_, ?_, ⟨hS.nd, fun gg => ?_, fun qq hq => ?_, hS.good, ?_⟩, ?_⟩
        · exact paired_app (Paired.mapP hW2 fun _ _ h => (h.mono (Tups.of g)).mono t3) (Paired.mapP hZ fun _ _ h => h.mono t3)
        · obtain ⟨es, hD, hV⟩ := hU1
          exact ⟨es, by rw [upd_ne hld.symm]; exact g _ _ hD, (hV.mono (Tups.of g)).mono t3⟩
        · rw [siff gg, fits_app, hfit gg]
        · rcases List.mem_append.mp hq with hq | hq
          · exact hS.fine qq (List.mem_append_left _ hq)
          · obtain ⟨m1, m2⟩ := List.of_mem_zip hq
            obtain ⟨i, hi⟩ := List.mem_iff_getElem?.mp m1
            exact ⟨oks_get (ok_args fin.1) hi, good_args fin.2 _ m2⟩
        · rw [zm, sizes_app]
          omega
        · rw [zm, sizes_app]
      · rw [decide_eq_false z]
        refine iteT ?_
        refine q .non none _ (ExtN.ex eH2) (hTab.ext eH2) rfl (fun g e => head_no hv z g ((siff g).mp e).2.2) trivial
end
end Hm

set_option Elab.async false
set_option linter.all false
set_option maxRecDepth 100000
set_option maxHeartbeats 1000000
namespace Hm
open PySem PySem.Spec PyProof.Rows L2 HT LamX RZ
open Evl (Ex)
theorem merge_snoc (kvs : List (Key × V)) (kv : Key × V) : mergeK [] (kvs ++ [kv]) = putK (mergeK [] kvs) kv.1 kv.2 := by
  unfold mergeK
  rw [List.foldl_append]
  rfl
section
variable {P : Program} {w : World} {K : PySem.W.Frag} {mg : Str → Option Value} {base : Heap}
def spSubs (K : PySem.W.Frag) (pp : Addr) : Sp := fun vs H Q _ => ∃ v t v' t' d, vs = [v, v'] ∧ Rep K H t v ∧ Rep K H t' v' ∧ Ok t ∧ size t ≤ 1000 ∧ Good d t' ∧ Tabs (TM pp) H ∧
  ∀ b H', ExtN H H' → Tabs (TM pp) H' → (b = true ↔ ∃ g, sub g t = t') → Q (.bl b) H'
theorem ok_subsumes (T : Tx K mg) {pp : Addr} (TB : TabB base mg T.cc pp) : FnOk P w K mg base CX0 9 T.f_subsumes T.d_subsumes ["general", "special"] (spSubs K pp) := by
  refine T.h_subsumes.F.ok sc_subsumes (fun vs H Q E h => ?_) (fun cdv A outer s H vs Q E hr h => ?_)
  · obtain ⟨v, t, v', t', d, rfl, _⟩ := h
    rfl
  obtain ⟨v, t, v', t', d, rfl, hR, hR', hO, hz, hG, hTab, q⟩ := h
  refine ⟨_, (pss_one (ps_ret (pe_cmpR op_notN (cl (ok_matching T TB) T.h_matching.df hr (pa_cons (pv 0) (pa_cons (pv 1) pa_nil))) pe_non (nomark _)))), ?_⟩
  refine ⟨_, rfl, _, rfl, v, t, v', t', d, rfl, hR, hR', hO, hz, hG, hTab, fun x o H' eN T' hD hT _ => ?_⟩
  have hs := told_some hT
  cases o with
  | none =>
    have hx : x = .non := hD
    subst hx
    exact ⟨rfl, q _ H' eN T' hs⟩
  | some U =>
    obtain ⟨p, us, rfl, _⟩ := hD
    exact ⟨rfl, q _ H' eN T' hs⟩
def spVariant (K : PySem.W.Frag) : Sp := fun vs H Q _ => ∃ v t v' t', vs = [v, v'] ∧ Rep K H t v ∧ Rep K H t' v' ∧ Ok t ∧ Ok t' ∧ size t ≤ 50000 ∧ size t' ≤ 50000 ∧
  ∀ b H', Ex H H' → (b = true ↔ renum t = renum t') → Q (.bl b) H'
theorem ok_is_variant (T : Tx K mg) : FnOk P w K mg base CX0 8 T.f_is_variant T.d_is_variant ["one", "other"] (spVariant K) := by
  refine T.h_is_variant.F.ok sc_is_variant (fun vs H Q E h => ?_) (fun cdv A outer s H vs Q E hr h => ?_)
  · obtain ⟨v, t, v', t', rfl, _⟩ := h
    rfl
  obtain ⟨v, t, v', t', rfl, hR, hR', hO, hO', hz, hz', q⟩ := h
  refine ⟨_, (pss_one (ps_ret (pe_cmpR (op_eqD hr.units) (cl (ok_order_key T) T.h_order_key hr (pa_cons (cl (ok_renumbered T) T.h_renumbered hr (pa_cons (pv 0) pa_nil)) pa_nil)) (cl (ok_order_key T) T.h_order_key hr (pa_cons (cl (ok_renumbered T) T.h_renumbered hr (pa_cons (pv 1) pa_nil)) pa_nil)) (nomark _)))), ?_⟩
  refine ⟨_, rfl, v, t, rfl, hR, hO, hz, fun u1 H1 e1 r1 => ?_⟩
  refine ⟨u1, renum t, rfl, r1, ok_renum hO, by rw [size_renum]; exact hz, fun p1 H2 hp1 e2 k1 => ?_⟩
  refine ⟨_, rfl, v', t', rfl, (hR'.mono (Tups.of e1)).mono (Tups.of e2), hO', hz', fun u2 H3 e3 r2 => ?_⟩
  refine ⟨u2, renum t', rfl, r2, ok_renum hO', by rw [size_renum]; exact hz', fun p2 H4 hp2 e4 k2 => ?_⟩
  refine ⟨_, _, ((k1.ex e3).ex e4).dp, k2.dp, keys_shaped (ok_pre (ok_renum hO)), keys_shaped (ok_pre (ok_renum hO')), ?_⟩
  rw [eqv_keys]
  have ek : kC ((pre (renum t)).map hcode) ((pre (renum t')).map hcode) = tord (renum t) (renum t') := ord_key _ _
  rw [ek]
  refine q _ H4 (((e1.trans e2).trans e3).trans e4) ?_
  rw [decide_eq_true_iff]
  exact ⟨fun h => tord_ok.eq _ _ h, fun h => by rw [h]; exact tord_ok.refl _⟩
def spLAnew (K : PySem.W.Frag) : Sp := fun vs H Q _ => ∃ v t, vs = [v, .int 0] ∧ Rep K H t v ∧ Ok t ∧ size t ≤ 1000 ∧ depth t ≤ 10 ∧ ∀ u H', Ex H H' → Rep K H' (renum t) u → Q u H'
theorem ok_law_anew (T : Tx K mg) : FnOk P w K mg base CX0 14 T.f_law_anew T.d_law_anew ["_law_term_here", "_law_first"] (spLAnew K) := by
  refine T.h_law_anew.F.ok sc_law_anew (fun vs H Q E h => ?_) (fun cdv A outer s H vs Q E hr h => ?_)
  · obtain ⟨v, t, rfl, _⟩ := h
    rfl
  obtain ⟨v, t, rfl, hR, hO, hz, hd, q⟩ := h
  refine ⟨_, PSs.nox (pss_one (ps_ret (cl (ok_law_put T 10) T.h_law_put hr (pa_cons (pv 0) (pa_cons (pe_callTy (call_dictP rfl) rfl T.b_dict (by decide +kernel) (pa_cons (pe_lc (own := [("_law_at", 2), ("_law_number", 3)]) (g := gTup K 2 (gCons (gName 2) (gCons (gName 3) gNil))) rfl sc_law_anew.nd (pi_enum rfl T.b_enumerate (pa_cons (cl (ok_law_numbers T) T.h_law_numbers hr (pa_cons (pv 0) pa_nil)) pa_nil)) (blkOk_by (own := [("_law_at", 2), ("_law_number", 3)]) (N := ["_law_term_here", "_law_first", "_law_at", "_law_number"]) (sc := defScope s_law_anew) (by decide +kernel)) (fun _ _ _ _ _ => pg_tup rfl (pgs_cons (pg_name (i := 2) sc_law_anew.nd rfl (Or.inl rfl)) (pgs_cons (pg_name (i := 3) sc_law_anew.nd rfl (Or.inl rfl)) pgs_nil))) (fun _ _ _ _ _ => pts_nil) (fun _ _ _ _ _ => (pe_tup (pa_cons (pv 3) (pa_cons (pe_tup (pa_cons (pe_op op_add (pv 1) (pv 2)) pa_nil)) pa_nil))))) pa_nil)) pa_nil))))), ?_⟩
  refine ⟨_, rfl, _, rfl, v, t, rfl, hR, hO, hz, hd, fun pl H2 hpl e2 hL => ?_⟩
  have hnd := varsOf_nodup t
  have hvl := varsOf_len t
  generalize hxs : varsOf t = xs at *
  refine ⟨pl, xs.map V.int, rfl, SqL.of hL, fun D hD => lc_it walk_enum (fun i H' => Ex H2 H' ∧ ∃ (ps : List Addr) (kvs : List (Key × V)), H' D = some (.lst (ps.map V.ref)) ∧ PySem.Paired (fun (p : Addr) (kv : Key × V) => SqT K H' p [kV kv.1, kv.2]) ps kvs ∧ ps.length = i ∧
      (∀ k u, valV (mergeK [] kvs) (Sum.inl k : Key) = some u → ∃ j : Nat, j < i ∧ xs[j]? = some k ∧ Rep K H' (.var (j : Int)) u) ∧ (∀ k, valV (mergeK [] kvs) (Sum.inl k : Key) = none → ∀ j : Nat, j < i → xs[j]? ≠ some k))
    ⟨Ex.new hD, [], [], upd_same, .nil, rfl, fun k u h => by simp [valV, mergeK] at h, fun k _ j hj => absurd hj (Nat.not_lt_zero _)⟩ (fun i H' _ h => Evl.ex_l h.1 (SqL.of hL)) ?_ ?_⟩
  · rintro i x H3 H4 hi ⟨e3, ps, kvs, hK, hP, hpl2, hk1, hk2⟩ ⟨TT, x1, x2, rfl, hTT, rfl, hx1, hx2⟩
    have e4 := Ex.new (o := HO.tup [x1, x2]) hTT
    have hx1' : x1 = .int (i : Int) := (Option.some.inj hx1).symm
    subst hx1'
    rw [List.length_map] at hi
    obtain ⟨k, hk, rfl⟩ : ∃ k, xs[i]? = some k ∧ x2 = .int k := by
      have hx3 : (xs.map V.int)[i]? = some x2 := hx2
      rw [List.getElem?_map, List.getElem?_eq_getElem hi] at hx3
      rw [List.getElem?_eq_getElem hi]
      exact ⟨_, rfl, (Option.some.inj hx3).symm⟩
    refine ⟨TT, _, rfl, SqT.of upd_same, rfl, _, _, rfl, _, _, rfl, rfl, rfl, yesI ⟨_, rfl, _, rfl, _, rfl, _, _, rfl, rfl, (by show 1 ≤ sizeLine; decide), fun qp hqp => ⟨(by show 2 ≤ sizeLine; decide), fun tp htp => ?_⟩⟩⟩
    have ez : (0 : Int) + (i : Int) = (i : Int) := Int.zero_add _
    have e5 := Ex.new (o := HO.tup [V.int ((0 : Int) + (i : Int))]) hqp
    have e6 := Ex.new (o := HO.tup [V.int k, V.ref qp]) htp
    have hK6 := e6 D _ (e5 D _ (e4 D _ hK))
    have hq6 : SqT K (upd (upd (upd H3 TT (.tup [.int (i : Int), .int k])) qp (.tup [V.int ((0 : Int) + (i : Int))])) tp (.tup [V.int k, V.ref qp])) qp [.int (i : Int)] := by
      refine SqT.of (e6 qp _ ?_)
      rw [upd_same]
      exact congrArg (fun z => some (HO.tup [V.int z])) ez
    have ht6 : SqT K (upd (upd (upd H3 TT (.tup [.int (i : Int), .int k])) qp (.tup [V.int ((0 : Int) + (i : Int))])) tp (.tup [V.int k, V.ref qp])) tp [.int k, .ref qp] := SqT.of upd_same
    have t6 : Tups K H3 (upd (upd (upd H3 TT (.tup [.int (i : Int), .int k])) qp (.tup [V.int ((0 : Int) + (i : Int))])) tp (.tup [V.int k, V.ref qp])) := ((Tups.of e4).trans (Tups.of e5)).trans (Tups.of e6)
    have e456 := (e4.trans e5).trans e6
    refine ⟨_, hK6, small5' (by rw [List.length_map]; omega), Ex.mut (e3.trans e456) hD, ps ++ [tp], kvs ++ [((Sum.inl k : Key), V.ref qp)], ?_, ?_, by rw [List.length_append, hpl2]; rfl, fun k' u hu => ?_, fun k' hn j hj => ?_⟩
    · rw [upd_same, List.map_append]
      rfl
    · have tD := Tups.lst (K := K) (o := HO.lst (ps.map V.ref ++ [V.ref tp])) hK6
      exact Paired.snoc (Paired.mapP hP fun p kv h => tD _ _ (t6 _ _ h)) (tD _ _ ht6)
    · have tD := Tups.lst (K := K) (o := HO.lst (ps.map V.ref ++ [V.ref tp])) hK6
      rw [merge_snoc, valV_put] at hu
      by_cases hkk : (Sum.inl k' : Key) = Sum.inl k
      · rw [if_pos hkk] at hu
        injection hkk with hkk
        subst hkk
        have := Option.some.inj hu
        subst this
        refine ⟨i, Nat.lt_succ_self _, hk, ?_⟩
        unfold Rep
        exact ⟨qp, rfl, tD _ _ hq6⟩
      · rw [if_neg hkk] at hu
        obtain ⟨j, hj, h1, h2⟩ := hk1 k' u hu
        exact ⟨j, by omega, h1, (h2.mono t6).mono tD⟩
    · rw [merge_snoc, valV_put] at hn
      by_cases hkk : (Sum.inl k' : Key) = Sum.inl k
      · rw [if_pos hkk] at hn
        cases hn
      · rw [if_neg hkk] at hn
        by_cases hji : j = i
        · subst hji
          rw [hk]
          intro z
          exact hkk (by rw [Option.some.inj z])
        · exact hk2 k' hn j (by omega)
  · rintro H3 ⟨e3, ps, kvs, hK, hP, hpl2, hk1, hk2⟩
    rw [List.length_map] at hk1 hk2
    refine ⟨D, ps, kvs, rfl, SqL.of hK, hP, fun d hd2 => ?_⟩
    have e7 := Ex.new (o := HO.dK (mergeK [] kvs)) hd2
    refine ⟨v, t, d, rg xs, rfl, ((hR.mono (Tups.of e2)).mono (Tups.of e3)).mono (Tups.of e7), hO, hz, hd, ⟨mergeK [] kvs, .inl upd_same, fun k => ⟨fun u hu => ?_, fun hn => ?_⟩⟩, fun u H4 e4 hu => q u H4 (((e2.trans e3).trans e7).trans e4) ?_⟩
    · obtain ⟨j, hj, h1, h2⟩ := hk1 k u hu
      have hm : k ∈ xs := List.mem_of_getElem? h1
      unfold rg
      rw [if_pos hm, idx_at hnd h1]
      exact h2.mono (Tups.of e7)
    · have hm : ¬ k ∈ xs := fun hm => by
        obtain ⟨j, hj, h1⟩ := List.getElem_of_mem hm
        exact hk2 k hn j hj (by rw [List.getElem?_eq_getElem hj, h1])
      unfold rg
      rw [if_neg hm]
    · unfold renum
      rw [hxs]
      exact hu
end
end Hm

set_option Elab.async false
set_option linter.all false
set_option maxRecDepth 100000
set_option maxHeartbeats 1000000
namespace Hm
open PySem PySem.Spec PyProof.Rows L2 HT LamX RZ
open Evl (Ex)
theorem walk_zipT {K : PySem.W.Frag} {a b : Addr} {xs ys : List V} {n : Nat} (hn : n = min xs.length ys.length) : Walk (ItzT K a b) n (fun H => SqT K H a xs ∧ SqT K H b ys) (YPair (fun i => xs[i]?) (fun i => ys[i]?)) := by
  subst hn
  refine ⟨fun i _ hi q => ?_, fun _ q => ⟨xs, ys, q.1, q.2, by omega⟩, fun i H v H' _ q y => ?_⟩
  · exact ⟨xs, ys, xs[i]'(by omega), ys[i]'(by omega), q.1, q.2, by simp [show i < xs.length by omega], by simp [show i < ys.length by omega]⟩
  · obtain ⟨T, x, z, h1, h2, h3, h4, h5⟩ := y
    exact ⟨T, x, z, h1, h2, h3, h4 xs q.1, h5 ys q.2⟩
/-- all but one object stays -/
def But (d : Addr) (H H' : Hp) : Prop := ∀ b o, b ≠ d → H b = some o → H' b = some o
theorem But.of {d : Addr} {H H' : Hp} (e : Ex H H') : But d H H' := fun b o _ h => e b o h
theorem But.trans {d : Addr} {H H1 H2 : Hp} (a : But d H H1) (b : But d H1 H2) : But d H H2 := fun c o n h => b c o n (a c o n h)
theorem But.upd {d : Addr} {H : Hp} {o : HO} : But d H (upd H d o) := fun b u n h => by rw [upd_ne n]; exact h
theorem But.mut {d p : Addr} {H H' : Hp} {o : HO} (h : But d H H') (hp : H p = none) : But d H (L2.upd H' p o) := fun b u n e => by
  rw [upd_ne (ne_of_none e hp)]
  exact h b u n e
theorem But.tups {K : PySem.W.Frag} {d : Addr} {H H' : Hp} {kvs : List (Key × V)} (b : But d H H') (h : H d = some (.dK kvs)) : Tups K H H' := fun a ys q => by
  rcases q with (q | ⟨ob, q⟩) | q
  · exact .inl (.inl (b _ _ (ne_of q h (by intro z; cases z)) q))
  · exact .inl (.inr ⟨ob, b _ _ (ne_of q h (by intro z; cases z)) q⟩)
  · exact .inr q
theorem ones_dp {K : PySem.W.Frag} {H : Hp} {p : Addr} {n : Nat} (h : H p = some (.lst (List.replicate n (.int 1)))) : Dp K H (.ref p) (.list (List.replicate n (.int 1))) := by
  have e1 : (List.replicate n 1).map V.int = List.replicate n (V.int 1) := List.map_replicate
  have e2 : (List.replicate n 1).map PyData.int = List.replicate n (PyData.int 1) := List.map_replicate
  have := dp_ints (K := K) (H := H) (p := p) (ns := List.replicate n 1) (by rw [e1]; exact SqL.of h)
  rw [e2] at this
  exact this
theorem ones_shaped (n : Nat) : SeqAt.shaped (.list (List.replicate n (.int 1))) = true := by
  have e2 : (List.replicate n 1).map PyData.int = List.replicate n (PyData.int 1) := List.map_replicate
  rw [← e2]
  exact shaped_ints _
theorem ones_eq (n : Nat) : PyData.eqv (.list (List.replicate n (.int 1))) (.list []) = decide (n = 0) := by
  cases n with
  | zero => rfl
  | succ n => rfl
section
variable {P : Program} {w : World} {K : PySem.W.Frag} {mg : Str → Option Value} {base : Heap}
def spFound (K : PySem.W.Frag) (n : Nat) : Sp := fun vs H Q _ => ∃ v t v' t' d U, vs = [v, v', .ref d] ∧ Rep K H t v ∧ Rep K H t' v' ∧ Ok t ∧ depth t ≤ n ∧ n ≤ 60 ∧ Good 60 t' ∧ TbD K H d U ∧ (U.map (·.1)).Nodup ∧ (∀ e ∈ U, Good 60 e.2) ∧ U.length + size t ≤ 1000 ∧
  ∀ b U' H', But d H H' → TbD K H' d U' → (U'.map (·.1)).Nodup → (∀ e ∈ U', Good 60 e.2) → U'.length ≤ U.length + size t → (b = true → ∀ g, Sat U g ∧ sub g t = t' ↔ Sat U' g) → (b = false → ∀ g, ¬ (Sat U g ∧ sub g t = t')) → Q (.bl b) H'
theorem found_step (T : Tx K mg) (n : Nat) (ih : FnOk P w K mg base CX0 (n + 3) T.f_law_found T.d_law_found ["_law_general", "_law_special", "_law_table"] (spFound K n)) :
    FnOk P w K mg base CX0 (n + 3 + 1) T.f_law_found T.d_law_found ["_law_general", "_law_special", "_law_table"] (spFound K (n + 1)) := by
  refine T.h_law_found.F.ok sc_law_found (fun vs H Q E h => ?_) (fun cdv A outer s H vs Q E hr h => ?_)
  · obtain ⟨v, t, v', t', d, U, rfl, _⟩ := h
    rfl
  obtain ⟨v, t, v', t', d, U, rfl, hR, hR', hO, hd, hn, hG, hU, nd, gd, hlen, q⟩ := h
  refine ⟨_, (pss_cons (ps_if (pt_val (cl (ok_law_is_variable T) T.h_law_is_variable hr (pa_cons (pv 0) pa_nil)))
      (pss_one (ps_ret (pe_cmpR (op_eqD hr.units) (pe_dsetd (pv 2) (pe_ix ix_tup (pv 0) pe_int (fun _ _ => rfl)) (pv 1) ⟨rfl, rfl, rfl, rfl⟩) (pv 1) (nomark _))))
      pss_nil)
    (pss_cons (ps_if (PW.pt (pw_or (pt_not (pt_val (cl (ok_law_is_compound T) T.h_law_is_compound hr (pa_cons (pv 0) pa_nil)))) (pw_or1 (pt_not (pt_val (cl (ok_law_is_compound T) T.h_law_is_compound hr (pa_cons (pv 1) pa_nil)))))))
      (pss_one (ps_ret (pe_cmpR (op_eqD hr.units) (pv 0) (pv 1) (nomark _))))
      pss_nil)
    (pss_cons (ps_if (PW.pt (pw_or (pt_cmpR op_ne (pe_callB call_len_seq rfl T.b_len (by decide +kernel) (pa_cons (pv 0) pa_nil)) (pe_callB call_len_seq rfl T.b_len (by decide +kernel) (pa_cons (pv 1) pa_nil)) (nomark _)) (pw_or1 (pt_cmpR op_ne (pe_ix ix_tup (pv 0) pe_int (fun _ _ => rfl)) (pe_ix ix_tup (pv 1) pe_int (fun _ _ => rfl)) (nomark _)))))
      (pss_one (ps_ret pe_bl))
      pss_nil)
    (pss_one (ps_ret (pe_cmpR (op_eqD hr.units) (pe_lc (own := [("_law_one_here", 3), ("_law_other_here", 4)]) (g := gTup K 2 (gCons (gName 3) (gCons (gName 4) gNil))) rfl sc_law_found.nd (pi_zipA rfl T.b_zip (pa_cons (pe_slice sl_tup (pv 0) (po_some pe_int) po_none) (pa_cons (pe_slice sl_tup (pv 1) (po_some pe_int) po_none) pa_nil))) (blkOk_by (own := [("_law_one_here", 3), ("_law_other_here", 4)]) (N := ["_law_general", "_law_special", "_law_table", "_law_one_here", "_law_other_here"]) (sc := defScope s_law_found) (by decide +kernel)) (fun _ _ _ _ _ => pg_tup rfl (pgs_cons (pg_name (i := 3) sc_law_found.nd rfl (Or.inl rfl)) (pgs_cons (pg_name (i := 4) sc_law_found.nd rfl (Or.inl rfl)) pgs_nil))) (fun _ _ _ _ _ => pts_one (pt_not (pt_val (cl ih T.h_law_found hr (pa_cons (pv 3) (pa_cons (pv 4) (pa_cons (pv 2) pa_nil))))))) (fun _ _ _ _ _ => pe_int)) (pe_lst pa_nil) (nomark _))))))), ?_⟩
  have okt := shaped_tm hO (by omega)
  have okt' := shaped_tm hG.1 (show depth t' ≤ 64 by have := hG.2.2; omega)
  obtain ⟨es, hD, hV⟩ := id hU
  have lV := Paired.length hV
  have lk : (kvT es).length = es.length := by
    unfold kvT
    rw [List.length_map]
  have szp := size_pos t
  refine ⟨_, rfl, v, t, rfl, hR, hO, _, rfl, ?_⟩
  cases hv : isVar t with
  | true =>
    obtain ⟨k, rfl⟩ : ∃ k, t = .var k := by
      cases t with
      | var k => exact ⟨k, rfl⟩
      | int i => cases hv
      | atom i => cases hv
      | comp f as => cases hv
    unfold Rep at hR
    obtain ⟨ax, rfl, hTx⟩ := hR
    refine iteT ⟨_, rfl, d, rfl, .inl ⟨_, .inl hD⟩, _, rfl, ax, _, 0, _, rfl, rfl, hTx, at0, _, rfl, kvT es, Sum.inl k, hD, rfl, small5' (by omega), fun ww hw => ?_, fun hn => ?_⟩
    · obtain ⟨tk, hm, hr2⟩ := tbv_some hV hw
      have gk := gd _ hm
      have gk2 : Good 60 tk := gk
      refine ⟨_, rfl, _, _, dp_rep hr2, dp_rep hR', shaped_tm gk2.1 (by have := gk2.2.2; omega), okt', ?_⟩
      rw [eqv_toD]
      refine q _ U H (But.of (Ex.refl _)) hU nd gd (by omega) (fun e g => ?_) fun e g h => ?_
      · have e2 := tord_ok.eq _ _ (of_decide_eq_true e)
        rw [sub_var]
        exact ⟨fun h => h.1, fun h => ⟨h, (h _ hm).trans e2⟩⟩
      · rw [sub_var] at h
        have e2 := of_decide_eq_false e
        apply e2
        rw [← (h.1 _ hm).symm.trans h.2]
        exact tord_ok.refl _
    · have hk := tbv_none hV hn
      have t3 : Tups K H (upd H d (.dK (putK (kvT es) (Sum.inl k : Key) v'))) := tups_dk hD
      refine ⟨_, rfl, _, _, dp_rep (hR'.mono t3), dp_rep (hR'.mono t3), okt', okt', ?_⟩
      rw [eqv_tm hG.1]
      refine q _ (U ++ [(k, t')]) _ But.upd ⟨es ++ [(k, v')], by rw [upd_same, kvT_put hn], (hV.mono t3).snoc (hR'.mono t3)⟩ (nodup_snoc nd hk) (fun e he => ?_) (by rw [List.length_append, List.length_singleton]; omega) (fun _ g => ?_) fun e => by cases e
      · rcases List.mem_append.mp he with he | he
        · exact gd e he
        · rw [List.mem_singleton.mp he]
          exact hG
      · rw [sub_var, sat_snoc]
  | false =>
    have leaf : (isComp t = true → isComp t' = false) → ∀ b, b = decide (tord t t' = 0) → Q (.bl b) H := fun hc b hb => by
      have nog : ∀ g, sub g t = t' → t = t' := fun g e => by
        cases c : isComp t with
        | false =>
          rw [leaf_sub hv c] at e
          exact e
        | true =>
          cases t with
          | comp f as =>
            rw [sub_comp] at e
            have := hc rfl
            rw [← e] at this
            cases this
          | var k => cases c
          | int k => cases c
          | atom k => cases c
      refine q b U H (But.of (Ex.refl _)) hU nd gd (by omega) (fun e g => ?_) fun e g h => ?_
      · rw [hb] at e
        have e2 := tord_ok.eq _ _ (of_decide_eq_true e)
        have c : isComp t = false := by
          cases c : isComp t with
          | false => rfl
          | true =>
            have := hc c
            rw [← e2, c] at this
            cases this
        rw [leaf_sub hv c]
        exact ⟨fun h => h.1, fun h => ⟨h, e2⟩⟩
      · rw [hb] at e
        apply of_decide_eq_false e
        rw [nog g h.2]
        exact tord_ok.refl _
    refine iteF ⟨_, rfl, v, t, rfl, hR, hO, _, rfl, ?_⟩
    cases c : isComp t with
    | false =>
      refine iteT (iteT ⟨_, rfl, _, rfl, _, _, dp_rep hR, dp_rep hR', okt, okt', ?_⟩)
      rw [eqv_toD]
      exact leaf (fun z => by rw [c] at z; cases z) _ rfl
    | true =>
      refine iteF ⟨_, rfl, v', t', rfl, hR', hG.1, _, rfl, ?_⟩
      cases c' : isComp t' with
      | false =>
        refine iteT ⟨_, rfl, _, rfl, _, _, dp_rep hR, dp_rep hR', okt, okt', ?_⟩
        rw [eqv_toD]
        exact leaf (fun _ => c') _ rfl
      | true =>
        obtain ⟨f, as, rfl⟩ : ∃ f as, t = .comp f as := by
          cases t with
          | comp f as => exact ⟨f, as, rfl⟩
          | var k => cases c
          | int k => cases c
          | atom k => cases c
        obtain ⟨g, bs, rfl⟩ : ∃ f as, t' = .comp f as := by
          cases t' with
          | comp f as => exact ⟨f, as, rfl⟩
          | var k => cases c'
          | int k => cases c'
          | atom k => cases c'
        obtain ⟨a, wa, rfl, hTa, hA⟩ := (show ∃ a ws, v = .ref a ∧ SqT K H a (.str f :: ws) ∧ Reps K H as ws by unfold Rep at hR; exact hR)
        obtain ⟨b, wb, rfl, hTb, hB⟩ := (show ∃ a ws, v' = .ref a ∧ SqT K H a (.str g :: ws) ∧ Reps K H bs ws by unfold Rep at hR'; exact hR')
        have la := hA.len
        have lb := hB.len
        refine iteF ⟨_, rfl, a, _, rfl, .inr hTa, _, rfl, b, _, rfl, .inr hTb, rfl, _, rfl, ?_⟩
        have no : ¬ (f = g ∧ as.length = bs.length) → ∀ H', Ex H H' → Q (.bl false) H' := fun ne H' e => by
          obtain ⟨es2, hD2, hV2⟩ := hU
          exact q false U H' (But.of e) ⟨es2, e _ _ hD2, hV2.mono (Tups.of e)⟩ nd gd (by omega) (fun z => by cases z) fun _ gg h => ne (comp_len h.2)
        show if (!decide (V.int (((V.str f :: wa).length : Nat) : Int) = V.int (((V.str g :: wb).length : Nat) : Int))) = true then _ else _
        rw [dec_len]
        by_cases el : (V.str f :: wa).length = (V.str g :: wb).length
        · rw [decide_eq_true el]
          rw [List.length_cons, List.length_cons] at el
          refine iteF ⟨_, rfl, a, _, 0, _, rfl, rfl, hTa, at0, _, rfl, b, _, 0, _, rfl, rfl, hTb, at0, rfl, _, rfl, ?_⟩
          show if (!decide (V.str f = V.str g)) = true then _ else _
          by_cases ef : f = g
          · subst ef
            rw [decide_eq_true rfl]
            have hab : as.length = bs.length := by omega
            refine iteF ?_
            refine ⟨_, rfl, _, rfl, a, _, rfl, hTa, cut1_ne _ _, fun p1 hp1 => ?_⟩
            rw [cut1]
            have e1 := Ex.new (o := HO.tup wa) hp1
            refine ⟨_, rfl, _, rfl, b, _, rfl, Evl.ex_t e1 hTb, cut1_ne _ _, fun p2 hp2 => ?_⟩
            rw [cut1]
            have e2 := Ex.new (o := HO.tup wb) hp2
            have e12 := e1.trans e2
            have hP1 : SqT K (upd (upd H p1 (.tup wa)) p2 (.tup wb)) p1 wa := Evl.ex_t e2 (SqT.of upd_same)
            have hP2 : SqT K (upd (upd H p1 (.tup wa)) p2 (.tup wb)) p2 wb := SqT.of upd_same
            generalize upd (upd H p1 (.tup wa)) p2 (.tup wb) = HS at *
            have hOc := hO
            unfold Ok at hOc
            have hA2 := hA.mono (Tups.of e12)
            have hB2 := hB.mono (Tups.of e12)
            have hDS := e12 _ _ hD
            have szt : size (.comp f as) = 1 + sizes as := size_eq (.comp f as)
            have dpt : depth (.comp f as) = 1 + depths as := depth_eq (.comp f as)
            refine ⟨p1, p2, wa, wb, rfl, .inr ⟨hP1, hP2, fun D hD0 => ?_⟩⟩
            have hDd : D ≠ d := (ne_of_none hDS hD0).symm
            have eD := Ex.new (o := HO.lst []) hD0
            refine lc_it (walk_zipT (n := as.length) (by omega)) (fun i H' => ∃ (m : Nat) (Ui : Tb), m ≤ i ∧ H' D = some (.lst (List.replicate m (.int 1))) ∧ But d HS H' ∧ TbD K H' d Ui ∧ (Ui.map (·.1)).Nodup ∧ (∀ e ∈ Ui, Good 60 e.2) ∧ Ui.length ≤ U.length + sizes (as.take i) ∧
                (m = 0 → ∀ g, Sat U g ∧ Fits ((as.zip bs).take i) g ↔ Sat Ui g) ∧ (0 < m → ∀ g, ¬ (Sat U g ∧ Fits ((as.zip bs).take i) g)))
              ⟨0, U, Nat.le_refl _, upd_same, But.of eD, ⟨es, eD _ _ hDS, hV.mono (Tups.of (e12.trans eD))⟩, nd, gd, Nat.le_add_right _ _, fun _ g => ⟨fun h => h.1, fun h => ⟨h, fits_nil⟩⟩, fun z => absurd z (Nat.lt_irrefl _)⟩
              (fun i H' _ ⟨_, _, _, _, hb, _⟩ => ⟨hb.tups hDS _ _ hP1, hb.tups hDS _ _ hP2⟩) ?_ ?_
            · rintro i x Hx H' hi ⟨m, Ui, hm, hL, hb, hUi, ndi, gdi, li, c0, c1⟩ ⟨TT, x1, x2, rfl, hTT, rfl, hx1, hx2⟩
              have e6 := Ex.new (o := HO.tup [x1, x2]) hTT
              have m6 := (hb.tups (K := K) hDS).trans (Tups.of e6)
              obtain ⟨ai, hai, hra⟩ := (hA2.mono m6).get hx1
              obtain ⟨bi, hbi, hrb⟩ := (hB2.mono m6).get hx2
              have hdi := depths_get hai
              have gbi := good_args hG bi (List.mem_of_getElem? hbi)
              have zi : sizes (as.take (i + 1)) = sizes (as.take i) + size ai := by
                rw [take_snoc hai, sizes_app, sizes_one]
              have z2 := sizes_take as (i + 1)
              have hz : (as.zip bs)[i]? = some (ai, bi) := List.getElem?_zip_eq_some.mpr ⟨hai, hbi⟩
              obtain ⟨es2, hD2, hV2⟩ := hUi
              refine ⟨TT, _, rfl, SqT.of upd_same, rfl, _, _, rfl, _, _, rfl, rfl, rfl, ?_⟩
              refine ⟨_, rfl, _, rfl, _, rfl, x1, ai, x2, bi, d, Ui, rfl, hra, hrb, oks_get hOc.2.2.2 hai, by omega, by omega, gbi, ⟨es2, e6 _ _ hD2, hV2.mono (Tups.of e6)⟩, ndi, gdi, by omega, fun bb U' H7 bt hU' nd' gd' lU' yes no => ?_⟩
              have hL7 : H7 D = some (.lst (List.replicate m (.int 1))) := bt D _ hDd (e6 _ _ hL)
              have bt2 : But d HS H7 := hb.trans ((But.of e6).trans bt)
              refine ⟨_, rfl, ?_⟩
              cases bb with
              | true =>
                refine iteF ⟨m, U', by omega, hL7, bt2, hU', nd', gd', by omega, fun z g => ?_, fun z g h => ?_⟩
                · rw [take_snoc hz, fits_app, fits_one, ← yes rfl g, ← c0 z g]
                  exact ⟨fun h => ⟨⟨h.1, h.2.1⟩, h.2.2⟩, fun h => ⟨h.1.1, h.1.2, h.2⟩⟩
                · rw [take_snoc hz, fits_app] at h
                  exact c1 z g ⟨h.1, h.2.1⟩
              | false =>
                have sn : List.replicate m (V.int 1) ++ [V.int 1] = List.replicate (m + 1) (V.int 1) := (List.replicate_succ' ..).symm
                refine iteT ⟨_, hL7, small5' (by rw [List.length_replicate]; have := Reps.len hA; omega), m + 1, U', by omega, by rw [upd_same, sn], ?_, ?_, nd', gd', by omega, fun z => absurd z (by omega), fun _ g h => ?_⟩
                · exact bt2.mut hD0
                · obtain ⟨es3, hD3, hV3⟩ := hU'
                  exact ⟨es3, by rw [upd_ne hDd.symm]; exact hD3, hV3.mono (Tups.lst hL7)⟩
                · rw [take_snoc hz, fits_app, fits_one] at h
                  by_cases z : m = 0
                  · exact no rfl g ⟨(c0 z g).mp ⟨h.1, h.2.1⟩, h.2.2⟩
                  · exact c1 (by omega) g ⟨h.1, h.2.1⟩
            · rintro H' ⟨m, Ui, hm, hL, hb, hUi, ndi, gdi, li, c0, c1⟩
              have tk : (as.zip bs).take as.length = as.zip bs := List.take_of_length_le (by rw [List.length_zip]; omega)
              rw [tk] at c0 c1
              rw [List.take_of_length_le (Nat.le_refl _)] at li
              refine ⟨Nat.zero_le _, fun p9 hp9 => ?_⟩
              have e9 := Ex.new (o := HO.lst []) hp9
              refine ⟨_, _, ones_dp (e9 _ _ hL), .lst (SqL.of upd_same) .nil, ones_shaped m, rfl, ?_⟩
              rw [ones_eq]
              obtain ⟨es3, hD3, hV3⟩ := hUi
              refine q _ Ui _ ((But.of e12).trans (hb.trans (But.of e9))) ⟨es3, e9 _ _ hD3, hV3.mono (Tups.of e9)⟩ ndi gdi (by omega) (fun z g => ?_) fun z g h => ?_
              · rw [← c0 (of_decide_eq_true z) g, comp_fits g f hab]
              · rw [comp_fits g f hab] at h
                exact c1 (by have := of_decide_eq_false z; omega) g h
          · rw [decide_eq_false (fun z => ef (by injection z))]
            exact iteT (no (fun z => ef z.1) _ (Ex.refl _))
        · rw [decide_eq_false el]
          rw [List.length_cons, List.length_cons] at el
          exact iteT (iteT (no (fun z => el (by omega)) _ (Ex.refl _)))
theorem ok_law_found (T : Tx K mg) : ∀ n : Nat, FnOk P w K mg base CX0 (n + 3) T.f_law_found T.d_law_found ["_law_general", "_law_special", "_law_table"] (spFound K n)
  | 0 => by
    have no : ∀ vs H Q E, ¬ spFound K 0 vs H Q E := fun vs H Q E ⟨_, t, _, _, _, _, _, _, _, _, h, _⟩ => by
      have := depth_pos t
      omega
    exact ⟨fun vs H Q E h => absurd h (no vs H Q E), fun A outer s H args us vs Q E _ _ _ _ h => absurd h (no vs H Q E)⟩
  | n + 1 => found_step T n (ok_law_found T n)
end
end Hm

set_option Elab.async false
set_option linter.all false
set_option maxRecDepth 100000
set_option maxHeartbeats 1000000
namespace Hm
open PySem PySem.Spec PyProof.Rows L2 HT LamX RZ
open Evl (Ex)
theorem due_of {K : PySem.W.Frag} {H H2 : Hp} (m : Tups K H H2) : ∀ {ps : List V} {es : List (Int × V)} {U : Tb}, PySem.Paired (fun (v : V) (e : Int × V) => ∃ t, v = .ref t ∧ H2 t = some (.tup [.int e.1, e.2])) ps es → TbV K H es U →
    PySem.Paired (fun (v : V) (e : Int × Tm) => ∃ t y, v = .ref t ∧ SqT K H2 t [.int e.1, y] ∧ Rep K H2 e.2 y) ps U
  | _, _, _, .nil, .nil => .nil
  | _, _, _, .cons ⟨t, e1, e2⟩ r, .cons ⟨h1, h2⟩ g => .cons ⟨t, _, e1, by rw [← h1]; exact SqT.of e2, h2.mono m⟩ (due_of m r g)
section
variable {P : Program} {w : World} {K : PySem.W.Frag} {mg : Str → Option Value} {base : Heap}
def spDue (K : PySem.W.Frag) : Sp := fun vs H Q _ => ∃ v t v' t', vs = [v, v'] ∧ Rep K H t v ∧ Rep K H t' v' ∧ Ok t ∧ depth t ≤ 10 ∧ size t ≤ 1000 ∧ Good 60 t' ∧
  ∀ x o H', Ex H H' → DueAt K H' x o → Told t t' o → GoodT 60 o → Q x H'
theorem ok_law_due (T : Tx K mg) : FnOk P w K mg base CX0 14 T.f_law_due T.d_law_due ["_law_general", "_law_special"] (spDue K) := by
  refine T.h_law_due.F.ok sc_law_due (fun vs H Q E h => ?_) (fun cdv A outer s H vs Q E hr h => ?_)
  · obtain ⟨v, t, v', t', rfl, _⟩ := h
    rfl
  obtain ⟨v, t, v', t', rfl, hR, hR', hO, hd, hz, hG, q⟩ := h
  refine ⟨_, (pss_cons (ps_set (i := 2) sc_law_due.nd rfl (Or.inl rfl) pe_dnewK)
    (pss_one (ps_ret (pe_ifExp (pt_val (cl (ok_law_found T 10) T.h_law_found hr (pa_cons (pv 0) (pa_cons (pv 1) (pa_cons (pv 2) pa_nil))))) (pe_callB (cr_sortIK rfl) rfl T.b_sorted (by decide +kernel) (pa_cons (pe_bm0 PySem.F.plainAttrs_dict PySem.F.slot_dict_items PySem.F.type_dict_items mt_itemsK (pv 2)) pa_nil)) pe_non)))), ?_⟩
  intro d hd0
  have e1 := Ex.new (o := HO.dK []) hd0
  refine ⟨_, rfl, _, rfl, _, rfl, v, t, v', t', d, [], rfl, hR.mono (Tups.of e1), hR'.mono (Tups.of e1), hO, hd, by decide, hG, ⟨[], upd_same, .nil⟩, List.nodup_nil, (fun e he => by cases he), by show 0 + size t ≤ 1000; omega, fun b U' H' bt hU' nd' gd' lU' yes no => ?_⟩
  have eH : Ex H H' := fun p o h => bt p o (ne_of_none h hd0) (e1 _ _ h)
  refine ⟨_, rfl, ?_⟩
  cases b with
  | false => exact iteF (q .non none H' eH rfl (fun g e => no rfl g ⟨sat_nil, e⟩) trivial)
  | true =>
    obtain ⟨es, hD, hV⟩ := hU'
    have lV := Paired.length hV
    have hk := hV.keys
    refine iteT ⟨_, rfl, .inr (.inr (.inl ⟨rfl, .inl ⟨_, hD⟩⟩)), d, _, rfl, rfl, hD, fun p hp => ?_⟩
    have e2 := Ex.new (o := L2.DX.itemsO p d) hp
    have z := size_pos t
    refine ⟨p, d, es, rfl, upd_same, e2 _ _ hD, by rw [hk]; exact nd', by have : ([] : Tb).length = 0 := rfl; omega, fun l es' ps H2 e3 hL hP pm pw => ?_⟩
    have eb := e2.trans e3
    obtain ⟨U'', hF', pU, rU⟩ := sorted_rise (F := fun (e : Int × V) (p : Int × Tm) => e.1 = p.1 ∧ Rep K H' p.2 e.2) (fun _ _ h => h.1) hV pm pw
    refine q (.ref l) (some U'') H2 (eH.trans eb) ⟨l, ps, rfl, hL, due_of (Tups.of eb) hP hF'⟩ ⟨(pU.map (·.1)).nodup_iff.mpr nd', rU, fun g => ?_⟩ fun e he => gd' e (pU.mem_iff.mp he)
    have hy := yes rfl g
    constructor
    · exact fun h e he => (hy.mp ⟨sat_nil, h⟩) e (pU.mem_iff.mp he)
    · exact fun h => (hy.mpr fun e he => h e (pU.mem_iff.mpr he)).2
end
end Hm

set_option Elab.async false
set_option linter.all false
set_option maxRecDepth 100000
set_option maxHeartbeats 1000000
namespace Hm
open PySem PySem.Spec PyProof.Rows L2 HT LamX RZ
open Evl (Ex)
theorem cut_to (xs : List V) (k : Nat) : cutV xs none (some (k : Int)) = xs.take k := by
  unfold cutV
  rw [sIx_none, sIx_nat, List.drop_zero, Nat.sub_zero]
  by_cases h : k ≤ xs.length
  · rw [Nat.min_eq_left h]
  · rw [Nat.min_eq_right (by omega), List.take_of_length_le (Nat.le_refl _), List.take_of_length_le (by omega)]
theorem cut_from (xs : List V) (k : Nat) : cutV xs (some (k : Int)) none = xs.drop k := by
  unfold cutV
  rw [sIx_none, sIx_nat]
  by_cases h : k ≤ xs.length
  · rw [Nat.min_eq_left h, List.take_of_length_le (by rw [List.length_drop]; exact Nat.le_refl _)]
  · rw [Nat.min_eq_right (by omega), List.drop_eq_nil_of_le (Nat.le_refl _), List.drop_eq_nil_of_le (by omega)]
    simp
theorem Reps.cut {K : PySem.W.Frag} {H : Hp} : ∀ {ts : List Tm} {vs : List V} (k : Nat), Reps K H ts vs → Reps K H (ts.take k) (vs.take k) ∧ Reps K H (ts.drop k) (vs.drop k)
  | ts, vs, 0, h => ⟨Reps.nil, h⟩
  | [], vs, k + 1, h => by
    rw [h.nil_inv]
    exact ⟨Reps.nil, Reps.nil⟩
  | t :: ts, vs, k + 1, h => by
    obtain ⟨v, ws, rfl, h1, h2⟩ := h.cons_inv
    obtain ⟨a, b⟩ := Reps.cut k h2
    exact ⟨Reps.cons h1 a, b⟩
theorem split_at {α : Type} {l : List α} {k : Nat} {x : α} (h : l[k]? = some x) : l = l.take k ++ (x :: l.drop (k + 1)) := by
  obtain ⟨hk, e⟩ := List.getElem?_eq_some_iff.mp h
  rw [← e, ← List.drop_eq_getElem_cons hk, List.take_append_drop]
theorem map_erase {α β : Type} (f : α → β) : ∀ (xs : List α) (k : Nat), (xs.map f).eraseIdx k = (xs.eraseIdx k).map f
  | [], _ => rfl
  | x :: xs, 0 => rfl
  | x :: xs, k + 1 => by
    show f x :: (xs.map f).eraseIdx k = f x :: (xs.eraseIdx k).map f
    rw [map_erase f xs k]
/-! ## what is put for a variable -/
structure Fine (t : Tm) : Prop where
  ok : Ok t
  siz : size t ≤ 9
  dep : depth t ≤ 2
mutual
theorem fine_sub {g : Int → Tm} (hg : ∀ k, 0 ≤ k → Fine (g k)) : ∀ t : Tm, Ok t → Ok (sub g t) ∧ size (sub g t) ≤ 9 * size t ∧ depth (sub g t) ≤ depth t + 1
  | .var k, h => by
    unfold Ok at h
    have f := hg k h
    rw [sub_var]
    exact ⟨f.ok, f.siz, f.dep⟩
  | .int _, h => ⟨h, by unfold sub size; omega, by unfold sub depth; omega⟩
  | .atom _, h => ⟨h, by unfold sub size; omega, by unfold sub depth; omega⟩
  | .comp f as, h => by
    unfold Ok at h
    obtain ⟨h1, h2, h3⟩ := fine_subs hg as h.2.2.2
    rw [sub_comp]
    refine ⟨?_, ?_, ?_⟩
    · unfold Ok
      rw [subs_len]
      exact ⟨h.1, h.2.1, h.2.2.1, h1⟩
    · unfold size
      omega
    · unfold depth
      have : 1 ≤ depths as := by
        cases as with
        | nil => exact absurd h.2.1 (by simp)
        | cons a as =>
          rw [depths_cons]
          have := depth_pos a
          omega
      omega
theorem fine_subs {g : Int → Tm} (hg : ∀ k, 0 ≤ k → Fine (g k)) : ∀ ts : List Tm, Oks ts → Oks (subs g ts) ∧ sizes (subs g ts) ≤ 9 * sizes ts ∧ depths (subs g ts) ≤ depths ts + 1
  | [], _ => ⟨trivial, by unfold subs sizes; omega, by unfold subs depths; omega⟩
  | t :: ts, h => by
    rw [oks_cons] at h
    obtain ⟨h1, h2, h3⟩ := fine_sub hg t h.1
    obtain ⟨g1, g2, g3⟩ := fine_subs hg ts h.2
    rw [subs_cons, oks_cons, sizes_cons, sizes_cons, depths_cons, depths_cons]
    exact ⟨⟨h1, g1⟩, by omega, by omega⟩
end
def TabF (K : PySem.W.Frag) (H : Hp) (kvs : List (Key × V)) : Prop := ∀ (k : Int) u, valV kvs (Sum.inl k : Key) = some u → ∃ t, Rep K H t u ∧ Fine t
theorem tabF_nil {K : PySem.W.Frag} {H : Hp} : TabF K H [] := fun k u h => by simp [valV] at h
theorem TabF.mono {K : PySem.W.Frag} {H H' : Hp} {kvs : List (Key × V)} (e : Tups K H H') (h : TabF K H kvs) : TabF K H' kvs := fun k u hu => by
  obtain ⟨t, h1, h2⟩ := h k u hu
  exact ⟨t, h1.mono e, h2⟩
theorem TabF.put {K : PySem.W.Frag} {H : Hp} {kvs : List (Key × V)} (h : TabF K H kvs) {k : Int} {v : V} {t : Tm} (hr : Rep K H t v) (ft : Fine t) : TabF K H (putK kvs (Sum.inl k : Key) v) := fun j u hu => by
  rw [valV_put] at hu
  by_cases z : (Sum.inl j : Key) = Sum.inl k
  · rw [if_pos z] at hu
    have := Option.some.inj hu
    subst this
    exact ⟨t, hr, ft⟩
  · rw [if_neg z] at hu
    exact h j u hu
theorem fine_var {k : Int} (h : 0 ≤ k) : Fine (.var k) := ⟨by unfold Ok; exact h, by unfold size; omega, by unfold depth; omega⟩
theorem TabF.tab {K : PySem.W.Frag} {H : Hp} {kvs : List (Key × V)} {d : Addr} (h : TabF K H kvs) (hd : H d = some (.dK kvs)) : ∃ g, TabRep K H d g ∧ ∀ k, 0 ≤ k → Fine (g k) := by
  have f : ∀ k : Int, ∃ t, (∀ u, valV kvs (Sum.inl k : Key) = some u → Rep K H t u) ∧ (valV kvs (Sum.inl k : Key) = none → t = .var k) ∧ (0 ≤ k → Fine t) := fun k => by
    cases z : valV kvs (Sum.inl k : Key) with
    | none => exact ⟨.var k, fun u hu => (by cases hu), fun _ => rfl, fine_var⟩
    | some u =>
      obtain ⟨t, h1, h2⟩ := h k u z
      exact ⟨t, fun w hw => (by cases hw; exact h1), fun hw => (by cases hw), fun _ => h2⟩
  exact ⟨fun k => (f k).choose, ⟨kvs, .inl hd, fun k => ⟨(f k).choose_spec.1, (f k).choose_spec.2.1⟩⟩, fun k hk => (f k).choose_spec.2.2 hk⟩
theorem Dr.mut {a p : Addr} {H H' : Hp} {o : HO} (d : Dr a H H') (n : p ≠ a) (hp : H p = none) : Dr a H (L2.upd H' p o) := by
  obtain ⟨x, y, z, hw⟩ := d.well
  refine ⟨⟨x, y, z, by rw [upd_ne n.symm]; exact hw⟩, fun b o hb hq => ?_⟩
  rw [upd_ne (ne_of_none hq hp)]
  exact d.keep b o hb hq
section
variable {P : Program} {w : World} {K : PySem.W.Frag} {mg : Str → Option Value} {base : Heap}
def spOther (K : PySem.W.Frag) (n : Nat) : Sp := fun vs H Q _ => ∃ a v t, vs = [.ref a, v] ∧ Well H a ∧ Rep K H t v ∧ Ok t ∧ size t ≤ 1000 ∧ depth t ≤ n ∧ depth t ≤ 10 ∧ ∀ u t' H', Dr a H H' → Rep K H' t' u → Ok t' → size t' ≤ 9 * size t + 19 → depth t' ≤ depth t + 2 → Q u H'
theorem other_step (T : Tx K mg) (n : Nat) (ih : FnOk P w K mg base CX0 (n + 13) T.f_law_other T.d_law_other ["_law_well_here", "_law_term_here"] (spOther K n)) :
    FnOk P w K mg base CX0 (n + 13 + 1) T.f_law_other T.d_law_other ["_law_well_here", "_law_term_here"] (spOther K (n + 1)) := by
  refine T.h_law_other.F.ok sc_law_other (fun vs H Q E h => ?_) (fun cdv A outer s H vs Q E hr h => ?_)
  · obtain ⟨a, v, _, rfl, _⟩ := h
    rfl
  obtain ⟨a, v, t, rfl, hW, hR, hO, hz, hd, hd10, q⟩ := h
  have hu := hu_of hr
  refine ⟨_, (pss_cons (ps_set (i := 2) sc_law_other.nd rfl (Or.inl rfl) (cl (ok_law_draw T) T.h_law_draw hr (pa_cons (pv 0) (pa_cons pe_int pa_nil))))
    (pss_cons (ps_if (pt_cmpR op_lt (pv 2) pe_int (nomark _))
      (pss_cons (ps_set (i := 3) sc_law_other.nd rfl (Or.inl rfl) (pe_callTy (call_dictP rfl) rfl T.b_dict (by decide +kernel) (pa_cons (pe_lc (own := [("_law_k", 5)]) (g := gName 5) rfl sc_law_other.nd (pi_range1 rfl T.b_range (pa_cons pe_int pa_nil)) (blkOk_by (own := [("_law_k", 5)]) (N := ["_law_well_here", "_law_term_here", "_law_way", "_law_table", "_law_left", "_law_k", "_law_at"]) (sc := defScope s_law_other) (by decide +kernel)) (fun _ _ _ _ _ => pg_name (i := 5) sc_law_other.nd rfl (Or.inl rfl)) (fun _ _ _ _ _ => pts_one (pt_cmpR op_gt (cl (ok_law_draw T) T.h_law_draw hr (pa_cons (pv 0) (pa_cons pe_int pa_nil))) pe_int (nomark _))) (fun _ _ _ _ _ => (pe_tup (pa_cons (pv 5) (pa_cons (cl (ok_law_term T 2) T.h_law_term hr (pa_cons (pv 0) (pa_cons pe_int (pa_cons pe_int pa_nil)))) pa_nil))))) pa_nil)))
    (pss_one (ps_ret (cl (ok_law_put T 10) T.h_law_put hr (pa_cons (pv 1) (pa_cons (pv 3) pa_nil))))))
      pss_nil)
    (pss_cons (ps_if (pt_cmpR op_eq (pv 2) pe_int (nomark _))
      (pss_cons (ps_par (i := 4) (j := 3) rfl sc_law_other.nd rfl rfl (by decide) rfl rfl (pa_cons (pe_lst (pa_cons pe_int (pa_cons pe_int (pa_cons pe_int (pa_cons pe_int (pa_cons pe_int (pa_cons pe_int (pa_cons pe_int (pa_cons pe_int pa_nil))))))))) (pa_cons pe_dnewK pa_nil)) rfl)
    (pss_cons (ps_for PassesOwn.never rfl (pi_range1 rfl T.b_range (pa_cons pe_int pa_nil)) (pg_name (i := 5) sc_law_other.nd rfl (Or.inl rfl))
      (pss_one (ps_dput hu (pv 3) (pv 5) (pe_tup (pa_cons (pe_bm PySem.F.plainAttrs_list PySem.F.slot_list_pop PySem.F.type_list_pop mt_popAt (pv 4) (pa_cons (cl (ok_law_draw T) T.h_law_draw hr (pa_cons (pv 0) (pa_cons (pe_callB call_len_seq rfl T.b_len (by decide +kernel) (pa_cons (pv 4) pa_nil)) pa_nil))) pa_nil)) pa_nil)) rfl)))
    (pss_one (ps_ret (cl (ok_law_put T 10) T.h_law_put hr (pa_cons (pv 1) (pa_cons (pv 3) pa_nil)))))))
      pss_nil)
    (pss_cons (ps_if (PW.pt (pw_and (pt_cmpR op_eq (pv 2) pe_int (nomark _)) (pw_and1 (pt_val (cl (ok_law_is_compound T) T.h_law_is_compound hr (pa_cons (pv 1) pa_nil))))))
      (pss_cons (ps_set (i := 6) sc_law_other.nd rfl (Or.inl rfl) (pe_op op_add pe_int (cl (ok_law_draw T) T.h_law_draw hr (pa_cons (pv 0) (pa_cons (pe_op op_sub (pe_callB call_len_seq rfl T.b_len (by decide +kernel) (pa_cons (pv 1) pa_nil)) pe_int) pa_nil)))))
    (pss_one (ps_ret (pe_op op_catT (pe_op op_catT (pe_slice sl_tup (pv 1) po_none (po_some (pv 6))) (pe_tup (pa_cons (cl ih T.h_law_other hr (pa_cons (pv 0) (pa_cons (pe_ix ix_tup (pv 1) (pv 6) (fun _ _ => rfl)) pa_nil))) pa_nil))) (pe_slice sl_tup (pv 1) (po_some (pe_op op_add (pv 6) pe_int)) po_none)))))
      pss_nil)
    (pss_one (ps_ret (cl (ok_law_term T 3) T.h_law_term hr (pa_cons (pv 0) (pa_cons pe_int (pa_cons pe_int pa_nil)))))))))), ?_⟩
  have szp := size_pos t
  have put : ∀ (H' : Hp) (d : Addr) (kvs : List (Key × V)) (σ : L2.St), Dr a H H' → H' d = some (.dK kvs) → TabF K H' kvs → σ[1]? = some (some v) → σ[3]? = some (some (.ref d)) → (tCall (spLPut K 10) [] E0 (tCons (tVar 1) (tCons (tVar 3) tNil))) σ H' Q := fun H' d kvs σ dr hdk hF h1 h3 => by
    obtain ⟨g, hT, hg⟩ := hF.tab hdk
    obtain ⟨f1, f2, f3⟩ := fine_sub hg t hO
    exact ⟨_, h1, _, h3, v, t, d, g, rfl, hR.mono (Dr.tups hW dr), hO, hz, hd10, hT, fun u H2 e2 hu => q u (sub g t) H2 (dr.trans (Dr.ex dr.well e2)) hu f1 (by omega) (by omega)⟩
  have fresh : ∀ H' (σ : L2.St), Dr a H H' → σ[0]? = some (some (.ref a)) → (tCall (spTermD K 3) [] E0 (tCons (tVar 0) (tCons (tC (.int 3)) (tCons (tC (.int 6)) tNil)))) σ H' Q := fun H' σ dr h0 =>
    ⟨_, h0, a, 6, rfl, dr.well, by decide, by decide, fun u t' H2 d2 hR2 hD => q u t' H2 (dr.trans d2) hR2 hD.ok (by have h9 : size t' ≤ 19 := hD.siz; omega) (by have h2 : depth t' ≤ 3 := hD.dep; have := depth_pos t; omega)⟩
  refine ⟨_, rfl, a, _, rfl, hW, by decide, by decide, fun way H1 w0 w5 dr1 => ?_⟩
  refine ⟨_, rfl, _, _, rfl, rfl, _, rfl, ite2 (fun _ => ?_) (fun _ => ?_)⟩
  · refine ⟨6, rfl, by decide, by decide, fun D hD => ?_⟩
    have hDa := dr1.well.ne hD
    have e2 := Ex.new (o := HO.lst []) hD
    refine lc_it walk_range (fun i H' => Dr a H1 H' ∧ ∃ (ps : List Addr) (kvs : List (Key × V)), H' D = some (.lst (ps.map V.ref)) ∧ PySem.Paired (fun (p : Addr) (kv : Key × V) => SqT K H' p [kV kv.1, kv.2]) ps kvs ∧ ps.length ≤ i ∧ TabF K H' (mergeK [] kvs))
      ⟨Dr.ex dr1.well e2, [], [], upd_same, .nil, Nat.le_refl _, tabF_nil⟩ (fun _ _ _ _ => trivial) ?_ ?_
    · rintro i x H3x H3 hi ⟨d3, ps, kvs, hK, hP, hpl, hF⟩ ⟨rfl, rfl⟩
      have hi6 : i < 6 := hi
      refine ⟨rfl, _, rfl, a, _, rfl, d3.well, by decide, by decide, fun c H4 c0 c3 d4 => ?_⟩
      have t4 : Tups K H3 H4 := Dr.tups d3.well d4
      have hK4 := d4.keep D _ hDa hK
      refine ⟨_, _, rfl, rfl, _, rfl, ite2 (fun _ => ?_) (fun _ => ?_)⟩
      · refine ⟨_, rfl, _, rfl, a, 6, rfl, d4.well, by decide, by decide, fun u t' H5 d5 hR5 hD5 => ⟨(by show 2 ≤ sizeLine; decide), fun tp htp => ?_⟩⟩
        have t5 : Tups K H4 H5 := Dr.tups d4.well d5
        have e6 := Ex.new (o := HO.tup [V.int (0 + (i : Int)), u]) htp
        have hK6 := e6 _ _ (d5.keep D _ hDa hK4)
        have t6 := (t4.trans t5).trans (Tups.of (K := K) e6)
        have tD := Tups.lst (K := K) (o := HO.lst (ps.map V.ref ++ [V.ref tp])) hK6
        refine ⟨_, hK6, small5' (by rw [List.length_map]; omega), ?_, ps ++ [tp], kvs ++ [((Sum.inl (0 + (i : Int)) : Key), u)], ?_, ?_, ?_, ?_⟩
        · exact (d3.trans (d4.trans (d5.trans (Dr.ex d5.well e6)))).mut hDa hD
        · rw [upd_same, List.map_append]
          rfl
        · exact Paired.snoc (Paired.mapP hP fun p kv h => tD _ _ (t6 _ _ h)) (tD _ _ (SqT.of upd_same))
        · rw [List.length_append, List.length_singleton]
          omega
        · rw [merge_snoc]
          exact ((hF.mono t6).mono tD).put ((hR5.mono (Tups.of e6)).mono tD) ⟨hD5.ok, hD5.siz, hD5.dep⟩
      · exact ⟨d3.trans d4, ps, kvs, hK4, Paired.mapP hP fun p kv h => t4 _ _ h, by omega, hF.mono t4⟩
    · rintro H3 ⟨d3, ps, kvs, hK, hP, hpl, hF⟩
      refine ⟨D, ps, kvs, rfl, SqL.of hK, hP, fun d hd2 => ?_⟩
      have e7 := Ex.new (o := HO.dK (mergeK [] kvs)) hd2
      exact put _ d _ _ ((dr1.trans d3).trans (Dr.ex d3.well e7)) upd_same (hF.mono (Tups.of e7)) rfl rfl
  · refine ⟨_, rfl, rfl, _, rfl, ite2 (fun _ => ?_) (fun _ => ?_)⟩
    · refine ⟨(by show 8 ≤ sizeLine; decide), fun l hl d hdn => ⟨_, _, rfl, 6, rfl, by decide, by decide, ?_⟩⟩
      have e2 := Ex.new (o := HO.lst [V.int 3, V.int 4, V.int 5, V.int 0, V.int 1, V.int 2, V.int 7, V.int 8]) hl
      have e3 := Ex.new (o := HO.dK []) hdn
      have hla := dr1.well.ne hl
      have w2 := (Dr.ex dr1.well e2).well
      have hda := w2.ne hdn
      have hdl : d ≠ l := (ne_of_none upd_same hdn).symm
      have hd0 : H1 d = none := Evl.fresh_back e2 hdn
      refine for_range (lo := 0) (fun i σ' H' => ∃ (xs : List Int) (kvs : List (Key × V)) (x5 : Option V), σ' = [some (.ref a), some v, some (.int way), some (.ref d), some (.ref l), x5, none] ∧ Dr a H1 H' ∧ H' l = some (.lst (xs.map V.int)) ∧ xs.length + i = 8 ∧ (∀ x ∈ xs, 0 ≤ x) ∧ H' d = some (.dK kvs) ∧ kvs.length ≤ i ∧ TabF K H' kvs)
        ⟨[3, 4, 5, 0, 1, 2, 7, 8], [], none, rfl, Dr.ex dr1.well (e2.trans e3), e3 _ _ upd_same, rfl, by decide, upd_same, Nat.le_refl _, tabF_nil⟩ ?_ ?_
      · rintro i σ' H3 hi ⟨xs, kvs, x5, rfl, d3, hL, hlen, hpos, hD, hkl, hF⟩
        have hi6 : i < 6 := hi
        refine ⟨_, rfl, .inl ⟨rfl, _, SqL.of hL⟩, _, rfl, _, rfl, l, _, rfl, .inl (SqL.of hL), a, _, rfl, d3.well, by rw [List.length_map]; omega, by rw [List.length_map]; omega, fun c H4 c0 cm d4 => ?_⟩
        have hL4 := d4.keep _ _ hla hL
        rw [List.length_map] at cm
        have hk : c.toNat < xs.length := by omega
        refine ⟨l, _, c, c.toNat, .int xs[c.toNat], rfl, rfl, hL4, by omega, by omega, by rw [List.length_map]; exact seqIndex_of c0 (by omega), by rw [List.getElem?_map, List.getElem?_eq_getElem hk]; rfl, ?_⟩
        refine ⟨(by show 1 ≤ sizeLine; decide), fun tp htp => ?_⟩
        have hL4b : ∀ o, (upd H4 l o) d = some (.dK kvs) := fun o => by
          rw [upd_ne hdl]
          exact d4.keep _ _ hda hD
        have t4 : Tups K H3 H4 := Dr.tups d3.well d4
        have t5 : Tups K H4 (upd H4 l (.lst ((xs.map V.int).eraseIdx c.toNat))) := Tups.lst hL4
        have e6 := Ex.new (o := HO.tup [V.int xs[c.toNat]]) htp
        have t6 := (t4.trans t5).trans (Tups.of (K := K) e6)
        have d6 : Dr a H1 (upd (upd H4 l (.lst ((xs.map V.int).eraseIdx c.toNat))) tp (.tup [V.int xs[c.toNat]])) := ((d3.trans d4).mut hla hl).trans (Dr.ex ((d3.trans d4).mut hla hl).well e6)
        have hD6 := e6 _ _ (hL4b (.lst ((xs.map V.int).eraseIdx c.toNat)))
        have hL6 : (upd (upd H4 l (.lst ((xs.map V.int).eraseIdx c.toNat))) tp (.tup [V.int xs[c.toNat]])) l = some (.lst ((xs.eraseIdx c.toNat).map V.int)) := by
          rw [← map_erase]
          exact e6 _ _ upd_same
        have hT6 : SqT K (upd (upd H4 l (.lst ((xs.map V.int).eraseIdx c.toNat))) tp (.tup [V.int xs[c.toNat]])) tp [V.int xs[c.toNat]] := SqT.of upd_same
        generalize upd (upd H4 l (.lst ((xs.map V.int).eraseIdx c.toNat))) tp (.tup [V.int xs[c.toNat]]) = H6 at *
        refine ⟨_, rfl, _, rfl, d, _, rfl, DPut.k (k := Sum.inl _) hD6 (small5' (by omega)), ?_⟩
        have t7 : Tups K H6 (upd H6 d (.dK (putK kvs (Sum.inl ((0 : Int) + (i : Int)) : Key) (.ref tp)))) := tups_dk hD6
        have p0 := hpos _ (List.getElem_mem hk)
        refine ⟨_, putK kvs (Sum.inl ((0 : Int) + (i : Int)) : Key) (.ref tp), _, rfl, d6.mut hda hd0, by rw [upd_ne hdl.symm]; exact hL6, by rw [List.length_eraseIdx_of_lt hk]; omega, fun x hx => hpos x (List.mem_of_mem_eraseIdx hx), upd_same, Nat.le_trans (length_putK _ _ _) (by omega), ?_⟩
        refine ((hF.mono t6).mono t7).put (t := .var xs[c.toNat]) ?_ (fine_var p0)
        unfold Rep
        exact ⟨tp, rfl, t7 _ _ hT6⟩
      · rintro σ' H3 ⟨xs, kvs, x5, rfl, d3, hL, hlen, hpos, hD, hkl, hF⟩
        exact put _ d _ _ (dr1.trans d3) hD hF rfl rfl
    · refine ⟨_, rfl, rfl, _, rfl, ite2 (fun _ => ?_) (fun _ => fresh _ _ dr1 rfl)⟩
      have tu1 := Dr.tups (K := K) hW dr1
      have hR1 := hR.mono tu1
      refine ⟨_, rfl, v, t, rfl, hR1, hO, _, rfl, ?_⟩
      cases t with
      | var k => exact iteF (fresh _ _ dr1 rfl)
      | int k => exact iteF (fresh _ _ dr1 rfl)
      | atom k => exact iteF (fresh _ _ dr1 rfl)
      | comp f as =>
        obtain ⟨b, ws, rfl, hT1, hA1⟩ := (show ∃ b ws, v = .ref b ∧ SqT K H1 b (.str f :: ws) ∧ Reps K H1 as ws by unfold Rep at hR1; exact hR1)
        have hln := hA1.len
        have hOc := hO
        unfold Ok at hOc
        have zl := len_sizes as
        have zc : size (.comp f as) = 1 + sizes as := size_eq (.comp f as)
        refine iteT ⟨_, rfl, _, rfl, b, _, rfl, .inr hT1, _, _, rfl, rfl, a, _, rfl, dr1.well, by rw [List.length_cons]; omega, by rw [List.length_cons]; omega, fun c H2 c0 cm dr2 => ?_⟩
        have tu2 := Dr.tups (K := K) dr1.well dr2
        have hT2 := tu2 _ _ hT1
        have hA2 := hA1.mono tu2
        have drr := dr1.trans dr2
        rw [List.length_cons] at cm
        obtain ⟨k, rfl⟩ : ∃ k : Nat, c = ((k : Nat) : Int) := ⟨c.toNat, by omega⟩
        have ek0 : (1 : Int) + ((k : Nat) : Int) = ((k + 1 : Nat) : Int) := by omega
        refine ⟨_, _, rfl, rfl, ?_⟩
        show gName 6 (V.int (1 + ((k : Nat) : Int))) _ _ _
        rw [ek0]
        have hk : k < ws.length := by omega
        have hne : ¬ (sIx (V.str f :: ws).length 0 none = 0 ∧ sIx (V.str f :: ws).length (V.str f :: ws).length (some ((k + 1 : Nat) : Int)) = (V.str f :: ws).length) := by
          rw [sIx_nat, List.length_cons]
          omega
        refine ⟨_, rfl, _, rfl, _, rfl, b, _, rfl, hT2, hne, fun p1 hp1 => ?_⟩
        rw [cut_to]
        have e3 := Ex.new (o := HO.tup ((V.str f :: ws).take (k + 1))) hp1
        have hP1 : SqT K (upd H2 p1 (.tup ((V.str f :: ws).take (k + 1)))) p1 _ := SqT.of upd_same
        have hT3 := Evl.ex_t e3 hT2
        have hA3 := hA2.mono (Tups.of e3)
        have dr3 := drr.trans (Dr.ex dr2.well e3)
        generalize upd H2 p1 (.tup ((V.str f :: ws).take (k + 1))) = H3 at *
        have hx1 : (V.str f :: ws)[k + 1]? = some ws[k] := by rw [List.getElem?_cons_succ, List.getElem?_eq_getElem hk]
        obtain ⟨ti, hti, hri⟩ := hA3.get (List.getElem?_eq_getElem hk)
        have hdi := depths_get hti
        have hde : depth (.comp f as) = 1 + depths as := by unfold depth; rfl
        have hsi := sizes_get hti
        have hse : size (.comp f as) = 1 + sizes as := by unfold size; rfl
        refine ⟨_, rfl, _, rfl, _, rfl, b, _, _, _, rfl, rfl, hT3, atI_nat hx1, a, _, ti, rfl, dr3.well, hri, oks_get hOc.2.2.2 hti, by omega, by omega, by omega, fun u t' H4 dr4 hR4 hO4 hs4 hd4 => ⟨(by show 1 ≤ sizeLine; decide), fun p2 hp2 => ?_⟩⟩
        have tu4 := Dr.tups (K := K) dr3.well dr4
        have e5 := Ex.new (o := HO.tup [u]) hp2
        have hP1' := Evl.ex_t e5 (tu4 _ _ hP1)
        have hT5 := Evl.ex_t e5 (tu4 _ _ hT3)
        have hA5 := (hA3.mono tu4).mono (Tups.of e5)
        have hR5 := hR4.mono (Tups.of e5)
        have hP2 : SqT K (upd H4 p2 (.tup [u])) p2 [u] := SqT.of upd_same
        have dr5 := (dr3.trans dr4).trans (Dr.ex dr4.well e5)
        generalize upd H4 p2 (.tup [u]) = H5 at *
        refine ⟨p1, p2, _, _, rfl, rfl, hP1', hP2, by simp, small5 (by rw [List.length_take, List.length_cons, List.length_singleton]; omega), (fun z => absurd z (by simp)), fun _ p3 hp3 => ?_⟩
        have e6 := Ex.new (o := HO.tup ((V.str f :: ws).take (k + 1) ++ [u])) hp3
        have hP3 : SqT K (upd H5 p3 (.tup ((V.str f :: ws).take (k + 1) ++ [u]))) p3 _ := SqT.of upd_same
        have hT6 := Evl.ex_t e6 hT5
        have hA6 := hA5.mono (Tups.of e6)
        have hR6 := hR5.mono (Tups.of e6)
        have dr6 := dr5.trans (Dr.ex dr5.well e6)
        generalize upd H5 p3 (.tup ((V.str f :: ws).take (k + 1) ++ [u])) = H6 at *
        have ek : (((k + 1 : Nat) : Int) + 1) = ((k + 2 : Nat) : Int) := by omega
        have hne2 : ¬ (sIx (V.str f :: ws).length 0 (some (((k + 1 : Nat) : Int) + 1)) = 0 ∧ sIx (V.str f :: ws).length (V.str f :: ws).length none = (V.str f :: ws).length) := by
          rw [ek, sIx_nat, List.length_cons]
          omega
        have hnew : Ok (.comp f (as.take k ++ (t' :: as.drop (k + 1)))) ∧ size (.comp f (as.take k ++ (t' :: as.drop (k + 1)))) ≤ 9 * size (.comp f as) + 19 ∧ depth (.comp f (as.take k ++ (t' :: as.drop (k + 1)))) ≤ depth (.comp f as) + 2 := by
          have hsp := split_at hti
          have o1 := hOc.2.2.2
          have sz : sizes as = sizes (as.take k) + (size ti + sizes (as.drop (k + 1))) := by
            conv => lhs; rw [hsp]
            rw [sizes_app, sizes_cons]
          have dz : depths as = max (depths (as.take k)) (max (depth ti) (depths (as.drop (k + 1)))) := by
            conv => lhs; rw [hsp]
            rw [depths_app, depths_cons]
          have hki : k < as.length := by omega
          refine ⟨?_, ?_, ?_⟩
          · rw [hsp] at o1
            have o2 := oks_app.mp o1
            rw [oks_cons] at o2
            unfold Ok
            refine ⟨hOc.1, by rw [List.length_append, List.length_cons]; omega, by rw [List.length_append, List.length_cons, List.length_take, List.length_drop]; omega, oks_app.mpr ⟨o2.1, by rw [oks_cons]; exact ⟨hO4, o2.2.2⟩⟩⟩
          · rw [size_eq, size_eq (.comp f as)]
            show 1 + sizes (as.take k ++ (t' :: as.drop (k + 1))) ≤ 9 * (1 + sizes as) + 19
            rw [sizes_app, sizes_cons, sz]
            omega
          · rw [depth_eq, depth_eq (.comp f as)]
            show 1 + depths (as.take k ++ (t' :: as.drop (k + 1))) ≤ 1 + depths as + 2
            rw [depths_app, depths_cons, dz]
            omega
        have hrow : (V.str f :: ws).take (k + 1) ++ [u] ++ (V.str f :: ws).drop (k + 2) = V.str f :: (ws.take k ++ (u :: ws.drop (k + 1))) := by simp
        refine ⟨_, rfl, _, rfl, _, _, rfl, rfl, _, rfl, b, _, rfl, hT6, hne2, fun p4 hp4 => ?_⟩
        rw [ek, cut_from]
        have e7 := Ex.new (o := HO.tup ((V.str f :: ws).drop (k + 2))) hp4
        have hP4 : SqT K (upd H6 p4 (.tup ((V.str f :: ws).drop (k + 2)))) p4 _ := SqT.of upd_same
        have hP3' := Evl.ex_t e7 hP3
        have hA7 := hA6.mono (Tups.of e7)
        have hR7 := hR6.mono (Tups.of e7)
        have dr7 := dr6.trans (Dr.ex dr6.well e7)
        generalize upd H6 p4 (.tup ((V.str f :: ws).drop (k + 2))) = H7 at *
        have repn : ∀ H' p, Tups K H7 H' → SqT K H' p ((V.str f :: ws).take (k + 1) ++ [u] ++ (V.str f :: ws).drop (k + 2)) → Rep K H' (.comp f (as.take k ++ (t' :: as.drop (k + 1)))) (.ref p) := fun H' p tt hs => by
          rw [hrow] at hs
          unfold Rep
          have hc1 := (Reps.cut k (hA7.mono tt)).1
          have hc2 := (Reps.cut (k + 1) (hA7.mono tt)).2
          exact ⟨p, _, rfl, hs, Reps.app hc1 (Reps.cons (hR7.mono tt) hc2)⟩
        refine ⟨p3, p4, _, _, rfl, rfl, hP3', hP4, by simp, small5 (by simp; omega), fun z => ?_, fun _ p5 hp5 => ?_⟩
        · refine q (.ref p3) _ H7 dr7 (repn H7 p3 (Tups.refl _) ?_) hnew.1 hnew.2.1 hnew.2.2
          rw [z, List.append_nil]
          exact hP3'
        · have e8 := Ex.new (o := HO.tup ((V.str f :: ws).take (k + 1) ++ [u] ++ (V.str f :: ws).drop (k + 2))) hp5
          exact q (.ref p5) _ _ (dr7.trans (Dr.ex dr7.well e8)) (repn _ p5 (Tups.of e8) (SqT.of upd_same)) hnew.1 hnew.2.1 hnew.2.2
theorem ok_law_other (T : Tx K mg) : ∀ n : Nat, FnOk P w K mg base CX0 (n + 13) T.f_law_other T.d_law_other ["_law_well_here", "_law_term_here"] (spOther K n)
  | 0 => by
    have no : ∀ vs H Q E, ¬ spOther K 0 vs H Q E := fun vs H Q E ⟨_, _, t, _, _, _, _, _, h, _⟩ => by
      have := depth_pos t
      omega
    exact ⟨fun vs H Q E h => absurd h (no vs H Q E), fun A outer s H args us vs Q E _ _ _ _ h => absurd h (no vs H Q E)⟩
  | n + 1 => other_step T n (ok_law_other T n)
end
end Hm

set_option Elab.async false
set_option linter.all false
set_option maxRecDepth 100000
set_option maxHeartbeats 1000000
namespace Hm
open PySem PySem.Spec PyProof.Rows L2 HT LamX RZ
open Evl (Ex)
/-! ## all but the well and the tables is as it was -/
structure Kp (a : Addr) (H H' : Hp) : Prop where
  well : Well H' a
  keep : ∀ b o, b ≠ a → (∀ ps, o ≠ .tbl ps) → H b = some o → H' b = some o
theorem Kp.dr {a : Addr} {H H' : Hp} (d : Dr a H H') : Kp a H H' := ⟨d.well, fun b o n _ h => d.keep b o n h⟩
theorem Kp.en {a : Addr} {H H' : Hp} (w : Well H a) (e : ExtN H H') : Kp a H H' := by
  obtain ⟨x, y, z, h⟩ := w
  exact ⟨⟨x, y, z, e _ _ h fun ps z => by cases z⟩, fun b o _ n h => e b o h n⟩
theorem Kp.trans {a : Addr} {H H1 H2 : Hp} (p : Kp a H H1) (q : Kp a H1 H2) : Kp a H H2 := ⟨q.well, fun b o n m h => q.keep b o n m (p.keep b o n m h)⟩
theorem Kp.tups {K : PySem.W.Frag} {a : Addr} {H H' : Hp} (h : Well H a) (d : Kp a H H') : Tups K H H' := fun b ys q => by
  obtain ⟨x, y, z, h⟩ := h
  rcases q with (q | ⟨ob, q⟩) | q
  · exact .inl (.inl (d.keep _ _ (ne_of q h (by intro z; cases z)) (fun ps z => by cases z) q))
  · exact .inl (.inr ⟨ob, d.keep _ _ (ne_of q h (by intro z; cases z)) (fun ps z => by cases z) q⟩)
  · exact .inr q
theorem tabs_dr {T : List (Addr × Str)} {a : Addr} {H H' : Hp} (w : Well H a) (d : Dr a H H') (t : Tabs T H) : Tabs T H' := fun p hp => by
  obtain ⟨x, y, z, h⟩ := w
  obtain ⟨ps, h1, h2, h3⟩ := t p hp
  refine ⟨ps, d.keep _ _ (ne_of h1 h (by intro z; cases z)) h1, h2, fun pos cv hc => ?_⟩
  obtain ⟨c, e1, e2⟩ := h3 pos cv hc
  exact ⟨c, e1, d.keep _ _ (ne_of e2 h (by intro z; cases z)) e2⟩
theorem DueAt.ext {K : PySem.W.Frag} {H H' : Hp} {x : V} : ∀ {o : Option Tb}, ExtN H H' → DueAt K H x o → DueAt K H' x o
  | none, _, h => h
  | some U, e, ⟨p, us, h1, h2, h3⟩ => ⟨p, us, h1, e _ _ h2 (fun ps z => by cases z), Paired.mapP h3 fun v q ⟨t, y, a, b, c⟩ => ⟨t, y, a, ExtN.sqt e b, c.mono (ExtN.tups e)⟩⟩
/-! ## what is due, as data -/
def rowD (e : Int × Tm) : PyData := .tuple [.int e.1, toD e.2]
def dueD : Option Tb → PyData
  | none => .none
  | some U => .list (U.map rowD)
theorem rows_dp {K : PySem.W.Frag} {H : Hp} : ∀ {us : List V} {U : Tb}, PySem.Paired (fun (v : V) (e : Int × Tm) => ∃ t y, v = .ref t ∧ SqT K H t [.int e.1, y] ∧ Rep K H e.2 y) us U → DpAll K H us (U.map rowD)
  | _, _, .nil => .nil
  | _, _, .cons ⟨t, y, a, b, c⟩ r => by
    subst a
    exact .cons (.tup b (.cons (.int _) (.cons (dp_rep c) .nil))) (rows_dp r)
theorem due_dp {K : PySem.W.Frag} {H : Hp} {x : V} : ∀ {o : Option Tb}, DueAt K H x o → Dp K H x (dueD o)
  | none, h => by
    have e : x = .non := h
    subst e
    exact .non
  | some U, ⟨p, us, h1, h2, h3⟩ => by
    subst h1
    exact .lst (SqL.of h2) (rows_dp h3)
theorem rows_lay : ∀ {U : Tb}, (∀ e ∈ U, Good 60 e.2) → PyData.canLayAll0 (U.map rowD) = true
  | [], _ => rfl
  | e :: U, h => by
    have g := h e List.mem_cons_self
    show ((PyData.canLay0 (.int e.1) && (PyData.canLay0 (toD e.2) && true)) && PyData.canLayAll0 (U.map rowD)) = true
    rw [lay_tm g.1, rows_lay fun e he => h e (List.mem_cons_of_mem _ he)]
    rfl
theorem rows_dep : ∀ {U : Tb}, (∀ e ∈ U, Good 60 e.2) → PyData.depthAll (U.map rowD) ≤ 61
  | [], _ => Nat.zero_le _
  | e :: U, h => by
    have g := h e List.mem_cons_self
    have h1 := dep_tm e.2
    have h2 := g.2.2
    have h3 := rows_dep fun e he => h e (List.mem_cons_of_mem _ he)
    show max (max (PyData.depth (.int e.1)) (max (toD e.2).depth (PyData.depthAll [])) + 1) (PyData.depthAll (U.map rowD)) ≤ 61
    have e0 : PyData.depth (.int e.1) = 0 := rfl
    have e1 : PyData.depthAll [] = 0 := rfl
    omega
theorem due_shaped : ∀ {o : Option Tb}, GoodT 60 o → SeqAt.shaped (dueD o) = true
  | none, _ => rfl
  | some U, h => by
    have h1 := rows_dep h
    show (PyData.canLayAll0 (U.map rowD) && decide (PyData.depthAll (U.map rowD) + 1 ≤ 64)) = true
    rw [rows_lay h, decide_eq_true (by omega)]
    rfl
theorem due_non {K : PySem.W.Frag} {H : Hp} {x : V} : ∀ {o : Option Tb}, DueAt K H x o → decide (x = .non) = !o.isSome
  | none, h => by
    have e : x = .non := h
    subst e
    rfl
  | some U, ⟨p, us, h1, h2, h3⟩ => by
    subst h1
    rfl
section
variable {P : Program} {w : World} {K : PySem.W.Frag} {mg : Str → Option Value} {base : Heap}
def spRight (K : PySem.W.Frag) (pp : Addr) : Sp := fun vs H Q _ => ∃ a, vs = [.ref a] ∧ Well H a ∧ Tabs (TM pp) H ∧ ∀ H', Kp a H H' → Tabs (TM pp) H' → Q (.bl true) H'
theorem ok_law_right (T : Tx K mg) {pp : Addr} (TB : TabB base mg T.cc pp) : FnOk P w K mg base CX0 19 T.f_law_right T.d_law_right ["_law_well_here"] (spRight K pp) := by
  refine T.h_law_right.F.ok sc_law_right (fun vs H Q E h => ?_) (fun cdv A outer s H vs Q E hr h => ?_)
  · obtain ⟨a, rfl, _⟩ := h
    rfl
  obtain ⟨a, rfl, hW, hTab, q⟩ := h
  refine ⟨_, (pss_cons (ps_set (i := 1) sc_law_right.nd rfl (Or.inl rfl) (cl (ok_law_term T 5) T.h_law_term hr (pa_cons (pv 0) (pa_cons pe_int (pa_cons pe_int pa_nil)))))
    (pss_cons (ps_for PassesOwn.never rfl (pi_range1 rfl T.b_range (pa_cons pe_int pa_nil)) (pg_name (i := 2) sc_law_right.nd rfl (Or.inl rfl))
      (pss_cons (ps_set (i := 3) sc_law_right.nd rfl (Or.inl rfl) (cl (ok_law_other T 5) T.h_law_other hr (pa_cons (pv 0) (pa_cons (pv 1) pa_nil))))
    (pss_cons (ps_par (i := 4) (j := 5) rfl sc_law_right.nd rfl rfl (by decide) rfl rfl (pa_cons (cl (ok_law_due T) T.h_law_due hr (pa_cons (pv 1) (pa_cons (pv 3) pa_nil))) (pa_cons (cl (ok_law_due T) T.h_law_due hr (pa_cons (pv 3) (pa_cons (pv 1) pa_nil))) pa_nil)) rfl)
    (pss_cons (ps_if (PW.pt (pw_or (pt_cmpR (op_neD hr.units) (cl (ok_matching T TB) T.h_matching.df hr (pa_cons (pv 1) (pa_cons (pv 3) pa_nil))) (pv 4) (nomark _)) (pw_or1 (pt_cmpR (op_neD hr.units) (cl (ok_matching T TB) T.h_matching.df hr (pa_cons (pv 3) (pa_cons (pv 1) pa_nil))) (pv 5) (nomark _)))))
      (pss_one (ps_ret pe_bl))
      pss_nil)
    (pss_cons (ps_if (PW.pt (pw_or (pt_cmpR op_ne (cl (ok_subsumes T TB) T.h_subsumes hr (pa_cons (pv 1) (pa_cons (pv 3) pa_nil))) (pe_cmpR op_notN (pv 4) pe_non (nomark _)) (nomark _)) (pw_or1 (pt_cmpR op_ne (cl (ok_subsumes T TB) T.h_subsumes hr (pa_cons (pv 3) (pa_cons (pv 1) pa_nil))) (pe_cmpR op_notN (pv 5) pe_non (nomark _)) (nomark _)))))
      (pss_one (ps_ret pe_bl))
      pss_nil)
    (Evl.pss_cut (ps_set (i := 6) sc_law_right.nd rfl (Or.inl rfl) (pe_and (pe_cmpR op_notN (pv 4) pe_non (nomark _)) (pe_one (pe_cmpR op_notN (pv 5) pe_non (nomark _)))))
    (pss_one (ps_if (PW.pt (pw_or (pt_cmpR op_ne (cl (ok_is_variant T) T.h_is_variant hr (pa_cons (pv 1) (pa_cons (pv 3) pa_nil))) (pv 6) (nomark _)) (pw_or1 (pt_cmpR op_ne (pv 6) (pe_cmpR (op_eqD hr.units) (cld (ok_law_anew T) T.h_law_anew hr (pa_cons (pv 1) pa_nil)) (cld (ok_law_anew T) T.h_law_anew hr (pa_cons (pv 3) pa_nil)) (nomark _)) (nomark _)))))
      (pss_one (ps_ret pe_bl))
      pss_nil))))))))
    (pss_one (ps_ret (pe_cmpR (op_eqD hr.units) (cl (ok_matching T TB) T.h_matching.df hr (pa_cons (pv 1) (pa_cons (pv 1) pa_nil))) (pe_lc (own := [("_law_k", 7)]) (g := gName 7) rfl sc_law_right.nd (pi_list (pe_callB cr_sortedI rfl T.b_sorted (by decide +kernel) (pa_cons (cl (ok_law_numbers T) T.h_law_numbers hr (pa_cons (pv 1) pa_nil)) pa_nil))) (blkOk_by (own := [("_law_k", 7)]) (N := ["_law_well_here", "_law_one_here", "_law_turn", "_law_other_here", "_law_due_here", "_law_back", "_law_is_both", "_law_k"]) (sc := defScope s_law_right) (by decide +kernel)) (fun _ _ _ _ _ => pg_name (i := 7) sc_law_right.nd rfl (Or.inl rfl)) (fun _ _ _ _ _ => pts_nil) (fun _ _ _ _ _ => (pe_tup (pa_cons (pv 7) (pa_cons (pe_tup (pa_cons (pv 7) pa_nil)) pa_nil))))) (nomark _)))))), ?_⟩
  refine ⟨_, rfl, a, 6, rfl, hW, by decide, by decide, fun v t H1 dr1 hR hDn => ?_⟩
  have z1 : size t ≤ 79 := hDn.siz
  have z2 : depth t ≤ 5 := hDn.dep
  have hO := hDn.ok
  have kp1 := Kp.dr dr1
  have tab1 := tabs_dr hW dr1 hTab
  refine ⟨4, rfl, by decide, by decide, for_range (lo := 0) (fun i σ' H' => ∃ x2 x3 x4 x5 x6, σ' = [some (.ref a), some v, x2, x3, x4, x5, x6, none] ∧ Kp a H1 H' ∧ Tabs (TM pp) H') ⟨none, none, none, none, none, rfl, Kp.en dr1.well (ExtN.refl _), tab1⟩ ?_ ?_⟩
  · rintro i σ' H2 hi ⟨x2, x3, x4, x5, x6, rfl, kp2, tab2⟩
    have hR2 := hR.mono (kp2.tups dr1.well)
    refine ⟨_, rfl, _, rfl, a, v, t, rfl, kp2.well, hR2, hO, by omega, z2, by omega, fun v' t' H3 dr3 hR' hO' z1' z2' => ?_⟩
    have tab3 := tabs_dr kp2.well dr3 tab2
    have hR3 := hR2.mono (Dr.tups kp2.well dr3)
    have hG' : Good 60 t' := ⟨hO', by omega, by omega⟩
    have hG : Good 60 t := ⟨hO, by omega, by omega⟩
    refine ⟨_, rfl, _, rfl, v, t, v', t', rfl, hR3, hR', hO, by omega, by omega, hG', fun x o H4 e4 hD hT gT => ?_⟩
    have hR4 := hR3.mono (Tups.of (K := K) e4)
    have hR4' := hR'.mono (Tups.of (K := K) e4)
    refine ⟨_, rfl, _, rfl, v', t', v, t, rfl, hR4', hR4, hO', by omega, by omega, hG, fun y o' H5 e5 hD' hT' gT' => ?_⟩
    have hR5 := hR4.mono (Tups.of (K := K) e5)
    have hR5' := hR4'.mono (Tups.of (K := K) e5)
    have hD5 := DueAt.ext (ExtN.ex e5) hD
    have tab5 := (tab3.ext e4).ext e5
    refine ⟨_, _, rfl, ?_⟩
    refine ⟨_, rfl, _, rfl, v, t, v', t', 60, rfl, hR5, hR5', hO, by omega, hG', tab5, fun m1 o1 H6 e6 tab6 hM hMT hMG => ?_⟩
    have eo := told_uniq hMT hT
    subst eo
    refine ⟨_, rfl, _, _, due_dp hM, due_dp (DueAt.ext e6 hD5), due_shaped hMG, due_shaped gT, ?_⟩
    rw [SeqAt.eqv_refl _ (SeqAt.canLay_of_shaped (due_shaped gT))]
    have hR6 := hR5.mono (ExtN.tups e6)
    have hR6' := hR5'.mono (ExtN.tups e6)
    have hD6 := DueAt.ext e6 hD5
    have hD6' := DueAt.ext e6 hD'
    have hx : decide (x = .non) = !o1.isSome := due_non hD5
    have hy : decide (y = .non) = !o'.isSome := due_non hD'
    refine ⟨_, rfl, iteF ?_⟩
    refine ⟨_, rfl, _, rfl, v', t', v, t, 60, rfl, hR6', hR6, hO', by omega, hG, tab6, fun m2 o2 H7 e7 tab7 hM2 hMT2 hMG2 => ?_⟩
    have eo := told_uniq hMT2 hT'
    subst eo
    have hD7 := DueAt.ext e7 hD6
    have hD7' := DueAt.ext e7 hD6'
    refine ⟨_, rfl, _, _, due_dp hM2, due_dp hD7', due_shaped hMG2, due_shaped gT', _, rfl, ?_⟩
    rw [SeqAt.eqv_refl _ (SeqAt.canLay_of_shaped (due_shaped gT'))]
    have hR7 := hR6.mono (ExtN.tups e7)
    have hR7' := hR6'.mono (ExtN.tups e7)
    refine iteF ?_
    refine ⟨_, rfl, _, rfl, v, t, v', t', 60, rfl, hR7, hR7', hO, by omega, hG', tab7, fun b1 H8 e8 tab8 hb1 => ?_⟩
    have hR8 := hR7.mono (ExtN.tups e8)
    have hR8' := hR7'.mono (ExtN.tups e8)
    have eb1 : b1 = o1.isSome := Bool.eq_iff_iff.mpr (hb1.trans (told_some hT).symm)
    subst eb1
    have w1 : (!decide (V.bl o1.isSome = V.bl (!decide (x = V.non)))) = false := by
      rw [hx]
      cases o1.isSome <;> rfl
    refine ⟨_, rfl, rfl, rfl, false, congrArg V.bl w1, iteF ?_⟩
    refine ⟨_, rfl, _, rfl, v', t', v, t, 60, rfl, hR8', hR8, hO', by omega, hG, tab8, fun b2 H9 e9 tab9 hb2 => ?_⟩
    have hR9 := hR8.mono (ExtN.tups e9)
    have hR9' := hR8'.mono (ExtN.tups e9)
    have eb2 : b2 = o2.isSome := Bool.eq_iff_iff.mpr (hb2.trans (told_some hT').symm)
    subst eb2
    have w2 : (!decide (V.bl o2.isSome = V.bl (!decide (y = V.non)))) = false := by
      rw [hy]
      cases o2.isSome <;> rfl
    refine ⟨_, rfl, rfl, rfl, _, rfl, ?_⟩
    rw [w2]
    refine iteF ?_
    have kp9 : Kp a H1 H9 := kp2.trans ((Kp.dr dr3).trans (Kp.en dr3.well (((((ExtN.ex (e4.trans e5)).trans e6).trans e7).trans e8).trans e9)))
    refine ⟨fun σ2 Hz => σ2 = [some (.ref a), some v, some (.int (0 + (i : Int))), some v', some x, some y, some (.bl (o1.isSome && o2.isSome)), none] ∧ Hz = H9, ?_, ?_⟩
    · refine ⟨_, rfl, rfl, o1.isSome, congrArg V.bl (by rw [hx]; cases o1.isSome <;> rfl), ?_⟩
      cases hs1 : o1.isSome with
      | true =>
        refine iteT ⟨_, rfl, rfl, ?_⟩
        rw [hy]
        refine ⟨?_, rfl⟩
        cases o2.isSome <;> rfl
      | false => exact iteF ⟨rfl, rfl⟩
    · rintro _ _ ⟨rfl, rfl⟩
      refine ⟨_, rfl, _, rfl, v, t, v', t', rfl, hR9, hR9', hO, hO', by omega, by omega, fun b3 H10 e10 hb3 => ?_⟩
      have hR10 := hR9.mono (Tups.of (K := K) e10)
      have hR10' := hR9'.mono (Tups.of (K := K) e10)
      have eb3 : b3 = (o1.isSome && o2.isSome) := by
        rw [Bool.eq_iff_iff, Bool.and_eq_true, told_some hT, told_some hT', hb3]
        exact variant_iff t t'
      subst eb3
      have w3 : ∀ b : Bool, (!decide (V.bl b = V.bl b)) = false := fun b => by cases b <;> rfl
      refine ⟨_, rfl, rfl, false, congrArg V.bl (w3 _), iteF ?_⟩
      refine ⟨_, rfl, _, rfl, v, t, rfl, hR10, hO, by omega, by omega, fun u1 H11 e11 r1 => ?_⟩
      refine ⟨_, rfl, v', t', rfl, hR10'.mono (Tups.of e11), hO', by omega, by omega, fun u2 H12 e12 r2 => ?_⟩
      have w4 : PyData.eqv (toD (renum t)) (toD (renum t')) = (o1.isSome && o2.isSome) := by
        rw [eqv_toD, Bool.eq_iff_iff, decide_eq_true_iff, hb3]
        exact ⟨fun h => tord_ok.eq _ _ h, fun h => by rw [h]; exact tord_ok.refl _⟩
      have w5 : (!decide (V.bl (o1.isSome && o2.isSome) = V.bl (PyData.eqv (toD (renum t)) (toD (renum t'))))) = false := by rw [w4, w3]
      refine ⟨_, _, dp_rep (r1.mono (Tups.of e12)), dp_rep r2, shaped_tm (ok_renum hO) (by rw [depth_renum]; omega), shaped_tm (ok_renum hO') (by rw [depth_renum]; omega), rfl, false, congrArg V.bl w5, iteF ?_⟩
      have eZ := (e10.trans e11).trans e12
      exact ⟨_, _, _, _, _, rfl, kp9.trans (Kp.en kp9.well (ExtN.ex eZ)), tab9.ext eZ⟩
  · rintro σ' H2 ⟨x2, x3, x4, x5, x6, rfl, kp2, tab2⟩
    have hR2 := hR.mono (kp2.tups dr1.well)
    have hG : Good 60 t := ⟨hO, by omega, by omega⟩
    refine ⟨_, rfl, _, rfl, v, t, v, t, 60, rfl, hR2, hR2, hO, by omega, hG, tab2, fun m1 o1 H3 e3 tab3 hM hMT hMG => ?_⟩
    have hR3 := hR2.mono (ExtN.tups e3)
    refine ⟨_, rfl, v, t, rfl, hR3, hO, by omega, by omega, fun pl H4 hpl e4 hL => ?_⟩
    have hvl := varsOf_len t
    refine ⟨pl, _, rfl, SqL.of hL, fun xs p pm pw hp => ?_⟩
    have e5 := Ex.new (o := HO.lst (xs.map V.int)) hp
    have e35 := e4.trans e5
    have hP : (upd H4 p (.lst (xs.map V.int))) p = some (.lst (xs.map V.int)) := upd_same
    have lx := pm.length_eq
    generalize upd H4 p (.lst (xs.map V.int)) = H5 at *
    refine ⟨p, rfl, ⟨_, SqL.of hP⟩, fun D hD => ?_⟩
    have e6 := Ex.new (o := HO.lst []) hD
    refine lc_it walk_list (fun i H' => Ex H5 H' ∧ ∃ us, H' D = some (.lst us) ∧ PySem.Paired (fun (v : V) (e : Int × Tm) => ∃ t y, v = .ref t ∧ SqT K H' t [.int e.1, y] ∧ Rep K H' e.2 y) us ((xs.take i).map fun k => (k, Tm.var k))) ⟨e6, [], upd_same, .nil⟩ (fun i H' _ h => SqL.of (h.1 p _ hP)) ?_ ?_
    · rintro i x Hx H6 hi ⟨e7, us, hU, hUs⟩ ⟨rfl, hx⟩
      have hi2 : i < xs.length := by rw [List.length_map] at hi; exact hi
      have hxi : xs[i]? = some xs[i] := List.getElem?_eq_getElem hi2
      have hx2 : x = .int xs[i] := by
        have h3 : (xs.map V.int)[i]? = some x := hx
        rw [List.getElem?_map, hxi] at h3
        exact (Option.some.inj h3).symm
      subst hx2
      have lU := Paired.length hUs
      rw [List.length_map, List.length_take] at lU
      refine ⟨rfl, yesI ⟨_, rfl, _, rfl, (by show 1 ≤ sizeLine; decide), fun q1 hq1 => ⟨(by show 2 ≤ sizeLine; decide), fun q2 hq2 => ?_⟩⟩⟩
      have e8 := Ex.new (o := HO.tup [V.int xs[i]]) hq1
      have e9 := Ex.new (o := HO.tup [V.int xs[i], V.ref q1]) hq2
      have hU9 := e9 _ _ (e8 _ _ hU)
      have hq1' := Evl.ex_t e9 (SqT.of (K := K) (upd_same (H := H6) (a := q1) (o := HO.tup [V.int xs[i]])))
      have tD := Tups.lst (K := K) (o := HO.lst (us ++ [V.ref q2])) hU9
      have m9 := ((Tups.of (K := K) e8).trans (Tups.of e9)).trans tD
      refine ⟨us, hU9, small5' (by omega), Ex.mut ((e7.trans e8).trans e9) hD, us ++ [V.ref q2], upd_same, ?_⟩
      rw [take_snoc hxi, List.map_append]
      refine Paired.snoc (Paired.mapP hUs fun v e ⟨t', y, a1, b1, c1⟩ => ⟨t', y, a1, m9 _ _ b1, c1.mono m9⟩) ⟨q2, .ref q1, rfl, tD _ _ (SqT.of upd_same), ?_⟩
      unfold Rep
      exact ⟨q1, rfl, tD _ _ hq1'⟩
    · rintro H6 ⟨e7, us, hU, hUs⟩
      rw [List.length_map, List.take_of_length_le (Nat.le_refl _)] at hUs
      have eo := told_uniq hMT (self_told (t := t) pm pw)
      subst eo
      have hDz : DueAt K H6 (.ref D) (some (xs.map fun k => (k, Tm.var k))) := ⟨D, us, rfl, hU, hUs⟩
      have e37 := e35.trans e7
      refine ⟨_, _, due_dp (DueAt.ext (ExtN.ex e37) hM), due_dp hDz, due_shaped hMG, due_shaped hMG, ?_⟩
      rw [SeqAt.eqv_refl _ (SeqAt.canLay_of_shaped (due_shaped hMG))]
      exact q H6 (kp1.trans (kp2.trans (Kp.en kp2.well (ExtN.trans e3 (ExtN.ex e37))))) (tab3.ext e37)
end
end Hm

set_option Elab.async false
set_option linter.all false
set_option maxRecDepth 100000
set_option maxHeartbeats 1000000
namespace Hm
open PySem PySem.Spec PyProof.Rows L2 HT LamX RZ
open Evl (Ex)
section
variable {P : Program} {w : World} {K : PySem.W.Frag} {mg : Str → Option Value} {base : Heap}
def spCell (K : PySem.W.Frag) : Sp := fun vs H Q _ => ∃ (a : Addr) (ns : List Int) (k : Nat), vs = [.ref a, .int (k : Int)] ∧ SqL K H a (ns.map V.int) ∧ ∀ z, Q (.int z) H
theorem ok_law_cell_at (T : Tx K mg) : FnOk P w K mg base CX0 1 T.f_law_cell_at T.d_law_cell_at ["_law_script", "_law_k"] (spCell K) := by
  refine T.h_law_cell_at.F.ok sc_law_cell_at (fun vs H Q E h => ?_) (fun cdv A outer s H vs Q E hr h => ?_)
  · obtain ⟨a, ns, k, rfl, _⟩ := h
    rfl
  obtain ⟨a, ns, k, rfl, hS, q⟩ := h
  refine ⟨_, (pss_one (ps_ret (pe_ifExp (pt_cmpR op_lt (pv 1) (pe_callB call_len_seq rfl T.b_len (by decide +kernel) (pa_cons (pv 0) pa_nil)) (nomark _)) (pe_ix ix_list (pv 0) (pv 1) (fun _ _ => rfl)) pe_int))), ?_⟩
  refine ⟨_, rfl, _, rfl, a, _, rfl, .inl hS, _, _, rfl, rfl, _, rfl, ?_⟩
  refine ite2 (fun c => ?_) (fun c => ?_)
  · have hk : k < ns.length := by
      have := of_decide_eq_true c
      rw [List.length_map] at this
      omega
    refine ⟨_, rfl, _, rfl, a, _, _, _, rfl, rfl, hS, atI_nat (v := V.int ns[k]) (by rw [List.getElem?_map, List.getElem?_eq_getElem hk]; rfl), q _⟩
  · exact q 0
def spWell : Sp := fun vs H Q _ => ∃ c, vs = [.int c] ∧ ∀ p x y z H', H p = none → Ex H H' → H' p = some (.lst [.int x, .int y, .int z]) → Q (.ref p) H'
theorem ok_law_well (T : Tx K mg) : FnOk P w K mg base CX0 1 T.f_law_well T.d_law_well ["_law_cell"] spWell := by
  refine T.h_law_well.F.ok sc_law_well (fun vs H Q E h => ?_) (fun cdv A outer s H vs Q E hr h => ?_)
  · obtain ⟨c, rfl, _⟩ := h
    rfl
  obtain ⟨c, rfl, q⟩ := h
  refine ⟨_, (pss_cons (ps_set (i := 0) sc_law_well.nd rfl (Or.inl rfl) (pe_callB call_abs rfl T.b_abs (by decide +kernel) (pa_cons (pv 0) pa_nil)))
    (pss_one (ps_ret (pe_lst (pa_cons (pe_op op_mul (pv 0) (pe_callTy call_int1 rfl T.b_int (by decide +kernel) (pa_cons (pe_cmpR op_ge (pv 0) (pe_op op_pow pe_int pe_int) (nomark _)) pa_nil))) (pa_cons (pe_op op_add (pe_op op_mod (pe_callTy call_int1 rfl T.b_int (by decide +kernel) (pa_cons (pv 0) pa_nil)) pe_int) pe_int) (pa_cons pe_int pa_nil))))))), ?_⟩
  refine ⟨_, rfl, _, rfl, ?_⟩
  refine ⟨_, rfl, _, rfl, _, _, rfl, rfl, ⟨by decide, by decide, by decide⟩, _, _, rfl, rfl, .inr ⟨_, rfl, ?_⟩⟩
  refine ⟨_, _, rfl, rfl, .inr (by constructor <;> split <;> first | decide | omega), _, rfl, .inl ⟨_, rfl, _, _, rfl, rfl, (show (0 : Int) < 2147483647 by decide), _, _, rfl, rfl, ?_⟩⟩
  refine ⟨(by show 3 ≤ sizeLine; decide), fun p hp => ?_⟩
  exact q p _ _ _ _ hp (Ex.new hp) upd_same
def spLaw (K : PySem.W.Frag) (pp : Addr) : Sp := fun vs H Q _ => ∃ (a : Addr) (ns : List Int), vs = [.ref a] ∧ SqL K H a (ns.map V.int) ∧ ns.length ≤ 63 ∧ Tabs (TM pp) H ∧ ∀ H', Q (.bl true) H'
theorem ok_law (T : Tx K mg) {pp : Addr} (TB : TabB base mg T.cc pp) : FnOk P w K mg base CX0 20 T.f_law T.d_law ["_law_script"] (spLaw K pp) := by
  refine T.h_law.F.ok sc_law (fun vs H Q E h => ?_) (fun cdv A outer s H vs Q E hr h => ?_)
  · obtain ⟨a, ns, rfl, _⟩ := h
    rfl
  obtain ⟨a, ns, rfl, hS, hn, hTab, q⟩ := h
  refine ⟨_, (pss_cons (ps_for PassesOwn.never rfl (pi_range1 rfl T.b_range (pa_cons (pe_callB (call_max2 rfl) rfl T.b_max (by decide +kernel) (pa_cons pe_int (pa_cons (pe_callB (call_min2 rfl) rfl T.b_min (by decide +kernel) (pa_cons pe_int (pa_cons (pe_callB call_len_seq rfl T.b_len (by decide +kernel) (pa_cons (pv 0) pa_nil)) pa_nil))) pa_nil))) pa_nil)) (pg_name (i := 1) sc_law.nd rfl (Or.inl rfl))
      (pss_one (ps_if (pt_not (pt_val (cl (ok_law_right T TB) T.h_law_right hr (pa_cons (cl (ok_law_well T) T.h_law_well hr (pa_cons (cl (ok_law_cell_at T) T.h_law_cell_at hr (pa_cons (pv 0) (pa_cons (pv 1) pa_nil))) pa_nil)) pa_nil))))
      (pss_one (ps_ret pe_bl))
      pss_nil)))
    (pss_one (ps_ret pe_bl))), ?_⟩
  refine ⟨_, rfl, a, _, rfl, .inl hS, _, _, rfl, _, _, rfl, ?_⟩
  rw [List.length_map]
  refine ⟨_, rfl, (by split <;> split <;> omega), (by split <;> split <;> omega), for_range (lo := 0) (fun i σ' H' => ∃ kk, σ' = [some (.ref a), kk] ∧ ExtN H H' ∧ Tabs (TM pp) H') ⟨none, rfl, ExtN.refl _, hTab⟩ ?_ ?_⟩
  · rintro i σ' H1 hi ⟨kk, rfl, e1, tab1⟩
    rw [Int.zero_add]
    refine ⟨_, rfl, _, rfl, a, ns, i, rfl, ExtN.sql e1 hS, fun z => ?_⟩
    refine ⟨z, rfl, fun p x y z2 H2 hp e2 hL => ?_⟩
    refine ⟨p, rfl, ⟨x, y, z2, hL⟩, tab1.ext e2, fun H3 kp tab3 => ?_⟩
    refine ⟨_, rfl, iteF ?_⟩
    refine ⟨_, rfl, fun b o hb hno => ?_, tab3⟩
    have h1 := e1 _ _ hb hno
    exact kp.keep _ _ (ne_of_none h1 hp) hno (e2 _ _ h1)
  · rintro σ' H1 ⟨kk, rfl, e1, tab1⟩
    exact q H1
end
end Hm

set_option Elab.async false
set_option linter.all false
set_option maxRecDepth 100000
set_option maxHeartbeats 4000000
namespace Hm
open PySem PySem.Spec PyProof.Rows L2 HT
theorem all_mk {l : PySem.W.OpenLaw} {w : World} {K : PySem.W.Frag} {h : Heap} {mg : Str → Option Value} {fa : Addr} (X : K.In h) (G : h.Ns mainGlobals mg) (hfa : mg "law" = some (.ref fa)) {pp : Addr}
    {f1 : Addr}
    {od1 an1 : Option Addr} {sl1 : Array (Option Value)} {oc1 kV1 dc1 pm1 cd1 ct1 : Value}
    {f2 : Addr}
    {od2 an2 : Option Addr} {sl2 : Array (Option Value)} {oc2 kV2 dc2 pm2 cd2 ct2 : Value}
    {f3 : Addr}
    {od3 an3 : Option Addr} {sl3 : Array (Option Value)} {oc3 kV3 dc3 pm3 cd3 ct3 : Value}
    {f4 : Addr}
    {od4 an4 : Option Addr} {sl4 : Array (Option Value)} {oc4 kV4 dc4 pm4 cd4 ct4 : Value}
    {f5 : Addr}
    {od5 an5 : Option Addr} {sl5 : Array (Option Value)} {oc5 kV5 dc5 pm5 cd5 ct5 : Value}
    {f6 : Addr}
    {od6 an6 : Option Addr} {sl6 : Array (Option Value)} {oc6 kV6 dc6 pm6 cd6 ct6 : Value}
    {f7 : Addr}
    {od7 an7 : Option Addr} {sl7 : Array (Option Value)} {oc7 kV7 dc7 pm7 cd7 ct7 : Value}
    {f8 : Addr}
    {od8 an8 : Option Addr} {sl8 : Array (Option Value)} {oc8 kV8 dc8 pm8 cd8 ct8 : Value}
    {f9 : Addr}
    {od9 an9 : Option Addr} {sl9 : Array (Option Value)} {oc9 kV9 dc9 pm9 cd9 ct9 : Value}
    {f10 : Addr}
    {od10 an10 : Option Addr} {sl10 : Array (Option Value)} {oc10 kV10 dc10 pm10 cd10 ct10 : Value}
    {f11 : Addr}
    {od11 an11 : Option Addr} {sl11 : Array (Option Value)} {oc11 kV11 dc11 pm11 cd11 ct11 : Value}
    {f12 : Addr}
    {od12 an12 : Option Addr} {sl12 : Array (Option Value)} {oc12 kV12 dc12 pm12 cd12 ct12 : Value}
    {f13 : Addr}
    {od13 an13 : Option Addr} {sl13 : Array (Option Value)} {oc13 kV13 dc13 pm13 cd13 ct13 : Value}
    {f14 : Addr}
    {od14 an14 : Option Addr} {sl14 : Array (Option Value)} {oc14 kV14 dc14 pm14 cd14 ct14 : Value}
    {f15 : Addr}
    {od15 an15 : Option Addr} {sl15 : Array (Option Value)} {oc15 kV15 dc15 pm15 cd15 ct15 : Value}
    {f16 : Addr}
    {od16 an16 : Option Addr} {sl16 : Array (Option Value)} {oc16 kV16 dc16 pm16 cd16 ct16 : Value}
    {f17 : Addr}
    {od17 an17 : Option Addr} {sl17 : Array (Option Value)} {oc17 kV17 dc17 pm17 ct17 : Value} {cc : Addr}
    {f18 : Addr}
    {od18 an18 : Option Addr} {sl18 : Array (Option Value)} {oc18 kV18 dc18 pm18 cd18 ct18 : Value}
    {f19 : Addr}
    {od19 an19 : Option Addr} {sl19 : Array (Option Value)} {oc19 kV19 dc19 pm19 cd19 ct19 : Value}
    {f20 : Addr}
    {od20 an20 : Option Addr} {sl20 : Array (Option Value)} {oc20 kV20 dc20 pm20 cd20 ct20 : Value}
    {f21 : Addr}
    {od21 an21 : Option Addr} {sl21 : Array (Option Value)} {oc21 kV21 dc21 pm21 cd21 ct21 : Value}
    {f22 : Addr}
    {od22 an22 : Option Addr} {sl22 : Array (Option Value)} {oc22 kV22 dc22 pm22 cd22 ct22 : Value}
    {f23 : Addr}
    {od23 an23 : Option Addr} {sl23 : Array (Option Value)} {oc23 kV23 dc23 pm23 cd23 ct23 : Value}
    {f24 : Addr}
    {od24 an24 : Option Addr} {sl24 : Array (Option Value)} {oc24 kV24 dc24 pm24 cd24 ct24 : Value}
    {f25 : Addr}
    {od25 an25 : Option Addr} {sl25 : Array (Option Value)} {oc25 kV25 dc25 pm25 cd25 ct25 : Value}
    {f26 : Addr}
    {od26 an26 : Option Addr} {sl26 : Array (Option Value)} {oc26 kV26 dc26 pm26 cd26 ct26 : Value}
    {f27 : Addr}
    {od27 an27 : Option Addr} {sl27 : Array (Option Value)} {oc27 kV27 dc27 pm27 cd27 ct27 : Value}
    {f28 : Addr}
    {od28 an28 : Option Addr} {sl28 : Array (Option Value)} {oc28 kV28 dc28 pm28 cd28 ct28 : Value}
    {f29 : Addr}
    {od29 an29 : Option Addr} {sl29 : Array (Option Value)} {oc29 kV29 dc29 pm29 cd29 ct29 : Value}
    {f30 : Addr}
    {od30 an30 : Option Addr} {sl30 : Array (Option Value)} {oc30 kV30 dc30 pm30 cd30 ct30 : Value}
    {f31 : Addr}
    {od31 an31 : Option Addr} {sl31 : Array (Option Value)} {oc31 kV31 dc31 pm31 cd31 ct31 : Value}
    {T31 : Addr} {ou31 : Value} {ow31 : Option Addr} {on31 : Nat} {os31 : Array (Option Value)} {tk31 : Tok}
    {f32 : Addr}
    {od32 an32 : Option Addr} {sl32 : Array (Option Value)} {oc32 kV32 dc32 pm32 cd32 ct32 : Value}
    {f33 : Addr}
    {od33 an33 : Option Addr} {sl33 : Array (Option Value)} {oc33 kV33 dc33 pm33 cd33 ct33 : Value}
    {f34 : Addr}
    {od34 an34 : Option Addr} {sl34 : Array (Option Value)} {oc34 kV34 dc34 pm34 cd34 ct34 : Value}
    {f35 : Addr}
    {od35 an35 : Option Addr} {sl35 : Array (Option Value)} {oc35 kV35 dc35 pm35 cd35 ct35 : Value}
    {f36 : Addr}
    {od36 an36 : Option Addr} {sl36 : Array (Option Value)} {oc36 kV36 dc36 pm36 cd36 ct36 : Value}
    {u1 : Tok}
    {u2 : Tok}
    {u3 : Tok}
    {u4 : Tok}
    {u5 : Tok}
    {u6 : Tok}
    {u7 : Tok}
    {u8 : Tok}
    (a1 : PySem.W.nsIn K mainGlobals "is_integer" = some (some (.ref f1)))
    (l1 : K.lookup f1 = some ⟨oc1, od1, .func (PySem.W.fnOf "is_integer" "is_integer" (defArgs s_is_integer) (defBody s_is_integer) (defScope s_is_integer) .none kV1 dc1 pm1 an1 cd1 ct1), sl1⟩)
    (c1 : PySem.W.codeIn K cd1 "is_integer" = true) (k1 : PySem.W.keepIn K (.ref f1) = true)
    (a2 : PySem.W.nsIn K mainGlobals "is_sign" = some (some (.ref f2)))
    (l2 : K.lookup f2 = some ⟨oc2, od2, .func (PySem.W.fnOf "is_sign" "is_sign" (defArgs s_is_sign) (defBody s_is_sign) (defScope s_is_sign) .none kV2 dc2 pm2 an2 cd2 ct2), sl2⟩)
    (c2 : PySem.W.codeIn K cd2 "is_sign" = true) (k2 : PySem.W.keepIn K (.ref f2) = true)
    (a3 : PySem.W.nsIn K mainGlobals "is_atom" = some (some (.ref f3)))
    (l3 : K.lookup f3 = some ⟨oc3, od3, .func (PySem.W.fnOf "is_atom" "is_atom" (defArgs s_is_atom) (defBody s_is_atom) (defScope s_is_atom) .none kV3 dc3 pm3 an3 cd3 ct3), sl3⟩)
    (c3 : PySem.W.codeIn K cd3 "is_atom" = true) (k3 : PySem.W.keepIn K (.ref f3) = true)
    (a4 : PySem.W.nsIn K mainGlobals "is_number" = some (some (.ref f4)))
    (l4 : K.lookup f4 = some ⟨oc4, od4, .func (PySem.W.fnOf "is_number" "is_number" (defArgs s_is_number) (defBody s_is_number) (defScope s_is_number) .none kV4 dc4 pm4 an4 cd4 ct4), sl4⟩)
    (c4 : PySem.W.codeIn K cd4 "is_number" = true) (k4 : PySem.W.keepIn K (.ref f4) = true)
    (a5 : PySem.W.nsIn K mainGlobals "is_term" = some (some (.ref f5)))
    (l5 : K.lookup f5 = some ⟨oc5, od5, .func (PySem.W.fnOf "is_term" "is_term" (defArgs s_is_term) (defBody s_is_term) (defScope s_is_term) .none kV5 dc5 pm5 an5 cd5 ct5), sl5⟩)
    (c5 : PySem.W.codeIn K cd5 "is_term" = true) (k5 : PySem.W.keepIn K (.ref f5) = true)
    (a6 : PySem.W.nsIn K mainGlobals "_is_part" = some (some (.ref f6)))
    (l6 : K.lookup f6 = some ⟨oc6, od6, .func (PySem.W.fnOf "_is_part" "_is_part" (defArgs s_is_part) (defBody s_is_part) (defScope s_is_part) .none kV6 dc6 pm6 an6 cd6 ct6), sl6⟩)
    (c6 : PySem.W.codeIn K cd6 "_is_part" = true) (k6 : PySem.W.keepIn K (.ref f6) = true)
    (a7 : PySem.W.nsIn K mainGlobals "demand_term" = some (some (.ref f7)))
    (l7 : K.lookup f7 = some ⟨oc7, od7, .func (PySem.W.fnOf "demand_term" "demand_term" (defArgs s_demand_term) (defBody s_demand_term) (defScope s_demand_term) .none kV7 dc7 pm7 an7 cd7 ct7), sl7⟩)
    (c7 : PySem.W.codeIn K cd7 "demand_term" = true) (k7 : PySem.W.keepIn K (.ref f7) = true)
    (a8 : PySem.W.nsIn K mainGlobals "is_variable" = some (some (.ref f8)))
    (l8 : K.lookup f8 = some ⟨oc8, od8, .func (PySem.W.fnOf "is_variable" "is_variable" (defArgs s_is_variable) (defBody s_is_variable) (defScope s_is_variable) .none kV8 dc8 pm8 an8 cd8 ct8), sl8⟩)
    (c8 : PySem.W.codeIn K cd8 "is_variable" = true) (k8 : PySem.W.keepIn K (.ref f8) = true)
    (a9 : PySem.W.nsIn K mainGlobals "arguments_of" = some (some (.ref f9)))
    (l9 : K.lookup f9 = some ⟨oc9, od9, .func (PySem.W.fnOf "arguments_of" "arguments_of" (defArgs s_arguments_of) (defBody s_arguments_of) (defScope s_arguments_of) .none kV9 dc9 pm9 an9 cd9 ct9), sl9⟩)
    (c9 : PySem.W.codeIn K cd9 "arguments_of" = true) (k9 : PySem.W.keepIn K (.ref f9) = true)
    (a10 : PySem.W.nsIn K mainGlobals "parts_of" = some (some (.ref f10)))
    (l10 : K.lookup f10 = some ⟨oc10, od10, .func (PySem.W.fnOf "parts_of" "parts_of" (defArgs s_parts_of) (defBody s_parts_of) (defScope s_parts_of) .none kV10 dc10 pm10 an10 cd10 ct10), sl10⟩)
    (c10 : PySem.W.codeIn K cd10 "parts_of" = true) (k10 : PySem.W.keepIn K (.ref f10) = true)
    (a11 : PySem.W.nsIn K mainGlobals "head_of" = some (some (.ref f11)))
    (l11 : K.lookup f11 = some ⟨oc11, od11, .func (PySem.W.fnOf "head_of" "head_of" (defArgs s_head_of) (defBody s_head_of) (defScope s_head_of) .none kV11 dc11 pm11 an11 cd11 ct11), sl11⟩)
    (c11 : PySem.W.codeIn K cd11 "head_of" = true) (k11 : PySem.W.keepIn K (.ref f11) = true)
    (a12 : PySem.W.nsIn K mainGlobals "folded" = some (some (.ref f12)))
    (l12 : K.lookup f12 = some ⟨oc12, od12, .func (PySem.W.fnOf "folded" "folded" (defArgs s_folded) (defBody s_folded) (defScope s_folded) .none kV12 dc12 pm12 an12 cd12 ct12), sl12⟩)
    (c12 : PySem.W.codeIn K cd12 "folded" = true) (k12 : PySem.W.keepIn K (.ref f12) = true)
    (a13 : PySem.W.nsIn K mainGlobals "replaced" = some (some (.ref f13)))
    (l13 : K.lookup f13 = some ⟨oc13, od13, .func (PySem.W.fnOf "replaced" "replaced" (defArgs s_replaced) (defBody s_replaced) (defScope s_replaced) .none kV13 dc13 pm13 an13 cd13 ct13), sl13⟩)
    (c13 : PySem.W.codeIn K cd13 "replaced" = true) (k13 : PySem.W.keepIn K (.ref f13) = true)
    (a14 : PySem.W.nsIn K mainGlobals "numbers_in" = some (some (.ref f14)))
    (l14 : K.lookup f14 = some ⟨oc14, od14, .func (PySem.W.fnOf "numbers_in" "numbers_in" (defArgs s_numbers_in) (defBody s_numbers_in) (defScope s_numbers_in) .none kV14 dc14 pm14 an14 cd14 ct14), sl14⟩)
    (c14 : PySem.W.codeIn K cd14 "numbers_in" = true) (k14 : PySem.W.keepIn K (.ref f14) = true)
    (a15 : PySem.W.nsIn K mainGlobals "renumbered" = some (some (.ref f15)))
    (l15 : K.lookup f15 = some ⟨oc15, od15, .func (PySem.W.fnOf "renumbered" "renumbered" (defArgs s_renumbered) (defBody s_renumbered) (defScope s_renumbered) .none kV15 dc15 pm15 an15 cd15 ct15), sl15⟩)
    (c15 : PySem.W.codeIn K cd15 "renumbered" = true) (k15 : PySem.W.keepIn K (.ref f15) = true)
    (a16 : PySem.W.nsIn K mainGlobals "order_key" = some (some (.ref f16)))
    (l16 : K.lookup f16 = some ⟨oc16, od16, .func (PySem.W.fnOf "order_key" "order_key" (defArgs s_order_key) (defBody s_order_key) (defScope s_order_key) .none kV16 dc16 pm16 an16 cd16 ct16), sl16⟩)
    (c16 : PySem.W.codeIn K cd16 "order_key" = true) (k16 : PySem.W.keepIn K (.ref f16) = true)
    (a17 : PySem.W.nsIn K mainGlobals "matching" = some (some (.ref f17)))
    (l17 : K.lookup f17 = some ⟨oc17, od17, .func (PySem.W.fnOf "matching" "matching" (defArgs s_matching) (defBody s_matching) (defScope s_matching) .none kV17 dc17 pm17 an17 (.ref cc) ct17), sl17⟩)
    (c17 : PySem.W.codeIn K (.ref cc) "matching" = true) (k17 : PySem.W.keepIn K (.ref f17) = true)
    (a18 : PySem.W.nsIn K mainGlobals "subsumes" = some (some (.ref f18)))
    (l18 : K.lookup f18 = some ⟨oc18, od18, .func (PySem.W.fnOf "subsumes" "subsumes" (defArgs s_subsumes) (defBody s_subsumes) (defScope s_subsumes) .none kV18 dc18 pm18 an18 cd18 ct18), sl18⟩)
    (c18 : PySem.W.codeIn K cd18 "subsumes" = true) (k18 : PySem.W.keepIn K (.ref f18) = true)
    (a19 : PySem.W.nsIn K mainGlobals "is_variant" = some (some (.ref f19)))
    (l19 : K.lookup f19 = some ⟨oc19, od19, .func (PySem.W.fnOf "is_variant" "is_variant" (defArgs s_is_variant) (defBody s_is_variant) (defScope s_is_variant) .none kV19 dc19 pm19 an19 cd19 ct19), sl19⟩)
    (c19 : PySem.W.codeIn K cd19 "is_variant" = true) (k19 : PySem.W.keepIn K (.ref f19) = true)
    (a20 : PySem.W.nsIn K mainGlobals "_law_cell_at" = some (some (.ref f20)))
    (l20 : K.lookup f20 = some ⟨oc20, od20, .func (PySem.W.fnOf "_law_cell_at" "_law_cell_at" (defArgs s_law_cell_at) (defBody s_law_cell_at) (defScope s_law_cell_at) .none kV20 dc20 pm20 an20 cd20 ct20), sl20⟩)
    (c20 : PySem.W.codeIn K cd20 "_law_cell_at" = true) (k20 : PySem.W.keepIn K (.ref f20) = true)
    (a21 : PySem.W.nsIn K mainGlobals "_law_well" = some (some (.ref f21)))
    (l21 : K.lookup f21 = some ⟨oc21, od21, .func (PySem.W.fnOf "_law_well" "_law_well" (defArgs s_law_well) (defBody s_law_well) (defScope s_law_well) .none kV21 dc21 pm21 an21 cd21 ct21), sl21⟩)
    (c21 : PySem.W.codeIn K cd21 "_law_well" = true) (k21 : PySem.W.keepIn K (.ref f21) = true)
    (a22 : PySem.W.nsIn K mainGlobals "_law_draw" = some (some (.ref f22)))
    (l22 : K.lookup f22 = some ⟨oc22, od22, .func (PySem.W.fnOf "_law_draw" "_law_draw" (defArgs s_law_draw) (defBody s_law_draw) (defScope s_law_draw) .none kV22 dc22 pm22 an22 cd22 ct22), sl22⟩)
    (c22 : PySem.W.codeIn K cd22 "_law_draw" = true) (k22 : PySem.W.keepIn K (.ref f22) = true)
    (a23 : PySem.W.nsIn K mainGlobals "_law_one" = some (some (.ref f23)))
    (l23 : K.lookup f23 = some ⟨oc23, od23, .func (PySem.W.fnOf "_law_one" "_law_one" (defArgs s_law_one) (defBody s_law_one) (defScope s_law_one) .none kV23 dc23 pm23 an23 cd23 ct23), sl23⟩)
    (c23 : PySem.W.codeIn K cd23 "_law_one" = true) (k23 : PySem.W.keepIn K (.ref f23) = true)
    (a24 : PySem.W.nsIn K mainGlobals "_law_leaf" = some (some (.ref f24)))
    (l24 : K.lookup f24 = some ⟨oc24, od24, .func (PySem.W.fnOf "_law_leaf" "_law_leaf" (defArgs s_law_leaf) (defBody s_law_leaf) (defScope s_law_leaf) .none kV24 dc24 pm24 an24 cd24 ct24), sl24⟩)
    (c24 : PySem.W.codeIn K cd24 "_law_leaf" = true) (k24 : PySem.W.keepIn K (.ref f24) = true)
    (a25 : PySem.W.nsIn K mainGlobals "_law_term" = some (some (.ref f25)))
    (l25 : K.lookup f25 = some ⟨oc25, od25, .func (PySem.W.fnOf "_law_term" "_law_term" (defArgs s_law_term) (defBody s_law_term) (defScope s_law_term) .none kV25 dc25 pm25 an25 cd25 ct25), sl25⟩)
    (c25 : PySem.W.codeIn K cd25 "_law_term" = true) (k25 : PySem.W.keepIn K (.ref f25) = true)
    (a26 : PySem.W.nsIn K mainGlobals "_law_is_variable" = some (some (.ref f26)))
    (l26 : K.lookup f26 = some ⟨oc26, od26, .func (PySem.W.fnOf "_law_is_variable" "_law_is_variable" (defArgs s_law_is_variable) (defBody s_law_is_variable) (defScope s_law_is_variable) .none kV26 dc26 pm26 an26 cd26 ct26), sl26⟩)
    (c26 : PySem.W.codeIn K cd26 "_law_is_variable" = true) (k26 : PySem.W.keepIn K (.ref f26) = true)
    (a27 : PySem.W.nsIn K mainGlobals "_law_is_compound" = some (some (.ref f27)))
    (l27 : K.lookup f27 = some ⟨oc27, od27, .func (PySem.W.fnOf "_law_is_compound" "_law_is_compound" (defArgs s_law_is_compound) (defBody s_law_is_compound) (defScope s_law_is_compound) .none kV27 dc27 pm27 an27 cd27 ct27), sl27⟩)
    (c27 : PySem.W.codeIn K cd27 "_law_is_compound" = true) (k27 : PySem.W.keepIn K (.ref f27) = true)
    (a28 : PySem.W.nsIn K mainGlobals "_law_parts" = some (some (.ref f28)))
    (l28 : K.lookup f28 = some ⟨oc28, od28, .func (PySem.W.fnOf "_law_parts" "_law_parts" (defArgs s_law_parts) (defBody s_law_parts) (defScope s_law_parts) .none kV28 dc28 pm28 an28 cd28 ct28), sl28⟩)
    (c28 : PySem.W.codeIn K cd28 "_law_parts" = true) (k28 : PySem.W.keepIn K (.ref f28) = true)
    (a29 : PySem.W.nsIn K mainGlobals "_law_numbers" = some (some (.ref f29)))
    (l29 : K.lookup f29 = some ⟨oc29, od29, .func (PySem.W.fnOf "_law_numbers" "_law_numbers" (defArgs s_law_numbers) (defBody s_law_numbers) (defScope s_law_numbers) .none kV29 dc29 pm29 an29 cd29 ct29), sl29⟩)
    (c29 : PySem.W.codeIn K cd29 "_law_numbers" = true) (k29 : PySem.W.keepIn K (.ref f29) = true)
    (a30 : PySem.W.nsIn K mainGlobals "_law_put" = some (some (.ref f30)))
    (l30 : K.lookup f30 = some ⟨oc30, od30, .func (PySem.W.fnOf "_law_put" "_law_put" (defArgs s_law_put) (defBody s_law_put) (defScope s_law_put) .none kV30 dc30 pm30 an30 cd30 ct30), sl30⟩)
    (c30 : PySem.W.codeIn K cd30 "_law_put" = true) (k30 : PySem.W.keepIn K (.ref f30) = true)
    (a31 : PySem.W.nsIn K mainGlobals "_law_anew" = some (some (.ref f31)))
    (l31 : K.lookup f31 = some ⟨oc31, od31, .func (PySem.W.fnOf "_law_anew" "_law_anew" (defArgs s_law_anew) (defBody s_law_anew) (defScope s_law_anew) (.ref T31) kV31 dc31 pm31 an31 cd31 ct31), sl31⟩)
    (t31 : K.lookup T31 = some ⟨ou31, ow31, .seq #[.int 0 tk31] on31, os31⟩)
    (c31 : PySem.W.codeIn K cd31 "_law_anew" = true) (k31 : PySem.W.keepIn K (.ref f31) = true)
    (a32 : PySem.W.nsIn K mainGlobals "_law_found" = some (some (.ref f32)))
    (l32 : K.lookup f32 = some ⟨oc32, od32, .func (PySem.W.fnOf "_law_found" "_law_found" (defArgs s_law_found) (defBody s_law_found) (defScope s_law_found) .none kV32 dc32 pm32 an32 cd32 ct32), sl32⟩)
    (c32 : PySem.W.codeIn K cd32 "_law_found" = true) (k32 : PySem.W.keepIn K (.ref f32) = true)
    (a33 : PySem.W.nsIn K mainGlobals "_law_due" = some (some (.ref f33)))
    (l33 : K.lookup f33 = some ⟨oc33, od33, .func (PySem.W.fnOf "_law_due" "_law_due" (defArgs s_law_due) (defBody s_law_due) (defScope s_law_due) .none kV33 dc33 pm33 an33 cd33 ct33), sl33⟩)
    (c33 : PySem.W.codeIn K cd33 "_law_due" = true) (k33 : PySem.W.keepIn K (.ref f33) = true)
    (a34 : PySem.W.nsIn K mainGlobals "_law_other" = some (some (.ref f34)))
    (l34 : K.lookup f34 = some ⟨oc34, od34, .func (PySem.W.fnOf "_law_other" "_law_other" (defArgs s_law_other) (defBody s_law_other) (defScope s_law_other) .none kV34 dc34 pm34 an34 cd34 ct34), sl34⟩)
    (c34 : PySem.W.codeIn K cd34 "_law_other" = true) (k34 : PySem.W.keepIn K (.ref f34) = true)
    (a35 : PySem.W.nsIn K mainGlobals "_law_right" = some (some (.ref f35)))
    (l35 : K.lookup f35 = some ⟨oc35, od35, .func (PySem.W.fnOf "_law_right" "_law_right" (defArgs s_law_right) (defBody s_law_right) (defScope s_law_right) .none kV35 dc35 pm35 an35 cd35 ct35), sl35⟩)
    (c35 : PySem.W.codeIn K cd35 "_law_right" = true) (k35 : PySem.W.keepIn K (.ref f35) = true)
    (a36 : PySem.W.nsIn K mainGlobals "law" = some (some (.ref f36)))
    (l36 : K.lookup f36 = some ⟨oc36, od36, .func (PySem.W.fnOf "law" "law" (defArgs s_law) (defBody s_law) (defScope s_law) .none kV36 dc36 pm36 an36 cd36 ct36), sl36⟩)
    (c36 : PySem.W.codeIn K cd36 "law" = true) (k36 : PySem.W.keepIn K (.ref f36) = true)
    (y1 : PySem.W.nsIn K mainGlobals "VARIABLE" = some (some (.int 0 u1)))
    (y2 : PySem.W.nsIn K mainGlobals "INTEGER" = some (some (.int 1 u2)))
    (y3 : PySem.W.nsIn K mainGlobals "ATOM" = some (some (.int 2 u3)))
    (y4 : PySem.W.nsIn K mainGlobals "COMPOUND" = some (some (.int 3 u4)))
    (y5 : PySem.W.nsIn K mainGlobals "MOST_SIGNS" = some (some (.int 40 u5)))
    (y6 : PySem.W.nsIn K mainGlobals "MOST_ARGUMENTS" = some (some (.int 8 u6)))
    (y7 : PySem.W.nsIn K mainGlobals "BARRED_SIGN" = some (some (.int 37 u7)))
    (y8 : PySem.W.nsIn K mainGlobals "TOO_GREAT" = some (some (.int tooGreat u8)))
    (z1 : PySem.W.nsIn K mainGlobals "abs" = some none)
    (z2 : PySem.W.nsIn K mainGlobals "all" = some none)
    (z3 : PySem.W.nsIn K mainGlobals "bool" = some none)
    (z4 : PySem.W.nsIn K mainGlobals "dict" = some none)
    (z5 : PySem.W.nsIn K mainGlobals "enumerate" = some none)
    (z6 : PySem.W.nsIn K mainGlobals "int" = some none)
    (z7 : PySem.W.nsIn K mainGlobals "isinstance" = some none)
    (z8 : PySem.W.nsIn K mainGlobals "len" = some none)
    (z9 : PySem.W.nsIn K mainGlobals "list" = some none)
    (z10 : PySem.W.nsIn K mainGlobals "max" = some none)
    (z11 : PySem.W.nsIn K mainGlobals "min" = some none)
    (z12 : PySem.W.nsIn K mainGlobals "ord" = some none)
    (z13 : PySem.W.nsIn K mainGlobals "range" = some none)
    (z14 : PySem.W.nsIn K mainGlobals "reversed" = some none)
    (z15 : PySem.W.nsIn K mainGlobals "sorted" = some none)
    (z16 : PySem.W.nsIn K mainGlobals "str" = some none)
    (z17 : PySem.W.nsIn K mainGlobals "tuple" = some none)
    (z18 : PySem.W.nsIn K mainGlobals "zip" = some none) :
    ∃ fd : FuncData, (∀ (s : Shared) (v : Value), BindsTo s fd ⟨[v], []⟩ [("_law_script", v)]) ∧ ∀ base : Heap, K.In base → base.Ns mainGlobals mg → LamX.TabB base mg cc pp → FnOk l.prog w K mg base CX0 20 fa fd ["_law_script"] (spLaw K pp) := by
  have e := hfa.symm.trans (PySem.W.mg_of X G a36)
  cases e
  have F1 := fun_mk (st := s_is_integer) l1 c1 k1
  have b1 := F1.binds (ps := ["thing"]) fun _ _ _ _ _ _ us hl => match us, hl with | [_], _ => rfl
  have F2 := fun_mk (st := s_is_sign) l2 c2 k2
  have b2 := F2.binds (ps := ["sign"]) fun _ _ _ _ _ _ us hl => match us, hl with | [_], _ => rfl
  have F3 := fun_mk (st := s_is_atom) l3 c3 k3
  have b3 := F3.binds (ps := ["thing"]) fun _ _ _ _ _ _ us hl => match us, hl with | [_], _ => rfl
  have F4 := fun_mk (st := s_is_number) l4 c4 k4
  have b4 := F4.binds (ps := ["thing"]) fun _ _ _ _ _ _ us hl => match us, hl with | [_], _ => rfl
  have F5 := fun_mk (st := s_is_term) l5 c5 k5
  have b5 := F5.binds (ps := ["thing"]) fun _ _ _ _ _ _ us hl => match us, hl with | [_], _ => rfl
  have F6 := fun_mk (st := s_is_part) l6 c6 k6
  have b6 := F6.binds (ps := ["thing"]) fun _ _ _ _ _ _ us hl => match us, hl with | [_], _ => rfl
  have F7 := fun_mk (st := s_demand_term) l7 c7 k7
  have b7 := F7.binds (ps := ["term"]) fun _ _ _ _ _ _ us hl => match us, hl with | [_], _ => rfl
  have F8 := fun_mk (st := s_is_variable) l8 c8 k8
  have b8 := F8.binds (ps := ["part"]) fun _ _ _ _ _ _ us hl => match us, hl with | [_], _ => rfl
  have F9 := fun_mk (st := s_arguments_of) l9 c9 k9
  have b9 := F9.binds (ps := ["part"]) fun _ _ _ _ _ _ us hl => match us, hl with | [_], _ => rfl
  have F10 := fun_mk (st := s_parts_of) l10 c10 k10
  have b10 := F10.binds (ps := ["term"]) fun _ _ _ _ _ _ us hl => match us, hl with | [_], _ => rfl
  have F11 := fun_mk (st := s_head_of) l11 c11 k11
  have b11 := F11.binds (ps := ["part"]) fun _ _ _ _ _ _ us hl => match us, hl with | [_], _ => rfl
  have F12 := fun_mk (st := s_folded) l12 c12 k12
  have b12 := F12.binds (ps := ["row"]) fun _ _ _ _ _ _ us hl => match us, hl with | [_], _ => rfl
  have F13 := fun_mk (st := s_replaced) l13 c13 k13
  have b13 := F13.binds (ps := ["term", "table"]) fun _ _ _ _ _ _ us hl => match us, hl with | [_, _], _ => rfl
  have F14 := fun_mk (st := s_numbers_in) l14 c14 k14
  have b14 := F14.binds (ps := ["term"]) fun _ _ _ _ _ _ us hl => match us, hl with | [_], _ => rfl
  have F15 := fun_mk (st := s_renumbered) l15 c15 k15
  have b15 := F15.binds (ps := ["term"]) fun _ _ _ _ _ _ us hl => match us, hl with | [_], _ => rfl
  have F16 := fun_mk (st := s_order_key) l16 c16 k16
  have b16 := F16.binds (ps := ["term"]) fun _ _ _ _ _ _ us hl => match us, hl with | [_], _ => rfl
  have F17 := fun_mk (st := s_matching) l17 c17 k17
  have b17 := F17.binds (ps := ["general", "special"]) fun _ _ _ _ _ _ us hl => match us, hl with | [_, _], _ => rfl
  have F18 := fun_mk (st := s_subsumes) l18 c18 k18
  have b18 := F18.binds (ps := ["general", "special"]) fun _ _ _ _ _ _ us hl => match us, hl with | [_, _], _ => rfl
  have F19 := fun_mk (st := s_is_variant) l19 c19 k19
  have b19 := F19.binds (ps := ["one", "other"]) fun _ _ _ _ _ _ us hl => match us, hl with | [_, _], _ => rfl
  have F20 := fun_mk (st := s_law_cell_at) l20 c20 k20
  have b20 := F20.binds (ps := ["_law_script", "_law_k"]) fun _ _ _ _ _ _ us hl => match us, hl with | [_, _], _ => rfl
  have F21 := fun_mk (st := s_law_well) l21 c21 k21
  have b21 := F21.binds (ps := ["_law_cell"]) fun _ _ _ _ _ _ us hl => match us, hl with | [_], _ => rfl
  have F22 := fun_mk (st := s_law_draw) l22 c22 k22
  have b22 := F22.binds (ps := ["_law_well_here", "_law_many"]) fun _ _ _ _ _ _ us hl => match us, hl with | [_, _], _ => rfl
  have F23 := fun_mk (st := s_law_one) l23 c23 k23
  have b23 := F23.binds (ps := ["_law_well_here", "_law_some"]) fun _ _ _ _ _ _ us hl => match us, hl with | [_, _], _ => rfl
  have F24 := fun_mk (st := s_law_leaf) l24 c24 k24
  have b24 := F24.binds (ps := ["_law_well_here", "_law_many"]) fun _ _ _ _ _ _ us hl => match us, hl with | [_, _], _ => rfl
  have F25 := fun_mk (st := s_law_term) l25 c25 k25
  have b25 := F25.binds (ps := ["_law_well_here", "_law_deep", "_law_many"]) fun _ _ _ _ _ _ us hl => match us, hl with | [_, _, _], _ => rfl
  have F26 := fun_mk (st := s_law_is_variable) l26 c26 k26
  have b26 := F26.binds (ps := ["_law_term_here"]) fun _ _ _ _ _ _ us hl => match us, hl with | [_], _ => rfl
  have F27 := fun_mk (st := s_law_is_compound) l27 c27 k27
  have b27 := F27.binds (ps := ["_law_term_here"]) fun _ _ _ _ _ _ us hl => match us, hl with | [_], _ => rfl
  have F28 := fun_mk (st := s_law_parts) l28 c28 k28
  have b28 := F28.binds (ps := ["_law_term_here"]) fun _ _ _ _ _ _ us hl => match us, hl with | [_], _ => rfl
  have F29 := fun_mk (st := s_law_numbers) l29 c29 k29
  have b29 := F29.binds (ps := ["_law_term_here"]) fun _ _ _ _ _ _ us hl => match us, hl with | [_], _ => rfl
  have F30 := fun_mk (st := s_law_put) l30 c30 k30
  have b30 := F30.binds (ps := ["_law_term_here", "_law_table"]) fun _ _ _ _ _ _ us hl => match us, hl with | [_, _], _ => rfl
  have F31 : FunD K "_law_anew" "_law_anew" (defArgs s_law_anew) (defBody s_law_anew) (defScope s_law_anew) [V.int 0] [] f31 (PySem.W.fnOf "_law_anew" "_law_anew" (defArgs s_law_anew) (defBody s_law_anew) (defScope s_law_anew) (.ref T31) kV31 dc31 pm31 an31 cd31 ct31) := ⟨⟨_, _, _, _, _, _, _, _, _, _, rfl, l31, c31, .inr ⟨by simp, T31, _, [.int 0 tk31], _, rfl, t31, rfl, .cons ⟨_, rfl⟩ .nil⟩, .inl rfl⟩, k31⟩
  have b31 : ∃ ds, Vals [V.int 0] ds ∧ Binds K _ ["_law_term_here", "_law_first"] ds := F31.binds1 (ps := ["_law_term_here", "_law_first"]) 1 0 (by simp) rfl fun _ _ _ _ _ _ _ us its hl hi => match us, its, hl, hi with | [_], [_], _, _ => ⟨_, rfl, rfl⟩
  have F32 := fun_mk (st := s_law_found) l32 c32 k32
  have b32 := F32.binds (ps := ["_law_general", "_law_special", "_law_table"]) fun _ _ _ _ _ _ us hl => match us, hl with | [_, _, _], _ => rfl
  have F33 := fun_mk (st := s_law_due) l33 c33 k33
  have b33 := F33.binds (ps := ["_law_general", "_law_special"]) fun _ _ _ _ _ _ us hl => match us, hl with | [_, _], _ => rfl
  have F34 := fun_mk (st := s_law_other) l34 c34 k34
  have b34 := F34.binds (ps := ["_law_well_here", "_law_term_here"]) fun _ _ _ _ _ _ us hl => match us, hl with | [_, _], _ => rfl
  have F35 := fun_mk (st := s_law_right) l35 c35 k35
  have b35 := F35.binds (ps := ["_law_well_here"]) fun _ _ _ _ _ _ us hl => match us, hl with | [_], _ => rfl
  have F36 := fun_mk (st := s_law) l36 c36 k36
  have b36 := F36.binds (ps := ["_law_script"]) fun _ _ _ _ _ _ us hl => match us, hl with | [_], _ => rfl
  exact ⟨PySem.W.fnOf "law" "law" (defArgs s_law) (defBody s_law) (defScope s_law) .none kV36 dc36 pm36 an36 cd36 ct36, fun s v => .of_eq rfl, fun base _ _ TB => ok_law (T := ({
    f_is_integer := f1, d_is_integer := _, h_is_integer := ⟨F1, b1, PySem.W.mg_of X G a1⟩,
    f_is_sign := f2, d_is_sign := _, h_is_sign := ⟨F2, b2, PySem.W.mg_of X G a2⟩,
    f_is_atom := f3, d_is_atom := _, h_is_atom := ⟨F3, b3, PySem.W.mg_of X G a3⟩,
    f_is_number := f4, d_is_number := _, h_is_number := ⟨F4, b4, PySem.W.mg_of X G a4⟩,
    f_is_term := f5, d_is_term := _, h_is_term := ⟨F5, b5, PySem.W.mg_of X G a5⟩,
    f_is_part := f6, d_is_part := _, h_is_part := ⟨F6, b6, PySem.W.mg_of X G a6⟩,
    f_demand_term := f7, d_demand_term := _, h_demand_term := ⟨F7, b7, PySem.W.mg_of X G a7⟩,
    f_is_variable := f8, d_is_variable := _, h_is_variable := ⟨F8, b8, PySem.W.mg_of X G a8⟩,
    f_arguments_of := f9, d_arguments_of := _, h_arguments_of := ⟨F9, b9, PySem.W.mg_of X G a9⟩,
    f_parts_of := f10, d_parts_of := _, h_parts_of := ⟨F10, b10, PySem.W.mg_of X G a10⟩,
    f_head_of := f11, d_head_of := _, h_head_of := ⟨F11, b11, PySem.W.mg_of X G a11⟩,
    f_folded := f12, d_folded := _, h_folded := ⟨F12, b12, PySem.W.mg_of X G a12⟩,
    f_replaced := f13, d_replaced := _, h_replaced := ⟨F13, b13, PySem.W.mg_of X G a13⟩,
    f_numbers_in := f14, d_numbers_in := _, h_numbers_in := ⟨F14, b14, PySem.W.mg_of X G a14⟩,
    f_renumbered := f15, d_renumbered := _, h_renumbered := ⟨F15, b15, PySem.W.mg_of X G a15⟩,
    f_order_key := f16, d_order_key := _, h_order_key := ⟨F16, b16, PySem.W.mg_of X G a16⟩,
    f_matching := f17, d_matching := _, cc := cc, h_matching := ⟨F17, b17, PySem.W.mg_of X G a17, ⟨_, _, _, _, _, _, _, _, rfl, l17, c17⟩⟩,
    f_subsumes := f18, d_subsumes := _, h_subsumes := ⟨F18, b18, PySem.W.mg_of X G a18⟩,
    f_is_variant := f19, d_is_variant := _, h_is_variant := ⟨F19, b19, PySem.W.mg_of X G a19⟩,
    f_law_cell_at := f20, d_law_cell_at := _, h_law_cell_at := ⟨F20, b20, PySem.W.mg_of X G a20⟩,
    f_law_well := f21, d_law_well := _, h_law_well := ⟨F21, b21, PySem.W.mg_of X G a21⟩,
    f_law_draw := f22, d_law_draw := _, h_law_draw := ⟨F22, b22, PySem.W.mg_of X G a22⟩,
    f_law_one := f23, d_law_one := _, h_law_one := ⟨F23, b23, PySem.W.mg_of X G a23⟩,
    f_law_leaf := f24, d_law_leaf := _, h_law_leaf := ⟨F24, b24, PySem.W.mg_of X G a24⟩,
    f_law_term := f25, d_law_term := _, h_law_term := ⟨F25, b25, PySem.W.mg_of X G a25⟩,
    f_law_is_variable := f26, d_law_is_variable := _, h_law_is_variable := ⟨F26, b26, PySem.W.mg_of X G a26⟩,
    f_law_is_compound := f27, d_law_is_compound := _, h_law_is_compound := ⟨F27, b27, PySem.W.mg_of X G a27⟩,
    f_law_parts := f28, d_law_parts := _, h_law_parts := ⟨F28, b28, PySem.W.mg_of X G a28⟩,
    f_law_numbers := f29, d_law_numbers := _, h_law_numbers := ⟨F29, b29, PySem.W.mg_of X G a29⟩,
    f_law_put := f30, d_law_put := _, h_law_put := ⟨F30, b30, PySem.W.mg_of X G a30⟩,
    f_law_anew := f31, d_law_anew := _, h_law_anew := ⟨F31, PySem.W.mg_of X G a31, b31⟩,
    f_law_found := f32, d_law_found := _, h_law_found := ⟨F32, b32, PySem.W.mg_of X G a32⟩,
    f_law_due := f33, d_law_due := _, h_law_due := ⟨F33, b33, PySem.W.mg_of X G a33⟩,
    f_law_other := f34, d_law_other := _, h_law_other := ⟨F34, b34, PySem.W.mg_of X G a34⟩,
    f_law_right := f35, d_law_right := _, h_law_right := ⟨F35, b35, PySem.W.mg_of X G a35⟩,
    f_law := fa, d_law := _, h_law := ⟨F36, b36, PySem.W.mg_of X G a36⟩,
    c_VARIABLE := ⟨_, PySem.W.mg_of X G y1⟩,
    c_INTEGER := ⟨_, PySem.W.mg_of X G y2⟩,
    c_ATOM := ⟨_, PySem.W.mg_of X G y3⟩,
    c_COMPOUND := ⟨_, PySem.W.mg_of X G y4⟩,
    c_MOST_SIGNS := ⟨_, PySem.W.mg_of X G y5⟩,
    c_MOST_ARGUMENTS := ⟨_, PySem.W.mg_of X G y6⟩,
    c_BARRED_SIGN := ⟨_, PySem.W.mg_of X G y7⟩,
    c_TOO_GREAT := ⟨_, PySem.W.mg_of X G y8⟩,
    b_abs := PySem.W.mg_none_of X G z1,
    b_all := PySem.W.mg_none_of X G z2,
    b_bool := PySem.W.mg_none_of X G z3,
    b_dict := PySem.W.mg_none_of X G z4,
    b_enumerate := PySem.W.mg_none_of X G z5,
    b_int := PySem.W.mg_none_of X G z6,
    b_isinstance := PySem.W.mg_none_of X G z7,
    b_len := PySem.W.mg_none_of X G z8,
    b_list := PySem.W.mg_none_of X G z9,
    b_max := PySem.W.mg_none_of X G z10,
    b_min := PySem.W.mg_none_of X G z11,
    b_ord := PySem.W.mg_none_of X G z12,
    b_range := PySem.W.mg_none_of X G z13,
    b_reversed := PySem.W.mg_none_of X G z14,
    b_sorted := PySem.W.mg_none_of X G z15,
    b_str := PySem.W.mg_none_of X G z16,
    b_tuple := PySem.W.mg_none_of X G z17,
    b_zip := PySem.W.mg_none_of X G z18 } : Tx K mg)) TB⟩
theorem at_mk {l : PySem.W.OpenLaw} {w : World} {K : PySem.W.Frag} {mg : Str → Option Value} {fa cc pp : Addr} {h : Heap} (KX : K.In h) (hT : h.get? pp = some { cls := .none, data := .fields #[] }) 
    (M : ∃ fd : FuncData, (∀ (s : Shared) (v : Value), BindsTo s fd ⟨[v], []⟩ [("_law_script", v)]) ∧ ∀ base : Heap, K.In base → base.Ns mainGlobals mg → LamX.TabB base mg cc pp → FnOk l.prog w K mg base CX0 20 fa fd ["_law_script"] (spLaw K pp))
    (nT : K.lookup pp = none) (C : PySem.W.codeHdIn K cc pp = true) : LamX.LawAtS l w K CX0 20 63 "_law_script" mg fa h := by
  obtain ⟨fd, hb, F⟩ := M
  refine ⟨fd, [(cc, pp)], spLaw K pp, fun p hp => ?_, fun p hp => ?_, fun p hp => ?_, hb, fun H a ns hn _ hH hS => ⟨a, ns, rfl, hS, hn, fun p hp => ?_, fun _ => rfl⟩, fun base B N TBs => F base B N (TBs _ List.mem_cons_self)⟩
  · rw [List.mem_singleton.mp hp]
    exact hT
  · rw [List.mem_singleton.mp hp]
    exact nT
  · rw [List.mem_singleton.mp hp]
    exact PySem.W.codeHd_of_K KX C
  · rw [List.mem_singleton.mp hp]
    exact LamX.TabS.nil (hH _ List.mem_cons_self)
theorem walk {l : PySem.W.OpenLaw} {q : Program} {loose : List Str} {XP : (Str → Option Value) → Heap → Prop} {YP : World → Heap → Prop} {d : DefRec} {K : Params → PySem.W.Frag} (hn : l.most = some 63) (hdf : d.params.defaults = [])
    (hY : ∀ (w : World) (h : Heap), YP w h → (K w.params).In h)
    (F : ∀ (w : World) (mg : Str → Option Value) (fa : Addr) (h : Heap), YP w h → (K w.params).In h → h.Ns mainGlobals mg → mg d.name = some (.ref fa) → LamX.LawAtS l w (K w.params) CX0 20 63 "_law_script" mg fa h) :
    PySem.W.WalkO q loose XP YP l.row.toRowW d [] (fun f vs => PySem.call f vs) :=
  LamX.walk_ofTs (n := 63) (k := 20) (x := "_law_script") (CX := fun _ => CX0) hn (by decide) hdf ⟨rfl, by decide, by decide⟩ hY F fun _ _ _ _ _ z => z
end Hm

open PySem PySem.W PyProof.Rows
set_option maxRecDepth 100000 in
set_option maxHeartbeats 0 in
theorem PySem.Challenge.cw_hornmill_k07_terms_matched_holds : PySem.Challenge.rw_hornmill_k07_terms_matched.Holds := by
  w_on; o_law; k_head; (case hw => w_witness2)
  k_fill
  refine Hm.walk (l := PySem.Challenge.rw_hornmill_k07_terms_matched) rfl rfl (fun w h Y => PySem.W.km_in_of Y) ?F
  case F =>
    intro w mg fa h Y KX G hmg
    refine' Hm.at_mk KX (PySem.W.km_tabs_of Y _ List.mem_cons_self) (Hm.all_mk KX G hmg ?a1 ?l1 ?c1 ?k1 ?a2 ?l2 ?c2 ?k2 ?a3 ?l3 ?c3 ?k3 ?a4 ?l4 ?c4 ?k4 ?a5 ?l5 ?c5 ?k5 ?a6 ?l6 ?c6 ?k6 ?a7 ?l7 ?c7 ?k7 ?a8 ?l8 ?c8 ?k8 ?a9 ?l9 ?c9 ?k9 ?a10 ?l10 ?c10 ?k10 ?a11 ?l11 ?c11 ?k11 ?a12 ?l12 ?c12 ?k12 ?a13 ?l13 ?c13 ?k13 ?a14 ?l14 ?c14 ?k14 ?a15 ?l15 ?c15 ?k15 ?a16 ?l16 ?c16 ?k16 ?a17 ?l17 ?c17 ?k17 ?a18 ?l18 ?c18 ?k18 ?a19 ?l19 ?c19 ?k19 ?a20 ?l20 ?c20 ?k20 ?a21 ?l21 ?c21 ?k21 ?a22 ?l22 ?c22 ?k22 ?a23 ?l23 ?c23 ?k23 ?a24 ?l24 ?c24 ?k24 ?a25 ?l25 ?c25 ?k25 ?a26 ?l26 ?c26 ?k26 ?a27 ?l27 ?c27 ?k27 ?a28 ?l28 ?c28 ?k28 ?a29 ?l29 ?c29 ?k29 ?a30 ?l30 ?c30 ?k30 ?a31 ?l31 ?t31 ?c31 ?k31 ?a32 ?l32 ?c32 ?k32 ?a33 ?l33 ?c33 ?k33 ?a34 ?l34 ?c34 ?k34 ?a35 ?l35 ?c35 ?k35 ?a36 ?l36 ?c36 ?k36 ?y1 ?y2 ?y3 ?y4 ?y5 ?y6 ?y7 ?y8 ?z1 ?z2 ?z3 ?z4 ?z5 ?z6 ?z7 ?z8 ?z9 ?z10 ?z11 ?z12 ?z13 ?z14 ?z15 ?z16 ?z17 ?z18) ?nT ?C
    (case a1 => k_is)
    (case l1 => k_is)
    (case c1 => k_is)
    (case k1 => k_is)
    (case a2 => k_is)
    (case l2 => k_is)
    (case c2 => k_is)
    (case k2 => k_is)
    (case a3 => k_is)
    (case l3 => k_is)
    (case c3 => k_is)
    (case k3 => k_is)
    (case a4 => k_is)
    (case l4 => k_is)
    (case c4 => k_is)
    (case k4 => k_is)
    (case a5 => k_is)
    (case l5 => k_is)
    (case c5 => k_is)
    (case k5 => k_is)
    (case a6 => k_is)
    (case l6 => k_is)
    (case c6 => k_is)
    (case k6 => k_is)
    (case a7 => k_is)
    (case l7 => k_is)
    (case c7 => k_is)
    (case k7 => k_is)
    (case a8 => k_is)
    (case l8 => k_is)
    (case c8 => k_is)
    (case k8 => k_is)
    (case a9 => k_is)
    (case l9 => k_is)
    (case c9 => k_is)
    (case k9 => k_is)
    (case a10 => k_is)
    (case l10 => k_is)
    (case c10 => k_is)
    (case k10 => k_is)
    (case a11 => k_is)
    (case l11 => k_is)
    (case c11 => k_is)
    (case k11 => k_is)
    (case a12 => k_is)
    (case l12 => k_is)
    (case c12 => k_is)
    (case k12 => k_is)
    (case a13 => k_is)
    (case l13 => k_is)
    (case c13 => k_is)
    (case k13 => k_is)
    (case a14 => k_is)
    (case l14 => k_is)
    (case c14 => k_is)
    (case k14 => k_is)
    (case a15 => k_is)
    (case l15 => k_is)
    (case c15 => k_is)
    (case k15 => k_is)
    (case a16 => k_is)
    (case l16 => k_is)
    (case c16 => k_is)
    (case k16 => k_is)
    (case a17 => k_is)
    (case l17 => k_is)
    (case c17 => k_is)
    (case k17 => k_is)
    (case a18 => k_is)
    (case l18 => k_is)
    (case c18 => k_is)
    (case k18 => k_is)
    (case a19 => k_is)
    (case l19 => k_is)
    (case c19 => k_is)
    (case k19 => k_is)
    (case a20 => k_is)
    (case l20 => k_is)
    (case c20 => k_is)
    (case k20 => k_is)
    (case a21 => k_is)
    (case l21 => k_is)
    (case c21 => k_is)
    (case k21 => k_is)
    (case a22 => k_is)
    (case l22 => k_is)
    (case c22 => k_is)
    (case k22 => k_is)
    (case a23 => k_is)
    (case l23 => k_is)
    (case c23 => k_is)
    (case k23 => k_is)
    (case a24 => k_is)
    (case l24 => k_is)
    (case c24 => k_is)
    (case k24 => k_is)
    (case a25 => k_is)
    (case l25 => k_is)
    (case c25 => k_is)
    (case k25 => k_is)
    (case a26 => k_is)
    (case l26 => k_is)
    (case c26 => k_is)
    (case k26 => k_is)
    (case a27 => k_is)
    (case l27 => k_is)
    (case c27 => k_is)
    (case k27 => k_is)
    (case a28 => k_is)
    (case l28 => k_is)
    (case c28 => k_is)
    (case k28 => k_is)
    (case a29 => k_is)
    (case l29 => k_is)
    (case c29 => k_is)
    (case k29 => k_is)
    (case a30 => k_is)
    (case l30 => k_is)
    (case c30 => k_is)
    (case k30 => k_is)
    (case a31 => k_is)
    (case l31 => k_is)
    (case t31 => k_is)
    (case c31 => k_is)
    (case k31 => k_is)
    (case a32 => k_is)
    (case l32 => k_is)
    (case c32 => k_is)
    (case k32 => k_is)
    (case a33 => k_is)
    (case l33 => k_is)
    (case c33 => k_is)
    (case k33 => k_is)
    (case a34 => k_is)
    (case l34 => k_is)
    (case c34 => k_is)
    (case k34 => k_is)
    (case a35 => k_is)
    (case l35 => k_is)
    (case c35 => k_is)
    (case k35 => k_is)
    (case a36 => k_is)
    (case l36 => k_is)
    (case c36 => k_is)
    (case k36 => k_is)
    (case y1 => k_is)
    (case y2 => k_is)
    (case y3 => k_is)
    (case y4 => k_is)
    (case y5 => k_is)
    (case y6 => k_is)
    (case y7 => k_is)
    (case y8 => k_is)
    (case z1 => k_is)
    (case z2 => k_is)
    (case z3 => k_is)
    (case z4 => k_is)
    (case z5 => k_is)
    (case z6 => k_is)
    (case z7 => k_is)
    (case z8 => k_is)
    (case z9 => k_is)
    (case z10 => k_is)
    (case z11 => k_is)
    (case z12 => k_is)
    (case z13 => k_is)
    (case z14 => k_is)
    (case z15 => k_is)
    (case z16 => k_is)
    (case z17 => k_is)
    (case z18 => k_is)
    (case nT => kernel_rfl)
    (case C => kernel_rfl)

