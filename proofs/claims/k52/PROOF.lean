import PyProof.Rows.All
import Wide.All
import OpenK.AllK
import Wide.FinOn
import HandS.ForMost
import HandS.Style
import HandS.TupAny
import HandS.Flow
import HandS.Star
import HandS.IsInst
import HandS.Rev
import HandS.Evl
import HandS.More
import HandS.DictComp
import HandS.Wide
import HandS.Walk
import KE.LtSeq
import KE.LtData
import HandS.SortKw
import KE.KSortKey
import KE.SortCalls
import HandS.Exc
import HandS.WordsExc
import HandS.ExcInit
import HandS.ExcField
import HandS.ExcIs
import HandS.ForExc
import KE.KExcIs
import PyProof.ReprRoads
import PyProof.CallFns
import HandS.Dict
import PyProof.TupleKey
import PyProof.P3Eq
import HandS.CallLocal
import HandS.Zip
import HandS.Defaults
import PySem.Challenge.RW_hornmill_k52_whole_ends_and_what_contain
import HandS.DictTup
import KE.KDictZip
import HandS.TupLe
import HandS.Small
import HandS.SetKeys
import HandS.Conv
import PyProof.DictMoreH
import HandS.TupLen
set_option Elab.async false
set_option linter.all false
set_option maxRecDepth 100000
set_option maxHeartbeats 4000000
namespace Hm
open PySem PySem.Spec PyProof.Rows L2 HT

/-! ## rules that the layer lacks -/
section
variable {prog : Program} {w : World} {A : Around} {E : Value → Shared → Prop} {s : Shared}
theorem sliceApplied_back {sl : Addr} {n : Nat} {ti : Tok} {Q : Int × Int × Nat → Shared → Prop} (hs : s.heap.IsSliceOf sl .none .none (.int (-1) ti))
    (h : Q ((n : Int) - 1, -1, n) s) : wpAny (model prog w) A (Builtin.Slice.sliceApplied (.ref sl) (pure (n : Int))) Q E s := by
  obtain ⟨os, hos, hcs, hds⟩ := id hs
  unfold Builtin.Slice.sliceApplied Builtin.Slice.sliceFields
  refine wpAny_bind (wpAny_bind (wpAny_field hos hds (x := .none) rfl (wpAny_bind (wpAny_field hos hds (x := .none) rfl (wpAny_bind (wpAny_field hos hds (x := .int (-1) ti) rfl (wpAny_pure ?_)))))))
  refine wpAny_bind (slicePart_ (.int (-1) ti) ?_)
  show wpAny _ _ (if ((-1 : Int) == 0) = true then _ else _) _ _ s
  rw [if_neg (by decide)]
  refine wpAny_bind (slicePart_ .none (wpAny_bind (slicePart_ .none (wpAny_bind (wpAny_pure ?_)))))
  show wpAny _ _ (pure ((n : Int) - 1, (-1 : Int), Builtin.Slice.slicePlaces ((n : Int) - 1) (-1) (-1))) _ _ s
  have e : Builtin.Slice.slicePlaces ((n : Int) - 1) (-1) (-1) = n := by
    unfold Builtin.Slice.slicePlaces
    rw [if_neg (by decide)]
    by_cases hn : (n : Int) - 1 > -1
    · rw [if_pos hn]
      have : -(-1 : Int) = 1 := by decide
      rw [this, Int.ediv_one]
      omega
    · rw [if_neg hn]
      omega
  rw [e]
  exact wpAny_pure h
theorem fm_congr {α β : Type} {f g : α → Option β} : ∀ l : List α, (∀ x ∈ l, f x = g x) → l.filterMap f = l.filterMap g
  | [], _ => rfl
  | x :: r, h => by
    rw [List.filterMap_cons, List.filterMap_cons, h x List.mem_cons_self, fm_congr r fun y hy => h y (List.mem_cons_of_mem _ hy)]
theorem pick_back (xs : List Value) : ((List.range xs.toArray.size).filterMap fun (k : Nat) => xs.toArray[(((xs.toArray.size : Nat) : Int) - 1 + (k : Int) * -1).toNat]?).toArray = xs.reverse.toArray := by
  apply congrArg List.toArray
  have key : ∀ m : Nat, m ≤ xs.length → ((List.range m).filterMap fun (k : Nat) => xs[xs.length - 1 - k]?) = xs.reverse.take m := by
    intro m
    induction m with
    | zero => intro _; simp
    | succ m ih =>
      intro hm
      rw [List.range_succ, List.filterMap_append, ih (by omega), List.take_add_one]
      congr 1
      have hlt : xs.length - 1 - m < xs.length := by omega
      rw [List.getElem?_reverse (by omega)]
      simp [List.getElem?_eq_getElem hlt]
  have k2 := key xs.length (Nat.le_refl _)
  rw [List.take_of_length_le (by simp)] at k2
  rw [← k2, List.size_toArray]
  refine fm_congr _ fun k hk => ?_
  have hk' : k < xs.length := List.mem_range.mp hk
  have e : (((xs.length : Nat) : Int) - 1 + (k : Int) * -1).toNat = xs.length - 1 - k := by omega
  rw [e]
  simp
theorem getItem_tuple_back {t sl : Addr} {items : List Value} {ti : Tok} {Q : Value → Shared → Prop} (ht : IsTup s.heap t items.toArray) (hs : s.heap.IsSliceOf sl .none .none (.int (-1) ti))
    (h : Q (.ref s.heap.objs.size) { s with heap := s.heap.push { cls := .type "tuple", data := .seq items.reverse.toArray } })
    (hsz : items.length ≤ sizeLine) : wpAny (model prog w) A (getItem (.ref t) (.ref sl)) Q E s := by
  have htake : sizeOk (.seq items.reverse.toArray) := by
    show items.reverse.toArray.size ≤ sizeLine
    rw [List.size_toArray, List.length_reverse]
    exact hsz
  obtain ⟨os, hos, hcs, hds⟩ := id hs
  have hTs : s.TypeIs (.ref sl) "slice" := ⟨os, hos, hcs⟩
  unfold getItem
  try with_reducible refine wpAny_holding ?_
  first | refine wpAny_bind (wpAny_pure ?_) | skip
  refine wpAny_bind (wpAny_sequenceKey ht.typeIs (by decide) ?_)
  refine wpAny_bind (wpAny_callSpecial?_slot (name := Str.ofString "__getitem__") ht.typeIs PyProof.Rows.slot_tuple_getitem
    (wpAny_call_entry PyProof.Rows.slot_tuple_getitem ht.typeIs entry_tuple_getitem ?_ (args_tuple_getitem _ _)))
  show wpAny _ _ (Builtin.Tuple.tupleItemsOf (.ref t) >>= _) _ _ s
  refine wpAny_bind (tupleItemsOf_ ht ?_)
  refine wpAny_bind (wpAny_typeOf hTs ?_)
  rw [if_pos (by decide)]
  refine wpAny_bind (sliceApplied_back hs ?_)
  have hno : ¬ ((((items.toArray.size : Nat) : Int) - 1 == 0 && (-1 : Int) == 1 && items.toArray.size == items.toArray.size) = true) := by
    intro q
    rw [Bool.and_eq_true, Bool.and_eq_true] at q
    exact absurd q.1.2 (by decide)
  show wpAny _ _ (if (((items.toArray.size : Nat) : Int) - 1 == 0 && (-1 : Int) == 1 && items.toArray.size == items.toArray.size) = true then _ else _) _ _ s
  rw [if_neg hno, pick_back]
  first
    | exact wpAny_bind (m := Builtin.Tuple.tupleExact _) (wpAny_newObj_type (wpAny_pure ⟨_, rfl, wpAny_pure h⟩) htake)
    | exact wpAny_bind (m := Builtin.Tuple.tupleExact _) (wpAny_newObj_type (wpAny_bind (wpAny_pure (wpAny_pure ⟨_, rfl, wpAny_pure h⟩))) htake)
    | exact wpAny_bind (wpAny_bind (m := Builtin.Tuple.tupleExact _) (wpAny_newObj_type (wpAny_pure (wpAny_pure ⟨_, rfl, wpAny_pure h⟩)) htake))
    | exact wpAny_bind (wpAny_bind (m := Builtin.Tuple.tupleExact _) (wpAny_newObj_type (wpAny_pure ⟨_, rfl, wpAny_pure h⟩) htake))
end

/-- t[::-1] of a tuple -/
def tRevT (K : PySem.W.Frag) (te : TE) : TE := fun σ H Q => te σ H fun x H1 => ∃ a xs, x = .ref a ∧ SqT K H1 a xs ∧ ∀ p, H1 p = none → Q (.ref p) (upd H1 p (.tup xs.reverse))
section
variable {X : Cx}
theorem pe_revT {e : Expr} {te : TE} {k : Nat} {p1 p2 p3 pos : Pos} (he : PE X e te) : PE X (.Subscript e (.Slice none none (some (.UnaryOp .USub (.Constant (.int 1) k p1) p2)) p3) pos) (tRevT X.K te) := by
  refine ⟨fun pins s σ H Q I h => ?_⟩
  refine Subscript_ (thn (he.run pins s σ H _ I h) fun v s1 ⟨x, H1, I1, r1, q1⟩ => ?_)
  obtain ⟨a, xs, ex, hx, q⟩ := q1
  subst ex
  cases r1
  have hst : PO X (some (.UnaryOp .USub (.Constant (.int 1) k p1) p2)) (tPart (tUn (rU fun i => .int (-i)) (tC (.int 1)))) := po_some (pe_un un_neg pe_int)
  refine wpAny_Slice (thn (po_none.run pins s1 σ H1 (fun o H2 => o = none ∧ H2 = H1) I1 ⟨rfl, rfl⟩) fun vl s2 ⟨l, H2, I2, pl, el, e2⟩ => ?_)
  subst el e2
  refine thn (po_none.run pins s2 σ H2 (fun o H3 => o = none ∧ H3 = H2) I2 ⟨rfl, rfl⟩) fun vu s3 ⟨u, H3, I3, pu, eu, e3⟩ => ?_
  subst eu e3
  refine thn (hst.run pins s3 σ H3 (fun o H4 => o = some (-1) ∧ H4 = H3) I3 ⟨1, rfl, -1, rfl, rfl, rfl⟩) fun vs s4 ⟨o, H4, I4, ps, eo, e4⟩ => ?_
  subst eo e4
  cases pl
  cases pu
  obtain ⟨ti, rfl⟩ : ∃ ti, vs = Value.int (-1) ti := by
    cases ps
    exact ⟨_, rfl⟩
  have I5 : Inv X pins σ H4 { s4 with heap := s4.heap.push { cls := .type "slice", data := .fields #[Value.none, Value.none, Value.int (-1) ti] } } := I4.kept (t' := s4.toks) fun b ob q => Heap.get?_push_of_some _ q
  obtain ⟨its, r, ht, hz⟩ := I5.tuple hx
  have hlen := r.length
  show wpAny (model X.prog X.w) X.A (subscriptTail e (.Slice none none (some (.UnaryOp .USub (.Constant (.int 1) k p1) p2)) p3) (.ref a) (.ref s4.heap.objs.size)) (EP X pins σ Q) X.xe { s4 with heap := s4.heap.push { cls := .type "slice", data := .fields #[Value.none, Value.none, Value.int (-1) ti] } }
  refine tail_any (ops := [.ref a, .ref s4.heap.objs.size]) ht.typeIs (PyProof.Rows.slot_tuple_getitem.lookup) ?_ (by with_unfolding_all rfl)
  refine getItem_tuple_back ht (Heap.IsSliceOf.new _ Value.none Value.none (Value.int (-1) ti)) ?_ (by rw [← hlen]; exact hz)
  refine ⟨.ref _, _, I5.laid (t' := s4.toks) (o := .tup xs.reverse) (fun b ob q => Heap.get?_push_of_some _ q) (Nat.le_refl _) ?_, rfl, q _ (I5.hok.fresh (Nat.le_refl _))⟩
  exact ⟨by rw [List.length_reverse]; exact hz, _, r.reverse, IsTup.new _ _⟩
end

/-! ### xs[:-m-1:-1] of a list: the last m, the last one first -/
def tBackL (K : PySem.W.Frag) (te tu : TE) : TE := fun σ H Q => te σ H fun x H1 => tPart tu σ H1 fun o H2 => ∃ (a : Addr) (xs : List V) (m : Nat), x = .ref a ∧ o = some (-(m : Int) - 1) ∧ SqL K H2 a xs ∧ m ≤ xs.length ∧ ∀ p, H2 p = none → Q (.ref p) (upd H2 p (.lst (xs.drop (xs.length - m)).reverse))
theorem back_bounds (n m : Nat) (h : m ≤ n) : sliceBounds none (some (-(m : Int) - 1)) (some (-1)) n = ((n : Int) - 1, (n : Int) - m - 1, -1) := by
  have h1 : -(m : Int) - 1 < 0 := by omega
  have h2 : ¬ ((-1 : Int) > 0) := by decide
  simp only [sliceBounds, Option.getD_some, h1, h2, if_true, if_false]
  have e : max (-1) (min (-(m : Int) - 1 + n) ((n : Int) - 1)) = (n : Int) - m - 1 := by omega
  rw [e]
theorem back_range (n m : Nat) (h : m ≤ n) : sliceRange ((n : Int) - 1) ((n : Int) - m - 1) (-1) = (List.range m).map fun k => n - 1 - k := by
  unfold sliceRange
  have h1 : ¬ ((-1 : Int) > 0) := by decide
  by_cases hm : (n : Int) - 1 > (n : Int) - m - 1
  · have e : ((n : Int) - 1 - ((n : Int) - m - 1) - -1 - 1) / (- -1) = (m : Int) := by
      rw [show (- -1 : Int) = 1 by decide, Int.ediv_one]
      omega
    simp only [h1, if_false, hm, if_true, e, Int.toNat_natCast]
    apply List.map_congr_left
    intro k hk
    have := List.mem_range.mp hk
    omega
  · have e : m = 0 := by omega
    subst e
    simp
theorem back_pick (xs : List Value) (m : Nat) (h : m ≤ xs.length) : slicePick xs.toArray none (some (-(m : Int) - 1)) (some (-1)) = ((xs.drop (xs.length - m)).reverse).toArray := by
  unfold slicePick
  rw [List.size_toArray, back_bounds _ _ h]
  show ((sliceRange ((xs.length : Int) - 1) ((xs.length : Int) - m - 1) (-1)).filterMap (xs.toArray[·]?)).toArray = _
  rw [back_range _ _ h]
  apply congrArg List.toArray
  rw [List.filterMap_map]
  have key : ∀ j : Nat, j ≤ xs.length → ((List.range j).filterMap fun (k : Nat) => xs[xs.length - 1 - k]?) = xs.reverse.take j := by
    intro j
    induction j with
    | zero => intro _; simp
    | succ j ih =>
      intro hm
      rw [List.range_succ, List.filterMap_append, ih (by omega), List.take_add_one]
      congr 1
      have hlt : xs.length - 1 - j < xs.length := by omega
      rw [List.getElem?_reverse (by omega)]
      simp [List.getElem?_eq_getElem hlt]
  have e : ((fun x : Nat => xs.toArray[x]?) ∘ fun k => xs.length - 1 - k) = fun k => xs[xs.length - 1 - k]? := by
    funext k
    simp
  rw [e, key m h, List.take_reverse]
section
variable {X : Cx}
theorem pe_backL {e u : Expr} {te tu : TE} {k : Nat} {p1 p2 p3 pos : Pos} (he : PE X e te) (hu : PE X u tu) : PE X (.Subscript e (.Slice none (some u) (some (.UnaryOp .USub (.Constant (.int 1) k p1) p2)) p3) pos) (tBackL X.K te tu) := by
  refine ⟨fun pins s σ H Q I h => ?_⟩
  refine Subscript_ (thn (he.run pins s σ H _ I h) fun v s1 ⟨x, H1, I1, r1, q1⟩ => ?_)
  have hup : PO X (some u) (tPart tu) := po_some hu
  have hst : PO X (some (.UnaryOp .USub (.Constant (.int 1) k p1) p2)) (tPart (tUn (rU fun i => .int (-i)) (tC (.int 1)))) := po_some (pe_un un_neg pe_int)
  refine wpAny_Slice (thn (po_none.run pins s1 σ H1 (fun o H2 => o = none ∧ H2 = H1) I1 ⟨rfl, rfl⟩) fun vl s2 ⟨l, H2, I2, pl, el, e2⟩ => ?_)
  subst el e2
  refine thn (hup.run pins s2 σ H2 (fun o H3 => ∃ (a : Addr) (xs : List V) (m : Nat), x = .ref a ∧ o = some (-(m : Int) - 1) ∧ SqL X.K H3 a xs ∧ m ≤ xs.length ∧ ∀ p, H3 p = none → Q (.ref p) (upd H3 p (.lst (xs.drop (xs.length - m)).reverse))) I2 q1) fun vu s3 ⟨u', H3, I3, pu, qu⟩ => ?_
  obtain ⟨a, xs, m, ex, eu, hx, hm, q⟩ := qu
  subst ex eu
  refine thn (hst.run pins s3 σ H3 (fun o H4 => o = some (-1) ∧ H4 = H3) I3 ⟨1, rfl, -1, rfl, rfl, rfl⟩) fun vs s4 ⟨o, H4, I4, ps, eo, e4⟩ => ?_
  subst eo e4
  cases r1
  have I5 : Inv X pins σ H4 { s4 with heap := s4.heap.push { cls := .type "slice", data := .fields #[vl, vu, vs] } } := I4.kept (t' := s4.toks) fun b ob q => Heap.get?_push_of_some _ q
  obtain ⟨its, r, ht, hz⟩ := I5.list hx
  have hlen := r.length
  show wpAny (model X.prog X.w) X.A (subscriptTail e (.Slice none (some u) (some (.UnaryOp .USub (.Constant (.int 1) k p1) p2)) p3) (.ref a) (.ref s4.heap.objs.size)) (EP X pins σ Q) X.xe { s4 with heap := s4.heap.push { cls := .type "slice", data := .fields #[vl, vu, vs] } }
  refine tail_any (ops := [.ref a, .ref s4.heap.objs.size]) ht.isList.typeIs (PySem.slot_list_getitem.lookup) ?_ (by with_unfolding_all rfl)
  refine wpAny_getItem_list_slice ht.isList (Heap.IsSliceOf.new _ vl vu vs) pl pu ps (by decide) ?_ (by rw [List.size_toArray]; omega)
  rw [back_pick its m (by omega)]
  refine ⟨.ref _, _, I5.laid (t' := s4.toks) (o := .lst (xs.drop (xs.length - m)).reverse) (fun b ob q => Heap.get?_push_of_some _ q) (Nat.le_refl _) ?_, rfl, q _ (I5.hok.fresh (Nat.le_refl _))⟩
  refine ⟨by rw [List.length_reverse, List.length_drop]; omega, _, 0, ?_, Heap.get?_push_size _ rfl⟩
  rw [hlen]
  exact (r.drop _).reverse
end

/-! ### del xs[-m:] of a list, 1 ≤ m -/
def sel (start stop step : Int) (i : Nat) : Bool :=
  if step > 0 then start ≤ i && i < stop && (i - start) % step == 0
  else stop < i && i ≤ start && (start - i) % (-step) == 0
theorem del_bounds (n m : Nat) (h : m ≤ n) (h1 : 1 ≤ m) : sliceBounds (some (-(m : Int))) none none n = ((n : Int) - m, (n : Int), 1) := by
  have h2 : -(m : Int) < 0 := by omega
  have h3 : (1 : Int) > 0 := by decide
  simp only [sliceBounds, Option.getD_none, h2, h3, if_true]
  have e : max 0 (min (-(m : Int) + n) (n : Int)) = (n : Int) - m := by omega
  rw [e]
theorem del_keep (n m : Nat) (h : m ≤ n) (xs : List Value) : ∀ k : Nat, k + xs.length = n →
    ((xs.zipIdx k).filterMap fun (p : Value × Nat) => if sel ((n : Int) - m) (n : Int) 1 p.2 then none else some p.1) = xs.take (n - m - k) := by
  induction xs with
  | nil => intro k _; simp
  | cons x r ih =>
    intro k hk
    rw [List.length_cons] at hk
    rw [List.zipIdx_cons, List.filterMap_cons]
    have hs : sel ((n : Int) - m) (n : Int) 1 k = decide (n - m ≤ k) := by
      unfold sel
      rw [if_pos (by decide), Int.emod_one]
      by_cases q : n - m ≤ k
      · have q1 : (n : Int) - m ≤ (k : Int) := by omega
        have q2 : (k : Int) < (n : Int) := by omega
        simp [q, q1, q2]
      · have q1 : ¬ (n : Int) - m ≤ (k : Int) := by omega
        simp [q, q1]
    have i2 := ih (k + 1) (by omega)
    rw [i2]
    dsimp only
    rw [hs]
    by_cases q : n - m ≤ k
    · rw [if_pos (by simpa using q)]
      have e1 : n - m - (k + 1) = 0 := by omega
      have e2 : n - m - k = 0 := by omega
      rw [e1, e2]
      simp
    · rw [if_neg (by simpa using q)]
      have e1 : n - m - k = (n - m - (k + 1)) + 1 := by omega
      rw [e1, List.take_succ_cons]
section
variable {prog : Program} {w : World} {A : Around} {E : Value → Shared → Prop} {s : Shared}
theorem delItem_tail {l sl : Addr} {its : List Value} {n m : Nat} {ti : Tok} {Q : Unit → Shared → Prop}
    (e : s.heap.get? l = some { cls := .type "list", data := .seq its.toArray n }) (hs : s.heap.IsSliceOf sl (.int (-(m : Int)) ti) .none .none) (h1 : 1 ≤ m) (hm : m ≤ its.length) (hsz : its.length ≤ sizeLine)
    (h : ∀ f : Array Value → Array Value, f its.toArray = (its.take (its.length - m)).toArray → Q () { s with heap := s.heap.update l (Obj.mapSeq f) }) :
    wpAny (model prog w) A (delItem (.ref l) (.ref sl)) Q E s := by
  have hl : s.heap.IsList l its.toArray := PySem.IsL.isList e
  obtain ⟨os, hos, hcs, hds⟩ := id hs
  have hTs : s.TypeIs (.ref sl) "slice" := ⟨os, hos, hcs⟩
  have hstep : ¬ ((rawPart none == rawInt 0) = true) := Bool.false_ne_true
  refine wpAny_delItem_slot hl.typeIs (by decide) PySem.F.slot_list_delitem
    (wpAny_call_entry PySem.F.slot_list_delitem hl.typeIs PySem.F.entry_list_delitem ?_ (PySem.F.args_list_delitem_2 _ _))
  show wpAny _ _ (Builtin.List.listSubscript? (.ref sl) >>= _) _ _ s
  refine wpAny_bind ?_
  unfold Builtin.List.listSubscript?
  refine wpAny_bind (wpAny_specialOf hTs slice_no_index ?_)
  simp only [Option.isNone_none, if_true]
  refine wpAny_pure ?_
  show wpAny _ _ (typeOf (.ref sl) >>= _) _ _ s
  refine wpAny_bind (wpAny_typeOf hTs ?_)
  first
    | rw [if_neg (by decide)]
    | refine PySem.W.KFB.if_not (by decide) ?_
  rw [listSliceParts_eq]
  refine wpAny_bind (wpAny_bind (wpAny_field hos hds (x := .none) rfl (wpAny_bind (wpAny_listPart .none ?_))))
  rw [if_neg hstep]
  refine wpAny_bind (wpAny_field hos hds (x := .int (-(m : Int)) ti) rfl (wpAny_bind (wpAny_listPart (.int (-(m : Int)) ti) ?_)))
  refine wpAny_bind (wpAny_field hos hds (x := .none) rfl (wpAny_bind (wpAny_listPart .none (wpAny_pure ?_))))
  unfold Builtin.List.listItems
  refine wpAny_bind (wpAny_bind (wpAny_seqItems e rfl (wpAny_pure ?_)))
  refine wpAny_bind (wpAny_of_eq ((sliceIndices_raw (some (-(m : Int))) none none its.toArray.size (by simp)).trans (congrArg (pure : Int × Int × Int → Sem (Int × Int × Int)) (show sliceBounds (some (-(m : Int))) none none its.toArray.size = ((its.length : Int) - m, (its.length : Int), 1) from del_bounds its.length m hm h1))) ?_)
  refine wpAny_bind (wpAny_rule ?_)
  have hf := congrArg List.toArray (del_keep its.length m hm its 0 (Nat.zero_add _))
  rw [Nat.sub_zero] at hf
  show wpAny _ _ (updateSeq l (fun xs : Array Value => (xs.toList.zipIdx.filterMap fun (p : Value × Nat) => if sel ((its.length : Int) - m) (its.length : Int) 1 p.2 then none else some p.1).toArray) >>= _) _ _ s
  have hf' : (fun xs : Array Value => (xs.toList.zipIdx.filterMap fun (p : Value × Nat) => if sel ((its.length : Int) - m) (its.length : Int) 1 p.2 then none else some p.1).toArray) its.toArray = (its.take (its.length - m)).toArray := hf
  have hz2 : ((fun xs : Array Value => (xs.toList.zipIdx.filterMap fun (p : Value × Nat) => if sel ((its.length : Int) - m) (its.length : Int) 1 p.2 then none else some p.1).toArray) its.toArray).size ≤ sizeLine + 1 := by
    rw [hf', List.size_toArray, List.length_take]
    omega
  refine wpAny_bind (wpAny_updateSeq (hz := by rw [List.size_toArray]; exact hsz) (_hz' := hz2) e rfl ?_)
  refine wpAny_bind (wpAny_letGo ?_)
  have k := h (fun xs : Array Value => (xs.toList.zipIdx.filterMap fun (p : Value × Nat) => if sel ((its.length : Int) - m) (its.length : Int) 1 p.2 then none else some p.1).toArray) hf'
  first
    | exact wpAny_bind (wpAny_pure (wpAny_pure ⟨.none, rfl, k⟩))
    | exact wpAny_pure ⟨.none, rfl, k⟩
end
def tDelTail (te tu : TE) : TS := fun D σ H => te σ H fun x H1 => tPart tu σ H1 fun o H2 => ∃ (l : Addr) (xs : List V) (m : Nat), x = .ref l ∧ o = some (-(m : Int)) ∧ H2 l = some (.lst xs) ∧ 1 ≤ m ∧ m ≤ xs.length ∧ D.nx σ (upd H2 l (.lst (xs.take (xs.length - m))))
section
variable {X : Cx}
theorem ps_delTail {e u : Expr} {te tu : TE} {p3 tpos pos : Pos} (he : PE X e te) (hu : PE X u tu) : PS X (.Delete [.Subscript e (.Slice (some u) none none p3) tpos] pos) (tDelTail te tu) := by
  refine ⟨fun pins s σ H D I h => ?_⟩
  refine wpAny_Delete (wpAny_deleteEach_cons (wpAny_delete_Subscript (thn (he.run pins s σ H _ I h) fun v s1 ⟨x, H1, I1, r1, q1⟩ => ?_)))
  have hup : PO X (some u) (tPart tu) := po_some hu
  refine wpAny_Slice (thn (hup.run pins s1 σ H1 (fun o H2 => ∃ (l : Addr) (xs : List V) (m : Nat), x = .ref l ∧ o = some (-(m : Int)) ∧ H2 l = some (.lst xs) ∧ 1 ≤ m ∧ m ≤ xs.length ∧ D.nx σ (upd H2 l (.lst (xs.take (xs.length - m))))) I1 q1) fun vl s2 ⟨o, H2, I2, pl, q2⟩ => ?_)
  obtain ⟨l, xs, m, ex, eo, hH, h1, hm, q⟩ := q2
  subst ex eo
  cases r1
  rw [evalPart_none]
  refine wpAny_pure ?_
  refine wpAny_pure ?_
  obtain ⟨i, ti, rfl, ei⟩ : ∃ i ti, vl = Value.int i ti ∧ i = -(m : Int) := by
    cases pl
    exact ⟨_, _, rfl, rfl⟩
  subst ei
  have I5 : Inv X pins σ H2 { s2 with heap := s2.heap.push { cls := .type "slice", data := .fields #[.int (-(m : Int)) ti, Value.none, Value.none] } } := I2.kept (t' := s2.toks) fun b ob q => Heap.get?_push_of_some _ q
  obtain ⟨z, its, n, r, hl, e5⟩ := I5.lstM hH
  refine delItem_tail e5 (Heap.IsSliceOf.new _ (.int (-(m : Int)) ti) Value.none Value.none) h1 (by omega) (by omega) fun f hf => wpAny_deleteEach_nil ⟨σ, _, ?_, q⟩
  refine I5.lset (its' := its.take (its.length - m)) (t' := s2.toks) hH e5 hf ?_ (by rw [List.length_take]; omega)
  rw [hl]
  exact r.take _
end

/-! ### xs.extend(a tuple) -/
section
open AutoSeq1
theorem list_extend_tupW (l : Addr) (items : Array Value) (n : Nat) (b : Addr) (items2 : Array Value) (n2 : Nat) (dd : Option Addr) (sl : Array (Option Value)) (hs0 : ¬(!items.isEmpty && Builtin.List.listTooLong (items.size + items2.size)) = true) (hs1 : items.size ≤ sizeLine) (hs2 : items.size + items2.size ≤ sizeLine + 1) :
    Meets (Builtin.«list.extend» ⟨[.ref l, .ref b], []⟩) (fun _ R s => s.heap.get? l = some { cls := .type "list", dict := none, data := .seq items n, slots := #[] } ∧ s.heap.get? b = some { cls := .type "tuple", dict := dd, data := .seq items2 n2, slots := sl } ∧ R (.ok (.ret Value.none)) { s with heap := s.heap.update l (Obj.mapSeq fun x => x ++ items2), toks := s.toks }) :=
  .of_wp fun prog w A R s h => by
    obtain ⟨hp, g, d, tk, os⟩ := s; obtain ⟨hl, hb, h⟩ := h; have f1 := AutoSeq1.idx_int; have f2 := AutoSeq1.sub_tuple_tuple; have f3 := AutoSeq1.sub_list_list; have f4 := AutoSeq1.sub_tuple_list; have f5 := AutoSeq1.sub_list_tuple;
    have hz' : (items ++ items2).size ≤ sizeLine + 1 := by rw [Array.size_append]; exact hs2
    wp_walk using (wpAny_updateSeq hl rfl (hz := hs1) (_hz' := hz')), wpAny_loadPart' hl, wpAny_loadPart' hb; exact ⟨_, rfl, h⟩
end
def rExtT (K : PySem.W.Frag) : V → List V → Hp → VK → Prop := fun x vs H Q => ∃ l b xs zs, x = .ref l ∧ vs = [.ref b] ∧ H l = some (.lst xs) ∧ SqT K H b zs ∧ xs.length + zs.length ≤ sizeLine ∧ Q .non (upd H l (.lst (xs ++ zs)))
section
variable {X : Cx}
theorem mt_extT : MtR X "list.extend" (rExtT X.K) := by
  intro pins s σ H x vs v us Q I rx rv h
  obtain ⟨l, b, xs, zs, rfl, rfl, hH, hB, hz, q⟩ := h
  cases rx
  obtain ⟨u, rfl, ru⟩ := rv.one
  cases ru
  obtain ⟨z, its, n, r, hl, e⟩ := I.lstM hH
  obtain ⟨its2, r2, ⟨⟨oc, od, dt, sl⟩, e2, c2, n2, d2⟩, z2⟩ := I.tuple hB
  simp only at c2 d2
  subst c2 d2
  have hl2 := r2.length
  have hsz : its.toArray.size + its2.toArray.size ≤ sizeLine := by rw [List.size_toArray, List.size_toArray]; omega
  have hlong : ¬ (!its.toArray.isEmpty && Builtin.List.listTooLong (its.toArray.size + its2.toArray.size)) = true := by
    rw [notLongL hsz, Bool.and_false]
    exact Bool.false_ne_true
  refine call_meets PySem.F.slot_list_extend ⟨_, e, rfl⟩ PySem.F.entry_list_extend (PySem.F.args_list_extend_2 _ _)
    (list_extend_tupW l its.toArray n b its2.toArray n2 od sl hlong (by rw [List.size_toArray]; omega) (by omega)) ⟨e, e2, ?_⟩
  refine ⟨.non, _, I.lset (its' := its ++ its2) (t' := s.toks) hH e (by simp) (r.append r2) ?_, rfl, q⟩
  rw [List.length_append]
  omega
end
end Hm

set_option Elab.async false
set_option linter.all false
set_option maxRecDepth 100000
set_option maxHeartbeats 4000000
namespace Hm
open PySem PySem.Spec PyProof.Rows L2 HT

/-! ## terms, told in Lean -/
inductive Tm where
  | var (k : Int)
  | int (i : Int)
  | atom (s : Str)
  | comp (f : Str) (as : List Tm)

def Tm.args : Tm → List Tm
  | .comp _ as => as
  | _ => []
mutual
def size : Tm → Nat
  | .comp _ as => 1 + sizes as
  | _ => 1
def sizes : List Tm → Nat
  | [] => 0
  | t :: ts => size t + sizes ts
end
mutual
def depth : Tm → Nat
  | .comp _ as => 1 + depths as
  | _ => 1
def depths : List Tm → Nat
  | [] => 0
  | t :: ts => max (depth t) (depths ts)
end
mutual
/-- the parts, each ahead of its arguments -/
def pre : Tm → List Tm
  | .var k => [.var k]
  | .int i => [.int i]
  | .atom s => [.atom s]
  | .comp f as => .comp f as :: pres as
def pres : List Tm → List Tm
  | [] => []
  | t :: ts => pre t ++ pres ts
end
mutual
/-- variables replaced, all at once -/
def sub (g : Int → Tm) : Tm → Tm
  | .var k => g k
  | .int i => .int i
  | .atom s => .atom s
  | .comp f as => .comp f (subs g as)
def subs (g : Int → Tm) : List Tm → List Tm
  | [] => []
  | t :: ts => sub g t :: subs g ts
end
def AtomOk (s : Str) : Prop := s.cps.size ≤ 40 ∧ ∀ c ∈ s.cps.toList, 32 ≤ c ∧ c ≤ 126 ∧ c ≠ 37
def tooGreat : Int := (10 ^ 60) ^ 5
mutual
/-- a term as the document tells it -/
def Ok : Tm → Prop
  | .var k => 0 ≤ k
  | .int i => -tooGreat < i ∧ i < tooGreat
  | .atom s => AtomOk s
  | .comp f as => AtomOk f ∧ 1 ≤ as.length ∧ as.length ≤ 8 ∧ Oks as
def Oks : List Tm → Prop
  | [] => True
  | t :: ts => Ok t ∧ Oks ts
end

theorem sizes_cons (t : Tm) (ts : List Tm) : sizes (t :: ts) = size t + sizes ts := by rw [sizes]
theorem depths_cons (t : Tm) (ts : List Tm) : depths (t :: ts) = max (depth t) (depths ts) := by rw [depths]
theorem pres_cons (t : Tm) (ts : List Tm) : pres (t :: ts) = pre t ++ pres ts := by rw [pres]
theorem oks_cons (t : Tm) (ts : List Tm) : Oks (t :: ts) = (Ok t ∧ Oks ts) := by rw [Oks]
theorem size_pos : ∀ t : Tm, 1 ≤ size t
  | .var _ => Nat.le_refl _
  | .int _ => Nat.le_refl _
  | .atom _ => Nat.le_refl _
  | .comp _ as => by unfold size; omega
theorem sizes_app : ∀ xs ys : List Tm, sizes (xs ++ ys) = sizes xs + sizes ys
  | [], ys => by show sizes ys = sizes [] + sizes ys; unfold sizes; omega
  | x :: xs, ys => by
    show sizes (x :: (xs ++ ys)) = _
    rw [sizes_cons, sizes_cons, sizes_app xs ys]
    omega
theorem sizes_rev : ∀ xs : List Tm, sizes xs.reverse = sizes xs
  | [] => rfl
  | x :: xs => by
    rw [List.reverse_cons, sizes_app, sizes_rev xs, sizes_cons x xs]
    have : sizes [x] = size x := by simp [sizes]
    omega
theorem sizes_one (t : Tm) : sizes [t] = size t := by simp [sizes]
theorem size_eq : ∀ t : Tm, size t = 1 + sizes t.args
  | .var _ => by simp [size, Tm.args, sizes]
  | .int _ => by simp [size, Tm.args, sizes]
  | .atom _ => by simp [size, Tm.args, sizes]
  | .comp _ as => by simp [size, Tm.args]
theorem len_sizes : ∀ ts : List Tm, ts.length ≤ sizes ts
  | [] => Nat.zero_le _
  | t :: ts => by
    have h1 := size_pos t
    have h2 := len_sizes ts
    rw [List.length_cons]
    unfold sizes
    omega
theorem pre_eq : ∀ t : Tm, pre t = t :: pres t.args
  | .var _ => by simp [pre, Tm.args, pres]
  | .int _ => by simp [pre, Tm.args, pres]
  | .atom _ => by simp [pre, Tm.args, pres]
  | .comp _ as => by simp [pre, Tm.args]
theorem pres_app : ∀ xs ys : List Tm, pres (xs ++ ys) = pres xs ++ pres ys
  | [], ys => by simp [pres]
  | x :: xs, ys => by
    show pres (x :: (xs ++ ys)) = _
    rw [pres_cons, pres_cons, pres_app xs ys, List.append_assoc]
mutual
theorem len_pre : ∀ t : Tm, (pre t).length = size t
  | .var _ => rfl
  | .int _ => rfl
  | .atom _ => rfl
  | .comp f as => by
    unfold pre size
    rw [List.length_cons, len_pres as]
    omega
theorem len_pres : ∀ ts : List Tm, (pres ts).length = sizes ts
  | [] => rfl
  | t :: ts => by
    unfold pres sizes
    rw [List.length_append, len_pre t, len_pres ts]
end
theorem oks_app : ∀ {xs ys : List Tm}, Oks (xs ++ ys) ↔ Oks xs ∧ Oks ys
  | [], ys => by simp [Oks]
  | x :: xs, ys => by
    show Oks (x :: (xs ++ ys)) ↔ _
    rw [oks_cons, oks_cons, oks_app (xs := xs) (ys := ys)]
    constructor
    · rintro ⟨a, b, c⟩; exact ⟨⟨a, b⟩, c⟩
    · rintro ⟨⟨a, b⟩, c⟩; exact ⟨a, b, c⟩
theorem ok_args : ∀ {t : Tm}, Ok t → Oks t.args
  | .var _, _ => trivial
  | .int _, _ => trivial
  | .atom _, _ => trivial
  | .comp _ _, h => by unfold Ok at h; exact h.2.2.2
theorem depths_app : ∀ xs ys : List Tm, depths (xs ++ ys) = max (depths xs) (depths ys)
  | [], ys => by simp [depths]
  | x :: xs, ys => by
    show depths (x :: (xs ++ ys)) = _
    rw [depths_cons, depths_cons, depths_app xs ys]
    omega
theorem depth_eq : ∀ t : Tm, depth t = 1 + depths t.args
  | .var _ => by simp [depth, Tm.args, depths]
  | .int _ => by simp [depth, Tm.args, depths]
  | .atom _ => by simp [depth, Tm.args, depths]
  | .comp _ as => by simp [depth, Tm.args]
/-- the next layer -/
def layer (ts : List Tm) : List Tm := ts.flatMap Tm.args
theorem depths_layer : ∀ t ts, depths (t :: ts) = 1 + depths (layer (t :: ts))
  | t, [] => by
    unfold layer
    simp [depths, depth_eq]
  | t, u :: us => by
    have ih := depths_layer u us
    unfold layer at ih ⊢
    rw [List.flatMap_cons, depths_app]
    show max (depth t) (depths (u :: us)) = _
    rw [ih, depth_eq]
    omega
theorem sizes_layer : ∀ ts, sizes (layer ts) + ts.length = sizes ts
  | [] => rfl
  | t :: ts => by
    have ih := sizes_layer ts
    unfold layer at ih ⊢
    rw [List.flatMap_cons, sizes_app, List.length_cons, sizes_cons, size_eq t]
    omega

/-! ## variables, by first occurrence -/
def addNew (acc : List Int) (k : Int) : List Int := if k ∈ acc then acc else acc ++ [k]
def stepVar (acc : List Int) : Tm → List Int
  | .var k => addNew acc k
  | _ => acc
def varsOf (t : Tm) : List Int := (pre t).foldl stepVar []
theorem addNew_nodup {acc : List Int} {k : Int} (h : acc.Nodup) : (addNew acc k).Nodup := by
  unfold addNew
  by_cases q : k ∈ acc
  · rw [if_pos q]; exact h
  · rw [if_neg q, List.nodup_append]
    exact ⟨h, by simp, fun a ha b hb e => by
      simp only [List.mem_singleton] at hb
      subst hb
      subst e
      exact q ha⟩
theorem addNew_len (acc : List Int) (k : Int) : (addNew acc k).length ≤ acc.length + 1 := by
  unfold addNew
  split
  · omega
  · rw [List.length_append, List.length_singleton]; omega
theorem stepVar_nodup {acc : List Int} {t : Tm} (h : acc.Nodup) : (stepVar acc t).Nodup := by
  cases t <;> first | exact addNew_nodup h | exact h
theorem stepVar_len (acc : List Int) (t : Tm) : (stepVar acc t).length ≤ acc.length + 1 := by
  cases t <;> first | exact addNew_len acc _ | exact Nat.le_succ _
theorem fold_nodup : ∀ (ts : List Tm) {acc : List Int}, acc.Nodup → (ts.foldl stepVar acc).Nodup
  | [], _, h => h
  | t :: ts, _, h => fold_nodup ts (stepVar_nodup h)
theorem fold_len : ∀ (ts : List Tm) (acc : List Int), (ts.foldl stepVar acc).length ≤ acc.length + ts.length
  | [], _ => Nat.le_refl _
  | t :: ts, acc => by
    have h := fold_len ts (stepVar acc t)
    have h2 := stepVar_len acc t
    rw [List.foldl_cons, List.length_cons]
    omega
theorem varsOf_nodup (t : Tm) : (varsOf t).Nodup := fold_nodup _ List.nodup_nil
theorem varsOf_len (t : Tm) : (varsOf t).length ≤ size t := by
  have h := fold_len (pre t) []
  rw [len_pre, List.length_nil, Nat.zero_add] at h
  exact h

/-! ## rows, and what folding them gives -/
inductive Rw where
  | leaf (t : Tm)
  | node (f : Str) (n : Nat)
mutual
def rowOf (g : Int → Tm) : Tm → List Rw
  | .var k => [.leaf (g k)]
  | .int i => [.leaf (.int i)]
  | .atom s => [.leaf (.atom s)]
  | .comp f as => .node f as.length :: rowsOf g as
def rowsOf (g : Int → Tm) : List Tm → List Rw
  | [] => []
  | t :: ts => rowOf g t ++ rowsOf g ts
end
def rw1 (g : Int → Tm) : Tm → Rw
  | .var k => .leaf (g k)
  | .int i => .leaf (.int i)
  | .atom s => .leaf (.atom s)
  | .comp f as => .node f as.length
mutual
theorem row_pre (g : Int → Tm) : ∀ t : Tm, (pre t).map (rw1 g) = rowOf g t
  | .var _ => rfl
  | .int _ => rfl
  | .atom _ => rfl
  | .comp f as => by
    unfold pre rowOf
    rw [List.map_cons, row_pres g as]
    rfl
theorem row_pres (g : Int → Tm) : ∀ ts : List Tm, (pres ts).map (rw1 g) = rowsOf g ts
  | [] => rfl
  | t :: ts => by
    unfold pres rowsOf
    rw [List.map_append, row_pre g t, row_pres g ts]
end
/-- one turn of folding: the stack has its top at its end -/
def turn (r : Rw) (D : List Tm) : List Tm :=
  match r with
  | .leaf t => D ++ [t]
  | .node f n => D.take (D.length - n) ++ [.comp f (D.drop (D.length - n)).reverse]
theorem subs_len (g : Int → Tm) : ∀ ts : List Tm, (subs g ts).length = ts.length
  | [] => rfl
  | t :: ts => by
    unfold subs
    rw [List.length_cons, List.length_cons, subs_len g ts]
mutual
theorem fold_row (g : Int → Tm) : ∀ (t : Tm) (D : List Tm), (rowOf g t).foldr turn D = D ++ [sub g t]
  | .var _, _ => rfl
  | .int _, _ => rfl
  | .atom _, _ => rfl
  | .comp f as, D => by
    unfold rowOf sub
    rw [List.foldr_cons, fold_rows g as D]
    unfold turn
    have hl : (D ++ (subs g as).reverse).length - as.length = D.length := by
      rw [List.length_append, List.length_reverse, subs_len]
      omega
    dsimp only
    rw [hl, List.take_left' rfl, List.drop_left' rfl, List.reverse_reverse]
theorem fold_rows (g : Int → Tm) : ∀ (ts : List Tm) (D : List Tm), (rowsOf g ts).foldr turn D = D ++ (subs g ts).reverse
  | [], D => by simp [rowsOf, subs]
  | t :: ts, D => by
    unfold rowsOf subs
    rw [List.foldr_append, fold_rows g ts D, fold_row g t, List.reverse_cons, List.append_assoc]
end
/-- each node of a row finds its arguments on the stack -/
def Rooms : List Rw → List Tm → Prop
  | [], _ => True
  | r :: rs, D => Rooms rs D ∧ (match r with
    | .leaf _ => True
    | .node _ n => 1 ≤ n ∧ n ≤ (rs.foldr turn D).length)
theorem rooms_cons (r : Rw) (rs : List Rw) (D : List Tm) : Rooms (r :: rs) D = (Rooms rs D ∧ (match r with
    | .leaf _ => True
    | .node _ n => 1 ≤ n ∧ n ≤ (rs.foldr turn D).length)) := by
  cases r <;> rfl
theorem rooms_app : ∀ {xs ys : List Rw} {D : List Tm}, Rooms (xs ++ ys) D ↔ Rooms ys D ∧ Rooms xs (ys.foldr turn D)
  | [], ys, D => by simp [Rooms]
  | x :: xs, ys, D => by
    show Rooms (x :: (xs ++ ys)) D ↔ _
    rw [rooms_cons, rooms_cons, rooms_app (xs := xs) (ys := ys), List.foldr_append]
    constructor
    · rintro ⟨⟨a, b⟩, c⟩; exact ⟨a, b, c⟩
    · rintro ⟨a, b, c⟩; exact ⟨⟨a, b⟩, c⟩
mutual
theorem rooms_row (g : Int → Tm) : ∀ (t : Tm) (D : List Tm), Ok t → Rooms (rowOf g t) D
  | .var _, _, _ => ⟨trivial, trivial⟩
  | .int _, _, _ => ⟨trivial, trivial⟩
  | .atom _, _, _ => ⟨trivial, trivial⟩
  | .comp f as, D, h => by
    unfold Ok at h
    unfold rowOf
    refine ⟨rooms_rows g as D h.2.2.2, h.2.1, ?_⟩
    rw [fold_rows g as D, List.length_append, List.length_reverse, subs_len]
    omega
theorem rooms_rows (g : Int → Tm) : ∀ (ts : List Tm) (D : List Tm), Oks ts → Rooms (rowsOf g ts) D
  | [], _, _ => trivial
  | t :: ts, D, h => by
    unfold Oks at h
    unfold rowsOf
    exact rooms_app.mpr ⟨rooms_rows g ts D h.2, rooms_row g t _ h.1⟩
end

/-! ## how a heap bears a term -/
mutual
def Rep (K : PySem.W.Frag) (H : Hp) : Tm → V → Prop
  | .var k, v => ∃ a, v = .ref a ∧ SqT K H a [.int k]
  | .int i, v => v = .int i
  | .atom s, v => v = .str s
  | .comp f as, v => ∃ a vs, v = .ref a ∧ SqT K H a (.str f :: vs) ∧ Reps K H as vs
def Reps (K : PySem.W.Frag) (H : Hp) : List Tm → List V → Prop
  | [], vs => vs = []
  | t :: ts, vs => ∃ v ws, vs = v :: ws ∧ Rep K H t v ∧ Reps K H ts ws
end
/-- tuples stay -/
def Tups (K : PySem.W.Frag) (H H' : Hp) : Prop := ∀ a xs, SqT K H a xs → SqT K H' a xs
theorem Tups.refl {K : PySem.W.Frag} (H : Hp) : Tups K H H := fun _ _ h => h
theorem Tups.trans {K : PySem.W.Frag} {H H1 H2 : Hp} (a : Tups K H H1) (b : Tups K H1 H2) : Tups K H H2 := fun x xs h => b x xs (a x xs h)
theorem Tups.of {K : PySem.W.Frag} {H H' : Hp} (e : Evl.Ex H H') : Tups K H H' := fun _ _ h => Evl.ex_t e h
/-- a list of H is changed -/
theorem Tups.lst {K : PySem.W.Frag} {H : Hp} {l : Addr} {xs : List V} {o : HO} (h : H l = some (.lst xs)) : Tups K H (upd H l o) := fun a ys q => by
  rcases q with (q | ⟨ob, q⟩) | q
  · exact .inl (.inl (by rw [upd_ne (ne_of q h (by intro z; cases z))]; exact q))
  · exact .inl (.inr ⟨ob, by rw [upd_ne (ne_of q h (by intro z; cases z))]; exact q⟩)
  · exact .inr q
theorem tups_dk {K : PySem.W.Frag} {H : Hp} {l : Addr} {kvs : List (Key × V)} {o : HO} (h : H l = some (.dK kvs)) : Tups K H (upd H l o) := fun a ys q => by
  rcases q with (q | ⟨ob, q⟩) | q
  · exact .inl (.inl (by rw [upd_ne (ne_of q h (by intro z; cases z))]; exact q))
  · exact .inl (.inr ⟨ob, by rw [upd_ne (ne_of q h (by intro z; cases z))]; exact q⟩)
  · exact .inr q
section
variable {K : PySem.W.Frag} {H H' : Hp}
mutual
theorem Rep.mono (e : Tups K H H') : ∀ {t : Tm} {v : V}, Rep K H t v → Rep K H' t v
  | .var k, v, h => by
    unfold Rep at h ⊢
    obtain ⟨a, e1, q⟩ := h
    exact ⟨a, e1, e _ _ q⟩
  | .int i, v, h => by unfold Rep at h ⊢; exact h
  | .atom s, v, h => by unfold Rep at h ⊢; exact h
  | .comp f as, v, h => by
    unfold Rep at h ⊢
    obtain ⟨a, vs, e1, q, r⟩ := h
    exact ⟨a, vs, e1, e _ _ q, Reps.mono e r⟩
theorem Reps.mono (e : Tups K H H') : ∀ {ts : List Tm} {vs : List V}, Reps K H ts vs → Reps K H' ts vs
  | [], vs, h => by unfold Reps at h ⊢; exact h
  | t :: ts, vs, h => by
    unfold Reps at h ⊢
    obtain ⟨v, ws, e1, q, r⟩ := h
    exact ⟨v, ws, e1, Rep.mono e q, Reps.mono e r⟩
end
theorem Reps.nil : Reps K H [] [] := by unfold Reps; rfl
theorem Reps.cons {t : Tm} {ts : List Tm} {v : V} {vs : List V} (h : Rep K H t v) (r : Reps K H ts vs) : Reps K H (t :: ts) (v :: vs) := by
  unfold Reps
  exact ⟨v, vs, rfl, h, r⟩
theorem Reps.one {t : Tm} {v : V} (h : Rep K H t v) : Reps K H [t] [v] := Reps.cons h Reps.nil
theorem Reps.cons_inv {t : Tm} {ts : List Tm} {vs : List V} (h : Reps K H (t :: ts) vs) : ∃ v ws, vs = v :: ws ∧ Rep K H t v ∧ Reps K H ts ws := by
  unfold Reps at h
  exact h
theorem Reps.nil_inv {vs : List V} (h : Reps K H [] vs) : vs = [] := by
  unfold Reps at h
  exact h
theorem Reps.len : ∀ {ts : List Tm} {vs : List V}, Reps K H ts vs → ts.length = vs.length
  | [], vs, h => by rw [h.nil_inv] <;> rfl
  | t :: ts, vs, h => by
    obtain ⟨v, ws, e, _, r⟩ := h.cons_inv
    rw [e, List.length_cons, List.length_cons, Reps.len r]
theorem Reps.app : ∀ {ts us : List Tm} {vs ws : List V}, Reps K H ts vs → Reps K H us ws → Reps K H (ts ++ us) (vs ++ ws)
  | [], us, vs, ws, h, r => by rw [h.nil_inv]; exact r
  | t :: ts, us, vs, ws, h, r => by
    obtain ⟨v, xs, e, q, s⟩ := h.cons_inv
    rw [e]
    exact Reps.cons q (Reps.app s r)
theorem Reps.app_inv : ∀ {ts us : List Tm} {vs : List V}, Reps K H (ts ++ us) vs → ∃ v1 v2, vs = v1 ++ v2 ∧ Reps K H ts v1 ∧ Reps K H us v2
  | [], us, vs, h => ⟨[], vs, rfl, Reps.nil, h⟩
  | t :: ts, us, vs, h => by
    obtain ⟨v, ws, e, q, r⟩ := Reps.cons_inv (ts := ts ++ us) h
    obtain ⟨v1, v2, e2, r1, r2⟩ := Reps.app_inv r
    exact ⟨v :: v1, v2, by rw [e, e2]; rfl, Reps.cons q r1, r2⟩
theorem Reps.rev : ∀ {ts : List Tm} {vs : List V}, Reps K H ts vs → Reps K H ts.reverse vs.reverse
  | [], vs, h => by rw [h.nil_inv]; exact Reps.nil
  | t :: ts, vs, h => by
    obtain ⟨v, ws, e, q, r⟩ := h.cons_inv
    rw [e, List.reverse_cons, List.reverse_cons]
    exact Reps.app (Reps.rev r) (Reps.one q)
theorem Reps.get : ∀ {ts : List Tm} {vs : List V} {i : Nat} {v : V}, Reps K H ts vs → vs[i]? = some v → ∃ t, ts[i]? = some t ∧ Rep K H t v
  | [], vs, i, v, h, e => by rw [h.nil_inv] at e; simp at e
  | t :: ts, vs, i, v, h, e => by
    obtain ⟨w, ws, e1, q, r⟩ := h.cons_inv
    rw [e1] at e
    cases i with
    | zero =>
      have : w = v := by simpa using e
      subst this
      exact ⟨t, rfl, q⟩
    | succ i =>
      obtain ⟨u, h1, h2⟩ := Reps.get (i := i) r (by simpa using e)
      exact ⟨u, by simpa using h1, h2⟩
/-- the last one -/
theorem Reps.last {ts : List Tm} {t : Tm} {vs : List V} (h : Reps K H (ts ++ [t]) vs) : ∃ ws v, vs = ws ++ [v] ∧ Reps K H ts ws ∧ Rep K H t v := by
  obtain ⟨v1, v2, e, r1, r2⟩ := h.app_inv
  obtain ⟨v, ws, e2, q, r⟩ := r2.cons_inv
  rw [r.nil_inv] at e2
  exact ⟨v1, v, by rw [e, e2], r1, q⟩
theorem Reps.take {ts : List Tm} {vs : List V} (h : Reps K H ts vs) (n : Nat) : Reps K H (ts.take n) (vs.take n) := by
  induction n generalizing ts vs with
  | zero => exact Reps.nil
  | succ n ih =>
    cases ts with
    | nil => rw [h.nil_inv]; exact Reps.nil
    | cons t ts =>
      obtain ⟨v, ws, e, q, r⟩ := h.cons_inv
      rw [e, List.take_succ_cons, List.take_succ_cons]
      exact Reps.cons q (ih r)
theorem Reps.drop {ts : List Tm} {vs : List V} (h : Reps K H ts vs) (n : Nat) : Reps K H (ts.drop n) (vs.drop n) := by
  induction n generalizing ts vs with
  | zero => exact h
  | succ n ih =>
    cases ts with
    | nil => rw [h.nil_inv]; exact Reps.nil
    | cons t ts =>
      obtain ⟨v, ws, e, q, r⟩ := h.cons_inv
      rw [e, List.drop_succ_cons, List.drop_succ_cons]
      exact ih r
end
end Hm

set_option Elab.async false
set_option linter.all false
set_option maxRecDepth 100000
set_option maxHeartbeats 1000000
namespace Hm
open PySem PySem.Spec PyProof.Rows L2 HT
theorem oks_get : ∀ {ts : List Tm} {i : Nat} {t : Tm}, Oks ts → ts[i]? = some t → Ok t
  | [], i, _, _, e => by simp at e
  | u :: us, 0, t, h, e => by
    rw [oks_cons] at h
    have : u = t := by simpa using e
    exact this ▸ h.1
  | u :: us, i + 1, t, h, e => by
    rw [oks_cons] at h
    exact oks_get h.2 (by simpa using e)
mutual
theorem ok_pre : ∀ {t : Tm}, Ok t → Oks (pre t)
  | .var _, h => by unfold pre; rw [oks_cons]; exact ⟨h, trivial⟩
  | .int _, h => by unfold pre; rw [oks_cons]; exact ⟨h, trivial⟩
  | .atom _, h => by unfold pre; rw [oks_cons]; exact ⟨h, trivial⟩
  | .comp f as, h => by
    have h2 := h
    unfold Ok at h2
    unfold pre
    rw [oks_cons]
    exact ⟨h, ok_pres h2.2.2.2⟩
theorem ok_pres : ∀ {ts : List Tm}, Oks ts → Oks (pres ts)
  | [], _ => trivial
  | t :: ts, h => by
    rw [oks_cons] at h
    rw [pres_cons]
    exact oks_app.mpr ⟨ok_pre h.1, ok_pres h.2⟩
end
/-! ## comparing: -1, 0, 1 -/
structure Cmpr {α : Type} (c : α → α → Int) : Prop where
  refl : ∀ a, c a a = 0
  eq : ∀ a b, c a b = 0 → a = b
  anti : ∀ a b, c b a = - c a b
  tr : ∀ a b d, c a b ≤ 0 → c b d ≤ 0 → c a d ≤ 0
  ran : ∀ a b, c a b = -1 ∨ c a b = 0 ∨ c a b = 1
def intC (i j : Int) : Int := if i = j then 0 else if i < j then -1 else 1
theorem intC_ok : Cmpr intC := by
  refine ⟨fun a => if_pos rfl, fun a b h => ?_, fun a b => ?_, fun a b d h1 h2 => ?_, fun a b => ?_⟩
  · unfold intC at h
    split at h
    · assumption
    · split at h <;> omega
  · unfold intC
    split <;> split <;> (try split) <;> (try split) <;> omega
  · unfold intC at *
    split at h1 <;> split at h2 <;> (try split at h1) <;> (try split at h2) <;> split <;> (try split) <;> omega
  · unfold intC
    split
    · exact .inr (.inl rfl)
    · split
      · exact .inl rfl
      · exact .inr (.inr rfl)
def lexC {α : Type} (c : α → α → Int) : List α → List α → Int
  | [], [] => 0
  | [], _ :: _ => -1
  | _ :: _, [] => 1
  | x :: xs, y :: ys => if c x y = 0 then lexC c xs ys else c x y
section
variable {α : Type} {c : α → α → Int}
theorem lexC_cons (x y : α) (xs ys : List α) : lexC c (x :: xs) (y :: ys) = if c x y = 0 then lexC c xs ys else c x y := by rw [lexC]
theorem lexC_refl (C : Cmpr c) : ∀ xs : List α, lexC c xs xs = 0
  | [] => rfl
  | x :: xs => by
    rw [lexC_cons, if_pos (C.refl x), lexC_refl C xs]
theorem lexC_eq (C : Cmpr c) : ∀ xs ys : List α, lexC c xs ys = 0 → xs = ys
  | [], [], _ => rfl
  | [], _ :: _, h => by simp [lexC] at h
  | _ :: _, [], h => by simp [lexC] at h
  | x :: xs, y :: ys, h => by
    rw [lexC_cons] at h
    split at h
    · next e => rw [C.eq x y e, lexC_eq C xs ys h]
    · contradiction
theorem lexC_anti (C : Cmpr c) : ∀ xs ys : List α, lexC c ys xs = - lexC c xs ys
  | [], [] => rfl
  | [], _ :: _ => by simp [lexC]
  | _ :: _, [] => by simp [lexC]
  | x :: xs, y :: ys => by
    have a := C.anti x y
    rw [lexC_cons, lexC_cons, lexC_anti C xs ys]
    split <;> split <;> omega
theorem lexC_ran (C : Cmpr c) : ∀ xs ys : List α, lexC c xs ys = -1 ∨ lexC c xs ys = 0 ∨ lexC c xs ys = 1
  | [], [] => .inr (.inl rfl)
  | [], _ :: _ => .inl rfl
  | _ :: _, [] => .inr (.inr rfl)
  | x :: xs, y :: ys => by
    rw [lexC_cons]
    split
    · exact lexC_ran C xs ys
    · exact C.ran x y
theorem lexC_tr (C : Cmpr c) : ∀ xs ys zs : List α, lexC c xs ys ≤ 0 → lexC c ys zs ≤ 0 → lexC c xs zs ≤ 0
  | [], _, [], _, _ => by simp [lexC]
  | [], _, _ :: _, _, _ => by simp [lexC]
  | _ :: _, [], _, h, _ => by simp [lexC] at h
  | _ :: _, _ :: _, [], _, h => by simp [lexC] at h
  | x :: xs, y :: ys, z :: zs, h1, h2 => by
    rw [lexC_cons] at h1 h2 ⊢
    have ran := C.ran x y
    by_cases e1 : c x y = 0
    · rw [if_pos e1] at h1
      have := C.eq x y e1
      subst this
      by_cases e2 : c x z = 0
      · rw [if_pos e2] at h2 ⊢
        exact lexC_tr C xs ys zs h1 h2
      · rw [if_neg e2] at h2 ⊢
        exact h2
    · rw [if_neg e1] at h1
      by_cases e2 : c y z = 0
      · have := C.eq y z e2
        subst this
        rw [if_neg e1]
        exact h1
      · rw [if_neg e2] at h2
        have h3 := C.tr x y z h1 h2
        have h4 : c x z ≠ 0 := fun e => by
          have := C.eq x z e
          subst this
          have := C.anti x y
          omega
        rw [if_neg h4]
        exact h3
theorem lexC_ok (C : Cmpr c) : Cmpr (lexC c) := ⟨lexC_refl C, lexC_eq C, lexC_anti C, lexC_tr C, lexC_ran C⟩
end
/-! ## heads -/
def cpsI (s : Str) : List Int := s.cps.toList.map fun n : Nat => (n : Int)
def sC (a b : Str) : Int := lexC intC (cpsI a) (cpsI b)
theorem natlex : ∀ xs ys : List Nat, lexC intC (xs.map fun n : Nat => (n : Int)) (ys.map fun n : Nat => (n : Int)) = if xs = ys then 0 else if xs < ys then -1 else 1
  | [], [] => by simp [lexC]
  | [], y :: ys => by simp [lexC]
  | x :: xs, [] => by simp [lexC]
  | x :: xs, y :: ys => by
    rw [List.map_cons, List.map_cons, lexC_cons, natlex xs ys]
    unfold intC
    by_cases e : x = y
    · subst e
      rw [if_pos rfl, if_pos rfl]
      by_cases e2 : xs = ys
      · subst e2
        simp
      · have n2 : ¬ x :: xs = x :: ys := fun z => e2 (List.cons.inj z).2
        rw [if_neg e2, if_neg n2]
        by_cases l : xs < ys
        · rw [if_pos l, if_pos (List.cons_lt_cons_iff.mpr (.inr ⟨rfl, l⟩))]
        · rw [if_neg l, if_neg]
          intro z
          rcases List.cons_lt_cons_iff.mp z with z | z
          · omega
          · exact l z.2
    · have e1 : ¬ (x : Int) = (y : Int) := by omega
      have n2 : ¬ x :: xs = y :: ys := fun z => e (List.cons.inj z).1
      rw [if_neg e1, if_neg n2]
      by_cases l : (x : Int) < (y : Int)
      · rw [if_pos l, if_neg (by decide), if_pos (List.cons_lt_cons_iff.mpr (.inl (by omega)))]
      · rw [if_neg l, if_neg (by decide), if_neg]
        intro z
        rcases List.cons_lt_cons_iff.mp z with z | z
        · omega
        · exact e z.1
theorem sC_eq (a b : Str) : sC a b = if a = b then 0 else if a.cps.toList < b.cps.toList then -1 else 1 := by
  unfold sC cpsI
  rw [natlex]
  by_cases e : a = b
  · subst e
    rw [if_pos rfl, if_pos rfl]
  · rw [if_neg e, if_neg]
    intro z
    have := Array.toList_inj.mp z
    apply e
    cases a
    cases b
    simp only [Str.mk.injEq]
    exact this
def hcode : Tm → List Int
  | .var k => [0, k]
  | .int i => [1, i]
  | .atom s => 2 :: cpsI s
  | .comp f as => 3 :: (as.length : Int) :: cpsI f
abbrev hC : List Int → List Int → Int := lexC intC
theorem hC_ok : Cmpr hC := lexC_ok intC_ok
abbrev kC : List (List Int) → List (List Int) → Int := lexC hC
theorem kC_ok : Cmpr kC := lexC_ok hC_ok
def kcode (t : Tm) : List (List Int) := (pre t).map hcode
mutual
def tord : Tm → Tm → Int
  | .comp f as, .comp g bs => if intC as.length bs.length = 0 then (if sC f g = 0 then tords as bs else sC f g) else intC as.length bs.length
  | .var k, t => hC (hcode (.var k)) (hcode t)
  | .int k, t => hC (hcode (.int k)) (hcode t)
  | .atom k, t => hC (hcode (.atom k)) (hcode t)
  | .comp f as, t => hC (hcode (.comp f as)) (hcode t)
def tords : List Tm → List Tm → Int
  | a :: as, b :: bs => if tord a b = 0 then tords as bs else tord a b
  | _, _ => 0
end
theorem hC3 (n m : Int) (f g : Str) : hC (3 :: n :: cpsI f) (3 :: m :: cpsI g) = if intC n m = 0 then sC f g else intC n m := by
  show lexC intC _ _ = _
  rw [lexC_cons, if_pos (by decide), lexC_cons]
  rfl
theorem hC_tag {a b : Int} (h : a ≠ b) (xs ys : List Int) : hC (a :: xs) (b :: ys) ≠ 0 := by
  show lexC intC _ _ ≠ 0
  have : intC a b ≠ 0 := fun z => h (intC_ok.eq a b z)
  rw [lexC_cons, if_neg this]
  exact this
def rank : Tm → Int
  | .var _ => 0
  | .int _ => 1
  | .atom _ => 2
  | .comp _ _ => 3
theorem hC_rank {s t : Tm} (h : rank s ≠ rank t) : hC (hcode s) (hcode t) ≠ 0 := by
  cases s <;> cases t <;> first | exact absurd rfl h | exact hC_tag (by decide) _ _
mutual
theorem ord_pre : ∀ (s t : Tm) (xs ys : List (List Int)), kC ((pre s).map hcode ++ xs) ((pre t).map hcode ++ ys) = if tord s t = 0 then kC xs ys else tord s t
  | .var i, .var j, xs, ys => by
    show lexC hC (hcode (.var i) :: xs) (hcode (.var j) :: ys) = _
    rw [lexC_cons]
    rfl
  | .var i, .int j, xs, ys => by
    show lexC hC (hcode (.var i) :: xs) (hcode (.int j) :: ys) = _
    rw [lexC_cons]
    rfl
  | .var i, .atom j, xs, ys => by
    show lexC hC (hcode (.var i) :: xs) (hcode (.atom j) :: ys) = _
    rw [lexC_cons]
    rfl
  | .var i, .comp g bs, xs, ys => by
    rw [pre, pre]
    show lexC hC (hcode (.var i) :: xs) (hcode (.comp g bs) :: _) = _
    have h : hC (hcode (.var i)) (hcode (.comp g bs)) ≠ 0 := hC_rank (by simp [rank])
    rw [lexC_cons, if_neg h]
    show _ = if hC (hcode (.var i)) (hcode (.comp g bs)) = 0 then _ else _
    rw [if_neg h]
    rfl
  | .int i, .var j, xs, ys => by
    show lexC hC (hcode (.int i) :: xs) (hcode (.var j) :: ys) = _
    rw [lexC_cons]
    rfl
  | .int i, .int j, xs, ys => by
    show lexC hC (hcode (.int i) :: xs) (hcode (.int j) :: ys) = _
    rw [lexC_cons]
    rfl
  | .int i, .atom j, xs, ys => by
    show lexC hC (hcode (.int i) :: xs) (hcode (.atom j) :: ys) = _
    rw [lexC_cons]
    rfl
  | .int i, .comp g bs, xs, ys => by
    rw [pre, pre]
    show lexC hC (hcode (.int i) :: xs) (hcode (.comp g bs) :: _) = _
    have h : hC (hcode (.int i)) (hcode (.comp g bs)) ≠ 0 := hC_rank (by simp [rank])
    rw [lexC_cons, if_neg h]
    show _ = if hC (hcode (.int i)) (hcode (.comp g bs)) = 0 then _ else _
    rw [if_neg h]
    rfl
  | .atom i, .var j, xs, ys => by
    show lexC hC (hcode (.atom i) :: xs) (hcode (.var j) :: ys) = _
    rw [lexC_cons]
    rfl
  | .atom i, .int j, xs, ys => by
    show lexC hC (hcode (.atom i) :: xs) (hcode (.int j) :: ys) = _
    rw [lexC_cons]
    rfl
  | .atom i, .atom j, xs, ys => by
    show lexC hC (hcode (.atom i) :: xs) (hcode (.atom j) :: ys) = _
    rw [lexC_cons]
    rfl
  | .atom i, .comp g bs, xs, ys => by
    rw [pre, pre]
    show lexC hC (hcode (.atom i) :: xs) (hcode (.comp g bs) :: _) = _
    have h : hC (hcode (.atom i)) (hcode (.comp g bs)) ≠ 0 := hC_rank (by simp [rank])
    rw [lexC_cons, if_neg h]
    show _ = if hC (hcode (.atom i)) (hcode (.comp g bs)) = 0 then _ else _
    rw [if_neg h]
    rfl
  | .comp f as, .var j, xs, ys => by
    rw [pre, pre]
    show lexC hC (hcode (.comp f as) :: _) (hcode (.var j) :: _) = _
    have h : hC (hcode (.comp f as)) (hcode (.var j)) ≠ 0 := hC_rank (by simp [rank])
    rw [lexC_cons, if_neg h]
    show _ = if hC (hcode (.comp f as)) (hcode (.var j)) = 0 then _ else _
    rw [if_neg h]
    rfl
  | .comp f as, .int j, xs, ys => by
    rw [pre, pre]
    show lexC hC (hcode (.comp f as) :: _) (hcode (.int j) :: _) = _
    have h : hC (hcode (.comp f as)) (hcode (.int j)) ≠ 0 := hC_rank (by simp [rank])
    rw [lexC_cons, if_neg h]
    show _ = if hC (hcode (.comp f as)) (hcode (.int j)) = 0 then _ else _
    rw [if_neg h]
    rfl
  | .comp f as, .atom j, xs, ys => by
    rw [pre, pre]
    show lexC hC (hcode (.comp f as) :: _) (hcode (.atom j) :: _) = _
    have h : hC (hcode (.comp f as)) (hcode (.atom j)) ≠ 0 := hC_rank (by simp [rank])
    rw [lexC_cons, if_neg h]
    show _ = if hC (hcode (.comp f as)) (hcode (.atom j)) = 0 then _ else _
    rw [if_neg h]
    rfl
  | .comp f as, .comp g bs, xs, ys => by
    rw [pre, pre, tord]
    show lexC hC (hcode (.comp f as) :: ((pres as).map hcode ++ xs)) (hcode (.comp g bs) :: ((pres bs).map hcode ++ ys)) = _
    have h : hC (hcode (.comp f as)) (hcode (.comp g bs)) = _ := hC3 _ _ f g
    rw [lexC_cons, h]
    by_cases e1 : intC (as.length : Int) (bs.length : Int) = 0
    · rw [if_pos e1, if_pos e1]
      by_cases e2 : sC f g = 0
      · rw [if_pos e2, if_pos e2]
        have := intC_ok.eq _ _ e1
        exact ord_pres as bs xs ys (by omega)
      · rw [if_neg e2, if_neg e2, if_neg e2]
    · rw [if_neg e1, if_neg e1, if_neg e1, if_neg e1]
theorem ord_pres : ∀ (as bs : List Tm) (xs ys : List (List Int)), as.length = bs.length → kC ((pres as).map hcode ++ xs) ((pres bs).map hcode ++ ys) = if tords as bs = 0 then kC xs ys else tords as bs
  | [], [], xs, ys, _ => by
    show kC xs ys = if tords [] [] = 0 then _ else _
    rw [tords, if_pos rfl]
    intro a as b bs h
    cases h
  | [], _ :: _, _, _, h => by simp at h
  | _ :: _, [], _, _, h => by simp at h
  | a :: as, b :: bs, xs, ys, h => by
    rw [pres, pres, List.map_append, List.map_append, List.append_assoc, List.append_assoc, ord_pre a b, tords]
    by_cases e : tord a b = 0
    · rw [if_pos e, if_pos e]
      exact ord_pres as bs xs ys (by simpa using h)
    · rw [if_neg e, if_neg e, if_neg e]
end
theorem ord_key (s t : Tm) : kC (kcode s) (kcode t) = tord s t := by
  have h := ord_pre s t [] []
  rw [List.append_nil, List.append_nil] at h
  unfold kcode
  rw [h]
  split
  · next e => rw [e]; rfl
  · rfl
mutual
theorem hcode_eq : ∀ (s t : Tm), tord s t = 0 → s = t
  | .comp f as, .comp g bs, h => by
    rw [tord] at h
    by_cases e1 : intC (as.length : Int) (bs.length : Int) = 0
    · rw [if_pos e1] at h
      by_cases e2 : sC f g = 0
      · rw [if_pos e2] at h
        have hl := intC_ok.eq _ _ e1
        have hf : f = g := by
          rw [sC_eq] at e2
          split at e2
          · assumption
          · split at e2 <;> omega
        rw [hf, hcodes_eq as bs (by omega) h]
      · rw [if_neg e2] at h
        exact absurd h e2
    · rw [if_neg e1] at h
      exact absurd h e1
  | .var i, .var j, h => by
    have := hC_ok.eq _ _ (show hC [0, i] [0, j] = 0 from h)
    simp at this
    rw [this]
  | .int i, .int j, h => by
    have := hC_ok.eq _ _ (show hC [1, i] [1, j] = 0 from h)
    simp at this
    rw [this]
  | .atom i, .atom j, h => by
    have h2 : sC i j = 0 := by
      have h3 : lexC intC (2 :: cpsI i) (2 :: cpsI j) = 0 := h
      rw [lexC_cons, if_pos (by decide)] at h3
      exact h3
    rw [sC_eq] at h2
    split at h2
    · next e => rw [e]
    · split at h2 <;> omega
  | .var _, .int _, h => absurd h (hC_rank (by simp [rank]))
  | .var _, .atom _, h => absurd h (hC_rank (by simp [rank]))
  | .var _, .comp _ _, h => absurd h (hC_rank (by simp [rank]))
  | .int _, .var _, h => absurd h (hC_rank (by simp [rank]))
  | .int _, .atom _, h => absurd h (hC_rank (by simp [rank]))
  | .int _, .comp _ _, h => absurd h (hC_rank (by simp [rank]))
  | .atom _, .var _, h => absurd h (hC_rank (by simp [rank]))
  | .atom _, .int _, h => absurd h (hC_rank (by simp [rank]))
  | .atom _, .comp _ _, h => absurd h (hC_rank (by simp [rank]))
  | .comp _ _, .var _, h => absurd h (hC_rank (by simp [rank]))
  | .comp _ _, .int _, h => absurd h (hC_rank (by simp [rank]))
  | .comp _ _, .atom _, h => absurd h (hC_rank (by simp [rank]))
theorem hcodes_eq : ∀ (as bs : List Tm), as.length = bs.length → tords as bs = 0 → as = bs
  | [], [], _, _ => rfl
  | [], _ :: _, h, _ => by simp at h
  | _ :: _, [], h, _ => by simp at h
  | a :: as, b :: bs, h, h2 => by
    rw [tords] at h2
    by_cases e : tord a b = 0
    · rw [if_pos e] at h2
      rw [hcode_eq a b e, hcodes_eq as bs (by simpa using h) h2]
    · rw [if_neg e] at h2
      exact absurd h2 e
end
theorem tord_ok : Cmpr tord := by
  refine ⟨fun a => ?_, hcode_eq, fun a b => ?_, fun a b d h1 h2 => ?_, fun a b => ?_⟩
  · rw [← ord_key]
    exact kC_ok.refl _
  · rw [← ord_key, ← ord_key]
    exact kC_ok.anti _ _
  · rw [← ord_key] at *
    exact kC_ok.tr _ _ _ h1 h2
  · rw [← ord_key]
    exact kC_ok.ran _ _
/-- in order -/
def Rising (ts : List Tm) : Prop := ts.Pairwise fun a b => tord a b ≤ 0
theorem rising_uniq : ∀ {ts us : List Tm}, Rising ts → Rising us → ts.Perm us → ts = us
  | [], us, _, _, p => (List.Perm.nil_eq p)
  | t :: ts, [], _, _, p => absurd p.length_eq (by simp)
  | t :: ts, u :: us, h1, h2, p => by
    have a1 := List.pairwise_cons.mp h1
    have a2 := List.pairwise_cons.mp h2
    have e1 : tord t u ≤ 0 := by
      rcases List.mem_cons.mp (p.mem_iff.mpr (List.mem_cons_self (a := u) (l := us))) with e | e
      · rw [e, tord_ok.refl]
        exact Int.le_refl _
      · exact a1.1 u e
    have e2 : tord u t ≤ 0 := by
      rcases List.mem_cons.mp (p.mem_iff.mp (List.mem_cons_self (a := t) (l := ts))) with e | e
      · rw [e, tord_ok.refl]
        exact Int.le_refl _
      · exact a2.1 t e
    have e3 := tord_ok.anti t u
    have e : t = u := tord_ok.eq t u (by omega)
    subst e
    rw [rising_uniq a1.2 a2.2 p.cons_inv]
end Hm

set_option Elab.async false
set_option linter.all false
set_option maxRecDepth 100000
set_option maxHeartbeats 4000000
namespace Hm
open PySem PySem.SeqAt
open AutoSeq1 (wpAny_loadPart')
open MeetsSeq MeetsSeq2 MeetsSeq3 SeqRoads2
/-! ## x < y of two rows of values: what decides is the first place that differs; what stands behind it may be anything -/
inductive Dec (A : Around) (s : Shared) : List Value → List Value → Bool → Prop
  | both : Dec A s [] [] false
  | short (y : Value) (ys : List Value) : Dec A s [] (y :: ys) true
  | long (x : Value) (xs : List Value) : Dec A s (x :: xs) [] false
  | same {x y : Value} {xs ys : List Value} {b : Bool} : EqAt A s x y true → Dec A s xs ys b → Dec A s (x :: xs) (y :: ys) b
  | here {x y : Value} {xs ys : List Value} {b : Bool} : EqAt A s x y false → RcLt A s x y b → Dec A s (x :: xs) (y :: ys) b
def tupObj (its : Array Value) (n : Nat) (dd : Option Addr) (sl : Array (Option Value)) : Obj := { cls := .type "tuple", dict := dd, data := .seq its n, slots := sl }
theorem dec_tup (p q : Addr) (is js : Array Value) (n m : Nat) (d1 d2 : Option Addr) (s1 s2 : Array (Option Value)) (b : Bool) :
    Meets (Builtin.«tuple.__lt__» ⟨[.ref p, .ref q], []⟩) (fun A R s => s.heap.get? p = some (tupObj is n d1 s1) ∧ s.heap.get? q = some (tupObj js m d2 s2) ∧ Dec A.in1 s is.toList js.toList b ∧ R (.ok (.ret (.bool b))) s) :=
  .of_wp fun prog w A R s z => by
    have st := AutoSeq1.sub_tuple_tuple
    obtain ⟨heap, gens, drawn, toks, os⟩ := s
    obtain ⟨gp, gq, dc, fin⟩ := z
    unfold tupObj at gp gq
    wp_walk using wpAny_loadPart' gp, wpAny_loadPart' gq, wpAny_forIn_list _ (fun left bb s' => bb.1 = none ∧ s' = ⟨heap, gens, drawn, toks, os⟩ ∧ ∃ xs ys, left = xs.zip ys ∧ Dec A.in1 ⟨heap, gens, drawn, toks, os⟩ xs ys b ∧ xs.length + js.size = ys.length + is.size) _
    case turn =>
      rintro ⟨x, y⟩ left bb s' ⟨h0, rfl, xs, ys, hz, hd, hl⟩
      cases hd with
      | both => cases hz
      | short => cases hz
      | long => cases hz
      | @same x' y' xs ys _ he hr =>
        rw [List.zip_cons_cons] at hz
        injection hz with h1 h2
        injection h1 with h3 h4
        subst h3 h4 h2
        refine wpAny_bind (he prog w _ _ ?_)
        wp_walk
        exact ⟨rfl, rfl, xs, ys, rfl, hr, by simp only [List.length_cons] at hl; omega⟩
      | @here x' y' xs ys _ he hr =>
        rw [List.zip_cons_cons] at hz
        injection hz with h1 h2
        injection h1 with h3 h4
        subst h3 h4 h2
        have rc : ∀ {Q : Value → Shared → Prop} {E : Value → Shared → Prop}, Q (.bool b) ⟨heap, gens, drawn, toks, os⟩ → wpAny (model prog w) A.in1 (richCompare .Lt x y) Q E ⟨heap, gens, drawn, toks, os⟩ := fun z => hr prog w _ _ z
        refine wpAny_bind (he prog w _ _ ?_)
        wp_walk using rc
        exact ⟨_, rfl, fin⟩
    case fin =>
      rintro ⟨b1, b2⟩ s' ⟨h0, rfl, xs, ys, hz, hd, hl⟩
      simp only at h0
      subst h0
      wp_walk
      refine ⟨_, rfl, ?_⟩
      have e : decide (is.size < js.size) = b := by
        cases hd with
        | both => exact decide_eq_false (by simp only [List.length_nil] at hl; omega)
        | short => exact decide_eq_true (by simp only [List.length_nil, List.length_cons] at hl; omega)
        | long => exact decide_eq_false (by simp only [List.length_nil, List.length_cons] at hl; omega)
        | same => simp at hz
        | here => simp at hz
      simpa [Builtin.Tuple.tupleCompareSizes, e] using fin
    case h => exact ⟨rfl, rfl, is.toList, js.toList, rfl, dc, by simp; omega⟩
def lstObj (its : Array Value) (n : Nat) (dd : Option Addr) (sl : Array (Option Value)) : Obj := { cls := .type "list", dict := dd, data := .seq its n, slots := sl }
theorem dec_nil {A : Around} {s : Shared} {xs ys : List Value} {b : Bool} (h : Dec A s xs ys b) (e : xs = [] ∨ ys = []) : b = decide (xs.length < ys.length) := by
  cases h with
  | both => rfl
  | short => rfl
  | long => rfl
  | same => simp at e
  | here => simp at e
theorem dec_loop (p q : Addr) (is js : Array Value) (n m : Nat) (d1 d2 : Option Addr) (s1 s2 : Array (Option Value)) (b : Bool) (k : Nat) :
    ∀ i : Nat, is.size + js.size = k + 2 * i ∨ is.size + js.size = k + 2 * i + 1 → i ≤ is.size → i ≤ js.size → Meets (Builtin.«list.__eq__.loop» ⟨[.ref p, .ref q, rawInt i, rawInt 0], []⟩)
      (fun A R s => s.heap.get? p = some (lstObj is n d1 s1) ∧ s.heap.get? q = some (lstObj js m d2 s2) ∧ Dec A.in1 s (is.toList.drop i) (js.toList.drop i) b ∧ R (.ok (.ret (.bool b))) s) := by
  induction k using Nat.strongRecOn with
  | ind k ih =>
    intro i hk li lj prog w A R s z
    obtain ⟨heap, gens, drawn, toks, os⟩ := s
    obtain ⟨gp, gq, dc, fin⟩ := z
    unfold lstObj at gp gq
    by_cases ei : i < is.size
    · by_cases ej : i < js.size
      · have gi : is[((i : Nat) : Int).toNat]? = some is[i] := by simp [ei]
        have gj : js[((i : Nat) : Int).toNat]? = some js[i] := by simp [ej]
        have di : is.toList.drop i = is[i] :: is.toList.drop (i + 1) := by simp [List.drop_eq_getElem_cons, ei]
        have dj : js.toList.drop i = js[i] :: js.toList.drop (i + 1) := by simp [List.drop_eq_getElem_cons, ej]
        have nx : ((i : Int) + 1) = ((i + 1 : Nat) : Int) := by push_cast; rfl
        rw [di, dj] at dc
        wp_walk using wpAny_loadPart' gp, wpAny_loadPart' gq
        rw [gi, gj]
        cases dc with
        | same he hr =>
          refine wpAny_bind (he prog w _ _ ?_)
          wp_walk
          rw [nx]
          refine ⟨plainId_quiet plain_eq_loop _, codeAny_builtin entry_eq_loop ?_⟩
          rw [Around.under_plainId plain_eq_loop _]
          exact ih (k - 2) (by omega) (i + 1) (by omega) (by omega) (by omega) prog w A R _ ⟨gp, gq, hr, fin⟩
        | here he hr =>
          refine wpAny_bind (he prog w _ _ ?_)
          wp_walk using wpAny_loadPart' gp, wpAny_loadPart' gq
          rw [gi, gj]
          have rc : ∀ {Q : Value → Shared → Prop} {E : Value → Shared → Prop}, Q (.bool b) ⟨heap, gens, drawn, toks, os⟩ → wpAny (model prog w) A.in1 (richCompare .Lt is[i] js[i]) Q E ⟨heap, gens, drawn, toks, os⟩ := fun z => hr prog w _ _ z
          wp_walk using rc
          exact fin
      · have gi : is[((i : Nat) : Int).toNat]? = some is[i] := by simp [ei]
        have gj : js[((i : Nat) : Int).toNat]? = none := by simp; omega
        have e := dec_nil dc (.inr (by simp; omega))
        have e2 : decide (is.size < js.size) = b := by
          rw [e]
          simp
          omega
        wp_walk using wpAny_loadPart' gp, wpAny_loadPart' gq
        rw [gi, gj]
        wp_walk using wpAny_loadPart' gp, wpAny_loadPart' gq
        rw [← e2] at fin
        exact fin
    · have gi : is[((i : Nat) : Int).toNat]? = none := by simp; omega
      have e := dec_nil dc (.inl (by simp; omega))
      have e2 : decide (is.size < js.size) = b := by
        rw [e]
        simp
        omega
      wp_walk using wpAny_loadPart' gp, wpAny_loadPart' gq
      rw [gi]
      wp_walk using wpAny_loadPart' gp, wpAny_loadPart' gq
      rw [← e2] at fin
      exact fin
theorem dec_lst (p q : Addr) (is js : Array Value) (n m : Nat) (d1 d2 : Option Addr) (s1 s2 : Array (Option Value)) (b : Bool) :
    Meets (Builtin.«list.__lt__» ⟨[.ref p, .ref q], []⟩) (fun A R s => s.heap.get? p = some (lstObj is n d1 s1) ∧ s.heap.get? q = some (lstObj js m d2 s2) ∧ Dec A.in1 s is.toList js.toList b ∧ R (.ok (.ret (.bool b))) s) := by
  intro prog w A R s z
  have st := AutoSeq1.sub_list_list
  obtain ⟨heap, gens, drawn, toks, os⟩ := s
  obtain ⟨gp, gq, dc, fin⟩ := z
  unfold lstObj at gp gq
  wp_walk using wpAny_loadPart' gp, wpAny_loadPart' gq
  refine ⟨plainId_quiet plain_eq_loop _, codeAny_builtin entry_eq_loop ?_⟩
  rw [Around.under_plainId plain_eq_loop _]
  exact dec_loop p q is js n m d1 d2 s1 s2 b (is.size + js.size) 0 (.inl (by omega)) (Nat.zero_le _) (Nat.zero_le _) prog w A R _ ⟨gp, gq, dc, fin⟩
theorem obj_tup {h : Heap} {p : Addr} {is : Array Value} (hp : h.IsTuple p is) : ∃ n d sl, h.get? p = some (tupObj is n d sl) := by
  obtain ⟨⟨cls, dd, data, sl⟩, ho, hc, n, hd⟩ := hp
  simp only at hc hd
  subst hc hd
  exact ⟨n, dd, sl, ho⟩
theorem obj_lst {h : Heap} {p : Addr} {is : Array Value} (hp : h.IsList p is) : ∃ n d sl, h.get? p = some (lstObj is n d sl) := by
  obtain ⟨⟨cls, dd, data, sl⟩, ho, hc, n, hd⟩ := hp
  simp only at hc hd
  subst hc hd
  exact ⟨n, dd, sl, ho⟩
section
variable {A : Around} {s : Shared} {p q : Addr} {is js : Array Value} {b : Bool}
theorem rc_tup (hp : s.heap.IsTuple p is) (hq : s.heap.IsTuple q js) (hu : A.units < cLine) (h : Dec A.in1 s is.toList js.toList b) : RcLt A s (.ref p) (.ref q) b := fun prog w E Q z => by
  obtain ⟨n, d, sl, e⟩ := obj_tup hp
  obtain ⟨m, d', sl', e'⟩ := obj_tup hq
  exact richCompare_meets_room (op := .Lt) ⟨_, e, rfl⟩ ⟨_, e', rfl⟩ F.slot_tuple_lt F.entry_tuple_lt (F.args_tuple_lt_2 _ _) (dec_tup p q is js n m d d' sl sl' b) ⟨e, e', h, show Value.bool b ≠ Value.notImplemented ∧ Q (.bool b) s from ⟨(fun x => nomatch x), z⟩⟩ hu
theorem rc_lst (hp : s.heap.IsList p is) (hq : s.heap.IsList q js) (hu : A.units < cLine) (h : Dec A.in1 s is.toList js.toList b) : RcLt A s (.ref p) (.ref q) b := fun prog w E Q z => by
  obtain ⟨n, d, sl, e⟩ := obj_lst hp
  obtain ⟨m, d', sl', e'⟩ := obj_lst hq
  exact richCompare_meets_room (op := .Lt) ⟨_, e, rfl⟩ ⟨_, e', rfl⟩ F.slot_list_lt F.entry_list_lt (F.args_list_lt_2 _ _) (dec_lst p q is js n m d d' sl sl' b) ⟨e, e', h, show Value.bool b ≠ Value.notImplemented ∧ Q (.bool b) s from ⟨(fun x => nomatch x), z⟩⟩ hu
/-- the same, as sorting asks -/
theorem call_lst {prog : Program} {w : World} {E Q : Value → Shared → Prop} (hp : s.heap.IsList p is) (hq : s.heap.IsList q js) (h : Dec A.in1 s is.toList js.toList b) (z : Q (.bool b) s) : wpAny (model prog w) A (call (.builtin "list.__lt__") [.ref p, .ref q]) Q E s := by
  obtain ⟨n, d, sl, e⟩ := obj_lst hp
  obtain ⟨m, d', sl', e'⟩ := obj_lst hq
  exact call_meets F.slot_list_lt ⟨_, e, rfl⟩ F.entry_list_lt (F.args_list_lt_2 _ _) (dec_lst p q is js n m d d' sl sl' b) ⟨e, e', h, z⟩
end
end Hm

set_option Elab.async false
set_option linter.all false
set_option maxRecDepth 100000
set_option maxHeartbeats 4000000
namespace Hm
open PySem PySem.Spec PySem.SeqAt PySem.W
/-! ## keys: rows of heads, as data -/
def hdD : Tm → PyData
  | .var k => .tuple [.int 0, .int k]
  | .int i => .tuple [.int 1, .int i]
  | .atom s => .tuple [.int 2, .str s]
  | .comp f as => .tuple [.int 3, .int (as.length : Int), .str f]
theorem hd_depth (t : Tm) : (hdD t).depth = 1 := by cases t <;> rfl
theorem intC_beq (i j : Int) : (i == j) = decide (intC i j = 0) := by
  by_cases e : i = j
  · subst e
    rw [beq_self_eq_true, decide_eq_true (intC_ok.refl i)]
  · rw [decide_eq_false (fun z => e (intC_ok.eq i j z))]
    exact beq_false_of_ne e
theorem intC_lt (i j : Int) (h : intC i j ≠ 0) : decide (i < j) = decide (intC i j < 0) := by
  have e : i ≠ j := fun z => h (z ▸ intC_ok.refl i)
  unfold intC
  rw [if_neg e]
  by_cases l : i < j
  · rw [if_pos l, decide_eq_true l]
    rfl
  · rw [if_neg l, decide_eq_false l]
    rfl
theorem sC_beq (a b : Str) : (a == b) = decide (sC a b = 0) := by
  rw [sC_eq]
  by_cases e : a = b
  · subst e
    rw [if_pos rfl, beq_self_eq_true]
    rfl
  · rw [if_neg e, beq_false_of_ne e]
    split <;> rfl
theorem sC_lt (a b : Str) (h : sC a b ≠ 0) : decide (a.cps.toList < b.cps.toList) = decide (sC a b < 0) := by
  rw [sC_eq] at *
  by_cases e : a = b
  · rw [if_pos e] at h
    exact absurd rfl h
  · rw [if_neg e]
    by_cases l : a.cps.toList < b.cps.toList
    · rw [if_pos l, decide_eq_true l]
      rfl
    · rw [if_neg l, decide_eq_false l]
      rfl
theorem hC_tag' {a b : Int} (h : a ≠ b) (xs ys : List Int) : hC (a :: xs) (b :: ys) = intC a b := by
  show lexC intC _ _ = _
  have : intC a b ≠ 0 := fun z => h (intC_ok.eq a b z)
  rw [lexC_cons, if_neg this]
theorem hC_two (a i j : Int) : hC [a, i] [a, j] = intC i j := by
  show lexC intC _ _ = _
  rw [lexC_cons, if_pos (intC_ok.refl a), lexC_cons]
  split
  · next e => rw [e]; rfl
  · rfl
theorem hC_str (f g : Str) : hC (2 :: cpsI f) (2 :: cpsI g) = sC f g := by
  show lexC intC _ _ = _
  rw [lexC_cons, if_pos (intC_ok.refl 2)]
  rfl
section
variable {A : Around} {s : Shared}
theorem eq_int (i j : Int) (t u : Tok) : EqAt A s (.int i t) (.int j u) (decide (intC i j = 0)) := by
  rw [← intC_beq]
  exact EqAt.int_int i t j u
theorem lt_int (i j : Int) (t u : Tok) (h : intC i j ≠ 0) : RcLt A s (.int i t) (.int j u) (decide (intC i j < 0)) := by
  rw [← intC_lt i j h, ← dataLt_int]
  by_cases z : A.units < cLine
  · exact rcLt_alike (.int i) (.int j) A s _ _ _ _ (.int i t) (.int j u) rfl (by simp) (by show A.units + 0 < _; omega)
  · intro prog w E Q q
    rw [dataLt_int] at q
    exact PyProof.Rows.lt_int q
theorem eq_str (i j : Str) (t u : Tok) : EqAt A s (.str i t) (.str j u) (decide (sC i j = 0)) := by
  rw [← sC_beq]
  exact EqAt.str_str i t j u
theorem lt_str (i j : Str) (t u : Tok) (hu : A.units < cLine) (h : sC i j ≠ 0) : RcLt A s (.str i t) (.str j u) (decide (sC i j < 0)) := by
  rw [← sC_lt i j h, ← dataLt_str]
  exact rcLt_alike (.str i) (.str j) A s _ _ _ _ (.str i t) (.str j u) rfl (by simp) (by show A.units + 0 < _; omega)
theorem dec_int1 (i j : Int) (t u : Tok) {xs ys : List Value} {b : Bool} (hs : intC i j = 0 → Dec A s xs ys b) (hn : intC i j ≠ 0 → b = decide (intC i j < 0)) : Dec A s (.int i t :: xs) (.int j u :: ys) b := by
  have e := eq_int (A := A) (s := s) i j t u
  by_cases z : intC i j = 0
  · rw [decide_eq_true z] at e
    exact .same e (hs z)
  · rw [decide_eq_false z] at e
    rw [hn z]
    exact .here e (lt_int i j t u z)
theorem dec_str1 (i j : Str) (t u : Tok) {xs ys : List Value} {b : Bool} (hu : A.units < cLine) (hs : sC i j = 0 → Dec A s xs ys b) (hn : sC i j ≠ 0 → b = decide (sC i j < 0)) : Dec A s (.str i t :: xs) (.str j u :: ys) b := by
  have e := eq_str (A := A) (s := s) i j t u
  by_cases z : sC i j = 0
  · rw [decide_eq_true z] at e
    exact .same e (hs z)
  · rw [decide_eq_false z] at e
    rw [hn z]
    exact .here e (lt_str i j t u hu z)
/-- the first sign of a head and what stands behind it -/
def hdR : Tm → List PyData
  | .var k => [.int k]
  | .int i => [.int i]
  | .atom s => [.str s]
  | .comp f as => [.int (as.length : Int), .str f]
theorem hd_row (t : Tm) : hdD t = .tuple (.int (rank t) :: hdR t) := by cases t <;> rfl
theorem hcode_row (t : Tm) : ∃ r, hcode t = rank t :: r := by cases t <;> exact ⟨_, rfl⟩
theorem head_dec {t t' : Tm} {vs us : List Value} {as bs : List Addr} (hu : A.units < cLine) (r1 : ReadsAll s.heap vs (.int (rank t) :: hdR t) as) (r2 : ReadsAll s.heap us (.int (rank t') :: hdR t') bs) : Dec A s vs us (decide (hC (hcode t) (hcode t') < 0)) := by
  cases r1 with
  | cons q1 r1 =>
    cases r2 with
    | cons q2 r2 =>
      cases q1
      cases q2
      by_cases e : rank t = rank t'
      · cases t <;> cases t' <;> first | (simp [rank] at e; done) | skip
        · cases r1 with
          | cons a1 b1 =>
            cases r2 with
            | cons a2 b2 =>
              cases a1; cases a2; cases b1; cases b2
              show Dec A s _ _ (decide (hC [0, _] [0, _] < 0))
              rw [hC_two]
              exact dec_int1 _ _ _ _ (fun _ => dec_int1 _ _ _ _ (fun z => by rw [z]; exact .both) fun _ => rfl) fun z => absurd (intC_ok.refl 0) z
        · cases r1 with
          | cons a1 b1 =>
            cases r2 with
            | cons a2 b2 =>
              cases a1; cases a2; cases b1; cases b2
              show Dec A s _ _ (decide (hC [1, _] [1, _] < 0))
              rw [hC_two]
              exact dec_int1 _ _ _ _ (fun _ => dec_int1 _ _ _ _ (fun z => by rw [z]; exact .both) fun _ => rfl) fun z => absurd (intC_ok.refl 1) z
        · cases r1 with
          | cons a1 b1 =>
            cases r2 with
            | cons a2 b2 =>
              cases a1; cases a2; cases b1; cases b2
              show Dec A s _ _ (decide (hC (2 :: cpsI _) (2 :: cpsI _) < 0))
              rw [hC_str]
              exact dec_int1 _ _ _ _ (fun _ => dec_str1 _ _ _ _ hu (fun z => by rw [z]; exact .both) fun _ => rfl) fun z => absurd (intC_ok.refl 2) z
        · cases r1 with
          | cons a1 b1 =>
            cases r2 with
            | cons a2 b2 =>
              cases b1 with
              | cons c1 d1 =>
                cases b2 with
                | cons c2 d2 =>
                  cases a1; cases a2; cases c1; cases c2; cases d1; cases d2
                  show Dec A s _ _ (decide (hC (3 :: _ :: cpsI _) (3 :: _ :: cpsI _) < 0))
                  rw [hC3]
                  refine dec_int1 _ _ _ _ (fun _ => dec_int1 _ _ _ _ (fun z => ?_) fun z => by rw [if_neg z]) fun z => absurd (intC_ok.refl 3) z
                  rw [if_pos z]
                  exact dec_str1 _ _ _ _ hu (fun z => by rw [z]; exact .both) fun _ => rfl
      · obtain ⟨x, e1⟩ := hcode_row t
        obtain ⟨y, e2⟩ := hcode_row t'
        rw [e1, e2, hC_tag' e]
        exact dec_int1 _ _ _ _ (fun z => absurd (intC_ok.eq _ _ z) e) fun _ => rfl
theorem hd_lay (t : Tm) (h : Ok t) : (hdD t).canLay0 = true := by
  have hs : ∀ z : Str, AtomOk z → (PyData.str z).canLay0 = true := fun z h => by
    show (z.cps.all fun c => decide (c < 0x110000)) = true
    rw [← Array.all_toList, List.all_eq_true]
    intro c hc
    have := h.2 c hc
    exact decide_eq_true (by omega)
  cases t with
  | var k => rfl
  | int i => rfl
  | atom z =>
    unfold Ok at h
    show ((PyData.int 2).canLay0 && ((PyData.str z).canLay0 && true)) = true
    rw [hs z h]
    rfl
  | comp f as =>
    unfold Ok at h
    show ((PyData.int 3).canLay0 && ((PyData.int (as.length : Int)).canLay0 && ((PyData.str f).canLay0 && true))) = true
    rw [hs f h.1]
    rfl
theorem eqv_hd (t t' : Tm) : PyData.eqv (hdD t) (hdD t') = decide (hC (hcode t) (hcode t') = 0) := by
  by_cases e : rank t = rank t'
  · cases t <;> cases t' <;> first | (simp [rank] at e; done) | skip
    · show ((0 == 0 : Bool) && ((_ == _ : Bool) && true)) = decide (hC [0, _] [0, _] = 0)
      rw [hC_two, intC_beq, Bool.and_true]
      rfl
    · show (((1 : Int) == 1 : Bool) && ((_ == _ : Bool) && true)) = decide (hC [1, _] [1, _] = 0)
      rw [hC_two, ← intC_beq, Bool.and_true]
      rfl
    · show (((2 : Int) == 2 : Bool) && ((_ == _ : Bool) && true)) = decide (hC (2 :: cpsI _) (2 :: cpsI _) = 0)
      rw [hC_str, sC_beq, Bool.and_true]
      rfl
    · next f as g bs =>
      show (((3 : Int) == 3 : Bool) && (((as.length : Int) == (bs.length : Int) : Bool) && ((f == g : Bool) && true))) = decide (hC (3 :: (as.length : Int) :: cpsI f) (3 :: (bs.length : Int) :: cpsI g) = 0)
      rw [hC3, intC_beq (as.length : Int), sC_beq, Bool.and_true]
      by_cases z : intC (as.length : Int) (bs.length : Int) = 0
      · rw [if_pos z, decide_eq_true z]
        rfl
      · rw [if_neg z, decide_eq_false z]
        rfl
  · obtain ⟨x, e1⟩ := hcode_row t
    obtain ⟨y, e2⟩ := hcode_row t'
    rw [e1, e2, hC_tag' e, hd_row, hd_row]
    have z : intC (rank t) (rank t') ≠ 0 := fun z => e (intC_ok.eq _ _ z)
    rw [decide_eq_false z]
    show ((rank t == rank t' : Bool) && _) = false
    rw [beq_false_of_ne e]
    rfl
theorem head_rc {t t' : Tm} {v u : Value} {as bs : List Addr} (hu : A.units + 1 < cLine) (r1 : Reads s.heap v (hdD t) as) (r2 : Reads s.heap u (hdD t') bs) : RcLt A s v u (decide (hC (hcode t) (hcode t') < 0)) := by
  rw [hd_row] at r1 r2
  cases r1 with
  | @tuple p o vs n _ _ h1 h2 h3 h4 =>
    cases r2 with
    | @tuple q o' us n' _ _ k1 k2 k3 k4 =>
      exact rc_tup ⟨o, h1, h2, n, h3⟩ ⟨o', k1, k2, n', k3⟩ (by omega) (head_dec (A := A.in1) hu h4 k4)
theorem heads_dec (hu : A.units + 2 < cLine) : ∀ (ts us : List Tm) (vs ws : List Value) (as bs : List Addr), Oks ts → Oks us → ReadsAll s.heap vs (ts.map hdD) as → ReadsAll s.heap ws (us.map hdD) bs → Dec A s vs ws (decide (kC (ts.map hcode) (us.map hcode) < 0))
  | [], [], _, _, _, _, _, _, r1, r2 => by
    cases r1
    cases r2
    exact .both
  | [], _ :: _, _, _, _, _, _, _, r1, r2 => by
    cases r1
    cases r2 with
    | cons a b => exact .short _ _
  | _ :: _, [], _, _, _, _, _, _, r1, r2 => by
    cases r2
    cases r1 with
    | cons a b => exact .long _ _
  | t :: ts, u :: us, _, _, _, _, o1, o2, r1, r2 => by
    rw [oks_cons] at o1 o2
    cases r1 with
    | cons a1 b1 =>
      cases r2 with
      | cons a2 b2 =>
        have e := eqAt_reads _ _ A s _ _ _ _ a1 a2 (hd_lay t o1.1) (hd_lay u o2.1) (by rw [hd_depth, hd_depth]; show A.units + 1 < _; omega)
        rw [eqv_hd] at e
        rw [List.map_cons, List.map_cons]
        show Dec A s _ _ (decide (lexC hC _ _ < 0))
        rw [lexC_cons]
        by_cases z : hC (hcode t) (hcode u) = 0
        · rw [decide_eq_true z] at e
          rw [if_pos z]
          exact .same e (heads_dec hu ts us _ _ _ _ o1.2 o2.2 b1 b2)
        · rw [decide_eq_false z] at e
          rw [if_neg z]
          exact .here e (head_rc (by omega) a1 a2)
/-- two keys -/
theorem keys_rc {ts us : List Tm} {v w : Value} {as bs : List Addr} (hu : A.units + 3 < cLine) (o1 : Oks ts) (o2 : Oks us) (r1 : Reads s.heap v (.list (ts.map hdD)) as) (r2 : Reads s.heap w (.list (us.map hdD)) bs) : RcLt A s v w (decide (kC (ts.map hcode) (us.map hcode) < 0)) := by
  cases r1 with
  | @list p o vs n _ _ h1 h2 h3 h4 =>
    cases r2 with
    | @list q o' us n' _ _ k1 k2 k3 k4 => exact rc_lst ⟨o, h1, h2, n, h3⟩ ⟨o', k1, k2, n', k3⟩ (by omega) (heads_dec (A := A.in1) (by show A.units + 1 + 2 < _; omega) _ _ _ _ _ _ o1 o2 h4 k4)
end
end Hm

set_option Elab.async false
set_option linter.all false
set_option maxRecDepth 100000
set_option maxHeartbeats 4000000
namespace Hm
open PySem PySem.Spec PySem.W PyProof.Rows SrtO
section
variable {prog : Program} {w : World} {A : Around} {E : Value → Shared → Prop} {s : Shared}
/-- the sorting itself, where the keys are all there -/
theorem srt_end {a kS : Addr} {its keys : Array Value} {e e1 : Nat} {P : Keyed → Prop} {lt : Keyed → Keyed → Bool} {R : PySem.Fin → Shared → Prop} (O : Swo lt) (hka : kS ≠ a) (hz : its.size ≤ sizeLine) (hkz : keys.size = its.size)
    (nk : s.heap.get? kS = some (seqObj "list" keys e)) (na : s.heap.get? a = some (seqObj "list" #[] e1)) (T : 2 ≤ keys.size → Cmp prog w A s oneType' P lt) (hP : AllL P (keys.zip its).toList)
    (hty : ∀ v ∈ keys.toList, Looks (model prog w) s.heap (typeOf v) (Value.type "list"))
    (h : ∀ out : List Keyed, Srtd lt out → Stb lt out (keys.zip its).toList → R (.done (.ret .none)) { s with heap := (s.heap.update kS (Obj.mapSeq fun _ => #[])).update a (Obj.mapSeq fun _ => (out.map (·.2)).toArray) }) :
    wpAny (model prog w) A (ksk_end a false its e1 (.ref kS) keys) R E s := by
  have pz : (keys.zip its).size = its.size := by rw [Array.size_zip, hkz, Nat.min_self]
  have last : ∀ st : SortSt, failedOf st = none → Srtd lt (arrOf st).toList → Stb lt (arrOf st).toList (keys.zip its).toList → wpAny (model prog w) A (ksk_tail a false e1 (.ref kS) st) R E s := by
    intro st hf h1 h2
    have sz : (arrOf st).size = its.size := by
      have := h2.len
      rw [Array.length_toList, Array.length_toList, pz] at this
      exact this
    have na1 : (s.heap.update kS (Obj.mapSeq fun _ => (#[] : Array Value))).get? a = some (seqObj "list" #[] e1) := (Heap.get?_update_ne _ _ _ _ hka.symm).trans na
    unfold ksk_tail
    try dsimp only
    refine wpAny_bind (listUpdate_at nk rfl ?_ (by rw [hkz]; exact hz) (Nat.zero_le _))
    refine wpAny_bind (wpAny_letGo ?_)
    refine wpAny_bind (seqEpoch_at na1 rfl ?_)
    refine wpAny_bind (listUpdate_at na1 rfl ?_ (Nat.zero_le _) (by show ((arrOf st).map _).size ≤ _; rw [Array.size_map, sz]; omega))
    rw [hf]
    simp only [bne_self_eq_false, Bool.false_eq_true, if_false]
    have r := h _ h1 h2
    rw [← Array.toList_map, Array.toArray_toList] at r
    exact wpAny_pure r
  unfold ksk_end
  try dsimp only
  simp only [Bool.false_eq_true, if_false]
  by_cases h2 : its.size < 2
  · rw [if_pos h2, if_pos h2]
    refine wpAny_bind (wpAny_pure ?_)
    rw [StateT.run_pure]
    refine wpAny_bind (wpAny_pure ?_)
    try dsimp only
    refine last (SortSt.mk' general' (keys.zip its) #[] 7 none) rfl ?_ (Stb.refl _)
    show Srtd lt (keys.zip its).toList
    have l1 : (keys.zip its).toList.length < 2 := by rw [Array.length_toList, pz]; exact h2
    match (keys.zip its).toList, l1 with
    | [], _ => exact List.Pairwise.nil
    | [x], _ => exact List.pairwise_singleton _ _
    | x :: y :: r, l1 => exact absurd l1 (by simp)
  · rw [if_neg h2, if_neg h2]
    have kk : keyKind' keys = keyKind' keys.toList.toArray := by rw [Array.toArray_toList]
    rw [kk]
    refine wpAny_bind (kas_kind (T := Value.type "list") (by rw [Array.length_toList]; omega) hty (by rfl) (by rfl) ?_)
    refine wpAny_bind (wpAny_mono (wpS_sortO (st0 := SortSt.mk' oneType' (keys.zip its) #[] 7 none) (Q := fun _ st' => Srtd lt (arrOf st').toList ∧ Stb lt (arrOf st').toList (keys.zip its).toList ∧ failedOf st' = none) O (T (by omega)) rfl hP rfl rfl fun st' a1 a2 a3 => ⟨a1, a2, a3⟩) ?_ fun _ _ q => q)
    rintro ⟨⟨⟩, st'⟩ s' ⟨rfl, p1, p2, p3⟩
    try dsimp only
    exact last st' p3 p1 p2
end
/-! ## a call of the program's own function by sorted's own -/
section
open L2 HT
open Evl (Ex)
variable {X : Cx} {pins : List (Addr × Obj)} {σ : L2.St} {H : Hp} {s : Shared}
theorem run2 {k : Nat} {f : Addr} {fd : FuncData} {ps : List Str} {sp : Sp} {us : List Value} {vs : List V} {Q : VK} (F : FnOk X.prog X.w X.K X.mg X.base CX0 k f fd ps sp) (hr : Room k X.A.in1.in1) (hb : Binds X.K fd ps []) (I : Inv X pins σ H s) (r : Vals vs us) (h : sp vs H Q E0) :
    wpAny (model X.prog X.w) X.A.in1.in1 (call (.ref f) us) (EP X pins σ Q) (fun _ _ => False) s := by
  have hl : us.length = ps.length := r.length.symm.trans (F.len _ _ _ _ h)
  have hb' := hb s us I.kIn (by rw [List.append_nil]; exact hl)
  rw [List.append_nil] at hb'
  refine wpAny_call (codeAny_mono (F.run X.A.in1.in1 X.stack s H ⟨us, []⟩ us vs Q E0 hr I.env0.in1.in1 hb' r h) fun r s' hq => ?_)
  match r, hq with
  | .error e, hq => exact hq.elim
  | .ok (.ret u), hq => exact I.after hq
  | .ok .next, hq => exact hq.elim
  | .ok .brk, hq => exact hq.elim
  | .ok .cont, hq => exact hq.elim
def hdV : Tm → List V
  | .var k => [.int 0, .int k]
  | .int i => [.int 1, .int i]
  | .atom s => [.int 2, .str s]
  | .comp f as => [.int 3, .int (as.length : Int), .str f]
def HdAt (K : PySem.W.Frag) (H : Hp) (w : V) (t : Tm) : Prop := ∃ q, w = .ref q ∧ SqT K H q (hdV t)
def KeyL (K : PySem.W.Frag) (H : Hp) (p : Addr) (ts : List Tm) : Prop := ∃ ws, H p = some (.lst ws) ∧ PySem.Paired (HdAt K H) ws ts
theorem KeyL.ex {K : PySem.W.Frag} {H H' : Hp} {p : Addr} {ts : List Tm} (h : KeyL K H p ts) (e : Ex H H') : KeyL K H' p ts := by
  obtain ⟨ws, h1, h2⟩ := h
  exact ⟨ws, e _ _ h1, Paired.mapP h2 fun w t ⟨q, a, b⟩ => ⟨q, a, Evl.ex_t e b⟩⟩
theorem KeyL.put {K : PySem.W.Frag} {H : Hp} {p l : Addr} {xs : List V} {o : HO} {ts : List Tm} (h : KeyL K H p ts) (hl : H l = some (.lst xs)) (n : p ≠ l) : KeyL K (upd H l o) p ts := by
  obtain ⟨ws, h1, h2⟩ := h
  exact ⟨ws, by rw [upd_ne n]; exact h1, Paired.mapP h2 fun w t ⟨q, a, b⟩ => ⟨q, a, Tups.lst hl _ _ b⟩⟩
theorem dp_hd {K : PySem.W.Frag} {H : Hp} {w : V} {t : Tm} (h : HdAt K H w t) : Dp K H w (hdD t) := by
  obtain ⟨q, rfl, h⟩ := h
  cases t with
  | var k => exact .tup h (.cons (.int 0) (.cons (.int k) .nil))
  | int k => exact .tup h (.cons (.int 1) (.cons (.int k) .nil))
  | atom k => exact .tup h (.cons (.int 2) (.cons (.str k) .nil))
  | comp f as => exact .tup h (.cons (.int 3) (.cons (.int _) (.cons (.str f) .nil)))
theorem dp_hds {K : PySem.W.Frag} {H : Hp} : ∀ {ws : List V} {ts : List Tm}, PySem.Paired (HdAt K H) ws ts → DpAll K H ws (ts.map hdD)
  | _, _, .nil => .nil
  | _, _, .cons h r => .cons (dp_hd h) (dp_hds r)
theorem KeyL.dp {K : PySem.W.Frag} {H : Hp} {p : Addr} {ts : List Tm} (h : KeyL K H p ts) : Dp K H (.ref p) (.list (ts.map hdD)) := by
  obtain ⟨ws, h1, h2⟩ := h
  exact .lst (SqL.of h1) (dp_hds h2)
/-- what a key is of: where it stands, the term's value in the hand layer and in the heap, the term -/
structure Ent where
  p : Addr
  v : V
  u : Value
  t : Tm
theorem perm_back {α β : Type} {f : α → β} {l m : List β} (h : l.Perm m) : ∀ Z : List α, m = Z.map f → ∃ Z' : List α, Z'.Perm Z ∧ l = Z'.map f := by
  induction h with
  | nil => exact fun Z e => ⟨Z, .refl _, e⟩
  | cons x _ ih =>
    intro Z e
    match Z, e with
    | z :: Z, e =>
      rw [List.map_cons] at e
      injection e with e1 e2
      obtain ⟨Z', h1, h2⟩ := ih Z e2
      exact ⟨z :: Z', h1.cons z, by rw [List.map_cons, e1, h2]⟩
    | [], e => cases e
  | swap x y l =>
    intro Z e
    match Z, e with
    | z :: z' :: Z, e =>
      rw [List.map_cons, List.map_cons] at e
      injection e with e1 e2
      injection e2 with e2 e3
      exact ⟨z' :: z :: Z, .swap _ _ _, by rw [List.map_cons, List.map_cons, e1, e2, e3]⟩
    | [z], e => simp at e
    | [], e => cases e
  | trans _ _ ih1 ih2 =>
    intro Z e
    obtain ⟨Z1, a1, b1⟩ := ih2 Z e
    obtain ⟨Z2, a2, b2⟩ := ih1 Z1 b1
    exact ⟨Z2, a2.trans a1, b2⟩
/-- the code of a key's value -/
def codeOf (Z : List Ent) : Value → List (List Int)
  | .ref p => match Z.find? (fun z => z.p == p) with
    | some z => kcode z.t
    | none => []
  | _ => []
theorem code_at {z : Ent} : ∀ {Z : List Ent}, (Z.map Ent.p).Nodup → z ∈ Z → codeOf Z (.ref z.p) = kcode z.t
  | [], _, h => by cases h
  | y :: Z, hn, h => by
    rw [List.map_cons, List.nodup_cons] at hn
    show (match List.find? (fun x : Ent => x.p == z.p) (y :: Z) with
      | some x => kcode x.t
      | none => []) = kcode z.t
    rw [List.find?_cons]
    rcases List.mem_cons.mp h with rfl | h
    · rw [beq_self_eq_true]
    · have ne : y.p ≠ z.p := fun e => hn.1 (by rw [e]; exact List.mem_map_of_mem h)
      rw [beq_false_of_ne ne]
      exact code_at hn.2 h
def ltK (Z : List Ent) (x y : Keyed) : Bool := decide (kC (codeOf Z x.1) (codeOf Z y.1) < 0)
theorem ltK_swo (Z : List Ent) : Swo (ltK Z) := by
  refine ⟨fun x y h => ?_, fun x y z h1 h2 => ?_⟩
  · have := of_decide_eq_true h
    have a := kC_ok.anti (codeOf Z x.1) (codeOf Z y.1)
    exact decide_eq_false (by omega)
  · have h1 := of_decide_eq_false h1
    have h2 := of_decide_eq_false h2
    have a1 := kC_ok.anti (codeOf Z x.1) (codeOf Z y.1)
    have a2 := kC_ok.anti (codeOf Z y.1) (codeOf Z z.1)
    have a3 := kC_ok.anti (codeOf Z x.1) (codeOf Z z.1)
    have t := kC_ok.tr _ _ _ (show kC (codeOf Z x.1) (codeOf Z y.1) ≤ 0 by omega) (show kC (codeOf Z y.1) (codeOf Z z.1) ≤ 0 by omega)
    exact decide_eq_false (by omega)
/-- an address that no one of this frame knows yet -/
structure Fre (X : Cx) (pins : List (Addr × Obj)) (L : Addr) : Prop where
  far : X.s_0.heap.objs.size ≤ L
  loc : L ≠ X.env.locals
  cel : ∀ x c, X.env.cells.lookup x = some c → c ≠ L
  pin : ∀ p ∈ X.pn ++ pins, p.1 ≠ L
  nfs : L ∉ X.fs
theorem Fre.of (I : Inv X pins σ H s) {L : Addr} (h : s.heap.objs.size ≤ L) : Fre X pins L := by
  have lt : ∀ b o, s.heap.get? b = some o → b ≠ L := fun b o e z => by
    subst z
    exact absurd (Heap.lt_size e) (Nat.not_lt.mpr h)
  refine ⟨Nat.le_trans I.sz h, fun z => ?_, fun x c e => ?_, fun p hp => lt _ _ (I.pin p hp).1, I.nofs h⟩
  · subst z
    exact absurd I.lt (Nat.not_lt.mpr h)
  · obtain ⟨v, o, ho, _⟩ := I.cell x c e
    exact lt _ _ ho
/-- such an object is changed, and is told in the hand layer from now on, or not -/
theorem adopt {L : Addr} {o : HO} {h' : Heap} (I : Inv X pins σ H s) (f : Fre X pins L) (hn : H L = none) (k : ∀ b u, b ≠ L → s.heap.get? b = some u → h'.get? b = some u) (new : ObjOk X.prog X.w (upd H L o) h' L o) : Inv X pins σ (upd H L o) { s with heap := h' } := by
  have ne : ∀ b u, H b = some u → b ≠ L := fun b u e z => by rw [z, hn] at e; cases e
  refine I.step (t' := s.toks) (g' := s.gens) (d' := s.drawn) (ch := [L]) (fun b hb => ?_) (fun b o _ _ hc e _ => k b o (fun z => hc (by simp [z])) e) (fun b o _ _ hc e _ => ⟨o.slots, k b o (fun z => hc (by simp [z])) e⟩) (fun b o hc e n => by rw [upd_ne (fun z => hc (by simp [z]))]; exact n)
    (fun b o hc e => ⟨o, k b o (fun z => hc (by simp [z])) e⟩) (fun b xs e => by rw [upd_ne (ne b _ e)]; exact e) (fun b o u e => by rw [upd_ne (ne b _ e)]; exact e) (fun b ps e => ⟨#[], by rw [upd_ne (ne b _ e), e]; simp⟩) (fun m hm => ?_) (fun b u e => ?_) I.bare
  · have e : b = L := by simpa using hb
    subst e
    exact ⟨.inr f.far, f.loc, f.cel, f.pin⟩
  · obtain ⟨o, es, ep, ho, r⟩ := hm
    exact ⟨o, es, ep, k _ o (Ne.symm f.loc) ho, r⟩
  · by_cases hb : b = L
    · subst hb
      rw [upd_same] at e
      cases e
      exact new
    · rw [upd_ne hb] at e
      refine (I.hok b u e).stay (fun c v hc q => k c v ?_ q) (fun c q => by rw [upd_ne (ne c _ q)]; exact q) fun c xs q => by rw [upd_ne (ne c _ q)]; exact q
      rcases hc with z | z
      · rw [z]; exact hb
      · exact ne c _ z
theorem touched {L : Addr} {h' : Heap} (I : Inv X pins σ H s) (f : Fre X pins L) (hn : H L = none) (k : ∀ b u, b ≠ L → s.heap.get? b = some u → h'.get? b = some u) : Inv X pins σ H { s with heap := h' } :=
  I.turned (t' := s.toks) (fun b o hb e => k b o hb e) hn f.loc (.inr f.far) f.cel f.pin
theorem pinned {L : Addr} {o : Obj} (I : Inv X pins σ H s) (f : Fre X pins L) (hn : H L = none) (h : s.heap.get? L = some o) (nc : ∀ v, o.data ≠ .cell v) : Inv X ((L, o) :: pins) σ H s :=
  I.pins_of fun p hp => by
    rcases List.mem_cons.mp hp with rfl | hp
    · exact ⟨h, hn, f.loc, f.nfs, nc⟩
    · exact I.pin p (List.mem_append_right _ hp)
theorem unpinned {L : Addr} {o : Obj} (I : Inv X ((L, o) :: pins) σ H s) : Inv X pins σ H s := I.pins_of fun p hp => I.pin p (List.mem_append_right _ (List.mem_cons_of_mem _ hp))
theorem vals_at : ∀ {xs : List V} {us : List Value}, Vals xs us → ∀ {j : Nat} {u : Value}, us[j]? = some u → ∃ x, xs[j]? = some x ∧ RelV x u
  | _, _, .nil, j, u, h => by simp at h
  | _, _, .cons h r, 0, u, e => ⟨_, rfl, by
      have := Option.some.inj e
      subst this
      exact h⟩
  | _, _, .cons h r, j + 1, u, e => vals_at r (by simpa using e)
theorem vals_refs : ∀ {Z : List Ent} {us : List Value}, Vals (Z.map fun z => V.ref z.p) us → us = Z.map fun z => Value.ref z.p
  | [], _, h => by cases h; rfl
  | z :: Z, _, h => by
    cases h with
    | cons h r =>
      rw [List.map_cons, ← vals_refs r]
      exact congrArg (· :: _) h
theorem zip_ents : ∀ Z : List Ent, (Z.map fun z => Value.ref z.p).zip (Z.map Ent.u) = Z.map fun z => (Value.ref z.p, z.u)
  | [] => rfl
  | z :: Z => by
    rw [List.map_cons, List.map_cons, List.map_cons, List.zip_cons_cons, zip_ents Z]
theorem vals_ents : ∀ {Z : List Ent}, (∀ z ∈ Z, RelV z.v z.u) → Vals (Z.map Ent.v) (Z.map Ent.u)
  | [], _ => .nil
  | z :: Z, h => .cons (h z List.mem_cons_self) (vals_ents fun y hy => h y (List.mem_cons_of_mem _ hy))
theorem reps_ents {K : PySem.W.Frag} : ∀ {Z : List Ent}, (∀ z ∈ Z, Rep K H z.t z.v) → Reps K H (Z.map Ent.t) (Z.map Ent.v)
  | [], _ => Reps.nil
  | z :: Z, h => Reps.cons (h z List.mem_cons_self) (reps_ents fun y hy => h y (List.mem_cons_of_mem _ hy))
def spKey (K : PySem.W.Frag) : Sp := fun vs H Q _ => ∃ v t, vs = [v] ∧ Rep K H t v ∧ Ok t ∧ size t ≤ 50000 ∧ ∀ p H', H p = none → Ex H H' → KeyL K H' p (pre t) → Q (.ref p) H'
def rSrt (K : PySem.W.Frag) (f : Addr) : List V → List V → Hp → VK → Prop := fun vs zs H Q => ∃ a xs ts, vs = [V.ref a] ∧ zs = [V.ref f] ∧ (SqL K H a xs ∨ SqT K H a xs) ∧ Reps K H ts xs ∧ Oks ts ∧ (∀ t ∈ ts, size t ≤ 50000) ∧ xs.length ≤ 1000 ∧
  ∀ p ys us H', H p = none → Ex H H' → H' p = some (.lst ys) → Reps K H' us ys → us.Perm ts → Rising us → Q (.ref p) H'
theorem cr_srt {k : Nat} {f : Addr} {fd : FuncData} {ps : List Str} (F : FnOk X.prog X.w X.K X.mg X.base CX0 k f fd ps (spKey X.K)) (hb : Binds X.K fd ps []) (hr : Room (k + 2) X.A) : CallRK X (.builtin "sorted") [Str.ofString "key"] (rSrt X.K f) := by
  intro pins s σ H vs zs us ws Q I r rz h
  obtain ⟨a, xs, ts, rfl, rfl, hS, hR, hO, hz0, hx, q⟩ := h
  have hz' : ∀ (t : Tm) {j : Nat}, ts[j]? = some t → size t ≤ 50000 := fun t j e => hz0 t (List.mem_of_getElem? e)
  obtain rfl := Vals.ref1 r
  obtain ⟨w1, rfl, e1⟩ := vals1 rz
  obtain rfl : w1 = Value.ref f := e1
  obtain ⟨its, rv, T, o, n, hT, ho, hc, hd⟩ : ∃ its, Vals xs its ∧ ∃ (T : String) (o : Obj) (n : Nat), (T = "list" ∨ T = "tuple") ∧ s.heap.get? a = some o ∧ o.cls = .type T ∧ o.data = .seq its.toArray n := by
    rcases hS with hS | hS
    · obtain ⟨its, rv, hl, _⟩ := I.list hS
      obtain ⟨o, ho, hc, n, hd⟩ := hl.isList
      exact ⟨its, rv, "list", o, n, .inl rfl, ho, hc, hd⟩
    · obtain ⟨its, rv, ⟨o, ho, hc, n, hd⟩, _⟩ := I.tuple hS
      exact ⟨its, rv, "tuple", o, n, .inr rfl, ho, hc, hd⟩
  have hlen : its.length ≤ 1000 := by rw [← rv.length]; exact hx
  have hsz : its.length ≤ sizeLine := Nat.le_trans hlen (by decide)
  refine call_function_entry_kw kind_sorted plain_sorted entry_sorted (ksk_s1 _ _) ?_
  unfold Builtin.«sorted»
  refine wpAny_bind (m := checkCount "sorted" 1 1 _) (wpAny_pure ?_)
  refine wpAny_bind (wpAny_collect_seq a hT ho hc hd (fun h1 k1 => ?_) (by rw [List.size_toArray]; exact hsz))
  have I1 : Inv X pins σ H { s with heap := h1 } := I.kept (t' := s.toks) k1
  rw [List.toList_toArray]
  refine wpAny_bind (wpAny_newList ?_ hsz)
  have fL : H h1.objs.size = none := I1.hok.fresh (Nat.le_refl _)
  have frL : Fre X pins h1.objs.size := Fre.of I1 (Nat.le_refl _)
  have hoL : (h1.push (seqObj "list" its.toArray 0)).get? h1.objs.size = some (seqObj "list" its.toArray 0) := Heap.get?_push_size _ rfl
  have I2 : Inv X pins σ H { s with heap := h1.push (seqObj "list" its.toArray 0) } := I1.kept (t' := s.toks) fun b u e => Heap.get?_push_of_some _ e
  generalize h1.objs.size = L at *
  refine wpAny_bind (wpAny_holding (wpAny_call_entry_kw slot_list_sort ⟨_, hoL, rfl⟩ entry_list_sort ?body (ksk_l1 _ _)))
  case body =>
    show wpAny (model X.prog X.w) X.A.in1.in1 (Builtin.«list.sort» ⟨[.ref L], [(Str.ofString "key", .ref f)]⟩) _ _ _
    rw [ksk_t1]
    unfold ksk_tree
    refine wpAny_bind (listItems_at hoL rfl ?_)
    refine wpAny_bind (listUpdate_at hoL rfl ?_ (by rw [List.size_toArray]; exact hsz) (Nat.zero_le _))
    obtain ⟨e1, ho1⟩ : ∃ e1, ((h1.push (seqObj "list" its.toArray 0)).update L (Obj.mapSeq fun _ => (#[] : Array Value))).get? L = some (seqObj "list" #[] e1) := ⟨_, get?_update_seq hoL fun _ => #[]⟩
    have I3 : Inv X pins σ H { s with heap := (h1.push (seqObj "list" its.toArray 0)).update L (Obj.mapSeq fun _ => (#[] : Array Value)) }     := touched (s := { s with heap := h1.push (seqObj "list" its.toArray 0) }) I2 frL fL fun b u hb hu => (Heap.get?_update_ne _ _ _ _ hb).trans hu
    refine wpAny_bind (seqEpoch_at ho1 rfl ?_)
    generalize (h1.push (seqObj "list" its.toArray 0)).update L (Obj.mapSeq fun _ => (#[] : Array Value)) = h3 at *
    refine wpAny_bind (wpAny_newTuple ?_ (by rw [List.toList_toArray]; exact hsz))
    refine wpAny_bind (wpAny_newList ?_ (Nat.zero_le _))
    refine wpAny_holding ?_
    rw [List.toList_toArray]
    have I4 : Inv X pins σ H { s with heap := h3.push (seqObj "tuple" its.toArray 0) } := I3.kept (t' := s.toks) fun b u e => Heap.get?_push_of_some _ e
    have ho4 : (h3.push (seqObj "tuple" its.toArray 0)).get? L = some (seqObj "list" #[] e1) := Heap.get?_push_of_some _ ho1
    generalize hh4 : h3.push (seqObj "tuple" its.toArray 0) = h4 at *
    have I4 := pinned I4 frL fL ho4 (fun v z => by cases z)
    have fK : H h4.objs.size = none := I4.hok.fresh (Nat.le_refl _)
    have hoK : (h4.push (seqObj "list" #[] 0)).get? h4.objs.size = some (seqObj "list" #[] 0) := Heap.get?_push_size _ rfl
    have I5 : Inv X ((L, seqObj "list" #[] e1) :: pins) σ (upd H h4.objs.size (.lst [])) { s with heap := h4.push (seqObj "list" #[] 0) } := I4.laid (t' := s.toks) (fun b u e => Heap.get?_push_of_some _ e) (Nat.le_refl _) ⟨Nat.zero_le _, [], 0, .nil, hoK⟩
    have hLK : L ≠ h4.objs.size := Nat.ne_of_lt (Heap.lt_size ho4)
    generalize h4.objs.size = kS at *
    unfold ksk_rest
    refine wpAny_bind (wpAny_rule ?_)
    rw [List.forIn_toArray]
    refine wpAny_bind (ksk_fold (fun j s' => ∃ (H' : Hp) (Z : List Ent), Inv X ((L, seqObj "list" #[] e1) :: pins) σ H' s' ∧ Ex H H' ∧ H' kS = some (.lst (Z.map fun z => V.ref z.p)) ∧ Z.map Ent.t = ts.take j ∧ Z.map Ent.u = its.take j ∧ (Z.map Ent.p).Nodup ∧ ∀ z ∈ Z, z.p ≠ kS ∧ KeyL X.K H' z.p (pre z.t) ∧ Rep X.K H z.t z.v ∧ RelV z.v z.u) its 0 _ ?init ?step ?done)
    case init =>
      exact ⟨_, [], I5, Ex.new fK, upd_same, rfl, rfl, List.nodup_nil, fun z hz => by cases hz⟩
    case step =>
      rintro j u s' hju ⟨H', Z, I', eH, hK', zt, zu, nd, hz⟩
      simp only [Nat.zero_add] at zt zu ⊢
      obtain ⟨x, hxj, hxu⟩ := vals_at rv hju
      obtain ⟨t, htj, hrt⟩ := hR.get hxj
      refine wpAny_bind (wpAny_attempt (wpAny_mono (run2 (Q := fun v H2 => ∃ p, v = .ref p ∧ H' p = none ∧ Ex H' H2 ∧ KeyL X.K H2 p (pre t)) F (hr.in1.in1) hb I' (.cons hxu .nil) ⟨x, t, rfl, hrt.mono (Tups.of eH), oks_get hO htj, hz' t htj, fun p H2 hp e2 hk => ⟨p, rfl, hp, e2, hk⟩⟩) (fun kv s2 he => ?_) fun _ _ hF => hF.elim))
      obtain ⟨v, H2, I6, rkv, p, rfl, hp, e2, hky⟩ := he
      have hK2 := e2 _ _ hK'
      have zlen : Z.length = j := by
        have := congrArg List.length zu
        rw [List.length_map, List.length_take] at this
        have hj : j < its.length := (List.getElem?_eq_some_iff.mp hju).1
        omega
      have hj : j < its.length := (List.getElem?_eq_some_iff.mp hju).1
      obtain ⟨hz2, kis, kn, kv2, hgK⟩ := I6.hok _ _ hK2
      obtain ⟨c2, hc2⟩ : ∃ c2, (s2.heap.update kS (Obj.mapSeq (·.push kv))).get? kS = some (seqObj "list" (kis.toArray.push kv) c2) := ⟨_, get?_update_seq hgK (·.push kv)⟩
      have kl : kis.length = j := by
        rw [← kv2.length, List.length_map, zlen]
      have e3 : kis.toArray.push kv = (kis ++ [kv]).toArray := by simp
      rw [e3] at hc2
      refine wpAny_bind (listUpdate_at hgK rfl ?_ (by rw [List.size_toArray, kl]; omega) (by rw [Array.size_push, List.size_toArray, kl]; omega))
      have hpK : p ≠ kS := (ne_of_none hK' hp).symm
      have I7 : Inv X ((L, seqObj "list" #[] e1) :: pins) σ (upd H2 kS (.lst ((Z ++ [(⟨p, x, u, t⟩ : Ent)]).map fun z => V.ref z.p))) { s2 with heap := s2.heap.update kS (Obj.mapSeq (·.push kv)) } :=
        I6.write (e := kS) (t' := s2.toks) (by rw [hK2]; trivial) (.inl rfl) (fun b u hb hu => (Heap.get?_update_ne _ _ _ _ hb).trans hu) ⟨_, hc2⟩ ⟨by rw [List.length_map, List.length_append, zlen]; show j + 1 ≤ _; omega, kis ++ [kv], c2, by rw [List.map_append]; exact kv2.append (.cons rkv .nil), hc2⟩
      refine wpAny_pure ⟨rfl, _, Z ++ [⟨p, x, u, t⟩], I7, Ex.mut (eH.trans e2) fK, upd_same, ?_, ?_, ?_, fun z hm => ?_⟩
      · rw [List.map_append, zt, List.take_add_one, htj]
        rfl
      · rw [List.map_append, zu, List.take_add_one, hju]
        rfl
      · rw [List.map_append, List.nodup_append]
        refine ⟨nd, by simp, fun y hy z hzz e => ?_⟩
        simp only [List.map_cons, List.map_nil, List.mem_singleton] at hzz
        subst hzz
        subst e
        obtain ⟨y, hy1, hy2⟩ := List.mem_map.mp hy
        obtain ⟨_, ⟨ws, hk, _⟩, _⟩ := hz y hy1
        rw [hy2, hp] at hk
        cases hk
      · rcases List.mem_append.mp hm with hm | hm
        · obtain ⟨a1, a3, a4, a5⟩ := hz z hm
          exact ⟨a1, (a3.ex e2).put hK2 a1, a4, a5⟩
        · have := List.mem_singleton.mp hm
          subst this
          exact ⟨hpK, hky.put hK2 hpK, hrt, hxu⟩
    case done =>
      rintro s' ⟨H', Z, I', eH, hK', zt, zu, nd, hz⟩
      simp only [Nat.zero_add] at zt zu
      have lts : ts.length = its.length := by rw [hR.len, rv.length]
      rw [List.take_of_length_le (by omega)] at zt zu
      obtain ⟨hz2, kis, kn, kv2, hgK⟩ := I'.hok _ _ hK'
      have ek := vals_refs kv2
      have lK : kis.length = its.length := by rw [ek, ← zu, List.length_map, List.length_map]
      obtain ⟨hgL, nL, _⟩ := I'.pin (L, seqObj "list" #[] e1) (List.mem_append_right _ List.mem_cons_self)
      have ez : (kis.toArray.zip its.toArray).toList = Z.map fun z => (Value.ref z.p, z.u) := by
        rw [ksk_zip, List.toList_toArray, ek, ← zu, zip_ents]
      have rd : ∀ z ∈ Z, ∃ as, Reads s'.heap (.ref z.p) (.list ((pre z.t).map hdD)) as := fun z hm => Dp.reads I' _ _ _ (hz z hm).2.1.dp rfl
      have okz : ∀ z ∈ Z, Ok z.t := fun z hm => by
        have : z.t ∈ ts := by rw [← zt]; exact List.mem_map_of_mem hm
        obtain ⟨i, hi, e⟩ := List.getElem_of_mem this
        exact oks_get hO (by rw [List.getElem?_eq_getElem hi, e])
      refine wpAny_bind (listItems_at hgK rfl ?_)
      refine srt_end (P := fun p => ∃ z ∈ Z, p.1 = .ref z.p) (lt := ltK Z) (ltK_swo Z) hLK.symm (by rw [List.size_toArray]; exact hsz) (by rw [List.size_toArray, List.size_toArray, lK]) hgK hgL (fun _ => ?_) (fun p hp => ?_) (fun v hv => ?_) fun out h1 h2 => ?_
      · rintro x y ⟨z, z1, z2⟩ ⟨z', z1', z2'⟩
        show wpAny _ _ (keyLt' oneType' x.1 y.1) (fun r s'' => s'' = s' ∧ r = ltK Z x y) _ s'
        have el : ltK Z x y = decide (kC (kcode z.t) (kcode z'.t) < 0) := by
          unfold ltK
          rw [z2, z2', code_at nd z1, code_at nd z1']
        rw [z2, z2', keyLt'_oneType, oneLt'_eq, el]
        simp only [if_true]
        obtain ⟨as, r1⟩ := rd z z1
        obtain ⟨bs, r2⟩ := rd z' z1'
        have un := hr.un
        have du : X.A.in1.in1.units = X.A.units + 2 := rfl
        cases r1 with
        | @list p1 o1 vs1 n1 _ as1 a1 a2 a3 a4 =>
          cases r2 with
          | @list p2 o2 vs2 n2 _ as2 b1 b2 b3 b4 =>
            refine wpAny_bind (wpAny_cRoomFor (by rw [du]; omega) ?_)
            refine wpAny_bind (wpAny_callSpecialIfBound?_slot (T := "list") ⟨_, a1, a2⟩ PySem.F.slot_list_lt (call_lst ⟨o1, a1, a2, n1, a3⟩ ⟨o2, b1, b2, n2, b3⟩ (heads_dec (A := X.A.in1.in1.in1) (by show X.A.units + 3 + 2 < _; omega) _ _ _ _ _ _ (ok_pre (okz z z1)) (ok_pre (okz z' z1')) a4 b4) ?_))
            exact wpAny_truthy_bool ⟨rfl, rfl⟩
      · rw [ez] at hp
        obtain ⟨z, hm, e⟩ := List.mem_map.mp hp
        exact ⟨z, hm, by rw [← e]⟩
      · rw [List.toList_toArray, ek] at hv
        obtain ⟨z, hm, e⟩ := List.mem_map.mp hv
        obtain ⟨as, r1⟩ := rd z hm
        rw [← e]
        exact looks_reads r1
      · rw [ez] at h2
        obtain ⟨Z', pZ, eZ⟩ := perm_back h2.perm Z rfl
        have hz3 : ∀ z ∈ Z', z ∈ Z := fun z hm => pZ.mem_iff.mp hm
        have eo : (out.map (·.2)) = Z'.map Ent.u := by rw [eZ, List.map_map]; rfl
        have lZ : Z'.length = its.length := by rw [pZ.length_eq, ← zu, List.length_map]
        obtain ⟨c2, hc2⟩ : ∃ c2, (s'.heap.update kS (Obj.mapSeq fun _ => (#[] : Array Value))).get? kS = some (seqObj "list" #[] c2) := ⟨_, get?_update_seq hgK fun _ => #[]⟩
        have I8 : Inv X pins σ (upd H' kS (.lst [])) { s' with heap := s'.heap.update kS (Obj.mapSeq fun _ => (#[] : Array Value)) } :=
          (unpinned I').write (e := kS) (t' := s'.toks) (by rw [hK']; trivial) (.inl rfl) (fun b u hb hu => (Heap.get?_update_ne _ _ _ _ hb).trans hu) ⟨_, hc2⟩ ⟨Nat.zero_le _, [], c2, .nil, hc2⟩
        have hgL8 : (s'.heap.update kS (Obj.mapSeq fun _ => (#[] : Array Value))).get? L = some (seqObj "list" #[] e1) := (Heap.get?_update_ne _ _ _ _ hLK).trans hgL
        have nL8 : upd H' kS (.lst []) L = none := by rw [upd_ne hLK]; exact nL
        obtain ⟨c3, hc3⟩ : ∃ c3, ((s'.heap.update kS (Obj.mapSeq fun _ => (#[] : Array Value))).update L (Obj.mapSeq fun _ => (out.map (·.2)).toArray)).get? L = some (seqObj "list" (out.map (·.2)).toArray c3) := ⟨_, get?_update_seq hgL8 fun _ => (out.map (·.2)).toArray⟩
        have I9 : Inv X pins σ (upd (upd H' kS (.lst [])) L (.lst (Z'.map Ent.v))) { s' with heap := (s'.heap.update kS (Obj.mapSeq fun _ => (#[] : Array Value))).update L (Obj.mapSeq fun _ => (out.map (·.2)).toArray) } :=
          adopt (s := { s' with heap := s'.heap.update kS (Obj.mapSeq fun _ => (#[] : Array Value)) }) I8 frL nL8 (fun b u hb hu => (Heap.get?_update_ne _ _ _ _ hb).trans hu) ⟨by rw [List.length_map, lZ]; exact hsz, out.map (·.2), c3, by rw [eo]; exact vals_ents fun z hm => (hz z (hz3 z hm)).2.2.2, hc3⟩
        have eH9 : Ex H (upd (upd H' kS (.lst [])) L (.lst (Z'.map Ent.v))) := Ex.mut (Ex.mut eH fK) fL
        refine ⟨_, rfl, wpAny_pure ⟨_, rfl, .ref L, _, I9, rfl, q L _ (Z'.map Ent.t) _ fL eH9 upd_same (reps_ents fun z hm => (hz z (hz3 z hm)).2.2.1.mono (Tups.of eH9)) (by rw [← zt]; exact pZ.map _) ?_⟩⟩
        have h1' := h1
        unfold Srtd at h1'
        rw [eZ, List.pairwise_map] at h1'
        refine List.pairwise_map.mpr (h1'.imp_of_mem fun {x y} hx hy g => ?_)
        unfold ltK at g
        have g2 := of_decide_eq_false g
        rw [code_at nd (hz3 y hy), code_at nd (hz3 x hx), ord_key] at g2
        have g3 := tord_ok.anti x.t y.t
        omega
end
end Hm

set_option Elab.async false
set_option linter.all false
set_option maxRecDepth 100000
set_option maxHeartbeats 1000000
namespace Hm
open PySem PySem.Spec PyProof.Rows L2 HT
open Evl (Ex)
/-! ## terms as data -/
mutual
def toD : Tm → PyData
  | .var k => .tuple [.int k]
  | .int i => .int i
  | .atom s => .str s
  | .comp f as => .tuple (.str f :: toDs as)
def toDs : List Tm → List PyData
  | [] => []
  | t :: ts => toD t :: toDs ts
end
section
variable {K : PySem.W.Frag} {H : Hp}
mutual
theorem dp_rep : ∀ {t : Tm} {v : V}, Rep K H t v → Dp K H v (toD t)
  | .var k, v, h => by
    unfold Rep at h
    obtain ⟨a, rfl, hT⟩ := h
    exact .tup hT (.cons (.int k) .nil)
  | .int i, v, h => by
    unfold Rep at h
    subst h
    exact .int i
  | .atom s, v, h => by
    unfold Rep at h
    subst h
    exact .str s
  | .comp f as, v, h => by
    unfold Rep at h
    obtain ⟨a, vs, rfl, hT, hA⟩ := h
    exact .tup hT (.cons (.str f) (dp_reps hA))
theorem dp_reps : ∀ {ts : List Tm} {vs : List V}, Reps K H ts vs → DpAll K H vs (toDs ts)
  | [], vs, h => by
    rw [h.nil_inv]
    exact .nil
  | t :: ts, vs, h => by
    obtain ⟨v, ws, rfl, h1, h2⟩ := h.cons_inv
    exact .cons (dp_rep h1) (dp_reps h2)
end
theorem dp_ints {p : Addr} {ns : List Int} (h : SqL K H p (ns.map V.int)) : Dp K H (.ref p) (.list (ns.map PyData.int)) := by
  refine .lst h ?_
  induction ns with
  | nil => exact .nil
  | cons n ns ih => exact .cons (.int n) (ih' ns)
where ih' : ∀ ns : List Int, DpAll K H (ns.map V.int) (ns.map PyData.int)
  | [] => .nil
  | n :: ns => .cons (.int n) (ih' ns)
end
theorem lay_ints : ∀ ns : List Int, PyData.canLayAll0 (ns.map PyData.int) = true
  | [] => rfl
  | n :: ns => by
    show (PyData.canLay0 (.int n) && PyData.canLayAll0 (ns.map PyData.int)) = true
    rw [lay_ints ns]
    rfl
theorem dep_ints : ∀ ns : List Int, PyData.depthAll (ns.map PyData.int) = 0
  | [] => rfl
  | n :: ns => by
    show max (PyData.depth (.int n)) (PyData.depthAll (ns.map PyData.int)) = 0
    rw [dep_ints ns]
    rfl
theorem shaped_ints (ns : List Int) : SeqAt.shaped (.list (ns.map PyData.int)) = true := by
  show (PyData.canLayAll0 (ns.map PyData.int) && decide (PyData.depthAll (ns.map PyData.int) + 1 ≤ 64)) = true
  rw [lay_ints, dep_ints]
  rfl
theorem eqv_ints (ns : List Int) : PyData.eqv (.list (ns.map PyData.int)) (.list (ns.map PyData.int)) = true := SeqAt.eqv_refl _ (lay_ints ns)
theorem strOk_of {s : Str} (h : AtomOk s) : (PyData.str s).canLay0 = true := by
  show (s.cps.all fun c => decide (c < 0x110000)) = true
  rw [← Array.all_toList, List.all_eq_true]
  intro c hc
  have := h.2 c hc
  exact decide_eq_true (by omega)
mutual
theorem lay_tm : ∀ {t : Tm}, Ok t → (toD t).canLay0 = true
  | .var k, _ => rfl
  | .int i, _ => rfl
  | .atom s, h => by
    unfold Ok at h
    exact strOk_of h
  | .comp f as, h => by
    unfold Ok at h
    unfold toD
    show ((PyData.str f).canLay0 && PyData.canLayAll0 (toDs as)) = true
    rw [strOk_of h.1, lay_tms h.2.2.2]
    rfl
theorem lay_tms : ∀ {ts : List Tm}, Oks ts → PyData.canLayAll0 (toDs ts) = true
  | [], _ => rfl
  | t :: ts, h => by
    rw [oks_cons] at h
    unfold toDs
    show ((toD t).canLay0 && PyData.canLayAll0 (toDs ts)) = true
    rw [lay_tm h.1, lay_tms h.2]
    rfl
end
mutual
theorem dep_tm : ∀ t : Tm, (toD t).depth ≤ depth t
  | .var k => by
    show max (PyData.depth (.int k)) (PyData.depthAll []) + 1 ≤ 1
    exact Nat.le_refl _
  | .int i => Nat.zero_le _
  | .atom s => Nat.zero_le _
  | .comp f as => by
    unfold toD depth
    have := dep_tms as
    show max (PyData.depth (.str f)) (PyData.depthAll (toDs as)) + 1 ≤ _
    have e : PyData.depth (.str f) = 0 := rfl
    omega
theorem dep_tms : ∀ ts : List Tm, PyData.depthAll (toDs ts) ≤ depths ts
  | [] => Nat.zero_le _
  | t :: ts => by
    unfold toDs
    rw [depths_cons]
    have h1 := dep_tm t
    have h2 := dep_tms ts
    show max (toD t).depth (PyData.depthAll (toDs ts)) ≤ _
    omega
end
theorem shaped_tm {t : Tm} (h : Ok t) (hd : depth t ≤ 64) : SeqAt.shaped (toD t) = true := by
  show ((toD t).canLay0 && decide ((toD t).depth ≤ 64)) = true
  rw [lay_tm h, decide_eq_true (Nat.le_trans (dep_tm t) hd)]
  rfl
theorem eqv_tm {t : Tm} (h : Ok t) : PyData.eqv (toD t) (toD t) = true := SeqAt.eqv_refl _ (lay_tm h)
mutual
theorem eqv_toD : ∀ s t : Tm, PyData.eqv (toD s) (toD t) = decide (tord s t = 0)
  | .var i, .var j => by
    show ((i == j : Bool) && true) = decide (hC [0, i] [0, j] = 0)
    rw [hC_two, intC_beq, Bool.and_true]
  | .int i, .int j => by
    show (i == j : Bool) = decide (hC [1, i] [1, j] = 0)
    rw [hC_two, intC_beq]
  | .atom i, .atom j => by
    show (i == j : Bool) = decide (hC (2 :: cpsI i) (2 :: cpsI j) = 0)
    rw [hC_str, sC_beq]
  | .comp f as, .comp g bs => by
    rw [tord]
    unfold toD
    show ((f == g : Bool) && PyData.eqvAll (toDs as) (toDs bs)) = _
    rw [eqv_toDs as bs, sC_beq]
    by_cases e1 : intC (as.length : Int) (bs.length : Int) = 0
    · have := intC_ok.eq _ _ e1
      rw [if_pos e1, decide_eq_true (show as.length = bs.length by omega), Bool.true_and]
      by_cases e2 : sC f g = 0
      · rw [if_pos e2, decide_eq_true e2, Bool.true_and]
      · rw [if_neg e2, decide_eq_false e2, Bool.false_and]
    · have hl : ¬ as.length = bs.length := fun z => e1 (by rw [z]; exact intC_ok.refl _)
      rw [if_neg e1, decide_eq_false e1, decide_eq_false hl, Bool.false_and, Bool.and_false]
  | .var i, .int j => by rw [decide_eq_false (show tord (.var i) (.int j) ≠ 0 from hC_rank (by simp [rank]))]; rfl
  | .var i, .atom j => by rw [decide_eq_false (show tord (.var i) (.atom j) ≠ 0 from hC_rank (by simp [rank]))]; rfl
  | .var i, .comp g bs => by
    rw [decide_eq_false (show tord (.var i) (.comp g bs) ≠ 0 from hC_rank (by simp [rank]))]
    unfold toD
    rfl
  | .int i, .var j => by rw [decide_eq_false (show tord (.int i) (.var j) ≠ 0 from hC_rank (by simp [rank]))]; rfl
  | .int i, .atom j => by rw [decide_eq_false (show tord (.int i) (.atom j) ≠ 0 from hC_rank (by simp [rank]))]; rfl
  | .int i, .comp g bs => by
    rw [decide_eq_false (show tord (.int i) (.comp g bs) ≠ 0 from hC_rank (by simp [rank]))]
    unfold toD
    rfl
  | .atom i, .var j => by rw [decide_eq_false (show tord (.atom i) (.var j) ≠ 0 from hC_rank (by simp [rank]))]; rfl
  | .atom i, .int j => by rw [decide_eq_false (show tord (.atom i) (.int j) ≠ 0 from hC_rank (by simp [rank]))]; rfl
  | .atom i, .comp g bs => by
    rw [decide_eq_false (show tord (.atom i) (.comp g bs) ≠ 0 from hC_rank (by simp [rank]))]
    unfold toD
    rfl
  | .comp g bs, .var j => by
    rw [decide_eq_false (show tord (.comp g bs) (.var j) ≠ 0 from hC_rank (by simp [rank]))]
    unfold toD
    rfl
  | .comp g bs, .int j => by
    rw [decide_eq_false (show tord (.comp g bs) (.int j) ≠ 0 from hC_rank (by simp [rank]))]
    unfold toD
    rfl
  | .comp g bs, .atom j => by
    rw [decide_eq_false (show tord (.comp g bs) (.atom j) ≠ 0 from hC_rank (by simp [rank]))]
    unfold toD
    rfl
theorem eqv_toDs : ∀ as bs : List Tm, PyData.eqvAll (toDs as) (toDs bs) = (decide (as.length = bs.length) && decide (tords as bs = 0))
  | [], [] => by simp [toDs, PyData.eqvAll, tords]
  | [], b :: bs => by simp [toDs, PyData.eqvAll]
  | a :: as, [] => by simp [toDs, PyData.eqvAll]
  | a :: as, b :: bs => by
    unfold toDs
    show (PyData.eqv (toD a) (toD b) && PyData.eqvAll (toDs as) (toDs bs)) = _
    rw [eqv_toD a b, eqv_toDs as bs, tords]
    have e : decide ((a :: as).length = (b :: bs).length) = decide (as.length = bs.length) := by simp
    rw [e]
    by_cases z : tord a b = 0
    · rw [if_pos z, decide_eq_true z, Bool.true_and]
    · rw [if_neg z, decide_eq_false z, Bool.false_and, Bool.and_false]
end
theorem tord_rank {s t : Tm} (h : rank s ≠ rank t) : tord s t = intC (rank s) (rank t) := by
  obtain ⟨x, e1⟩ := hcode_row s
  obtain ⟨y, e2⟩ := hcode_row t
  have e : tord s t = hC (hcode s) (hcode t) := by
    cases s <;> cases t <;> first | rfl | exact absurd rfl h
  rw [e, e1, e2, hC_tag' h]
theorem tord_var (i j : Int) : tord (.var i) (.var j) = intC i j := hC_two 0 i j
theorem tord_int (i j : Int) : tord (.int i) (.int j) = intC i j := hC_two 1 i j
theorem tord_atom (a b : Str) : tord (.atom a) (.atom b) = sC a b := hC_str a b
end Hm

set_option Elab.async false
set_option linter.all false
set_option maxRecDepth 100000
set_option maxHeartbeats 1000000
namespace Hm
open PySem PySem.Spec PyProof.Rows L2 HT
open Evl (Ex)
/-! ## objects of all sorts, by what is_term asks of them -/
inductive Od where
  | non
  | bl (b : Bool)
  | int (i : Int)
  | str (s : Str)
  | lst
  | dic
  | tup (ds : List Od)
mutual
def sizeD : Od → Nat
  | .non => 1
  | .bl _ => 1
  | .int _ => 1
  | .str s => 1 + s.length
  | .lst => 1
  | .dic => 1
  | .tup ds => 1 + sizesD ds
def sizesD : List Od → Nat
  | [] => 0
  | d :: ds => sizeD d + sizesD ds
end
mutual
inductive OdAt (K : PySem.W.Frag) (H : Hp) : V → Od → Prop
  | non : OdAt K H .non .non
  | bl (b : Bool) : OdAt K H (.bl b) (.bl b)
  | int (i : Int) : OdAt K H (.int i) (.int i)
  | str (s : Str) : OdAt K H (.str s) (.str s)
  | lst {a : Addr} {xs : List V} : SqL K H a xs → OdAt K H (.ref a) .lst
  | dic {a : Addr} {kvs : List (Key × V)} : H a = some (.dK kvs) → OdAt K H (.ref a) .dic
  | tup {a : Addr} {xs : List V} {ds : List Od} : SqT K H a xs → OdAll K H xs ds → OdAt K H (.ref a) (.tup ds)
inductive OdAll (K : PySem.W.Frag) (H : Hp) : List V → List Od → Prop
  | nil : OdAll K H [] []
  | cons {v : V} {vs : List V} {d : Od} {ds : List Od} : OdAt K H v d → OdAll K H vs ds → OdAll K H (v :: vs) (d :: ds)
end
def signOk (c : Nat) : Bool := decide (32 ≤ c ∧ c ≤ 126 ∧ c ≠ 37)
def atomD : Od → Bool
  | .str s => decide (s.length ≤ 40) && s.cps.toList.all signOk
  | _ => false
def intD : Od → Bool
  | .int _ => true
  | _ => false
def numD : Od → Bool
  | .int i => decide (0 ≤ i)
  | _ => false
def partD : Od → Bool
  | .int i => decide (-tooGreat < i) && decide (i < tooGreat)
  | .tup ds => match ds with
    | [] => false
    | [x] => numD x
    | x :: y :: r => decide (r.length ≤ 7) && atomD x
  | d => atomD d
def argsD : Od → List Od
  | .tup (_ :: ds) => ds
  | _ => []
mutual
def isT : Od → Bool
  | .non => false
  | .bl _ => false
  | .int i => decide (-tooGreat < i) && decide (i < tooGreat)
  | .str s => atomD (.str s)
  | .lst => false
  | .dic => false
  | .tup ds => partD (.tup ds) && isTq true ds
/-- all of them, or all but the first -/
def isTq : Bool → List Od → Bool
  | _, [] => true
  | true, _ :: ds => isTq false ds
  | false, d :: ds => isT d && isTq false ds
end
abbrev isTs (ds : List Od) : Bool := isTq false ds
theorem isTs_nil : isTs [] = true := rfl
theorem isTs_cons (d : Od) (ds : List Od) : isTs (d :: ds) = (isT d && isTs ds) := rfl
theorem isT_eq : ∀ d : Od, isT d = (partD d && isTs (argsD d))
  | .tup [] => rfl
  | .tup (x :: ds) => rfl
  | .non => rfl
  | .bl b => rfl
  | .int b => (Bool.and_true _).symm
  | .str b => (Bool.and_true _).symm
  | .lst => rfl
  | .dic => rfl
theorem isTs_app : ∀ xs ys : List Od, isTs (xs ++ ys) = (isTs xs && isTs ys)
  | [], ys => by rw [isTs_nil, Bool.true_and]; rfl
  | x :: xs, ys => by
    show isTs (x :: (xs ++ ys)) = _
    rw [isTs_cons, isTs_cons, isTs_app xs ys, Bool.and_assoc]
theorem sizesD_app : ∀ xs ys : List Od, sizesD (xs ++ ys) = sizesD xs + sizesD ys
  | [], ys => by rw [sizesD, Nat.zero_add]; rfl
  | x :: xs, ys => by
    show sizesD (x :: (xs ++ ys)) = _
    rw [sizesD, sizesD, sizesD_app xs ys, Nat.add_assoc]
theorem sizeD_pos : ∀ d : Od, 1 ≤ sizeD d
  | .non => Nat.le_refl _
  | .bl _ => Nat.le_refl _
  | .int _ => Nat.le_refl _
  | .str _ => Nat.le_add_right _ _
  | .lst => Nat.le_refl _
  | .dic => Nat.le_refl _
  | .tup _ => Nat.le_add_right _ _
theorem sizeD_args : ∀ d : Od, 1 + sizesD (argsD d) ≤ sizeD d
  | .tup [] => by rw [sizeD]; exact Nat.le_refl _
  | .tup (x :: ds) => by
    rw [sizeD, sizesD]
    show 1 + sizesD ds ≤ _
    omega
  | .non => sizeD_pos _
  | .bl b => sizeD_pos _
  | .int b => sizeD_pos _
  | .str b => sizeD_pos _
  | .lst => sizeD_pos _
  | .dic => sizeD_pos _
theorem len_sizesD : ∀ ds : List Od, ds.length ≤ sizesD ds
  | [] => Nat.zero_le _
  | d :: ds => by
    have h1 := len_sizesD ds
    have h2 := sizeD_pos d
    rw [sizesD, List.length_cons]
    omega
section
variable {K : PySem.W.Frag} {H : Hp}
/-- what an object that changes may do: lists and dicts stay such -/
structure Kind (K : PySem.W.Frag) (H H' : Hp) : Prop where
  t : Tups K H H'
  l : ∀ a xs, SqL K H a xs → ∃ ys, SqL K H' a ys
  d : ∀ a kvs, H a = some (.dK kvs) → ∃ ls, H' a = some (.dK ls)
theorem Kind.of {H H' : Hp} (e : Ex H H') : Kind K H H' := ⟨Tups.of e, fun a xs h => ⟨xs, Evl.ex_l e h⟩, fun a kvs h => ⟨kvs, e _ _ h⟩⟩
theorem Kind.trans {H H1 H2 : Hp} (p : Kind K H H1) (q : Kind K H1 H2) : Kind K H H2 := ⟨p.t.trans q.t, fun a xs h => (p.l a xs h).elim fun ys z => q.l a ys z, fun a xs h => (p.d a xs h).elim fun ys z => q.d a ys z⟩
theorem Kind.lst {H : Hp} {a : Addr} {xs ys : List V} (h : H a = some (.lst xs)) : Kind K H (upd H a (.lst ys)) := ⟨Tups.lst h, fun b zs z => by
  by_cases e : b = a
  · subst e
    exact ⟨ys, SqL.of upd_same⟩
  · rcases z with (z | ⟨o, z⟩) | z
    · exact ⟨zs, .inl (.inl (by rw [upd_ne e]; exact z))⟩
    · exact ⟨zs, .inl (.inr ⟨o, by rw [upd_ne e]; exact z⟩)⟩
    · exact ⟨zs, .inr z⟩, fun b kvs z => by
  by_cases e : b = a
  · subst e
    rw [h] at z
    cases z
  · exact ⟨kvs, by rw [upd_ne e]; exact z⟩⟩
mutual
theorem OdAt.mono {H H' : Hp} (m : Kind K H H') : ∀ {v : V} {d : Od}, OdAt K H v d → OdAt K H' v d
  | _, _, .non => .non
  | _, _, .bl b => .bl b
  | _, _, .int i => .int i
  | _, _, .str s => .str s
  | _, _, .lst h => (m.l _ _ h).elim fun ys z => .lst z
  | _, _, .dic h => (m.d _ _ h).elim fun ys z => .dic z
  | _, _, .tup h r => .tup (m.t _ _ h) (OdAll.mono m r)
theorem OdAll.mono {H H' : Hp} (m : Kind K H H') : ∀ {vs : List V} {ds : List Od}, OdAll K H vs ds → OdAll K H' vs ds
  | _, _, .nil => .nil
  | _, _, .cons h r => .cons (h.mono m) (OdAll.mono m r)
end
theorem OdAll.len : ∀ {vs : List V} {ds : List Od}, OdAll K H vs ds → ds.length = vs.length
  | _, _, .nil => rfl
  | _, _, .cons _ r => by rw [List.length_cons, List.length_cons, OdAll.len r]
theorem OdAll.app : ∀ {vs ws : List V} {ds es : List Od}, OdAll K H vs ds → OdAll K H ws es → OdAll K H (vs ++ ws) (ds ++ es)
  | _, _, _, _, .nil, h => h
  | _, _, _, _, .cons a r, h => .cons a (OdAll.app r h)
theorem OdAll.last : ∀ {ds : List Od} {d : Od} {vs : List V}, OdAll K H vs (ds ++ [d]) → ∃ ws v, vs = ws ++ [v] ∧ OdAll K H ws ds ∧ OdAt K H v d
  | [], d, _, .cons h .nil => ⟨[], _, rfl, .nil, h⟩
  | x :: ds, d, _, .cons h r => by
    obtain ⟨ws, v, rfl, h1, h2⟩ := OdAll.last r
    exact ⟨_ :: ws, v, rfl, .cons h h1, h2⟩
/-- its type's name -/
def tyN : Od → String
  | .non => "NoneType"
  | .bl _ => "bool"
  | .int _ => "int"
  | .str _ => "str"
  | .lst => "list"
  | .dic => "dict"
  | .tup _ => "tuple"
theorem ty_od {v : V} {d : Od} (h : OdAt K H v d) : TyX K H v (.type (tyN d)) := by
  cases h with
  | non => exact .base .non
  | bl b => exact .base (.bl b)
  | int i => exact .base (.int i)
  | str s => exact .base (.str s)
  | lst h =>
    rcases h with (h | ⟨o, h⟩) | ⟨o, its, n, h1, h2, _⟩
    · exact .base (.lst h)
    · exact .base (.frz h)
    · exact .kList h1 h2
  | dic h => exact .base (.dK h)
  | tup h _ =>
    rcases h with (h | ⟨o, h⟩) | ⟨o, its, n, h1, h2, _⟩
    · exact .base (.tup h)
    · exact .fTuple h
    · exact .kTuple h1 h2
end
/-! ### terms among them -/
mutual
def odT : Tm → Od
  | .var k => .tup [.int k]
  | .int i => .int i
  | .atom s => .str s
  | .comp f as => .tup (.str f :: odTs as)
def odTs : List Tm → List Od
  | [] => []
  | t :: ts => odT t :: odTs ts
end
theorem odTs_len : ∀ ts : List Tm, (odTs ts).length = ts.length
  | [] => rfl
  | t :: ts => by rw [odTs, List.length_cons, List.length_cons, odTs_len ts]
mutual
theorem od_rep {K : PySem.W.Frag} {H : Hp} : ∀ {t : Tm} {v : V}, Rep K H t v → OdAt K H v (odT t)
  | .var k, v, h => by
    unfold Rep at h
    obtain ⟨a, rfl, hT⟩ := h
    exact .tup hT (.cons (.int k) .nil)
  | .int i, v, h => by
    unfold Rep at h
    subst h
    exact .int i
  | .atom s, v, h => by
    unfold Rep at h
    subst h
    exact .str s
  | .comp f as, v, h => by
    unfold Rep at h
    obtain ⟨a, vs, rfl, hT, hA⟩ := h
    exact .tup hT (.cons (.str f) (od_reps hA))
theorem od_reps {K : PySem.W.Frag} {H : Hp} : ∀ {ts : List Tm} {vs : List V}, Reps K H ts vs → OdAll K H vs (odTs ts)
  | [], vs, h => by
    rw [h.nil_inv]
    exact .nil
  | t :: ts, vs, h => by
    obtain ⟨v, ws, rfl, h1, h2⟩ := h.cons_inv
    exact .cons (od_rep h1) (od_reps h2)
end
theorem atomD_ok {s : Str} (h : AtomOk s) : atomD (.str s) = true := by
  show (decide (s.length ≤ 40) && s.cps.toList.all signOk) = true
  rw [decide_eq_true (show s.length ≤ 40 from h.1), Bool.true_and, List.all_eq_true]
  exact fun c hc => decide_eq_true (h.2 c hc)
theorem atomD_is {s : Str} (h : atomD (.str s) = true) : AtomOk s := by
  have h' : (decide (s.length ≤ 40) && s.cps.toList.all signOk) = true := h
  rw [Bool.and_eq_true, List.all_eq_true] at h'
  exact ⟨of_decide_eq_true h'.1, fun c hc => of_decide_eq_true (h'.2 c hc)⟩
mutual
theorem isT_tm : ∀ {t : Tm}, Ok t → isT (odT t) = true
  | .var k, h => by
    unfold Ok at h
    show (decide (0 ≤ k) && true) = true
    rw [decide_eq_true h]
    rfl
  | .int i, h => by
    unfold Ok at h
    show (decide (-tooGreat < i) && decide (i < tooGreat)) = true
    rw [decide_eq_true h.1, decide_eq_true h.2]
    rfl
  | .atom s, h => by
    unfold Ok at h
    exact atomD_ok h
  | .comp f as, h => by
    unfold Ok at h
    obtain ⟨h1, h2, h3, h4⟩ := h
    show (partD (.tup (.str f :: odTs as)) && isTs (odTs as)) = true
    rw [isTs_tm h4, Bool.and_true]
    match as, h2, h3 with
    | a :: as, _, h3 =>
      show (decide ((odTs as).length ≤ 7) && atomD (.str f)) = true
      rw [atomD_ok h1, odTs_len, decide_eq_true (by rw [List.length_cons] at h3; omega)]
      rfl
theorem isTs_tm : ∀ {ts : List Tm}, Oks ts → isTs (odTs ts) = true
  | [], _ => rfl
  | t :: ts, h => by
    rw [oks_cons] at h
    show (isT (odT t) && isTs (odTs ts)) = true
    rw [isT_tm h.1, isTs_tm h.2]
    rfl
end
mutual
theorem sizeD_tm : ∀ {t : Tm}, Ok t → sizeD (odT t) ≤ 42 * size t
  | .var k, _ => by show 1 + (1 + 0) ≤ 42 * 1; decide
  | .int i, _ => by show 1 ≤ 42 * 1; decide
  | .atom s, h => by
    unfold Ok at h
    have h1 : s.length ≤ 40 := h.1
    show 1 + s.length ≤ 42 * 1
    omega
  | .comp f as, h => by
    unfold Ok at h
    have h1 : f.length ≤ 40 := h.1.1
    have h2 := sizesD_tm h.2.2.2
    show 1 + (1 + f.length + sizesD (odTs as)) ≤ 42 * size (.comp f as)
    rw [size]
    omega
theorem sizesD_tm : ∀ {ts : List Tm}, Oks ts → sizesD (odTs ts) ≤ 42 * sizes ts
  | [], _ => by rw [odTs, sizesD]; exact Nat.zero_le _
  | t :: ts, h => by
    rw [oks_cons] at h
    have h1 := sizeD_tm h.1
    have h2 := sizesD_tm h.2
    rw [odTs, sizesD, sizes_cons]
    omega
end
end Hm

set_option Elab.async false
set_option linter.all false
set_option maxRecDepth 100000
set_option maxHeartbeats 2000000
/-! defs that are called where no repr is under way: what they promise may speak of repr of data -/
namespace RG
open PySem PySem.Spec PyProof.Rows L2
/-- no object is being shown -/
abbrev Free (A : Around) : Prop := A.guards = some []
/-- a promise that holds where no object is being shown -/
structure FnG (P : Program) (w : World) (K : PySem.W.Frag) (mg : Str → Option Value) (base : Heap) (CC : CXT) (k : Nat) (f : Addr) (fd : FuncData) (ps : List Str) (sp : Sp) : Prop where
  arity : ∀ us H Q E, sp us H Q E → us.length = ps.length
  go : ∀ (B : Around) (es : List Env) (st : Shared) (H : Hp) (as : Args) (xs : List Value) (us : List V) (Q : VK) (E : XK), Free B → Room k B → Env0 P w K mg base B es st H → BindsTo st fd as (ps.zip xs) → Vals us xs → sp us H Q E →
    codeAny (model P w) B (.call (.ref f) as) (CR CC es P w H st Q E) st
section
variable {P : Program} {w : World} {K : PySem.W.Frag} {mg : Str → Option Value} {base : Heap}
theorem free_deeper {A : Around} {e : Env} (h : Free A) : Free (A.deeper e) := h
theorem fn_free {CC : CXT} {k : Nat} {f : Addr} {nm qual : Str} {pars : Arguments} {body : List Stmt} {sc : Scope} {dV kV doc pm cdv ct oc : Value} {an od : Option Addr} {osl : Array (Option Value)} {N ps : List Str} {sp : Sp}
    (lk : K.lookup f = some ⟨oc, od, .func (PySem.W.fnOf nm qual pars body sc dV kV doc pm an cdv ct), osl⟩) (hcd : PySem.W.codeIn K cdv qual = true) (S : FnScope N ps sc) (len : ∀ us H Q E, sp us H Q E → us.length = ps.length)
    (hb : ∀ (B : Around) (es : List Env) (st : Shared) (H : Hp) (us : List V) (Q : VK) (E : XK), Free B → Room k (B.deeper (envOfC qual sc st.heap.objs.size f cdv)) → sp us H Q E →
      ∃ t, PSs (cxOf CC P w K mg base N qual sc f cdv B es st H E) body t ∧ t { nx := fun _ G => Q .non G, rt := Q } (start N us) H) :
    FnG P w K mg base CC (k + 1) f (PySem.W.fnOf nm qual pars body sc dV kV doc pm an cdv ct) ps sp where
  arity := len
  go := by
    intro B es st H as xs us Q E hF hR he hB hV hs
    have n1 := len us H Q E hs
    have inK : K.In st.heap := he.mod.kin.keeps fun b o z => (he.bs b o z).1
    have noL : st.heap.NoLimit := he.mod.nolimit.keeps fun b o z => (he.bs b o z).1
    have kinds : ∀ y ∈ ps.zip xs, sc.names.lookup y.1 = some .local ∨ (sc.names.lookup y.1 = some .cell ∧ ((cellsFrom (st.heap.objs.size + 1) sc.names []).lookup y.1).isSome = true) := by
      rintro ⟨z, u⟩ hz
      cases S.par z (List.of_mem_zip hz).1 with
      | inl c => exact .inl c
      | inr c => exact .inr ⟨c, PySem.W.cellsFrom_some _ _ _ (.inl c)⟩
    apply codeAny_call_function hR.depth (inK _ _ lk) rfl S.co S.gen rfl (PySem.W.codeRec_of inK hcd)
    apply hB
    apply wpAny_newFunctionEnv_cells S.kind kinds
    intro env hE s1 hx
    subst hE
    refine ⟨noL.keeps hx.toInCall.keep, codeAny_func ?_⟩
    obtain ⟨t, hT, hQ⟩ := hb B es st H us Q E hF (hR.deeper _) hs
    have J := inv_start (CX := CC) (E := E) S hR.hd he n1 hV hx
    refine wpAny_mono (hT.run [] s1 (start N us) H _ J hQ) ?_ (fun _ _ z => z)
    rintro (_ | _ | _ | u) s2 h2
    · obtain ⟨σ, G, I2, q⟩ := h2
      exact ⟨.non, G, I2.os, I2.bare, I2.base, I2.hok, rfl, q⟩
    · exact h2.elim fun _ z => z.elim fun _ z => z.2.elim
    · exact h2.elim fun _ z => z.elim fun _ z => z.2.elim
    · obtain ⟨v, σ, G, I2, r, q⟩ := h2
      exact ⟨v, G, I2.os, I2.bare, I2.base, I2.hok, r, q⟩
theorem Fun.free {x qual : Str} {st : Stmt} {f : Addr} {fd : FuncData} {N ps : List Str} {k : Nat} {sp : Sp} (F : Fun K x qual st f fd) (S : FnScope N ps (defScope st)) (len : ∀ us H Q E, sp us H Q E → us.length = ps.length)
    (hb : ∀ (cdv : Value) (B : Around) (es : List Env) (s0 : Shared) (H : Hp) (us : List V) (Q : VK) (E : XK), Free (B.deeper (envOfC qual (defScope st) s0.heap.objs.size f cdv)) → Room k (B.deeper (envOfC qual (defScope st) s0.heap.objs.size f cdv)) → sp us H Q E →
      ∃ t, PSs (cxOf CX0 P w K mg base N qual (defScope st) f cdv B es s0 H E).nox (defBody st) t ∧ t { nx := fun _ G => Q .non G, rt := Q } (start N us) H) : FnG P w K mg base CX0 (k + 1) f fd ps sp := by
  obtain ⟨_, _, _, _, _, _, cdv, _, _, rfl, lk, hcd⟩ := F.ex
  exact fn_free lk hcd S len fun B es s0 H us Q E h1 h2 h3 => (hb cdv B es s0 H us Q E h1 h2 h3).elim fun t z => ⟨t, z.1.nox, z.2⟩
theorem FnG.of {CC : CXT} {k : Nat} {f : Addr} {fd : FuncData} {ps : List Str} {sp : Sp} (F : FnOk P w K mg base CC k f fd ps sp) : FnG P w K mg base CC k f fd ps sp := ⟨F.len, fun B es st H as xs us Q E _ h1 h2 h3 h4 h5 => F.run B es st H as xs us Q E h1 h2 h3 h4 h5⟩
end
/-- f(..), where nothing is being shown -/
theorem pe_callG {X : Cx} {CC : CXT} {k : Nat} {f : Addr} {fd : FuncData} {ps : List Str} {sp : Sp} {ws : List V} {ds : List Value} {E : XK} {x : Str} {p pos : Pos} {e : Expr} {es : List Expr} {t : TA}
    (F : FnG X.prog X.w X.K X.mg X.base CC k f fd ps sp) (free : Free X.A) (room : Room k X.A) (gl : Gl X x) (at_ : X.mg x = some (.ref f)) (kp : PySem.W.keepIn X.K (.ref f) = true) (bi : Binds X.K fd ps ds) (dv : Vals ws ds) (out : Passes CC X E) (ar : PA X (e :: es) t)
    (nd : (x == ("__debug__" : Str)) = false := by decide) (se : starEach (e :: es) X.env = (false, eval e X.env) :: starEach es X.env := by rfl) (pl : (backTo pos (starEach es X.env)).any (·.1) = false := by rfl) : PE X (.Call (.Name x p) (e :: es) [] pos) (tCall sp ws E t) where
  run := by
    intro pins s σ H Q I h
    apply wpAny_Call_Name_kw
    apply ld_glob I gl at_ _ nd
    apply PySem.W.callWith_K (h₀ := X.base) I.ok.mod.kin kp _ se pl
    refine thn (ar.run pos pins s σ H _ I h) fun us s1 ⟨vs, H1, J, r, q⟩ => ⟨J.kIn, ?_⟩
    have rr := r.append dv
    have n1 := (rr.length).symm.trans (F.arity _ _ _ _ q)
    apply wpAny_call
    refine codeAny_mono (F.go X.A X.stack s1 H1 ⟨us, []⟩ (us ++ ds) (vs ++ ws) Q E free room J.env0 (bi s1 us J.kIn n1) rr q) ?_
    rintro (er | (_ | _ | _ | u)) s2 h2
    · exact out pins σ H1 s1 er s2 J h2
    · exact h2.elim
    · exact h2.elim
    · exact h2.elim
    · exact J.after h2
end RG

set_option Elab.async false
set_option linter.all false
set_option maxRecDepth 100000
set_option maxHeartbeats 2000000
/-! an error of the program's own, whose __init__ calls that of its base by the base's name, and that has one field -/
namespace RG
open PySem PySem.Spec PyProof.Rows L2
/-- the base class: its __init__ is ValueError's -/
structure BaseE (K : PySem.W.Frag) (mg : Str → Option Value) (x : Str) (B : Addr) : Prop where
  at_ : mg x = some (.ref B)
  rd : PySem.W.readsIn K B (.type "type") = true
  ga : PySem.W.specialIn K (.ref B) "__getattribute__" = some (some (.builtin "type.__getattribute__"))
  ini : PySem.W.findCls K (.ref B) (.type "type") "__init__" = some (.val (.builtin "ValueError.__init__"))
/-- Base.__init__(self, ..) -/
theorem pe_hinit {X : Cx} {x : Str} {B : Addr} {e : Expr} {es : List Expr} {ta : TA} {p1 p2 pos : Pos} {pl : Sem Bool} (T : BaseE X.K X.mg x B) (gl : Gl X x) (ar : PA X (e :: es) ta) (nd : (x == ("__debug__" : Str)) = false := by decide)
    (ev : eval (.Call (.Attribute (.Name x p1) "__init__" p2) (e :: es) [] pos) X.env = (do
      let cv ← eval (.Name x p1) X.env
      standAt p2.atName
      let (g, fst) ← holding [cv] (getMethod cv "__init__" pl)
      callWith pos g fst (backTo pos (starEach (e :: es) X.env)) (backToKw pos (keywordEach [] X.env))) := by rfl)
    (se : starEach (e :: es) X.env = (false, eval e X.env) :: starEach es X.env := by rfl) (pn : (backTo pos (starEach es X.env)).any (·.1) = false := by rfl) :
    PE X (.Call (.Attribute (.Name x p1) "__init__" p2) (e :: es) [] pos) (tVeI X.K ta) where
  run := by
    intro pins s σ H Q I h
    refine PySem.W.methodCall_KW (ld_glob I gl T.at_ ?_ nd) ev
    refine PySem.W.method_cls I.kIn T.ga (PySem.W.cls_value I.kIn T.rd T.ini (by decide +kernel) ?_)
    show wpAny _ _ (callWith pos (Value.builtin "ValueError.__init__") [] (backTo pos (starEach (e :: es) X.env)) []) _ _ _
    refine PyProof.Rows.callWith_method1 (thn (ar.run pos pins _ σ H _ (I.tok _) h) fun us s1 z => ?_) se pn
    obtain ⟨vs, H1, J, rv, a, C, ws, rfl, few, oe, ha, q⟩ := z
    cases rv with
    | @cons _ u _ ur ra rr =>
      cases (ra : u = Value.ref a)
      have n1 : ur.length ≤ sizeLine := Nat.le_trans (Nat.le_of_eq (Paired.length rr).symm) (Nat.le_trans few (by decide))
      exact oinit_ok oe J ha n1 fun s2 J2 => ⟨.non, H1, J2, rfl, q⟩
/-- what the text says of an error class with one field -/
structure ErrE (K : PySem.W.Frag) (mg : Str → Option Value) (x f : Str) (C fI : Addr) : Prop where
  at_ : mg x = some (.ref C)
  oex : OexC K C
  xf : XfC K C
  noF : PySem.W.findIn K (.ref C) f = some none
  iC : PySem.W.findIn K (.ref C) "__init__" = some (some (.ref fI))
  tI : PySem.W.typeIn K (.ref fI) = some (.type "function")
  ex : PySem.W.exmOne K (.ref C) (.ref C) = some true
/-- what __init__(self, v) does -/
def spIni (C : Addr) (f : Str) : Sp := fun vs H Q _ => ∃ (a : Addr) (v : V), vs = [.ref a, v] ∧ H a = some (exo a C none) ∧ ∀ d, H d = none → d ≠ a → Q .non (upd (upd H d (exd d [(f, v)])) a (exo a C (some d)))
/-- how such an error comes: its dict is new and holds the field, all that was stands -/
def Comes (C : Addr) (f : Str) (v : V) (H : Hp) (E : XK) : Prop := ∀ d H', H d = none → Evl.Ex H H' → H' d = some (.xd [(f, v)]) → E (.ref C) (some d) H'
theorem made_err {C : Addr} {f : Str} {v : V} {H : Hp} {Q : XK} (q : ∀ d H', H d = none → Evl.Ex H H' → H' d = some (.xd [(f, v)]) → Q (.ref C) (some d) H') : ([v].length ≤ 1000 ∧ ∀ a, H a = none → spIni C f (.ref a :: ([v] ++ [])) (upd H a (exo a C none))
    (fun u H2 => u = .non ∧ ∃ (d : Addr) (fs : List (Str × V)), H2 a = some (exo a C (some d)) ∧ H2 d = some (exd d fs) ∧ H d = none ∧ Q (.ref C) (some d) (upd (del H2 a) d (.xd fs))) (fun _ _ _ => False)) := by
  refine ⟨by simp, fun a ha => ⟨a, v, rfl, upd_same, fun d hd ne => ⟨rfl, d, _, upd_same, ?_, ?_, q d _ ?_ ?_ upd_same⟩⟩⟩
  · rw [upd_ne ne, upd_same]
  · rw [upd_ne ne] at hd
    exact hd
  · rw [upd_ne ne] at hd
    exact hd
  · intro b o hb
    rw [upd_ne ne] at hd
    have n1 : b ≠ d := fun z => by subst z; rw [hd] at hb; cases hb
    have n2 : b ≠ a := fun z => by subst z; rw [ha] at hb; cases hb
    rw [upd_ne n1, del_ne n2, upd_ne n2, upd_ne n1, upd_ne n2]
    exact hb
/-- isinstance(e, c), e the error with a dict that the suite holds -/
structure IsE (K : PySem.W.Frag) (D : Addr) : Prop where
  cl : (PySem.W.clsIn K D).isSome = true
  hg : PySem.W.findIn K (.ref D) "__getattribute__" = some (some (.builtin "BaseException.__getattribute__"))
  hk : PySem.W.findIn K (.ref D) "__getattr__" = some none
  hs : PySem.W.subIn K (.ref D) (.type "BaseException") = some true
  ha : PySem.W.findIn K (.ref D) "__class__" = some (some (.builtin "object.__class__"))
  hn : PySem.W.specialIn K (.builtin "object.__class__") "__get__" = some (some (.builtin "getset_descriptor.__get__"))
  ht : PySem.W.takesIn K (.builtin "object.__class__") = some true
  hm : PySem.W.mroIn K D (.type "object") = some true
def rIsD (K : PySem.W.Frag) (D a : Addr) (cls : Value) (d : Option Addr) : List V → Hp → VK → Prop := fun xs H Q => ∃ (c : V) (cv : Value) (b : Bool) (dd : Addr) (fs : List (Str × V)), xs = [.ref a, c] ∧ (∀ u, RelV c u → u = cv) ∧ cls = .ref D ∧ d = some dd ∧ H dd = some (.xd fs) ∧ PySem.W.kitOne K (.ref D) cv = some b ∧ Q (.bl b) H
theorem call_isD {X : Cx} {a D : Addr} {cls : Value} {d : Option Addr} {oe : Obj} {pn : List (Addr × Obj)} (C : IsE X.K D) (hz : Zc cls d oe) (hf : ∃ vs, oe.data = .fields vs) : CallR (X.suite a ((a, oe) :: pn)) (.builtin "isinstance") (rIsD X.K D a cls d) := by
  intro pins s σ H xs us Q I r h
  obtain ⟨c, cv, b, dd, fs, rfl, hcv, rfl, rfl, hd, e, q⟩ := h
  obtain ⟨u1, u2, rfl, r1, r2⟩ := vals2 r
  cases (r1 : u1 = Value.ref a)
  cases hcv _ r2
  obtain ⟨at_, _⟩ := I.pin (a, oe) (List.mem_append_left _ List.mem_cons_self)
  obtain ⟨vs, hv⟩ := hf
  have hx : ObjOk X.prog X.w H s.heap dd (.xd fs) := I.hok dd _ hd
  obtain ⟨mA, hns, _⟩ := hx
  obtain ⟨od, ho, _⟩ := lookIn_ns hns
  have J : PySem.W.InstAt s.heap a oe D (some od) := ⟨at_, hz.1, by unfold PySem.W.notCls; rw [hv] <;> rfl, by rw [hz.2]; exact ho⟩
  exact PySem.W.kia_one (PySem.W.kitx_exc C.cl C.hg C.hk C.hs C.ha C.hn C.ht C.hm) I.kIn J e (fun z => nomatch z) fun tk => ⟨.bl b, H, I.kept (t' := tk) fun _ _ z => z, rfl, q⟩
end RG

set_option Elab.async false
set_option linter.all false
set_option maxRecDepth 100000
set_option maxHeartbeats 2000000
/-! repr of data -/
namespace RG
open PySem PySem.Spec PyProof.Rows L2
/-- repr(x), x data without dicts -/
def rReprD (K : PySem.W.Frag) : List V → Hp → VK → Prop := fun xs H Q => ∃ v d, xs = [v] ∧ Dp K H v d ∧ d.showable = true ∧ d.hasDict = false ∧ d.depth ≤ 60 ∧ d.shown.length ≤ sizeLine ∧ Q (.str d.shown) H
/-- the same, or an empty dict -/
def rReprE (K : PySem.W.Frag) : List V → Hp → VK → Prop := fun xs H Q => rReprD K xs H Q ∨ ∃ a, xs = [.ref a] ∧ H a = some (.dK []) ∧ Q (.str "{}") H
theorem call_reprD {X : Cx} (free : Free X.A) (hu : X.A.units + 64 < cLine) : CallR X (.builtin "repr") (rReprD X.K) := by
  intro pins s σ H xs us Q I r h
  obtain ⟨v, d, rfl, hd, hs, hn, hp, hl, q⟩ := h
  obtain ⟨u, rfl, rv⟩ := vals1 r
  obtain ⟨as, rd⟩ := Dp.reads I d v u hd rv
  cases hd with
  | non =>
    cases rv
    exact PySem.P.repr_of_none ⟨.str _, H, I.tok _, ⟨_, rfl⟩, q⟩
  | bl b =>
    cases rv
    exact PySem.P.repr_of_bool ⟨.str _, H, I.tok _, ⟨_, rfl⟩, q⟩
  | int i =>
    obtain ⟨t, rfl⟩ := rv
    exact PySem.P.repr_of_int (of_decide_eq_true hs) ⟨.str _, H, I.tok _, ⟨_, rfl⟩, q⟩
  | str x =>
    obtain ⟨t, rfl⟩ := rv
    exact PySem.P.repr_of_str ⟨.str _, H, I.tok _, ⟨_, rfl⟩, q⟩ hl
  | lst _ _ =>
    cases rv
    exact repr_of_reads' rd hs (fun z => by rw [hn] at z; cases z) free (by omega) (fun _ _ e => e) (fun h' u tk k => ⟨.str _, H, I.kept k, ⟨_, rfl⟩, q⟩) hl
  | tup _ _ =>
    cases rv
    exact repr_of_reads' rd hs (fun z => by rw [hn] at z; cases z) free (by omega) (fun _ _ e => e) (fun h' u tk k => ⟨.str _, H, I.kept k, ⟨_, rfl⟩, q⟩) hl
theorem call_reprE {X : Cx} (free : Free X.A) (hu : X.A.units + 64 < cLine) : CallR X (.builtin "repr") (rReprE X.K) := by
  intro pins s σ H xs us Q I r h
  rcases h with h | ⟨a, rfl, ha, q⟩
  · exact call_reprD free hu pins s σ H xs us Q I r h
  obtain ⟨u, rfl, rv⟩ := vals1 r
  cases rv
  obtain ⟨_, hn, vs, kv, o, es, ep, e1, ⟨e2, _⟩, e3, _, e4, _⟩ := I.hok a _ ha
  cases kv
  have n1 : es.toList = [] := List.length_eq_zero_iff.mp (by rw [Array.length_toList]; exact e4.length.trans rfl)
  have rd : Reads s.heap (.ref a) (.dict []) ([a] ++ [] ++ []) := Reads.dict e1 e2 e3 (by rw [n1]; exact ReadsAll.nil) (by rw [n1]; exact ReadsAll.nil)
  have ne : a ≠ sysModules := by simpa using hn
  exact repr_of_reads' rd rfl (fun _ z => ne (by simp at z; exact z.symm)) free (by show X.A.units + (1 + 1) < cLine; omega) (fun _ _ e => e) (fun h' u tk k => ⟨.str _, H, I.kept k, ⟨_, rfl⟩, q⟩) (by decide +kernel)
end RG

set_option Elab.async false
set_option linter.all false
set_option maxRecDepth 100000
set_option maxHeartbeats 4000000
namespace Hm
open PySem PySem.Spec PyProof.Rows L2 HT
/-! t[:0:-1] of a tuple -/
section
variable {prog : Program} {w : World} {A : Around} {E : Value → Shared → Prop} {s : Shared}
theorem sliceApplied_back0 {sl : Addr} {n : Nat} {ti tj : Tok} {Q : Int × Int × Nat → Shared → Prop} (h1 : 1 ≤ n) (hs : s.heap.IsSliceOf sl .none (.int 0 tj) (.int (-1) ti))
    (h : Q ((n : Int) - 1, -1, n - 1) s) : wpAny (model prog w) A (Builtin.Slice.sliceApplied (.ref sl) (pure (n : Int))) Q E s := by
  obtain ⟨os, hos, hcs, hds⟩ := id hs
  unfold Builtin.Slice.sliceApplied Builtin.Slice.sliceFields
  refine wpAny_bind (wpAny_bind (wpAny_field hos hds (x := .none) rfl (wpAny_bind (wpAny_field hos hds (x := .int 0 tj) rfl (wpAny_bind (wpAny_field hos hds (x := .int (-1) ti) rfl (wpAny_pure ?_)))))))
  refine wpAny_bind (slicePart_ (.int (-1) ti) ?_)
  show wpAny _ _ (if ((-1 : Int) == 0) = true then _ else _) _ _ s
  rw [if_neg (by decide)]
  refine wpAny_bind (slicePart_ .none (wpAny_bind (slicePart_ (.int 0 tj) (wpAny_bind (wpAny_pure ?_)))))
  have e : Builtin.Slice.slicePlaces ((n : Int) - 1) 0 (-1) = n - 1 := by
    unfold Builtin.Slice.slicePlaces
    rw [if_neg (by decide)]
    by_cases hn : (n : Int) - 1 > 0
    · rw [if_pos hn]
      have : -(-1 : Int) = 1 := by decide
      rw [this, Int.ediv_one]
      omega
    · rw [if_neg hn]
      omega
  have ea : Builtin.Slice.sliceAdjust none (some 0) (-1) (n : Int) = ((n : Int) - 1, 0) := by
    unfold Builtin.Slice.sliceAdjust
    simp
    omega
  show wpAny _ _ (match Builtin.Slice.sliceAdjust none (some 0) (-1) (n : Int) with
    | (lo, hi) => pure (lo, (-1 : Int), Builtin.Slice.slicePlaces lo hi (-1))) _ _ s
  rw [ea]
  show wpAny _ _ (pure ((n : Int) - 1, (-1 : Int), Builtin.Slice.slicePlaces ((n : Int) - 1) 0 (-1))) _ _ s
  rw [e]
  exact wpAny_pure h
theorem pick_back0 (xs : List Value) : ((List.range (xs.toArray.size - 1)).filterMap fun (k : Nat) => xs.toArray[(((xs.toArray.size : Nat) : Int) - 1 + (k : Int) * -1).toNat]?).toArray = (xs.drop 1).reverse.toArray := by
  apply congrArg List.toArray
  have key : ∀ m : Nat, m ≤ xs.length → ((List.range m).filterMap fun (k : Nat) => xs[xs.length - 1 - k]?) = xs.reverse.take m := by
    intro m
    induction m with
    | zero => intro _; simp
    | succ m ih =>
      intro hm
      rw [List.range_succ, List.filterMap_append, ih (by omega), List.take_add_one]
      congr 1
      have hlt : xs.length - 1 - m < xs.length := by omega
      rw [List.getElem?_reverse (by omega)]
      simp [List.getElem?_eq_getElem hlt]
  have k2 := key (xs.length - 1) (by omega)
  have e2 : xs.reverse.take (xs.length - 1) = (xs.drop 1).reverse := by rw [List.take_reverse]; by_cases h : xs.length = 0
                                                                        · have := List.length_eq_zero_iff.mp h; subst this; rfl
                                                                        · rw [show xs.length - (xs.length - 1) = 1 by omega]
  rw [← e2, ← k2, List.size_toArray]
  refine fm_congr _ fun k hk => ?_
  have hk' : k < xs.length - 1 := List.mem_range.mp hk
  have e : (((xs.length : Nat) : Int) - 1 + (k : Int) * -1).toNat = xs.length - 1 - k := by omega
  rw [e]
  simp
theorem getItem_tuple_back0 {t sl : Addr} {items : List Value} {ti tj : Tok} {Q : Value → Shared → Prop} (h1 : 1 ≤ items.length) (ht : IsTup s.heap t items.toArray) (hs : s.heap.IsSliceOf sl .none (.int 0 tj) (.int (-1) ti))
    (h : Q (.ref s.heap.objs.size) { s with heap := s.heap.push { cls := .type "tuple", data := .seq (items.drop 1).reverse.toArray } })
    (hsz : items.length ≤ sizeLine) : wpAny (model prog w) A (getItem (.ref t) (.ref sl)) Q E s := by
  have htake : sizeOk (.seq (items.drop 1).reverse.toArray) := by
    show (items.drop 1).reverse.toArray.size ≤ sizeLine
    rw [List.size_toArray, List.length_reverse, List.length_drop]
    omega
  obtain ⟨os, hos, hcs, hds⟩ := id hs
  have hTs : s.TypeIs (.ref sl) "slice" := ⟨os, hos, hcs⟩
  unfold getItem
  try with_reducible refine wpAny_holding ?_
  first | refine wpAny_bind (wpAny_pure ?_) | skip
  refine wpAny_bind (wpAny_sequenceKey ht.typeIs (by decide) ?_)
  refine wpAny_bind (wpAny_callSpecial?_slot (name := Str.ofString "__getitem__") ht.typeIs PyProof.Rows.slot_tuple_getitem
    (wpAny_call_entry PyProof.Rows.slot_tuple_getitem ht.typeIs entry_tuple_getitem ?_ (args_tuple_getitem _ _)))
  show wpAny _ _ (Builtin.Tuple.tupleItemsOf (.ref t) >>= _) _ _ s
  refine wpAny_bind (tupleItemsOf_ ht ?_)
  refine wpAny_bind (wpAny_typeOf hTs ?_)
  rw [if_pos (by decide)]
  refine wpAny_bind (sliceApplied_back0 (by rw [List.size_toArray]; exact h1) hs ?_)
  have hno : ¬ ((((items.toArray.size : Nat) : Int) - 1 == 0 && (-1 : Int) == 1 && items.toArray.size - 1 == items.toArray.size) = true) := by
    intro q
    rw [Bool.and_eq_true, Bool.and_eq_true] at q
    exact absurd q.1.2 (by decide)
  show wpAny _ _ (if (((items.toArray.size : Nat) : Int) - 1 == 0 && (-1 : Int) == 1 && items.toArray.size - 1 == items.toArray.size) = true then _ else _) _ _ s
  rw [if_neg hno, pick_back0]
  first
    | exact wpAny_bind (m := Builtin.Tuple.tupleExact _) (wpAny_newObj_type (wpAny_pure ⟨_, rfl, wpAny_pure h⟩) htake)
    | exact wpAny_bind (m := Builtin.Tuple.tupleExact _) (wpAny_newObj_type (wpAny_bind (wpAny_pure (wpAny_pure ⟨_, rfl, wpAny_pure h⟩))) htake)
    | exact wpAny_bind (wpAny_bind (m := Builtin.Tuple.tupleExact _) (wpAny_newObj_type (wpAny_pure (wpAny_pure ⟨_, rfl, wpAny_pure h⟩)) htake))
    | exact wpAny_bind (wpAny_bind (m := Builtin.Tuple.tupleExact _) (wpAny_newObj_type (wpAny_pure ⟨_, rfl, wpAny_pure h⟩) htake))
end
/-- t[:0:-1] of a tuple: all but the first, the last one first -/
def tRevT0 (K : PySem.W.Frag) (te : TE) : TE := fun σ H Q => te σ H fun x H1 => ∃ a xs, x = .ref a ∧ SqT K H1 a xs ∧ 1 ≤ xs.length ∧ ∀ p, H1 p = none → Q (.ref p) (upd H1 p (.tup (xs.drop 1).reverse))
section
variable {X : Cx}
theorem pe_revT0 {e : Expr} {te : TE} {k : Nat} {p0 p1 p2 p3 pos : Pos} (he : PE X e te) : PE X (.Subscript e (.Slice none (some (.Constant (.int 0) k p0)) (some (.UnaryOp .USub (.Constant (.int 1) k p1) p2)) p3) pos) (tRevT0 X.K te) := by
  refine ⟨fun pins s σ H Q I h => ?_⟩
  refine Subscript_ (thn (he.run pins s σ H _ I h) fun v s1 ⟨x, H1, I1, r1, q1⟩ => ?_)
  obtain ⟨a, xs, ex, hx, h1, q⟩ := q1
  subst ex
  cases r1
  have hup : PO X (some (.Constant (.int 0) k p0)) (tPart (tC (.int 0))) := po_some pe_int
  have hst : PO X (some (.UnaryOp .USub (.Constant (.int 1) k p1) p2)) (tPart (tUn (rU fun i => .int (-i)) (tC (.int 1)))) := po_some (pe_un un_neg pe_int)
  refine wpAny_Slice (thn (po_none.run pins s1 σ H1 (fun o H2 => o = none ∧ H2 = H1) I1 ⟨rfl, rfl⟩) fun vl s2 ⟨l, H2, I2, pl, el, e2⟩ => ?_)
  subst el e2
  refine thn (hup.run pins s2 σ H2 (fun o H3 => o = some 0 ∧ H3 = H2) I2 ⟨0, rfl, rfl, rfl⟩) fun vu s3 ⟨u, H3, I3, pu, eu, e3⟩ => ?_
  subst eu e3
  refine thn (hst.run pins s3 σ H3 (fun o H4 => o = some (-1) ∧ H4 = H3) I3 ⟨1, rfl, -1, rfl, rfl, rfl⟩) fun vs s4 ⟨o, H4, I4, ps, eo, e4⟩ => ?_
  subst eo e4
  cases pl
  obtain ⟨tj, rfl⟩ : ∃ ti, vu = Value.int 0 ti := by
    cases pu
    exact ⟨_, rfl⟩
  obtain ⟨ti, rfl⟩ : ∃ ti, vs = Value.int (-1) ti := by
    cases ps
    exact ⟨_, rfl⟩
  have I5 : Inv X pins σ H4 { s4 with heap := s4.heap.push { cls := .type "slice", data := .fields #[Value.none, Value.int 0 tj, Value.int (-1) ti] } } := I4.kept (t' := s4.toks) fun b ob q => Heap.get?_push_of_some _ q
  obtain ⟨its, r, ht, hz⟩ := I5.tuple hx
  have hlen := r.length
  show wpAny (model X.prog X.w) X.A (subscriptTail e (.Slice none (some (.Constant (.int 0) k p0)) (some (.UnaryOp .USub (.Constant (.int 1) k p1) p2)) p3) (.ref a) (.ref s4.heap.objs.size)) (EP X pins σ Q) X.xe { s4 with heap := s4.heap.push { cls := .type "slice", data := .fields #[Value.none, Value.int 0 tj, Value.int (-1) ti] } }
  refine tail_any (ops := [.ref a, .ref s4.heap.objs.size]) ht.typeIs (PyProof.Rows.slot_tuple_getitem.lookup) ?_ (by with_unfolding_all rfl)
  refine getItem_tuple_back0 (by omega) ht (Heap.IsSliceOf.new _ Value.none (Value.int 0 tj) (Value.int (-1) ti)) ?_ (by rw [← hlen]; exact hz)
  refine ⟨.ref _, _, I5.laid (t' := s4.toks) (o := .tup (xs.drop 1).reverse) (fun b ob q => Heap.get?_push_of_some _ q) (Nat.le_refl _) ?_, rfl, q _ (I5.hok.fresh (Nat.le_refl _))⟩
  exact ⟨by rw [List.length_reverse, List.length_drop]; omega, _, (r.drop 1).reverse, IsTup.new _ _⟩
end
end Hm

set_option Elab.async false
set_option linter.all false
set_option maxRecDepth 100000
set_option maxHeartbeats 1000000
/-! keys of dicts: whole numbers, texts, and tuples of keys at any depth -/
namespace Hm
open PySem PySem.Spec L2
inductive DK where
  | leaf (k : Key) : DK
  | tup (ks : List DK) : DK
mutual
def DK.beq : DK → DK → Bool
  | .leaf a, .leaf b => decide (a = b)
  | .tup xs, .tup ys => DK.beqs xs ys
  | .leaf _, .tup _ => false
  | .tup _, .leaf _ => false
def DK.beqs : List DK → List DK → Bool
  | [], [] => true
  | x :: xs, y :: ys => DK.beq x y && DK.beqs xs ys
  | [], _ :: _ => false
  | _ :: _, [] => false
end
mutual
theorem DK.beq_iff : ∀ a b, DK.beq a b = true ↔ a = b
  | .leaf a, .leaf b => by
    unfold DK.beq
    simp
  | .tup xs, .tup ys => by
    unfold DK.beq
    rw [DK.beqs_iff xs ys]
    simp
  | .leaf _, .tup _ => by simp [DK.beq]
  | .tup _, .leaf _ => by simp [DK.beq]
theorem DK.beqs_iff : ∀ xs ys, DK.beqs xs ys = true ↔ xs = ys
  | [], [] => by simp [DK.beqs]
  | x :: xs, y :: ys => by
    unfold DK.beqs
    rw [Bool.and_eq_true, DK.beq_iff x y, DK.beqs_iff xs ys]
    simp
  | [], _ :: _ => by simp [DK.beqs]
  | _ :: _, [] => by simp [DK.beqs]
end
instance : DecidableEq DK := fun a b => decidable_of_iff _ (DK.beq_iff a b)
mutual
def DK.pd : DK → PyData
  | .leaf (.inl i) => .int i
  | .leaf (.inr s) => .str s
  | .tup ks => .tuple (DK.pds ks)
def DK.pds : List DK → List PyData
  | [] => []
  | k :: ks => DK.pd k :: DK.pds ks
end
mutual
def DK.dep : DK → Nat
  | .leaf _ => 0
  | .tup ks => DK.deps ks + 1
def DK.deps : List DK → Nat
  | [] => 0
  | k :: ks => max (DK.dep k) (DK.deps ks)
end
mutual
theorem pd_dep : ∀ k : DK, (DK.pd k).depth = DK.dep k
  | .leaf (.inl _) => rfl
  | .leaf (.inr _) => rfl
  | .tup ks => by
    unfold DK.pd DK.dep
    show PyData.depthAll (DK.pds ks) + 1 = _
    rw [pds_dep ks]
theorem pds_dep : ∀ ks : List DK, PyData.depthAll (DK.pds ks) = DK.deps ks
  | [] => rfl
  | k :: ks => by
    unfold DK.pds DK.deps
    show max (DK.pd k).depth (PyData.depthAll (DK.pds ks)) = _
    rw [pd_dep k, pds_dep ks]
end
mutual
theorem pd_eqv : ∀ x y : DK, PyData.eqv (DK.pd x) (DK.pd y) = DK.beq x y
  | .leaf (.inl a), .leaf (.inl b) => by
    show (a == b) = decide ((Sum.inl a : Key) = Sum.inl b)
    by_cases h : a = b
    · subst h; simp
    · rw [decide_eq_false (by intro z; injection z with z; exact h z)]
      simpa using h
  | .leaf (.inr a), .leaf (.inr b) => by
    show (a == b) = decide ((Sum.inr a : Key) = Sum.inr b)
    by_cases h : a = b
    · subst h; simp
    · rw [decide_eq_false (by intro z; injection z with z; exact h z)]
      exact beq_eq_false_iff_ne.mpr h
  | .leaf (.inl a), .leaf (.inr b) => by
    show false = decide ((Sum.inl a : Key) = Sum.inr b)
    rw [decide_eq_false (by intro z; cases z)]
  | .leaf (.inr a), .leaf (.inl b) => by
    show false = decide ((Sum.inr a : Key) = Sum.inl b)
    rw [decide_eq_false (by intro z; cases z)]
  | .tup xs, .tup ys => by
    unfold DK.pd DK.beq
    exact pds_eqv xs ys
  | .leaf (.inl _), .tup _ => by
    unfold DK.pd DK.beq
    rfl
  | .leaf (.inr _), .tup _ => by
    unfold DK.pd DK.beq
    rfl
  | .tup _, .leaf (.inl _) => by
    unfold DK.pd DK.beq
    rfl
  | .tup _, .leaf (.inr _) => by
    unfold DK.pd DK.beq
    rfl
theorem pds_eqv : ∀ xs ys : List DK, PyData.eqvAll (DK.pds xs) (DK.pds ys) = DK.beqs xs ys
  | [], [] => rfl
  | x :: xs, y :: ys => by
    unfold DK.pds DK.beqs
    show (PyData.eqv (DK.pd x) (DK.pd y) && PyData.eqvAll (DK.pds xs) (DK.pds ys)) = _
    rw [pd_eqv x y, pds_eqv xs ys]
  | [], _ :: _ => rfl
  | _ :: _, [] => rfl
end
theorem beq_dec (x y : DK) : DK.beq x y = decide (x = y) := by
  by_cases h : x = y
  · rw [decide_eq_true h]
    exact (DK.beq_iff x y).mpr h
  · rw [decide_eq_false h]
    cases e : DK.beq x y with
    | false => rfl
    | true => exact absurd ((DK.beq_iff x y).mp e) h
section
variable {P : Program} {w : World}
mutual
inductive KIs (P : Program) (w : World) (h : Heap) : DK → Value → Prop
  | leaf {k : Key} {v : Value} : (mixKind P w).is k v = true → KIs P w h (.leaf k) v
  | tup {ks : List DK} {a : Addr} {o : Obj} {items : Array Value} {n : Nat} : h.get? a = some o → o.cls = .type "tuple" → o.data = .seq items n → KAll P w h ks items.toList → KIs P w h (.tup ks) (.ref a)
inductive KAll (P : Program) (w : World) (h : Heap) : List DK → List Value → Prop
  | nil : KAll P w h [] []
  | cons {k : DK} {v : Value} {ks : List DK} {vs : List Value} : KIs P w h k v → KAll P w h ks vs → KAll P w h (k :: ks) (v :: vs)
end
theorem leaf_ref {k : Key} {a : Addr} (h : (mixKind P w).is k (.ref a) = true) : False := by
  have := (mixKind P w).byValue _ _ h
  simp [carriedByValue] at this
mutual
theorem kis_inj {h : Heap} : ∀ {x y : DK} {v : Value}, KIs P w h x v → KIs P w h y v → x = y
  | .leaf a, .leaf b, v, .leaf ha, .leaf hb => by rw [(mixKind P w).inj _ _ _ ha hb]
  | .leaf a, .tup ks, _, .leaf ha, .tup _ _ _ _ => (leaf_ref ha).elim
  | .tup ks, .leaf b, _, .tup _ _ _ _, .leaf hb => (leaf_ref hb).elim
  | .tup xs, .tup ys, _, .tup h1 _ h3 h4, .tup g1 _ g3 g4 => by
    rw [h1] at g1
    cases g1
    rw [h3] at g3
    injection g3 with g3 _
    subst g3
    rw [kall_inj h4 g4]
theorem kall_inj {h : Heap} : ∀ {xs ys : List DK} {vs : List Value}, KAll P w h xs vs → KAll P w h ys vs → xs = ys
  | [], [], _, _, _ => rfl
  | x :: xs, y :: ys, _, .cons h1 h2, .cons g1 g2 => by rw [kis_inj h1 g1, kall_inj h2 g2]
  | [], _ :: _, [], _, g => nomatch g
  | [], _ :: _, _ :: _, h, _ => nomatch h
  | _ :: _, [], [], h, _ => nomatch h
  | _ :: _, [], _ :: _, _, g => nomatch g
end
mutual
theorem kis_reads {h : Heap} : ∀ {x : DK} {v : Value}, KIs P w h x v → ∃ as, Reads h v (DK.pd x) as
  | .leaf (.inl i), v, .leaf hv => by
    rcases keyIs_shape (show keyIs (Sum.inl i) v = true from hv) with ⟨j, t, e, rfl⟩ | ⟨y, t, e, rfl⟩
    · injection e with e
      subst e
      exact ⟨_, Reads.int _ _⟩
    · exact nomatch e
  | .leaf (.inr z), v, .leaf hv => by
    rcases keyIs_shape (show keyIs (Sum.inr z) v = true from hv) with ⟨j, t, e, rfl⟩ | ⟨y, t, e, rfl⟩
    · exact nomatch e
    · injection e with e
      subst e
      exact ⟨_, Reads.str _ _⟩
  | .tup ks, _, .tup h1 h2 h3 h4 => by
    obtain ⟨as, r⟩ := kall_reads h4
    unfold DK.pd
    exact ⟨as, Reads.tuple h1 h2 h3 r⟩
theorem kall_reads {h : Heap} : ∀ {xs : List DK} {vs : List Value}, KAll P w h xs vs → ∃ as, ReadsAll h vs (DK.pds xs) as
  | [], _, .nil => ⟨_, ReadsAll.nil⟩
  | x :: xs, _, .cons h1 h2 => by
    obtain ⟨as, r⟩ := kis_reads h1
    obtain ⟨bs, r2⟩ := kall_reads h2
    exact ⟨_, ReadsAll.cons r r2⟩
end
mutual
theorem kis_keeps {h h' : Heap} {d : Addr} {o : Obj} {es ep} (ho : h.get? d = some o) (hd : o.data = .dict es ep) (hs : Heap.SameBut d h h') : ∀ {x : DK} {v : Value}, KIs P w h x v → KIs P w h' x v
  | .leaf _, _, .leaf hv => .leaf hv
  | .tup ks, _, .tup (a := a) h1 h2 h3 h4 => by
    refine .tup ?_ h2 h3 (kall_keeps ho hd hs h4)
    have hne : a ≠ d := by
      rintro rfl
      rw [h1] at ho
      cases ho
      rw [h3] at hd
      exact nomatch hd
    exact (hs.2 a hne).trans h1
theorem kall_keeps {h h' : Heap} {d : Addr} {o : Obj} {es ep} (ho : h.get? d = some o) (hd : o.data = .dict es ep) (hs : Heap.SameBut d h h') : ∀ {xs : List DK} {vs : List Value}, KAll P w h xs vs → KAll P w h' xs vs
  | [], _, .nil => .nil
  | x :: xs, _, .cons h1 h2 => .cons (kis_keeps ho hd hs h1) (kall_keeps ho hd hs h2)
end
mutual
def kh (P : Program) (w : World) : DK → Int
  | .leaf k => (mixKind P w).hash k
  | .tup ks => reduceHash (Builtin.Tuple.tupleHashOf (khs P w ks))
def khs (P : Program) (w : World) : List DK → List Int
  | [] => []
  | k :: ks => kh P w k :: khs P w ks
end
mutual
def kdr : DK → Nat
  | .leaf _ => 1
  | .tup ks => kdrs ks + 1
def kdrs : List DK → Nat
  | [] => 0
  | k :: ks => kdr k + kdrs ks
end
theorem khs_app (a b : List DK) : khs P w (a ++ b) = khs P w a ++ khs P w b := by
  induction a with
  | nil => rfl
  | cons k a ih =>
    show kh P w k :: khs P w (a ++ b) = kh P w k :: (khs P w a ++ khs P w b)
    rw [ih]
theorem kdrs_app (a b : List DK) : kdrs (a ++ b) = kdrs a + kdrs b := by
  induction a with
  | nil => show kdrs b = 0 + kdrs b; omega
  | cons k a ih =>
    show kdr k + kdrs (a ++ b) = (kdr k + kdrs a) + kdrs b
    rw [ih]
    omega
theorem kis_hash : ∀ (n : Nat) {A : Around} {E : Value → Shared → Prop} {s : Shared} {k : DK} {v : Value} {Q : Int → Shared → Prop}, k.dep ≤ n → A.units + n < cLine → KIs P w s.heap k v → Q (kh P w k) { s with toks := s.toks + kdr k } → wpAny (model P w) A (PySem.pyHash v) Q E s := by
  intro n
  induction n with
  | zero =>
    intro A E s k v Q hn hu hk h
    cases hk with
    | leaf hv => exact (mixKind P w).pyHash hv h
    | tup _ _ _ _ =>
      unfold DK.dep at hn
      omega
  | succ n ih =>
    intro A E s k v Q hn hu hk h
    cases hk with
    | leaf hv => exact (mixKind P w).pyHash hv h
    | @tup ks a o items m ho hc hd hi =>
      have hT : s.TypeIs (.ref a) "tuple" := ⟨o, ho, hc⟩
      unfold DK.dep at hn
      unfold kh kdr at h
      unfold pyHash
      first | unfold pyHashByItsType | skip
      first | refine wpAny_bind (wpAny_cRoomFor_or (.inr (by omega)) ?_) | skip
      refine wpAny_bind (wpAny_specialOf hT F.slot_tuple_hash.lookup ?_)
      show wpAny _ _ (if (some (Value.builtin "tuple.__hash__") == some Value.none) = true then _ else _) Q E s
      rw [if_neg (by rw [beq_builtin_none]; exact Bool.false_ne_true)]
      refine wpAny_bind (wpAny_specialOf hT F.slot_tuple_hash.lookup ?_)
      show wpAny _ _ (callSpecialIfBoundUnlessNone? (.ref a) "__hash__" _ >>= _) Q E s
      refine wpAny_bind (wpAny_callSpecialIfBoundUnlessNone?_slot hT F.slot_tuple_hash (wpAny_call_entry F.slot_tuple_hash hT F.entry_tuple_hash ?_ (F.args_tuple_hash_1 _)))
      show wpAny _ _ (Builtin.Tuple.tupleItemsOf (.ref a) >>= _) _ _ s
      refine wpAny_bind (wpAny_tupleItemsOf ho hd ?_)
      refine wpAny_bind ?_
      rw [← Array.forIn_toList]
      refine wpAny_forIn_list _
        (fun rest (b : Array Int) s' => ∃ done left, ks = done ++ left ∧ KAll P w s.heap left rest ∧ b.toList = khs P w done ∧ s' = { s with toks := s.toks + kdrs done })
        _ ?_ ?_ _ _ ⟨[], ks, rfl, hi, rfl, rfl⟩
      · rintro x rest b s' ⟨done, left, rfl, hl, hb, rfl⟩
        cases hl with
        | @cons k _ ks' _ h1 hl' =>
          have hdk : k.dep ≤ n := by
            have : ∀ xs : List DK, DK.deps (xs ++ k :: ks') ≥ k.dep := fun xs => by
              induction xs with
              | nil => show max _ _ ≥ _; omega
              | cons y xs ih2 =>
                show max _ (DK.deps (xs ++ k :: ks')) ≥ _
                omega
            have := this done
            omega
          refine wpAny_bind (ih (A := A.in1) hdk (by show A.units + 1 + n < cLine; omega) h1 ?_)
          have fin : ∃ done' left', done ++ k :: ks' = done' ++ left' ∧ KAll P w s.heap left' rest ∧ (b.push (kh P w k)).toList = khs P w done' ∧ ({ s with toks := s.toks + kdrs done + kdr k } : Shared) = { s with toks := s.toks + kdrs done' } :=
            ⟨done ++ [k], ks', by simp, hl', by rw [khs_app, Array.toList_push, hb]; rfl, by rw [kdrs_app]; show _ = ({ s with toks := s.toks + (kdrs done + (kdr k + 0)) } : Shared); rw [Nat.add_zero, Nat.add_assoc]⟩
          first
            | exact wpAny_pure fin
            | exact wpAny_bind (wpAny_pure (wpAny_pure fin))
      · rintro b s' ⟨done, left, rfl, hl, hb, rfl⟩
        cases hl
        rw [List.append_nil] at h
        show wpAny _ _ (retInt (Builtin.Tuple.tupleHashOf b.toList)) _ _ _
        rw [hb]
        refine wpAny_ret_mkInt ?_
        show wpAny _ _ (if (decide (-(2 : Int) ^ 63 ≤ Builtin.Tuple.tupleHashOf (khs P w done)) && decide (Builtin.Tuple.tupleHashOf (khs P w done) < 2 ^ 63)) = true then _ else _) Q E _
        unfold reduceHash at h
        by_cases hr : (decide (-(2 : Int) ^ 63 ≤ Builtin.Tuple.tupleHashOf (khs P w done)) && decide (Builtin.Tuple.tupleHashOf (khs P w done) < 2 ^ 63)) = true
        · rw [if_pos hr]
          rw [if_pos hr] at h
          exact wpAny_pure (by simpa [Nat.add_assoc] using h)
        · rw [if_neg hr]
          rw [if_neg hr] at h
          exact wpAny_bind (wpAny_rule (wpAny_pure (by simpa [Nat.add_assoc] using h)))
theorem dep_mid {k : DK} {ks' : List DK} : ∀ xs : List DK, k.dep ≤ DK.deps (xs ++ k :: ks')
  | [] => by show _ ≤ max _ _; omega
  | y :: xs => by
    have := dep_mid (k := k) (ks' := ks') xs
    show _ ≤ max _ (DK.deps (xs ++ k :: ks'))
    omega
theorem kis_quiet : ∀ (n : Nat) {A : Around} {E : Value → Shared → Prop} {s : Shared} {k : DK} {v : Value} {Q : Bool → Shared → Prop}, k.dep ≤ n → KIs P w s.heap k v → Q true s → wpAny (model P w) A (eqIsQuiet n v) Q E s := by
  intro n
  induction n with
  | zero =>
    intro A E s k v Q hn hk h
    cases hk with
    | leaf hv =>
      rw [eqIsQuiet_byValue _ ((mixKind P w).byValue _ _ hv)]
      exact wpAny_pure h
    | tup _ _ _ _ =>
      unfold DK.dep at hn
      omega
  | succ n ih =>
    intro A E s k v Q hn hk h
    cases hk with
    | leaf hv =>
      rw [eqIsQuiet_byValue _ ((mixKind P w).byValue _ _ hv)]
      exact wpAny_pure h
    | @tup ks a o items m ho hc hd hi =>
      have hT : s.TypeIs (.ref a) "tuple" := ⟨o, ho, hc⟩
      unfold DK.dep at hn
      unfold eqIsQuiet
      refine wpAny_bind (wpAny_specialOf hT F.slot_tuple_eq.lookup ?_)
      show wpAny _ _ (isInstance (.ref a) (.type "tuple") >>= _) _ _ s
      refine wpAny_bind (wpAny_isInstance hT isSubtype_tuple_tuple ?_)
      simp only [Bool.not_true, Bool.false_eq_true, if_false]
      refine wpAny_bind (wpAny_seqItems ho hd ?_)
      refine wpAny_bind ?_
      show wpAny _ _ (forIn items _ _) _ _ s
      rw [← Array.forIn_toList]
      refine wpAny_forIn_list _ (fun rest r s' => r.1 = none ∧ s' = s ∧ ∃ done left, ks = done ++ left ∧ KAll P w s.heap left rest) _ ?_ ?_ _ _ ⟨rfl, rfl, [], ks, rfl, hi⟩
      · rintro v rest r s' ⟨hr, rfl, done, left, rfl, hl⟩
        cases hl with
        | @cons k _ ks' _ h1 hl' =>
          have hdk := dep_mid (k := k) (ks' := ks') done
          refine wpAny_bind (ih (show k.dep ≤ n by omega) h1 ?_)
          simp only [Bool.not_true, Bool.false_eq_true, if_false]
          exact wpAny_pure ⟨rfl, rfl, done ++ [k], ks', by simp, hl'⟩
      · rintro ⟨r1, r2⟩ s' ⟨hr, rfl, _⟩
        simp only at hr
        subst hr
        exact wpAny_pure h
/-- the keys a dict may have: tuples in tuples, six deep at most -/
def KOk (k : DK) : Prop := k.dep ≤ 6 ∧ (DK.pd k).canLay0 = true
def nestKind (P : Program) (w : World) : HeapKind P w DK where
  is := fun h k a => KIs P w h k (.ref a) ∧ KOk k
  hash := kh P w
  draws := kdr
  room := fun A => A.units + 8 < cLine
  inj := fun hx hy => kis_inj hx.1 hy.1
  keeps := fun x ho hd hs => ⟨kis_keeps ho hd hs x.1, x.2⟩
  pyHash := fun hu hk h => kis_hash 6 hk.2.1 (by omega) hk.1 h
  eqBool := fun {A E s x y a b Q} hu hx hy h => by
    obtain ⟨as, r1⟩ := kis_reads hx.1
    obtain ⟨bs, r2⟩ := kis_reads hy.1
    have hd := hx.2.1
    have hp := pd_dep x
    have e := SeqAt.eqAt_reads (DK.pd x) (DK.pd y) A s _ _ as bs r1 r2 hx.2.2 hy.2.2 (by omega)
    rw [pd_eqv, beq_dec] at e
    exact e _ _ _ _ h
  quiet := fun hk h => kis_quiet 8 (Nat.le_trans hk.2.1 (by decide)) hk.1 h
end
end Hm

set_option Elab.async false
set_option linter.all false
set_option maxRecDepth 100000
set_option maxHeartbeats 1000000
/-! dicts whose keys are tuples in tuples: the layer's rules -/
namespace Hm
open PySem PySem.Spec PyProof.Rows L2
mutual
/-- a key as it lies in the heap -/
def KRep (K : PySem.W.Frag) (H : Hp) : DK → V → Prop
  | .leaf (.inl i), v => v = .int i
  | .leaf (.inr s), v => v = .str s
  | .tup ks, v => ∃ a vs, v = .ref a ∧ SqT K H a vs ∧ KReps K H ks vs
def KReps (K : PySem.W.Frag) (H : Hp) : List DK → List V → Prop
  | [], vs => vs = []
  | k :: ks, vs => ∃ v ws, vs = v :: ws ∧ KRep K H k v ∧ KReps K H ks ws
end
section
variable {X : Cx} {pins : List (Addr × Obj)} {σ : L2.St} {H : Hp} {s : Shared}
mutual
theorem kis_of (I : Inv X pins σ H s) : ∀ {k : DK} {v : V} {u : Value}, KRep X.K H k v → RelV v u → KIs X.prog X.w s.heap k u
  | .leaf (.inl i), v, u, h, r => by
    unfold KRep at h
    subst h
    exact .leaf (kV_is (k := Sum.inl i) r)
  | .leaf (.inr z), v, u, h, r => by
    unfold KRep at h
    subst h
    exact .leaf (kV_is (k := Sum.inr z) r)
  | .tup ks, v, u, h, r => by
    unfold KRep at h
    obtain ⟨a, vs, rfl, hT, hk⟩ := h
    obtain rfl : u = Value.ref a := r
    obtain ⟨its, rv, ⟨o, ho, hc, n, hd⟩, _⟩ := I.tuple hT
    exact .tup ho hc hd (by rw [List.toList_toArray]; exact kall_of I hk rv)
theorem kall_of (I : Inv X pins σ H s) : ∀ {ks : List DK} {vs : List V} {us : List Value}, KReps X.K H ks vs → Vals vs us → KAll X.prog X.w s.heap ks us
  | [], vs, us, h, r => by
    unfold KReps at h
    subst h
    cases r
    exact .nil
  | k :: ks, vs, us, h, r => by
    unfold KReps at h
    obtain ⟨v, ws, rfl, h1, h2⟩ := h
    cases r with
    | cons r1 r2 => exact .cons (kis_of I h1 r1) (kall_of I h2 r2)
end
end
abbrev NKV := DK × Addr × V
def NT : List NKV → List (DK × Addr × Value) → Prop := PySem.Paired (fun (p : NKV) (q : DK × Addr × Value) => p.1 = q.1 ∧ p.2.1 = q.2.1 ∧ RelV p.2.2 q.2.2)
/-- the dict at d, its entries told: key, the key's tuple, value -/
def DN (P : Program) (w : World) (d : Addr) (kvs : List NKV) : HO := .ext fun h => kvs.length ≤ sizeLine ∧ (d == sysModules) = false ∧ ∃ xs, NT kvs xs ∧
  ∃ o es ep, h.get? d = some o ∧ o.ExactDict ∧ o.data = .dict es ep ∧ es.toList = xs.map (entryOfKey (nestKind P w)) ∧ (xs.map (·.1)).Nodup
def valN (kvs : List NKV) (k : DK) : Option V := (kvs.find? fun e => decide (e.1 = k)).map (·.2.2)
def putN (kvs : List NKV) (k : DK) (a : Addr) (v : V) : List NKV := if (valN kvs k).isSome = true then kvs.map (fun e => if e.1 = k then (e.1, e.2.1, v) else e) else kvs ++ [(k, a, v)]
def KeysOk (K : PySem.W.Frag) (H : Hp) (kvs : List NKV) : Prop := ∀ e ∈ kvs, KRep K H e.1 (.ref e.2.1) ∧ KOk e.1
theorem NT.val {kvs : List NKV} {xs : List (DK × Addr × Value)} (r : NT kvs xs) (k : DK) : RelO (valN kvs k) ((atKey xs k).map (·.2)) := by
  unfold NT at r
  induction r with
  | nil => exact True.intro
  | @cons p q ps qs h t ih =>
    obtain ⟨h1, _, h2⟩ := h
    by_cases e : p.1 = k
    · have e' : q.1 = k := h1.symm.trans e
      have b : atKey (q :: qs) k = some q.2 := by simp [atKey, List.find?_cons, e']
      have c : valN (p :: ps) k = some p.2.2 := by simp [valN, List.find?_cons, e]
      rw [b, c]; exact h2
    · have e' : ¬ q.1 = k := fun z => e (h1.trans z)
      have b : atKey (q :: qs) k = atKey qs k := by simp [atKey, List.find?_cons, e']
      have c : valN (p :: ps) k = valN ps k := by simp [valN, List.find?_cons, e]
      rw [b, c]; exact ih
theorem NT.some_eq {kvs : List NKV} {xs : List (DK × Addr × Value)} (r : NT kvs xs) (k : DK) : (valN kvs k).isSome = (atKey xs k).isSome := by
  have q := (r.val k).isSome_eq
  rw [Option.isSome_map] at q
  exact q
theorem NT.put {kvs : List NKV} {xs : List (DK × Addr × Value)} (r : NT kvs xs) (k : DK) {a : Addr} {v : V} {u : Value} (rv : RelV v u) : NT (putN kvs k a v) (storedH xs k a u) := by
  unfold putN storedH
  rw [r.some_eq k]
  by_cases q : (atKey xs k).isSome = true
  · rw [if_pos q, if_pos q]
    clear q
    unfold NT at r ⊢
    induction r with
    | nil => exact .nil
    | @cons p q ps qs h t ih =>
      rw [List.map_cons, List.map_cons]
      refine .cons ?_ ih
      obtain ⟨h1, h2, h3⟩ := h
      unfold putAt
      by_cases e : p.1 = k
      · rw [if_pos e, if_pos (h1.symm.trans e)]; exact ⟨h1, h2, rv⟩
      · rw [if_neg e, if_neg (fun z => e (h1.trans z))]; exact ⟨h1, h2, h3⟩
  · rw [if_neg q, if_neg q]
    exact Paired.snoc r ⟨rfl, rfl, rv⟩
theorem putN_len (kvs : List NKV) (k : DK) (a : Addr) (v : V) : (putN kvs k a v).length ≤ kvs.length + 1 := by
  unfold putN
  split
  · rw [List.length_map]; omega
  · rw [List.length_append]; exact Nat.le_refl _
section
variable {X : Cx} {pins : List (Addr × Obj)} {σ : L2.St} {H : Hp} {s : Shared} {A : Around} {E : Value → Shared → Prop} {d a : Addr} {kvs : List NKV} {k : DK}
theorem dn_of (I : Inv X pins σ H s) (e : H d = some (DN X.prog X.w d kvs)) (ok : KeysOk X.K H kvs) : kvs.length ≤ sizeLine ∧ (d == sysModules) = false ∧ ∃ xs, NT kvs xs ∧ s.heap.DictOfH (nestKind X.prog X.w) d xs := by
  obtain ⟨⟨z, y, xs, r, o, es, ep, h1, h2, h3, h4, h5⟩, _, _⟩ := I.hok d _ e
  refine ⟨z, y, xs, r, o, es, ep, h1, h2, h3, h4, fun x hx => ?_, h5⟩
  have all : ∀ {l : List NKV} {m : List (DK × Addr × Value)}, NT l m → (∀ e ∈ l, KRep X.K H e.1 (.ref e.2.1) ∧ KOk e.1) → ∀ x ∈ m, (nestKind X.prog X.w).is s.heap x.1 x.2.1 := by
    intro l m q
    unfold NT at q
    induction q with
    | nil => intro _ x hx; exact nomatch hx
    | @cons p q ps qs hq t ih =>
      intro hl x hx
      rcases List.mem_cons.mp hx with e | hx
      · subst e
        have := hl p List.mem_cons_self
        rw [hq.1, hq.2.1] at this
        exact ⟨kis_of I this.1 rfl, this.2⟩
      · exact ih (fun e he => hl e (List.mem_cons_of_mem _ he)) x hx
  exact all r ok x hx
theorem dn_in {Q : Value → Shared → Prop} (hu : A.units + 16 < cLine) (I : Inv X pins σ H s) (e : H d = some (DN X.prog X.w d kvs)) (ok : KeysOk X.K H kvs) (hk : KRep X.K H k (.ref a)) (ho : KOk k) (h : ∀ s', Inv X pins σ H s' → Q (.bool (valN kvs k).isSome) s') :
    wpAny (model X.prog X.w) A (compareOp .In (.ref a) (.ref d)) Q E s := by
  obtain ⟨z, hd, xs, rel, dd⟩ := dn_of I e ok
  refine wpAny_in_heap (knd := nestKind X.prog X.w) (show A.units + 1 + 8 < cLine by omega) ⟨kis_of I hk rfl, ho⟩ hd dd ?_
  rw [← rel.some_eq k]
  exact h _ (I.tok _)
theorem dn_notIn {Q : Value → Shared → Prop} (hu : A.units + 16 < cLine) (I : Inv X pins σ H s) (e : H d = some (DN X.prog X.w d kvs)) (ok : KeysOk X.K H kvs) (hk : KRep X.K H k (.ref a)) (ho : KOk k) (h : ∀ s', Inv X pins σ H s' → Q (.bool (!(valN kvs k).isSome)) s') :
    wpAny (model X.prog X.w) A (compareOp .NotIn (.ref a) (.ref d)) Q E s := by
  obtain ⟨z, hd, xs, rel, dd⟩ := dn_of I e ok
  refine wpAny_notIn_heap (knd := nestKind X.prog X.w) (show A.units + 1 + 8 < cLine by omega) ⟨kis_of I hk rfl, ho⟩ hd dd ?_
  rw [← rel.some_eq k]
  exact h _ (I.tok _)
theorem dn_get {v : V} {Q : Value → Shared → Prop} (hu : A.units + 16 < cLine) (I : Inv X pins σ H s) (e : H d = some (DN X.prog X.w d kvs)) (ok : KeysOk X.K H kvs) (hk : KRep X.K H k (.ref a)) (ho : KOk k) (hv : valN kvs k = some v) (h : ∀ w' s', Inv X pins σ H s' → RelV v w' → Q w' s') :
    wpAny (model X.prog X.w) A (getItem (.ref d) (.ref a)) Q E s := by
  obtain ⟨z, hd, xs, rel, dd⟩ := dn_of I e ok
  obtain ⟨w', hw, rw'⟩ := RelO.some_of (v := v) (o := (atKey xs k).map (·.2)) (by rw [← hv]; exact rel.val k)
  obtain ⟨p, hp, hp2⟩ := Option.map_eq_some_iff.mp hw
  refine wpAny_getItem_heap (knd := nestKind X.prog X.w) (show A.units + 1 + 8 < cLine by omega) ⟨kis_of I hk rfl, ho⟩ dd hp ?_
  rw [hp2]
  exact h w' _ (I.tok _) rw'
theorem dn_set {v : V} {r : Value} {Q : Unit → Shared → Prop} (hu : A.units + 16 < cLine) (I : Inv X pins σ H s) (e : H d = some (DN X.prog X.w d kvs)) (ok : KeysOk X.K H kvs) (hk : KRep X.K H k (.ref a)) (ho : KOk k) (hl : kvs.length < sizeLine) (rv : RelV v r)
    (h : ∀ s', Inv X pins σ (upd H d (DN X.prog X.w d (putN kvs k a v))) s' → Q () s') : wpAny (model X.prog X.w) A (setItem (.ref d) (.ref a) r) Q E s := by
  obtain ⟨z, hd, xs, rel, dd⟩ := dn_of I e ok
  have hz : xs.length ≤ sizeLine := by rw [← Paired.length rel]; exact z
  refine wpAny_setItem_heap (knd := nestKind X.prog X.w) (hsz := hz) (show A.units + 1 + 8 < cLine by omega) ⟨kis_of I hk rfl, ho⟩ dd fun h' dd' hs => h _ ?_
  obtain ⟨q, es, ep, hq, h2, h3, h4, _, h5⟩ := dd'
  have hl2 := putN_len kvs k a v
  refine d_write I (by rw [e]; exact True.intro) hs ⟨q, hq⟩ ⟨⟨by omega, hd, _, rel.put k rv, q, es, ep, hq, h2, h3, h4, h5⟩, ⟨q, hq⟩, fun h1 h2 ⟨g1, g2, ys, g3, o, es, ep, g4, g5⟩ st => ⟨g1, g2, ys, g3, o, es, ep, st _ g4, g5⟩⟩
end
/-! ### the rules, by expression -/
def tNNew (P : Program) (w : World) : TE := fun _ H Q => ∀ p, H p = none → Q (.ref p) (upd H p (DN P w p []))
/-- what is asked of a dict d and a key's tuple -/
def NAsk (P : Program) (w : World) (K : PySem.W.Frag) (H : Hp) (x y : V) (d a : Addr) (kvs : List NKV) (k : DK) : Prop := x = .ref d ∧ y = .ref a ∧ H d = some (DN P w d kvs) ∧ KeysOk K H kvs ∧ KRep K H k (.ref a) ∧ KOk k
def tNIn (P : Program) (w : World) (K : PySem.W.Frag) (ty td : TE) : TE := fun σ H Q => ty σ H fun y H1 => td σ H1 fun x H2 => ∃ d a kvs k, NAsk P w K H2 x y d a kvs k ∧ Q (.bl (valN kvs k).isSome) H2
def tNNotIn (P : Program) (w : World) (K : PySem.W.Frag) (ty td : TE) : TE := fun σ H Q => ty σ H fun y H1 => td σ H1 fun x H2 => ∃ d a kvs k, NAsk P w K H2 x y d a kvs k ∧ Q (.bl (!(valN kvs k).isSome)) H2
def tNGet (P : Program) (w : World) (K : PySem.W.Frag) (td ty : TE) : TE := fun σ H Q => td σ H fun x H1 => ty σ H1 fun y H2 => ∃ d a kvs k v, NAsk P w K H2 x y d a kvs k ∧ valN kvs k = some v ∧ Q v H2
def sNPut (P : Program) (w : World) (K : PySem.W.Frag) (td ty tv : TE) : TS := fun D σ H => tv σ H fun v H1 => td σ H1 fun x H2 => ty σ H2 fun y H3 => ∃ d a kvs k, NAsk P w K H3 x y d a kvs k ∧ kvs.length < sizeLine ∧ D.nx σ (upd H3 d (DN P w d (putN kvs k a v)))
section
variable {X : Cx} {o i value : Expr} {td ty tv : TE} {pos pos' : Pos}
theorem dn_empty {P : Program} {w : World} {H : Hp} (h : Heap) (hb : sysModules < h.objs.size) : ObjOk P w H (h.push { cls := .type "dict", data := .dict #[] }) h.objs.size (DN P w h.objs.size []) :=
  ⟨⟨Nat.zero_le _, beq_eq_false_iff_ne.mpr (Ne.symm (Nat.ne_of_lt hb)), [], .nil, _, #[], 0, Heap.get?_push_size _ rfl, ⟨rfl, rfl, rfl⟩, rfl, rfl, List.nodup_nil⟩, ⟨_, Heap.get?_push_size _ rfl⟩,
    fun h1 h2 ⟨g1, g2, ys, g3, o, es, ep, g4, g5⟩ st => ⟨g1, g2, ys, g3, o, es, ep, st _ g4, g5⟩⟩
theorem pe_nnew : PE X (.Dict [] [] pos) (tNNew X.prog X.w) := ⟨fun pins s σ H Q I h =>
  wpAny_Dict_empty ⟨.ref s.heap.objs.size, _, I.laid (a := s.heap.objs.size) (o := DN X.prog X.w s.heap.objs.size []) (t' := s.toks) (fun _ _ q => Heap.get?_push_of_some _ q) (Nat.le_refl _) (dn_empty s.heap I.big), rfl, h _ (I.hok.fresh (Nat.le_refl _))⟩⟩
theorem pc_nin (hu : X.A.units + 16 < cLine) (hi : PE X i ty) (ho : PE X o td) : PC X .In i o (tNIn X.prog X.w X.K ty td) := by
  refine ⟨fun pins s σ H Q I h => ?_⟩
  refine thn (hi.run pins s σ H _ I h) fun iv s1 ⟨y, H1, I1, ry, q1⟩ => thn (ho.run pins s1 σ H1 _ I1 q1) fun u s2 ⟨x, H2, I2, rx, d, a, kvs, k, ⟨ex, ey, e, ok, hk, hko⟩, q2⟩ => ?_
  subst ex ey
  obtain rfl : u = Value.ref d := rx
  obtain rfl : iv = Value.ref a := ry
  exact dn_in hu I2 e ok hk hko fun s3 I3 => ⟨.bl (valN kvs k).isSome, H2, I3, rfl, q2⟩
theorem pc_nnotin (hu : X.A.units + 16 < cLine) (hi : PE X i ty) (ho : PE X o td) : PC X .NotIn i o (tNNotIn X.prog X.w X.K ty td) := by
  refine ⟨fun pins s σ H Q I h => ?_⟩
  refine thn (hi.run pins s σ H _ I h) fun iv s1 ⟨y, H1, I1, ry, q1⟩ => thn (ho.run pins s1 σ H1 _ I1 q1) fun u s2 ⟨x, H2, I2, rx, d, a, kvs, k, ⟨ex, ey, e, ok, hk, hko⟩, q2⟩ => ?_
  subst ex ey
  obtain rfl : u = Value.ref d := rx
  obtain rfl : iv = Value.ref a := ry
  exact dn_notIn hu I2 e ok hk hko fun s3 I3 => ⟨.bl (!(valN kvs k).isSome), H2, I3, rfl, q2⟩
theorem pe_nget (hu : X.A.units + 16 < cLine) (ho : PE X o td) (hi : PE X i ty) (hs : NoSl i) : PE X (.Subscript o i pos) (tNGet X.prog X.w X.K td ty) := by
  refine ⟨fun pins s σ H Q I h => ?_⟩
  refine subD_of PySem.F.slot_dict_getitem.lookup hs (thn (ho.run pins s σ H _ I h) fun u s1 ⟨x, H1, I1, rx, q1⟩ => thn (hi.run pins s1 σ H1 _ I1 q1) fun iv s2 ⟨y, H2, I2, ry, d, a, kvs, k, v, ⟨ex, ey, e, ok, hk, hko⟩, hv, q2⟩ => ?_)
  subst ex ey
  obtain rfl : u = Value.ref d := rx
  obtain rfl : iv = Value.ref a := ry
  obtain ⟨_, _, _, _, dd⟩ := dn_of I2 e ok
  exact ⟨dd.typeIs, dn_get hu I2 e ok hk hko hv fun w' s3 I3 rw' => ⟨v, H2, I3, rw', q2⟩⟩
theorem ps_nput (hu : X.A.units + 16 < cLine) (ho : PE X o td) (hi : PE X i ty) (hv : PE X value tv) (hs : swapsWith value (some (.Subscript o i pos')) pos.line X.env = pure false) :
    PS X (.Assign [.Subscript o i pos'] value pos) (sNPut X.prog X.w X.K td ty tv) := by
  refine ⟨fun pins s σ H D I h => ?_⟩
  refine wpAny_Assign_Subscript (thn (hv.run pins s σ H _ I h) fun r s1 ⟨v, H1, I1, rv, q1⟩ => thn (ho.run pins s1 σ H1 _ I1 q1) fun u s2 ⟨x, H2, I2, rx, q2⟩ => thn (hi.run pins s2 σ H2 _ I2 q2) fun iv s3 ⟨y, H3, I3, ry, d, a, kvs, k, ⟨ex, ey, e, ok, hk, hko⟩, hl, q3⟩ => ?_) hs
  subst ex ey
  obtain rfl : u = Value.ref d := rx
  obtain rfl : iv = Value.ref a := ry
  exact dn_set hu I3 e ok hk hko hl rv fun s4 I4 => ⟨σ, _, I4, q3⟩
end
end Hm

set_option Elab.async false
set_option linter.all false
set_option maxRecDepth 100000
set_option maxHeartbeats 4000000
namespace Hm
open PySem PySem.Spec PyProof.Rows L2 HT
/-- a def of the text as it stands behind the top -/
structure Df (K : PySem.W.Frag) (mg : Str → Option Value) (x : Str) (st : Stmt) (ps : List Str) (ds : List Value) (f : Addr) (fd : FuncData) : Prop where
  F : Fun K x x st f fd
  b : Binds K fd ps ds
  m : mg x = some (.ref f)
theorem cl {X : Cx} {x : Str} {f : Addr} {fd : FuncData} {ps : List Str} {sp : Sp} {j k : Nat} {st : Stmt} {e : Expr} {es : List Expr} {t : TA} {p pos : Pos} (G : FnOk X.prog X.w X.K X.mg X.base CX0 k f fd ps sp) (D : Df X.K X.mg x st ps [] f fd) (hr : Room j X.A) (ha : PA X (e :: es) t)
    (hj : k ≤ j := by first | decide | omega) (hg : Gl X x := by rfl) (hd : (x == ("__debug__" : Str)) = false := by decide) (hs : starEach (e :: es) X.env = (false, eval e X.env) :: starEach es X.env := by rfl) (hst : (backTo pos (starEach es X.env)).any (·.1) = false := by rfl) : PE X (.Call (.Name x p) (e :: es) [] pos) (tCall sp [] E0 t) :=
  pe_call G (hr.mono hj) hg D.m D.F.kp D.b .nil pass0 ha (hdb := hd) (he := hs) (hpl := hst)
/-- a def with default values -/
structure DfD (K : PySem.W.Frag) (mg : Str → Option Value) (x : Str) (st : Stmt) (ps : List Str) (dvs : List V) (f : Addr) (fd : FuncData) : Prop where
  F : FunD K x x (defArgs st) (defBody st) (defScope st) dvs [] f fd
  m : mg x = some (.ref f)
  b : ∃ ds, Vals dvs ds ∧ Binds K fd ps ds
theorem cld {X : Cx} {x : Str} {f : Addr} {fd : FuncData} {ps : List Str} {sp : Sp} {j k : Nat} {st : Stmt} {dvs : List V} {e : Expr} {es : List Expr} {t : TA} {p pos : Pos} (G : FnOk X.prog X.w X.K X.mg X.base CX0 k f fd ps sp) (D : DfD X.K X.mg x st ps dvs f fd) (hr : Room j X.A) (ha : PA X (e :: es) t)
    (hj : k ≤ j := by first | decide | omega) (hg : Gl X x := by rfl) (hd : (x == ("__debug__" : Str)) = false := by decide) (hs : starEach (e :: es) X.env = (false, eval e X.env) :: starEach es X.env := by rfl) (hst : (backTo pos (starEach es X.env)).any (·.1) = false := by rfl) : PE X (.Call (.Name x p) (e :: es) [] pos) (tCall sp dvs E0 t) := by
  obtain ⟨ds, hv, hb⟩ := D.b
  exact pe_call G (hr.mono hj) hg D.m D.F.kp hb hv pass0 ha (hdb := hd) (he := hs) (hpl := hst)

def top (i : Nat) : Stmt := PySem.Challenge.pw_hornmill_k52_whole_ends_and_what_contain.main.body.getD i (.Pass ⟨0, 0, 0, 0⟩)
abbrev s_is_integer : Stmt := top 12
theorem sc_is_integer : FnScope ["thing"] ["thing"] (defScope s_is_integer) := ⟨rfl, rfl, rfl, by decide +kernel, rfl, by decide +kernel, by decide +kernel⟩
abbrev s_is_sign : Stmt := top 13
theorem sc_is_sign : FnScope ["sign"] ["sign"] (defScope s_is_sign) := ⟨rfl, rfl, rfl, by decide +kernel, rfl, by decide +kernel, by decide +kernel⟩
abbrev s_is_atom : Stmt := top 14
theorem sc_is_atom : FnScope ["thing", "sign"] ["thing"] (defScope s_is_atom) := ⟨rfl, rfl, rfl, by decide +kernel, rfl, by decide +kernel, by decide +kernel⟩
abbrev s_is_number : Stmt := top 15
theorem sc_is_number : FnScope ["thing"] ["thing"] (defScope s_is_number) := ⟨rfl, rfl, rfl, by decide +kernel, rfl, by decide +kernel, by decide +kernel⟩
abbrev s_is_term : Stmt := top 16
theorem sc_is_term : FnScope ["thing", "waiting", "part"] ["thing"] (defScope s_is_term) := ⟨rfl, rfl, rfl, by decide +kernel, rfl, by decide +kernel, by decide +kernel⟩
abbrev s_is_part : Stmt := top 17
theorem sc_is_part : FnScope ["thing"] ["thing"] (defScope s_is_part) := ⟨rfl, rfl, rfl, by decide +kernel, rfl, by decide +kernel, by decide +kernel⟩
abbrev s_arguments_of : Stmt := top 20
theorem sc_arguments_of : FnScope ["part"] ["part"] (defScope s_arguments_of) := ⟨rfl, rfl, rfl, by decide +kernel, rfl, by decide +kernel, by decide +kernel⟩
abbrev s_is_variable : Stmt := top 19
theorem sc_is_variable : FnScope ["part"] ["part"] (defScope s_is_variable) := ⟨rfl, rfl, rfl, by decide +kernel, rfl, by decide +kernel, by decide +kernel⟩
abbrev s_demand_term : Stmt := top 18
theorem sc_demand_term : FnScope ["term"] ["term"] (defScope s_demand_term) := ⟨rfl, rfl, rfl, by decide +kernel, rfl, by decide +kernel, by decide +kernel⟩
abbrev s_is_address : Stmt := top 23
theorem sc_is_address : FnScope ["value"] ["value"] (defScope s_is_address) := ⟨rfl, rfl, rfl, by decide +kernel, rfl, by decide +kernel, by decide +kernel⟩
abbrev s_is_cell : Stmt := top 24
theorem sc_is_cell : FnScope ["value"] ["value"] (defScope s_is_cell) := ⟨rfl, rfl, rfl, by decide +kernel, rfl, by decide +kernel, by decide +kernel⟩
abbrev s_is_pair_cell : Stmt := top 25
theorem sc_is_pair_cell : FnScope ["word", "what"] ["word", "what"] (defScope s_is_pair_cell) := ⟨rfl, rfl, rfl, by decide +kernel, rfl, by decide +kernel, by decide +kernel⟩
abbrev s_demand_cell : Stmt := top 26
theorem sc_demand_cell : FnScope ["value"] ["value"] (defScope s_demand_cell) := ⟨rfl, rfl, rfl, by decide +kernel, rfl, by decide +kernel, by decide +kernel⟩
abbrev s_leaf_cell : Stmt := top 29
theorem sc_leaf_cell : FnScope ["term", "names"] ["term", "names"] (defScope s_leaf_cell) := ⟨rfl, rfl, rfl, by decide +kernel, rfl, by decide +kernel, by decide +kernel⟩
abbrev s_law_cell_at : Stmt := top 31
theorem sc_law_cell_at : FnScope ["_law_script", "_law_k"] ["_law_script", "_law_k"] (defScope s_law_cell_at) := ⟨rfl, rfl, rfl, by decide +kernel, rfl, by decide +kernel, by decide +kernel⟩
abbrev s_law_well : Stmt := top 32
theorem sc_law_well : FnScope ["_law_cell"] ["_law_cell"] (defScope s_law_well) := ⟨rfl, rfl, rfl, by decide +kernel, rfl, by decide +kernel, by decide +kernel⟩
abbrev s_law_draw : Stmt := top 33
theorem sc_law_draw : FnScope ["_law_well_here", "_law_many", "_law_found", "_law_salt", "_law_base", "_law_number"] ["_law_well_here", "_law_many"] (defScope s_law_draw) := ⟨rfl, rfl, rfl, by decide +kernel, rfl, by decide +kernel, by decide +kernel⟩
abbrev s_law_one : Stmt := top 34
theorem sc_law_one : FnScope ["_law_well_here", "_law_some"] ["_law_well_here", "_law_some"] (defScope s_law_one) := ⟨rfl, rfl, rfl, by decide +kernel, rfl, by decide +kernel, by decide +kernel⟩
abbrev s_law_term : Stmt := top 35
theorem sc_law_term : FnScope ["_law_well_here", "_law_deep", "_law_many", "_law_way", "_law_name", "_law_count", "_law_k"] ["_law_well_here", "_law_deep", "_law_many"] (defScope s_law_term) := ⟨rfl, rfl, rfl, by decide +kernel, rfl, by decide +kernel, by decide +kernel⟩
abbrev s_law_walk : Stmt := top 36
theorem sc_law_walk : FnScope ["_law_term_here", "_law_bound", "_law_k"] ["_law_term_here", "_law_bound"] (defScope s_law_walk) := ⟨rfl, rfl, rfl, by decide +kernel, rfl, by decide +kernel, by decide +kernel⟩
abbrev s_law_has : Stmt := top 37
theorem sc_law_has : FnScope ["_law_number", "_law_term_here", "_law_bound", "_law_part"] ["_law_number", "_law_term_here", "_law_bound"] (defScope s_law_has) := ⟨rfl, rfl, rfl, by decide +kernel, rfl, by decide +kernel, by decide +kernel⟩
abbrev s_law_whole : Stmt := top 39
theorem sc_law_whole : FnScope ["_law_term_here", "_law_bound", "_law_part"] ["_law_term_here", "_law_bound"] (defScope s_law_whole) := ⟨rfl, rfl, rfl, by decide +kernel, rfl, by decide +kernel, by decide +kernel⟩
abbrev s_law_parts : Stmt := top 41
theorem sc_law_parts : FnScope ["_law_term_here", "_law_part"] ["_law_term_here"] (defScope s_law_parts) := ⟨rfl, rfl, rfl, by decide +kernel, rfl, by decide +kernel, by decide +kernel⟩
abbrev s_law_chain : Stmt := top 42
theorem sc_law_chain : FnScope ["_law_well_here", "_law_store", "_law_cell", "_law_k", "_law_place"] ["_law_well_here", "_law_store", "_law_cell"] (defScope s_law_chain) := ⟨rfl, rfl, rfl, by decide +kernel, rfl, by decide +kernel, by decide +kernel⟩
abbrev s_law_bind_some : Stmt := top 43
theorem sc_law_bind_some : FnScope ["_law_well_here", "_law_store", "_law_names", "_law_bound", "_law_number", "_law_term_here"] ["_law_well_here", "_law_store", "_law_names", "_law_bound"] (defScope s_law_bind_some) := ⟨rfl, rfl, rfl, by decide +kernel, rfl, by decide +kernel, by decide +kernel⟩
abbrev s_law : Stmt := top 44
theorem sc_law : FnScope ["_law_script", "_law_cell", "_law_well_here", "_law_store", "_law_names", "_law_bound", "_law_number", "_law_turn", "_law_term_here", "_law_made", "_law_led", "_law_kept", "_law_plain", "_law_told"] ["_law_script"] (defScope s_law) := ⟨rfl, rfl, rfl, by decide +kernel, rfl, by decide +kernel, by decide +kernel⟩
abbrev s_St_init : Stmt := inClass (top 28) 0
theorem sc_St_init : FnScope ["self"] ["self"] (defScope s_St_init) := ⟨rfl, rfl, rfl, by decide +kernel, rfl, by decide +kernel, by decide +kernel⟩
abbrev s_St_heap : Stmt := inClass (top 28) 1
theorem sc_St_heap : FnScope ["self"] ["self"] (defScope s_St_heap) := ⟨rfl, rfl, rfl, by decide +kernel, rfl, by decide +kernel, by decide +kernel⟩
abbrev s_St_trail : Stmt := inClass (top 28) 2
theorem sc_St_trail : FnScope ["self"] ["self"] (defScope s_St_trail) := ⟨rfl, rfl, rfl, by decide +kernel, rfl, by decide +kernel, by decide +kernel⟩
abbrev s_St_size : Stmt := inClass (top 28) 3
theorem sc_St_size : FnScope ["self"] ["self"] (defScope s_St_size) := ⟨rfl, rfl, rfl, by decide +kernel, rfl, by decide +kernel, by decide +kernel⟩
abbrev s_St_end : Stmt := inClass (top 28) 5
theorem sc_St_end : FnScope ["self", "cell"] ["self", "cell"] (defScope s_St_end) := ⟨rfl, rfl, rfl, by decide +kernel, rfl, by decide +kernel, by decide +kernel⟩
abbrev s_St_new : Stmt := inClass (top 28) 6
theorem sc_St_new : FnScope ["self", "address"] ["self"] (defScope s_St_new) := ⟨rfl, rfl, rfl, by decide +kernel, rfl, by decide +kernel, by decide +kernel⟩
abbrev s_St_put : Stmt := inClass (top 28) 7
theorem sc_St_put : FnScope ["self", "cell"] ["self", "cell"] (defScope s_St_put) := ⟨rfl, rfl, rfl, by decide +kernel, rfl, by decide +kernel, by decide +kernel⟩
abbrev s_St_fill : Stmt := inClass (top 28) 8
theorem sc_St_fill : FnScope ["self", "k", "cell"] ["self", "k", "cell"] (defScope s_St_fill) := ⟨rfl, rfl, rfl, by decide +kernel, rfl, by decide +kernel, by decide +kernel⟩
abbrev s_St_bind : Stmt := inClass (top 28) 11
theorem sc_St_bind : FnScope ["self", "address", "cell"] ["self", "address", "cell"] (defScope s_St_bind) := ⟨rfl, rfl, rfl, by decide +kernel, rfl, by decide +kernel, by decide +kernel⟩
abbrev s_St_build : Stmt := inClass (top 28) 13
theorem sc_St_build : FnScope ["self", "term", "names", "cell", "waiting", "written", "last", "compound", "inner"] ["self", "term", "names"] (defScope s_St_build) := ⟨rfl, rfl, rfl, by decide +kernel, rfl, by decide +kernel, by decide +kernel⟩
abbrev s_St_read : Stmt := inClass (top 28) 14
theorem sc_St_read : FnScope ["self", "cells", "cell", "numbers", "known", "done", "waiting", "is_read", "inner"] ["self", "cells"] (defScope s_St_read) := ⟨rfl, rfl, rfl, by decide +kernel, rfl, by decide +kernel, by decide +kernel⟩
abbrev s_St_compound : Stmt := inClass (top 28) 15
theorem sc_St_compound : FnScope ["self", "cell", "done", "name", "many", "inner"] ["self", "cell", "done"] (defScope s_St_compound) := ⟨rfl, rfl, rfl, by decide +kernel, rfl, by decide +kernel, by decide +kernel⟩
abbrev s_St_contains : Stmt := inClass (top 28) 16
theorem sc_St_contains : FnScope ["self", "address", "cell"] ["self", "address", "cell"] (defScope s_St_contains) := ⟨rfl, rfl, rfl, by decide +kernel, rfl, by decide +kernel, by decide +kernel⟩
abbrev s_St_demand_place : Stmt := inClass (top 28) 19
theorem sc_St_demand_place : FnScope ["self", "address"] ["self", "address"] (defScope s_St_demand_place) := ⟨rfl, rfl, rfl, by decide +kernel, rfl, by decide +kernel, by decide +kernel⟩
abbrev s_St_look : Stmt := inClass (top 28) 20
theorem sc_St_look : FnScope ["self", "address"] ["self", "address"] (defScope s_St_look) := ⟨rfl, rfl, rfl, by decide +kernel, rfl, by decide +kernel, by decide +kernel⟩
abbrev s_St_change : Stmt := inClass (top 28) 21
theorem sc_St_change : FnScope ["self", "address", "cell"] ["self", "address", "cell"] (defScope s_St_change) := ⟨rfl, rfl, rfl, by decide +kernel, rfl, by decide +kernel, by decide +kernel⟩
abbrev s_St_assign : Stmt := inClass (top 28) 22
theorem sc_St_assign : FnScope ["self", "address", "cell"] ["self", "address", "cell"] (defScope s_St_assign) := ⟨rfl, rfl, rfl, by decide +kernel, rfl, by decide +kernel, by decide +kernel⟩
abbrev s_St_follow : Stmt := inClass (top 28) 23
theorem sc_St_follow : FnScope ["self", "cell", "there"] ["self", "cell"] (defScope s_St_follow) := ⟨rfl, rfl, rfl, by decide +kernel, rfl, by decide +kernel, by decide +kernel⟩
abbrev s_St_functor : Stmt := inClass (top 28) 24
theorem sc_St_functor : FnScope ["self", "cell"] ["self", "cell"] (defScope s_St_functor) := ⟨rfl, rfl, rfl, by decide +kernel, rfl, by decide +kernel, by decide +kernel⟩
abbrev s_St_arguments : Stmt := inClass (top 28) 25
theorem sc_St_arguments : FnScope ["self", "cell", "first"] ["self", "cell"] (defScope s_St_arguments) := ⟨rfl, rfl, rfl, by decide +kernel, rfl, by decide +kernel, by decide +kernel⟩
abbrev s_St_occurs : Stmt := inClass (top 28) 26
theorem sc_St_occurs : FnScope ["self", "address", "cell", "seen", "waiting"] ["self", "address", "cell"] (defScope s_St_occurs) := ⟨rfl, rfl, rfl, by decide +kernel, rfl, by decide +kernel, by decide +kernel⟩
/-- a method of the class at C -/
structure Me (K : PySem.W.Frag) (C : Addr) (m : Str) (st : Stmt) (ps : List Str) (f : Addr) (fd : FuncData) : Prop where
  F : Fun K m ("Store." ++ m) st f fd
  b : Binds K fd ps []
  m : Meth K C m f
structure Tx (K : PySem.W.Frag) (mg : Str → Option Value) where
  f_is_integer : Addr
  d_is_integer : FuncData
  h_is_integer : Df K mg "is_integer" s_is_integer ["thing"] [] f_is_integer d_is_integer
  f_is_sign : Addr
  d_is_sign : FuncData
  h_is_sign : Df K mg "is_sign" s_is_sign ["sign"] [] f_is_sign d_is_sign
  f_is_atom : Addr
  d_is_atom : FuncData
  h_is_atom : Df K mg "is_atom" s_is_atom ["thing"] [] f_is_atom d_is_atom
  f_is_number : Addr
  d_is_number : FuncData
  h_is_number : Df K mg "is_number" s_is_number ["thing"] [] f_is_number d_is_number
  f_is_term : Addr
  d_is_term : FuncData
  h_is_term : Df K mg "is_term" s_is_term ["thing"] [] f_is_term d_is_term
  f_is_part : Addr
  d_is_part : FuncData
  h_is_part : Df K mg "_is_part" s_is_part ["thing"] [] f_is_part d_is_part
  f_arguments_of : Addr
  d_arguments_of : FuncData
  h_arguments_of : Df K mg "arguments_of" s_arguments_of ["part"] [] f_arguments_of d_arguments_of
  f_is_variable : Addr
  d_is_variable : FuncData
  h_is_variable : Df K mg "is_variable" s_is_variable ["part"] [] f_is_variable d_is_variable
  f_demand_term : Addr
  d_demand_term : FuncData
  h_demand_term : Df K mg "demand_term" s_demand_term ["term"] [] f_demand_term d_demand_term
  f_is_address : Addr
  d_is_address : FuncData
  h_is_address : Df K mg "is_address" s_is_address ["value"] [] f_is_address d_is_address
  f_is_cell : Addr
  d_is_cell : FuncData
  h_is_cell : Df K mg "is_cell" s_is_cell ["value"] [] f_is_cell d_is_cell
  f_is_pair_cell : Addr
  d_is_pair_cell : FuncData
  h_is_pair_cell : Df K mg "_is_pair_cell" s_is_pair_cell ["word", "what"] [] f_is_pair_cell d_is_pair_cell
  f_demand_cell : Addr
  d_demand_cell : FuncData
  h_demand_cell : Df K mg "demand_cell" s_demand_cell ["value"] [] f_demand_cell d_demand_cell
  f_leaf_cell : Addr
  d_leaf_cell : FuncData
  h_leaf_cell : Df K mg "_leaf_cell" s_leaf_cell ["term", "names"] [] f_leaf_cell d_leaf_cell
  f_law_cell_at : Addr
  d_law_cell_at : FuncData
  h_law_cell_at : Df K mg "_law_cell_at" s_law_cell_at ["_law_script", "_law_k"] [] f_law_cell_at d_law_cell_at
  f_law_well : Addr
  d_law_well : FuncData
  h_law_well : Df K mg "_law_well" s_law_well ["_law_cell"] [] f_law_well d_law_well
  f_law_draw : Addr
  d_law_draw : FuncData
  h_law_draw : Df K mg "_law_draw" s_law_draw ["_law_well_here", "_law_many"] [] f_law_draw d_law_draw
  f_law_one : Addr
  d_law_one : FuncData
  h_law_one : Df K mg "_law_one" s_law_one ["_law_well_here", "_law_some"] [] f_law_one d_law_one
  f_law_term : Addr
  d_law_term : FuncData
  h_law_term : Df K mg "_law_term" s_law_term ["_law_well_here", "_law_deep", "_law_many"] [] f_law_term d_law_term
  f_law_walk : Addr
  d_law_walk : FuncData
  h_law_walk : Df K mg "_law_walk" s_law_walk ["_law_term_here", "_law_bound"] [] f_law_walk d_law_walk
  f_law_has : Addr
  d_law_has : FuncData
  h_law_has : Df K mg "_law_has" s_law_has ["_law_number", "_law_term_here", "_law_bound"] [] f_law_has d_law_has
  f_law_whole : Addr
  d_law_whole : FuncData
  h_law_whole : Df K mg "_law_whole" s_law_whole ["_law_term_here", "_law_bound"] [] f_law_whole d_law_whole
  f_law_parts : Addr
  d_law_parts : FuncData
  h_law_parts : Df K mg "_law_parts" s_law_parts ["_law_term_here"] [] f_law_parts d_law_parts
  f_law_chain : Addr
  d_law_chain : FuncData
  h_law_chain : Df K mg "_law_chain" s_law_chain ["_law_well_here", "_law_store", "_law_cell"] [] f_law_chain d_law_chain
  f_law_bind_some : Addr
  d_law_bind_some : FuncData
  h_law_bind_some : Df K mg "_law_bind_some" s_law_bind_some ["_law_well_here", "_law_store", "_law_names", "_law_bound"] [] f_law_bind_some d_law_bind_some
  f_law : Addr
  d_law : FuncData
  h_law : Df K mg "law" s_law ["_law_script"] [] f_law d_law
  C : Addr
  cl : Cls K C
  mgC : mg "Store" = some (.ref C)
  n_cells : NoAttr K C "cells"
  n_slots : NoAttr K C "slots"
  n_stack_size : NoAttr K C "stack_size"
  n_noted : NoAttr K C "noted"
  n_heap_mark : NoAttr K C "heap_mark"
  n_stack_mark : NoAttr K C "stack_mark"
  f_St_init : Addr
  d_St_init : FuncData
  F_St_init : Fun K "__init__" "Store.__init__" s_St_init f_St_init d_St_init
  b_St_init : Binds K d_St_init ["self"] []
  mkS : Mk K C f_St_init
  f_St_heap : Addr
  d_St_heap : FuncData
  h_St_heap : Me K C "heap" s_St_heap ["self"] f_St_heap d_St_heap
  f_St_trail : Addr
  d_St_trail : FuncData
  h_St_trail : Me K C "trail" s_St_trail ["self"] f_St_trail d_St_trail
  f_St_size : Addr
  d_St_size : FuncData
  h_St_size : Me K C "size" s_St_size ["self"] f_St_size d_St_size
  f_St_end : Addr
  d_St_end : FuncData
  h_St_end : Me K C "end" s_St_end ["self", "cell"] f_St_end d_St_end
  f_St_new : Addr
  d_St_new : FuncData
  h_St_new : Me K C "new" s_St_new ["self"] f_St_new d_St_new
  f_St_put : Addr
  d_St_put : FuncData
  h_St_put : Me K C "put" s_St_put ["self", "cell"] f_St_put d_St_put
  f_St_fill : Addr
  d_St_fill : FuncData
  h_St_fill : Me K C "fill" s_St_fill ["self", "k", "cell"] f_St_fill d_St_fill
  f_St_bind : Addr
  d_St_bind : FuncData
  h_St_bind : Me K C "bind" s_St_bind ["self", "address", "cell"] f_St_bind d_St_bind
  f_St_build : Addr
  d_St_build : FuncData
  h_St_build : Me K C "build" s_St_build ["self", "term", "names"] f_St_build d_St_build
  f_St_read : Addr
  d_St_read : FuncData
  h_St_read : Me K C "read" s_St_read ["self", "cells"] f_St_read d_St_read
  f_St_compound : Addr
  d_St_compound : FuncData
  h_St_compound : Me K C "_compound" s_St_compound ["self", "cell", "done"] f_St_compound d_St_compound
  f_St_contains : Addr
  d_St_contains : FuncData
  h_St_contains : Me K C "contains" s_St_contains ["self", "address", "cell"] f_St_contains d_St_contains
  f_St_demand_place : Addr
  d_St_demand_place : FuncData
  h_St_demand_place : Me K C "_demand_place" s_St_demand_place ["self", "address"] f_St_demand_place d_St_demand_place
  f_St_look : Addr
  d_St_look : FuncData
  h_St_look : Me K C "look" s_St_look ["self", "address"] f_St_look d_St_look
  f_St_change : Addr
  d_St_change : FuncData
  h_St_change : Me K C "change" s_St_change ["self", "address", "cell"] f_St_change d_St_change
  f_St_assign : Addr
  d_St_assign : FuncData
  h_St_assign : Me K C "assign" s_St_assign ["self", "address", "cell"] f_St_assign d_St_assign
  f_St_follow : Addr
  d_St_follow : FuncData
  h_St_follow : Me K C "follow" s_St_follow ["self", "cell"] f_St_follow d_St_follow
  f_St_functor : Addr
  d_St_functor : FuncData
  h_St_functor : Me K C "functor" s_St_functor ["self", "cell"] f_St_functor d_St_functor
  f_St_arguments : Addr
  d_St_arguments : FuncData
  h_St_arguments : Me K C "arguments" s_St_arguments ["self", "cell"] f_St_arguments d_St_arguments
  f_St_occurs : Addr
  d_St_occurs : FuncData
  h_St_occurs : Me K C "occurs" s_St_occurs ["self", "address", "cell"] f_St_occurs d_St_occurs
  c_MOST_SIGNS : ∃ t, mg "MOST_SIGNS" = some (.int 40 t)
  c_MOST_ARGUMENTS : ∃ t, mg "MOST_ARGUMENTS" = some (.int 8 t)
  c_BARRED_SIGN : ∃ t, mg "BARRED_SIGN" = some (.int 37 t)
  c_TOO_GREAT : ∃ t, mg "TOO_GREAT" = some (.int tooGreat t)
  b_all : mg "all" = none
  b_bool : mg "bool" = none
  b_dict : mg "dict" = none
  b_int : mg "int" = none
  b_isinstance : mg "isinstance" = none
  b_len : mg "len" = none
  b_list : mg "list" = none
  b_max : mg "max" = none
  b_ord : mg "ord" = none
  b_range : mg "range" = none
  b_reversed : mg "reversed" = none
  b_str : mg "str" = none
  b_sum : mg "sum" = none
  b_tuple : mg "tuple" = none
  a_No : Addr
  m_No : mg "NO_CELL" = some (.ref a_No)
  r_No : ∀ H : Hp, SqT K H a_No [.str "none"]
end Hm

set_option Elab.async false
set_option linter.all false
set_option maxRecDepth 100000
set_option maxHeartbeats 4000000
namespace Hm
open PySem PySem.Spec PyProof.Rows L2 HT
open Evl (Ex)
section
variable {P : Program} {w : World} {K : PySem.W.Frag} {mg : Str → Option Value} {base : Heap}
theorem tk_succ {α β : Type} {l : List α} {i : Nat} {x : α} (f : α → β) (h : l[i]? = some x) : (l.take (i + 1)).map f = (l.take i).map f ++ [f x] := by
  rw [List.take_add_one, h]
  simp
theorem yesI {σ : L2.St} {H : Hp} {A B : Hp → Prop} (h : A H) : tYes σ H (fun b H3 => if b = true then A H3 else B H3) := by
  show (if true = true then A H else B H)
  exact iteT h
theorem small5 {n : Nat} (h : n ≤ 100000) : n ≤ sizeLine := Nat.le_trans h (by decide)
theorem small5' {n : Nat} (h : n ≤ 100000) : n < sizeLine := Nat.lt_of_le_of_lt h (by decide)
theorem tyx_tup {H : Hp} {a : Addr} {xs : List V} (h : SqT K H a xs) : TyX K H (.ref a) (.type "tuple") := by
  rcases h with (h | ⟨o, h⟩) | ⟨o, its, n, h1, h2, _⟩
  · exact .base (.tup h)
  · exact .fTuple h
  · exact .kTuple h1 h2
theorem cut1 (x : V) (vs : List V) : cutV (x :: vs) (some 1) none = vs := by
  unfold cutV
  have e : sIx (x :: vs).length 0 (some 1) = 1 := by
    show (if (1 : Int) < 0 then ((1 : Int) + ((x :: vs).length : Int)).toNat else min (1 : Int).toNat (x :: vs).length) = 1
    rw [if_neg (by decide), List.length_cons]
    show min 1 (vs.length + 1) = 1
    omega
  rw [e, sIx_none]
  show (vs.take ((x :: vs).length - 1)) = vs
  rw [List.length_cons]
  exact List.take_of_length_le (by omega)
theorem cut1_ne (x : V) (vs : List V) : ¬ (sIx (x :: vs).length 0 (some 1) = 0 ∧ sIx (x :: vs).length (x :: vs).length none = (x :: vs).length) := by
  intro h
  have e : sIx (x :: vs).length 0 (some 1) = 1 := by
    show (if (1 : Int) < 0 then ((1 : Int) + ((x :: vs).length : Int)).toNat else min (1 : Int).toNat (x :: vs).length) = 1
    rw [if_neg (by decide), List.length_cons]
    show min 1 (vs.length + 1) = 1
    omega
  rw [e] at h
  exact absurd h.1 (by decide)

/-! ### is_integer -/
def spInt (K : PySem.W.Frag) : Sp := fun vs H Q _ => ∃ v d, vs = [v] ∧ OdAt K H v d ∧ Q (.bl (intD d)) H
theorem ok_is_integer (T : Tx K mg) : FnOk P w K mg base CX0 1 T.f_is_integer T.d_is_integer ["thing"] (spInt K) := by
  refine T.h_is_integer.F.ok sc_is_integer (fun vs H Q E h => ?_) (fun cdv A outer s H vs Q E hr h => ?_)
  · obtain ⟨v, d, rfl, _⟩ := h
    rfl
  obtain ⟨v, d, rfl, hv, q⟩ := h
  have ty := ty_od hv
  refine ⟨_, (pss_one (ps_ret (pe_and (pe_callB call_isi rfl T.b_isinstance (by decide +kernel) (pa_cons (pv 0) (pa_cons (pe_bltn (v := .ty "int") (u := .type "int") rfl T.b_int (by decide +kernel) rfl) pa_nil))) (pe_one (pe_not (pe_callB call_isi rfl T.b_isinstance (by decide +kernel) (pa_cons (pv 0) (pa_cons (pe_bltn (v := .ty "bool") (u := .type "bool") rfl T.b_bool (by decide +kernel) rfl) pa_nil)))))))), ?_⟩
  cases hv with
  | int i => exact ⟨_, rfl, _, _, _, _, true, rfl, .ty "int", ty, kit_ty (a := "int") (by decide +kernel), true, rfl, iteT ⟨_, rfl, _, _, _, _, false, rfl, .ty "bool", ty, kit_ty (a := "int") (by decide +kernel), false, rfl, q⟩⟩
  | bl i => exact ⟨_, rfl, _, _, _, _, true, rfl, .ty "int", ty, kit_ty (a := "bool") (by decide +kernel), true, rfl, iteT ⟨_, rfl, _, _, _, _, true, rfl, .ty "bool", ty, kit_ty (a := "bool") (by decide +kernel), true, rfl, q⟩⟩
  | non => exact ⟨_, rfl, _, _, _, _, false, rfl, .ty "int", ty, kit_ty (a := "NoneType") (by decide +kernel), false, rfl, iteF q⟩
  | str s => exact ⟨_, rfl, _, _, _, _, false, rfl, .ty "int", ty, kit_ty (a := "str") (by decide +kernel), false, rfl, iteF q⟩
  | lst h => exact ⟨_, rfl, _, _, _, _, false, rfl, .ty "int", ty, kit_ty (a := "list") (by decide +kernel), false, rfl, iteF q⟩
  | dic h => exact ⟨_, rfl, _, _, _, _, false, rfl, .ty "int", ty, kit_ty (a := "dict") (by decide +kernel), false, rfl, iteF q⟩
  | tup h r => exact ⟨_, rfl, _, _, _, _, false, rfl, .ty "int", ty, kit_ty (a := "tuple") (by decide +kernel), false, rfl, iteF q⟩

/-! ### is_sign, of one sign -/
def spSign : Sp := fun vs H Q _ => ∃ c : Nat, vs = [.str ⟨#[c]⟩] ∧ Q (.bl (signOk c)) H
theorem one_lt {a b : Nat} : (([a] : List Nat) < [b]) ↔ a < b := by
  constructor
  · intro h
    cases h with
    | rel h => exact h
    | cons h => cases h
  · intro h
    exact List.Lex.rel h
theorem ok_is_sign (T : Tx K mg) : FnOk P w K mg base CX0 1 T.f_is_sign T.d_is_sign ["sign"] spSign := by
  refine T.h_is_sign.F.ok sc_is_sign (fun vs H Q E h => ?_) (fun cdv A outer s H vs Q E hr h => ?_)
  · obtain ⟨c, rfl, _⟩ := h
    rfl
  obtain ⟨c, rfl, q⟩ := h
  obtain ⟨tk, hc_BARRED_SIGN⟩ := T.c_BARRED_SIGN
  refine ⟨_, (pss_one (ps_ret (pe_and (pe_chain op_le_str op_le_str pe_str (pv 0) pe_str) (pe_one (pe_cmpR op_ne (pe_callB call_ord rfl T.b_ord (by decide +kernel) (pa_cons (pv 0) pa_nil)) (pe_glob (v := .int 37) rfl hc_BARRED_SIGN ⟨_, rfl⟩) (nomark _)))))), ?_⟩
  refine ⟨_, rfl, _, _, rfl, rfl, _, rfl, ?_⟩
  have e1 : (!decide ((⟨#[c]⟩ : Str).cps.toList < (" " : Str).cps.toList)) = decide (32 ≤ c) := by
    show (!decide (([c] : List Nat) < [32])) = _
    by_cases h : c < 32
    · rw [decide_eq_true (one_lt.mpr h), decide_eq_false (by omega)]
      rfl
    · rw [decide_eq_false (fun z => h (one_lt.mp z)), decide_eq_true (by omega)]
      rfl
  have e2 : (!decide (("~" : Str).cps.toList < (⟨#[c]⟩ : Str).cps.toList)) = decide (c ≤ 126) := by
    show (!decide (([126] : List Nat) < [c])) = _
    by_cases h : 126 < c
    · rw [decide_eq_true (one_lt.mpr h), decide_eq_false (by omega)]
      rfl
    · rw [decide_eq_false (fun z => h (one_lt.mp z)), decide_eq_true (by omega)]
      rfl
  rw [e1]
  by_cases h1 : 32 ≤ c
  · rw [decide_eq_true h1]
    refine iteT ⟨_, _, rfl, rfl, _, rfl, ?_⟩
    rw [e2]
    by_cases h2 : c ≤ 126
    · rw [decide_eq_true h2]
      refine iteT ⟨_, rfl, _, rfl, rfl, rfl, ?_⟩
      have e3 : (!decide (V.int (((#[c] : Array Nat).getD 0 0 : Nat) : Int) = V.int 37)) = signOk c := by
        show (!decide (V.int (c : Int) = V.int 37)) = _
        unfold signOk
        by_cases h3 : c = 37
        · subst h3
          decide
        · rw [decide_eq_false (by intro z; injection z with z; omega), decide_eq_true ⟨h1, h2, h3⟩]
          rfl
      exact e3 ▸ q
    · rw [decide_eq_false h2]
      refine iteF ?_
      have : signOk c = false := decide_eq_false (fun z => h2 z.2.1)
      exact this ▸ q
  · rw [decide_eq_false h1]
    refine iteF ⟨_, rfl, iteF ?_⟩
    have : signOk c = false := decide_eq_false (fun z => h1 z.1)
    exact this ▸ q

/-! ### is_atom -/
def spAtom (K : PySem.W.Frag) : Sp := fun vs H Q _ => ∃ v d, vs = [v] ∧ OdAt K H v d ∧ sizeD d ≤ 60000 ∧ ∀ H', Ex H H' → Q (.bl (atomD d)) H'
theorem ok_is_atom (T : Tx K mg) : FnOk P w K mg base CX0 2 T.f_is_atom T.d_is_atom ["thing"] (spAtom K) := by
  refine T.h_is_atom.F.ok sc_is_atom (fun vs H Q E h => ?_) (fun cdv A outer s H vs Q E hr h => ?_)
  · obtain ⟨x, d, rfl, _⟩ := h
    rfl
  obtain ⟨x, d, rfl, hv, hz, q⟩ := h
  obtain ⟨tk, hc_MOST_SIGNS⟩ := T.c_MOST_SIGNS
  have ty := ty_od hv
  refine ⟨_, (pss_one (ps_ret (pe_and (pe_callB call_isi rfl T.b_isinstance (by decide +kernel) (pa_cons (pv 0) (pa_cons (pe_bltn (v := .ty "str") (u := .type "str") rfl T.b_str (by decide +kernel) rfl) pa_nil))) (pe_and (pe_cmpR op_le (pe_callB call_len_str rfl T.b_len (by decide +kernel) (pa_cons (pv 0) pa_nil)) (pe_glob (v := .int 40) rfl hc_MOST_SIGNS ⟨_, rfl⟩) (nomark _)) (pe_one (pe_callB (cr_all rfl) rfl T.b_all (by decide +kernel) (pa_cons (pe_lc (own := [("sign", 1)]) (g := gName 1) rfl sc_is_atom.nd (pi_str (pv 0)) (blkOk_by (own := [("sign", 1)]) (N := ["thing", "sign"]) (sc := defScope s_is_atom) (by decide +kernel)) (fun _ _ _ _ _ => pg_name (i := 1) sc_is_atom.nd rfl (Or.inl rfl)) (fun _ _ _ _ _ => pts_nil) (fun _ _ _ _ _ => (cl (ok_is_sign T) T.h_is_sign hr (pa_cons (pv 1) pa_nil)))) pa_nil))))))), ?_⟩
  cases hv with
  | str z =>
    have hz' : 1 + z.length ≤ 60000 := hz
    refine ⟨_, rfl, _, _, _, _, true, rfl, .ty "str", ty, kit_ty (a := "str") (by decide +kernel), true, rfl, iteT ?_⟩
    refine ⟨_, rfl, z, rfl, small5 (by omega), _, _, rfl, rfl, _, rfl, ?_⟩
    have ed : atomD (.str z) = (decide (z.length ≤ 40) && z.cps.toList.all signOk) := rfl
    rw [ed] at q
    by_cases hl : z.length ≤ 40
    · rw [decide_eq_true (show ((z.length : Nat) : Int) ≤ 40 by omega)]
      rw [decide_eq_true hl, Bool.true_and] at q
      refine iteT ⟨_, rfl, z, rfl, fun D hD => lc_it walk_str (fun i H' => Ex H H' ∧ H' D = some (.lst ((z.cps.toList.take i).map fun c => V.bl (signOk c)))) ⟨Ex.new hD, upd_same⟩ (fun _ _ _ _ => trivial) ?_ ?_⟩
      · rintro i x H1 H2 hi ⟨e1, hL⟩ ⟨rfl, c, hc', rfl⟩
        have hcl : z.cps.toList.length = z.length := by rw [Array.length_toList]; rfl
        refine ⟨rfl, yesI ⟨_, rfl, c, rfl, _, hL, ?_, Ex.mut e1 hD, ?_⟩⟩
        · rw [List.length_map, List.length_take]
          exact small5' (by omega)
        · rw [upd_same, tk_succ (x := c)]
          rw [← hc', Array.getElem?_toList]
      · rintro H1 ⟨e1, hL⟩
        refine ⟨D, z.cps.toList.map signOk, rfl, SqL.of ?_, ?_⟩
        · rw [hL, List.take_of_length_le (by simp), List.map_map]
          rfl
        · have : (z.cps.toList.map signOk).all id = z.cps.toList.all signOk := by
            rw [List.all_map]
            rfl
          rw [this]
          exact q _ e1
    · rw [decide_eq_false (show ¬ ((z.length : Nat) : Int) ≤ 40 by omega)]
      rw [decide_eq_false hl, Bool.false_and] at q
      exact iteF (q _ (Ex.refl _))
  | int i => exact ⟨_, rfl, _, _, _, _, false, rfl, .ty "str", ty, kit_ty (a := "int") (by decide +kernel), false, rfl, iteF (q _ (Ex.refl _))⟩
  | bl i => exact ⟨_, rfl, _, _, _, _, false, rfl, .ty "str", ty, kit_ty (a := "bool") (by decide +kernel), false, rfl, iteF (q _ (Ex.refl _))⟩
  | non => exact ⟨_, rfl, _, _, _, _, false, rfl, .ty "str", ty, kit_ty (a := "NoneType") (by decide +kernel), false, rfl, iteF (q _ (Ex.refl _))⟩
  | lst h => exact ⟨_, rfl, _, _, _, _, false, rfl, .ty "str", ty, kit_ty (a := "list") (by decide +kernel), false, rfl, iteF (q _ (Ex.refl _))⟩
  | dic h => exact ⟨_, rfl, _, _, _, _, false, rfl, .ty "str", ty, kit_ty (a := "dict") (by decide +kernel), false, rfl, iteF (q _ (Ex.refl _))⟩
  | tup h r => exact ⟨_, rfl, _, _, _, _, false, rfl, .ty "str", ty, kit_ty (a := "tuple") (by decide +kernel), false, rfl, iteF (q _ (Ex.refl _))⟩

/-! ### is_number -/
def spNum (K : PySem.W.Frag) : Sp := fun vs H Q _ => ∃ v d, vs = [v] ∧ OdAt K H v d ∧ Q (.bl (numD d)) H
theorem ok_is_number (T : Tx K mg) : FnOk P w K mg base CX0 2 T.f_is_number T.d_is_number ["thing"] (spNum K) := by
  refine T.h_is_number.F.ok sc_is_number (fun vs H Q E h => ?_) (fun cdv A outer s H vs Q E hr h => ?_)
  · obtain ⟨x, d, rfl, _⟩ := h
    rfl
  obtain ⟨v, d, rfl, hv, q⟩ := h
  refine ⟨_, (pss_one (ps_ret (pe_and (cl (ok_is_integer T) T.h_is_integer hr (pa_cons (pv 0) pa_nil)) (pe_one (pe_cmpR op_ge (pv 0) pe_int (nomark _)))))), ?_⟩
  refine ⟨_, rfl, v, d, rfl, hv, intD d, rfl, ?_⟩
  cases hv with
  | int i => exact iteT ⟨_, rfl, _, _, rfl, rfl, q⟩
  | bl i => exact iteF q
  | non => exact iteF q
  | str s => exact iteF q
  | lst h => exact iteF q
  | dic h => exact iteF q
  | tup h r => exact iteF q

/-! ### arguments_of, of what may be a part of a term -/
def spArgs (K : PySem.W.Frag) : Sp := fun vs H Q _ => ∃ v d, vs = [v] ∧ OdAt K H v d ∧ partD d = true ∧ ∀ p ws H', H p = none → Ex H H' → H' p = some (.tup ws) → OdAll K H' ws (argsD d) → Q (.ref p) H'
theorem ok_arguments_of (T : Tx K mg) : FnOk P w K mg base CX0 1 T.f_arguments_of T.d_arguments_of ["part"] (spArgs K) := by
  refine T.h_arguments_of.F.ok sc_arguments_of (fun vs H Q E h => ?_) (fun cdv A outer s H vs Q E hr h => ?_)
  · obtain ⟨v, t, rfl, _⟩ := h
    rfl
  obtain ⟨v, d, rfl, hv, hp, q⟩ := h
  have ty := ty_od hv
  refine ⟨_, (pss_one (ps_ret (pe_ifExp (pt_val (pe_callB call_isi rfl T.b_isinstance (by decide +kernel) (pa_cons (pv 0) (pa_cons (pe_bltn (v := .ty "tuple") (u := .type "tuple") rfl T.b_tuple (by decide +kernel) rfl) pa_nil)))) (pe_slice sl_tup (pv 0) (po_some pe_int) po_none) (pe_tup pa_nil)))), ?_⟩
  cases hv with
  | tup hT hA =>
    refine ⟨_, rfl, _, _, _, _, true, rfl, .ty "tuple", ty, kit_ty (a := "tuple") (by decide +kernel), true, rfl, iteT ?_⟩
    cases hA with
    | nil => cases hp
    | cons h r =>
      refine ⟨_, rfl, _, rfl, _, _, rfl, hT, cut1_ne _ _, fun p hp => ?_⟩
      rw [cut1]
      exact q p _ _ hp (Ex.new hp) upd_same (r.mono (Kind.of (Ex.new hp)))
  | int i => exact ⟨_, rfl, _, _, _, _, false, rfl, .ty "tuple", ty, kit_ty (a := "int") (by decide +kernel), false, rfl, iteF ⟨Nat.zero_le _, fun p hp => q p _ _ hp (Ex.new hp) upd_same .nil⟩⟩
  | bl i => exact ⟨_, rfl, _, _, _, _, false, rfl, .ty "tuple", ty, kit_ty (a := "bool") (by decide +kernel), false, rfl, iteF ⟨Nat.zero_le _, fun p hp => q p _ _ hp (Ex.new hp) upd_same .nil⟩⟩
  | non => exact ⟨_, rfl, _, _, _, _, false, rfl, .ty "tuple", ty, kit_ty (a := "NoneType") (by decide +kernel), false, rfl, iteF ⟨Nat.zero_le _, fun p hp => q p _ _ hp (Ex.new hp) upd_same .nil⟩⟩
  | str s => exact ⟨_, rfl, _, _, _, _, false, rfl, .ty "tuple", ty, kit_ty (a := "str") (by decide +kernel), false, rfl, iteF ⟨Nat.zero_le _, fun p hp => q p _ _ hp (Ex.new hp) upd_same .nil⟩⟩
  | lst h => exact ⟨_, rfl, _, _, _, _, false, rfl, .ty "tuple", ty, kit_ty (a := "list") (by decide +kernel), false, rfl, iteF ⟨Nat.zero_le _, fun p hp => q p _ _ hp (Ex.new hp) upd_same .nil⟩⟩
  | dic h => exact ⟨_, rfl, _, _, _, _, false, rfl, .ty "tuple", ty, kit_ty (a := "dict") (by decide +kernel), false, rfl, iteF ⟨Nat.zero_le _, fun p hp => q p _ _ hp (Ex.new hp) upd_same .nil⟩⟩

theorem dec_len {n m : Nat} : decide (V.int (n : Int) = V.int (m : Int)) = decide (n = m) := by
  by_cases h : n = m
  · subst h
    simp
  · rw [decide_eq_false h, decide_eq_false]
    intro z
    injection z with z
    omega
end
end Hm

set_option Elab.async false
set_option linter.all false
set_option maxRecDepth 100000
set_option maxHeartbeats 4000000
namespace Hm
open PySem PySem.Spec PyProof.Rows L2 HT
open Evl (Ex)
section
variable {P : Program} {w : World} {K : PySem.W.Frag} {mg : Str → Option Value} {base : Heap}
theorem dec1 {n : Nat} : decide (V.int (n : Int) = V.int 1) = decide (n = 1) := dec_len (m := 1)
theorem at0 {α : Type} {x : α} {xs : List α} : atI (x :: xs) 0 = some x := atI_nat (j := 0) rfl
theorem ex_none {H H1 : Hp} {p : Addr} (e1 : Ex H H1) (hp : H1 p = none) : H p = none := by
  cases hq : H p with
  | none => rfl
  | some o => rw [e1 _ _ hq] at hp; cases hp
/-! ### _is_part -/
def spPart (K : PySem.W.Frag) : Sp := fun vs H Q _ => ∃ v d, vs = [v] ∧ OdAt K H v d ∧ sizeD d ≤ 60000 ∧ ∀ H', Ex H H' → Q (.bl (partD d)) H'
theorem ok_is_part (T : Tx K mg) : FnOk P w K mg base CX0 3 T.f_is_part T.d_is_part ["thing"] (spPart K) := by
  refine T.h_is_part.F.ok sc_is_part (fun vs H Q E h => ?_) (fun cdv A outer s H vs Q E hr h => ?_)
  · obtain ⟨v, t, rfl, _⟩ := h
    rfl
  obtain ⟨v, d, rfl, hv, hz, q⟩ := h
  obtain ⟨tk, hc_TOO_GREAT⟩ := T.c_TOO_GREAT
  obtain ⟨tk2, hc_MOST_ARGUMENTS⟩ := T.c_MOST_ARGUMENTS
  have ty := ty_od hv
  refine ⟨_, (pss_cons (ps_if (pt_not (pt_val (pe_callB call_isi rfl T.b_isinstance (by decide +kernel) (pa_cons (pv 0) (pa_cons (pe_bltn (v := .ty "tuple") (u := .type "tuple") rfl T.b_tuple (by decide +kernel) rfl) pa_nil)))))
      (pss_one (ps_ret (pe_or (cl (ok_is_atom T) T.h_is_atom hr (pa_cons (pv 0) pa_nil)) (pe_one (pe_and (cl (ok_is_integer T) T.h_is_integer hr (pa_cons (pv 0) pa_nil)) (pe_one (pe_chain op_lt op_lt (pe_un un_neg (pe_glob (v := .int tooGreat) rfl hc_TOO_GREAT ⟨_, rfl⟩)) (pv 0) (pe_glob (v := .int tooGreat) rfl hc_TOO_GREAT ⟨_, rfl⟩))))))))
      pss_nil)
    (pss_cons (ps_if (pt_cmpR op_eq (pe_callB call_len_seq rfl T.b_len (by decide +kernel) (pa_cons (pv 0) pa_nil)) pe_int (nomark _))
      (pss_one (ps_ret (cl (ok_is_number T) T.h_is_number hr (pa_cons (pe_ix ix_tup (pv 0) pe_int (fun _ _ => rfl)) pa_nil))))
      pss_nil)
    (pss_one (ps_ret (pe_and (pe_chain op_le op_le pe_int (pe_callB call_len_seq rfl T.b_len (by decide +kernel) (pa_cons (pv 0) pa_nil)) (pe_op op_add (pe_glob (v := .int 8) rfl hc_MOST_ARGUMENTS ⟨_, rfl⟩) pe_int)) (pe_one (cl (ok_is_atom T) T.h_is_atom hr (pa_cons (pe_ix ix_tup (pv 0) pe_int (fun _ _ => rfl)) pa_nil)))))))), ?_⟩
  cases hv with
  | int i =>
    refine ⟨_, rfl, _, _, _, _, false, rfl, .ty "tuple", ty, kit_ty (a := "int") (by decide +kernel), false, rfl, iteT ?_⟩
    refine ⟨_, rfl, _, _, rfl, .int i, hz, fun H1 e1 => ⟨false, rfl, iteF ⟨_, rfl, _, _, rfl, .int i, true, rfl, iteT ?_⟩⟩⟩
    refine ⟨tooGreat, rfl, _, rfl, _, _, rfl, rfl, _, rfl, ?_⟩
    have ep : partD (.int i) = (decide (-tooGreat < i) && decide (i < tooGreat)) := rfl
    rw [ep] at q
    by_cases c : -tooGreat < i
    · rw [decide_eq_true c] at q ⊢
      rw [Bool.true_and] at q
      exact iteT ⟨_, _, rfl, rfl, q _ e1⟩
    · rw [decide_eq_false c] at q ⊢
      exact iteF (q _ e1)
  | str s =>
    refine ⟨_, rfl, _, _, _, _, false, rfl, .ty "tuple", ty, kit_ty (a := "str") (by decide +kernel), false, rfl, iteT ?_⟩
    refine ⟨_, rfl, _, _, rfl, .str s, hz, fun H1 e1 => ⟨atomD (.str s), rfl, ?_⟩⟩
    have ep : partD (.str s) = atomD (.str s) := rfl
    rw [ep] at q
    cases e : atomD (.str s) with
    | true =>
      rw [e] at q
      exact iteT (q _ e1)
    | false =>
      rw [e] at q
      exact iteF ⟨_, rfl, _, _, rfl, .str s, false, rfl, iteF (q _ e1)⟩
  | bl b =>
    refine ⟨_, rfl, _, _, _, _, false, rfl, .ty "tuple", ty, kit_ty (a := "bool") (by decide +kernel), false, rfl, iteT ?_⟩
    exact ⟨_, rfl, _, _, rfl, .bl b, hz, fun H1 e1 => ⟨false, rfl, iteF ⟨_, rfl, _, _, rfl, .bl b, false, rfl, iteF (q _ e1)⟩⟩⟩
  | non =>
    refine ⟨_, rfl, _, _, _, _, false, rfl, .ty "tuple", ty, kit_ty (a := "NoneType") (by decide +kernel), false, rfl, iteT ?_⟩
    exact ⟨_, rfl, _, _, rfl, .non, hz, fun H1 e1 => ⟨false, rfl, iteF ⟨_, rfl, _, _, rfl, .non, false, rfl, iteF (q _ e1)⟩⟩⟩
  | lst h =>
    refine ⟨_, rfl, _, _, _, _, false, rfl, .ty "tuple", ty, kit_ty (a := "list") (by decide +kernel), false, rfl, iteT ?_⟩
    exact ⟨_, rfl, _, _, rfl, .lst h, hz, fun H1 e1 => ⟨false, rfl, iteF ⟨_, rfl, _, _, rfl, .lst (Evl.ex_l e1 h), false, rfl, iteF (q _ e1)⟩⟩⟩
  | dic h =>
    refine ⟨_, rfl, _, _, _, _, false, rfl, .ty "tuple", ty, kit_ty (a := "dict") (by decide +kernel), false, rfl, iteT ?_⟩
    exact ⟨_, rfl, _, _, rfl, .dic h, hz, fun H1 e1 => ⟨false, rfl, iteF ⟨_, rfl, _, _, rfl, .dic (e1 _ _ h), false, rfl, iteF (q _ e1)⟩⟩⟩
  | @tup a xs ds hT hA =>
    refine ⟨_, rfl, _, _, _, _, true, rfl, .ty "tuple", ty, kit_ty (a := "tuple") (by decide +kernel), true, rfl, iteF ?_⟩
    refine ⟨_, rfl, a, _, rfl, .inr hT, rfl, _, rfl, ?_⟩
    rw [dec1]
    cases hA with
    | nil =>
      rw [decide_eq_false (by decide)]
      exact iteF ⟨_, rfl, a, _, rfl, .inr hT, _, _, rfl, rfl, _, rfl, iteF ⟨_, rfl, iteF (q _ (Ex.refl _))⟩⟩
    | @cons x ws dx dw hx hw =>
      cases hw with
      | nil =>
        rw [decide_eq_true (show [x].length = 1 from rfl)]
        exact iteT ⟨_, rfl, a, _, 0, _, rfl, rfl, hT, at0, _, _, rfl, hx, q _ (Ex.refl _)⟩
      | @cons y vs dy ds hy hr =>
        have hl := hr.len
        have sx : sizeD dx ≤ 60000 := Nat.le_trans (by rw [sizeD, sizesD]; omega) hz
        rw [decide_eq_false (by rw [List.length_cons, List.length_cons]; omega)]
        refine iteF ⟨_, rfl, a, _, rfl, .inr hT, _, _, rfl, rfl, _, rfl, ?_⟩
        rw [decide_eq_true (show (2 : Int) ≤ (((x :: y :: vs).length : Nat) : Int) by rw [List.length_cons, List.length_cons]; omega)]
        refine iteT ⟨_, _, rfl, rfl, _, _, rfl, rfl, _, rfl, ?_⟩
        have ep : partD (.tup (dx :: dy :: ds)) = (decide (ds.length ≤ 7) && atomD dx) := rfl
        rw [ep] at q
        by_cases c : ds.length ≤ 7
        · rw [decide_eq_true (show (((x :: y :: vs).length : Nat) : Int) ≤ (8 : Int) + 1 by rw [List.length_cons, List.length_cons]; omega)]
          rw [decide_eq_true c, Bool.true_and] at q
          exact iteT ⟨_, rfl, a, _, 0, _, rfl, rfl, hT, at0, _, _, rfl, hx, sx, q⟩
        · rw [decide_eq_false (show ¬ (((x :: y :: vs).length : Nat) : Int) ≤ (8 : Int) + 1 by rw [List.length_cons, List.length_cons]; omega)]
          rw [decide_eq_false c, Bool.false_and] at q
          exact iteF (q _ (Ex.refl _))

/-! ### is_term, demand_term -/
theorem list_end {α : Type} (l : List α) : l = [] ∨ ∃ r x, l = r ++ [x] := by
  cases h : l.reverse with
  | nil => exact .inl (by simpa using h)
  | cons x r =>
    refine .inr ⟨r.reverse, x, ?_⟩
    have := congrArg List.reverse h
    simpa using this
theorem last_app {α : Type} (r : List α) (x : α) : (r ++ [x])[(r ++ [x]).length - 1]? = some x := by simp
theorem drop_app {α : Type} (r : List α) (x : α) : (r ++ [x]).dropLast = r := by simp
def spIsT (K : PySem.W.Frag) : Sp := fun vs H Q _ => ∃ v d, vs = [v] ∧ OdAt K H v d ∧ sizeD d ≤ 60000 ∧ ∀ H', Ex H H' → Q (.bl (isT d)) H'
theorem ok_is_term (T : Tx K mg) : FnOk P w K mg base CX0 4 T.f_is_term T.d_is_term ["thing"] (spIsT K) := by
  refine T.h_is_term.F.ok sc_is_term (fun vs H Q E h => ?_) (fun cdv A outer s H vs Q E hr h => ?_)
  · obtain ⟨v, t, rfl, _⟩ := h
    rfl
  obtain ⟨v, d, rfl, hv, hz, q⟩ := h
  refine ⟨_, (pss_cons (ps_set (i := 1) sc_is_term.nd rfl (Or.inl rfl) (pe_lst (pa_cons (pv 0) pa_nil)))
    (pss_cons (ps_while PassesOwn.never (pt_truth (pv 1) (by intro _; rfl))
      (pss_cons (ps_set (i := 2) sc_is_term.nd rfl (Or.inl rfl) (pe_bm0 PySem.F.plainAttrs_list PySem.F.slot_list_pop PySem.F.type_list_pop mt_pop (pv 1)))
    (pss_cons (ps_if (pt_not (pt_val (cl (ok_is_part T) T.h_is_part hr (pa_cons (pv 2) pa_nil))))
      (pss_one (ps_ret pe_bl))
      pss_nil)
    (pss_one (ps_expr (pe_bm PySem.F.plainAttrs_list PySem.F.slot_list_extend PySem.F.type_list_extend mt_extT (pv 1) (pa_cons (cl (ok_arguments_of T) T.h_arguments_of hr (pa_cons (pv 2) pa_nil)) pa_nil)))))))
    (pss_one (ps_ret pe_bl)))), ?_⟩
  refine ⟨_, rfl, (by show 1 ≤ sizeLine; decide), fun l hl => ?_⟩
  refine ⟨fun m σ' H' => ∃ x ds ws, σ' = [some v, some (.ref l), x] ∧ Ex H H' ∧ H' l = some (.lst ws) ∧ OdAll K H' ws ds ∧ isTs ds = isT d ∧ sizesD ds = m ∧ m ≤ 60000,
    ⟨sizeD d, none, [d], [v], rfl, Ex.new hl, upd_same, .cons (hv.mono (Kind.of (Ex.new hl))) .nil, Bool.and_true _, rfl, hz⟩, ?_⟩
  rintro m σ' H' ⟨x, ds, ws, rfl, e1, hL, hRs, hT, rfl, hm⟩
  refine ⟨_, rfl, _, .inl ⟨ws, SqL.of hL, rfl⟩, ?_⟩
  rcases list_end ds with rfl | ⟨ds, d', rfl⟩
  · cases hRs
    have e : isT d = true := hT.symm
    rw [e] at q
    exact iteF (q _ e1)
  · obtain ⟨ws, v', rfl, hR1, hR2⟩ := hRs.last
    have hne : (!(ws ++ [v']).isEmpty) = true := by simp
    rw [hne]
    rw [isTs_app, isTs_cons, isTs_nil, Bool.and_true] at hT
    rw [sizesD_app] at hm ⊢
    have hs1 : sizesD [d'] = sizeD d' := by rw [sizesD, sizesD, Nat.add_zero]
    rw [hs1] at hm ⊢
    refine iteT ⟨fun σ2 H2 => ∃ m', m' < sizesD ds + sizeD d' ∧ ∃ x ds ws, σ2 = [some v, some (.ref l), x] ∧ Ex H H2 ∧ H2 l = some (.lst ws) ∧ OdAll K H2 ws ds ∧ isTs ds = isT d ∧ sizesD ds = m' ∧ m' ≤ 60000, fun _ _ h => h, ?_⟩
    refine ⟨_, rfl, .inl ⟨rfl, _, SqL.of hL⟩, l, _, v', rfl, rfl, hL, last_app _ _, ?_⟩
    rw [drop_app]
    have t1 : Kind K H' (upd H' l (.lst ws)) := Kind.lst hL
    refine ⟨_, rfl, v', d', rfl, hR2.mono t1, by omega, fun H2 e2 => ⟨partD d', rfl, ?_⟩⟩
    have hL2 : H2 l = some (.lst ws) := e2 l _ upd_same
    have e4 : Ex H (upd H' l (.lst ws)) := Ex.mut e1 hl
    rw [isT_eq d'] at hT
    cases hp : partD d' with
    | false =>
      rw [hp, Bool.false_and, Bool.and_false] at hT
      rw [← hT] at q
      exact iteT (q _ (e4.trans e2))
    | true =>
      rw [hp, Bool.true_and] at hT
      refine iteF ⟨_, rfl, .inl ⟨rfl, _, SqL.of hL2⟩, _, rfl, v', d', rfl, (hR2.mono t1).mono (Kind.of e2), hp, fun p us H3 hp3 e3 hU hUs => ?_⟩
      have hL3 : H3 l = some (.lst ws) := e3 l _ hL2
      have hlen := hR1.len
      have hlen2 := hUs.len
      have z1 := len_sizesD ds
      have z2 := len_sizesD (argsD d')
      have z3 := sizeD_args d'
      refine ⟨l, p, ws, us, rfl, rfl, hL3, SqT.of hU, small5 (by omega), sizesD (ds ++ argsD d'), ?_, _, ds ++ argsD d', ws ++ us, rfl, ?_, upd_same, ?_, ?_, rfl, ?_⟩
      · rw [sizesD_app]
        omega
      · exact Ex.mut ((e4.trans e2).trans e3) hl
      · have t3 : Kind K (upd H' l (.lst ws)) (upd H3 l (.lst (ws ++ us))) := ((Kind.of e2).trans (Kind.of e3)).trans (Kind.lst hL3)
        exact ((hR1.mono t1).mono t3).app (hUs.mono (Kind.lst hL3))
      · rw [isTs_app]
        exact hT
      · rw [sizesD_app]
        omega
end
end Hm

set_option Elab.async false
set_option linter.all false
set_option maxRecDepth 100000
set_option maxHeartbeats 1000000
namespace Hm
open PySem PySem.Spec PyProof.Rows L2 HT
open Evl (Ex)
/-! ### cells -/
inductive Ad where
  | h (n : Nat)
  | s (n : Nat)
  deriving DecidableEq
def Ad.wd : Ad → Str
  | .h _ => "h"
  | .s _ => "s"
def Ad.no : Ad → Nat
  | .h n => n
  | .s n => n
inductive Ce where
  | ref (a : Ad)
  | con (a : Str)
  | num (i : Int)
  | str (n : Nat)
  | fn (f : Str) (m : Nat)
  | non
  deriving DecidableEq
def AdAt (K : PySem.W.Frag) (H : Hp) (v : V) (a : Ad) : Prop := ∃ q, v = .ref q ∧ SqT K H q [.str a.wd, .int (a.no : Int)]
def CAt (K : PySem.W.Frag) (H : Hp) (v : V) : Ce → Prop
  | .ref n => ∃ p u, v = .ref p ∧ SqT K H p [.str "ref", u] ∧ AdAt K H u n
  | .con a => ∃ p, v = .ref p ∧ SqT K H p [.str "con", .str a]
  | .num i => ∃ p, v = .ref p ∧ SqT K H p [.str "int", .int i]
  | .str n => ∃ p u, v = .ref p ∧ SqT K H p [.str "str", u] ∧ AdAt K H u (.h n)
  | .fn f m => ∃ p, v = .ref p ∧ SqT K H p [.str "fun", .str f, .int (m : Int)]
  | .non => ∃ p, v = .ref p ∧ SqT K H p [.str "none"]
def CeOk : Ce → Prop
  | .con a => AtomOk a
  | .num i => -tooGreat < i ∧ i < tooGreat
  | .fn f m => AtomOk f ∧ 1 ≤ m ∧ m ≤ 8
  | _ => True
theorem atomD_of {a : Str} (h : AtomOk a) : atomD (.str a) = true := by
  show (decide (a.cps.size ≤ 40) && a.cps.toList.all signOk) = true
  rw [decide_eq_true h.1, Bool.true_and, List.all_eq_true]
  exact fun c hc => decide_eq_true (h.2 c hc)
theorem isT_num {i : Int} (h : -tooGreat < i ∧ i < tooGreat) : isT (.int i) = true := by
  unfold isT
  show (decide (-tooGreat < i) && decide (i < tooGreat)) = true
  rw [decide_eq_true h.1, decide_eq_true h.2]
  rfl
/-- an address, a cell as data -/
def adD (a : Ad) : PyData := .tuple [.str a.wd, .int (a.no : Int)]
def Ce.pd : Ce → PyData
  | .ref n => .tuple [.str "ref", adD n]
  | .con a => .tuple [.str "con", .str a]
  | .num i => .tuple [.str "int", .int i]
  | .str n => .tuple [.str "str", adD (.h n)]
  | .fn f m => .tuple [.str "fun", .str f, .int (m : Int)]
  | .non => .tuple [.str "none"]
theorem lay_w {x : Str} (h : (x.cps.all fun c => decide (c < 0x110000)) = true) : (PyData.str x).canLay0 = true := h
theorem lay_ad (a : Ad) : (adD a).canLay0 = true := by
  show ((PyData.str a.wd).canLay0 && ((PyData.int (a.no : Int)).canLay0 && true)) = true
  cases a
  · show ((PyData.str "h").canLay0 && true) = true
    rw [lay_w (x := "h") (by decide +kernel)]
    rfl
  · show ((PyData.str "s").canLay0 && true) = true
    rw [lay_w (x := "s") (by decide +kernel)]
    rfl
theorem dep_ce (c : Ce) : c.pd.depth ≤ 64 := by
  cases c <;> exact Nat.le_of_ble_eq_true rfl
theorem lay_ce {c : Ce} (h : CeOk c) : c.pd.canLay0 = true := by
  cases c with
  | ref n =>
    show ((PyData.str "ref").canLay0 && ((adD n).canLay0 && true)) = true
    rw [lay_w (by decide +kernel), lay_ad]
    rfl
  | con a =>
    show ((PyData.str "con").canLay0 && ((PyData.str a).canLay0 && true)) = true
    rw [lay_w (x := "con") (by decide +kernel), strOk_of h]
    rfl
  | num i =>
    show ((PyData.str "int").canLay0 && ((PyData.int i).canLay0 && true)) = true
    rw [lay_w (by decide +kernel)]
    rfl
  | str n =>
    show ((PyData.str "str").canLay0 && ((adD (.h n)).canLay0 && true)) = true
    rw [lay_w (by decide +kernel), lay_ad]
    rfl
  | fn f m =>
    show ((PyData.str "fun").canLay0 && ((PyData.str f).canLay0 && ((PyData.int (m : Int)).canLay0 && true))) = true
    rw [lay_w (x := "fun") (by decide +kernel), strOk_of h.1]
    rfl
  | non =>
    show ((PyData.str "none").canLay0 && true) = true
    rw [lay_w (x := "none") (by decide +kernel)]
    rfl
theorem shaped_ce {c : Ce} (h : CeOk c) : SeqAt.shaped c.pd = true := by
  show (c.pd.canLay0 && decide (c.pd.depth ≤ 64)) = true
  rw [lay_ce h, decide_eq_true (dep_ce c)]
  rfl
section
variable {P : Program} {w : World} {K : PySem.W.Frag} {mg : Str → Option Value} {base : Heap}
theorem AdAt.tups {H H' : Hp} (e : Tups K H H') {v : V} {n : Ad} (h : AdAt K H v n) : AdAt K H' v n := by
  obtain ⟨q, rfl, h⟩ := h
  exact ⟨q, rfl, e _ _ h⟩
theorem CAt.tups {H H' : Hp} (e : Tups K H H') {v : V} {c : Ce} (h : CAt K H v c) : CAt K H' v c := by
  cases c with
  | ref n =>
    obtain ⟨p, u, rfl, h1, h2⟩ := h
    exact ⟨p, u, rfl, e _ _ h1, h2.tups e⟩
  | con a =>
    obtain ⟨p, rfl, h⟩ := h
    exact ⟨p, rfl, e _ _ h⟩
  | num a =>
    obtain ⟨p, rfl, h⟩ := h
    exact ⟨p, rfl, e _ _ h⟩
  | str n =>
    obtain ⟨p, u, rfl, h1, h2⟩ := h
    exact ⟨p, u, rfl, e _ _ h1, h2.tups e⟩
  | fn f m =>
    obtain ⟨p, rfl, h⟩ := h
    exact ⟨p, rfl, e _ _ h⟩
  | non =>
    obtain ⟨p, rfl, h⟩ := h
    exact ⟨p, rfl, e _ _ h⟩
theorem dp_ad {H : Hp} {v : V} {n : Ad} (h : AdAt K H v n) : Dp K H v (adD n) := by
  obtain ⟨q, rfl, h⟩ := h
  exact .tup h (.cons (.str _) (.cons (.int _) .nil))
theorem dp_ce {H : Hp} {v : V} {c : Ce} (h : CAt K H v c) : Dp K H v c.pd := by
  cases c with
  | ref n =>
    obtain ⟨p, u, rfl, h1, h2⟩ := h
    exact .tup h1 (.cons (.str _) (.cons (dp_ad h2) .nil))
  | con a =>
    obtain ⟨p, rfl, h⟩ := h
    exact .tup h (.cons (.str _) (.cons (.str _) .nil))
  | num a =>
    obtain ⟨p, rfl, h⟩ := h
    exact .tup h (.cons (.str _) (.cons (.int _) .nil))
  | str n =>
    obtain ⟨p, u, rfl, h1, h2⟩ := h
    exact .tup h1 (.cons (.str _) (.cons (dp_ad h2) .nil))
  | fn f m =>
    obtain ⟨p, rfl, h⟩ := h
    exact .tup h (.cons (.str _) (.cons (.str _) (.cons (.int _) .nil)))
  | non =>
    obtain ⟨p, rfl, h⟩ := h
    exact .tup h (.cons (.str _) .nil)
theorem eqv_ce (c d : Ce) : PyData.eqv c.pd d.pd = decide (c = d) := by
  have ks : ∀ a b : Str, PyData.eqv (.str a) (.str b) = decide (a = b) := fun a b => by
    show (a == b) = _
    exact Bool.beq_eq_decide_eq a b
  have ki : ∀ a b : Int, PyData.eqv (.int a) (.int b) = decide (a = b) := fun a b => by
    show (a == b) = _
    exact Bool.beq_eq_decide_eq a b
  have ka : ∀ a b : Ad, PyData.eqv (adD a) (adD b) = decide (a = b) := fun a b => by
    show (PyData.eqv (.str a.wd) (.str b.wd) && (PyData.eqv (.int (a.no : Int)) (.int (b.no : Int)) && true)) = _
    rw [ks, ki, Bool.and_true]
    have hs : ¬ (("h" : Str) = "s") := by decide +kernel
    cases a with
    | h n =>
      cases b with
      | h m =>
        by_cases e : n = m
        · subst e
          simp
        · rw [decide_eq_false (show ¬ ((Ad.h n).no : Int) = ((Ad.h m).no : Int) by show ¬ (n : Int) = (m : Int); omega), decide_eq_false (show ¬ Ad.h n = Ad.h m from fun z => e (by cases z; rfl)), Bool.and_false]
      | s m =>
        rw [decide_eq_false (show ¬ (Ad.h n).wd = (Ad.s m).wd from hs), decide_eq_false (show ¬ Ad.h n = Ad.s m from fun z => by cases z), Bool.false_and]
    | s n =>
      cases b with
      | h m =>
        rw [decide_eq_false (show ¬ (Ad.s n).wd = (Ad.h m).wd from fun z => hs z.symm), decide_eq_false (show ¬ Ad.s n = Ad.h m from fun z => by cases z), Bool.false_and]
      | s m =>
        by_cases e : n = m
        · subst e
          simp
        · rw [decide_eq_false (show ¬ ((Ad.s n).no : Int) = ((Ad.s m).no : Int) by show ¬ (n : Int) = (m : Int); omega), decide_eq_false (show ¬ Ad.s n = Ad.s m from fun z => e (by cases z; rfl)), Bool.and_false]
  have k2 : ∀ (x y : Str) (a b : PyData), PyData.eqv (.tuple [.str x, a]) (.tuple [.str y, b]) = (decide (x = y) && (PyData.eqv a b && true)) := fun x y a b => by
    show (PyData.eqv (.str x) (.str y) && (PyData.eqv a b && true)) = _
    rw [ks]
  have k3 : ∀ (x y : Str) (a b a' b' : PyData), PyData.eqv (.tuple [.str x, a, a']) (.tuple [.str y, b, b']) = (decide (x = y) && (PyData.eqv a b && (PyData.eqv a' b' && true))) := fun x y a b a' b' => by
    show (PyData.eqv (.str x) (.str y) && (PyData.eqv a b && (PyData.eqv a' b' && true))) = _
    rw [ks]
  have n1 : ¬ (("ref" : Str) = "con") := by decide +kernel
  have n2 : ¬ (("ref" : Str) = "int") := by decide +kernel
  have n3 : ¬ (("ref" : Str) = "str") := by decide +kernel
  have n4 : ¬ (("con" : Str) = "int") := by decide +kernel
  have n5 : ¬ (("con" : Str) = "str") := by decide +kernel
  have n6 : ¬ (("int" : Str) = "str") := by decide +kernel
  have x23 : ∀ (x y : Str) (a b b' : PyData), PyData.eqv (.tuple [.str x, a]) (.tuple [.str y, b, b']) = false := fun x y a b b' => by
    show (PyData.eqv (.str x) (.str y) && (PyData.eqv a b && false)) = _
    rw [Bool.and_false, Bool.and_false]
  have x32 : ∀ (x y : Str) (a b b' : PyData), PyData.eqv (.tuple [.str x, a, b']) (.tuple [.str y, b]) = false := fun x y a b b' => by
    show (PyData.eqv (.str x) (.str y) && (PyData.eqv a b && false)) = _
    rw [Bool.and_false, Bool.and_false]
  have x12 : ∀ (x y : Str) (a : PyData), PyData.eqv (.tuple [.str x]) (.tuple [.str y, a]) = false := fun x y a => by
    show (PyData.eqv (.str x) (.str y) && false) = _
    rw [Bool.and_false]
  have x21 : ∀ (x y : Str) (a : PyData), PyData.eqv (.tuple [.str x, a]) (.tuple [.str y]) = false := fun x y a => by
    show (PyData.eqv (.str x) (.str y) && false) = _
    rw [Bool.and_false]
  have x13 : ∀ (x y : Str) (a b : PyData), PyData.eqv (.tuple [.str x]) (.tuple [.str y, a, b]) = false := fun x y a b => by
    show (PyData.eqv (.str x) (.str y) && false) = _
    rw [Bool.and_false]
  have x31 : ∀ (x y : Str) (a b : PyData), PyData.eqv (.tuple [.str x, a, b]) (.tuple [.str y]) = false := fun x y a b => by
    show (PyData.eqv (.str x) (.str y) && false) = _
    rw [Bool.and_false]
  have x11 : PyData.eqv (.tuple [.str "none"]) (.tuple [.str "none"]) = true := by decide +kernel
  cases c <;> cases d <;> unfold Ce.pd <;> simp [k2, k3, ks, ki, ka, x12, x21, x13, x31, x11, x23, x32, n1, n2, n3, n4, n5, n6, Ne.symm n1, Ne.symm n2, Ne.symm n3, Ne.symm n4, Ne.symm n5, Ne.symm n6]
  rename_i f m g n
  by_cases h : m = n
  · subst h
    simp
  · rw [decide_eq_false h, decide_eq_false (show ¬ ((m : Int) = (n : Int)) by omega)]
def spAddr (K : PySem.W.Frag) : Sp := fun vs H Q _ => ∃ v n, vs = [v] ∧ AdAt K H v n ∧ ∀ H', Ex H H' → Q (.bl true) H'
theorem ok_is_address (T : Tx K mg) : FnOk P w K mg base CX0 3 T.f_is_address T.d_is_address ["value"] (spAddr K) := by
  refine T.h_is_address.F.ok sc_is_address (fun vs H Q E h => ?_) (fun cdv A outer s H vs Q E hr h => ?_)
  · obtain ⟨v, d, rfl, _⟩ := h
    rfl
  obtain ⟨v, n, rfl, ⟨q, rfl, hq⟩, k⟩ := h
  refine ⟨_, (pss_cons (ps_if (PW.pt (pw_or (pt_not (pt_val (pe_callB call_isi rfl T.b_isinstance (by decide +kernel) (pa_cons (pv 0) (pa_cons (pe_bltn (v := .ty "tuple") (u := .type "tuple") rfl T.b_tuple (by decide +kernel) rfl) pa_nil))))) (pw_or (pt_cmpR op_ne (pe_callB call_len_seq rfl T.b_len (by decide +kernel) (pa_cons (pv 0) pa_nil)) pe_int (nomark _)) (pw_or1 (pt_not (pt_val (pe_callB call_isi rfl T.b_isinstance (by decide +kernel) (pa_cons (pe_ix ix_tup (pv 0) pe_int (fun _ _ => rfl)) (pa_cons (pe_bltn (v := .ty "str") (u := .type "str") rfl T.b_str (by decide +kernel) rfl) pa_nil)))))))))
      (pss_one (ps_ret pe_bl))
      pss_nil)
    (pss_one (ps_ret (pe_and (pe_cmpR op_in_seq (pe_ix ix_tup (pv 0) pe_int (fun _ _ => rfl)) (pe_tup (pa_cons pe_str (pa_cons pe_str pa_nil))) (by rfl)) (pe_one (cl (ok_is_number T) T.h_is_number hr (pa_cons (pe_ix ix_tup (pv 0) pe_int (fun _ _ => rfl)) pa_nil))))))), ?_⟩
  refine ⟨_, rfl, _, _, _, _, true, rfl, .ty "tuple", tyx_tup hq, kit_ty (a := "tuple") (by decide +kernel), true, rfl, iteF ?_⟩
  refine ⟨_, rfl, q, _, rfl, .inr hq, rfl, false, rfl, iteF ?_⟩
  refine ⟨_, rfl, q, _, 0, _, rfl, rfl, hq, at0, _, _, _, _, true, rfl, .ty "str", .base (.str _), kit_ty (a := "str") (by decide +kernel), true, rfl, iteF ?_⟩
  refine ⟨_, rfl, q, _, 0, _, rfl, rfl, hq, at0, Nat.le_of_ble_eq_true rfl, fun t ht => ?_⟩
  have e1 := Ex.new (o := HO.tup [V.str "h", V.str "s"]) ht
  have en : numD (.int (n.no : Int)) = true := by
    show (decide ((0 : Int) ≤ (n.no : Int))) = true
    exact decide_eq_true (by omega)
  cases n with
  | h m =>
    refine ⟨t, _, rfl, .inr (SqT.of upd_same), rfl, rfl, true, rfl, iteT ?_⟩
    refine ⟨_, rfl, q, _, 1, _, rfl, rfl, Evl.ex_t e1 hq, rfl, _, .int (m : Int), rfl, .int _, ?_⟩
    rw [show numD (.int (m : Int)) = true from en]
    exact k _ e1
  | s m =>
    refine ⟨t, _, rfl, .inr (SqT.of upd_same), rfl, rfl, true, rfl, iteT ?_⟩
    refine ⟨_, rfl, q, _, 1, _, rfl, rfl, Evl.ex_t e1 hq, rfl, _, .int (m : Int), rfl, .int _, ?_⟩
    rw [show numD (.int (m : Int)) = true from en]
    exact k _ e1
/-- a cell of two places: its word, what stands behind it -/
def PairAt (K : PySem.W.Frag) (H : Hp) (wd : Str) (u : V) : Ce → Prop
  | .ref n => wd = "ref" ∧ AdAt K H u n
  | .con a => wd = "con" ∧ u = .str a
  | .num i => wd = "int" ∧ u = .int i
  | .str n => wd = "str" ∧ AdAt K H u (.h n)
  | .fn _ _ => False
  | .non => False
def spPair (K : PySem.W.Frag) : Sp := fun vs H Q _ => ∃ wd u c, vs = [.str wd, u] ∧ PairAt K H wd u c ∧ CeOk c ∧ ∀ H', Ex H H' → Q (.bl true) H'
theorem ok_is_pair_cell (T : Tx K mg) : FnOk P w K mg base CX0 5 T.f_is_pair_cell T.d_is_pair_cell ["word", "what"] (spPair K) := by
  refine T.h_is_pair_cell.F.ok sc_is_pair_cell (fun vs H Q E h => ?_) (fun cdv A outer s H vs Q E hr h => ?_)
  · obtain ⟨v, d, _, rfl, _⟩ := h
    rfl
  obtain ⟨wd, u, c, rfl, hp, hc, k⟩ := h
  refine ⟨_, (pss_cons (ps_if (pt_cmpR op_eq (pv 0) pe_str (nomark _))
      (pss_one (ps_ret (cl (ok_is_address T) T.h_is_address hr (pa_cons (pv 1) pa_nil))))
      pss_nil)
    (pss_cons (ps_if (pt_cmpR op_eq (pv 0) pe_str (nomark _))
      (pss_one (ps_ret (cl (ok_is_atom T) T.h_is_atom hr (pa_cons (pv 1) pa_nil))))
      pss_nil)
    (pss_cons (ps_if (pt_cmpR op_eq (pv 0) pe_str (nomark _))
      (pss_one (ps_ret (pe_and (cl (ok_is_integer T) T.h_is_integer hr (pa_cons (pv 1) pa_nil)) (pe_one (cl (ok_is_term T) T.h_is_term hr (pa_cons (pv 1) pa_nil))))))
      pss_nil)
    (pss_cons (ps_if (pt_cmpR op_eq (pv 0) pe_str (nomark _))
      (pss_one (ps_ret (pe_and (cl (ok_is_address T) T.h_is_address hr (pa_cons (pv 1) pa_nil)) (pe_one (pe_cmpR op_eq (pe_ix ix_tup (pv 1) pe_int (fun _ _ => rfl)) pe_str (nomark _))))))
      pss_nil)
    (pss_one (ps_ret (pe_and (pe_cmpR op_eq (pv 0) pe_str (nomark _)) (pe_one (cl (ok_is_number T) T.h_is_number hr (pa_cons (pv 1) pa_nil)))))))))), ?_⟩
  cases c with
  | ref n =>
    obtain ⟨rfl, ha⟩ := hp
    refine ⟨_, rfl, rfl, true, rfl, iteT ?_⟩
    exact ⟨_, rfl, u, n, rfl, ha, fun H1 e1 => k _ e1⟩
  | con a =>
    obtain ⟨rfl, rfl⟩ := hp
    refine ⟨_, rfl, rfl, false, rfl, iteF ⟨_, rfl, rfl, true, rfl, iteT ?_⟩⟩
    refine ⟨_, rfl, _, _, rfl, .str a, ?_, fun H1 e1 => ?_⟩
    · unfold sizeD
      have hl : a.cps.size ≤ 40 := hc.1
      show 1 + a.cps.size ≤ 60000
      omega
    rw [atomD_of hc]
    exact k _ e1
  | num i =>
    obtain ⟨rfl, rfl⟩ := hp
    refine ⟨_, rfl, rfl, false, rfl, iteF ⟨_, rfl, rfl, false, rfl, iteF ⟨_, rfl, rfl, true, rfl, iteT ?_⟩⟩⟩
    refine ⟨_, rfl, _, _, rfl, .int i, true, rfl, iteT ?_⟩
    refine ⟨_, rfl, _, _, rfl, .int i, ?_, fun H1 e1 => ?_⟩
    · unfold sizeD
      decide
    rw [isT_num hc]
    exact k _ e1
  | str n =>
    obtain ⟨rfl, ha⟩ := hp
    refine ⟨_, rfl, rfl, false, rfl, iteF ⟨_, rfl, rfl, false, rfl, iteF ⟨_, rfl, rfl, false, rfl, iteF ⟨_, rfl, rfl, true, rfl, iteT ?_⟩⟩⟩⟩
    refine ⟨_, rfl, u, .h n, rfl, ha, fun H1 e1 => ⟨true, rfl, iteT ?_⟩⟩
    obtain ⟨q, rfl, hq⟩ := ha
    refine ⟨_, rfl, q, _, 0, _, rfl, rfl, Evl.ex_t e1 hq, at0, rfl, ?_⟩
    rw [show decide (V.str (Ad.h n).wd = V.str "h") = true from rfl]
    exact k _ e1
  | fn f m => exact hp.elim
  | non => exact hp.elim
theorem cat_pair {H : Hp} {v : V} {c : Ce} (h : CAt K H v c) : (∃ p wd u, v = .ref p ∧ SqT K H p [.str wd, u] ∧ PairAt K H wd u c) ∨ (∃ f m p, c = .fn f m ∧ v = .ref p ∧ SqT K H p [.str "fun", .str f, .int (m : Int)]) ∨ ∃ p, c = .non ∧ v = .ref p ∧ SqT K H p [.str "none"] := by
  cases c with
  | ref n =>
    obtain ⟨p, u, rfl, h1, h2⟩ := h
    exact .inl ⟨p, _, u, rfl, h1, rfl, h2⟩
  | con a =>
    obtain ⟨p, rfl, h⟩ := h
    exact .inl ⟨p, _, _, rfl, h, rfl, rfl⟩
  | num a =>
    obtain ⟨p, rfl, h⟩ := h
    exact .inl ⟨p, _, _, rfl, h, rfl, rfl⟩
  | str n =>
    obtain ⟨p, u, rfl, h1, h2⟩ := h
    exact .inl ⟨p, _, u, rfl, h1, rfl, h2⟩
  | fn f m =>
    obtain ⟨p, rfl, h⟩ := h
    exact .inr (.inl ⟨f, m, p, rfl, rfl, h⟩)
  | non =>
    obtain ⟨p, rfl, h⟩ := h
    exact .inr (.inr ⟨p, rfl, rfl, h⟩)
theorem PairAt.tups {H H' : Hp} (e : Tups K H H') {wd : Str} {u : V} {c : Ce} (h : PairAt K H wd u c) : PairAt K H' wd u c := by
  cases c with
  | ref n => exact ⟨h.1, h.2.tups e⟩
  | con a => exact h
  | num a => exact h
  | str n => exact ⟨h.1, h.2.tups e⟩
  | fn f m => exact h
  | non => exact h
def spCell (K : PySem.W.Frag) : Sp := fun vs H Q _ => ∃ v c, vs = [v] ∧ CAt K H v c ∧ CeOk c ∧ ∀ H', Ex H H' → Q (.bl true) H'
theorem ok_is_cell (T : Tx K mg) : FnOk P w K mg base CX0 6 T.f_is_cell T.d_is_cell ["value"] (spCell K) := by
  refine T.h_is_cell.F.ok sc_is_cell (fun vs H Q E h => ?_) (fun cdv A outer s H vs Q E hr h => ?_)
  · obtain ⟨v, d, rfl, _⟩ := h
    rfl
  obtain ⟨v, c, rfl, hv, hc, k⟩ := h
  obtain ⟨tk, hc_MOST_ARGUMENTS⟩ := T.c_MOST_ARGUMENTS
  have hu := hr.units
  refine ⟨_, (pss_cons (ps_if (PW.pt (pw_or (pt_not (pt_val (pe_callB call_isi rfl T.b_isinstance (by decide +kernel) (pa_cons (pv 0) (pa_cons (pe_bltn (v := .ty "tuple") (u := .type "tuple") rfl T.b_tuple (by decide +kernel) rfl) pa_nil))))) (pw_or (pt_cmpR (op_eqD hu) (pv 0) (pe_tup pa_nil) (nomark _)) (pw_or1 (pt_not (pt_val (pe_callB call_isi rfl T.b_isinstance (by decide +kernel) (pa_cons (pe_ix ix_tup (pv 0) pe_int (fun _ _ => rfl)) (pa_cons (pe_bltn (v := .ty "str") (u := .type "str") rfl T.b_str (by decide +kernel) rfl) pa_nil)))))))))
      (pss_one (ps_ret pe_bl))
      pss_nil)
    (pss_cons (ps_if (pt_cmpR op_eq (pe_callB call_len_seq rfl T.b_len (by decide +kernel) (pa_cons (pv 0) pa_nil)) pe_int (nomark _))
      (pss_one (ps_ret (cl (ok_is_pair_cell T) T.h_is_pair_cell hr (pa_cons (pe_ix ix_tup (pv 0) pe_int (fun _ _ => rfl)) (pa_cons (pe_ix ix_tup (pv 0) pe_int (fun _ _ => rfl)) pa_nil)))))
      pss_nil)
    (pss_cons (ps_if (pt_cmpR op_eq (pe_callB call_len_seq rfl T.b_len (by decide +kernel) (pa_cons (pv 0) pa_nil)) pe_int (nomark _))
      (pss_one (ps_ret (pe_and (pe_cmpR op_eq (pe_ix ix_tup (pv 0) pe_int (fun _ _ => rfl)) pe_str (nomark _)) (pe_and (cl (ok_is_atom T) T.h_is_atom hr (pa_cons (pe_ix ix_tup (pv 0) pe_int (fun _ _ => rfl)) pa_nil)) (pe_and (cl (ok_is_integer T) T.h_is_integer hr (pa_cons (pe_ix ix_tup (pv 0) pe_int (fun _ _ => rfl)) pa_nil)) (pe_one (pe_chain op_le op_le pe_int (pe_ix ix_tup (pv 0) pe_int (fun _ _ => rfl)) (pe_glob (v := .int 8) rfl hc_MOST_ARGUMENTS ⟨_, rfl⟩))))))))
      pss_nil)
    (pss_one (ps_ret (pe_cmpR (op_eqD hu) (pv 0) (pe_glob (v := .ref T.a_No) rfl T.m_No rfl) (nomark _))))))), ?_⟩
  have e0 : ∀ (H1 : Hp) (t : Addr), H1 t = some (.tup []) → Dp K H1 (.ref t) (.tuple []) := fun H1 t ht => .tup (SqT.of ht) .nil
  have hv0 := hv
  rcases cat_pair hv with ⟨p, wd, u, rfl, hp, hpa⟩ | ⟨f, m, p, rfl, rfl, hp⟩ | ⟨p, rfl, rfl, hp⟩
  · refine ⟨_, rfl, _, _, _, _, true, rfl, .ty "tuple", tyx_tup hp, kit_ty (a := "tuple") (by decide +kernel), true, rfl, iteF ?_⟩
    refine ⟨_, rfl, Nat.zero_le _, fun t0 ht0 => ?_⟩
    have e1 := Ex.new (o := HO.tup []) ht0
    have hp1 := Evl.ex_t e1 hp
    have ene : PyData.eqv c.pd (.tuple []) = false := by cases c <;> rfl
    refine ⟨_, _, dp_ce (hv0.tups (.of e1)), e0 _ _ upd_same, shaped_ce hc, rfl, false, (by rw [ene]), iteF ?_⟩
    refine ⟨_, rfl, p, _, 0, _, rfl, rfl, hp1, at0, _, _, _, _, true, rfl, .ty "str", .base (.str _), kit_ty (a := "str") (by decide +kernel), true, rfl, iteF ?_⟩
    refine ⟨_, rfl, p, _, rfl, .inr hp1, rfl, true, rfl, iteT ?_⟩
    refine ⟨_, rfl, p, _, 0, _, rfl, rfl, hp1, at0, _, rfl, p, _, 1, _, rfl, rfl, hp1, rfl, wd, u, c, rfl, hpa.tups (.of e1), hc, fun H2 e2 => k _ (e1.trans e2)⟩
  · refine ⟨_, rfl, _, _, _, _, true, rfl, .ty "tuple", tyx_tup hp, kit_ty (a := "tuple") (by decide +kernel), true, rfl, iteF ?_⟩
    refine ⟨_, rfl, Nat.zero_le _, fun t0 ht0 => ?_⟩
    have e1 := Ex.new (o := HO.tup []) ht0
    have hp1 := Evl.ex_t e1 hp
    refine ⟨_, _, dp_ce (c := .fn f m) ⟨p, rfl, hp1⟩, e0 _ _ upd_same, shaped_ce hc, rfl, false, rfl, iteF ?_⟩
    refine ⟨_, rfl, p, _, 0, _, rfl, rfl, hp1, at0, _, _, _, _, true, rfl, .ty "str", .base (.str _), kit_ty (a := "str") (by decide +kernel), true, rfl, iteF ?_⟩
    refine ⟨_, rfl, p, _, rfl, .inr hp1, rfl, false, rfl, iteF ?_⟩
    refine ⟨_, rfl, p, _, rfl, .inr hp1, rfl, true, rfl, iteT ?_⟩
    refine ⟨_, rfl, p, _, 0, _, rfl, rfl, hp1, at0, rfl, true, rfl, iteT ?_⟩
    refine ⟨_, rfl, p, _, 1, _, rfl, rfl, hp1, rfl, _, _, rfl, .str f, ?_, fun H2 e2 => ?_⟩
    · unfold sizeD
      have hl : f.cps.size ≤ 40 := hc.1.1
      show 1 + f.cps.size ≤ 60000
      omega
    rw [atomD_of hc.1]
    refine ⟨true, rfl, iteT ?_⟩
    have hp2 := Evl.ex_t e2 hp1
    refine ⟨_, rfl, p, _, 2, _, rfl, rfl, hp2, rfl, _, _, rfl, .int (m : Int), true, rfl, iteT ?_⟩
    refine ⟨_, rfl, p, _, 2, _, rfl, rfl, hp2, rfl, _, _, rfl, rfl, true, ?_, iteT ⟨_, _, rfl, rfl, ?_⟩⟩
    · show V.bl (decide ((1 : Int) ≤ (m : Int))) = V.bl true
      rw [decide_eq_true (by have := hc.2.1; omega)]
    · have e8 : decide ((m : Int) ≤ 8) = true := decide_eq_true (by have := hc.2.2; omega)
      show Q (.bl (decide ((m : Int) ≤ 8))) H2
      rw [e8]
      exact k _ (e1.trans e2)
  · refine ⟨_, rfl, _, _, _, _, true, rfl, .ty "tuple", tyx_tup hp, kit_ty (a := "tuple") (by decide +kernel), true, rfl, iteF ?_⟩
    refine ⟨_, rfl, Nat.zero_le _, fun t0 ht0 => ?_⟩
    have e1 := Ex.new (o := HO.tup []) ht0
    have hp1 := Evl.ex_t e1 hp
    refine ⟨_, _, dp_ce (c := .non) ⟨p, rfl, hp1⟩, e0 _ _ upd_same, shaped_ce hc, rfl, false, rfl, iteF ?_⟩
    refine ⟨_, rfl, p, _, 0, _, rfl, rfl, hp1, at0, _, _, _, _, true, rfl, .ty "str", .base (.str _), kit_ty (a := "str") (by decide +kernel), true, rfl, iteF ?_⟩
    refine ⟨_, rfl, p, _, rfl, .inr hp1, rfl, false, rfl, iteF ?_⟩
    refine ⟨_, rfl, p, _, rfl, .inr hp1, rfl, false, rfl, iteF ?_⟩
    refine ⟨_, rfl, _, _, dp_ce (c := .non) ⟨p, rfl, hp1⟩, dp_ce (c := .non) ⟨_, rfl, T.r_No _⟩, shaped_ce hc, shaped_ce hc, ?_⟩
    rw [eqv_ce, decide_eq_true rfl]
    exact k _ e1
def spDemC (K : PySem.W.Frag) : Sp := fun vs H Q _ => ∃ v c, vs = [v] ∧ CAt K H v c ∧ CeOk c ∧ ∀ u H', Ex H H' → Q u H'
theorem ok_demand_cell (T : Tx K mg) : FnOk P w K mg base CX0 7 T.f_demand_cell T.d_demand_cell ["value"] (spDemC K) := by
  refine T.h_demand_cell.F.ok sc_demand_cell (fun vs H Q E h => ?_) (fun cdv A outer s H vs Q E hr h => ?_)
  · obtain ⟨v, d, rfl, _⟩ := h
    rfl
  obtain ⟨v, c, rfl, hv, hc, k⟩ := h
  refine ⟨_, (pss_one (ps_if (pt_not (pt_val (cl (ok_is_cell T) T.h_is_cell hr (pa_cons (pv 0) pa_nil))))
      (pss_one ps_never)
      pss_nil)), ?_⟩
  exact ⟨_, rfl, v, c, rfl, hv, hc, fun H' e1 => ⟨true, rfl, iteF (k _ _ e1)⟩⟩
end
end Hm

set_option Elab.async false
set_option linter.all false
set_option maxRecDepth 100000
set_option maxHeartbeats 1000000
namespace Hm
open PySem PySem.Spec PyProof.Rows L2 HT
open Evl (Ex)
/-! ### a store with places of the stack, a trail and marks -/
theorem szl {n : Nat} (h : n ≤ 10000000) : n < sizeLine := Nat.lt_of_le_of_lt h (by decide)
structure Mem where
  cs : List Ce
  sl : Nat → Option Ce
  sz : Nat
  no : List Ad
  hm : Nat
  sm : Nat
def Mem.new : Mem := ⟨[], fun _ => none, 0, [], 0, 0⟩
def Mem.at (m : Mem) : Ad → Option Ce
  | .h n => m.cs[n]?
  | .s n => m.sl n
def Mem.put (m : Mem) (a : Ad) (x : Ce) : Mem := match a with
  | .h n => { m with cs := m.cs.set n x }
  | .s n => { m with sl := fun k => if k = n then some x else m.sl k }
def Mem.low (m : Mem) : Ad → Bool
  | .h n => decide (n < m.hm)
  | .s n => decide (n < m.sm)
def flds (c d nt : Addr) (m : Mem) : List (Str × V) := [("cells", .ref c), ("slots", .ref d), ("stack_size", .int m.sz), ("noted", .ref nt), ("heap_mark", .int m.hm), ("stack_mark", .int m.sm)]
abbrev CAll (K : PySem.W.Frag) (H : Hp) : List V → List Ce → Prop := PySem.Paired (fun v c => CAt K H v c)
abbrev AAll (K : PySem.W.Frag) (H : Hp) : List V → List Ad → Prop := PySem.Paired (fun v a => AdAt K H v a)
def SlAt (K : PySem.W.Frag) (H : Hp) (kvs : List (Key × V)) (sl : Nat → Option Ce) : Prop := ∀ n : Nat, (sl n = none → valV kvs (.inl (n : Int)) = none) ∧ ∀ x, sl n = some x → ∃ v, valV kvs (.inl (n : Int)) = some v ∧ CAt K H v x ∧ CeOk x
structure Sto (K : PySem.W.Frag) (C : Addr) (H : Hp) (S c d nt : Addr) (m : Mem) : Prop where
  ins : ∃ dx, H S = some (.ins C dx (flds c d nt m))
  lst : ∃ vs, H c = some (.lst vs) ∧ CAll K H vs m.cs
  slo : ∃ kvs, H d = some (.dK kvs) ∧ SlAt K H kvs m.sl ∧ kvs.length ≤ m.sz
  nol : ∃ us, H nt = some (.lst us) ∧ AAll K H us m.no
  ok : ∀ x ∈ m.cs, CeOk x
  len : m.cs.length ≤ 10000000 ∧ m.sz ≤ 10000000 ∧ m.no.length ≤ 10000000
  hne : c ≠ nt
/-- all but the store stays -/
def Ks (S c d nt : Addr) (H H' : Hp) : Prop := ∀ b o, b ≠ S → b ≠ c → b ≠ d → b ≠ nt → H b = some o → H' b = some o
section
variable {P : Program} {w : World} {K : PySem.W.Frag} {mg : Str → Option Value} {base : Heap}
theorem CAll.tups {H H' : Hp} (e : Tups K H H') : ∀ {vs : List V} {cs : List Ce}, CAll K H vs cs → CAll K H' vs cs := by
  intro vs cs h
  induction h with
  | nil => exact .nil
  | cons h t ih => exact .cons (h.tups e) ih
theorem AAll.tups {H H' : Hp} (e : Tups K H H') : ∀ {vs : List V} {cs : List Ad}, AAll K H vs cs → AAll K H' vs cs := by
  intro vs cs h
  induction h with
  | nil => exact .nil
  | cons h t ih => exact .cons (h.tups e) ih
theorem SlAt.tups {H H' : Hp} (e : Tups K H H') {kvs : List (Key × V)} {sl : Nat → Option Ce} (h : SlAt K H kvs sl) : SlAt K H' kvs sl := fun n =>
  ⟨(h n).1, fun x hx => by
    obtain ⟨v, h1, h2, h3⟩ := (h n).2 x hx
    exact ⟨v, h1, h2.tups e, h3⟩⟩
theorem Ks.of {S c d nt : Addr} {H H' : Hp} (e : Ex H H') : Ks S c d nt H H' := fun b o _ _ _ _ h => e b o h
theorem Ks.trans {S c d nt : Addr} {H H1 H2 : Hp} (a : Ks S c d nt H H1) (b : Ks S c d nt H1 H2) : Ks S c d nt H H2 := fun x o n1 n2 n3 n4 h => b x o n1 n2 n3 n4 (a x o n1 n2 n3 n4 h)
theorem Sto.tups {C S c d nt : Addr} {H H' : Hp} {m : Mem} (h : Sto K C H S c d nt m) (k : Ks S c d nt H H') : Tups K H H' := fun a ys q => by
  obtain ⟨⟨dx, h1⟩, ⟨vs, h2, _⟩, ⟨kvs, h3, _⟩, ⟨us, h4, _⟩, _⟩ := h
  have go : ∀ {o : HO}, H a = some o → (∀ x y z, o ≠ .ins x y z) → (∀ x, o ≠ .lst x) → (∀ x, o ≠ .dK x) → H' a = some o := fun e n1 n2 n3 =>
    k _ _ (fun z => by subst z; rw [h1] at e; exact n1 _ _ _ (Option.some.inj e).symm) (fun z => by subst z; rw [h2] at e; exact n2 _ (Option.some.inj e).symm)
      (fun z => by subst z; rw [h3] at e; exact n3 _ (Option.some.inj e).symm) (fun z => by subst z; rw [h4] at e; exact n2 _ (Option.some.inj e).symm) e
  rcases q with (q | ⟨o, q⟩) | q
  · exact .inl (.inl (go q (fun _ _ _ z => by cases z) (fun _ z => by cases z) (fun _ z => by cases z)))
  · exact .inl (.inr ⟨o, go q (fun _ _ _ z => by cases z) (fun _ z => by cases z) (fun _ z => by cases z)⟩)
  · exact .inr q
theorem Sto.ex {C S c d nt : Addr} {H H' : Hp} {m : Mem} (h : Sto K C H S c d nt m) (e : Ex H H') : Sto K C H' S c d nt m := by
  obtain ⟨⟨dx, h1⟩, ⟨vs, h2, g2⟩, ⟨kvs, h3, g3, l3⟩, ⟨us, h4, g4⟩, h5, h6, h7⟩ := h
  exact ⟨⟨dx, e _ _ h1⟩, ⟨vs, e _ _ h2, g2.tups (.of e)⟩, ⟨kvs, e _ _ h3, g3.tups (.of e), l3⟩, ⟨us, e _ _ h4, g4.tups (.of e)⟩, h5, h6, h7⟩
def spInit (C : Addr) : Sp := fun vs H Q _ => ∃ (S dx : Addr), vs = [.ref S] ∧ H S = some (.ins C dx []) ∧ ∀ c sl nt H', H c = none → H sl = none → H nt = none → c ≠ nt → c ≠ sl → nt ≠ sl → (∀ b o, b ≠ S → H b = some o → H' b = some o) → H' S = some (.ins C dx (flds c sl nt Mem.new)) → H' c = some (.lst []) → H' nt = some (.lst []) → H' sl = some (.dK []) → Q .non H'
theorem ok_St_init (T : Tx K mg) : FnOk P w K mg base CX0 1 T.f_St_init T.d_St_init ["self"] (spInit T.C) := by
  refine T.F_St_init.ok sc_St_init (fun vs H Q E h => ?_) (fun cdv A outer s H vs Q E hr h => ?_)
  · obtain ⟨v, d, rfl, _⟩ := h
    rfl
  obtain ⟨S, dx, rfl, hS, k⟩ := h
  refine ⟨_, (pss_cons (ps_fld (pv 0) (pe_lst pa_nil) rfl)
    (pss_cons (ps_fld (pv 0) pe_dnewK rfl)
    (pss_cons (ps_fld (pv 0) pe_int rfl)
    (pss_cons (ps_fld (pv 0) (pe_lst pa_nil) rfl)
    (pss_cons (ps_fld (pv 0) pe_int rfl)
    (pss_one (ps_fld (pv 0) pe_int rfl))))))), ?_⟩
  refine ⟨Nat.zero_le _, fun c hc => ?_⟩
  have n1 : S ≠ c := ne_of_none hS hc
  refine ⟨_, rfl, S, T.C, dx, [], rfl, (by rw [upd_ne n1]; exact hS), T.cl, T.n_cells, (by show 0 < 1000; decide), ?_⟩
  intro sl hsl
  have n2 : S ≠ sl := fun z => by subst z; rw [upd_same] at hsl; cases hsl
  refine ⟨_, rfl, S, T.C, dx, _, rfl, (by rw [upd_ne n2, upd_same]), T.cl, T.n_slots, (by show 1 < 1000; decide), ?_⟩
  have n3 : c ≠ sl := fun z => by
    subst z
    rw [upd_ne n1.symm, upd_same] at hsl
    cases hsl
  refine ⟨_, rfl, S, T.C, dx, _, rfl, upd_same, T.cl, T.n_stack_size, (by show 2 < 1000; decide), ?_⟩
  refine ⟨Nat.zero_le _, fun nt hnt => ?_⟩
  have n4 : S ≠ nt := fun z => by
    subst z
    rw [upd_same] at hnt
    cases hnt
  have n6 : nt ≠ sl := fun z => by
    subst z
    rw [upd_ne n4.symm, upd_ne n4.symm, upd_same] at hnt
    cases hnt
  have n5 : nt ≠ c := fun z => by
    subst z
    rw [upd_ne n4.symm, upd_ne n4.symm, upd_ne n6, upd_ne n4.symm, upd_same] at hnt
    cases hnt
  refine ⟨_, rfl, S, T.C, dx, _, rfl, (by rw [upd_ne n4, upd_same]), T.cl, T.n_noted, (by show 3 < 1000; decide), ?_⟩
  refine ⟨_, rfl, S, T.C, dx, _, rfl, upd_same, T.cl, T.n_heap_mark, (by show 4 < 1000; decide), ?_⟩
  refine ⟨_, rfl, S, T.C, dx, _, rfl, upd_same, T.cl, T.n_stack_mark, (by show 5 < 1000; decide), ?_⟩
  have hnt0 : H nt = none := by
    rw [upd_ne n4.symm, upd_ne n4.symm, upd_ne n6, upd_ne n4.symm, upd_ne n5] at hnt
    exact hnt
  have hsl0 : H sl = none := by
    rw [upd_ne n2.symm, upd_ne n3.symm] at hsl
    exact hsl
  refine k c sl nt _ hc hsl0 hnt0 n5.symm n3 n6 (fun b o hb e => ?_) upd_same ?_ ?_ ?_
  · have b1 : b ≠ c := ne_of_none e hc
    have b2 : b ≠ nt := ne_of_none e hnt0
    have b3 : b ≠ sl := ne_of_none e hsl0
    simp only [upd_ne hb, upd_ne b1, upd_ne b2, upd_ne b3]
    exact e
  · simp only [upd_ne n1.symm, upd_ne n5.symm, upd_ne n3, upd_same]
  · simp only [upd_ne n4.symm, upd_same]
  · simp only [upd_ne n2.symm, upd_ne n6.symm, upd_same]
/-- what __init__ leaves is a store -/
theorem sto_new {C S dx c d nt : Addr} {H : Hp} (h1 : H S = some (.ins C dx (flds c d nt Mem.new))) (h2 : H c = some (.lst [])) (h3 : H nt = some (.lst [])) (h4 : H d = some (.dK [])) (n : c ≠ nt) : Sto K C H S c d nt Mem.new :=
  ⟨⟨dx, h1⟩, ⟨[], h2, .nil⟩, ⟨[], h4, (fun _ => ⟨fun _ => rfl, fun x hx => by cases hx⟩), Nat.le_refl _⟩, ⟨[], h3, .nil⟩, (fun x hx => by cases hx), ⟨Nat.zero_le _, Nat.zero_le _, Nat.zero_le _⟩, n⟩
/-- the rows that are shown: copies -/
def spTrail (K : PySem.W.Frag) (C : Addr) : Sp := fun vs H Q _ => ∃ S c d nt m, vs = [.ref S] ∧ Sto K C H S c d nt m ∧ ∀ t us H', H t = none → Ex H H' → H' t = some (.lst us) → AAll K H' us m.no → Q (.ref t) H'
theorem ok_St_trail (T : Tx K mg) : FnOk P w K mg base CX0 1 T.f_St_trail T.d_St_trail ["self"] (spTrail K T.C) := by
  refine T.h_St_trail.F.ok sc_St_trail (fun vs H Q E h => ?_) (fun cdv A outer s H vs Q E hr h => ?_)
  · obtain ⟨v, _, _, _, _, rfl, _⟩ := h
    rfl
  obtain ⟨S, c, d, nt, m, rfl, h, k⟩ := h
  refine ⟨_, (pss_one (ps_ret (pe_callTy call_list_of rfl T.b_list (by decide +kernel) (pa_cons (pe_fld (pv 0) rfl) pa_nil)))), ?_⟩
  obtain ⟨dx, hS⟩ := h.ins
  obtain ⟨us, hn, hu⟩ := h.nol
  refine ⟨_, rfl, S, T.C, dx, _, _, rfl, hS, T.cl, T.n_noted, rfl, nt, us, rfl, .inl (.of hn), fun l hl => ?_⟩
  exact k l us _ hl (Ex.new hl) upd_same (hu.tups (.of (Ex.new hl)))
def spHeap (K : PySem.W.Frag) (C : Addr) : Sp := fun vs H Q _ => ∃ S c d nt m, vs = [.ref S] ∧ Sto K C H S c d nt m ∧ ∀ t us H', H t = none → Ex H H' → H' t = some (.lst us) → CAll K H' us m.cs → Q (.ref t) H'
theorem ok_St_heap (T : Tx K mg) : FnOk P w K mg base CX0 1 T.f_St_heap T.d_St_heap ["self"] (spHeap K T.C) := by
  refine T.h_St_heap.F.ok sc_St_heap (fun vs H Q E h => ?_) (fun cdv A outer s H vs Q E hr h => ?_)
  · obtain ⟨v, _, _, _, _, rfl, _⟩ := h
    rfl
  obtain ⟨S, c, d, nt, m, rfl, h, k⟩ := h
  refine ⟨_, (pss_one (ps_ret (pe_callTy call_list_of rfl T.b_list (by decide +kernel) (pa_cons (pe_fld (pv 0) rfl) pa_nil)))), ?_⟩
  obtain ⟨dx, hS⟩ := h.ins
  obtain ⟨us, hn, hu⟩ := h.lst
  refine ⟨_, rfl, S, T.C, dx, _, _, rfl, hS, T.cl, T.n_cells, rfl, c, us, rfl, .inl (.of hn), fun l hl => ?_⟩
  exact k l us _ hl (Ex.new hl) upd_same (hu.tups (.of (Ex.new hl)))
def spSize (K : PySem.W.Frag) (C : Addr) : Sp := fun vs H Q _ => ∃ S c d nt m, vs = [.ref S] ∧ Sto K C H S c d nt m ∧ Q (.int (m.cs.length : Int)) H
theorem ok_St_size (T : Tx K mg) : FnOk P w K mg base CX0 1 T.f_St_size T.d_St_size ["self"] (spSize K T.C) := by
  refine T.h_St_size.F.ok sc_St_size (fun vs H Q E h => ?_) (fun cdv A outer s H vs Q E hr h => ?_)
  · obtain ⟨v, _, _, _, _, rfl, _⟩ := h
    rfl
  obtain ⟨S, c, d, nt, m, rfl, h, k⟩ := h
  refine ⟨_, (pss_one (ps_ret (pe_callB call_len_seq rfl T.b_len (by decide +kernel) (pa_cons (pe_fld (pv 0) rfl) pa_nil)))), ?_⟩
  obtain ⟨dx, hS⟩ := h.ins
  obtain ⟨us, hn, hu⟩ := h.lst
  refine ⟨_, rfl, S, T.C, dx, _, _, rfl, hS, T.cl, T.n_cells, rfl, c, us, rfl, .inl (.of hn), ?_⟩
  rw [hu.length]
  exact k
end
end Hm

set_option Elab.async false
set_option linter.all false
set_option maxRecDepth 100000
set_option maxHeartbeats 4000000
namespace Hm
open PySem PySem.Spec PySem.W PyProof.Rows L2 HT RZ
open Evl (Ex)
/-! ## list(zip(t, u)) of two tuples -/
section
variable {prog : Program} {w : World} {A : Around} {E : Value → Shared → Prop} {s : Shared}
variable {z TI TO T i1 i2 l1 l2 : Addr} {f : Bool} {oT : Obj} {k1 k2 : Nat} {xs ys : Array Value}
/-- a turn of a zip whose last tuple is held -/
theorem zt_heldL {x y : Value} {Q : Value → Shared → Prop} (D : ZipApart z TI TO i1 i2 l1 l2) (hz : IsZipHeld s.heap z TI TO T f) (hT : s.heap.get? T = some oT) (hTI : IsPair s.heap TI (.ref i1) (.ref i2))
    (h1 : s.heap.IsListIter i1 l1 k1) (h2 : s.heap.IsListIter i2 l2 k2) (hl1 : s.heap.IsList l1 xs) (hl2 : s.heap.IsList l2 ys) (hx : xs[k1]? = some x) (hy : ys[k2]? = some y)
    (hQ : ∀ h', IsZipHeld h' z TI TO T true → h'.IsListIter i1 l1 (k1 + 1) → h'.IsListIter i2 l2 (k2 + 1) → IsPair h' s.heap.objs.size x y → h'.objs.size = s.heap.objs.size + 1 → (∀ c o, c ≠ z → c ≠ i1 → c ≠ i2 → s.heap.get? c = some o → h'.get? c = some o) → Q (.ref s.heap.objs.size) { s with heap := h' }) :
    wpAny (model prog w) A (Builtin.«zip.__next__» ⟨[.ref z], []⟩) (fun fin s' => ∃ v, fin = .done (.ret v) ∧ Q v s') E s := by
  show wpAny _ _ (field (.ref z) 2 >>= _) _ _ _
  refine wpAny_bind (wpAny_field hz rfl (x := .bool false) rfl ?_)
  show wpAny _ _ (field (.ref z) 3 >>= _) _ _ _
  refine wpAny_bind (wpAny_field hz rfl (x := .ref TI) rfl (wpAny_bind (wpAny_seqItems hTI rfl ?_)))
  show wpAny _ _ (Builtin.SmallTypes.ownedTupleIsFree (.ref z) >>= _) _ _ _
  refine wpAny_bind (wpAny_tupleHeld_zip hz hT fun g1 z1 e1 => ?_)
  simp only [Bool.false_eq_true, if_false]
  rw [← Array.forIn_toList]
  simp only [List.forIn_cons, List.forIn_nil]
  refine wpAny_bind (wpAny_bind (wpAny_bind (wpAny_holding ?_)))
  show wpAny _ _ (Builtin.SmallTypes.nextOf (.ref i1) >>= _) _ _ _
  refine wpAny_bind (wpAny_nextOf_list_item (s := { s with heap := g1 }) (h1.at fun o e => e1.extBut _ o D.i1z e) (hl1.at fun o e => e1.extBut _ o D.l1z e) hx fun g2 a2 e2 => wpAny_pure (wpAny_pure ?_))
  refine wpAny_bind (wpAny_bind (wpAny_holding ?_))
  show wpAny _ _ (Builtin.SmallTypes.nextOf (.ref i2) >>= _) _ _ _
  refine wpAny_bind (wpAny_nextOf_list_item (s := { s with heap := g2 }) (h2.at fun o e => e2.extBut _ o D.i12.symm (e1.extBut _ o D.i2z e)) (hl2.at fun o e => e2.extBut _ o D.l2i1 (e1.extBut _ o D.l2z e)) hy fun g3 a3 e3 => wpAny_pure (wpAny_pure (wpAny_pure ?_)))
  show wpAny _ _ (newTuple [x, y] >>= _) _ _ _
  have sz : g3.objs.size = s.heap.objs.size := by rw [e3.1, e2.1, e1.1]
  have keep : ∀ c o, c ≠ z → c ≠ i1 → c ≠ i2 → s.heap.get? c = some o → g3.get? c = some o := fun c o c1 c2 c3 e => e3.extBut _ _ c3 (e2.extBut _ _ c2 (e1.extBut _ _ c1 e))
  have z3 : IsZipHeld g3 z TI TO T true := e3.extBut _ _ D.i2z.symm (e2.extBut _ _ D.i1z.symm z1)
  refine wpAny_bind (wpAny_newTuple (wpAny_pure ⟨_, rfl, ?_⟩))
  have new : (g3.push { cls := .type "tuple", data := .seq [x, y].toArray }).get? g3.objs.size = some { cls := .type "tuple", data := .seq [x, y].toArray } := Heap.get?_push_size _ rfl
  have sz4 : (g3.push { cls := .type "tuple", data := .seq [x, y].toArray }).objs.size = g3.objs.size + 1 := Heap.size_push ..
  rw [sz] at new sz4
  have r := hQ (g3.push { cls := .type "tuple", data := .seq [x, y].toArray }) (Heap.get?_push_of_some _ z3) ((a2.at fun o e => e3.extBut _ o D.i12 e).at fun o e => Heap.get?_push_of_some _ e) (a3.at fun o e => Heap.get?_push_of_some _ e) new sz4 fun c o c1 c2 c3 e => Heap.get?_push_of_some _ (keep c o c1 c2 c3 e)
  show Q (.ref g3.objs.size) _
  rw [sz]
  exact r
theorem zt_held_endL {Q : Fin → Shared → Prop} (hh : A.handled = none) (D : ZipApart z TI TO i1 i2 l1 l2) (hz : IsZipHeld s.heap z TI TO T f) (hT : s.heap.get? T = some oT) (hTI : IsPair s.heap TI (.ref i1) (.ref i2))
    (h1 : s.heap.IsListIter i1 l1 k1) (hl1 : s.heap.IsList l1 xs) (hend : xs[k1]? = none)
    (hE : ∀ h' e, (∀ c o, c ≠ z → c ≠ i1 → c ≠ i2 → s.heap.get? c = some o → h'.get? c = some o) → (∃ o, h'.get? e = some o ∧ o.cls = .type "StopIteration") → E (.ref e) { s with heap := h' }) :
    wpAny (model prog w) A (Builtin.«zip.__next__» ⟨[.ref z], []⟩) Q E s := by
  show wpAny _ _ (field (.ref z) 2 >>= _) _ _ _
  refine wpAny_bind (wpAny_field hz rfl (x := .bool false) rfl ?_)
  show wpAny _ _ (field (.ref z) 3 >>= _) _ _ _
  refine wpAny_bind (wpAny_field hz rfl (x := .ref TI) rfl (wpAny_bind (wpAny_seqItems hTI rfl ?_)))
  show wpAny _ _ (Builtin.SmallTypes.ownedTupleIsFree (.ref z) >>= _) _ _ _
  refine wpAny_bind (wpAny_tupleHeld_zip hz hT fun g1 z1 e1 => ?_)
  simp only [Bool.false_eq_true, if_false]
  rw [← Array.forIn_toList]
  simp only [List.forIn_cons, List.forIn_nil]
  refine wpAny_bind (wpAny_bind (wpAny_bind (wpAny_holding ?_)))
  show wpAny _ _ (Builtin.SmallTypes.nextOf (.ref i1) >>= _) _ _ _
  refine wpAny_bind (wpAny_nextOf_list_end (s := { s with heap := g1 }) hh (h1.at fun o e => e1.extBut _ o D.i1z e) (hl1.at fun o e => e1.extBut _ o D.l1z e) hend fun g2 e e2 he => ?_)
  exact hE g2 e (fun c o c1 c2 _ q => e2 _ _ c2 (e1.extBut _ _ c1 q)) he
end
/-- a zip of two tuples ahead of turn i, the list at S being filled -/
def ZStL (z TI TO i1 i2 l1 l2 : Addr) (xs ys : Array Value) (S : Addr) (i : Nat) (h : Heap) : Prop :=
  IsPair h TI (.ref i1) (.ref i2) ∧ h.IsListIter i1 l1 i ∧ h.IsListIter i2 l2 i ∧ h.IsList l1 xs ∧ h.IsList l2 ys ∧
    ((IsZip h z TI TO .none ∧ ∃ a b, IsPair h TO a b) ∨ ∃ T f oT, IsZipHeld h z TI TO T f ∧ h.get? T = some oT ∧ T ≠ z ∧ T ≠ i1 ∧ T ≠ i2 ∧ T ≠ S)
section
variable {prog : Program} {w : World} {A : Around} {E : Value → Shared → Prop} {s : Shared}
variable {z TI TO i1 i2 l1 l2 S : Addr} {xs ys : Array Value} {i : Nat}
theorem ZStL.keep {h h' : Heap} (st : ZStL z TI TO i1 i2 l1 l2 xs ys S i h) (nS : S ≠ z ∧ S ≠ TI ∧ S ≠ TO ∧ S ≠ i1 ∧ S ≠ i2 ∧ S ≠ l1 ∧ S ≠ l2) (k : ∀ b o, b ≠ S → h.get? b = some o → h'.get? b = some o) : ZStL z TI TO i1 i2 l1 l2 xs ys S i h' := by
  obtain ⟨n1, n2, n3, n4, n5, n6, n7⟩ := nS
  obtain ⟨a1, a2, a3, a4, a5, a6⟩ := st
  refine ⟨k _ _ n2.symm a1, a2.at fun o e => k _ o n4.symm e, a3.at fun o e => k _ o n5.symm e, a4.at fun o e => k _ o n6.symm e, a5.at fun o e => k _ o n7.symm e, ?_⟩
  rcases a6 with ⟨b1, a, b, b2⟩ | ⟨T, f, oT, b1, b2, b3, b4, b5, b6⟩
  · exact .inl ⟨k _ _ n1.symm b1, a, b, k _ _ n3.symm b2⟩
  · exact .inr ⟨T, f, oT, k _ _ n1.symm b1, k _ _ b6 b2, b3, b4, b5, b6⟩
theorem zst_itemL {x y : Value} {Q : Option Value → Shared → Prop} (D : ZipApart z TI TO i1 i2 l1 l2) (st : ZStL z TI TO i1 i2 l1 l2 xs ys S i s.heap) (hS : S < s.heap.objs.size) (hx : xs[i]? = some x) (hy : ys[i]? = some y)
    (hQ : ∀ h', ZStL z TI TO i1 i2 l1 l2 xs ys S (i + 1) h' → IsPair h' s.heap.objs.size x y → h'.objs.size = s.heap.objs.size + 1 → (∀ c o, c ≠ z → c ≠ TO → c ≠ i1 → c ≠ i2 → s.heap.get? c = some o → h'.get? c = some o) → Q (some (.ref s.heap.objs.size)) { s with heap := h' }) :
    wpAny (model prog w) A (pyNext (.ref z)) Q E s := by
  obtain ⟨a1, a2, a3, a4, a5, a6⟩ := st
  have new : ∀ {c o}, s.heap.get? c = some o → s.heap.objs.size ≠ c := fun e => Nat.ne_of_gt (Heap.lt_size e)
  have m1 : s.heap.objs.size ≠ i1 := let ⟨_, e, _⟩ := a2; new e
  have m2 : s.heap.objs.size ≠ i2 := let ⟨_, e, _⟩ := a3; new e
  rcases a6 with ⟨b1, a, b, b2⟩ | ⟨T, f, oT, b1, b2, b3, b4, b5, b6⟩
  · refine wpAny_pyNext_zip_item D b1 a1 b2 a2 a3 a4 a5 hx hy fun h' c1 c2 c3 c4 c5 c6 k => ?_
    exact hQ h' ⟨k _ _ D.TIz D.TITO D.TIi1 D.TIi2 a1, c3, c4, a4.at fun o e => k _ o D.l1z D.l1TO D.l1i1 D.l1i2 e, a5.at fun o e => k _ o D.l2z D.l2TO D.l2i1 D.l2i2 e, .inr ⟨_, false, _, c1, c5, new b1, m1, m2, Nat.ne_of_gt hS⟩⟩ c5 c6 k
  · have ty : s.TypeIs (.ref z) "zip" := ⟨_, b1, rfl⟩
    unfold pyNext
    refine wpAny_bind (wpAny_attempt (wpAny_callSpecial?_slot (name := Str.ofString "__next__") ty F.slot_zip_next (wpAny_call_entry F.slot_zip_next ty F.entry_zip_next (zt_heldL D b1 b2 a1 a2 a3 a4 a5 hx hy fun h' c1 c2 c3 c4 c5 k => ?_) (F.args_zip_next_1 _))))
    exact wpAny_pure (hQ h' ⟨k _ _ D.TIz D.TIi1 D.TIi2 a1, c2, c3, a4.at fun o e => k _ o D.l1z D.l1i1 D.l1i2 e, a5.at fun o e => k _ o D.l2z D.l2i1 D.l2i2 e, .inr ⟨T, true, oT, c1, k _ _ b3 b4 b5 b2, b3, b4, b5, b6⟩⟩ c4 c5 fun c o d1 _ d3 d4 e => k c o d1 d3 d4 e)
theorem zst_endL {Q : Option Value → Shared → Prop} (hh : A.handled = none) (D : ZipApart z TI TO i1 i2 l1 l2) (st : ZStL z TI TO i1 i2 l1 l2 xs ys S i s.heap) (hx : xs[i]? = none)
    (hQ : ∀ h', (∀ c o, c ≠ z → c ≠ TO → c ≠ i1 → c ≠ i2 → s.heap.get? c = some o → h'.get? c = some o) → Q none { s with heap := h' }) : wpAny (model prog w) A (pyNext (.ref z)) Q E s := by
  obtain ⟨a1, a2, a3, a4, a5, a6⟩ := st
  rcases a6 with ⟨b1, a, b, b2⟩ | ⟨T, f, oT, b1, b2, b3, b4, b5, b6⟩
  · exact wpAny_pyNext_zip_end hh D b1 a1 b2 a2 a3 a4 a5 (.inl hx) hQ
  · have ty : s.TypeIs (.ref z) "zip" := ⟨_, b1, rfl⟩
    unfold pyNext
    refine wpAny_bind (wpAny_attempt (wpAny_callSpecial?_slot (name := Str.ofString "__next__") ty F.slot_zip_next (wpAny_call_entry F.slot_zip_next ty F.entry_zip_next (zt_held_endL hh D b1 b2 a1 a2 a4 hx fun h' e k he => ?_) (F.args_zip_next_1 _))))
    obtain ⟨o, ho, hc⟩ := he
    exact wpAny_bind (wpAny_isInstance (T := "StopIteration") (b := true) ⟨o, ho, hc⟩ isSubtype_stop (wpAny_pure (hQ _ fun c o d1 _ d3 d4 e => k c o d1 d3 d4 e)))
/-- the tuples that were made -/
structure ZTupsL (xs ys : Array Value) (lo : Addr) (h : Heap) (as : List Addr) : Prop where
  rise : as.Pairwise (· < ·)
  above : ∀ a ∈ as, lo ≤ a
  pairs : ∀ (j : Nat) (a : Addr), as[j]? = some a → ∃ x y, xs[j]? = some x ∧ ys[j]? = some y ∧ IsPair h a x y
theorem zst_loopL {R : Result → Shared → Prop} {lo : Addr} {h0 : Heap} (hh : A.handled = none) (D : ZipApart z TI TO i1 i2 l1 l2) (nS : S ≠ z ∧ S ≠ TI ∧ S ≠ TO ∧ S ≠ i1 ∧ S ≠ i2 ∧ S ≠ l1 ∧ S ≠ l2) (hl : z < lo ∧ TO < lo ∧ i1 < lo ∧ i2 < lo ∧ S < lo) (hn : xs.size ≤ sizeLine) (hxy : xs.size = ys.size) (res : Value)
    (hR : ∀ h' tk acc c as, (∀ b o, b < lo → b ≠ S → b ≠ z → b ≠ TO → b ≠ i1 → b ≠ i2 → h0.get? b = some o → h'.get? b = some o) → h'.get? S = some { cls := .type "list", dict := none, data := .seq acc c, slots := #[] } → as.length = xs.size → ZTupsL xs ys lo h' as → acc.toList = as.map Value.ref → R (.ok (.ret res)) { s with heap := h', toks := tk }) :
    ∀ (k i : Nat) (h : Heap) (tk c : Nat) (acc : Array Value) (as : List Addr), xs.size - i = k → i ≤ xs.size → ZStL z TI TO i1 i2 l1 l2 xs ys S i h → (∀ b o, b < lo → b ≠ S → b ≠ z → b ≠ TO → b ≠ i1 → b ≠ i2 → h0.get? b = some o → h.get? b = some o) →
      h.get? S = some { cls := .type "list", dict := none, data := .seq acc c, slots := #[] } → acc.toList = as.map Value.ref → as.length = i → ZTupsL xs ys lo h as → lo ≤ h.objs.size →
      codeAny (model prog w) A (.builtin "list.extend.loop" ⟨[.ref S, .ref z, res], []⟩) R { s with heap := h, toks := tk } := by
  intro k
  have ab : ∀ {b : Addr}, lo ≤ b → b ≠ z ∧ b ≠ TO ∧ b ≠ i1 ∧ b ≠ i2 ∧ b ≠ S := fun {b} hb => ⟨Nat.ne_of_gt (Nat.lt_of_lt_of_le hl.1 hb), Nat.ne_of_gt (Nat.lt_of_lt_of_le hl.2.1 hb), Nat.ne_of_gt (Nat.lt_of_lt_of_le hl.2.2.1 hb), Nat.ne_of_gt (Nat.lt_of_lt_of_le hl.2.2.2.1 hb), Nat.ne_of_gt (Nat.lt_of_lt_of_le hl.2.2.2.2 hb)⟩
  induction k with
  | zero =>
    intro i h tk c acc as hk hi st kp hS hacc hal G hlo
    have hin : i = xs.size := by omega
    refine codeAny_builtin PySem.F.entry_extend_loop ?_
    rw [Around.under_plainId PySem.F.plain_extend_loop _]
    show wpAny _ A.in1 (pyNext (.ref z) >>= _) _ _ _
    refine wpAny_bind (zst_endL (s := { s with heap := h, toks := tk }) (A := A.in1) hh D st (by rw [hin]; exact Array.getElem?_eq_none (Nat.le_refl _)) fun h' k' => ?_)
    refine wpAny_pure (hR h' tk acc c as (fun b o c0 c1 c2 c3 c4 c5 e => k' b o c2 c3 c4 c5 (kp b o c0 c1 c2 c3 c4 c5 e)) (k' S _ nS.1 nS.2.2.1 nS.2.2.2.1 nS.2.2.2.2.1 hS) (by omega) ⟨G.rise, G.above, fun j a hj => ?_⟩ hacc)
    obtain ⟨x, y, e1, e2, e3⟩ := G.pairs j a hj
    obtain ⟨n1, n2, n3, n4, _⟩ := ab (G.above a (List.mem_of_getElem? hj))
    exact ⟨x, y, e1, e2, k' a _ n1 n2 n3 n4 e3⟩
  | succ k ih =>
    intro i h tk c acc as hk hi st kp hS hacc hal G hlo
    have hlt : i < xs.size := by omega
    have hlt2 : i < ys.size := by omega
    have hsz : acc.size = i := by rw [← Array.length_toList, hacc, List.length_map, hal]
    refine codeAny_builtin PySem.F.entry_extend_loop ?_
    rw [Around.under_plainId PySem.F.plain_extend_loop _]
    show wpAny _ A.in1 (pyNext (.ref z) >>= _) _ _ _
    refine wpAny_bind (zst_itemL (s := { s with heap := h, toks := tk }) D st (Heap.lt_size hS) (Array.getElem?_eq_getElem hlt) (Array.getElem?_eq_getElem hlt2) fun h' st' hp hz' k' => ?_)
    dsimp only at hp hz' k' ⊢
    have hS' := k' S _ nS.1 nS.2.2.1 nS.2.2.2.1 nS.2.2.2.2.1 hS
    have up : ∀ b o, b ≠ S → h'.get? b = some o → (h'.update S (Obj.mapSeq (·.push (Value.ref h.objs.size)))).get? b = some o := fun b o hb e => (Heap.get?_update_other _ _ (Ne.symm hb)).trans e
    obtain ⟨m1, m2, m3, m4, m5⟩ := ab hlo
    show wpAny _ A.in1 (updateSeq S (·.push (Value.ref h.objs.size)) >>= _) _ _ _
    refine wpAny_bind ?_
    refine wpAny_updateSeq hS' rfl (wpAny_pure ⟨plainId_quiet PySem.F.plain_extend_loop _, ih (i + 1) _ tk _ (acc.push (Value.ref h.objs.size)) (as ++ [h.objs.size]) (by omega) hlt (st'.keep nS up)
      (fun b o c0 c1 c2 c3 c4 c5 e => up b o c1 (k' b o c2 c3 c4 c5 (kp b o c0 c1 c2 c3 c4 c5 e))) (Heap.get?_update_self _ hS' rfl) (by rw [Array.toList_push, hacc, List.map_append]; rfl) (by rw [List.length_append, hal]; rfl) ⟨?_, ?_, ?_⟩ ?_⟩) (by rw [hsz]; omega) (by show (acc.push (Value.ref h.objs.size)).size ≤ sizeLine + 1; rw [Array.size_push, hsz]; omega)
    · refine List.pairwise_append.mpr ⟨G.rise, List.pairwise_singleton _ _, fun a ha b hb => ?_⟩
      rw [List.mem_singleton.mp hb]
      obtain ⟨j, hj⟩ := List.mem_iff_getElem?.mp ha
      obtain ⟨_, _, _, _, e3⟩ := G.pairs j a hj
      exact Heap.lt_size e3
    · intro a ha
      rcases List.mem_append.mp ha with ha | ha
      · exact G.above a ha
      · rw [List.mem_singleton.mp ha]; exact hlo
    · intro j b hj
      rcases Nat.lt_trichotomy j as.length with q | q | q
      · rw [List.getElem?_append_left q] at hj
        obtain ⟨x, y, e1, e2, e3⟩ := G.pairs j b hj
        obtain ⟨n1, n2, n3, n4, n5⟩ := ab (G.above b (List.mem_of_getElem? hj))
        exact ⟨x, y, e1, e2, up b _ n5 (k' b _ n1 n2 n3 n4 e3)⟩
      · subst q
        have e : h.objs.size = b := by simpa using hj
        subst e
        rw [hal]
        exact ⟨_, _, Array.getElem?_eq_getElem hlt, Array.getElem?_eq_getElem hlt2, up _ _ m5 hp⟩
      · rw [List.getElem?_eq_none (by rw [List.length_append, List.length_singleton]; omega)] at hj
        cases hj
    · have e : (h'.update S (Obj.mapSeq (·.push (Value.ref h.objs.size)))).get? h.objs.size = _ := up _ _ m5 hp
      exact Nat.le_of_lt (Nat.lt_of_le_of_lt hlo (Heap.lt_size e))
end
theorem zip_len0L : typeLookup (.type "zip") "__len__" = pure none := by rw [typeLookup_type, builtinLookup_eq_fast]; kernel_rfl
theorem zip_hint0L : typeLookup (.type "zip") "__length_hint__" = pure none := by rw [typeLookup_type, builtinLookup_eq_fast]; kernel_rfl
section
variable {prog : Program} {w : World} {A : Around} {E : Value → Shared → Prop} {s : Shared}
variable {z TI TO i1 i2 l1 l2 : Addr} {xs ys : Array Value}
theorem list_zipTL {Q : Value → Shared → Prop} (hh : A.handled = none) (D : ZipApart z TI TO i1 i2 l1 l2) (st : ZStL z TI TO i1 i2 l1 l2 xs ys s.heap.objs.size 0 s.heap) (hz : z < s.heap.objs.size ∧ TI < s.heap.objs.size ∧ TO < s.heap.objs.size ∧ i1 < s.heap.objs.size ∧ i2 < s.heap.objs.size ∧ l1 < s.heap.objs.size ∧ l2 < s.heap.objs.size)
    (zz : IsZip s.heap z TI TO .none) (hn : xs.size ≤ sizeLine) (hxy : xs.size = ys.size)
    (hQ : ∀ h' tk acc c as, (∀ b o, b ≠ z → b ≠ TO → b ≠ i1 → b ≠ i2 → s.heap.get? b = some o → h'.get? b = some o) → h'.get? s.heap.objs.size = some { cls := .type "list", dict := none, data := .seq acc c, slots := #[] } → as.length = xs.size → ZTupsL xs ys (s.heap.objs.size + 1) h' as → acc.toList = as.map Value.ref → Q (.ref s.heap.objs.size) { s with heap := h', toks := tk }) :
    wpAny (model prog w) A (call (.type "list") [.ref z]) Q E s := by
  obtain ⟨d1, d2, d3, d4, d5, d6, d7⟩ := hz
  have nS : s.heap.objs.size ≠ z ∧ s.heap.objs.size ≠ TI ∧ s.heap.objs.size ≠ TO ∧ s.heap.objs.size ≠ i1 ∧ s.heap.objs.size ≠ i2 ∧ s.heap.objs.size ≠ l1 ∧ s.heap.objs.size ≠ l2 := ⟨Nat.ne_of_gt d1, Nat.ne_of_gt d2, Nat.ne_of_gt d3, Nat.ne_of_gt d4, Nat.ne_of_gt d5, Nat.ne_of_gt d6, Nat.ne_of_gt d7⟩
  refine callType_codes (Q₁ := fun obj s₁ => obj = .ref s.heap.objs.size ∧ s₁ = { s with heap := s.heap.push { cls := .type "list", data := .seq #[] } }) PySem.F.called_list (PySem.F.typeCall_list_1 _) PySem.F.entry_list_init (code_list_new _ ⟨rfl, rfl⟩) fun obj s₁ h₁ => ?_
  obtain ⟨rfl, rfl⟩ := h₁
  have hS : (s.heap.push { cls := .type "list", data := .seq #[] }).get? s.heap.objs.size = some { cls := .type "list", data := .seq #[] } := Heap.get?_push_size _ rfl
  have hsz : (s.heap.push { cls := .type "list", data := .seq #[] }).objs.size = s.heap.objs.size + 1 := Heap.size_push ..
  have st1 : ZStL z TI TO i1 i2 l1 l2 xs ys s.heap.objs.size 0 (s.heap.push { cls := .type "list", data := .seq #[] }) := st.keep nS fun b o _ e => Heap.get?_push_of_some _ e
  have k1 : ∀ b o, s.heap.get? b = some o → (s.heap.push { cls := .type "list", data := .seq #[] }).get? b = some o := fun b o e => Heap.get?_push_of_some _ e
  refine ⟨⟨_, hS, rfl⟩, PySem.F.args_list_init_2 _ _, ?_⟩
  generalize hL : s.heap.objs.size = S at *
  generalize s.heap.push { cls := .type "list", data := .seq #[] } = h0 at *
  show wpAny _ A.in1.in1 (do let old ← Builtin.List.listItems (.ref S); Builtin.List.listUpdate (.ref S) (fun _ => #[]); letGo old.toList.reverse; Builtin.List.listExtendWith (.ref S) (.ref z) .none) _ _ _
  refine wpAny_bind ?_
  unfold Builtin.List.listItems
  refine wpAny_bind (wpAny_seqItems hS rfl (wpAny_pure ?_))
  show wpAny _ A.in1.in1 (updateSeq S (fun _ => #[]) >>= fun _ => letGo (#[] : Array Value).toList.reverse >>= fun _ => Builtin.List.listExtendWith (.ref S) (.ref z) .none) _ _ _
  refine wpAny_bind (wpAny_updateSeq hS rfl ?_)
  have hS1 := Heap.get?_update_self (Obj.mapSeq (fun _ => (#[] : Array Value))) hS rfl
  have u1 : ∀ b o, b ≠ S → h0.get? b = some o → (h0.update S (Obj.mapSeq (fun _ => (#[] : Array Value)))).get? b = some o := fun b o hb e => (Heap.get?_update_other _ _ (Ne.symm hb)).trans e
  have z1 : (h0.update S (Obj.mapSeq (fun _ => (#[] : Array Value)))).objs.size = S + 1 := by rw [Heap.size_update, hsz]
  have st2 := st1.keep nS u1
  have zz2 := u1 _ _ nS.1.symm (k1 _ _ zz)
  generalize h0.update S (Obj.mapSeq (fun _ => (#[] : Array Value))) = g1 at *
  refine wpAny_bind (wpAny_letGo ?_)
  unfold Builtin.List.listExtendWith
  have ty : ∀ g : Heap, ZStL z TI TO i1 i2 l1 l2 xs ys S 0 g → ∀ s' : Shared, s'.heap = g → s'.TypeIs (.ref z) "zip" := fun g st s' e => by
    obtain ⟨_, _, _, _, _, a6⟩ := st
    rcases a6 with ⟨b1, _⟩ | ⟨T, f, oT, b1, _⟩
    · exact ⟨_, by rw [e]; exact b1, rfl⟩
    · exact ⟨_, by rw [e]; exact b1, rfl⟩
  refine wpAny_bind (wpAny_typeOf (ty _ st2 _ rfl) ?_)
  have f1 : Builtin.List.listSameRef (.ref S) (.ref z) = false := by simp [Builtin.List.listSameRef, nS.1]
  have f2 : (Value.type "zip" == Value.type "list") = false := by decide
  have f3 : (Value.type "zip" == Value.type "tuple") = false := by decide
  simp only [f1, f2, f3, Bool.or_false, Bool.false_eq_true, if_false]
  refine wpAny_bind (wpAny_pyIter_zip (s := { s with heap := g1 }) zz2 ?_)
  refine wpAny_bind (wpAny_holding ?_)
  unfold Builtin.List.listLengthHint
  refine wpAny_bind (wpAny_specialOf (ty _ st2 _ rfl) zip_len0L ?_)
  show wpAny _ _ (specialOf (Value.ref z) (Str.ofString "__length_hint__") >>= _) _ _ _
  refine wpAny_bind (wpAny_specialOf (ty _ st2 _ rfl) zip_hint0L ?_)
  refine wpAny_pure ?_
  show wpAny _ _ (rule "list.extend.makes-room" >>= fun _ => Builtin.List.listTouch (.ref S) >>= fun _ => again (.builtin "list.extend.loop" ⟨[.ref S, .ref z, .none], []⟩)) _ _ _
  refine wpAny_bind (wpAny_rule (wpAny_bind ?_))
  show wpAny _ _ (updateSeq S (·.push .none) >>= fun _ => updateSeq S (·.pop)) _ _ _
  refine wpAny_bind (wpAny_updateSeq hS1 rfl ?_)
  have hS2 := Heap.get?_update_self (Obj.mapSeq (·.push Value.none)) hS1 rfl
  refine wpAny_updateSeq (hz := by seq_fits) hS2 rfl ?_
  have hS3 := Heap.get?_update_self (Obj.mapSeq (·.pop)) hS2 rfl
  have u3 : ∀ b o, b ≠ S → g1.get? b = some o → ((g1.update S (Obj.mapSeq (·.push Value.none))).update S (Obj.mapSeq (·.pop))).get? b = some o := fun b o hb e => (Heap.get?_update_other _ _ (Ne.symm hb)).trans ((Heap.get?_update_other _ _ (Ne.symm hb)).trans e)
  have z3 : ((g1.update S (Obj.mapSeq (·.push Value.none))).update S (Obj.mapSeq (·.pop))).objs.size = S + 1 := by rw [Heap.size_update, Heap.size_update, z1]
  refine wpAny_pure ⟨plainId_quiet PySem.F.plain_extend_loop _, zst_loopL (A := A.in1) (s := s) (lo := S + 1) (h0 := s.heap) hh D nS ⟨Nat.lt_succ_of_lt d1, Nat.lt_succ_of_lt d3, Nat.lt_succ_of_lt d4, Nat.lt_succ_of_lt d5, Nat.lt_succ_self _⟩ hn hxy .none (fun h' tk acc c as kp hS' hal G hacc => ⟨rfl, hQ h' tk acc c as (fun b o c2 c3 c4 c5 e => ?_) hS' hal G hacc⟩) xs.size 0 _ _ _ #[] [] (Nat.sub_zero _) (Nat.zero_le _) (st2.keep nS u3)
    (fun b o c0 c1 c2 c3 c4 c5 e => u3 b o c1 (u1 b o c1 (k1 b o e))) hS3 rfl rfl ⟨List.Pairwise.nil, (fun _ ha => nomatch ha), fun j a hj => by simp at hj⟩ (Nat.le_of_eq z3.symm)⟩
  have hb : b < S := by rw [← hL]; exact Heap.lt_size e
  exact kp b o (Nat.lt_succ_of_lt hb) (Nat.ne_of_lt hb) c2 c3 c4 c5 e
end
theorem n_bndL {n m a b : Nat} (e : m = n + 5) (ha : a < n) (hb : b < n) : n + 4 < m ∧ n + 2 < m ∧ n + 3 < m ∧ n < m ∧ n + 1 < m ∧ a < m ∧ b < m := by omega
theorem n_neL {a n : Nat} (k : Nat) (h : a < n) : a ≠ n + k := by omega
theorem n_loL {n t m : Nat} (e : m = n + 5) (h : m + 1 ≤ t) : n ≤ t := by omega
theorem n_noL {n m : Nat} (e : m = n + 5) (h : m + 1 ≤ n + 5) : False := by omega
theorem vals_back : ∀ {xs : List V} {us : List Value}, Vals xs us → ∀ {j : Nat} {u : Value}, us[j]? = some u → ∃ x, xs[j]? = some x ∧ RelV x u := by
  intro xs us h
  induction h with
  | nil => intro j u e; cases e
  | cons h t ih =>
    intro j u e
    cases j with
    | zero =>
      cases e
      exact ⟨_, rfl, h⟩
    | succ j => exact ih (j := j) e
def tListZipL (K : PySem.W.Frag) (ta : TA) : TE := fun σ H Q => ta σ H fun vs H1 => ∃ (a b : Addr) (xs ys : List V), vs = [.ref a, .ref b] ∧ SqL K H1 a xs ∧ SqL K H1 b ys ∧ xs.length = ys.length ∧ xs.length ≤ 1000 ∧
  ∀ (p : Addr) (ts : List Addr) (H' : Hp), H1 p = none → Ex H1 H' → H' p = some (.lst (ts.map V.ref)) → PySem.Paired (fun (t : Addr) (q : V × V) => H' t = some (.tup [q.1, q.2])) ts (xs.zip ys) → Q (.ref p) H'
section
variable {X : Cx} {e e2 : Expr} {ta : TA} {p p2 zpos pos : Pos}
theorem pe_listZipL (hc : X.calm = true) (hg : Gl X "list") (hm : X.mg "list" = none) (hgz : Gl X "zip") (hmz : X.mg "zip" = none) (ha : PA X [e, e2] ta)
    (hs : starEach [.Call (.Name "zip" p2) [e, e2] [] zpos] X.env = (false, eval (.Call (.Name "zip" p2) [e, e2] [] zpos) X.env) :: starEach [] X.env := by rfl)
    (hsz : starEach [e, e2] X.env = (false, eval e X.env) :: starEach [e2] X.env := by rfl) (hpl : (backTo zpos (starEach [e2] X.env)).any (·.1) = false := by rfl) :
    PE X (.Call (.Name "list" p) [.Call (.Name "zip" p2) [e, e2] [] zpos] [] pos) (tListZipL X.K ta) := by
  refine ⟨fun pins s σ H Q I h => ?_⟩
  refine wpAny_Call_Name_kw (ld_blt I hg hm (by rfl : bootBuiltins "list" = some (.type "list")) ?_)
  refine PyProof.Rows.callWith_type1 ?_ hs rfl
  rw [hs]
  refine Calls.spliced_cons ?_
  refine wpAny_Call_Name_kw (ld_blt I hgz hmz PyProof.Rows.boot_zip (PyProof.Rows.callWith_type1 (thn (ha.run zpos pins s σ H _ I h) fun us s1 ⟨vs, H1, I1, r1, q1⟩ => ?_) hsz hpl))
  obtain ⟨a, b, xs, ys, rfl, hx, hy, hl, hz, q⟩ := q1
  obtain ⟨u1, u2, rfl, r2, r3⟩ := vals2 r1
  cases r2
  cases r3
  obtain ⟨its, rv, pa, _⟩ := I1.list hx
  obtain ⟨its2, rv2, pb, _⟩ := I1.list hy
  obtain ⟨o1, ho1, _⟩ := id pa.isList
  obtain ⟨o2, ho2, _⟩ := id pb.isList
  have la := Heap.lt_size ho1
  have lb := Heap.lt_size ho2
  refine call_zip_2 pa.isList pb.isList fun h' hz1 hTI hTO h1 h2 hsize hk => Calls.spliced_nil ?_
  have l1 := rv.length
  have l2 := rv2.length
  have I2 : Inv X pins σ H1 { s1 with heap := h' } := I1.kept (t' := s1.toks) hk
  have pa' : h'.IsList a its.toArray := pa.isList.at fun o e => hk _ o e
  have pb' : h'.IsList b its2.toArray := pb.isList.at fun o e => hk _ o e
  have hZ : ZStL (s1.heap.objs.size + 4) (s1.heap.objs.size + 2) (s1.heap.objs.size + 3) s1.heap.objs.size (s1.heap.objs.size + 1) a b its.toArray its2.toArray h'.objs.size 0 h' := ⟨hTI, h1, h2, pa', pb', .inl ⟨hz1, _, _, hTO⟩⟩
  refine list_zipTL (s := { s1 with heap := h' }) (I1.ok.hd hc) (PySem.W.ktu_apart s1.heap.objs.size a b la lb) hZ (n_bndL hsize la lb) hz1 (by rw [List.size_toArray]; exact Nat.le_trans (by omega) (show 1000 ≤ sizeLine by decide)) (by rw [List.size_toArray, List.size_toArray]; omega) fun h2 tk acc c as kp hS' hal G hacc => ?_
  rw [List.size_toArray] at hal
  have kp2 : ∀ b o, s1.heap.get? b = some o → h2.get? b = some o := fun b o e =>
    kp b o (n_neL 4 (Heap.lt_size e)) (n_neL 3 (Heap.lt_size e)) (n_neL 0 (Heap.lt_size e)) (n_neL 1 (Heap.lt_size e)) (hk b o e)
  have I3 : Inv X pins σ H1 { s1 with heap := h2, toks := tk } := I1.kept (t' := tk) kp2
  have nd : as.Nodup := List.Pairwise.imp (fun {a b} (h : a < b) => Nat.ne_of_lt h) G.rise
  have at_ : ∀ (j : Nat) (t : Addr), as[j]? = some t → ∃ (x y : V) (u v : Value), xs[j]? = some x ∧ ys[j]? = some y ∧ RelV x u ∧ RelV y v ∧ h2.get? t = some { cls := .type "tuple", data := .seq #[u, v] } := by
    intro j t hj
    obtain ⟨u, v, e1, e2, e3⟩ := G.pairs j t hj
    have e1' : its[j]? = some u := by simpa using e1
    have e2' : its2[j]? = some v := by simpa using e2
    obtain ⟨x, hx1, hx2⟩ := vals_back rv e1'
    obtain ⟨y, hy1, hy2⟩ := vals_back rv2 e2'
    exact ⟨x, y, u, v, hx1, hy1, hx2, hy2, e3⟩
  have hL0 : s1.heap.objs.size ≤ h'.objs.size := by
    rw [hsize]
    exact Nat.le_add_right _ _
  have hL1 : H1 h'.objs.size = none := I1.hok.fresh hL0
  have vr : ∀ as : List Addr, Vals (as.map V.ref) (as.map Value.ref) := fun as => by
    induction as with
    | nil => exact .nil
    | cons a as ih => exact .cons rfl ih
  have hal2 : as.length = xs.length := by
    rw [hal, l1]
  have I5 : Inv X pins σ (upd H1 h'.objs.size (.lst (as.map V.ref))) { s1 with heap := h2, toks := tk } := I3.take (h' := h2) (t' := tk) (fun b ob _ e => e) (I1.fpOk hL0 hL1) ⟨by rw [List.length_map, hal2]; exact Nat.le_trans hz (show 1000 ≤ sizeLine by decide), acc.toList, c, by rw [hacc]; exact vr as, by rw [Array.toArray_toList]; exact hS'⟩
  obtain ⟨H2, I4, e4, tr⟩ := L2.DX.takeT (h' := h2) (tk := tk) (P := fun t vs => ∃ (j : Nat) (x y : V), as[j]? = some t ∧ xs[j]? = some x ∧ ys[j]? = some y ∧ vs = [x, y]) I1 as _ I5 nd fun t ht => by
    obtain ⟨j, hj⟩ := List.mem_iff_getElem?.mp ht
    obtain ⟨x, y, u, v, hx1, hy1, hx2, hy2, hob⟩ := at_ j t hj
    have lo := n_loL hsize (G.above t ht)
    exact ⟨lo, by rw [upd_ne (Nat.ne_of_gt (G.above t ht))]; exact I1.hok.fresh lo, [x, y], ⟨j, x, y, hj, hx1, hy1, rfl⟩, fun H2 => ⟨by show 2 ≤ sizeLine; decide, [u, v], .cons hx2 (.cons hy2 .nil), ⟨_, hob, rfl, _, rfl⟩⟩⟩
  have pr : ∀ (as : List Addr) (zs : List (V × V)), as.length = zs.length → (∀ (j : Nat) (t : Addr) (q : V × V), as[j]? = some t → zs[j]? = some q → H2 t = some (.tup [q.1, q.2])) → PySem.Paired (fun (t : Addr) (q : V × V) => H2 t = some (.tup [q.1, q.2])) as zs := by
    intro as
    induction as with
    | nil =>
      intro zs hl _
      cases zs with
      | nil => exact .nil
      | cons z zs => simp at hl
    | cons a as ih =>
      intro zs hl h
      cases zs with
      | nil => simp at hl
      | cons z zs => exact .cons (h 0 a z rfl rfl) (ih zs (by simpa using hl) fun j t q h1 h2 => h (j + 1) t q (by simpa using h1) (by simpa using h2))
  refine ⟨.ref h'.objs.size, H2, I4, rfl, q _ as H2 hL1 (Ex.trans (Ex.new hL1) e4) (e4 _ _ upd_same) (pr as _ (by rw [List.length_zip, hal2, ← hl, Nat.min_self]) fun j t qq h1 h2 => ?_)⟩
  obtain ⟨vs, ⟨j2, x, y, g1, g2, g3, g4⟩, g5⟩ := tr t (List.mem_of_getElem? h1)
  have ej := nd_ix nd h1 g1
  subst ej
  obtain ⟨k1, k2⟩ := List.getElem?_zip_eq_some.mp h2
  rw [k1] at g2
  rw [k2] at g3
  rw [g5, g4, Option.some.inj g2, Option.some.inj g3]
end
end Hm

set_option Elab.async false
set_option linter.all false
set_option maxRecDepth 100000
set_option maxHeartbeats 4000000
namespace Hm
open PySem PySem.Spec PySem.W PyProof.Rows L2 HT
/-! ## "h" and a number, compared -/
section
variable {X : Cx}
def rLtA (K : PySem.W.Frag) : R2 := fun x y H Q => ∃ (a b : Addr) (n m : Nat), x = .ref a ∧ y = .ref b ∧ SqT K H a [.str "h", .int (n : Int)] ∧ SqT K H b [.str "h", .int (m : Int)] ∧ Q (.bl (decide (n < m))) H
theorem op_ltA {X : Cx} (hu : X.A.units < cLine) : OpR X (compareOp .Lt) (rLtA X.K) := by
  intro pins s σ H x y v u Q I rx ry h
  obtain ⟨a, b, n, m, rfl, rfl, ha, hb, q⟩ := h
  cases rx
  cases ry
  obtain ⟨its, r1, p1, _⟩ := I.tuple ha
  obtain ⟨its2, r2, p2, _⟩ := I.tuple hb
  obtain ⟨u1, u2, rfl, q1, q2⟩ := vals2 r1
  obtain ⟨w1, w2, rfl, g1, g2⟩ := vals2 r2
  obtain ⟨k1, rfl⟩ := q1
  obtain ⟨k2, rfl⟩ := g1
  obtain ⟨k3, rfl⟩ := q2
  obtain ⟨k4, rfl⟩ := g2
  have R := Ob.RcOp.tuples_lt (A := X.A) (s := s) (e := fun j => decide (j = 0) || decide (n = m)) (r := fun j => decide (n < m)) p1 p2 hu (fun j h1 h2 => by
    match j, h1, h2 with
    | 0, _, _ => exact SeqAt.EqAt.str_str _ _ _ _
    | 1, _, _ =>
      have z : ((n : Int) == (m : Int)) = (decide ((1 : Nat) = 0) || decide (n = m)) := by
        by_cases q : n = m
        · subst q; simp
        · have : ¬ (n : Int) = (m : Int) := by omega
          simp [q, this]
      rw [← z]
      exact SeqAt.EqAt.int_int _ _ _ _) (fun j h1 h2 he => by
    match j, h1, h2, he with
    | 0, _, _, he => simp at he
    | 1, _, _, _ =>
      have z : decide ((n : Int) < (m : Int)) = decide (n < m) := by simp
      rw [← z]
      exact Ob.RcOp.lt_int _ _ _ _)
  have ez : Ob.lexAt (fun j => decide (j = 0) || decide (n = m)) (fun j => decide (n < m)) (decide (2 < 2)) 0 2 = decide (n < m) := by
    rw [Ob.lexAt_succ, Ob.lexAt_succ, Ob.lexAt_zero]
    by_cases q : n = m
    · subst q; simp
    · simp [q]
  have z : wpAny (model X.prog X.w) X.A (compareOp .Lt (.ref a) (.ref b)) (EP X pins σ Q) X.xe s := R X.prog X.w X.xe (EP X pins σ Q) ⟨.bl _, H, I, rfl, by
    show Q _ H
    have ez2 : Ob.lexAt (fun j => decide (j = 0) || decide (n = m)) (fun j => decide (n < m)) (decide ((#[Value.str "h" k1, Value.int (n : Int) k3]).size < (#[Value.str "h" k2, Value.int (m : Int) k4]).size)) 0 (min (#[Value.str "h" k1, Value.int (n : Int) k3]).size (#[Value.str "h" k2, Value.int (m : Int) k4]).size) = decide (n < m) := ez
    rw [ez2]
    exact q⟩
  exact z
end
end Hm

set_option Elab.async false
set_option linter.all false
set_option maxRecDepth 100000
set_option maxHeartbeats 1000000
namespace Hm
open PySem PySem.Spec PyProof.Rows L2 HT
open Evl (Ex)
section
variable {P : Program} {w : World} {K : PySem.W.Frag} {mg : Str → Option Value} {base : Heap}
theorem CAll.get {H : Hp} : ∀ {vs : List V} {cs : List Ce}, CAll K H vs cs → ∀ {n : Nat} {x : Ce}, cs[n]? = some x → ∃ u, vs[n]? = some u ∧ CAt K H u x := by
  intro vs cs h
  induction h with
  | nil => intro n x e; cases e
  | cons h t ih =>
    intro n x e
    cases n with
    | zero =>
      cases e
      exact ⟨_, rfl, h⟩
    | succ n => exact ih (n := n) e
theorem CAll.set {H : Hp} {u : V} {x : Ce} (hx : CAt K H u x) : ∀ {vs : List V} {cs : List Ce}, CAll K H vs cs → ∀ n, CAll K H (vs.set n u) (cs.set n x) := by
  intro vs cs h
  induction h with
  | nil => exact fun _ => .nil
  | cons h t ih =>
    intro n
    cases n with
    | zero => exact .cons hx t
    | succ n => exact .cons h (ih n)
theorem ixN_of {len n : Nat} (h : n < len) : ixN len (n : Int) = some n := by
  unfold ixN
  rw [if_pos (Int.natCast_nonneg n), if_pos (by omega)]
  rfl
/-- the list of cells is another one -/
theorem Sto.upL {C S c d nt : Addr} {H : Hp} {m : Mem} {cs' : List Ce} {vs' : List V} (h : Sto K C H S c d nt m) (hv : CAll K H vs' cs') (ok : ∀ x ∈ cs', CeOk x) (hl : cs'.length ≤ 10000000) : Ks S c d nt H (upd H c (.lst vs')) ∧ Sto K C (upd H c (.lst vs')) S c d nt { m with cs := cs' } := by
  have k : Ks S c d nt H (upd H c (.lst vs')) := fun b o _ n _ _ e => by rw [upd_ne n]; exact e
  have t := h.tups k
  obtain ⟨⟨dx, h1⟩, ⟨vs, h2, _⟩, ⟨kvs, h3, g3, l3⟩, ⟨us, h4, g4⟩, h5, h6, h7⟩ := h
  have n1 : S ≠ c := ne_of h1 h2 (by intro z; cases z)
  have n3 : d ≠ c := ne_of h3 h2 (by intro z; cases z)
  exact ⟨k, ⟨dx, by rw [upd_ne n1]; exact h1⟩, ⟨vs', upd_same, hv.tups t⟩, ⟨kvs, by rw [upd_ne n3]; exact h3, g3.tups t, l3⟩, ⟨us, by rw [upd_ne h7.symm]; exact h4, g4.tups t⟩, ok, ⟨hl, h6.2⟩, h7⟩
/-- the places of the stack are others -/
theorem Sto.upS {C S c d nt : Addr} {H : Hp} {m : Mem} {sl' : Nat → Option Ce} {kvs' : List (Key × V)} (h : Sto K C H S c d nt m) (hv : SlAt K H kvs' sl') (hl : kvs'.length ≤ m.sz) : Ks S c d nt H (upd H d (.dK kvs')) ∧ Sto K C (upd H d (.dK kvs')) S c d nt { m with sl := sl' } := by
  have k : Ks S c d nt H (upd H d (.dK kvs')) := fun b o _ _ n _ e => by rw [upd_ne n]; exact e
  have t := h.tups k
  obtain ⟨⟨dx, h1⟩, ⟨vs, h2, g2⟩, ⟨kvs, h3, g3, l3⟩, ⟨us, h4, g4⟩, h5, h6, h7⟩ := h
  have n1 : S ≠ d := ne_of h1 h3 (by intro z; cases z)
  have n2 : c ≠ d := ne_of h2 h3 (by intro z; cases z)
  have n4 : nt ≠ d := ne_of h4 h3 (by intro z; cases z)
  exact ⟨k, ⟨dx, by rw [upd_ne n1]; exact h1⟩, ⟨vs, by rw [upd_ne n2]; exact h2, g2.tups t⟩, ⟨kvs', upd_same, hv.tups t, hl⟩, ⟨us, by rw [upd_ne n4]; exact h4, g4.tups t⟩, h5, h6, h7⟩
/-- the trail is another one -/
theorem Sto.upN {C S c d nt : Addr} {H : Hp} {m : Mem} {no' : List Ad} {us' : List V} (h : Sto K C H S c d nt m) (hv : AAll K H us' no') (hl : no'.length ≤ 10000000) : Ks S c d nt H (upd H nt (.lst us')) ∧ Sto K C (upd H nt (.lst us')) S c d nt { m with no := no' } := by
  have k : Ks S c d nt H (upd H nt (.lst us')) := fun b o _ _ _ n e => by rw [upd_ne n]; exact e
  have t := h.tups k
  obtain ⟨⟨dx, h1⟩, ⟨vs, h2, g2⟩, ⟨kvs, h3, g3, l3⟩, ⟨us, h4, g4⟩, h5, h6, h7⟩ := h
  have n1 : S ≠ nt := ne_of h1 h4 (by intro z; cases z)
  have n3 : d ≠ nt := ne_of h3 h4 (by intro z; cases z)
  exact ⟨k, ⟨dx, by rw [upd_ne n1]; exact h1⟩, ⟨vs, by rw [upd_ne h7]; exact h2, g2.tups t⟩, ⟨kvs, by rw [upd_ne n3]; exact h3, g3.tups t, l3⟩, ⟨us', upd_same, hv.tups t⟩, h5, ⟨h6.1, h6.2.1, hl⟩, h7⟩
theorem putK_same {kvs : List (Key × V)} {k : Key} {v u : V} (h : valV kvs k = some u) : (putK kvs k v).length = kvs.length := by
  have ha : (kvs.any fun kv => decide (kv.1 = k)) = true := by
    unfold valV at h
    cases e : kvs.find? (fun kv => decide (kv.1 = k)) with
    | none =>
      rw [e] at h
      cases h
    | some q =>
      have hp := List.find?_some (p := fun kv : Key × V => decide (kv.1 = k)) e
      exact List.any_eq_true.2 ⟨q, List.mem_of_find?_eq_some e, hp⟩
  unfold putK
  rw [if_pos ha, List.length_map]
theorem SlAt.put {H : Hp} {kvs : List (Key × V)} {sl : Nat → Option Ce} {n : Nat} {u : V} {x : Ce} (h : SlAt K H kvs sl) (hx : CAt K H u x) (xo : CeOk x) : SlAt K H (putK kvs (.inl (n : Int)) u) (fun k => if k = n then some x else sl k) := fun k => by
  rw [valV_put]
  by_cases e : k = n
  · subst e
    rw [if_pos rfl]
    exact ⟨fun z => by simp at z, fun y hy => by
      simp at hy
      subst hy
      exact ⟨u, rfl, hx, xo⟩⟩
  · have ne : ¬ ((Sum.inl (k : Int) : Key) = Sum.inl (n : Int)) := fun z => e (by
      have := Sum.inl.inj z
      omega)
    dsimp only
    rw [if_neg e, if_neg ne]
    exact h k
def spLook (K : PySem.W.Frag) (C : Addr) : Sp := fun vs H Q _ => ∃ S c d nt m v a x, vs = [.ref S, v] ∧ Sto K C H S c d nt m ∧ AdAt K H v a ∧ m.at a = some x ∧ ∀ u, CAt K H u x → Q u H
theorem ok_St_look (T : Tx K mg) : FnOk P w K mg base CX0 1 T.f_St_look T.d_St_look ["self", "address"] (spLook K T.C) := by
  refine T.h_St_look.F.ok sc_St_look (fun vs H Q E h => ?_) (fun cdv A outer s H vs Q E hr h => ?_)
  · obtain ⟨v, d, _, _, _, _, _, _, rfl, _⟩ := h
    rfl
  obtain ⟨S, c, d, nt, m, v, a, x, rfl, h, ⟨q, rfl, hq⟩, hx, k⟩ := h
  have hu2 := Nat.lt_of_le_of_lt (Nat.add_le_add_left (show 1 ≤ 64 by decide) _) hr.units
  refine ⟨_, (pss_one (ps_ret (pe_ifExp (pt_cmpR op_eq (pe_ix ix_tup (pv 1) pe_int (fun _ _ => rfl)) pe_str (nomark _)) (pe_ix ix_list (pe_fld (pv 0) rfl) (pe_ix ix_tup (pv 1) pe_int (fun _ _ => rfl)) (fun _ _ => rfl)) (pe_dget2 hu2 (pe_fld (pv 0) rfl) (pe_ix ix_tup (pv 1) pe_int (fun _ _ => rfl)) (pe_glob (v := .ref T.a_No) rfl T.m_No rfl) ⟨rfl, rfl, rfl, rfl⟩)))), ?_⟩
  obtain ⟨dx, hS⟩ := h.ins
  cases a with
  | h n =>
    obtain ⟨vs, hc, hv⟩ := h.lst
    obtain ⟨u, hu, hcat⟩ := hv.get hx
    refine ⟨_, rfl, q, _, 0, _, rfl, rfl, hq, at0, rfl, true, rfl, iteT ?_⟩
    exact ⟨_, rfl, S, T.C, dx, _, _, rfl, hS, T.cl, T.n_cells, rfl, _, rfl, q, _, 1, _, rfl, rfl, hq, rfl, c, vs, _, u, rfl, rfl, .of hc, atI_nat hu, k u hcat⟩
  | s n =>
    obtain ⟨kvs, hd, hs, _⟩ := h.slo
    obtain ⟨v, hv, hcat, _⟩ := (hs n).2 x hx
    refine ⟨_, rfl, q, _, 0, _, rfl, rfl, hq, at0, rfl, false, rfl, iteF ?_⟩
    refine ⟨_, rfl, S, T.C, dx, _, _, rfl, hS, T.cl, T.n_slots, rfl, d, rfl, .inl ⟨kvs, .of hd⟩, _, rfl, q, _, 1, _, rfl, rfl, hq, rfl, _, DGet.k (k := .inl (n : Int)) hd, ?_⟩
    rw [hv]
    exact k v hcat
def spPlace (K : PySem.W.Frag) (C : Addr) : Sp := fun vs H Q _ => ∃ S c d nt m v a, vs = [.ref S, v] ∧ Sto K C H S c d nt m ∧ AdAt K H v a ∧ (match a with | .h n => n < m.cs.length | .s n => n < m.sz) ∧ ∀ u H', Ex H H' → Q u H'
theorem ok_St_demand_place (T : Tx K mg) : FnOk P w K mg base CX0 5 T.f_St_demand_place T.d_St_demand_place ["self", "address"] (spPlace K T.C) := by
  refine T.h_St_demand_place.F.ok sc_St_demand_place (fun vs H Q E h => ?_) (fun cdv A outer s H vs Q E hr h => ?_)
  · obtain ⟨v, d, _, _, _, _, _, rfl, _⟩ := h
    rfl
  obtain ⟨S, c, d, nt, m, v, a, rfl, h, ha, hn, k⟩ := h
  refine ⟨_, (pss_one (ps_if (PW.pt (pw_or (pt_not (pt_val (cl (ok_is_address T) T.h_is_address hr (pa_cons (pv 1) pa_nil)))) (pw_or1 (pt_cmpR op_ge (pe_ix ix_tup (pv 1) pe_int (fun _ _ => rfl)) (pe_ifExp (pt_cmpR op_eq (pe_ix ix_tup (pv 1) pe_int (fun _ _ => rfl)) pe_str (nomark _)) (pe_callB call_len_seq rfl T.b_len (by decide +kernel) (pa_cons (pe_fld (pv 0) rfl) pa_nil)) (pe_fld (pv 0) rfl)) (nomark _)))))
      (pss_one ps_never)
      pss_nil)), ?_⟩
  refine ⟨_, rfl, v, a, rfl, ha, fun H1 e1 => ⟨true, rfl, iteF ?_⟩⟩
  obtain ⟨dx, hS⟩ := (h.ex e1).ins
  obtain ⟨vs, hc, hv⟩ := (h.ex e1).lst
  obtain ⟨q, rfl, hq⟩ := ha
  have hq1 := Evl.ex_t e1 hq
  cases a with
  | h n =>
    refine ⟨_, rfl, q, _, 1, _, rfl, rfl, hq1, rfl, _, rfl, q, _, 0, _, rfl, rfl, hq1, at0, rfl, true, rfl, iteT ?_⟩
    refine ⟨_, rfl, S, T.C, dx, _, _, rfl, hS, T.cl, T.n_cells, rfl, c, vs, rfl, .inl (.of hc), _, _, rfl, rfl, false, ?_, iteF (k _ _ e1)⟩
    show V.bl (decide ((vs.length : Int) ≤ (n : Int))) = V.bl false
    have hn' : n < m.cs.length := hn
    rw [decide_eq_false (by have := hv.length; omega)]
  | s n =>
    refine ⟨_, rfl, q, _, 1, _, rfl, rfl, hq1, rfl, _, rfl, q, _, 0, _, rfl, rfl, hq1, at0, rfl, false, rfl, iteF ?_⟩
    refine ⟨_, rfl, S, T.C, dx, _, _, rfl, hS, T.cl, T.n_stack_size, rfl, _, _, rfl, rfl, false, ?_, iteF (k _ _ e1)⟩
    show V.bl (decide ((m.sz : Int) ≤ (n : Int))) = V.bl false
    have hn' : n < m.sz := hn
    rw [decide_eq_false (by omega)]
def spChange (K : PySem.W.Frag) (C : Addr) : Sp := fun vs H Q _ => ∃ S c d nt m v a u x, vs = [.ref S, v, u] ∧ Sto K C H S c d nt m ∧ AdAt K H v a ∧ (match a with | .h n => n < m.cs.length | .s n => (m.sl n).isSome) ∧ CAt K H u x ∧ CeOk x ∧ ∀ r H', Ks S c d nt H H' → Sto K C H' S c d nt (m.put a x) → Q r H'
theorem ok_St_change (T : Tx K mg) : FnOk P w K mg base CX0 1 T.f_St_change T.d_St_change ["self", "address", "cell"] (spChange K T.C) := by
  refine T.h_St_change.F.ok sc_St_change (fun vs H Q E h => ?_) (fun cdv A outer s H vs Q E hr h => ?_)
  · obtain ⟨v, d, _, _, _, _, _, _, _, rfl, _⟩ := h
    rfl
  obtain ⟨S, c, d, nt, m, v, a, u, x, rfl, h, ⟨q, rfl, hq⟩, hn, hx, xo, k⟩ := h
  have hu1 := Nat.lt_of_le_of_lt (Nat.add_le_add_left (show 1 ≤ 64 by decide) _) hr.units
  refine ⟨_, (pss_one (ps_if (pt_cmpR op_eq (pe_ix ix_tup (pv 1) pe_int (fun _ _ => rfl)) pe_str (nomark _))
      (pss_one (ps_asg (pv 2) (pg_sub (pe_fld (pv 0) rfl) (pe_ix ix_tup (pv 1) pe_int (fun _ _ => rfl)) set_list)))
      (pss_one (ps_asg (pv 2) (pg_sub (pe_fld (pv 0) rfl) (pe_ix ix_tup (pv 1) pe_int (fun _ _ => rfl)) (set_dict hu1)))))), ?_⟩
  obtain ⟨dx, hS⟩ := h.ins
  cases a with
  | h n =>
    obtain ⟨vs, hc, hv⟩ := h.lst
    obtain ⟨k2, h2⟩ := h.upL (hv.set hx n) (fun y hy => by
      rcases List.mem_or_eq_of_mem_set hy with hy | rfl
      · exact h.ok y hy
      · exact xo) (by rw [List.length_set]; exact h.len.1)
    refine ⟨_, rfl, q, _, 0, _, rfl, rfl, hq, at0, rfl, true, rfl, iteT ?_⟩
    exact ⟨_, rfl, _, rfl, S, T.C, dx, _, _, rfl, hS, T.cl, T.n_cells, rfl, _, rfl, q, _, 1, _, rfl, rfl, hq, rfl, c, vs, _, n, rfl, rfl, hc, ixN_of (by rw [hv.length]; exact hn), k _ _ k2 h2⟩
  | s n =>
    obtain ⟨kvs, hd, hs, hl⟩ := h.slo
    have hn' : (m.sl n).isSome = true := hn
    obtain ⟨y, hy⟩ := Option.isSome_iff_exists.1 hn'
    obtain ⟨v, hv, _⟩ := (hs n).2 y hy
    obtain ⟨k2, h2⟩ := h.upS (hs.put (n := n) hx xo) (by rw [putK_same hv]; exact hl)
    refine ⟨_, rfl, q, _, 0, _, rfl, rfl, hq, at0, rfl, false, rfl, iteF ?_⟩
    exact ⟨_, rfl, _, rfl, S, T.C, dx, _, _, rfl, hS, T.cl, T.n_slots, rfl, _, rfl, q, _, 1, _, rfl, rfl, hq, rfl, d, _, rfl, .inl ⟨kvs, .inl (n : Int), hd, rfl, Nat.lt_of_le_of_lt hl (szl h.len.2.1), rfl⟩, k _ _ k2 h2⟩
end
end Hm

set_option Elab.async false
set_option linter.all false
set_option maxRecDepth 100000
set_option maxHeartbeats 1000000
namespace Hm
open PySem PySem.Spec PyProof.Rows L2 HT
open Evl (Ex)
inductive Fol (m : Mem) : Nat → Ce → Ce → Prop where
  | stop {c : Ce} : (∀ a, c ≠ .ref a) → Fol m 0 c c
  | self {a : Ad} : m.at a = some (.ref a) → Fol m 0 (.ref a) (.ref a)
  | step {a : Ad} {k : Nat} {d e : Ce} : m.at a = some d → d ≠ .ref a → Fol m k d e → Fol m (k + 1) (.ref a) e
theorem mem_of_at {cs : List Ce} {n : Nat} {x : Ce} (h : cs[n]? = some x) : x ∈ cs := List.mem_of_getElem? h
def Mem.bind (m : Mem) (a : Ad) (x : Ce) : Mem := if m.low a = true then { m.put a x with no := m.no ++ [a] } else m.put a x
def Ce.word : Ce → Str
  | .ref _ => "ref"
  | .con _ => "con"
  | .num _ => "int"
  | .str _ => "str"
  | .fn _ _ => "fun"
  | .non => "none"
theorem wd_ref {c : Ce} (h : ∀ n, c ≠ .ref n) : decide (V.str c.word = V.str "ref") = false := by
  cases c with
  | ref n => exact absurd rfl (h n)
  | con _ => rfl
  | num _ => rfl
  | str _ => rfl
  | fn _ _ => rfl
  | non => rfl
theorem cut_of {xs : List V} {n m : Nat} (h : n + 1 ≤ xs.length) : cutV xs (some ((n : Int) + 1)) (some ((n : Int) + 1 + (m : Int))) = (xs.drop (n + 1)).take m := by
  unfold cutV
  rw [show ((n : Int) + 1) = ((n + 1 : Nat) : Int) by omega, show (((n + 1 : Nat) : Int) + (m : Int)) = ((n + 1 + m : Nat) : Int) by omega, HT.sIx_nat, HT.sIx_nat, Nat.min_eq_left h]
  rw [List.take_eq_take_iff, List.length_drop]
  omega
section
variable {P : Program} {w : World} {K : PySem.W.Frag} {mg : Str → Option Value} {base : Heap}
theorem cat_word {H : Hp} {v : V} {c : Ce} (h : CAt K H v c) : ∃ p tl, v = .ref p ∧ SqT K H p (.str c.word :: tl) := by
  cases c with
  | ref n =>
    obtain ⟨p, u, rfl, h1, _⟩ := h
    exact ⟨p, _, rfl, h1⟩
  | con a =>
    obtain ⟨p, rfl, h⟩ := h
    exact ⟨p, _, rfl, h⟩
  | num a =>
    obtain ⟨p, rfl, h⟩ := h
    exact ⟨p, _, rfl, h⟩
  | str n =>
    obtain ⟨p, u, rfl, h1, h2⟩ := h
    exact ⟨p, _, rfl, h1⟩
  | fn f m =>
    obtain ⟨p, rfl, h⟩ := h
    exact ⟨p, _, rfl, h⟩
  | non =>
    obtain ⟨p, rfl, h⟩ := h
    exact ⟨p, _, rfl, h⟩
theorem CAll.drop {H : Hp} : ∀ {vs : List V} {cs : List Ce}, CAll K H vs cs → ∀ n, CAll K H (vs.drop n) (cs.drop n) := by
  intro vs cs h
  induction h with
  | nil =>
    intro n
    rw [List.drop_nil, List.drop_nil]
    exact .nil
  | cons h t ih =>
    intro n
    cases n with
    | zero => exact .cons h t
    | succ n => exact ih n
theorem CAll.take {H : Hp} : ∀ {vs : List V} {cs : List Ce}, CAll K H vs cs → ∀ n, CAll K H (vs.take n) (cs.take n) := by
  intro vs cs h
  induction h with
  | nil =>
    intro n
    rw [List.take_nil, List.take_nil]
    exact .nil
  | cons h t ih =>
    intro n
    cases n with
    | zero => exact .nil
    | succ n => exact .cons h (ih n)
theorem Sto.okAt {C S c d nt : Addr} {H : Hp} {m : Mem} (h : Sto K C H S c d nt m) {a : Ad} {x : Ce} (e : m.at a = some x) : CeOk x := by
  cases a with
  | h n => exact h.ok _ (mem_of_at e)
  | s n =>
    obtain ⟨kvs, _, hs, _⟩ := h.slo
    obtain ⟨v, _, _, xo⟩ := (hs n).2 x e
    exact xo
theorem Fol.ok {C S c d nt : Addr} {H : Hp} {m : Mem} (h : Sto K C H S c d nt m) {k : Nat} {x e : Ce} (f : Fol m k x e) : CeOk x → CeOk e := by
  induction f with
  | stop _ => exact id
  | self _ => exact id
  | step hn _ _ ih => exact fun _ => ih (h.okAt hn)
def spNew (K : PySem.W.Frag) (C : Addr) : Sp := fun vs H Q _ => ∃ S c d nt m, vs = [.ref S] ∧ Sto K C H S c d nt m ∧ m.cs.length + 1 ≤ 10000000 ∧ ∀ v H', Ks S c d nt H H' → AdAt K H' v (.h m.cs.length) → Sto K C H' S c d nt { m with cs := m.cs ++ [.ref (.h m.cs.length)] } → Q v H'
theorem ok_St_new (T : Tx K mg) : FnOk P w K mg base CX0 1 T.f_St_new T.d_St_new ["self"] (spNew K T.C) := by
  refine T.h_St_new.F.ok sc_St_new (fun vs H Q E h => ?_) (fun cdv A outer s H vs Q E hr h => ?_)
  · obtain ⟨v, d, _, _, _, rfl, _⟩ := h
    rfl
  obtain ⟨S, c, d, nt, m, rfl, h, hl, k⟩ := h
  refine ⟨_, (pss_cons (ps_set (i := 1) sc_St_new.nd rfl (Or.inl rfl) (pe_tup (pa_cons pe_str (pa_cons (pe_callB call_len_seq rfl T.b_len (by decide +kernel) (pa_cons (pe_fld (pv 0) rfl) pa_nil)) pa_nil))))
    (pss_cons (ps_expr (pe_bm PySem.F.plainAttrs_list PySem.F.slot_list_append PySem.F.type_list_append mt_append (pe_fld (pv 0) rfl) (pa_cons (pe_tup (pa_cons pe_str (pa_cons (pv 1) pa_nil))) pa_nil)))
    (pss_one (ps_ret (pv 1))))), ?_⟩
  obtain ⟨dx, hS⟩ := h.ins
  obtain ⟨vs, hc, hv⟩ := h.lst
  have el : vs.length = m.cs.length := hv.length
  refine ⟨_, rfl, S, T.C, dx, _, _, rfl, hS, T.cl, T.n_cells, rfl, c, vs, rfl, .inl (.of hc), Nat.le_of_ble_eq_true rfl, fun p hp => ?_⟩
  have e1 := Ex.new (o := HO.tup [V.str "h", V.int vs.length]) hp
  refine ⟨_, rfl, S, T.C, dx, _, _, rfl, e1 _ _ hS, T.cl, T.n_cells, rfl, ⟨.inl ⟨rfl, _, .of (e1 _ _ hc)⟩, _, rfl, Nat.le_of_ble_eq_true rfl, fun q hq => ?_⟩⟩
  have e2 := Ex.new (o := HO.tup [V.str "ref", V.ref p]) hq
  refine ⟨c, vs, .ref q, rfl, rfl, (e1.trans e2) _ _ hc, by rw [el]; exact szl (by omega), ?_⟩
  have at1 : AdAt K (upd H p (HO.tup [V.str "h", V.int vs.length])) (.ref p) (.h m.cs.length) := ⟨p, rfl, by rw [← el]; exact SqT.of upd_same⟩
  have cq : CAt K (upd (upd H p (HO.tup [V.str "h", V.int vs.length])) q (HO.tup [V.str "ref", V.ref p])) (.ref q) (.ref (.h m.cs.length)) := ⟨q, .ref p, rfl, SqT.of upd_same, at1.tups (.of e2)⟩
  have cn : CAll K (upd (upd H p (HO.tup [V.str "h", V.int vs.length])) q (HO.tup [V.str "ref", V.ref p])) (vs ++ [.ref q]) (m.cs ++ [.ref (.h m.cs.length)]) := Paired.snoc (hv.tups (.of (e1.trans e2))) cq
  obtain ⟨k3, h3⟩ := (h.ex (e1.trans e2)).upL cn (fun x hx => by
    rcases List.mem_append.1 hx with hx | hx
    · exact h.ok x hx
    · cases List.mem_singleton.1 hx
      trivial) (by simpa using hl)
  exact ⟨_, rfl, k _ _ ((Ks.of (e1.trans e2)).trans k3) ((at1.tups (.of e2)).tups ((h.ex (e1.trans e2)).tups k3)) h3⟩
def spAssign (K : PySem.W.Frag) (C : Addr) : Sp := fun vs H Q _ => ∃ S c d nt m v a u x, vs = [.ref S, v, u] ∧ Sto K C H S c d nt m ∧ AdAt K H v a ∧ (match a with | .h n => n < m.cs.length | .s n => (m.sl n).isSome) ∧ CAt K H u x ∧ CeOk x ∧ m.no.length + 1 ≤ 10000000 ∧ ∀ r H', Ks S c d nt H H' → Sto K C H' S c d nt (m.bind a x) → Q r H'
theorem ok_St_assign (T : Tx K mg) : FnOk P w K mg base CX0 3 T.f_St_assign T.d_St_assign ["self", "address", "cell"] (spAssign K T.C) := by
  refine T.h_St_assign.F.ok sc_St_assign (fun vs H Q E h => ?_) (fun cdv A outer s H vs Q E hr h => ?_)
  · obtain ⟨v, d, _, _, _, _, _, _, _, rfl, _⟩ := h
    rfl
  obtain ⟨S, c, d, nt, m, v, a, u, x, rfl, h, ha, hn, hx, xo, hl, k⟩ := h
  refine ⟨_, (pss_cons (ps_expr (pe_meth (pv 0) T.cl T.h_St_change.m (ok_St_change T) (hr.mono (by first | decide | omega)) T.h_St_change.b .nil pass0 (pa_cons (pv 1) (pa_cons (pv 2) pa_nil))))
    (pss_one (ps_if (pt_cmpR op_lt (pe_ix ix_tup (pv 1) pe_int (fun _ _ => rfl)) (pe_ifExp (pt_cmpR op_eq (pe_ix ix_tup (pv 1) pe_int (fun _ _ => rfl)) pe_str (nomark _)) (pe_fld (pv 0) rfl) (pe_fld (pv 0) rfl)) (nomark _))
      (pss_one (ps_expr (pe_bm PySem.F.plainAttrs_list PySem.F.slot_list_append PySem.F.type_list_append mt_append (pe_fld (pv 0) rfl) (pa_cons (pv 1) pa_nil))))
      pss_nil))), ?_⟩
  obtain ⟨dx, hS⟩ := h.ins
  refine ⟨_, rfl, S, dx, _, rfl, hS, rfl, _, rfl, _, rfl, S, c, d, nt, m, v, a, u, x, rfl, h, ha, hn, hx, xo, fun r H1 k1 h1 => ?_⟩
  obtain ⟨q, rfl, hq⟩ := ha.tups (h.tups k1)
  obtain ⟨dx1, hS1⟩ := h1.ins
  obtain ⟨us, hnt, hus⟩ := h1.nol
  have fin : ∀ b, m.low a = b → (if b = true then ∃ H2, H2 = upd H1 nt (.lst (us ++ [.ref q])) ∧ Ks S c d nt H H2 ∧ Sto K T.C H2 S c d nt (m.bind a x) else Sto K T.C H1 S c d nt (m.bind a x)) := fun b hb => by
    unfold Mem.bind
    cases b with
    | false => rw [if_neg (by simp), if_neg (by rw [hb]; simp)]; exact h1
    | true =>
      rw [if_pos rfl, if_pos hb]
      have no1 : (m.put a x).no = m.no := by cases a <;> rfl
      rw [no1] at hus
      obtain ⟨k2, h2⟩ := h1.upN (Paired.snoc hus (⟨q, rfl, hq⟩ : AdAt K H1 (.ref q) a)) (by simpa using hl)
      exact ⟨_, rfl, k1.trans k2, h2⟩
  have lu : us.length < sizeLine := by
    rw [hus.length]
    exact szl h1.len.2.2
  cases a with
  | h n =>
    have low : m.low (.h n) = decide (n < m.hm) := rfl
    refine ⟨_, rfl, q, _, 1, _, rfl, rfl, hq, rfl, _, rfl, q, _, 0, _, rfl, rfl, hq, at0, rfl, true, rfl, iteT ?_⟩
    refine ⟨_, rfl, S, T.C, dx1, _, _, rfl, hS1, T.cl, T.n_heap_mark, rfl, _, _, rfl, rfl, decide (n < m.hm), ?_, ?_⟩
    · show V.bl (decide ((n : Int) < (m.hm : Int))) = V.bl (decide (n < m.hm))
      congr 1
      simp
    · cases e : decide (n < m.hm) with
      | false => exact iteF (k _ _ k1 (fin false (low.trans e)))
      | true =>
        obtain ⟨H2, rfl, k2, h2⟩ := fin true (low.trans e)
        exact iteT ⟨_, rfl, S, T.C, dx1, _, _, rfl, hS1, T.cl, T.n_noted, rfl, .inl ⟨rfl, _, .of hnt⟩, _, rfl, nt, us, .ref q, rfl, rfl, hnt, lu, k _ _ k2 h2⟩
  | s n =>
    have low : m.low (.s n) = decide (n < m.sm) := rfl
    refine ⟨_, rfl, q, _, 1, _, rfl, rfl, hq, rfl, _, rfl, q, _, 0, _, rfl, rfl, hq, at0, rfl, false, rfl, iteF ?_⟩
    refine ⟨_, rfl, S, T.C, dx1, _, _, rfl, hS1, T.cl, T.n_stack_mark, rfl, _, _, rfl, rfl, decide (n < m.sm), ?_, ?_⟩
    · show V.bl (decide ((n : Int) < (m.sm : Int))) = V.bl (decide (n < m.sm))
      congr 1
      simp
    · cases e : decide (n < m.sm) with
      | false => exact iteF (k _ _ k1 (fin false (low.trans e)))
      | true =>
        obtain ⟨H2, rfl, k2, h2⟩ := fin true (low.trans e)
        exact iteT ⟨_, rfl, S, T.C, dx1, _, _, rfl, hS1, T.cl, T.n_noted, rfl, .inl ⟨rfl, _, .of hnt⟩, _, rfl, nt, us, .ref q, rfl, rfl, hnt, lu, k _ _ k2 h2⟩
def spFol (K : PySem.W.Frag) (C : Addr) : Sp := fun vs H Q _ => ∃ S c d nt m v x e k, vs = [.ref S, v] ∧ Sto K C H S c d nt m ∧ CAt K H v x ∧ CeOk x ∧ Fol m k x e ∧ ∀ u, CAt K H u e → Q u H
theorem ok_St_follow (T : Tx K mg) : FnOk P w K mg base CX0 3 T.f_St_follow T.d_St_follow ["self", "cell"] (spFol K T.C) := by
  refine T.h_St_follow.F.ok sc_St_follow (fun vs H Q E h => ?_) (fun cdv A outer s H vs Q E hr h => ?_)
  · obtain ⟨v, d, _, _, _, _, _, _, _, rfl, _⟩ := h
    rfl
  obtain ⟨S, c, d, nt, m, v, x, e, n, rfl, h, hx, xo, hf, k⟩ := h
  have hu := hr.units
  refine ⟨_, (pss_cons (ps_while PassesOwn.never (pt_cmpR op_eq (pe_ix ix_tup (pv 1) pe_int (fun _ _ => rfl)) pe_str (nomark _))
      (pss_cons (ps_set (i := 2) sc_St_follow.nd rfl (Or.inl rfl) (pe_meth (pv 0) T.cl T.h_St_look.m (ok_St_look T) (hr.mono (by first | decide | omega)) T.h_St_look.b .nil pass0 (pa_cons (pe_ix ix_tup (pv 1) pe_int (fun _ _ => rfl)) pa_nil)))
    (pss_cons (ps_if (pt_cmpR (op_eqD hu) (pv 2) (pv 1) (nomark _))
      (pss_one (ps_ret (pv 1)))
      pss_nil)
    (pss_one (ps_set (i := 1) sc_St_follow.nd rfl (Or.inl rfl) (pv 2))))))
    (pss_one (ps_ret (pv 1)))), ?_⟩
  refine ⟨fun mm σ H1 => ∃ vv xx th, σ = [some (.ref S), some vv, th] ∧ H1 = H ∧ CAt K H vv xx ∧ CeOk xx ∧ Fol m mm xx e, ⟨n, v, x, none, rfl, rfl, hx, xo, hf⟩, ?_⟩
  rintro mm σ H1 ⟨vv, xx, th, rfl, rfl, hv, xo1, hf1⟩
  obtain ⟨dx, hS⟩ := h.ins
  have hv0 := hv
  cases hf1 with
  | stop hno =>
    obtain ⟨p, tl, rfl, hp⟩ := cat_word hv
    refine ⟨_, rfl, p, _, 0, _, rfl, rfl, hp, at0, rfl, false, (by rw [wd_ref hno]), iteF ?_⟩
    exact ⟨_, rfl, k _ hv0⟩
  | self hat =>
    rename_i n
    obtain ⟨p, u, rfl, hp, ha⟩ := hv
    refine ⟨_, rfl, p, _, 0, _, rfl, rfl, hp, at0, rfl, true, rfl, iteT ⟨fun _ _ => False, fun _ _ z => z.elim, ?_⟩⟩
    refine ⟨_, rfl, S, dx, _, rfl, hS, rfl, _, rfl, p, _, 1, _, rfl, rfl, hp, rfl, S, c, d, nt, m, u, n, _, rfl, h, ha, hat, fun u2 hu2 => ?_⟩
    refine ⟨_, rfl, _, rfl, _, _, dp_ce hu2, dp_ce hv0, shaped_ce xo1, shaped_ce xo1, true, (by rw [eqv_ce, decide_eq_true rfl]), iteT ?_⟩
    exact ⟨_, rfl, k _ hv0⟩
  | step hat hne hf2 =>
    rename_i n k0 dd
    obtain ⟨p, u, rfl, hp, ha⟩ := hv
    have xd := h.okAt hat
    refine ⟨_, rfl, p, _, 0, _, rfl, rfl, hp, at0, rfl, true, rfl, iteT ⟨fun σ' H' => ∃ vv th, σ' = [some (.ref S), some vv, th] ∧ H' = H1 ∧ CAt K H1 vv dd, fun σ' H' ⟨vv, th, e1, e2, e3⟩ => ⟨k0, Nat.lt_succ_self _, vv, dd, th, e1, e2, e3, xd, hf2⟩, ?_⟩⟩
    refine ⟨_, rfl, S, dx, _, rfl, hS, rfl, _, rfl, p, _, 1, _, rfl, rfl, hp, rfl, S, c, d, nt, m, u, n, _, rfl, h, ha, hat, fun u2 hu2 => ?_⟩
    refine ⟨_, rfl, _, rfl, _, _, dp_ce hu2, dp_ce hv0, shaped_ce xd, shaped_ce xo1, false, (by rw [eqv_ce, decide_eq_false hne]), iteF ?_⟩
    exact ⟨_, rfl, _, _, rfl, rfl, hu2⟩
end
end Hm

set_option Elab.async false
set_option linter.all false
set_option maxRecDepth 100000
set_option maxHeartbeats 1000000
namespace Hm
open PySem PySem.Spec PyProof.Rows L2 HT
open Evl (Ex)
section
variable {P : Program} {w : World} {K : PySem.W.Frag} {mg : Str → Option Value} {base : Heap}
def spFunctor (K : PySem.W.Frag) (C : Addr) : Sp := fun vs H Q _ => ∃ S c d nt m v n x, vs = [.ref S, v] ∧ Sto K C H S c d nt m ∧ CAt K H v (.str n) ∧ m.cs[n]? = some x ∧ ∀ u, CAt K H u x → Q u H
theorem ok_St_functor (T : Tx K mg) : FnOk P w K mg base CX0 1 T.f_St_functor T.d_St_functor ["self", "cell"] (spFunctor K T.C) := by
  refine T.h_St_functor.F.ok sc_St_functor (fun vs H Q E h => ?_) (fun cdv A outer s H vs Q E hr h => ?_)
  · obtain ⟨v, d, _, _, _, _, _, _, rfl, _⟩ := h
    rfl
  obtain ⟨S, c, d, nt, m, v, n, x, rfl, h, ⟨p, u, rfl, hp, q, rfl, hq⟩, hx, k⟩ := h
  refine ⟨_, (pss_one (ps_ret (pe_ix ix_list (pe_fld (pv 0) rfl) (pe_ix ix_tup (pe_ix ix_tup (pv 1) pe_int (fun _ _ => rfl)) pe_int (fun _ _ => rfl)) (fun _ _ => rfl)))), ?_⟩
  obtain ⟨dx, hS⟩ := h.ins
  obtain ⟨vs, hc, hv⟩ := h.lst
  obtain ⟨u, hu, hcat⟩ := hv.get hx
  exact ⟨_, rfl, S, T.C, dx, _, _, rfl, hS, T.cl, T.n_cells, rfl, _, rfl, p, _, 1, _, rfl, rfl, hp, rfl, q, _, 1, _, rfl, rfl, hq, rfl, c, vs, _, u, rfl, rfl, .of hc, atI_nat hu, k u hcat⟩
def spArgm (K : PySem.W.Frag) (C : Addr) : Sp := fun vs H Q _ => ∃ S c d nt mm v n f m, vs = [.ref S, v] ∧ Sto K C H S c d nt mm ∧ CAt K H v (.str n) ∧ mm.cs[n]? = some (.fn f m) ∧ ∀ p H' us, H p = none → Ex H H' → H' p = some (.lst us) → CAll K H' us ((mm.cs.drop (n + 1)).take m) → Q (.ref p) H'
theorem ok_St_arguments (T : Tx K mg) : FnOk P w K mg base CX0 3 T.f_St_arguments T.d_St_arguments ["self", "cell"] (spArgm K T.C) := by
  refine T.h_St_arguments.F.ok sc_St_arguments (fun vs H Q E h => ?_) (fun cdv A outer s H vs Q E hr h => ?_)
  · obtain ⟨v, d, _, _, _, _, _, _, _, rfl, _⟩ := h
    rfl
  obtain ⟨S, c, d, nt, mm, v, n, f, m, rfl, h, hcv, hx, k⟩ := h
  refine ⟨_, (pss_cons (ps_set (i := 2) sc_St_arguments.nd rfl (Or.inl rfl) (pe_op op_add (pe_ix ix_tup (pe_ix ix_tup (pv 1) pe_int (fun _ _ => rfl)) pe_int (fun _ _ => rfl)) pe_int))
    (pss_one (ps_ret (pe_slice sl_list (pe_fld (pv 0) rfl) (po_some (pv 2)) (po_some (pe_op op_add (pv 2) (pe_ix ix_tup (pe_meth (pv 0) T.cl T.h_St_functor.m (ok_St_functor T) (hr.mono (by first | decide | omega)) T.h_St_functor.b .nil pass0 (pa_cons (pv 1) pa_nil)) pe_int (fun _ _ => rfl)))))))), ?_⟩
  obtain ⟨dx, hS⟩ := h.ins
  obtain ⟨vs, hc, hv⟩ := h.lst
  obtain ⟨p, u, rfl, hp, q, rfl, hq⟩ := id hcv
  have hl : n + 1 ≤ vs.length := by
    rw [hv.length]
    exact (List.getElem?_eq_some_iff.1 hx).1
  refine ⟨_, rfl, p, _, 1, _, rfl, rfl, hp, rfl, q, _, 1, _, rfl, rfl, hq, rfl, _, _, rfl, rfl, ?_⟩
  refine ⟨_, rfl, S, T.C, dx, _, _, rfl, hS, T.cl, T.n_cells, rfl, _, rfl, _, rfl, _, rfl, _, rfl, S, dx, _, rfl, hS, rfl, _, rfl, S, c, d, nt, mm, _, n, _, rfl, h, hcv, hx, fun u2 hu2 => ?_⟩
  obtain ⟨p2, rfl, hp2⟩ := hu2
  refine ⟨p2, _, 2, _, rfl, rfl, hp2, rfl, _, _, rfl, rfl, _, rfl, c, vs, rfl, .of hc, fun r hr => ?_⟩
  have e1 := Ex.new (o := HO.lst ((vs.drop (n + 1)).take m)) hr
  have ec := cut_of (xs := vs) (n := n) (m := m) hl
  show Q (.ref r) (upd H r (.lst (cutV vs (some ((n : Int) + 1)) (some ((n : Int) + 1 + (m : Int))))))
  rw [ec]
  exact k r _ _ hr e1 upd_same (((hv.drop _).take _).tups (.of e1))
/-- the numbers of the store are others -/
theorem Sto.upI {C S dx c d nt : Addr} {H : Hp} {m : Mem} {hm' sm' : Nat} (h : Sto K C H S c d nt m) : Ks S c d nt H (upd H S (.ins C dx (flds c d nt { m with hm := hm', sm := sm' }))) ∧ Sto K C (upd H S (.ins C dx (flds c d nt { m with hm := hm', sm := sm' }))) S c d nt { m with hm := hm', sm := sm' } := by
  have k : Ks S c d nt H (upd H S (.ins C dx (flds c d nt { m with hm := hm', sm := sm' }))) := fun b o n _ _ _ e => by rw [upd_ne n]; exact e
  have t := h.tups k
  obtain ⟨⟨dx0, h1⟩, ⟨vs, h2, g2⟩, ⟨kvs, h3, g3, l3⟩, ⟨us, h4, g4⟩, h5, h6, h7⟩ := h
  have n2 : c ≠ S := ne_of h2 h1 (by intro z; cases z)
  have n3 : d ≠ S := ne_of h3 h1 (by intro z; cases z)
  have n4 : nt ≠ S := ne_of h4 h1 (by intro z; cases z)
  exact ⟨k, ⟨dx, upd_same⟩, ⟨vs, by rw [upd_ne n2]; exact h2, g2.tups t⟩, ⟨kvs, by rw [upd_ne n3]; exact h3, g3.tups t, l3⟩, ⟨us, by rw [upd_ne n4]; exact h4, g4.tups t⟩, h5, h6, h7⟩
end
end Hm

set_option Elab.async false
set_option linter.all false
set_option maxRecDepth 100000
set_option maxHeartbeats 1000000
namespace Hm
open PySem PySem.Spec PyProof.Rows L2 HT
open Evl (Ex)
theorem putK_len1 (kvs : List (Key × V)) (k : Key) (v : V) : (putK kvs k v).length ≤ kvs.length + 1 := by
  unfold putK
  split
  · rw [List.length_map]
    omega
  · rw [List.length_append]
    exact Nat.le_refl _
def Mem.fill (m : Mem) (n : Nat) (x : Ce) : Mem := { m with sl := fun k => if k = n then some x else m.sl k, sz := max m.sz (n + 1) }
section
variable {P : Program} {w : World} {K : PySem.W.Frag} {mg : Str → Option Value} {base : Heap}
theorem Sto.upF {C S dx c d nt : Addr} {H : Hp} {m : Mem} {n : Nat} {x : Ce} {kvs' : List (Key × V)} (h : Sto K C H S c d nt m) (hv : SlAt K H kvs' (m.fill n x).sl) (hl : kvs'.length ≤ (m.fill n x).sz) (hz : (m.fill n x).sz ≤ 10000000) :
    Ks S c d nt H (upd (upd H d (.dK kvs')) S (.ins C dx (flds c d nt (m.fill n x)))) ∧ Sto K C (upd (upd H d (.dK kvs')) S (.ins C dx (flds c d nt (m.fill n x)))) S c d nt (m.fill n x) := by
  have k : Ks S c d nt H (upd (upd H d (.dK kvs')) S (.ins C dx (flds c d nt (m.fill n x)))) := fun b o n1 _ n3 _ e => by rw [upd_ne n1, upd_ne n3]; exact e
  have t := h.tups k
  obtain ⟨⟨dx0, h1⟩, ⟨vs, h2, g2⟩, ⟨kvs, h3, g3, l3⟩, ⟨us, h4, g4⟩, h5, h6, h7⟩ := h
  have n2 : c ≠ S := ne_of h2 h1 (by intro z; cases z)
  have n3 : d ≠ S := ne_of h3 h1 (by intro z; cases z)
  have n4 : nt ≠ S := ne_of h4 h1 (by intro z; cases z)
  have n5 : c ≠ d := ne_of h2 h3 (by intro z; cases z)
  have n6 : nt ≠ d := ne_of h4 h3 (by intro z; cases z)
  exact ⟨k, ⟨dx, upd_same⟩, ⟨vs, by rw [upd_ne n2, upd_ne n5]; exact h2, g2.tups t⟩, ⟨kvs', by rw [upd_ne n3, upd_same], hv.tups t, hl⟩, ⟨us, by rw [upd_ne n4, upd_ne n6]; exact h4, g4.tups t⟩, h5, ⟨h6.1, hz, h6.2.2⟩, h7⟩
def spFill (K : PySem.W.Frag) (C : Addr) : Sp := fun vs H Q _ => ∃ (S c d nt : Addr) (m : Mem) (n : Nat) (u : V) (x : Ce), vs = [.ref S, .int (n : Int), u] ∧ Sto K C H S c d nt m ∧ CAt K H u x ∧ CeOk x ∧ ((m.sl n).isSome = true ∨ m.sz ≤ n) ∧ n + 1 ≤ 10000000 ∧ ∀ r H', Ks S c d nt H H' → Sto K C H' S c d nt (m.fill n x) → Q r H'
theorem ok_St_fill (T : Tx K mg) : FnOk P w K mg base CX0 9 T.f_St_fill T.d_St_fill ["self", "k", "cell"] (spFill K T.C) := by
  refine T.h_St_fill.F.ok sc_St_fill (fun vs H Q E h => ?_) (fun cdv A outer s H vs Q E hr h => ?_)
  · obtain ⟨v, d, _, _, _, _, _, _, rfl, _⟩ := h
    rfl
  obtain ⟨S, c, d, nt, m, n, u, x, rfl, h, hx, xo, hk, hn, k⟩ := h
  have hu1 := Nat.lt_of_le_of_lt (Nat.add_le_add_left (show 1 ≤ 64 by decide) _) hr.units
  refine ⟨_, (pss_cons (ps_if (pt_not (pt_val (cl (ok_is_number T) T.h_is_number hr (pa_cons (pv 1) pa_nil))))
      (pss_one ps_never)
      pss_nil)
    (pss_cons (ps_expr (cl (ok_demand_cell T) T.h_demand_cell hr (pa_cons (pv 2) pa_nil)))
    (pss_cons (ps_asg (pv 2) (pg_sub (pe_fld (pv 0) rfl) (pv 1) (set_dict hu1)))
    (pss_one (ps_fld (pv 0) (pe_callB (call_max2 rfl) rfl T.b_max (by decide +kernel) (pa_cons (pe_fld (pv 0) rfl) (pa_cons (pe_op op_add (pv 1) pe_int) pa_nil))) rfl))))), ?_⟩
  have nn : numD (.int (n : Int)) = true := by
    show (decide ((0 : Int) ≤ (n : Int))) = true
    exact decide_eq_true (by omega)
  refine ⟨_, rfl, _, .int (n : Int), rfl, .int _, ?_⟩
  rw [nn]
  refine ⟨true, rfl, iteF ?_⟩
  refine ⟨_, rfl, u, x, rfl, hx, xo, fun _ H1 e1 => ?_⟩
  have h1 := h.ex e1
  obtain ⟨dx, hS⟩ := h1.ins
  obtain ⟨kvs, hd, hs, hl⟩ := h1.slo
  have hx1 := hx.tups (K := K) (.of e1)
  have nSd : S ≠ d := ne_of hS hd (by intro z; cases z)
  have hs' : SlAt K H1 (putK kvs (.inl (n : Int)) u) (m.fill n x).sl := hs.put (n := n) hx1 xo
  have hl' : (putK kvs (.inl (n : Int)) u).length ≤ (m.fill n x).sz := by
    show _ ≤ max m.sz (n + 1)
    rcases hk with hk | hk
    · obtain ⟨y, hy⟩ := Option.isSome_iff_exists.1 hk
      obtain ⟨v, hv, _⟩ := (hs n).2 y hy
      rw [putK_same hv]
      omega
    · have := putK_len1 kvs (.inl (n : Int)) u
      omega
  have hz : (m.fill n x).sz ≤ 10000000 := by
    show max m.sz (n + 1) ≤ 10000000
    have := h.len.2.1
    omega
  obtain ⟨k2, h2⟩ := h1.upF (dx := dx) hs' hl' hz
  refine ⟨_, rfl, _, rfl, S, T.C, dx, _, _, rfl, hS, T.cl, T.n_slots, rfl, _, rfl, d, _, rfl, .inl ⟨kvs, .inl (n : Int), hd, rfl, Nat.lt_of_le_of_lt hl (szl h1.len.2.1), rfl⟩, ?_⟩
  have hS2 : upd H1 d (.dK (putK kvs (.inl (n : Int)) u)) S = some (.ins T.C dx (flds c d nt m)) := by rw [upd_ne nSd]; exact hS
  have ev : (if (n : Int) + 1 > (m.sz : Int) then (n : Int) + 1 else (m.sz : Int)) = ((max m.sz (n + 1) : Nat) : Int) := by
    split <;> omega
  refine ⟨_, rfl, S, T.C, dx, _, _, rfl, hS2, T.cl, T.n_stack_size, rfl, _, rfl, _, _, rfl, rfl, _, _, rfl, ?_⟩
  dsimp only
  rw [ev]
  exact ⟨_, rfl, S, T.C, dx, _, rfl, hS2, T.cl, T.n_stack_size, (by show 6 < 1000; decide), k _ _ ((Ks.of e1).trans k2) h2⟩
def spBind (K : PySem.W.Frag) (C : Addr) : Sp := fun vs H Q _ => ∃ S c d nt m v a u x, vs = [.ref S, v, u] ∧ Sto K C H S c d nt m ∧ AdAt K H v a ∧ (match a with | .h n => n < m.cs.length | .s n => n < m.sz) ∧ m.at a = some (.ref a) ∧ CAt K H u x ∧ CeOk x ∧ m.no.length + 1 ≤ 10000000 ∧ ∀ r H', Ks S c d nt H H' → Sto K C H' S c d nt (m.bind a x) → Q r H'
theorem ok_St_bind (T : Tx K mg) : FnOk P w K mg base CX0 9 T.f_St_bind T.d_St_bind ["self", "address", "cell"] (spBind K T.C) := by
  refine T.h_St_bind.F.ok sc_St_bind (fun vs H Q E h => ?_) (fun cdv A outer s H vs Q E hr h => ?_)
  · obtain ⟨v, d, _, _, _, _, _, _, _, rfl, _⟩ := h
    rfl
  obtain ⟨S, c, d, nt, m, v, a, u, x, rfl, h, ha, hn, hat, hx, xo, hl, k⟩ := h
  have hu := hr.units
  refine ⟨_, (pss_cons (ps_expr (pe_meth (pv 0) T.cl T.h_St_demand_place.m (ok_St_demand_place T) (hr.mono (by first | decide | omega)) T.h_St_demand_place.b .nil pass0 (pa_cons (pv 1) pa_nil)))
    (pss_cons (ps_if (pt_cmpR (op_neD hu) (pe_meth (pv 0) T.cl T.h_St_look.m (ok_St_look T) (hr.mono (by first | decide | omega)) T.h_St_look.b .nil pass0 (pa_cons (pv 1) pa_nil)) (pe_tup (pa_cons pe_str (pa_cons (pv 1) pa_nil))) (nomark _))
      (pss_one ps_never)
      pss_nil)
    (pss_cons (ps_expr (cl (ok_demand_cell T) T.h_demand_cell hr (pa_cons (pv 2) pa_nil)))
    (pss_one (ps_expr (pe_meth (pv 0) T.cl T.h_St_assign.m (ok_St_assign T) (hr.mono (by first | decide | omega)) T.h_St_assign.b .nil pass0 (pa_cons (pv 1) (pa_cons (pv 2) pa_nil)))))))), ?_⟩
  obtain ⟨dx, hS⟩ := h.ins
  refine ⟨_, rfl, S, dx, _, rfl, hS, rfl, _, rfl, S, c, d, nt, m, v, a, rfl, h, ha, hn, fun _ H1 e1 => ?_⟩
  refine ⟨_, rfl, S, dx, _, rfl, e1 _ _ hS, rfl, _, rfl, S, c, d, nt, m, v, a, _, rfl, h.ex e1, ha.tups (.of e1), hat, fun u2 hu2 => ?_⟩
  refine ⟨_, rfl, Nat.le_of_ble_eq_true rfl, fun p hp => ?_⟩
  have e2 := Ex.new (o := HO.tup [V.str "ref", v]) hp
  have e12 := e1.trans e2
  refine ⟨_, _, dp_ce (hu2.tups (.of e2)), dp_ce (c := .ref a) ⟨p, v, rfl, .of upd_same, ha.tups (.of e12)⟩, shaped_ce (c := .ref a) trivial, shaped_ce (c := .ref a) trivial, false, (by rw [eqv_ce, decide_eq_true rfl]; rfl), iteF ?_⟩
  refine ⟨_, rfl, u, x, rfl, hx.tups (.of e12), xo, fun _ H3 e3 => ?_⟩
  have e := e12.trans e3
  refine ⟨_, rfl, S, dx, _, rfl, e _ _ hS, rfl, _, rfl, _, rfl, S, c, d, nt, m, v, a, u, x, rfl, h.ex e, ha.tups (.of e), ?_, hx.tups (.of e), xo, hl, fun r H' k1 h1 => k _ _ ((Ks.of e).trans k1) h1⟩
  cases a with
  | h n => exact hn
  | s n =>
    show (m.sl n).isSome = true
    have z : m.sl n = some (.ref (.s n)) := hat
    rw [z]
    rfl
end
end Hm

set_option Elab.async false
set_option linter.all false
set_option maxRecDepth 100000
set_option maxHeartbeats 1000000
/-! facts about dicts with nested keys -/
namespace Hm
open PySem PySem.Spec PyProof.Rows L2
section
variable {K : PySem.W.Frag} {H H' : Hp}
mutual
theorem KRep.mono (e : Tups K H H') : ∀ {k : DK} {v : V}, KRep K H k v → KRep K H' k v
  | .leaf (.inl i), v, h => by
    unfold KRep at h ⊢
    exact h
  | .leaf (.inr i), v, h => by
    unfold KRep at h ⊢
    exact h
  | .tup ks, v, h => by
    unfold KRep at h ⊢
    obtain ⟨a, vs, e1, h1, h2⟩ := h
    exact ⟨a, vs, e1, e _ _ h1, KReps.mono e h2⟩
theorem KReps.mono (e : Tups K H H') : ∀ {ks : List DK} {vs : List V}, KReps K H ks vs → KReps K H' ks vs
  | [], vs, h => by
    unfold KReps at h ⊢
    exact h
  | k :: ks, vs, h => by
    unfold KReps at h ⊢
    obtain ⟨v, ws, e1, h1, h2⟩ := h
    exact ⟨v, ws, e1, KRep.mono e h1, KReps.mono e h2⟩
end
theorem KeysOk.mono (e : Tups K H H') {kvs : List NKV} (h : KeysOk K H kvs) : KeysOk K H' kvs := fun x hx => ⟨(h x hx).1.mono e, (h x hx).2⟩
theorem KeysOk.nil : KeysOk K H [] := fun x hx => by cases hx
theorem KeysOk.put {kvs : List NKV} {k : DK} {a : Addr} {v : V} (h : KeysOk K H kvs) (hk : KRep K H k (.ref a)) (ho : KOk k) : KeysOk K H (putN kvs k a v) := fun x hx => by
  unfold putN at hx
  split at hx
  · obtain ⟨y, hy, e⟩ := List.mem_map.mp hx
    split at e
    · subst e
      exact h y hy
    · subst e
      exact h y hy
  · rcases List.mem_append.mp hx with hx | hx
    · exact h x hx
    · rw [List.mem_singleton.mp hx]
      exact ⟨hk, ho⟩
end
theorem valN_nil {k : DK} : valN [] k = none := rfl
theorem valN_pos {e : NKV} {r : List NKV} {k : DK} (h : e.1 = k) : valN (e :: r) k = some e.2.2 := by simp [valN, List.find?_cons, h]
theorem valN_neg {e : NKV} {r : List NKV} {k : DK} (h : ¬ e.1 = k) : valN (e :: r) k = valN r k := by simp [valN, List.find?_cons, h]
theorem valN_app {k : DK} : ∀ (a b : List NKV), valN (a ++ b) k = (valN a k).or (valN b k)
  | [], b => by simp [valN_nil]
  | e :: a, b => by
    by_cases h : e.1 = k
    · rw [List.cons_append, valN_pos h, valN_pos h]
      rfl
    · rw [List.cons_append, valN_neg h, valN_neg h, valN_app a b]
theorem valN_repl {k j : DK} {v : V} : ∀ {kvs : List NKV}, valN (kvs.map fun e => if e.1 = k then (e.1, e.2.1, v) else e) j = if j = k then (if (valN kvs k).isSome = true then some v else none) else valN kvs j
  | [] => by
    simp [valN_nil]
  | e :: r => by
    have ih := valN_repl (k := k) (j := j) (v := v) (kvs := r)
    rw [List.map_cons]
    by_cases h : e.1 = k
    · rw [if_pos h]
      by_cases hj : j = k
      · subst hj
        rw [if_pos rfl, valN_pos (e := (e.1, e.2.1, v)) h, valN_pos h]
        rfl
      · rw [if_neg hj] at ih ⊢
        have h2 : ¬ e.1 = j := fun z => hj (z.symm.trans h)
        rw [valN_neg (e := (e.1, e.2.1, v)) h2, valN_neg h2, ih]
    · rw [if_neg h]
      by_cases hj : j = k
      · subst hj
        rw [valN_neg h, valN_neg h, ih]
      · rw [if_neg hj] at ih ⊢
        by_cases h2 : e.1 = j
        · rw [valN_pos h2, valN_pos h2]
        · rw [valN_neg h2, valN_neg h2, ih]
/-- what a store leaves to be found -/
theorem valN_put {kvs : List NKV} {k j : DK} {a : Addr} {v : V} : valN (putN kvs k a v) j = if j = k then some v else valN kvs j := by
  unfold putN
  by_cases h : (valN kvs k).isSome = true
  · rw [if_pos h, valN_repl, if_pos h]
  · rw [if_neg h, valN_app]
    by_cases hj : j = k
    · subst hj
      rw [if_pos rfl]
      cases e : valN kvs j with
      | none => rw [valN_pos (e := (j, a, v)) rfl]; rfl
      | some u => rw [e] at h; exact absurd rfl h
    · rw [if_neg hj, valN_neg (e := (k, a, v)) (fun z => hj z.symm), valN_nil]
      cases valN kvs j <;> rfl
theorem putN_new {kvs : List NKV} {k : DK} {a : Addr} {v : V} (h : valN kvs k = none) : putN kvs k a v = kvs ++ [(k, a, v)] := by
  unfold putN
  rw [h]
  rfl
/-- a dict with nested keys is none of the other things -/
theorem dn_ne {P : Program} {w : World} {d b : Addr} {kvs : List NKV} {H : Hp} {o : HO} (h : H d = some (DN P w d kvs)) (hb : H b = some o) (no : ∀ φ, o ≠ .ext φ) : b ≠ d := fun z => by
  subst z
  rw [h] at hb
  exact no _ (Option.some.inj hb).symm
end Hm

set_option Elab.async false
set_option linter.all false
set_option maxRecDepth 100000
set_option maxHeartbeats 1000000
namespace Hm
open PySem PySem.Spec PyProof.Rows L2 HT
open Evl (Ex)
/-! ### keys of what was seen -/
def kS (n : Nat) : DK := .tup [.leaf (.inr "str"), .tup [.leaf (.inr "h"), .leaf (.inl (n : Int))]]
theorem kS_inj {a b : Nat} (h : kS a = kS b) : a = b := by
  unfold kS at h
  simp at h
  exact Int.ofNat.inj h
def kP (q : Nat × Nat) : DK := .tup [kS q.1, kS q.2]
theorem kP_inj {a b : Nat × Nat} (h : kP a = kP b) : a = b := by
  unfold kP at h
  simp at h
  exact Prod.ext (kS_inj h.1) (kS_inj h.2)
theorem kS_pd (n : Nat) : DK.pd (kS n) = (Ce.str n).pd := rfl
theorem kok_S (n : Nat) : KOk (kS n) := ⟨Nat.le_of_ble_eq_true rfl, by rw [kS_pd]; exact lay_ce (c := .str n) trivial⟩
theorem kok_P (q : Nat × Nat) : KOk (kP q) := ⟨Nat.le_of_ble_eq_true rfl, by
  show ((DK.pd (kS q.1)).canLay0 && ((DK.pd (kS q.2)).canLay0 && true)) = true
  rw [(kok_S _).2, (kok_S _).2]
  rfl⟩
theorem none_of_upd {H : Hp} {d b : Addr} {o : HO} (h : upd H d o b = none) : H b = none ∧ d ≠ b := by
  have n : b ≠ d := fun z => by
    subst z
    rw [upd_same] at h
    cases h
  exact ⟨by rw [upd_ne n] at h; exact h, n.symm⟩
section
variable {P : Program} {w : World} {K : PySem.W.Frag} {mg : Str → Option Value} {base : Heap}
theorem krep_S {H : Hp} {v : V} {n : Nat} (h : CAt K H v (.str n)) : KRep K H (kS n) v := by
  obtain ⟨p, u, rfl, h1, q, rfl, h2⟩ := h
  unfold kS KRep
  refine ⟨p, _, rfl, h1, ?_⟩
  unfold KReps
  refine ⟨_, _, rfl, by unfold KRep; rfl, ?_⟩
  unfold KReps
  refine ⟨_, _, rfl, ?_, by unfold KReps; rfl⟩
  unfold KRep
  refine ⟨q, _, rfl, h2, ?_⟩
  unfold KReps
  refine ⟨_, _, rfl, by unfold KRep; rfl, ?_⟩
  unfold KReps
  exact ⟨_, _, rfl, by unfold KRep; rfl, by unfold KReps; rfl⟩
theorem krep_P {H : Hp} {p : Addr} {a b : V} {q : Nat × Nat} (h : SqT K H p [a, b]) (ha : CAt K H a (.str q.1)) (hb : CAt K H b (.str q.2)) : KRep K H (kP q) (.ref p) := by
  unfold kP KRep
  refine ⟨p, _, rfl, h, ?_⟩
  unfold KReps
  refine ⟨_, _, rfl, krep_S ha, ?_⟩
  unfold KReps
  exact ⟨_, _, rfl, krep_S hb, by unfold KReps; rfl⟩
theorem Tups.dn {H : Hp} {d : Addr} {kvs : List NKV} {o : HO} (h : H d = some (DN P w d kvs)) : Tups K H (upd H d o) := fun a ys q => by
  have ne : ∀ {u : HO}, H a = some u → (∀ φ, u ≠ .ext φ) → a ≠ d := fun e no z => by
    subst z
    rw [h] at e
    exact no _ (Option.some.inj e).symm
  rcases q with (q | ⟨o', q⟩) | q
  · exact .inl (.inl (by rw [upd_ne (ne q (fun φ z => by cases z))]; exact q))
  · exact .inl (.inr ⟨o', by rw [upd_ne (ne q (fun φ z => by cases z))]; exact q⟩)
  · exact .inr q
/-- the dict of what was seen -/
def Seen (P : Program) (w : World) (K : PySem.W.Frag) (H : Hp) (d : Addr) (ks : List DK) : Prop := ∃ kvs, H d = some (DN P w d kvs) ∧ KeysOk K H kvs ∧ kvs.length ≤ ks.length ∧ ∀ k, (valN kvs k).isSome = decide (k ∈ ks)
theorem Seen.new {H : Hp} {d : Addr} (h : H d = some (DN P w d [])) : Seen P w K H d [] := ⟨[], h, .nil, Nat.le_refl _, fun k => by simp [valN_nil]⟩
theorem Seen.keep {H H' : Hp} {d : Addr} {ks : List DK} (h : Seen P w K H d ks) (t : Tups K H H') (e : H' d = H d) : Seen P w K H' d ks := by
  obtain ⟨kvs, h1, h2, h3, h4⟩ := h
  exact ⟨kvs, by rw [e]; exact h1, h2.mono t, h3, h4⟩
theorem Seen.ex {H H' : Hp} {d : Addr} {ks : List DK} (h : Seen P w K H d ks) (e : Ex H H') : Seen P w K H' d ks := by
  obtain ⟨kvs, h1, h2, h3, h4⟩ := h
  exact ⟨kvs, e _ _ h1, h2.mono (.of e), h3, h4⟩
theorem Seen.put {H : Hp} {d a : Addr} {ks : List DK} {kvs : List NKV} {k : DK} {v : V} (h1 : H d = some (DN P w d kvs)) (h2 : KeysOk K H kvs) (h3 : kvs.length ≤ ks.length) (h4 : ∀ k, (valN kvs k).isSome = decide (k ∈ ks)) (hk : KRep K H k (.ref a)) (ho : KOk k) : Seen P w K (upd H d (DN P w d (putN kvs k a v))) d (k :: ks) :=
  ⟨_, upd_same, (h2.put hk ho).mono (.dn h1), by have := putN_len kvs k a v; simp; omega, fun j => by
    rw [valN_put]
    by_cases e : j = k
    · subst e
      simp
    · rw [if_neg e, h4 j]
      simp [e]⟩
theorem CAll.snoc_inv {H : Hp} {c : Ce} : ∀ {ws : List Ce} {vs : List V}, CAll K H vs (ws ++ [c]) → ∃ vs' y, vs = vs' ++ [y] ∧ CAll K H vs' ws ∧ CAt K H y c := by
  intro ws
  induction ws with
  | nil =>
    intro vs h
    cases h with
    | cons h t =>
      cases t
      exact ⟨[], _, rfl, .nil, h⟩
  | cons w ws ih =>
    intro vs h
    cases h with
    | cons h t =>
      obtain ⟨vs', y, rfl, h1, h2⟩ := ih t
      exact ⟨_ :: vs', y, rfl, .cons h h1, h2⟩
theorem CAll.app {H : Hp} : ∀ {vs : List V} {cs : List Ce} {us : List V} {ds : List Ce}, CAll K H vs cs → CAll K H us ds → CAll K H (vs ++ us) (cs ++ ds) := by
  intro vs cs us ds h g
  induction h with
  | nil => exact g
  | cons h t ih => exact .cons h ih
/-- does a variable stand in what the cells of a row lead to? (the last of the row first) -/
inductive Oc (M : Mem) (a : Ad) : Nat → List Nat → List Ce → Bool → Prop where
  | nil {sn : List Nat} : Oc M a 0 sn [] false
  | hit {sn : List Nat} {k : Nat} {c : Ce} {W : List Ce} : Fol M k c (.ref a) → Oc M a 0 sn (c :: W) true
  | leaf {sn : List Nat} {k m : Nat} {c e : Ce} {W : List Ce} {r : Bool} : Fol M k c e → e ≠ .ref a → (∀ n, e ≠ .str n) → Oc M a m sn W r → Oc M a (m + 1) sn (c :: W) r
  | seen {sn : List Nat} {k m n : Nat} {c : Ce} {W : List Ce} {r : Bool} : Fol M k c (.str n) → n ∈ sn → Oc M a m sn W r → Oc M a (m + 1) sn (c :: W) r
  | push {sn : List Nat} {k m n j : Nat} {f : Str} {c : Ce} {W : List Ce} {r : Bool} : Fol M k c (.str n) → n ∉ sn → M.cs[n]? = some (.fn f j) → sn.length ≤ 10000000 → W.length + j ≤ 10000000 → Oc M a m (n :: sn) (((M.cs.drop (n + 1)).take j).reverse ++ W) r → Oc M a (m + 1) sn (c :: W) r
def Ce.isStr : Ce → Bool
  | .str _ => true
  | _ => false
theorem wd_str (c : Ce) : decide (V.str c.word = V.str "str") = c.isStr := by
  cases c <;> rfl
theorem nostr {c : Ce} (h : ∀ n, c ≠ .str n) : c.isStr = false := by
  cases c with
  | str n => exact absurd rfl (h n)
  | _ => rfl
/-- where the loop of occurs stands -/
def OcI (P : Program) (w : World) (K : PySem.W.Frag) (M : Mem) (n : Ad) (r : Bool) (H : Hp) (S d wl : Addr) (v : V) : Nat → L2.St → Hp → Prop := fun m σ H1 => ∃ sn Wk vs cv, σ = [some (.ref S), some v, cv, some (.ref d), some (.ref wl)] ∧ H1 wl = some (.lst vs) ∧ CAll K H1 vs Wk.reverse ∧ (∀ x ∈ Wk, CeOk x) ∧ Seen P w K H1 d (sn.map kS) ∧ Ex H H1 ∧ Oc M n m sn Wk r
theorem Oc.view {M : Mem} {n : Ad} {m : Nat} {sn : List Nat} {Wk : List Ce} {r : Bool} (h : Oc M n m sn Wk r) : (Wk = [] ∧ r = false) ∨ ∃ c0 W kf e, Wk = c0 :: W ∧ Fol M kf c0 e ∧ ((e = .ref n ∧ r = true) ∨ (e ≠ .ref n ∧ ∃ m', m' < m ∧
    (((∀ j, e ≠ .str j) ∧ Oc M n m' sn W r) ∨ ∃ j, e = .str j ∧ ((j ∈ sn ∧ Oc M n m' sn W r) ∨ (j ∉ sn ∧ ∃ f i, M.cs[j]? = some (.fn f i) ∧ sn.length ≤ 10000000 ∧ W.length + i ≤ 10000000 ∧ Oc M n m' (j :: sn) (((M.cs.drop (j + 1)).take i).reverse ++ W) r))))) := by
  cases h with
  | nil => exact .inl ⟨rfl, rfl⟩
  | hit h => exact .inr ⟨_, _, _, _, rfl, h, .inl ⟨rfl, rfl⟩⟩
  | leaf h1 h2 h3 h4 => exact .inr ⟨_, _, _, _, rfl, h1, .inr ⟨h2, _, Nat.lt_succ_self _, .inl ⟨h3, h4⟩⟩⟩
  | seen h1 h2 h3 => exact .inr ⟨_, _, _, _, rfl, h1, .inr ⟨(fun z => nomatch z), _, Nat.lt_succ_self _, .inr ⟨_, rfl, .inl ⟨h2, h3⟩⟩⟩⟩
  | push h1 h2 h3 h4 h5 h6 => exact .inr ⟨_, _, _, _, rfl, h1, .inr ⟨(fun z => nomatch z), _, Nat.lt_succ_self _, .inr ⟨_, rfl, .inr ⟨h2, _, _, h3, h4, h5, h6⟩⟩⟩⟩
def spOcc (K : PySem.W.Frag) (C : Addr) : Sp := fun vs H Q _ => ∃ S c d0 nt M v n u x m r, vs = [.ref S, v, u] ∧ Sto K C H S c d0 nt M ∧ AdAt K H v n ∧ CAt K H u x ∧ CeOk x ∧ Oc M n m [] [x] r ∧ ∀ H', Ex H H' → Q (.bl r) H'
theorem ok_St_occurs (T : Tx K mg) : FnOk P w K mg base CX0 5 T.f_St_occurs T.d_St_occurs ["self", "address", "cell"] (spOcc K T.C) := by
  refine T.h_St_occurs.F.ok sc_St_occurs (fun vs H Q E h => ?_) (fun cdv A outer s H vs Q E hr h => ?_)
  · obtain ⟨v, d, _, _, _, _, _, _, _, _, _, rfl, _⟩ := h
    rfl
  obtain ⟨S, c, d0, nt, M, v, n, u, x, m, r, rfl, h, ha, hx, xo, hoc, k⟩ := h
  have hu := hr.units
  have hu16 := Nat.lt_of_le_of_lt (Nat.add_le_add_left (show 16 ≤ 64 by decide) _) hr.units
  refine ⟨_, (pss_cons (ps_set (i := 3) sc_St_occurs.nd rfl (Or.inl rfl) pe_nnew)
    (pss_cons (ps_set (i := 4) sc_St_occurs.nd rfl (Or.inl rfl) (pe_lst (pa_cons (pv 2) pa_nil)))
    (pss_cons (ps_while PassesOwn.never (pt_truth (pv 4) (by intro _; rfl))
      (pss_cons (ps_set (i := 2) sc_St_occurs.nd rfl (Or.inl rfl) (pe_meth (pv 0) T.cl T.h_St_follow.m (ok_St_follow T) (hr.mono (by first | decide | omega)) T.h_St_follow.b .nil pass0 (pa_cons (pe_bm0 PySem.F.plainAttrs_list PySem.F.slot_list_pop PySem.F.type_list_pop mt_pop (pv 4)) pa_nil)))
    (pss_cons (ps_if (pt_cmpR (op_eqD hu) (pv 2) (pe_tup (pa_cons pe_str (pa_cons (pv 1) pa_nil))) (nomark _))
      (pss_one (ps_ret pe_bl))
      pss_nil)
    (pss_one (ps_if (PW.pt (pw_and (pt_cmpR op_eq (pe_ix ix_tup (pv 2) pe_int (fun _ _ => rfl)) pe_str (nomark _)) (pw_and1 (pt_cmp (pc_nnotin hu16 (pv 2) (pv 3))))))
      (pss_cons (ps_nput hu16 (pv 3) (pv 2) pe_bl rfl)
    (pss_one (ps_expr (pe_bm PySem.F.plainAttrs_list PySem.F.slot_list_extend PySem.F.type_list_extend mt_extend (pv 4) (pa_cons (pe_meth (pv 0) T.cl T.h_St_arguments.m (ok_St_arguments T) (hr.mono (by first | decide | omega)) T.h_St_arguments.b .nil pass0 (pa_cons (pv 2) pa_nil)) pa_nil)))))
      pss_nil)))))
    (pss_one (ps_ret pe_bl))))), ?_⟩
  obtain ⟨dx, hS⟩ := h.ins
  intro d hd
  refine ⟨_, rfl, Nat.le_of_ble_eq_true rfl, fun wl hwl => ?_⟩
  obtain ⟨hwl0, nwd⟩ := none_of_upd hwl
  have e0 : Ex H (upd (upd H d (DN P w d [])) wl (.lst [u])) := (Ex.new hd).trans (Ex.new hwl)
  refine ⟨OcI P w K M n r H S d wl v,
    ⟨m, [], [x], [u], _, rfl, upd_same, ?_, ?_, ?_, e0, hoc⟩, ?_⟩
  · show CAll K (upd (upd H d (DN P w d [])) wl (.lst [u])) [u] [x]
    exact .cons (hx.tups (.of e0)) .nil
  · intro y hy
    cases List.mem_singleton.1 hy
    exact xo
  · exact .new (by rw [upd_ne nwd, upd_same]; rfl)
  rintro m σ H1 ⟨sn, Wk, vs, cv, rfl, hW, hv, wo, hs, e1, ho⟩
  have hS1 := e1 _ _ hS
  have ha1 := ha.tups (.of e1)
  rcases ho.view with ⟨rfl, rfl⟩ | ⟨c0, W, kf, e, rfl, hf, hrest⟩
  · cases hv
    exact ⟨_, rfl, false, .inl ⟨_, .of hW, rfl⟩, iteF (k _ e1)⟩
  rw [List.reverse_cons] at hv
  obtain ⟨vs', y, rfl, hv', hy⟩ := hv.snoc_inv
  have ok0 := wo _ (List.mem_cons_self ..)
  have okW : ∀ x ∈ W, CeOk x := fun x hx => wo x (List.mem_cons_of_mem _ hx)
  have e2 : Ex H (upd H1 wl (.lst vs')) := e1.mut hwl0
  have t2 : Tups K H1 (upd H1 wl (.lst vs')) := .lst hW
  have w2 : upd H1 wl (.lst vs') wl = some (.lst vs') := upd_same
  have hv2 := hv'.tups t2
  have hy2 := hy.tups t2
  have hs2 : Seen P w K (upd H1 wl (.lst vs')) d (sn.map kS) := hs.keep t2 (upd_ne nwd)
  have lastv : (vs' ++ [y])[(vs' ++ [y]).length - 1]? = some y := by simp
  refine ⟨_, rfl, true, .inl ⟨_, .of hW, by simp⟩, iteT ⟨fun σ' H' => ∃ m', m' < m ∧ OcI P w K M n r H S d wl v m' σ' H', fun _ _ q => q, ?_⟩⟩
  refine ⟨_, rfl, S, dx, _, rfl, hS1, rfl, _, rfl, .inl ⟨rfl, _, .of hW⟩, wl, _, y, rfl, rfl, hW, lastv, ?_⟩
  rw [List.dropLast_concat]
  generalize upd H1 wl (.lst vs') = H2 at *
  refine ⟨S, c, d0, nt, M, y, c0, e, kf, rfl, h.ex e2, hy2, ok0, hf, fun u2 hu2 => ?_⟩
  have eok := hf.ok h ok0
  have ha2 := ha.tups (.of e2)
  refine ⟨_, rfl, _, rfl, Nat.le_of_ble_eq_true rfl, fun t ht => ?_⟩
  have e3 := Ex.new (o := HO.tup [V.str "ref", v]) ht
  have hr3 : CAt K (upd H2 t (.tup [.str "ref", v])) (.ref t) (.ref n) := ⟨t, v, rfl, .of upd_same, ha2.tups (.of e3)⟩
  have hu3 := hu2.tups (K := K) (.of e3)
  have w3 := e3 _ _ w2
  have hv3 := hv2.tups (.of e3)
  have nwd3 : d ≠ t := by
    obtain ⟨kvs, q, _⟩ := hs2
    exact ne_of_none q ht
  have hs3 := hs2.keep (.of e3) (upd_ne nwd3)
  have e23 := e2.trans e3
  refine ⟨_, _, dp_ce hu3, dp_ce hr3, shaped_ce eok, shaped_ce (c := .ref n) trivial, decide (e = .ref n), (by rw [eqv_ce]), ?_⟩
  rcases hrest with ⟨he, rfl⟩ | ⟨he, m', hm, hrest⟩
  · rw [decide_eq_true he]
    exact iteT (k _ e23)
  rw [decide_eq_false he]
  refine iteF ?_
  generalize upd H2 t (.tup [.str "ref", v]) = H3 at *
  obtain ⟨p, tl, rfl, hp⟩ := cat_word hu3
  refine ⟨_, rfl, p, _, 0, _, rfl, rfl, hp, at0, rfl, e.isStr, (by rw [wd_str]), ?_⟩
  rcases hrest with ⟨ns, hO⟩ | ⟨j, rfl, hrest⟩
  · rw [nostr ns]
    exact iteF (iteF ⟨m', hm, sn, W, vs', _, rfl, w3, hv3, okW, hs3, e23, hO⟩)
  refine iteT ?_
  obtain ⟨kvs, d1, d2, d3, d4⟩ := id hs3
  refine ⟨_, rfl, _, rfl, d, p, kvs, kS j, ⟨rfl, rfl, d1, d2, krep_S hu3, kok_S j⟩, ?_⟩
  have key : (valN kvs (kS j)).isSome = decide (j ∈ sn) := by
    rw [d4]
    by_cases hj : j ∈ sn
    · rw [decide_eq_true hj, decide_eq_true (List.mem_map_of_mem hj)]
    · rw [decide_eq_false hj, decide_eq_false]
      intro z
      obtain ⟨i, hi, ei⟩ := List.mem_map.1 z
      exact hj (kS_inj ei ▸ hi)
  rcases hrest with ⟨hj, hO⟩ | ⟨hj, f, i, hat, l1, l2, hO⟩
  · exact ⟨false, (by rw [key, decide_eq_true hj]; rfl), iteF ⟨m', hm, sn, W, vs', _, rfl, w3, hv3, okW, hs3, e23, hO⟩⟩
  refine ⟨true, (by rw [key, decide_eq_false hj]; rfl), iteT ?_⟩
  have lk : kvs.length < sizeLine := by
    rw [List.length_map] at d3
    exact szl (by omega)
  refine ⟨_, rfl, _, rfl, d, p, kvs, kS j, ⟨rfl, rfl, d1, d2, krep_S hu3, kok_S j⟩, lk, ?_⟩
  have hs4 := Seen.put (v := .bl true) d1 d2 d3 d4 (krep_S hu3) (kok_S j)
  have t4 : Tups K H3 (upd H3 d (DN P w d (putN kvs (kS j) p (.bl true)))) := .dn d1
  have e4 : Ex H (upd H3 d (DN P w d (putN kvs (kS j) p (.bl true)))) := e23.mut hd
  have w4 : upd H3 d (DN P w d (putN kvs (kS j) p (.bl true))) wl = some (.lst vs') := by
    rw [upd_ne nwd.symm]
    exact w3
  have hu4 := hu3.tups t4
  have hv4 := hv3.tups t4
  refine ⟨_, rfl, .inl ⟨rfl, _, .of w4⟩, _, rfl, S, dx, _, rfl, e4 _ _ hS, rfl, _, rfl, S, c, d0, nt, M, .ref p, j, f, i, rfl, h.ex e4, hu4, hat, fun p2 H5 us hp2 e5 q5 hus => ?_⟩
  have w5 := e5 _ _ w4
  have lv : vs'.length = W.length := by
    rw [hv4.length, List.length_reverse]
  have lu : us.length ≤ i := by
    rw [hus.length, List.length_take]
    omega
  refine ⟨wl, p2, vs', us, rfl, rfl, w5, q5, Nat.le_of_lt (szl (by omega)), ?_⟩
  refine ⟨m', hm, j :: sn, _, vs' ++ us, _, rfl, upd_same, ?_, ?_, (hs4.ex e5).keep (.lst w5) (upd_ne nwd), (e4.trans e5).mut hwl0, hO⟩
  · rw [List.reverse_append, List.reverse_reverse]
    exact ((hv4.tups (.of e5)).app hus).tups (.lst w5)
  · intro z hz
    rcases List.mem_append.1 hz with hz | hz
    · exact h.ok _ (List.mem_of_mem_drop (List.mem_of_mem_take (List.mem_reverse.1 hz)))
    · exact okW z hz
end
end Hm

set_option Elab.async false
set_option linter.all false
set_option maxRecDepth 100000
set_option maxHeartbeats 1000000
namespace Hm
open PySem PySem.Spec PyProof.Rows L2 HT
open Evl (Ex)
def Ce.isRef : Ce → Bool
  | .ref _ => true
  | _ => false
theorem wd_isref (c : Ce) : decide (V.str c.word = V.str "ref") = c.isRef := by
  cases c <;> rfl
section
variable {P : Program} {w : World} {K : PySem.W.Frag} {mg : Str → Option Value} {base : Heap}
theorem paired_snoc_inv {α β : Type} {R : α → β → Prop} {c : β} : ∀ {ws : List β} {vs : List α}, PySem.Paired R vs (ws ++ [c]) → ∃ vs' y, vs = vs' ++ [y] ∧ PySem.Paired R vs' ws ∧ R y c := by
  intro ws
  induction ws with
  | nil =>
    intro vs h
    cases h with
    | cons h t =>
      cases t
      exact ⟨[], _, rfl, .nil, h⟩
  | cons w ws ih =>
    intro vs h
    cases h with
    | cons h t =>
      obtain ⟨vs', y, rfl, h1, h2⟩ := ih t
      exact ⟨_ :: vs', y, rfl, .cons h h1, h2⟩
theorem paired_app {α β : Type} {R : α → β → Prop} {vs us : List α} {cs ds : List β} (h : PySem.Paired R vs cs) (g : PySem.Paired R us ds) : PySem.Paired R (vs ++ us) (cs ++ ds) := by
  induction h with
  | nil => exact g
  | cons h t ih => exact .cons h ih
theorem paired_rev {α β : Type} {R : α → β → Prop} {vs : List α} {cs : List β} (h : PySem.Paired R vs cs) : PySem.Paired R vs.reverse cs.reverse := by
  induction h with
  | nil => exact .nil
  | cons h t ih =>
    rw [List.reverse_cons, List.reverse_cons]
    exact paired_app ih (.cons h .nil)
theorem Ks.mut {S c d nt b : Addr} {H H' : Hp} {o : HO} (k : Ks S c d nt H H') (h : H b = none) : Ks S c d nt H (L2.upd H' b o) := fun x u n1 n2 n3 n4 e => by
  rw [upd_ne (ne_of_none e h)]
  exact k x u n1 n2 n3 n4 e
theorem Sto.side {C S c d nt b : Addr} {H : Hp} {m : Mem} {o : HO} (h : Sto K C H S c d nt m) (n1 : S ≠ b) (n2 : c ≠ b) (n3 : d ≠ b) (n4 : nt ≠ b) (t : Tups K H (upd H b o)) : Sto K C (upd H b o) S c d nt m := by
  obtain ⟨⟨dx, h1⟩, ⟨vs, h2, g2⟩, ⟨kvs, h3, g3, l3⟩, ⟨us, h4, g4⟩, h5, h6, h7⟩ := h
  exact ⟨⟨dx, by rw [upd_ne n1]; exact h1⟩, ⟨vs, by rw [upd_ne n2]; exact h2, g2.tups t⟩, ⟨kvs, by rw [upd_ne n3]; exact h3, g3.tups t, l3⟩, ⟨us, by rw [upd_ne n4]; exact h4, g4.tups t⟩, h5, h6, h7⟩
end
end Hm

set_option Elab.async false
set_option linter.all false
set_option maxRecDepth 100000
set_option maxHeartbeats 1000000
namespace Hm
open PySem
/-! ### writing a term: plain -/
structure BS where
  cs : List Ce
  nm : Int → Option Ce
  n : Nat
  last : Nat
  wt : List Tm
def wVar (b : BS) (k : Int) : BS := match b.nm k with
  | some c => { b with cs := b.cs ++ [c] }
  | none => { b with cs := b.cs ++ [.ref (.h b.cs.length)], nm := fun j => if j = k then some (.ref (.h b.cs.length)) else b.nm j, n := b.n + 1 }
theorem wVar_is (b : BS) (k : Int) : (∃ c, b.nm k = some c ∧ wVar b k = { b with cs := b.cs ++ [c] }) ∨ (b.nm k = none ∧ wVar b k = { b with cs := b.cs ++ [.ref (.h b.cs.length)], nm := fun j => if j = k then some (.ref (.h b.cs.length)) else b.nm j, n := b.n + 1 }) := by
  unfold wVar
  cases h : b.nm k with
  | some c => exact .inl ⟨c, rfl, rfl⟩
  | none => exact .inr ⟨rfl, rfl⟩
def wArg (b : BS) : Tm → BS
  | .comp f as => { b with cs := b.cs ++ [.str b.last], last := b.last + (as.length + 1), wt := b.wt ++ [.comp f as] }
  | .var k => wVar b k
  | .atom a => { b with cs := b.cs ++ [.con a] }
  | .int i => { b with cs := b.cs ++ [.num i] }
def wComp (b : BS) : Tm → BS
  | .comp f as => as.foldl wArg { b with cs := b.cs ++ [.fn f as.length] }
  | _ => b
inductive Wr : Nat → Nat → BS → BS → Prop where
  | done {i : Nat} {b : BS} : i = b.wt.length → Wr 0 i b b
  | step {m i : Nat} {b b' : BS} {t : Tm} : b.wt[i]? = some t → Wr m (i + 1) (wComp b t) b' → Wr (m + 1) i b b'
def isC : Tm → Bool
  | .comp _ _ => true
  | _ => false
/-! what grows -/
structure BLe (b b' : BS) : Prop where
  cs : ∃ x, b'.cs = b.cs ++ x
  n : b.n ≤ b'.n
  wt : b.wt.length ≤ b'.wt.length
  last : b.last ≤ b'.last
theorem BLe.refl (b : BS) : BLe b b := ⟨⟨[], (List.append_nil _).symm⟩, Nat.le_refl _, Nat.le_refl _, Nat.le_refl _⟩
theorem BLe.trans {a b c : BS} (h : BLe a b) (g : BLe b c) : BLe a c := by
  obtain ⟨⟨x, hx⟩, h2, h3, h4⟩ := h
  obtain ⟨⟨y, hy⟩, g2, g3, g4⟩ := g
  exact ⟨⟨x ++ y, by rw [hy, hx, List.append_assoc]⟩, Nat.le_trans h2 g2, Nat.le_trans h3 g3, Nat.le_trans h4 g4⟩
theorem BLe.len {b b' : BS} (h : BLe b b') : b.cs.length ≤ b'.cs.length := by
  obtain ⟨x, hx⟩ := h.cs
  rw [hx, List.length_append]
  omega
theorem wArg_le (b : BS) (t : Tm) : BLe b (wArg b t) := by
  cases t with
  | comp f as => exact ⟨⟨_, rfl⟩, Nat.le_refl _, by simp [wArg], by simp [wArg]⟩
  | atom a => exact ⟨⟨[.con a], rfl⟩, Nat.le_refl b.n, Nat.le_refl b.wt.length, Nat.le_refl b.last⟩
  | int a => exact ⟨⟨[.num a], rfl⟩, Nat.le_refl b.n, Nat.le_refl b.wt.length, Nat.le_refl b.last⟩
  | var k =>
    show BLe b (wVar b k)
    rcases wVar_is b k with ⟨c, _, e⟩ | ⟨_, e⟩
    · rw [e]
      exact ⟨⟨[c], rfl⟩, Nat.le_refl b.n, Nat.le_refl b.wt.length, Nat.le_refl b.last⟩
    · rw [e]
      exact ⟨⟨_, rfl⟩, Nat.le_succ b.n, Nat.le_refl b.wt.length, Nat.le_refl b.last⟩
theorem wFold_le : ∀ (as : List Tm) (b : BS), BLe b (as.foldl wArg b)
  | [], b => .refl b
  | t :: as, b => (wArg_le b t).trans (wFold_le as (wArg b t))
theorem wComp_le (b : BS) (t : Tm) : BLe b (wComp b t) := by
  cases t with
  | comp f as =>
    have h : BLe b { b with cs := b.cs ++ [.fn f as.length] } := ⟨⟨_, rfl⟩, Nat.le_refl _, Nat.le_refl _, Nat.le_refl _⟩
    exact h.trans (wFold_le as _)
  | atom a => exact .refl b
  | int a => exact .refl b
  | var k => exact .refl b
theorem Wr.le {m i : Nat} {b b' : BS} (h : Wr m i b b') : BLe b b' := by
  induction h with
  | done _ => exact .refl _
  | step _ _ ih => exact (wComp_le _ _).trans ih
/-! how much grows -/
mutual
def nc : Tm → Nat
  | .comp _ as => 1 + ncs as
  | _ => 0
def ncs : List Tm → Nat
  | [] => 0
  | t :: ts => nc t + ncs ts
end
mutual
def csz : Tm → Nat
  | .comp _ as => 1 + as.length + cszs as
  | _ => 0
def cszs : List Tm → Nat
  | [] => 0
  | t :: ts => csz t + cszs ts
end
theorem ncs_cons (t : Tm) (ts : List Tm) : ncs (t :: ts) = nc t + ncs ts := by rw [ncs]
theorem cszs_cons (t : Tm) (ts : List Tm) : cszs (t :: ts) = csz t + cszs ts := by rw [cszs]
theorem ncs_app : ∀ xs ys : List Tm, ncs (xs ++ ys) = ncs xs + ncs ys
  | [], ys => by simp [ncs]
  | x :: xs, ys => by
    rw [List.cons_append, ncs_cons, ncs_cons, ncs_app xs ys]
    omega
theorem cszs_app : ∀ xs ys : List Tm, cszs (xs ++ ys) = cszs xs + cszs ys
  | [], ys => by simp [cszs]
  | x :: xs, ys => by
    rw [List.cons_append, cszs_cons, cszs_cons, cszs_app xs ys]
    omega
theorem ncs_fil : ∀ xs : List Tm, ncs (xs.filter isC) = ncs xs
  | [] => rfl
  | x :: xs => by
    cases x with
    | comp f as =>
      rw [List.filter_cons_of_pos rfl, ncs_cons, ncs_cons, ncs_fil xs]
    | var k =>
      rw [List.filter_cons_of_neg (by simp [isC]), ncs_cons, ncs_fil xs]
      simp [nc]
    | atom k =>
      rw [List.filter_cons_of_neg (by simp [isC]), ncs_cons, ncs_fil xs]
      simp [nc]
    | int k =>
      rw [List.filter_cons_of_neg (by simp [isC]), ncs_cons, ncs_fil xs]
      simp [nc]
theorem cszs_fil : ∀ xs : List Tm, cszs (xs.filter isC) = cszs xs
  | [] => rfl
  | x :: xs => by
    cases x with
    | comp f as =>
      rw [List.filter_cons_of_pos rfl, cszs_cons, cszs_cons, cszs_fil xs]
    | var k =>
      rw [List.filter_cons_of_neg (by simp [isC]), cszs_cons, cszs_fil xs]
      simp [csz]
    | atom k =>
      rw [List.filter_cons_of_neg (by simp [isC]), cszs_cons, cszs_fil xs]
      simp [csz]
    | int k =>
      rw [List.filter_cons_of_neg (by simp [isC]), cszs_cons, cszs_fil xs]
      simp [csz]
structure FoldIs (b : BS) (as : List Tm) (b' : BS) : Prop where
  wt : b'.wt = b.wt ++ as.filter isC
  len : b'.cs.length = b.cs.length + as.length
  n : b'.n ≤ b.n + as.length
theorem fold_is : ∀ (as : List Tm) (b : BS), FoldIs b as (as.foldl wArg b)
  | [], b => ⟨by simp, rfl, Nat.le_refl _⟩
  | t :: as, b => by
    have h := fold_is as (wArg b t)
    rw [List.foldl_cons]
    have e : (wArg b t).wt = b.wt ++ [t].filter isC ∧ (wArg b t).cs.length = b.cs.length + 1 ∧ (wArg b t).n ≤ b.n + 1 := by
      cases t with
      | comp f as => exact ⟨rfl, by simp [wArg], by simp [wArg]⟩
      | atom a => exact ⟨by simp [wArg, isC], by simp [wArg], by simp [wArg]⟩
      | int a => exact ⟨by simp [wArg, isC], by simp [wArg], by simp [wArg]⟩
      | var k =>
        show (wVar b k).wt = _ ∧ (wVar b k).cs.length = _ ∧ (wVar b k).n ≤ _
        rcases wVar_is b k with ⟨c, _, e⟩ | ⟨_, e⟩
        · rw [e]
          exact ⟨by simp [isC], by simp, by simp⟩
        · rw [e]
          exact ⟨by simp [isC], by simp, by simp⟩
    refine ⟨?_, ?_, ?_⟩
    · rw [h.wt, e.1, List.append_assoc, ← List.filter_append]
      rfl
    · rw [h.len, e.2.1, List.length_cons]
      omega
    · have := h.n
      have := e.2.2
      rw [List.length_cons]
      omega
theorem drop_at {α : Type} {l : List α} {i : Nat} {x : α} (h : l[i]? = some x) : l.drop i = x :: l.drop (i + 1) := by
  obtain ⟨h1, h2⟩ := List.getElem?_eq_some_iff.1 h
  rw [List.drop_eq_getElem_cons h1, h2]
/-- writing ends -/
theorem wr_ex : ∀ (μ i : Nat) (b : BS), i ≤ b.wt.length → ncs (b.wt.drop i) ≤ μ → (∀ t ∈ b.wt, isC t = true) →
    ∃ m b', Wr m i b b' ∧ b'.cs.length = b.cs.length + cszs (b.wt.drop i) ∧ b'.wt.length = i + ncs (b.wt.drop i) ∧ b'.n + b.cs.length ≤ b.n + b'.cs.length := by
  intro μ
  induction μ with
  | zero =>
    intro i b hi hm hc
    by_cases e : i = b.wt.length
    · subst e
      exact ⟨0, b, .done rfl, by simp [cszs], by simp [ncs], Nat.le_refl _⟩
    · have hl : i < b.wt.length := by omega
      have q := drop_at (List.getElem?_eq_getElem hl)
      have c := hc _ (List.getElem_mem hl)
      rw [q, ncs_cons] at hm
      cases hx : b.wt[i] with
      | comp f as =>
        rw [hx] at hm
        unfold nc at hm
        omega
      | var _ =>
        rw [hx] at c
        cases c
      | atom _ =>
        rw [hx] at c
        cases c
      | int _ =>
        rw [hx] at c
        cases c
  | succ μ ih =>
    intro i b hi hm hc
    by_cases e : i = b.wt.length
    · subst e
      exact ⟨0, b, .done rfl, by simp [cszs], by simp [ncs], Nat.le_refl _⟩
    · have hl : i < b.wt.length := by omega
      have hg := List.getElem?_eq_getElem hl
      have q := drop_at hg
      have c := hc _ (List.getElem_mem hl)
      cases hx : b.wt[i] with
      | comp f as =>
        rw [hx] at q hg
        have fi := fold_is as { b with cs := b.cs ++ [.fn f as.length] }
        have e1 : (wComp b (.comp f as)) = as.foldl wArg { b with cs := b.cs ++ [.fn f as.length] } := rfl
        rw [← e1] at fi
        have w1 : (wComp b (.comp f as)).wt = b.wt ++ as.filter isC := fi.wt
        have w2 : (wComp b (.comp f as)).cs.length = (b.cs ++ [Ce.fn f as.length]).length + as.length := fi.len
        have w3 : (wComp b (.comp f as)).n ≤ b.n + as.length := fi.n
        rw [List.length_append, List.length_singleton] at w2
        have dr : (wComp b (.comp f as)).wt.drop (i + 1) = b.wt.drop (i + 1) ++ as.filter isC := by
          rw [w1, List.drop_append_of_le_length (by omega)]
        rw [q, ncs_cons, nc] at hm
        obtain ⟨m, b', hw, h1, h2, h3⟩ := ih (i + 1) (wComp b (.comp f as)) (by rw [w1, List.length_append]; omega) (by rw [dr, ncs_app, ncs_fil]; omega) (fun t ht => by
          rw [w1] at ht
          rcases List.mem_append.1 ht with ht | ht
          · exact hc t ht
          · exact (List.mem_filter.1 ht).2)
        rw [dr, cszs_app, cszs_fil] at h1
        rw [dr, ncs_app, ncs_fil] at h2
        refine ⟨m + 1, b', .step hg hw, ?_, ?_, ?_⟩
        · rw [q, cszs_cons, csz]
          omega
        · rw [q, ncs_cons, nc]
          omega
        · omega
      | var _ =>
        rw [hx] at c
        cases c
      | atom _ =>
        rw [hx] at c
        cases c
      | int _ =>
        rw [hx] at c
        cases c
end Hm

set_option Elab.async false
set_option linter.all false
set_option maxRecDepth 100000
set_option maxHeartbeats 1000000
namespace Hm
open PySem
def Mem.wc (M : Mem) (cs : List Ce) : Mem := { M with cs := cs }
theorem get_app {cs : List Ce} {x : List Ce} {n : Nat} {y : Ce} (h : cs[n]? = some y) : (cs ++ x)[n]? = some y := by
  rw [List.getElem?_append_left (List.getElem?_eq_some_iff.1 h).1]
  exact h
theorem at_app {M : Mem} {cs x : List Ce} {a : Ad} {y : Ce} (h : (M.wc cs).at a = some y) : (M.wc (cs ++ x)).at a = some y := by
  cases a with
  | h n => exact get_app (show cs[n]? = some y from h)
  | s n => exact h
theorem oks_mem : ∀ {ts : List Tm} {t : Tm}, Oks ts → t ∈ ts → Ok t
  | x :: ts, t, h, m => by
    rw [oks_cons] at h
    rcases List.mem_cons.1 m with rfl | m
    · exact h.1
    · exact oks_mem h.2 m
theorem oks_of : ∀ {ts : List Tm}, (∀ t ∈ ts, Ok t) → Oks ts
  | [], _ => trivial
  | x :: ts, h => by
    rw [oks_cons]
    exact ⟨h x (List.mem_cons_self ..), oks_of fun t ht => h t (List.mem_cons_of_mem _ ht)⟩
theorem wComp_wt {b : BS} {f : Str} {as : List Tm} : (wComp b (.comp f as)).wt = b.wt ++ as.filter isC := (fold_is as { b with cs := b.cs ++ [.fn f as.length] }).wt
theorem wComp_oks {b : BS} {t : Tm} (h : Oks b.wt) (ht : Ok t) : Oks (wComp b t).wt := by
  cases t with
  | comp f as =>
    rw [wComp_wt]
    unfold Ok at ht
    exact oks_of fun x hx => by
      rcases List.mem_append.1 hx with hx | hx
      · exact oks_mem h hx
      · exact oks_mem ht.2.2.2 (List.mem_filter.1 hx).1
  | var _ => exact h
  | atom _ => exact h
  | int _ => exact h
def Bt (cs : List Ce) (nm : Int → Option Ce) (n : Nat) (t : Tm) (x : Ce) (cs' : List Ce) (nm' : Int → Option Ce) (n' : Nat) : Prop := match t with
  | .comp f as => x = .str cs.length ∧ ∃ m b', Wr m 0 ⟨cs, nm, n, cs.length + (as.length + 1), [.comp f as]⟩ b' ∧ b'.cs = cs' ∧ b'.nm = nm' ∧ b'.n = n' ∧ b'.wt.length ≤ 100000
  | .var k => (∃ c, nm k = some c ∧ x = c ∧ cs' = cs ∧ nm' = nm ∧ n' = n) ∨ (nm k = none ∧ x = .ref (.h cs.length) ∧ cs' = cs ++ [.ref (.h cs.length)] ∧ nm' = (fun j => if j = k then some (.ref (.h cs.length)) else nm j) ∧ n' = n + 1)
  | .atom a => x = .con a ∧ cs' = cs ∧ nm' = nm ∧ n' = n
  | .int i => x = .num i ∧ cs' = cs ∧ nm' = nm ∧ n' = n
theorem wc_self (M : Mem) : M.wc M.cs = M := rfl
theorem ncs_one (t : Tm) : ncs [t] = nc t := by rw [ncs_cons]; simp [ncs]
theorem cszs_one (t : Tm) : cszs [t] = csz t := by rw [cszs_cons]; simp [cszs]
end Hm

set_option Elab.async false
set_option linter.all false
set_option maxRecDepth 100000
set_option maxHeartbeats 1000000
namespace Hm
open PySem PySem.Spec PyProof.Rows L2 HT
open Evl (Ex)
/-! ### writing a term: in the program -/
def isTup : Tm → Bool
  | .var _ => true
  | .comp _ _ => true
  | .int _ => false
  | .atom _ => false
def isAtom : Tm → Bool
  | .atom _ => true
  | _ => false
def isVar : Tm → Bool
  | .var _ => true
  | _ => false
section
variable {P : Program} {w : World} {K : PySem.W.Frag} {mg : Str → Option Value} {base : Heap}
theorem isi_tup {H : Hp} {t : Tm} {v : V} (hR : Rep K H t v) : ∃ tv, TyX K H v tv ∧ PySem.W.kitOne K tv (.type "tuple") = some (isTup t) := by
  have h := ty_od (od_rep hR)
  cases t with
  | var k => exact ⟨_, h, kit_ty (a := "tuple") (show kitB "tuple" "tuple" = some true by decide +kernel)⟩
  | int k => exact ⟨_, h, kit_ty (a := "int") (show kitB "int" "tuple" = some false by decide +kernel)⟩
  | atom k => exact ⟨_, h, kit_ty (a := "str") (show kitB "str" "tuple" = some false by decide +kernel)⟩
  | comp k as => exact ⟨_, h, kit_ty (a := "tuple") (show kitB "tuple" "tuple" = some true by decide +kernel)⟩
theorem isi_str {H : Hp} {t : Tm} {v : V} (hR : Rep K H t v) : ∃ tv, TyX K H v tv ∧ PySem.W.kitOne K tv (.type "str") = some (isAtom t) := by
  have h := ty_od (od_rep hR)
  cases t with
  | var k => exact ⟨_, h, kit_ty (a := "tuple") (show kitB "tuple" "str" = some false by decide +kernel)⟩
  | int k => exact ⟨_, h, kit_ty (a := "int") (show kitB "int" "str" = some false by decide +kernel)⟩
  | atom k => exact ⟨_, h, kit_ty (a := "str") (show kitB "str" "str" = some true by decide +kernel)⟩
  | comp k as => exact ⟨_, h, kit_ty (a := "tuple") (show kitB "tuple" "str" = some false by decide +kernel)⟩
def spIsVar (K : PySem.W.Frag) : Sp := fun vs H Q _ => ∃ v t, vs = [v] ∧ Rep K H t v ∧ Ok t ∧ Q (.bl (isVar t)) H
theorem ok_is_variable (T : Tx K mg) : FnOk P w K mg base CX0 1 T.f_is_variable T.d_is_variable ["part"] (spIsVar K) := by
  refine T.h_is_variable.F.ok sc_is_variable (fun vs H Q E h => ?_) (fun cdv A outer s H vs Q E hr h => ?_)
  · obtain ⟨v, t, rfl, _⟩ := h
    rfl
  obtain ⟨v, t, rfl, hR, ho, k⟩ := h
  refine ⟨_, (pss_one (ps_ret (pe_and (pe_callB call_isi rfl T.b_isinstance (by decide +kernel) (pa_cons (pv 0) (pa_cons (pe_bltn (v := .ty "tuple") (u := .type "tuple") rfl T.b_tuple (by decide +kernel) rfl) pa_nil))) (pe_one (pe_cmpR op_eq (pe_callB call_len_seq rfl T.b_len (by decide +kernel) (pa_cons (pv 0) pa_nil)) pe_int (nomark _)))))), ?_⟩
  obtain ⟨tv, y1, y2⟩ := isi_tup hR
  refine ⟨_, rfl, _, _, tv, _, isTup t, rfl, .ty "tuple", y1, y2, isTup t, rfl, ?_⟩
  cases t with
  | int i => exact iteF k
  | atom i => exact iteF k
  | var i =>
    have hR2 := hR
    unfold Rep at hR2
    obtain ⟨a, rfl, hT⟩ := hR2
    exact iteT ⟨_, rfl, a, _, rfl, .inr hT, rfl, k⟩
  | comp f as =>
    have hR2 := hR
    unfold Rep at hR2
    obtain ⟨a, ws, rfl, hT, hA⟩ := hR2
    have hl := hA.len
    unfold Ok at ho
    refine iteT ⟨_, rfl, a, _, rfl, .inr hT, rfl, ?_⟩
    have hne : (V.str f :: ws).length ≠ 1 := by
      rw [List.length_cons]
      omega
    have e : decide (V.int ((V.str f :: ws).length : Int) = V.int 1) = false := by
      rw [dec1, decide_eq_false hne]
    rw [e]
    exact k
def spDemT (K : PySem.W.Frag) : Sp := fun vs H Q _ => ∃ v t, vs = [v] ∧ Rep K H t v ∧ Ok t ∧ size t ≤ 1000 ∧ ∀ u H', Ex H H' → Q u H'
theorem ok_demand_term (T : Tx K mg) : FnOk P w K mg base CX0 5 T.f_demand_term T.d_demand_term ["term"] (spDemT K) := by
  refine T.h_demand_term.F.ok sc_demand_term (fun vs H Q E h => ?_) (fun cdv A outer s H vs Q E hr h => ?_)
  · obtain ⟨v, t, rfl, _⟩ := h
    rfl
  obtain ⟨v, t, rfl, hR, ho, hz, k⟩ := h
  refine ⟨_, (pss_one (ps_if (pt_not (pt_val (cl (ok_is_term T) T.h_is_term hr (pa_cons (pv 0) pa_nil))))
      (pss_one ps_never)
      pss_nil)), ?_⟩
  have hs := sizeD_tm ho
  refine ⟨_, rfl, v, odT t, rfl, od_rep hR, by omega, fun H' e1 => ?_⟩
  rw [isT_tm ho]
  exact ⟨true, rfl, iteF (k _ _ e1)⟩
/-- the dict of names: the cells of the variables -/
def NmAt (K : PySem.W.Frag) (H : Hp) (D : Addr) (nm : Int → Option Ce) (n : Nat) : Prop := ∃ kvs : List (Key × V), H D = some (.dK kvs) ∧ kvs.length = n ∧ ∀ k : Int, (nm k = none → valV kvs (.inl k) = none) ∧ ∀ x, nm k = some x → ∃ v, valV kvs (.inl k) = some v ∧ CAt K H v x ∧ CeOk x
theorem NmAt.keep {H H' : Hp} {D : Addr} {nm : Int → Option Ce} {n : Nat} (h : NmAt K H D nm n) (t : Tups K H H') (e : ∀ o, H D = some o → H' D = some o) : NmAt K H' D nm n := by
  obtain ⟨kvs, h1, h2, h3⟩ := h
  exact ⟨kvs, e _ h1, h2, fun k => ⟨(h3 k).1, fun x hx => by
    obtain ⟨v, g1, g2, g3⟩ := (h3 k).2 x hx
    exact ⟨v, g1, g2.tups t, g3⟩⟩⟩
theorem putK_new {kvs : List (Key × V)} {k : Key} {v : V} (h : valV kvs k = none) : (putK kvs k v).length = kvs.length + 1 := by
  have ha : ¬ (kvs.any fun kv => decide (kv.1 = k)) = true := fun z => by
    obtain ⟨q, hq, e⟩ := List.any_eq_true.1 z
    unfold valV at h
    cases f : kvs.find? (fun kv => decide (kv.1 = k)) with
    | none => exact absurd e (List.find?_eq_none.1 f q hq)
    | some p =>
      rw [f] at h
      cases h
  unfold putK
  rw [if_neg ha, List.length_append]
  rfl
theorem NmAt.put {H : Hp} {D : Addr} {nm : Int → Option Ce} {n : Nat} {k : Int} {u : V} {x : Ce} (h : NmAt K H D nm n) (hk : nm k = none) (hx : CAt K H u x) (xo : CeOk x) (hl : n < sizeLine) :
    ∃ H', DPut H D (.int k) u H' ∧ (∀ b, b ≠ D → H' b = H b) ∧ Tups K H H' ∧ NmAt K H' D (fun j => if j = k then some x else nm j) (n + 1) := by
  obtain ⟨kvs, h1, h2, h3⟩ := h
  have t : Tups K H (upd H D (.dK (putK kvs (.inl k) u))) := tups_dk h1
  refine ⟨_, DPut.k (k := .inl k) h1 (by rw [h2]; exact hl), fun b hb => upd_ne hb, t, _, upd_same, by rw [putK_new ((h3 k).1 hk), h2], fun j => ?_⟩
  rw [valV_put]
  by_cases e : j = k
  · subst e
    rw [if_pos rfl]
    exact ⟨fun z => by simp at z, fun y hy => by
      simp at hy
      subst hy
      exact ⟨u, rfl, hx.tups t, xo⟩⟩
  · have ne : ¬ ((Sum.inl j : Key) = Sum.inl k) := fun z => e (Sum.inl.inj z)
    dsimp only
    rw [if_neg e, if_neg ne]
    exact ⟨(h3 j).1, fun y hy => by
      obtain ⟨v, g1, g2, g3⟩ := (h3 j).2 y hy
      exact ⟨v, g1, g2.tups t, g3⟩⟩
theorem NmAt.get {H : Hp} {D : Addr} {nm : Int → Option Ce} {n : Nat} (h : NmAt K H D nm n) {k : Int} {x : Ce} (e : nm k = some x) : ∃ v, DGet H D (.int k) (some v) ∧ CAt K H v x ∧ CeOk x := by
  obtain ⟨kvs, h1, h2, h3⟩ := h
  obtain ⟨v, g1, g2, g3⟩ := (h3 k).2 x e
  exact ⟨v, by rw [← g1]; exact DGet.k (k := .inl k) h1, g2, g3⟩
theorem NmAt.has {H : Hp} {D : Addr} {nm : Int → Option Ce} {n : Nat} (h : NmAt K H D nm n) (k : Int) : ∃ o, DGet H D (.int k) o ∧ o.isSome = (nm k).isSome := by
  obtain ⟨kvs, h1, h2, h3⟩ := h
  refine ⟨_, DGet.k (k := .inl k) h1, ?_⟩
  cases e : nm k with
  | none => rw [(h3 k).1 e]; rfl
  | some x =>
    obtain ⟨v, g1, _⟩ := (h3 k).2 x e
    rw [g1]
    rfl
/-- the cell of a leaf -/
def leafC (nm : Int → Option Ce) : Tm → Option Ce
  | .atom a => some (.con a)
  | .int i => some (.num i)
  | .var k => nm k
  | .comp _ _ => none
def spLeaf (K : PySem.W.Frag) : Sp := fun vs H Q _ => ∃ v D t nm n x, vs = [v, .ref D] ∧ Rep K H t v ∧ Ok t ∧ NmAt K H D nm n ∧ leafC nm t = some x ∧ ∀ u H', Ex H H' → CAt K H' u x → CeOk x → Q u H'
theorem ok_leaf_cell (T : Tx K mg) : FnOk P w K mg base CX0 1 T.f_leaf_cell T.d_leaf_cell ["term", "names"] (spLeaf K) := by
  refine T.h_leaf_cell.F.ok sc_leaf_cell (fun vs H Q E h => ?_) (fun cdv A outer s H vs Q E hr h => ?_)
  · obtain ⟨v, D, t, _, _, _, rfl, _⟩ := h
    rfl
  obtain ⟨v, D, t, nm, n, x, rfl, hR, ho, hN, hx, k⟩ := h
  have hu1 := Nat.lt_of_le_of_lt (Nat.add_le_add_left (show 1 ≤ 64 by decide) _) hr.units
  refine ⟨_, (pss_cons (ps_if (pt_val (pe_callB call_isi rfl T.b_isinstance (by decide +kernel) (pa_cons (pv 0) (pa_cons (pe_bltn (v := .ty "str") (u := .type "str") rfl T.b_str (by decide +kernel) rfl) pa_nil))))
      (pss_one (ps_ret (pe_tup (pa_cons pe_str (pa_cons (pv 0) pa_nil)))))
      pss_nil)
    (pss_one (ps_ret (pe_ifExp (pt_val (pe_callB call_isi rfl T.b_isinstance (by decide +kernel) (pa_cons (pv 0) (pa_cons (pe_bltn (v := .ty "tuple") (u := .type "tuple") rfl T.b_tuple (by decide +kernel) rfl) pa_nil)))) (pe_dget hu1 (pv 1) (pe_ix ix_tup (pv 0) pe_int (fun _ _ => rfl)) (fun _ _ => rfl)) (pe_tup (pa_cons pe_str (pa_cons (pv 0) pa_nil))))))), ?_⟩
  obtain ⟨tv, y1, y2⟩ := isi_tup hR
  obtain ⟨tw, z1, z2⟩ := isi_str hR
  refine ⟨_, rfl, _, _, tw, _, isAtom t, rfl, .ty "str", z1, z2, isAtom t, rfl, ?_⟩
  cases t with
  | atom a =>
    cases hx
    have hR2 := hR
    unfold Rep at hR2
    subst hR2
    unfold Ok at ho
    refine iteT ⟨_, rfl, Nat.le_of_ble_eq_true rfl, fun p hp => ?_⟩
    exact k _ _ (Ex.new hp) ⟨p, rfl, .of upd_same⟩ ho
  | int i =>
    cases hx
    have hR2 := hR
    unfold Rep at hR2
    subst hR2
    unfold Ok at ho
    refine iteF ⟨_, rfl, _, _, tv, _, false, rfl, .ty "tuple", y1, y2, false, rfl, iteF ⟨_, rfl, Nat.le_of_ble_eq_true rfl, fun p hp => ?_⟩⟩
    exact k _ _ (Ex.new hp) ⟨p, rfl, .of upd_same⟩ ho
  | var j =>
    have hR2 := hR
    unfold Rep at hR2
    obtain ⟨a, rfl, hT⟩ := hR2
    obtain ⟨u, g1, g2, g3⟩ := hN.get (show nm j = some x from hx)
    refine iteF ⟨_, rfl, _, _, tv, _, true, rfl, .ty "tuple", y1, y2, true, rfl, iteT ?_⟩
    exact ⟨_, rfl, _, rfl, a, _, 0, _, rfl, rfl, hT, at0, D, u, rfl, g1, k _ _ (Ex.refl _) g2 g3⟩
  | comp f as => cases hx
end
end Hm

set_option Elab.async false
set_option linter.all false
set_option maxRecDepth 100000
set_option maxHeartbeats 1000000
namespace Hm
open PySem PySem.Spec PyProof.Rows L2 HT
open Evl (Ex)
/-- all but the store and the names stays -/
def Kb (S c d nt D : Addr) (H H' : Hp) : Prop := ∀ b o, b ≠ S → b ≠ c → b ≠ d → b ≠ nt → b ≠ D → H b = some o → H' b = some o
theorem Kb.of {S c d nt D : Addr} {H H' : Hp} (e : Ex H H') : Kb S c d nt D H H' := fun b o _ _ _ _ _ h => e b o h
theorem Kb.ks {S c d nt D : Addr} {H H' : Hp} (k : Ks S c d nt H H') : Kb S c d nt D H H' := fun b o n1 n2 n3 n4 _ h => k b o n1 n2 n3 n4 h
theorem Kb.trans {S c d nt D : Addr} {H H1 H2 : Hp} (a : Kb S c d nt D H H1) (b : Kb S c d nt D H1 H2) : Kb S c d nt D H H2 := fun x o n1 n2 n3 n4 n5 h => b x o n1 n2 n3 n4 n5 (a x o n1 n2 n3 n4 n5 h)
theorem Kb.mut {S c d nt D b : Addr} {H H' : Hp} {o : HO} (k : Kb S c d nt D H H') (h : H b = none) : Kb S c d nt D H (L2.upd H' b o) := fun x u n1 n2 n3 n4 n5 e => by
  rw [upd_ne (ne_of_none e h)]
  exact k x u n1 n2 n3 n4 n5 e
section
variable {P : Program} {w : World} {K : PySem.W.Frag} {mg : Str → Option Value} {base : Heap}
/-- where the writing stands: the store, the names -/
structure BdI (K : PySem.W.Frag) (C : Addr) (H : Hp) (S c d nt D : Addr) (M : Mem) (H1 : Hp) (b : BS) : Prop where
  sto : Sto K C H1 S c d nt (M.wc b.cs)
  nm : NmAt K H1 D b.nm b.n
  keep : Kb S c d nt D H H1
  nd : D ≠ d
theorem BdI.ne {C S c d nt D : Addr} {H H1 : Hp} {M : Mem} {b : BS} (h : BdI K C H S c d nt D M H1 b) : D ≠ S ∧ D ≠ c ∧ D ≠ d ∧ D ≠ nt := by
  obtain ⟨kvs, h1, _⟩ := h.nm
  obtain ⟨dx, g1⟩ := h.sto.ins
  obtain ⟨vs, g2, _⟩ := h.sto.lst
  obtain ⟨us, g3, _⟩ := h.sto.nol
  exact ⟨ne_of h1 g1 (by intro z; cases z), ne_of h1 g2 (by intro z; cases z), h.nd, ne_of h1 g3 (by intro z; cases z)⟩
theorem BdI.ex {C S c d nt D : Addr} {H H1 H2 : Hp} {M : Mem} {b : BS} (h : BdI K C H S c d nt D M H1 b) (e : Ex H1 H2) : BdI K C H S c d nt D M H2 b :=
  ⟨h.sto.ex e, h.nm.keep (.of e) (fun o => e _ o), h.keep.trans (.of e), h.nd⟩
theorem BdI.cells {C S c d nt D : Addr} {H H1 : Hp} {M : Mem} {b : BS} (h : BdI K C H S c d nt D M H1 b) : ∃ vs, H1 c = some (.lst vs) ∧ vs.length = b.cs.length := by
  obtain ⟨vs, g2, g⟩ := h.sto.lst
  exact ⟨vs, g2, g.length⟩
/-- a cell is put behind the others -/
theorem BdI.push {C S c d nt D : Addr} {H H1 : Hp} {M : Mem} {b : BS} (h : BdI K C H S c d nt D M H1 b) {vs : List V} (hc : H1 c = some (.lst vs)) {u : V} {x : Ce} (hx : CAt K H1 u x) (xo : CeOk x) (hl : b.cs.length + 1 ≤ 10000000) :
    BdI K C H S c d nt D M (upd H1 c (.lst (vs ++ [u]))) { b with cs := b.cs ++ [x] } ∧ Tups K H1 (upd H1 c (.lst (vs ++ [u]))) := by
  obtain ⟨vs', g2, hv⟩ := h.sto.lst
  rw [hc] at g2
  cases g2
  have t : Tups K H1 (upd H1 c (.lst (vs ++ [u]))) := .lst hc
  obtain ⟨k3, h3⟩ := h.sto.upL (cs' := b.cs ++ [x]) (vs' := vs ++ [u]) (Paired.snoc hv hx) (fun y hy => by
    rcases List.mem_append.1 hy with hy | hy
    · exact h.sto.ok y hy
    · cases List.mem_singleton.1 hy
      exact xo) (by rw [List.length_append, List.length_singleton]; exact hl)
  exact ⟨⟨h3, h.nm.keep t (fun o e => by rw [upd_ne h.ne.2.1]; exact e), h.keep.trans (.ks k3), h.nd⟩, t⟩
/-- the dict's type -/
theorem tyx_dk {H : Hp} {a : Addr} {kvs : List (Key × V)} (h : H a = some (.dK kvs)) : TyX K H (.ref a) (.type "dict") := .base (.dK h)
/-- where the loop of build stands -/
def WIn (K : PySem.W.Frag) (C : Addr) (H4 : Hp) (S c d nt D a q wl : Addr) (M : Mem) (b' : BS) : Nat → L2.St → Hp → Prop := fun m σ H1 => ∃ (i : Nat) (b : BS) (ws : List V) (x7 x8 : Option V), σ = [some (.ref S), some (.ref a), some (.ref D), some (.ref q), some (.ref wl), some (.int (i : Int)), some (.int (b.last : Int)), x7, x8] ∧
  BdI K C H4 S c d nt D M H1 b ∧ H1 wl = some (.lst ws) ∧ Reps K H1 b.wt ws ∧ Oks b.wt ∧ (∀ t ∈ b.wt, isC t = true) ∧ Wr m i b b' ∧ CAt K H1 (.ref q) (.str M.cs.length)
def spBuild (K : PySem.W.Frag) (C : Addr) : Sp := fun vs H Q _ => ∃ S c d nt M v D t nm n x cs' nm' n', vs = [.ref S, v, .ref D] ∧ Sto K C H S c d nt M ∧ Rep K H t v ∧ Ok t ∧ size t ≤ 1000 ∧ NmAt K H D nm n ∧ D ≠ d ∧ Bt M.cs nm n t x cs' nm' n' ∧ cs'.length ≤ 10000000 ∧ n' ≤ 10000000 ∧
  ∀ u H', Kb S c d nt D H H' → CAt K H' u x → CeOk x → Sto K C H' S c d nt (M.wc cs') → NmAt K H' D nm' n' → Q u H'
theorem ok_St_build (T : Tx K mg) : FnOk P w K mg base CX0 7 T.f_St_build T.d_St_build ["self", "term", "names"] (spBuild K T.C) := by
  refine T.h_St_build.F.ok sc_St_build (fun vs H Q E h => ?_) (fun cdv A outer s H vs Q E hr h => ?_)
  · obtain ⟨S, c, d, nt, M, v, D, _, _, _, _, _, _, _, rfl, _⟩ := h
    rfl
  obtain ⟨S, c, d, nt, M, v, D, t, nm, n, x, cs', nm', n', rfl, h, hR, ho, hz, hN, hDd, hB, hlc, hln, k⟩ := h
  have hu1 := Nat.lt_of_le_of_lt (Nat.add_le_add_left (show 1 ≤ 64 by decide) _) hr.units
  refine ⟨_, (pss_cons (ps_expr (cl (ok_demand_term T) T.h_demand_term hr (pa_cons (pv 1) pa_nil)))
    (pss_cons (ps_if (pt_not (pt_val (pe_callB call_isi rfl T.b_isinstance (by decide +kernel) (pa_cons (pv 2) (pa_cons (pe_bltn (v := .ty "dict") (u := .type "dict") rfl T.b_dict (by decide +kernel) rfl) pa_nil)))))
      (pss_one ps_never)
      pss_nil)
    (Evl.pss_cut (ps_if (PW.pt (pw_and (pt_val (cl (ok_is_variable T) T.h_is_variable hr (pa_cons (pv 1) pa_nil))) (pw_and1 (pt_cmp (pc_dnotin hu1 (pe_ix ix_tup (pv 1) pe_int (fun _ _ => rfl)) (pv 2))))))
      (pss_one (ps_asg (pe_tup (pa_cons pe_str (pa_cons (pe_meth0 (pv 0) T.cl T.h_St_new.m (ok_St_new T) (hr.mono (by first | decide | omega)) T.h_St_new.b .nil pass0) pa_nil))) (pg_sub (pv 2) (pe_ix ix_tup (pv 1) pe_int (fun _ _ => rfl)) (set_dict hu1))))
      pss_nil)
    (pss_cons (ps_if (PW.pt (pw_or (pt_not (pt_val (pe_callB call_isi rfl T.b_isinstance (by decide +kernel) (pa_cons (pv 1) (pa_cons (pe_bltn (v := .ty "tuple") (u := .type "tuple") rfl T.b_tuple (by decide +kernel) rfl) pa_nil))))) (pw_or1 (pt_val (cl (ok_is_variable T) T.h_is_variable hr (pa_cons (pv 1) pa_nil))))))
      (pss_one (ps_ret (cl (ok_leaf_cell T) T.h_leaf_cell hr (pa_cons (pv 1) (pa_cons (pv 2) pa_nil)))))
      pss_nil)
    (pss_cons (ps_set (i := 3) sc_St_build.nd rfl (Or.inl rfl) (pe_tup (pa_cons pe_str (pa_cons (pe_tup (pa_cons pe_str (pa_cons (pe_callB call_len_seq rfl T.b_len (by decide +kernel) (pa_cons (pe_fld (pv 0) rfl) pa_nil)) pa_nil))) pa_nil))))
    (pss_cons (ps_set (i := 4) sc_St_build.nd rfl (Or.inl rfl) (pe_lst (pa_cons (pv 1) pa_nil)))
    (pss_cons (ps_set (i := 5) sc_St_build.nd rfl (Or.inl rfl) pe_int)
    (pss_cons (ps_set (i := 6) sc_St_build.nd rfl (Or.inl rfl) (pe_op op_add (pe_callB call_len_seq rfl T.b_len (by decide +kernel) (pa_cons (pe_fld (pv 0) rfl) pa_nil)) (pe_callB call_len_seq rfl T.b_len (by decide +kernel) (pa_cons (pv 1) pa_nil))))
    (pss_cons (ps_while PassesOwn.never (pt_cmpR op_lt (pv 5) (pe_callB call_len_seq rfl T.b_len (by decide +kernel) (pa_cons (pv 4) pa_nil)) (nomark _))
      (pss_cons (ps_set (i := 7) sc_St_build.nd rfl (Or.inl rfl) (pe_ix ix_list (pv 4) (pv 5) (fun _ _ => rfl)))
    (pss_cons (ps_aug (i := 5) sc_St_build.nd rfl (Or.inl rfl) pe_int ip_add)
    (pss_cons (ps_expr (pe_bm PySem.F.plainAttrs_list PySem.F.slot_list_append PySem.F.type_list_append mt_append (pe_fld (pv 0) rfl) (pa_cons (pe_tup (pa_cons pe_str (pa_cons (pe_ix ix_tup (pv 7) pe_int (fun _ _ => rfl)) (pa_cons (pe_op op_sub (pe_callB call_len_seq rfl T.b_len (by decide +kernel) (pa_cons (pv 7) pa_nil)) pe_int) pa_nil)))) pa_nil)))
    (pss_one (ps_for PassesOwn.never rfl (pi_tup (pe_slice sl_tup (pv 7) (po_some pe_int) po_none)) (pg_name (i := 8) sc_St_build.nd rfl (Or.inl rfl))
      (pss_one (ps_if (PW.pt (pw_and (pt_val (pe_callB call_isi rfl T.b_isinstance (by decide +kernel) (pa_cons (pv 8) (pa_cons (pe_bltn (v := .ty "tuple") (u := .type "tuple") rfl T.b_tuple (by decide +kernel) rfl) pa_nil)))) (pw_and1 (pt_not (pt_val (cl (ok_is_variable T) T.h_is_variable hr (pa_cons (pv 8) pa_nil)))))))
      (pss_cons (ps_expr (pe_bm PySem.F.plainAttrs_list PySem.F.slot_list_append PySem.F.type_list_append mt_append (pe_fld (pv 0) rfl) (pa_cons (pe_tup (pa_cons pe_str (pa_cons (pe_tup (pa_cons pe_str (pa_cons (pv 6) pa_nil))) pa_nil))) pa_nil)))
    (pss_cons (ps_aug (i := 6) sc_St_build.nd rfl (Or.inl rfl) (pe_callB call_len_seq rfl T.b_len (by decide +kernel) (pa_cons (pv 8) pa_nil)) ip_add)
    (pss_one (ps_expr (pe_bm PySem.F.plainAttrs_list PySem.F.slot_list_append PySem.F.type_list_append mt_append (pv 4) (pa_cons (pv 8) pa_nil))))))
      (pss_one (ps_if (PW.pt (pw_and (pt_val (cl (ok_is_variable T) T.h_is_variable hr (pa_cons (pv 8) pa_nil))) (pw_and1 (pt_cmp (pc_dnotin hu1 (pe_ix ix_tup (pv 8) pe_int (fun _ _ => rfl)) (pv 2))))))
      (pss_one (ps_asg (pe_tup (pa_cons pe_str (pa_cons (pe_meth0 (pv 0) T.cl T.h_St_new.m (ok_St_new T) (hr.mono (by first | decide | omega)) T.h_St_new.b .nil pass0) pa_nil))) (pg_sub (pv 2) (pe_ix ix_tup (pv 8) pe_int (fun _ _ => rfl)) (set_dict hu1))))
      (pss_one (ps_expr (pe_bm PySem.F.plainAttrs_list PySem.F.slot_list_append PySem.F.type_list_append mt_append (pe_fld (pv 0) rfl) (pa_cons (cl (ok_leaf_cell T) T.h_leaf_cell hr (pa_cons (pv 8) (pa_cons (pv 2) pa_nil))) pa_nil))))))))))))))
    (pss_one (ps_ret (pv 3)))))))))))), ?_⟩
  have b0 : BdI K T.C H S c d nt D M H ⟨M.cs, nm, n, 0, []⟩ := ⟨h, hN, .of (Ex.refl _), hDd⟩
  obtain ⟨kvs, hkv, _⟩ := hN
  refine ⟨_, rfl, v, t, rfl, hR, ho, hz, fun _ H1 e1 => ?_⟩
  have b1 := b0.ex e1
  have hR1 := hR.mono (.of e1)
  refine ⟨_, rfl, _, _, _, _, true, rfl, .ty "dict", tyx_dk (e1 _ _ hkv), kit_ty (a := "dict") (by decide +kernel), true, rfl, iteF ?_⟩
  refine ⟨fun σ' H' => σ' = [some (.ref S), some v, some (.ref D), none, none, none, none, none, none] ∧ ∃ b, BdI K T.C H S c d nt D M H' b ∧ Rep K H' t v ∧ ((∃ f as, t = .comp f as ∧ b.cs = M.cs ∧ b.nm = nm ∧ b.n = n) ∨ (isC t = false ∧ leafC b.nm t = some x ∧ b.cs = cs' ∧ b.nm = nm' ∧ b.n = n')), ?_, ?_⟩
  · refine ⟨_, rfl, v, t, rfl, hR1, ho, ?_⟩
    cases t with
    | int i =>
      obtain ⟨rfl, rfl, rfl, rfl⟩ := hB
      exact ⟨false, rfl, iteF (iteF ⟨rfl, _, b1, hR1, .inr ⟨rfl, rfl, rfl, rfl, rfl⟩⟩)⟩
    | atom i =>
      obtain ⟨rfl, rfl, rfl, rfl⟩ := hB
      exact ⟨false, rfl, iteF (iteF ⟨rfl, _, b1, hR1, .inr ⟨rfl, rfl, rfl, rfl, rfl⟩⟩)⟩
    | comp f as => exact ⟨false, rfl, iteF (iteF ⟨rfl, _, b1, hR1, .inl ⟨f, as, rfl, rfl, rfl, rfl⟩⟩)⟩
    | var j =>
      have hR2 := hR1
      unfold Rep at hR2
      obtain ⟨a, rfl, hT⟩ := hR2
      obtain ⟨o, g1, g2⟩ := b1.nm.has j
      refine ⟨true, rfl, iteT ⟨_, rfl, a, _, 0, _, rfl, rfl, hT, at0, _, rfl, D, o, rfl, g1, ?_⟩⟩
      rcases hB with ⟨c0, hc, rfl, rfl, rfl, rfl⟩ | ⟨hc, rfl, rfl, rfl, rfl⟩
      · rw [g2, show (BS.mk M.cs nm' n' 0 []).nm j = some x from hc]
        exact ⟨false, rfl, iteF ⟨rfl, _, b1, hR1, .inr ⟨rfl, hc, rfl, rfl, rfl⟩⟩⟩
      · rw [g2, show (BS.mk M.cs nm n 0 []).nm j = none from hc]
        refine ⟨true, rfl, iteT ?_⟩
        obtain ⟨dx, hS⟩ := b1.sto.ins
        rw [List.length_append, List.length_singleton] at hlc
        refine ⟨_, rfl, S, dx, _, rfl, hS, rfl, S, c, d, nt, M, rfl, b1.sto, hlc, fun u H2 k2 a2 s2 => ⟨Nat.le_of_ble_eq_true rfl, fun p hp => ?_⟩⟩
        have e3 := Ex.new (o := HO.tup [V.str "ref", u]) hp
        have t2 := b1.sto.tups k2
        have n2 : NmAt K H2 D nm n := b1.nm.keep t2 (fun o q => k2 _ _ b1.ne.1 b1.ne.2.1 b1.ne.2.2.1 b1.ne.2.2.2 q)
        have c3 : CAt K (upd H2 p (.tup [V.str "ref", u])) (.ref p) (.ref (.h M.cs.length)) := ⟨p, u, rfl, .of upd_same, a2.tups (.of e3)⟩
        obtain ⟨H4, d4, f4, t4, n4⟩ := (n2.keep (.of e3) (fun o => e3 _ o)).put (k := j) hc c3 trivial (by have := szl hln; omega)
        have k4 : Kb S c d nt D (upd H2 p (.tup [V.str "ref", u])) H4 := fun b o _ _ _ _ nb q => by rw [f4 b nb]; exact q
        have s3 := s2.ex e3
        have s4 : Sto K T.C H4 S c d nt (M.wc (M.cs ++ [.ref (.h M.cs.length)])) := by
          obtain ⟨⟨dx, h1⟩, ⟨vs, h2, g2⟩, ⟨kvs, h3, g3, l3⟩, ⟨us, h4, g4⟩, h5, h6, h7⟩ := s3
          have ne := b1.ne
          exact ⟨⟨dx, by rw [f4 _ ne.1.symm]; exact h1⟩, ⟨vs, by rw [f4 _ ne.2.1.symm]; exact h2, g2.tups t4⟩, ⟨kvs, by rw [f4 _ ne.2.2.1.symm]; exact h3, g3.tups t4, l3⟩, ⟨us, by rw [f4 _ ne.2.2.2.symm]; exact h4, g4.tups t4⟩, h5, h6, h7⟩
        have hT4 := t4 _ _ (Evl.ex_t e3 (t2 _ _ hT))
        refine ⟨_, rfl, _, rfl, a, _, 0, _, rfl, rfl, Evl.ex_t e3 (t2 _ _ hT), at0, D, H4, rfl, d4, ?_⟩
        refine ⟨rfl, ⟨_, _, _, 0, []⟩, ⟨s4, n4, b1.keep.trans ((Kb.ks k2).trans ((Kb.of e3).trans k4)), hDd⟩, hR1.mono ((t2.trans (.of e3)).trans t4), .inr ⟨rfl, ?_, rfl, rfl, rfl⟩⟩
        show (if j = j then some (Ce.ref (Ad.h M.cs.length)) else nm j) = _
        rw [if_pos rfl]
  rintro _ H2 ⟨rfl, b, bd, hR2, hcase⟩
  obtain ⟨tv, y1, y2⟩ := isi_tup hR2
  refine ⟨_, rfl, _, _, tv, _, isTup t, rfl, .ty "tuple", y1, y2, isTup t, rfl, ?_⟩
  have leaf : isC t = false → leafC b.nm t = some x → b.cs = cs' → b.nm = nm' → b.n = n' → tRet (tCall (spLeaf K) [] E0 (tCons (tVar 1) (tCons (tVar 2) tNil))) { nx := fun x H' => Q V.non H', rt := Q } [some (.ref S), some v, some (.ref D), none, none, none, none, none, none] H2 := fun _ e0 e1 e2 e3 => by
    subst e1 e2 e3
    exact ⟨_, rfl, _, rfl, v, D, t, b.nm, b.n, x, rfl, hR2, ho, bd.nm, e0, fun u H3 e3 hu xo => k u H3 (bd.keep.trans (.of e3)) hu xo (bd.sto.ex e3) ((bd.ex e3).nm)⟩
  rcases hcase with ⟨f, as, rfl, c1, c2, c3⟩ | ⟨c0, c1, c2, c3, c4⟩
  rotate_left
  · cases t with
    | int i => exact iteT (iteT (leaf c0 c1 c2 c3 c4))
    | atom i => exact iteT (iteT (leaf c0 c1 c2 c3 c4))
    | var j => exact iteF ⟨_, rfl, v, .var j, rfl, hR2, ho, true, rfl, iteT (leaf c0 c1 c2 c3 c4)⟩
    | comp f as => cases c0
  refine iteF ⟨_, rfl, v, _, rfl, hR2, ho, false, rfl, iteF ?_⟩
  obtain ⟨rfl, m, b', hW, rfl, rfl, rfl, hwt⟩ := hB
  have hR3 := hR2
  unfold Rep at hR3
  obtain ⟨a, xs, rfl, hT, hA⟩ := hR3
  obtain ⟨dx, hS⟩ := bd.sto.ins
  obtain ⟨vs, hc, hvl⟩ := bd.cells
  rw [c1] at hvl
  refine ⟨_, rfl, S, T.C, dx, _, _, rfl, hS, T.cl, T.n_cells, rfl, c, vs, rfl, .inl (.of hc), Nat.le_of_ble_eq_true rfl, fun p hp => ⟨Nat.le_of_ble_eq_true rfl, fun q hq => ?_⟩⟩
  have e3 := Ex.new (o := HO.tup [V.str "h", V.int vs.length]) hp
  have e4 := Ex.new (o := HO.tup [V.str "str", V.ref p]) hq
  have cq : CAt K (upd (upd H2 p (.tup [V.str "h", V.int vs.length])) q (.tup [V.str "str", V.ref p])) (.ref q) (.str M.cs.length) := ⟨q, .ref p, rfl, .of upd_same, p, rfl, by rw [← hvl]; exact Evl.ex_t e4 (.of upd_same)⟩
  have e34 := e3.trans e4
  generalize upd (upd H2 p (.tup [V.str "h", V.int vs.length])) q (.tup [V.str "str", V.ref p]) = H4 at *
  refine ⟨_, rfl, Nat.le_of_ble_eq_true rfl, fun wl hwl => ?_⟩
  have e5 := Ex.new (o := HO.lst [V.ref a]) hwl
  have e35 := e34.trans e5
  have w5 : upd H4 wl (.lst [V.ref a]) wl = some (.lst [V.ref a]) := upd_same
  generalize upd H4 wl (.lst [V.ref a]) = H5 at *
  refine ⟨_, rfl, S, T.C, dx, _, _, rfl, e35 _ _ hS, T.cl, T.n_cells, rfl, c, vs, rfl, .inl (.of (e35 _ _ hc)), _, rfl, a, _, rfl, .inr (Evl.ex_t e35 hT), _, _, rfl, rfl, ?_⟩
  have hwl2 : H2 wl = none := ex_none e34 hwl
  have bd5 : BdI K T.C H4 S c d nt D M H5 ⟨M.cs, nm, n, M.cs.length + (as.length + 1), [.comp f as]⟩ := ⟨by
    have z := (bd.ex e35).sto
    rw [c1] at z
    exact z, by
    have z := (bd.ex e35).nm
    rw [c2, c3] at z
    exact z, .of e5, hDd⟩
  have kb4 : Kb S c d nt D H H4 := bd.keep.trans (.of e34)
  have la := hA.len
  have el : (vs.length : Int) + ((V.str f :: xs).length : Int) = ((M.cs.length + (as.length + 1) : Nat) : Int) := by
    rw [List.length_cons, hvl, la]
    omega
  have rep5 : Rep K H5 (.comp f as) (.ref a) := hR2.mono (.of e35)
  have nwc0 : c ≠ wl := by
    obtain ⟨_, z, _⟩ := (bd.ex e34).sto.lst
    exact ne_of_none z hwl
  have nwD : D ≠ wl := by
    obtain ⟨_, z, _⟩ := (bd.ex e34).nm
    exact ne_of_none z hwl
  have nwSt : S ≠ wl ∧ d ≠ wl ∧ nt ≠ wl := by
    obtain ⟨_, z1⟩ := (bd.ex e34).sto.ins
    obtain ⟨_, z2, _⟩ := (bd.ex e34).sto.slo
    obtain ⟨_, z3, _⟩ := (bd.ex e34).sto.nol
    exact ⟨ne_of_none z1 hwl, ne_of_none z2 hwl, ne_of_none z3 hwl⟩
  have nw : ∀ {y : Addr} {o : HO}, H4 y = some o → y ≠ wl := fun e z => by
    subst z
    rw [hwl] at e
    cases e
  refine ⟨WIn K T.C H4 S c d nt D a q wl M b', ⟨m, 0, _, [.ref a], none, none, ?_, bd5, w5, Reps.one rep5, ?_, ?_, hW, cq.tups (.of e5)⟩, ?_⟩
  · rw [← el]
    rfl
  · rw [oks_cons]
    exact ⟨ho, trivial⟩
  · intro t ht
    cases List.mem_singleton.1 ht
    rfl
  clear hT hA rep5 cq bd5 w5 e5 e35 e34 e4 e3
  have nwc : c ≠ wl := nwc0
  rintro m σ H1 ⟨i, b1, ws, x7, x8, rfl, hb, hwl1, hws, oks, hcs, hw, hq1⟩
  have lw := hws.len
  cases hw with
  | done e =>
    refine ⟨_, rfl, _, rfl, wl, ws, rfl, .inl (.of hwl1), _, _, rfl, rfl, false, ?_, iteF ?_⟩
    · show V.bl (decide ((i : Int) < (ws.length : Int))) = V.bl false
      rw [decide_eq_false (by omega)]
    · exact ⟨_, rfl, k _ _ (kb4.trans hb.keep) hq1 trivial hb.sto hb.nm⟩
  | step hg hw' =>
    rename_i m t
    have il : i < b1.wt.length := (List.getElem?_eq_some_iff.1 hg).1
    have mg := List.mem_of_getElem? hg
    refine ⟨_, rfl, _, rfl, wl, ws, rfl, .inl (.of hwl1), _, _, rfl, rfl, true, ?_, iteT ⟨fun σ' H' => ∃ m', m' < m + 1 ∧ WIn K T.C H4 S c d nt D a q wl M b' m' σ' H', fun _ _ q => q, ?_⟩⟩
    · show V.bl (decide ((i : Int) < (ws.length : Int))) = V.bl true
      rw [decide_eq_true (by omega)]
    obtain ⟨u, hu⟩ : ∃ u, ws[i]? = some u := ⟨ws[i], List.getElem?_eq_getElem (by omega)⟩
    obtain ⟨t', ht', hRt⟩ := hws.get hu
    rw [hg] at ht'
    cases ht'
    refine ⟨_, rfl, _, rfl, wl, ws, _, u, rfl, rfl, .of hwl1, atI_nat hu, ?_⟩
    refine ⟨_, rfl, _, _, rfl, rfl, ?_⟩
    have ot := oks_mem oks mg
    have ct := hcs t mg
    cases t with
    | int _ => cases ct
    | atom _ => cases ct
    | var _ => cases ct
    | comp g bs =>
    have hR4 := hRt
    unfold Rep at hR4
    obtain ⟨ua, us, rfl, hTu, hAu⟩ := hR4
    have lu := hAu.len
    unfold Ok at ot
    obtain ⟨dx1, hS1⟩ := hb.sto.ins
    obtain ⟨vs1, hc1, hvl1⟩ := hb.cells
    refine ⟨_, rfl, S, T.C, dx1, _, _, rfl, hS1, T.cl, T.n_cells, rfl, .inl ⟨rfl, _, .of hc1⟩, _, rfl, ua, _, 0, _, rfl, rfl, hTu, at0, _, rfl, ua, _, rfl, .inr hTu, _, _, rfl, rfl, Nat.le_of_ble_eq_true rfl, fun p2 hp2 => ?_⟩
    have e6 := Ex.new (o := HO.tup [V.str "fun", V.str g, V.int (((V.str g :: us).length : Int) - 1)]) hp2
    have c6 : CAt K (upd H1 p2 (.tup [V.str "fun", V.str g, V.int (((V.str g :: us).length : Int) - 1)])) (.ref p2) (.fn g bs.length) := ⟨p2, rfl, by
      have z : (((V.str g :: us).length : Int) - 1) = ((bs.length : Nat) : Int) := by
        rw [List.length_cons, lu]
        omega
      rw [z]
      exact .of upd_same⟩
    generalize upd H1 p2 (.tup [V.str "fun", V.str g, V.int (((V.str g :: us).length : Int) - 1)]) = H6 at *
    have wl1 := (fold_is bs { b1 with cs := b1.cs ++ [.fn g bs.length] }).len
    dsimp only at wl1
    rw [List.length_append, List.length_singleton] at wl1
    have wl2 := hw'.le.len
    have wl3 : (wComp b1 (.comp g bs)).cs.length = b1.cs.length + 1 + bs.length := wl1
    have wl4 := hw'.le.wt
    have wl5 := hw'.le.n
    obtain ⟨bp, tp⟩ := (hb.ex e6).push (e6 _ _ hc1) c6 ⟨ot.1, ot.2.1, ot.2.2.1⟩ (by omega)
    refine ⟨c, vs1, .ref p2, rfl, rfl, e6 _ _ hc1, by rw [hvl1]; exact szl (by omega), ?_⟩
    have w7 : (upd H6 c (.lst (vs1 ++ [.ref p2]))) wl = some (.lst ws) := by
      rw [upd_ne nwc.symm]
      exact e6 _ _ hwl1
    have t17 := (Tups.of (K := K) e6).trans tp
    generalize upd H6 c (.lst (vs1 ++ [.ref p2])) = H7 at *
    have hws7 := hws.mono t17
    have hq7 := hq1.tups t17
    have hA7 := hAu.mono t17
    refine ⟨_, rfl, _, rfl, ua, _, rfl, t17 _ _ hTu, cut1_ne _ _, fun z hzn => ?_⟩
    rw [cut1]
    have e8 := Ex.new (o := HO.tup us) hzn
    refine ⟨z, rfl, ⟨us, .of upd_same⟩, for_tup (xs := us) (fun j σ' H' => ∃ x8, σ' = [some (.ref S), some (.ref a), some (.ref D), some (.ref q), some (.ref wl), some (.int ((i : Int) + 1)), some (.int (((bs.take j).foldl wArg { b1 with cs := b1.cs ++ [.fn g bs.length] }).last : Int)), some (.ref ua), x8] ∧
      BdI K T.C H4 S c d nt D M H' ((bs.take j).foldl wArg { b1 with cs := b1.cs ++ [.fn g bs.length] }) ∧ ∃ wsj, H' wl = some (.lst wsj) ∧ Reps K H' ((bs.take j).foldl wArg { b1 with cs := b1.cs ++ [.fn g bs.length] }).wt wsj ∧ CAt K H' (.ref q) (.str M.cs.length) ∧ Reps K H' bs us ∧ SqT K H' z us) ?_ ?_ ?_ ?_⟩
    · exact ⟨_, rfl, bp.ex e8, ws, e8 _ _ w7, hws7.mono (.of e8), hq7.tups (.of e8), hA7.mono (.of e8), .of upd_same⟩
    · rintro j σ' H' _ ⟨_, _, _, _, _, _, _, _, hz⟩
      exact hz
    · rintro j vj σ' H9 hvj ⟨x9, rfl, hbj, wsj, hwlj, hRw, hqj, hbs, hz⟩
      obtain ⟨tj, htj, hRj⟩ := hbs.get hvj
      have okj := oks_mem ot.2.2.2 (List.mem_of_getElem? htj)
      have bnext : (bs.take (j + 1)).foldl wArg { b1 with cs := b1.cs ++ [.fn g bs.length] } = wArg ((bs.take j).foldl wArg { b1 with cs := b1.cs ++ [.fn g bs.length] }) tj := by
        have e : bs.take (j + 1) = bs.take j ++ [tj] := by
          rw [List.take_add_one, htj]
          rfl
        rw [e, List.foldl_append]
        rfl
      have ble : BLe (wArg ((bs.take j).foldl wArg { b1 with cs := b1.cs ++ [.fn g bs.length] }) tj) (wComp b1 (.comp g bs)) := by
        rw [← bnext]
        have e : wComp b1 (.comp g bs) = (bs.drop (j + 1)).foldl wArg ((bs.take (j + 1)).foldl wArg { b1 with cs := b1.cs ++ [.fn g bs.length] }) := by
          rw [← List.foldl_append, List.take_append_drop]
          rfl
        rw [e]
        exact wFold_le _ _
      have bl2 := (wArg_le ((bs.take j).foldl wArg { b1 with cs := b1.cs ++ [.fn g bs.length] }) tj)
      have q1 := ble.len
      have q2 := ble.wt
      have q3 := ble.n
      have gen : ∀ x : Ce, (wArg ((bs.take j).foldl wArg { b1 with cs := b1.cs ++ [.fn g bs.length] }) tj).cs.length = ((bs.take j).foldl wArg { b1 with cs := b1.cs ++ [.fn g bs.length] }).cs.length + 1 := fun _ => (fold_is [tj] _).len
      have q4 := gen (.con "")
      clear gen
      have hlw := hRw.len
      generalize (bs.take j).foldl wArg { b1 with cs := b1.cs ++ [.fn g bs.length] } = bj at *
      obtain ⟨tv, y1, y2⟩ := isi_tup hRj
      refine ⟨_, rfl, _, _, tv, _, isTup tj, rfl, .ty "tuple", y1, y2, isTup tj, rfl, ?_⟩
      cases tj with
      | int ij =>
        refine iteF (iteF ⟨_, rfl, vj, _, rfl, hRj, okj, false, rfl, iteF (iteF ?_)⟩)
        obtain ⟨dx2, hS2⟩ := hbj.sto.ins
        obtain ⟨vs2, hc2, hvl2⟩ := hbj.cells
        refine ⟨_, rfl, S, T.C, dx2, _, _, rfl, hS2, T.cl, T.n_cells, rfl, .inl ⟨rfl, _, .of hc2⟩, _, rfl, _, rfl, _, D, .int ij, _, _, .num ij, rfl, hRj, okj, hbj.nm, rfl, fun u8 H8 e8 hu8 xo8 => ?_⟩
        obtain ⟨bp, tp⟩ := (hbj.ex e8).push (e8 _ _ hc2) hu8 xo8 (by omega)
        have t8 := (Tups.of (K := K) e8).trans tp
        refine ⟨c, vs2, u8, rfl, rfl, e8 _ _ hc2, by rw [hvl2]; exact szl (by omega), ?_⟩
        refine ⟨_, by rw [bnext]; rfl, by rw [bnext]; exact bp, wsj, ?_, by rw [bnext]; exact hRw.mono t8, hqj.tups t8, hbs.mono t8, t8 _ _ hz⟩
        rw [upd_ne nwc.symm]
        exact e8 _ _ hwlj
      | atom ij =>
        refine iteF (iteF ⟨_, rfl, vj, _, rfl, hRj, okj, false, rfl, iteF (iteF ?_)⟩)
        obtain ⟨dx2, hS2⟩ := hbj.sto.ins
        obtain ⟨vs2, hc2, hvl2⟩ := hbj.cells
        refine ⟨_, rfl, S, T.C, dx2, _, _, rfl, hS2, T.cl, T.n_cells, rfl, .inl ⟨rfl, _, .of hc2⟩, _, rfl, _, rfl, _, D, .atom ij, _, _, .con ij, rfl, hRj, okj, hbj.nm, rfl, fun u8 H8 e8 hu8 xo8 => ?_⟩
        obtain ⟨bp, tp⟩ := (hbj.ex e8).push (e8 _ _ hc2) hu8 xo8 (by omega)
        have t8 := (Tups.of (K := K) e8).trans tp
        refine ⟨c, vs2, u8, rfl, rfl, e8 _ _ hc2, by rw [hvl2]; exact szl (by omega), ?_⟩
        refine ⟨_, by rw [bnext]; rfl, by rw [bnext]; exact bp, wsj, ?_, by rw [bnext]; exact hRw.mono t8, hqj.tups t8, hbs.mono t8, t8 _ _ hz⟩
        rw [upd_ne nwc.symm]
        exact e8 _ _ hwlj
      | var ij =>
        have hR9 := hRj
        unfold Rep at hR9
        obtain ⟨aj, rfl, hTj⟩ := hR9
        obtain ⟨o, g1, g2⟩ := hbj.nm.has ij
        refine iteT ⟨_, rfl, .ref aj, _, rfl, hRj, okj, true, rfl, iteF ?_⟩
        refine ⟨_, rfl, .ref aj, _, rfl, hRj, okj, true, rfl, iteT ⟨_, rfl, aj, _, 0, _, rfl, rfl, hTj, at0, _, rfl, D, o, rfl, g1, ?_⟩⟩
        rw [g2]
        rcases wVar_is bj ij with ⟨xj, hxj, BV⟩ | ⟨hxj, BV⟩
        · rw [hxj]
          have bnext : _ = wVar bj ij := bnext
          refine ⟨false, rfl, iteF ?_⟩
          obtain ⟨dx2, hS2⟩ := hbj.sto.ins
          obtain ⟨vs2, hc2, hvl2⟩ := hbj.cells
          refine ⟨_, rfl, S, T.C, dx2, _, _, rfl, hS2, T.cl, T.n_cells, rfl, .inl ⟨rfl, _, .of hc2⟩, _, rfl, _, rfl, _, D, .var ij, _, _, xj, rfl, hRj, okj, hbj.nm, hxj, fun u8 H8 e8 hu8 xo8 => ?_⟩
          obtain ⟨bp, tp⟩ := (hbj.ex e8).push (e8 _ _ hc2) hu8 xo8 (by omega)
          have t8 := (Tups.of (K := K) e8).trans tp
          refine ⟨c, vs2, u8, rfl, rfl, e8 _ _ hc2, by rw [hvl2]; exact szl (by omega), ?_⟩
          refine ⟨_, by rw [bnext, BV]; rfl, by rw [bnext, BV]; exact bp, wsj, ?_, by rw [bnext, BV]; exact hRw.mono t8, hqj.tups t8, hbs.mono t8, t8 _ _ hz⟩
          rw [upd_ne nwc.symm]
          exact e8 _ _ hwlj
        · rw [hxj]
          have bnext : _ = wVar bj ij := bnext
          refine ⟨true, rfl, iteT ?_⟩
          obtain ⟨dx2, hS2⟩ := hbj.sto.ins
          have q3' : (wVar bj ij).n ≤ (wComp b1 (.comp g bs)).n := q3
          have q1' : (wVar bj ij).cs.length ≤ (wComp b1 (.comp g bs)).cs.length := q1
          rw [BV] at q3' q1'
          dsimp only at q3' q1'
          rw [List.length_append, List.length_singleton] at q1'
          refine ⟨_, rfl, S, dx2, _, rfl, hS2, rfl, S, c, d, nt, M.wc bj.cs, rfl, hbj.sto, (by show bj.cs.length + 1 ≤ _; omega), fun u9 H8 k8 a8 s8 => ⟨Nat.le_of_ble_eq_true rfl, fun p9 hp9 => ?_⟩⟩
          have e9 := Ex.new (o := HO.tup [V.str "ref", u9]) hp9
          have t8 := hbj.sto.tups k8
          have ne := hbj.ne
          have n8 := hbj.nm.keep t8 (fun o q => k8 _ _ ne.1 ne.2.1 ne.2.2.1 ne.2.2.2 q)
          have c9 : CAt K (upd H8 p9 (.tup [V.str "ref", u9])) (.ref p9) (.ref (.h bj.cs.length)) := ⟨p9, u9, rfl, .of upd_same, a8.tups (.of e9)⟩
          have w9 := e9 _ _ (k8 _ _ nwSt.1.symm nwc.symm nwSt.2.1.symm nwSt.2.2.symm hwlj)
          have s9 := s8.ex e9
          have n9 := n8.keep (.of e9) (fun o => e9 _ o)
          have t89 := t8.trans (Tups.of (K := K) e9)
          have kk : Kb S c d nt D H4 (upd H8 p9 (.tup [V.str "ref", u9])) := hbj.keep.trans ((Kb.ks k8).trans (.of e9))
          generalize upd H8 p9 (.tup [V.str "ref", u9]) = Ha at *
          obtain ⟨Hb, db, fb, tb, nb⟩ := n9.put (k := ij) hxj c9 trivial (szl (by omega))
          have kb : Kb S c d nt D Ha Hb := fun b o _ _ _ _ nb q => by rw [fb b nb]; exact q
          have sb : Sto K T.C Hb S c d nt (M.wc (bj.cs ++ [.ref (.h bj.cs.length)])) := by
            obtain ⟨⟨dx, h1⟩, ⟨vs, h2, g2⟩, ⟨kvs, h3, g3, l3⟩, ⟨us, h4, g4⟩, h5, h6, h7⟩ := s9
            exact ⟨⟨dx, by rw [fb _ ne.1.symm]; exact h1⟩, ⟨vs, by rw [fb _ ne.2.1.symm]; exact h2, g2.tups tb⟩, ⟨kvs, by rw [fb _ ne.2.2.1.symm]; exact h3, g3.tups tb, l3⟩, ⟨us, by rw [fb _ ne.2.2.2.symm]; exact h4, g4.tups tb⟩, h5, h6, h7⟩
          have tall := t89.trans tb
          refine ⟨_, rfl, _, rfl, aj, _, 0, _, rfl, rfl, t89 _ _ hTj, at0, D, Hb, rfl, db, ?_⟩
          refine ⟨_, by rw [bnext, BV]; rfl, by rw [bnext, BV]; exact ⟨sb, nb, kk.trans kb, hDd⟩, wsj, ?_, by rw [bnext, BV]; exact hRw.mono tall, hqj.tups tall, hbs.mono tall, tall _ _ hz⟩
          rw [fb _ nwD.symm]
          exact w9
      | comp gj bsj =>
        refine iteT ⟨_, rfl, vj, _, rfl, hRj, okj, false, rfl, iteT ?_⟩
        obtain ⟨dx2, hS2⟩ := hbj.sto.ins
        obtain ⟨vs2, hc2, hvl2⟩ := hbj.cells
        have hR9 := hRj
        unfold Rep at hR9
        obtain ⟨aj, xsj, rfl, hTj, hAj⟩ := hR9
        have lxj := hAj.len
        refine ⟨_, rfl, S, T.C, dx2, _, _, rfl, hS2, T.cl, T.n_cells, rfl, .inl ⟨rfl, _, .of hc2⟩, _, rfl, Nat.le_of_ble_eq_true rfl, fun p8 hp8 => ⟨Nat.le_of_ble_eq_true rfl, fun p9 hp9 => ?_⟩⟩
        have e8 := Ex.new (o := HO.tup [V.str "h", V.int (bj.last : Int)]) hp8
        have e9 := Ex.new (o := HO.tup [V.str "str", V.ref p8]) hp9
        have c9 : CAt K (upd (upd H9 p8 (.tup [V.str "h", V.int (bj.last : Int)])) p9 (.tup [V.str "str", V.ref p8])) (.ref p9) (.str bj.last) := ⟨p9, .ref p8, rfl, .of upd_same, p8, rfl, Evl.ex_t e9 (.of upd_same)⟩
        have e89 := e8.trans e9
        generalize upd (upd H9 p8 (.tup [V.str "h", V.int (bj.last : Int)])) p9 (.tup [V.str "str", V.ref p8]) = Ha at *
        obtain ⟨bp, tp⟩ := (hbj.ex e89).push (e89 _ _ hc2) c9 trivial (by omega)
        have t8 := (Tups.of (K := K) e89).trans tp
        refine ⟨c, vs2, .ref p9, rfl, rfl, e89 _ _ hc2, by rw [hvl2]; exact szl (by omega), ?_⟩
        have wa : (upd Ha c (.lst (vs2 ++ [.ref p9]))) wl = some (.lst wsj) := by
          rw [upd_ne nwc.symm]
          exact e89 _ _ hwlj
        generalize upd Ha c (.lst (vs2 ++ [.ref p9])) = Hb at *
        refine ⟨_, rfl, _, rfl, aj, _, rfl, .inr (t8 _ _ hTj), _, _, rfl, rfl, ?_⟩
        have q2' : bj.wt.length + 1 ≤ (wComp b1 (.comp g bs)).wt.length := by
          have z : (wArg bj (.comp gj bsj)).wt.length = bj.wt.length + 1 := by
            show (bj.wt ++ [_]).length = _
            rw [List.length_append]
            rfl
          omega
        refine ⟨_, rfl, .inl ⟨rfl, _, .of wa⟩, _, rfl, wl, wsj, .ref aj, rfl, rfl, wa, szl (by omega), ?_⟩
        have tw : Tups K Hb (upd Hb wl (.lst (wsj ++ [.ref aj]))) := .lst wa
        have tall := t8.trans tw
        refine ⟨some (.ref aj), ?_, ?_, wsj ++ [.ref aj], upd_same, ?_, hqj.tups tall, hbs.mono tall, tall _ _ hz⟩
        · rw [bnext]
          show _ = [_, _, _, _, _, _, some (V.int ((bj.last + (bsj.length + 1) : Nat) : Int)), _, _]
          rw [show ((bj.last + (bsj.length + 1) : Nat) : Int) = (bj.last : Int) + ((V.str gj :: xsj).length : Int) by rw [List.length_cons, ← lxj]; omega]
          rfl
        · rw [bnext]
          exact ⟨bp.sto.side nwSt.1 nwc nwSt.2.1 nwSt.2.2 tw, bp.nm.keep tw (fun o e => by rw [upd_ne nwD]; exact e), bp.keep.mut hwl, hDd⟩
        · rw [bnext]
          exact (hRw.mono tall).app (Reps.one (hRj.mono tall))
    · rintro σ' H9 ⟨x9, rfl, hbj, wsj, hwlj, hRw, hqj, hbs, hz⟩
      have full : (bs.take us.length).foldl wArg { b1 with cs := b1.cs ++ [.fn g bs.length] } = wComp b1 (.comp g bs) := by
        rw [← lu, List.take_length]
        rfl
      rw [full] at hbj hRw ⊢
      refine ⟨m, Nat.lt_succ_self _, i + 1, _, wsj, _, _, rfl, hbj, hwlj, hRw, wComp_oks oks (by unfold Ok; exact ot), fun t ht => ?_, hw', hqj⟩
      rw [wComp_wt] at ht
      rcases List.mem_append.1 ht with ht | ht
      · exact hcs t ht
      · exact (List.mem_filter.1 ht).2
end
end Hm

set_option Elab.async false
set_option linter.all false
set_option maxRecDepth 100000
set_option maxHeartbeats 4000000
namespace Hm
open PySem PySem.Spec PyProof.Rows L2 HT
open Evl (Ex)
/-! ## two more operators -/
def CPowW (i j : Int) : Prop := 0 ≤ j ∧ (Builtin.Int.intBits i : Int) * j ≤ 2 ^ 27
section
variable {X : Cx}
theorem op_powW : OpR X (binaryOp .Pow) (rI CPowW fun i j => .int (i ^ j.toNat)) := opI fun _ _ _ _ _ _ _ hc q => pow_int hc.1 hc.2 q
end
/-! ## draws: a well is a list of three numbers that changes; what is drawn is any number that may come -/
/-- so many draws more may come -/
def Well (b : Nat) (H : Hp) (a : Addr) : Prop := ∃ x y z : Int, H a = some (.lst [.int x, .int y, .int z]) ∧ 0 ≤ z ∧ z + (b : Int) ≤ 1000000
theorem Well.le {b c : Nat} {H : Hp} {a : Addr} (h : Well b H a) (n : c ≤ b) : Well c H a := by
  obtain ⟨x, y, z, h, h1, h2⟩ := h
  exact ⟨x, y, z, h, h1, by omega⟩
/-- all but the well is as it was -/
structure Dr (b : Nat) (a : Addr) (H H' : Hp) : Prop where
  well : Well b H' a
  keep : ∀ c o, c ≠ a → H c = some o → H' c = some o
theorem Dr.le {b c : Nat} {a : Addr} {H H' : Hp} (h : Dr b a H H') (n : c ≤ b) : Dr c a H H' := ⟨h.well.le n, h.keep⟩
theorem Dr.ex {b : Nat} {a : Addr} {H H' : Hp} (h : Well b H a) (e : Ex H H') : Dr b a H H' := by
  obtain ⟨x, y, z, h, h1, h2⟩ := h
  exact ⟨⟨x, y, z, e _ _ h, h1, h2⟩, fun b o _ q => e b o q⟩
theorem Dr.trans {b c : Nat} {a : Addr} {H H1 H2 : Hp} (p : Dr b a H H1) (q : Dr c a H1 H2) : Dr c a H H2 := ⟨q.well, fun b o n h => q.keep b o n (p.keep b o n h)⟩
theorem Dr.tups {K : PySem.W.Frag} {b c : Nat} {a : Addr} {H H' : Hp} (h : Well b H a) (d : Dr c a H H') : Tups K H H' := fun b ys q => by
  obtain ⟨x, y, z, h, _⟩ := h
  rcases q with (q | ⟨ob, q⟩) | q
  · exact .inl (.inl (d.keep _ _ (ne_of q h (by intro z; cases z)) q))
  · exact .inl (.inr ⟨ob, d.keep _ _ (ne_of q h (by intro z; cases z)) q⟩)
  · exact .inr q
theorem Dr.sql {K : PySem.W.Frag} {b : Nat} {a l : Addr} {xs : List V} {H H' : Hp} (d : Dr b a H H') (n : l ≠ a) (h : SqL K H l xs) : SqL K H' l xs := by
  rcases h with (h | ⟨o, h⟩) | h
  · exact .inl (.inl (d.keep _ _ n h))
  · exact .inl (.inr ⟨o, d.keep _ _ n h⟩)
  · exact .inr h
theorem Dr.upd {b : Nat} {a : Addr} {H : Hp} {x y z : Int} (h1 : 0 ≤ z) (h2 : z + (b : Int) ≤ 1000000) : Dr b a H (upd H a (.lst [.int x, .int y, .int z])) := ⟨⟨x, y, z, upd_same, h1, h2⟩, fun b o n h => by rw [upd_ne n]; exact h⟩
theorem Well.ne {b : Nat} {H : Hp} {a p : Addr} (h : Well b H a) (hp : H p = none) : p ≠ a := by
  obtain ⟨x, y, z, h, _⟩ := h
  exact (ne_of_none h hp).symm
theorem Dr.free {b c : Nat} {a p : Addr} {H H' : Hp} (h : Well c H a) (d : Dr b a H H') (hp : H' p = none) : H p = none := by
  cases hq : H p with
  | none => rfl
  | some o =>
    by_cases e : p = a
    · subst e
      obtain ⟨x, y, z, w, _⟩ := d.well
      rw [w] at hp
      cases hp
    · rw [d.keep p o e hq] at hp
      cases hp
section
variable {P : Program} {w : World} {K : PySem.W.Frag} {mg : Str → Option Value} {base : Heap}
def spDraw : Sp := fun vs H Q _ => ∃ a m b, vs = [.ref a, .int m] ∧ Well (b + 1) H a ∧ 0 < m ∧ m < 1073741824 ∧ ∀ d H', 0 ≤ d → d < m → Dr b a H H' → Q (.int d) H'
theorem mod_in {x m : Int} (h : 0 < m) : 0 ≤ x % m ∧ x % m < m := ⟨Int.emod_nonneg x (by omega), Int.emod_lt_of_pos x h⟩
theorem ok_law_draw (T : Tx K mg) : FnOk P w K mg base CX0 1 T.f_law_draw T.d_law_draw ["_law_well_here", "_law_many"] spDraw := by
  refine T.h_law_draw.F.ok sc_law_draw (fun vs H Q E h => ?_) (fun cdv A outer s H vs Q E hr h => ?_)
  · obtain ⟨v, t, b, rfl, _⟩ := h
    rfl
  obtain ⟨a, m, b, rfl, ⟨x, y, z, hW, hz0, hzb⟩, h0, h1, q⟩ := h
  refine ⟨_, (pss_cons (ps_if (pt_cmpR op_gt (pe_ix ix_list (pv 0) pe_int (fun _ _ => rfl)) pe_int (nomark _))
      (pss_cons (ps_set (i := 2) sc_law_draw.nd rfl (Or.inl rfl) (pe_op op_mod (pe_callTy call_int1 rfl T.b_int (by decide +kernel) (pa_cons (pe_ix ix_list (pv 0) pe_int (fun _ _ => rfl)) pa_nil)) (pv 1)))
    (pss_cons (ps_asg (pe_op op_fdiv (pe_ix ix_list (pv 0) pe_int (fun _ _ => rfl)) (pv 1)) (pg_sub (pv 0) pe_int set_list))
    (pss_one (ps_ret (pv 2)))))
      pss_nil)
    (pss_cons (ps_asg (pe_op op_add (pe_ix ix_list (pv 0) pe_int (fun _ _ => rfl)) pe_int) (pg_sub (pv 0) pe_int set_list))
    (pss_cons (ps_set (i := 3) sc_law_draw.nd rfl (Or.inl rfl) (pe_op op_mod (pe_callTy call_int1 rfl T.b_int (by decide +kernel) (pa_cons (pe_op op_fdivW (pe_ix ix_list (pv 0) pe_int (fun _ _ => rfl)) pe_int) pa_nil)) pe_int))
    (pss_cons (ps_set (i := 4) sc_law_draw.nd rfl (Or.inl rfl) (pe_op op_add (pe_op op_add (pe_op op_add (pe_op op_mod (pe_callTy call_int1 rfl T.b_int (by decide +kernel) (pa_cons (pe_ix ix_list (pv 0) pe_int (fun _ _ => rfl)) pa_nil)) pe_int) (pe_op op_mul pe_int (pe_ix ix_list (pv 0) pe_int (fun _ _ => rfl)))) (pv 3)) pe_int))
    (pss_cons (ps_set (i := 5) sc_law_draw.nd rfl (Or.inl rfl) (pe_op op_mod (pe_callTy call_int1 rfl T.b_int (by decide +kernel) (pa_cons (pe_op op_pow (pv 4) pe_int) pa_nil)) pe_int))
    (pss_cons (ps_set (i := 5) sc_law_draw.nd rfl (Or.inl rfl) (pe_op op_mod (pe_callTy call_int1 rfl T.b_int (by decide +kernel) (pa_cons (pe_op op_mul (pv 5) (pe_op op_add (pe_op op_add (pe_op op_fdiv (pv 5) pe_int) pe_int) (pe_ix ix_list (pv 0) pe_int (fun _ _ => rfl)))) pa_nil)) pe_int))
    (pss_one (ps_ret (pe_op op_mod (pe_callTy call_int1 rfl T.b_int (by decide +kernel) (pa_cons (pe_op op_mod (pe_callTy call_int1 rfl T.b_int (by decide +kernel) (pa_cons (pe_op op_mul (pv 5) (pe_op op_add (pe_op op_fdiv (pv 5) pe_int) pe_int)) pa_nil)) pe_int) pa_nil)) (pv 1)))))))))), ?_⟩
  refine ⟨_, rfl, a, _, 0, _, rfl, rfl, SqL.of hW, at0, _, _, rfl, rfl, _, rfl, ?_⟩
  refine ite2 (fun _ => ?_) (fun _ => ?_)
  · refine ⟨_, rfl, a, _, 0, _, rfl, rfl, SqL.of hW, at0, .inl ⟨_, rfl, _, rfl, _, _, rfl, rfl, h0, ?_⟩⟩
    refine ⟨_, rfl, a, _, 0, _, rfl, rfl, SqL.of hW, at0, _, rfl, _, _, rfl, rfl, ⟨h0, h1⟩, ?_⟩
    refine ⟨_, rfl, a, _, 0, 0, rfl, rfl, hW, rfl, ?_⟩
    refine ⟨_, rfl, q _ _ (mod_in h0).1 (mod_in h0).2 (Dr.upd hz0 (by omega))⟩
  · refine ⟨_, rfl, a, _, 2, _, rfl, rfl, SqL.of hW, rfl, _, _, rfl, rfl, ?_⟩
    refine ⟨_, rfl, a, _, 2, 2, rfl, rfl, hW, rfl, ?_⟩
    have hW2 : (upd H a (.lst ([V.int x, .int y, .int z].set 2 (.int (z + 1))))) a = some (.lst [.int x, .int y, .int (z + 1)]) := upd_same
    refine ⟨_, rfl, a, _, 1, _, rfl, rfl, SqL.of hW2, rfl, _, _, rfl, rfl, ⟨by decide, by decide +kernel⟩, .inl ⟨_, rfl, _, _, rfl, rfl, (show (0 : Int) < 65521 by decide), ?_⟩⟩
    have b0 := mod_in (x := y / 2147483629) (show (0 : Int) < 65521 by decide)
    generalize y / 2147483629 % 65521 = sa at *
    refine ⟨_, rfl, a, _, 1, _, rfl, rfl, SqL.of hW2, rfl, .inl ⟨_, rfl, _, _, rfl, rfl, (show (0 : Int) < 2147483629 by decide), ?_⟩⟩
    have b1 := mod_in (x := y) (show (0 : Int) < 2147483629 by decide)
    generalize y % 2147483629 = ya at *
    refine ⟨_, rfl, a, _, 2, _, rfl, rfl, SqL.of hW2, rfl, _, _, rfl, rfl, .inl ⟨by decide, by decide⟩, _, _, rfl, rfl, _, rfl, _, _, rfl, rfl, _, _, rfl, rfl, ?_⟩
    refine ⟨_, rfl, _, _, rfl, rfl, ⟨by decide, by decide, by omega⟩, .inl ⟨_, rfl, _, _, rfl, rfl, (show (0 : Int) < 2147483647 by decide), ?_⟩⟩
    have b2 := mod_in (x := (ya + 7919 * (z + 1) + sa + 1) ^ (5 : Int).toNat) (show (0 : Int) < 2147483647 by decide)
    generalize (ya + 7919 * (z + 1) + sa + 1) ^ (5 : Int).toNat % 2147483647 = n1 at *
    refine ⟨_, rfl, _, rfl, _, _, rfl, rfl, ⟨by decide, by decide⟩, _, _, rfl, rfl, _, rfl, a, _, 2, _, rfl, rfl, SqL.of hW2, rfl, _, _, rfl, rfl, _, _, rfl, rfl, .inl ⟨by omega, by omega⟩, .inl ⟨_, rfl, _, _, rfl, rfl, (show (0 : Int) < 2147483629 by decide), ?_⟩⟩
    have b3 := mod_in (x := n1 * (n1 / 1009 + 69621 + (z + 1))) (show (0 : Int) < 2147483629 by decide)
    generalize n1 * (n1 / 1009 + 69621 + (z + 1)) % 2147483629 = n2 at *
    refine ⟨_, rfl, _, rfl, _, _, rfl, rfl, ⟨by decide, by decide⟩, _, _, rfl, rfl, _, _, rfl, rfl, .inl ⟨by omega, by omega⟩, .inl ⟨_, rfl, _, _, rfl, rfl, (show (0 : Int) < 2147483399 by decide), .inl ⟨_, rfl, _, rfl, _, _, rfl, rfl, h0, ?_⟩⟩⟩
    exact q _ _ (mod_in h0).1 (mod_in h0).2 (Dr.upd (by omega) (by omega))
/-- one of some, any of them -/
def spOne (K : PySem.W.Frag) : Sp := fun vs H Q _ => ∃ a l xs b, vs = [.ref a, .ref l] ∧ Well (b + 1) H a ∧ l ≠ a ∧ SqL K H l xs ∧ xs ≠ [] ∧ xs.length ≤ 1000 ∧ ∀ x H', x ∈ xs → Dr b a H H' → Q x H'
theorem ok_law_one (T : Tx K mg) : FnOk P w K mg base CX0 2 T.f_law_one T.d_law_one ["_law_well_here", "_law_some"] (spOne K) := by
  refine T.h_law_one.F.ok sc_law_one (fun vs H Q E h => ?_) (fun cdv A outer s H vs Q E hr h => ?_)
  · obtain ⟨v, t, _, _, rfl, _⟩ := h
    rfl
  obtain ⟨a, l, xs, b, rfl, hW, hne, hL, hx, hz, q⟩ := h
  have hpos : 0 < xs.length := List.length_pos_iff.mpr hx
  refine ⟨_, (pss_one (ps_ret (pe_ix ix_list (pv 1) (cl (ok_law_draw T) T.h_law_draw hr (pa_cons (pv 0) (pa_cons (pe_callB call_len_seq rfl T.b_len (by decide +kernel) (pa_cons (pv 1) pa_nil)) pa_nil))) (fun _ _ => rfl)))), ?_⟩
  refine ⟨_, rfl, _, rfl, _, rfl, l, xs, rfl, .inl hL, a, _, b, rfl, hW, by omega, by omega, fun d H' h1 h2 dr => ?_⟩
  obtain ⟨k, rfl⟩ := Int.eq_ofNat_of_zero_le h1
  have hk : k < xs.length := by omega
  exact ⟨l, xs, _, xs[k], rfl, rfl, dr.sql hne hL, atI_nat (List.getElem?_eq_getElem hk), q _ _ (List.getElem_mem hk) dr⟩
def spCell0 (K : PySem.W.Frag) : Sp := fun vs H Q _ => ∃ a, ∃ ns : List Int, vs = [.ref a, .int 0] ∧ SqL K H a (ns.map V.int) ∧ ∀ z : Int, Q (.int z) H
theorem ok_law_cell_at (T : Tx K mg) : FnOk P w K mg base CX0 1 T.f_law_cell_at T.d_law_cell_at ["_law_script", "_law_k"] (spCell0 K) := by
  refine T.h_law_cell_at.F.ok sc_law_cell_at (fun vs H Q E h => ?_) (fun cdv A outer s H vs Q E hr h => ?_)
  · obtain ⟨a, ns, rfl, _⟩ := h
    rfl
  obtain ⟨a, ns, rfl, hS, q⟩ := h
  refine ⟨_, (pss_cons (ps_if (pt_cmpR op_lt (pv 1) (pe_callB call_len_seq rfl T.b_len (by decide +kernel) (pa_cons (pv 0) pa_nil)) (nomark _))
      (pss_one (ps_ret (pe_ix ix_list (pv 0) (pv 1) (fun _ _ => rfl))))
      pss_nil)
    (pss_one (ps_ret pe_int))), ?_⟩
  refine ⟨_, rfl, _, rfl, a, _, rfl, .inl hS, _, _, rfl, rfl, _, rfl, ?_⟩
  cases ns with
  | nil => exact iteF (q 0)
  | cons n ns =>
    have h : decide ((0 : Int) < (((n :: ns).map V.int).length : Int)) = true := decide_eq_true (by rw [List.length_map, List.length_cons]; omega)
    rw [h]
    exact iteT ⟨_, rfl, _, rfl, a, _, 0, _, rfl, rfl, hS, at0, q n⟩
def spWell : Sp := fun vs H Q _ => ∃ c : Int, vs = [.int c] ∧ ∀ p x y H', H p = none → Ex H H' → H' p = some (.lst [.int x, .int y, .int 0]) → Q (.ref p) H'
theorem ok_law_well (T : Tx K mg) : FnOk P w K mg base CX0 1 T.f_law_well T.d_law_well ["_law_cell"] spWell := by
  refine T.h_law_well.F.ok sc_law_well (fun vs H Q E h => ?_) (fun cdv A outer s H vs Q E hr h => ?_)
  · obtain ⟨c, rfl, _⟩ := h
    rfl
  obtain ⟨c, rfl, q⟩ := h
  refine ⟨_, (pss_one (ps_ret (pe_lst (pa_cons (pe_ix ix_list (pe_lst (pa_cons pe_int (pa_cons (pv 0) pa_nil))) (pe_callTy call_int1 rfl T.b_int (by decide +kernel) (pa_cons (pe_cmpR op_ge (pv 0) (pe_op op_pow pe_int pe_int) (nomark _)) pa_nil)) (fun _ _ => rfl)) (pa_cons (pv 0) (pa_cons pe_int pa_nil)))))), ?_⟩
  refine ⟨_, rfl, (by show 2 ≤ sizeLine; decide), fun p1 hp1 => ⟨_, rfl, _, _, rfl, rfl, ⟨by decide, by decide, by decide⟩, _, _, rfl, rfl, .inr ⟨_, rfl, ?_⟩⟩⟩
  obtain ⟨z, hz⟩ : ∃ z : Int, atI [V.int 0, V.int c] (if decide ((10 : Int) ^ Int.toNat 18 ≤ c) = true then 1 else 0) = some (.int z) := by
    split
    · exact ⟨c, rfl⟩
    · exact ⟨0, rfl⟩
  exact ⟨p1, _, _, _, rfl, rfl, SqL.of upd_same, hz, _, rfl, (by show 3 ≤ sizeLine; decide), fun p hp => q p _ _ _ (ex_none (Ex.new hp1) hp) ((Ex.new hp1).trans (Ex.new hp)) upd_same⟩
end
end Hm

set_option Elab.async false
set_option linter.all false
set_option maxRecDepth 100000
set_option maxHeartbeats 4000000
namespace Hm
open PySem PySem.Spec PyProof.Rows L2 HT
open Evl (Ex)
/-! ### a drawn term -/
def Fd : Nat → Nat
  | 0 => 4
  | e + 1 => 50 + 3 * Fd e
def Sz : Nat → Nat
  | 0 => 1
  | e + 1 => 1 + 3 * Sz e
def Cz : Nat → Nat
  | 0 => 0
  | e + 1 => 4 + 3 * Cz e
mutual
def Vb (m : Int) : Tm → Prop
  | .var k => 0 ≤ k ∧ k < m
  | .int _ => True
  | .atom _ => True
  | .comp _ as => Vbs m as
def Vbs (m : Int) : List Tm → Prop
  | [] => True
  | t :: ts => Vb m t ∧ Vbs m ts
end
theorem vbs_cons (m : Int) (t : Tm) (ts : List Tm) : Vbs m (t :: ts) = (Vb m t ∧ Vbs m ts) := by rw [Vbs]
theorem vbs_app {m : Int} : ∀ {xs ys : List Tm}, Vbs m xs → Vbs m ys → Vbs m (xs ++ ys)
  | [], _, _, h => h
  | x :: xs, ys, h, g => by
    rw [vbs_cons] at h
    show Vbs m (x :: (xs ++ ys))
    rw [vbs_cons]
    exact ⟨h.1, vbs_app h.2 g⟩
theorem Sz_pos (e : Nat) : 1 ≤ Sz e := by
  cases e <;> unfold Sz <;> omega
theorem Fd_pos (e : Nat) : 4 ≤ Fd e := by
  cases e <;> unfold Fd <;> omega
mutual
theorem nc_csz : ∀ t : Tm, nc t ≤ csz t
  | .var _ => Nat.le_refl _
  | .int _ => Nat.le_refl _
  | .atom _ => Nat.le_refl _
  | .comp _ as => by
    have := ncs_cszs as
    unfold nc csz
    omega
theorem ncs_cszs : ∀ ts : List Tm, ncs ts ≤ cszs ts
  | [] => Nat.le_refl _
  | t :: ts => by
    have := nc_csz t
    have := ncs_cszs ts
    rw [ncs_cons, cszs_cons]
    omega
end
mutual
theorem dep_siz : ∀ t : Tm, depth t ≤ size t
  | .var _ => Nat.le_refl _
  | .int _ => Nat.le_refl _
  | .atom _ => Nat.le_refl _
  | .comp _ as => by
    have := deps_siz as
    unfold depth size
    omega
theorem deps_siz : ∀ ts : List Tm, depths ts ≤ sizes ts
  | [] => Nat.le_refl _
  | t :: ts => by
    have := dep_siz t
    have := deps_siz ts
    rw [depths_cons, sizes_cons]
    omega
end
structure TmG (e : Nat) (m : Int) (t : Tm) : Prop where
  ok : Ok t
  siz : size t ≤ Sz e
  cz : csz t ≤ Cz e
  vb : Vb m t
  dep : depth t ≤ e + 1
structure TsG (e : Nat) (m : Int) (ts : List Tm) : Prop where
  ok : Oks ts
  siz : sizes ts ≤ ts.length * Sz e
  cz : cszs ts ≤ ts.length * Cz e
  vb : Vbs m ts
  dep : depths ts ≤ e + 1
theorem depths_snoc : ∀ (ts : List Tm) (t : Tm), depths (ts ++ [t]) = max (depths ts) (depth t)
  | [], t => by
    show max (depth t) 0 = max 0 (depth t)
    omega
  | u :: ts, t => by
    show max (depth u) (depths (ts ++ [t])) = max (max (depth u) (depths ts)) (depth t)
    rw [depths_snoc ts t]
    omega
theorem TsG.nil {e : Nat} {m : Int} : TsG e m [] := ⟨trivial, Nat.zero_le _, Nat.zero_le _, trivial, Nat.zero_le _⟩
theorem TsG.snoc {e : Nat} {m : Int} {ts : List Tm} {t : Tm} (h : TsG e m ts) (g : TmG e m t) : TsG e m (ts ++ [t]) := by
  refine ⟨oks_app.mpr ⟨h.ok, by rw [oks_cons]; exact ⟨g.ok, trivial⟩⟩, ?_, ?_, vbs_app h.vb (by rw [vbs_cons]; exact ⟨g.vb, trivial⟩), ?_⟩
  · rw [sizes_app, sizes_one, List.length_append, List.length_singleton, Nat.add_mul]
    have h1 := h.siz
    have h2 := g.siz
    omega
  · rw [cszs_app, cszs_one, List.length_append, List.length_singleton, Nat.add_mul]
    have h1 := h.cz
    have h2 := g.cz
    omega
  · rw [depths_snoc]
    have h1 := h.dep
    have h2 := g.dep
    omega
theorem TsG.comp {e : Nat} {m : Int} {ts : List Tm} {f : Str} (h : TsG e m ts) (hf : AtomOk f) (h1 : 1 ≤ ts.length) (h2 : ts.length ≤ 3) : TmG (e + 1) m (.comp f ts) := by
  refine ⟨?_, ?_, ?_, by unfold Vb; exact h.vb, by unfold depth; have := h.dep; omega⟩
  · unfold Ok
    exact ⟨hf, h1, by omega, h.ok⟩
  · unfold size Sz
    have := h.siz
    have h3 := Nat.mul_le_mul_right (Sz e) h2
    omega
  · unfold csz Cz
    have := h.cz
    have h3 := Nat.mul_le_mul_right (Cz e) h2
    omega
theorem TsG.many {m : Int} {ts : List Tm} {f : Str} (h : TsG 0 m ts) (hf : AtomOk f) (h1 : 1 ≤ ts.length) (h2 : ts.length ≤ 8) : TmG 3 m (.comp f ts) := by
  refine ⟨?_, ?_, ?_, by unfold Vb; exact h.vb, by unfold depth; have := h.dep; omega⟩
  · unfold Ok
    exact ⟨hf, h1, by omega, h.ok⟩
  · have := h.siz
    have e : Sz 0 = 1 := rfl
    rw [e] at this
    unfold size
    have e3 : Sz 3 = 40 := rfl
    omega
  · have := h.cz
    have e : Cz 0 = 0 := rfl
    rw [e] at this
    unfold csz
    have e3 : Cz 3 = 52 := rfl
    omega
theorem leaf_g {e : Nat} {m : Int} {t : Tm} (h : Ok t) (h1 : size t = 1) (h2 : csz t = 0) (h3 : Vb m t) : TmG e m t := ⟨h, by have := Sz_pos e; omega, by omega, h3, by have := dep_siz t; omega⟩
theorem dec_ii {i j : Int} : decide (V.int i = V.int j) = decide (i = j) := by
  by_cases h : i = j
  · rw [decide_eq_true h, decide_eq_true (by rw [h])]
  · rw [decide_eq_false h, decide_eq_false (fun z => h (by injection z))]
theorem a_ok : AtomOk "a" := ⟨by decide +kernel, by decide +kernel⟩
theorem b_ok : AtomOk "b" := ⟨by decide +kernel, by decide +kernel⟩
theorem n_ok : AtomOk "[]" := ⟨by decide +kernel, by decide +kernel⟩
theorem e_ok : AtomOk "" := ⟨by decide +kernel, by decide +kernel⟩
theorem f_ok : AtomOk "f" := ⟨by decide +kernel, by decide +kernel⟩
theorem g_ok : AtomOk "g" := ⟨by decide +kernel, by decide +kernel⟩
theorem d_ok : AtomOk "." := ⟨by decide +kernel, by decide +kernel⟩
theorem h_ok : AtomOk "h" := ⟨by decide +kernel, by decide +kernel⟩
section
variable {P : Program} {w : World} {K : PySem.W.Frag} {mg : Str → Option Value} {base : Heap}
def spTermN (K : PySem.W.Frag) : Nat → Sp
  | 0 => fun _ _ _ _ => False
  | n + 1 => fun vs H Q _ => ∃ (a : Addr) (e b m : Nat), e ≤ n ∧ vs = [.ref a, .int ((e : Int) + 1), .int (m : Int)] ∧ Well (b + Fd e) H a ∧ m ≤ 1000 ∧ ∀ v t H', Dr b a H H' → Rep K H' t v → TmG e (m : Int) t → Q v H'
theorem term_step (T : Tx K mg) (n : Nat) (ih : FnOk P w K mg base CX0 (n + 3) T.f_law_term T.d_law_term ["_law_well_here", "_law_deep", "_law_many"] (spTermN K n)) :
    FnOk P w K mg base CX0 (n + 3 + 1) T.f_law_term T.d_law_term ["_law_well_here", "_law_deep", "_law_many"] (spTermN K (n + 1)) := by
  refine T.h_law_term.F.ok sc_law_term (fun vs H Q E h => ?_) (fun cdv A outer s H vs Q E hr h => ?_)
  · obtain ⟨a, e, b, m, _, rfl, _⟩ := h
    rfl
  obtain ⟨a, e, b, m, hen, rfl, hW, hm, q⟩ := h
  have hF := Fd_pos e
  refine ⟨_, (pss_cons (ps_set (i := 3) sc_law_term.nd rfl (Or.inl rfl) (cl (ok_law_draw T) T.h_law_draw hr (pa_cons (pv 0) (pa_cons pe_int pa_nil))))
    (Evl.pss_cut (ps_if (PW.pt (pw_and (pt_cmpR op_lt (pv 3) pe_int (nomark _)) (pw_and1 (pt_cmpR op_gt (pv 2) pe_int (nomark _)))))
      (pss_one (ps_ret (pe_tup (pa_cons (cl (ok_law_draw T) T.h_law_draw hr (pa_cons (pv 0) (pa_cons (pv 2) pa_nil))) pa_nil))))
      pss_nil)
    (Evl.pss_cut (ps_if (PW.pt (pw_or (pt_cmpR op_eq (pv 3) pe_int (nomark _)) (pw_or1 (PW.pt (pw_and (pt_cmpR op_le (pv 1) pe_int (nomark _)) (pw_and1 (pt_cmpR op_eq (pv 3) pe_int (nomark _))))))))
      (pss_one (ps_ret (cl (ok_law_one T) T.h_law_one hr (pa_cons (pv 0) (pa_cons (pe_lst (pa_cons pe_int (pa_cons pe_int (pa_cons (pe_un un_neg pe_int) (pa_cons (pe_op op_pow pe_int pe_int) pa_nil))))) pa_nil)))))
      pss_nil)
    (Evl.pss_cut (ps_if (PW.pt (pw_or (pt_cmpR op_le (pv 1) pe_int (nomark _)) (pw_or1 (pt_cmpR op_eq (pv 3) pe_int (nomark _)))))
      (pss_one (ps_ret (cl (ok_law_one T) T.h_law_one hr (pa_cons (pv 0) (pa_cons (pe_lst (pa_cons pe_str (pa_cons pe_str (pa_cons pe_str (pa_cons pe_str pa_nil))))) pa_nil)))))
      pss_nil)
    (Evl.pss_cut (ps_asg (cl (ok_law_one T) T.h_law_one hr (pa_cons (pv 0) (pa_cons (pe_lst (pa_cons (pe_tup (pa_cons pe_str (pa_cons pe_int pa_nil))) (pa_cons (pe_tup (pa_cons pe_str (pa_cons pe_int pa_nil))) (pa_cons (pe_tup (pa_cons pe_str (pa_cons pe_int pa_nil))) (pa_cons (pe_tup (pa_cons pe_str (pa_cons pe_int pa_nil))) (pa_cons (pe_tup (pa_cons pe_str (pa_cons pe_int pa_nil))) (pa_cons (pe_tup (pa_cons pe_str (pa_cons pe_int pa_nil))) pa_nil))))))) pa_nil))) (pg_tup rfl (pgs_cons (pg_name (i := 4) sc_law_term.nd rfl (Or.inl rfl)) (pgs_cons (pg_name (i := 5) sc_law_term.nd rfl (Or.inl rfl)) pgs_nil))))
    (Evl.pss_cut (ps_if (PW.pt (pw_and (pt_cmpR op_eq (pv 1) pe_int (nomark _)) (pw_and1 (pt_cmpR op_eq (cl (ok_law_draw T) T.h_law_draw hr (pa_cons (pv 0) (pa_cons pe_int pa_nil))) pe_int (nomark _)))))
      (pss_one (ps_ret (pe_op op_catT (pe_tup (pa_cons pe_str pa_nil)) (pe_callTy call_tuple_of rfl T.b_tuple (by decide +kernel) (pa_cons (pe_lc (own := [("_law_k", 6)]) (g := gName 6) rfl sc_law_term.nd (pi_range1 rfl T.b_range (pa_cons (pe_op op_add pe_int (cl (ok_law_draw T) T.h_law_draw hr (pa_cons (pv 0) (pa_cons pe_int pa_nil)))) pa_nil)) (blkOk_by (own := [("_law_k", 6)]) (N := ["_law_well_here", "_law_deep", "_law_many", "_law_way", "_law_name", "_law_count", "_law_k"]) (sc := defScope s_law_term) (by decide +kernel)) (fun _ _ _ _ _ => pg_name (i := 6) sc_law_term.nd rfl (Or.inl rfl)) (fun _ _ _ _ _ => pts_nil) (fun _ _ _ _ _ => (cl ih T.h_law_term hr (pa_cons (pv 0) (pa_cons pe_int (pa_cons (pv 2) pa_nil)))))) pa_nil)))))
      pss_nil)
    (pss_one (ps_ret (pe_op op_catT (pe_tup (pa_cons (pv 4) pa_nil)) (pe_callTy call_tuple_of rfl T.b_tuple (by decide +kernel) (pa_cons (pe_lc (own := [("_law_k", 6)]) (g := gName 6) rfl sc_law_term.nd (pi_range1 rfl T.b_range (pa_cons (pv 5) pa_nil)) (blkOk_by (own := [("_law_k", 6)]) (N := ["_law_well_here", "_law_deep", "_law_many", "_law_way", "_law_name", "_law_count", "_law_k"]) (sc := defScope s_law_term) (by decide +kernel)) (fun _ _ _ _ _ => pg_name (i := 6) sc_law_term.nd rfl (Or.inl rfl)) (fun _ _ _ _ _ => pts_nil) (fun _ _ _ _ _ => (cl ih T.h_law_term hr (pa_cons (pv 0) (pa_cons (pe_op op_sub (pv 1) pe_int) (pa_cons (pv 2) pa_nil)))))) pa_nil))))))))))), ?_⟩
  refine ⟨_, rfl, a, 6, b + Fd e - 1, rfl, hW.le (by omega), by decide, by decide, fun way H1 w0 w1 d1 => ?_⟩
  have ini : ∀ H', Dr (b + Fd e - 1) a H H' → True := fun _ _ => trivial
  refine ⟨fun σ' H' => σ' = [some (.ref a), some (.int ((e : Int) + 1)), some (.int (m : Int)), some (.int way), none, none, none] ∧ Dr (b + Fd e - 1) a H H', ?_, ?_⟩
  · refine ⟨_, rfl, _, _, rfl, rfl, _, rfl, ite2 (fun _ => ?_) (fun _ => iteF ⟨rfl, d1⟩)⟩
    refine ⟨_, rfl, _, _, rfl, rfl, _, rfl, ite2 (fun hmm => ?_) (fun _ => ⟨rfl, d1⟩)⟩
    have hm0 : 0 < (m : Int) := of_decide_eq_true hmm
    refine ⟨_, rfl, _, rfl, a, (m : Int), b, rfl, d1.well.le (by omega), hm0, by omega, fun k H2 k0 k1 d2 => ⟨(by show 1 ≤ sizeLine; decide), fun p hp => ?_⟩⟩
    refine q (.ref p) (.var k) _ ((d1.trans d2).trans (Dr.ex d2.well (Ex.new hp))) ?_ (leaf_g (by unfold Ok; exact k0) rfl rfl (by unfold Vb; exact ⟨k0, k1⟩))
    unfold Rep
    exact ⟨p, rfl, SqT.of upd_same⟩
  rintro _ H2 ⟨rfl, d2⟩
  refine ⟨fun σ' H' => σ' = [some (.ref a), some (.int ((e : Int) + 1)), some (.int (m : Int)), some (.int way), none, none, none] ∧ Dr (b + Fd e - 1) a H H', ?_, ?_⟩
  · refine ⟨_, rfl, rfl, decide (way = 2), congrArg V.bl dec_ii, ?_⟩
    refine ite2 (fun _ => ?_) (fun _ => ?_)
    · refine iteT ?_
      refine ⟨_, rfl, _, rfl, _, _, rfl, rfl, ⟨by decide, by decide, by decide⟩, (by show 4 ≤ sizeLine; decide), fun l hl => ?_⟩
      have f2 := Dr.ex (d2.well.le (show b + 1 ≤ _ by omega)) (Ex.new (o := HO.lst [V.int 0, V.int 1, V.int (-1), V.int (10 ^ Int.toNat 20)]) hl)
      refine ⟨a, l, _, b, rfl, f2.well, d2.well.ne hl, SqL.of upd_same, by simp, (by show 4 ≤ 1000; decide), fun x H8 hx d8 => ?_⟩
      have dall := (d2.trans f2).trans d8
      have h9 : (10 : Int) ^ Int.toNat 20 < tooGreat ∧ (1 : Int) < tooGreat ∧ (0 : Int) < tooGreat := by decide +kernel
      have h8 : -tooGreat < (-1 : Int) ∧ -tooGreat < (0 : Int) := by decide +kernel
      simp only [List.mem_cons, List.not_mem_nil, or_false] at hx
      rcases hx with rfl | rfl | rfl | rfl
      · exact q _ (.int 0) H8 dall (by unfold Rep; rfl) (leaf_g (by unfold Ok; exact ⟨h8.2, h9.2.2⟩) rfl rfl (by unfold Vb; trivial))
      · exact q _ (.int 1) H8 dall (by unfold Rep; rfl) (leaf_g (by unfold Ok; exact ⟨by omega, h9.2.1⟩) rfl rfl (by unfold Vb; trivial))
      · exact q _ (.int (-1)) H8 dall (by unfold Rep; rfl) (leaf_g (by unfold Ok; exact ⟨h8.1, by omega⟩) rfl rfl (by unfold Vb; trivial))
      · exact q _ (.int (10 ^ Int.toNat 20)) H8 dall (by unfold Rep; rfl) (leaf_g (by unfold Ok; exact ⟨by decide +kernel, h9.1⟩) rfl rfl (by unfold Vb; trivial))
    · refine ⟨_, rfl, _, _, rfl, rfl, _, rfl, ite2 (fun _ => ?_) (fun _ => iteF ⟨rfl, d2⟩)⟩
      refine ⟨_, rfl, rfl, decide (way = 3), congrArg V.bl dec_ii, ?_⟩
      refine ite2 (fun _ => ?_) (fun _ => ⟨rfl, d2⟩)
      refine ⟨_, rfl, _, rfl, _, _, rfl, rfl, ⟨by decide, by decide, by decide⟩, (by show 4 ≤ sizeLine; decide), fun l hl => ?_⟩
      have f2 := Dr.ex (d2.well.le (show b + 1 ≤ _ by omega)) (Ex.new (o := HO.lst [V.int 0, V.int 1, V.int (-1), V.int (10 ^ Int.toNat 20)]) hl)
      refine ⟨a, l, _, b, rfl, f2.well, d2.well.ne hl, SqL.of upd_same, by simp, (by show 4 ≤ 1000; decide), fun x H8 hx d8 => ?_⟩
      have dall := (d2.trans f2).trans d8
      have h9 : (10 : Int) ^ Int.toNat 20 < tooGreat ∧ (1 : Int) < tooGreat ∧ (0 : Int) < tooGreat := by decide +kernel
      have h8 : -tooGreat < (-1 : Int) ∧ -tooGreat < (0 : Int) := by decide +kernel
      simp only [List.mem_cons, List.not_mem_nil, or_false] at hx
      rcases hx with rfl | rfl | rfl | rfl
      · exact q _ (.int 0) H8 dall (by unfold Rep; rfl) (leaf_g (by unfold Ok; exact ⟨h8.2, h9.2.2⟩) rfl rfl (by unfold Vb; trivial))
      · exact q _ (.int 1) H8 dall (by unfold Rep; rfl) (leaf_g (by unfold Ok; exact ⟨by omega, h9.2.1⟩) rfl rfl (by unfold Vb; trivial))
      · exact q _ (.int (-1)) H8 dall (by unfold Rep; rfl) (leaf_g (by unfold Ok; exact ⟨h8.1, by omega⟩) rfl rfl (by unfold Vb; trivial))
      · exact q _ (.int (10 ^ Int.toNat 20)) H8 dall (by unfold Rep; rfl) (leaf_g (by unfold Ok; exact ⟨by decide +kernel, h9.1⟩) rfl rfl (by unfold Vb; trivial))
  rintro _ H3 ⟨rfl, d3⟩
  refine ⟨fun σ' H' => σ' = [some (.ref a), some (.int ((e : Int) + 1)), some (.int (m : Int)), some (.int way), none, none, none] ∧ Dr (b + Fd e - 1) a H H' ∧ 1 ≤ e, ?_, ?_⟩
  · refine ⟨_, rfl, _, _, rfl, rfl, _, rfl, ite2 (fun _ => ?_) (fun he => ?_)⟩
    · refine iteT ?_
      refine ⟨_, rfl, (by show 4 ≤ sizeLine; decide), fun l hl => ?_⟩
      have f2 := Dr.ex (d3.well.le (show b + 1 ≤ _ by omega)) (Ex.new (o := HO.lst [V.str "a", V.str "b", V.str "[]", V.str ""]) hl)
      refine ⟨a, l, _, b, rfl, f2.well, d3.well.ne hl, SqL.of upd_same, by simp, (by show 4 ≤ 1000; decide), fun x H8 hx d8 => ?_⟩
      have dall := (d3.trans f2).trans d8
      simp only [List.mem_cons, List.not_mem_nil, or_false] at hx
      rcases hx with rfl | rfl | rfl | rfl
      · exact q _ (.atom "a") H8 dall (by unfold Rep; rfl) (leaf_g (by unfold Ok; exact a_ok) rfl rfl (by unfold Vb; trivial))
      · exact q _ (.atom "b") H8 dall (by unfold Rep; rfl) (leaf_g (by unfold Ok; exact b_ok) rfl rfl (by unfold Vb; trivial))
      · exact q _ (.atom "[]") H8 dall (by unfold Rep; rfl) (leaf_g (by unfold Ok; exact n_ok) rfl rfl (by unfold Vb; trivial))
      · exact q _ (.atom "") H8 dall (by unfold Rep; rfl) (leaf_g (by unfold Ok; exact e_ok) rfl rfl (by unfold Vb; trivial))
    · refine ⟨_, rfl, rfl, decide (way = 3), congrArg V.bl dec_ii, ?_⟩
      refine ite2 (fun _ => ?_) (fun _ => ?_)
      · refine ⟨_, rfl, (by show 4 ≤ sizeLine; decide), fun l hl => ?_⟩
        have f2 := Dr.ex (d3.well.le (show b + 1 ≤ _ by omega)) (Ex.new (o := HO.lst [V.str "a", V.str "b", V.str "[]", V.str ""]) hl)
        refine ⟨a, l, _, b, rfl, f2.well, d3.well.ne hl, SqL.of upd_same, by simp, (by show 4 ≤ 1000; decide), fun x H8 hx d8 => ?_⟩
        have dall := (d3.trans f2).trans d8
        simp only [List.mem_cons, List.not_mem_nil, or_false] at hx
        rcases hx with rfl | rfl | rfl | rfl
        · exact q _ (.atom "a") H8 dall (by unfold Rep; rfl) (leaf_g (by unfold Ok; exact a_ok) rfl rfl (by unfold Vb; trivial))
        · exact q _ (.atom "b") H8 dall (by unfold Rep; rfl) (leaf_g (by unfold Ok; exact b_ok) rfl rfl (by unfold Vb; trivial))
        · exact q _ (.atom "[]") H8 dall (by unfold Rep; rfl) (leaf_g (by unfold Ok; exact n_ok) rfl rfl (by unfold Vb; trivial))
        · exact q _ (.atom "") H8 dall (by unfold Rep; rfl) (leaf_g (by unfold Ok; exact e_ok) rfl rfl (by unfold Vb; trivial))
      · have he' : ¬ ((e : Int) + 1 ≤ 1) := fun z => he (decide_eq_true z)
        exact ⟨rfl, d3, by omega⟩
  rintro _ H4 ⟨rfl, d4, he⟩
  obtain ⟨e', rfl⟩ : ∃ e', e = e' + 1 := ⟨e - 1, by omega⟩
  obtain ⟨n', rfl⟩ : ∃ n', n = n' + 1 := ⟨n - 1, by omega⟩
  have hF1 : Fd (e' + 1) = 50 + 3 * Fd e' := by rw [Fd]
  refine ⟨fun σ' H' => ∃ (f : Str) (k : Nat), σ' = [some (.ref a), some (.int (((e' + 1 : Nat) : Int) + 1)), some (.int (m : Int)), some (.int way), some (.str f), some (.int (k : Int)), none] ∧ Dr (b + 40 + 3 * Fd e') a H H' ∧ AtomOk f ∧ 1 ≤ k ∧ k ≤ 3, ?_, ?_⟩
  · refine ⟨_, rfl, (by show 2 ≤ sizeLine; decide), fun p1 hp1 => ⟨(by show 2 ≤ sizeLine; decide), fun p2 hp2 => ⟨(by show 2 ≤ sizeLine; decide), fun p3 hp3 => ⟨(by show 2 ≤ sizeLine; decide), fun p4 hp4 => ⟨(by show 2 ≤ sizeLine; decide), fun p5 hp5 => ⟨(by show 2 ≤ sizeLine; decide), fun p6 hp6 => ⟨(by show 6 ≤ sizeLine; decide), fun l hl => ?_⟩⟩⟩⟩⟩⟩⟩
    have x1 := Ex.new (o := HO.tup [V.str "f", V.int 1]) hp1
    have s1 : SqT K (upd H4 p1 (HO.tup [V.str "f", V.int 1])) p1 [.str "f", .int 1] := SqT.of upd_same
    generalize upd H4 p1 (HO.tup [V.str "f", V.int 1]) = G1 at *
    have x2 := Ex.new (o := HO.tup [V.str "g", V.int 2]) hp2
    have s2 : SqT K (upd G1 p2 (HO.tup [V.str "g", V.int 2])) p2 [.str "g", .int 2] := SqT.of upd_same
    generalize upd G1 p2 (HO.tup [V.str "g", V.int 2]) = G2 at *
    have x3 := Ex.new (o := HO.tup [V.str "g", V.int 2]) hp3
    have s3 : SqT K (upd G2 p3 (HO.tup [V.str "g", V.int 2])) p3 [.str "g", .int 2] := SqT.of upd_same
    generalize upd G2 p3 (HO.tup [V.str "g", V.int 2]) = G3 at *
    have x4 := Ex.new (o := HO.tup [V.str ".", V.int 2]) hp4
    have s4 : SqT K (upd G3 p4 (HO.tup [V.str ".", V.int 2])) p4 [.str ".", .int 2] := SqT.of upd_same
    generalize upd G3 p4 (HO.tup [V.str ".", V.int 2]) = G4 at *
    have x5 := Ex.new (o := HO.tup [V.str "f", V.int 3]) hp5
    have s5 : SqT K (upd G4 p5 (HO.tup [V.str "f", V.int 3])) p5 [.str "f", .int 3] := SqT.of upd_same
    generalize upd G4 p5 (HO.tup [V.str "f", V.int 3]) = G5 at *
    have x6 := Ex.new (o := HO.tup [V.str "f", V.int 3]) hp6
    have s6 : SqT K (upd G5 p6 (HO.tup [V.str "f", V.int 3])) p6 [.str "f", .int 3] := SqT.of upd_same
    generalize upd G5 p6 (HO.tup [V.str "f", V.int 3]) = G6 at *
    have x7 := Ex.new (o := HO.lst [V.ref p1, V.ref p2, V.ref p3, V.ref p4, V.ref p5, V.ref p6]) hl
    have xa := x1.trans (x2.trans (x3.trans (x4.trans (x5.trans x6))))
    have f6 := Dr.ex (d4.well.le (show b + 40 + 3 * Fd e' + 1 ≤ _ by omega)) xa
    have f7 := Dr.ex f6.well x7
    refine ⟨a, l, _, b + 40 + 3 * Fd e', rfl, f7.well, f6.well.ne hl, SqL.of upd_same, by simp, (by show 6 ≤ 1000; decide), fun x H8 hx d8 => ?_⟩
    have tz := Dr.tups (K := K) f7.well d8
    have dall := ((d4.trans f6).trans f7).trans d8
    simp only [List.mem_cons, List.not_mem_nil, or_false] at hx
    rcases hx with rfl | rfl | rfl | rfl | rfl | rfl
    · exact ⟨p1, _, rfl, tz _ _ (Evl.ex_t x7 (Evl.ex_t x6 (Evl.ex_t x5 (Evl.ex_t x4 (Evl.ex_t x3 (Evl.ex_t x2 s1)))))), rfl, _, _, rfl, _, _, rfl, rfl, "f", 1, rfl, dall, f_ok, by decide, by decide⟩
    · exact ⟨p2, _, rfl, tz _ _ (Evl.ex_t x7 (Evl.ex_t x6 (Evl.ex_t x5 (Evl.ex_t x4 (Evl.ex_t x3 s2))))), rfl, _, _, rfl, _, _, rfl, rfl, "g", 2, rfl, dall, g_ok, by decide, by decide⟩
    · exact ⟨p3, _, rfl, tz _ _ (Evl.ex_t x7 (Evl.ex_t x6 (Evl.ex_t x5 (Evl.ex_t x4 s3)))), rfl, _, _, rfl, _, _, rfl, rfl, "g", 2, rfl, dall, g_ok, by decide, by decide⟩
    · exact ⟨p4, _, rfl, tz _ _ (Evl.ex_t x7 (Evl.ex_t x6 (Evl.ex_t x5 s4))), rfl, _, _, rfl, _, _, rfl, rfl, ".", 2, rfl, dall, d_ok, by decide, by decide⟩
    · exact ⟨p5, _, rfl, tz _ _ (Evl.ex_t x7 (Evl.ex_t x6 s5)), rfl, _, _, rfl, _, _, rfl, rfl, "f", 3, rfl, dall, f_ok, by decide, by decide⟩
    · exact ⟨p6, _, rfl, tz _ _ (Evl.ex_t x7 s6), rfl, _, _, rfl, _, _, rfl, rfl, "f", 3, rfl, dall, f_ok, by decide, by decide⟩
  rintro _ H8 ⟨f, k, rfl, d8, hf, k1, k3⟩
  refine ⟨fun σ' H' => σ' = [some (.ref a), some (.int (((e' + 1 : Nat) : Int) + 1)), some (.int (m : Int)), some (.int way), some (.str f), some (.int (k : Int)), none] ∧ Dr (b + 3 * Fd e') a H H', ?_, ?_⟩
  · refine ⟨_, rfl, rfl, decide ((((e' + 1 : Nat) : Int) + 1) = 4), congrArg V.bl dec_ii, ?_⟩
    refine ite2 (fun h4 => ?_) (fun _ => iteF ⟨rfl, d8.le (by omega)⟩)
    have h4' := of_decide_eq_true h4
    refine ⟨_, rfl, a, 3, b + 39 + 3 * Fd e', rfl, d8.well.le (by omega), by decide, by decide, fun z H5 z0 z1 d5 => ⟨rfl, _, rfl, ite2 (fun _ => ?_) (fun _ => ⟨rfl, (d8.trans d5).le (by omega)⟩)⟩⟩
    obtain rfl : e' = 2 := by omega
    have d8 := d8.trans d5
    have w8 := d8.well
    refine ⟨(by show 1 ≤ sizeLine; decide), fun tp htp => ?_⟩
    have e9 := Ex.new (o := HO.tup [.str "h"]) htp
    have w9 := (Dr.ex w8 e9).well
    have hT9 : SqT K (upd H5 tp (.tup [.str "h"])) tp [.str "h"] := SqT.of upd_same
    refine ⟨_, rfl, a, 5, b + 38 + 3 * Fd 2, rfl, w9.le (by omega), by decide, by decide, fun y HR y0 y1 dR => ?_⟩
    obtain ⟨k', rfl⟩ := Int.eq_ofNat_of_zero_le y0
    obtain ⟨k, hk⟩ : ∃ k, k = 4 + k' := ⟨_, rfl⟩
    have k8 : k ≤ 8 := by omega
    have k1 : 1 ≤ k := by omega
    have w10 : Well (b + k * Fd 0) HR a := dR.well.le (by
      have e0 : Fd 0 = 4 := rfl
      have := Nat.mul_le_mul_right (Fd 0) k8
      omega)
    have hTR := (Dr.tups w9 dR) _ _ hT9
    refine ⟨_, _, rfl, rfl, 4 + (k' : Int), rfl, by omega, by omega, fun D hD => ?_⟩
    have hDa := w10.ne hD
    have e10 := Ex.new (o := HO.lst []) hD
    refine lc_it walk_range (fun i H' => i ≤ k ∧ Dr (b + (k - i) * Fd 0) a HR H' ∧ ∃ ts us, H' D = some (.lst us) ∧ Reps K H' ts us ∧ ts.length = i ∧ TsG 0 m ts) ⟨Nat.zero_le _, Dr.ex (w10.le (by rw [Nat.sub_zero]; exact Nat.le_refl _)) e10, [], [], upd_same, Reps.nil, rfl, TsG.nil⟩ (fun _ _ _ _ => trivial) ?_ ?_
    · rintro i x H10x H10 hi ⟨hik, d10, ts, us, hU, hUs, hlen, hall⟩ ⟨rfl, rfl⟩
      have hik' : i < k := by
        have : i < (4 + (k' : Int)).toNat := hi
        omega
      have hmul : (k - i) * Fd 0 = (k - (i + 1)) * Fd 0 + Fd 0 := by
        rw [show k - i = (k - (i + 1)) + 1 by omega, Nat.add_mul, Nat.one_mul]
      refine ⟨rfl, yesI ⟨_, rfl, _, rfl, a, 0, b + (k - (i + 1)) * Fd 0, m, by omega, ?_, d10.well.le (by omega), hm, fun v t H11 d11 hR hDn => ?_⟩⟩
      · rfl
      · have hU11 := d11.keep D _ hDa hU
        have t11 : Tups K H10 H11 := Dr.tups d10.well d11
        have t12 : Tups K H11 (upd H11 D (.lst (us ++ [v]))) := Tups.lst hU11
        have hl2 := hUs.len
        refine ⟨us, hU11, small5' (by omega), by omega, ?_, ts ++ [t], us ++ [v], upd_same, ?_, ?_, hall.snoc hDn⟩
        · obtain ⟨x1, y1, z1, hw, hz1, hz2⟩ := d11.well
          refine ⟨⟨x1, y1, z1, by rw [upd_ne hDa.symm]; exact hw, hz1, hz2⟩, fun b o hb hq => ?_⟩
          have hbD : b ≠ D := fun z => by
            subst z
            rw [hD] at hq
            cases hq
          rw [upd_ne hbD]
          exact d11.keep b o hb (d10.keep b o hb hq)
        · exact Reps.app ((hUs.mono t11).mono t12) (Reps.one (hR.mono t12))
        · rw [List.length_append, List.length_singleton, hlen]
    · rintro H10 ⟨hik, d10, ts, us, hU, hUs, hlen, hall⟩
      have hlen' : ts.length = k := by
        rw [hlen]
        show (4 + (k' : Int)).toNat = k
        omega
      have hl2 := hUs.len
      refine ⟨D, us, rfl, .inl ⟨SqL.of hU, fun q2 hq2 => ?_⟩⟩
      have e11 := Ex.new (o := HO.tup us) hq2
      have hTp := (Dr.tups w10 d10) _ _ hTR
      have w11 := (Dr.ex d10.well e11).well
      refine ⟨tp, q2, [.str "h"], us, rfl, rfl, Evl.ex_t e11 hTp, SqT.of upd_same, by simp, small5 (by simp; omega), fun z => ?_, fun _ p hp => ?_⟩
      · rw [z, List.length_nil] at hl2
        omega
      · have e12 := Ex.new (o := HO.tup ([V.str "h"] ++ us)) hp
        have d11 := Dr.ex d10.well e11
        have dall := (((d8.trans (Dr.ex w8 e9)).trans dR).trans d10).trans (d11.trans (Dr.ex w11 e12))
        refine q (.ref p) (.comp "h" ts) _ (dall.le (by omega)) ?_ ?_
        · unfold Rep
          exact ⟨p, us, rfl, SqT.of upd_same, (hUs.mono (Tups.of e11)).mono (Tups.of e12)⟩
        · exact hall.many h_ok (by omega) (by omega)
  rintro _ H8 ⟨rfl, d8⟩
  have w8 := d8.well
  refine ⟨_, rfl, (by show 1 ≤ sizeLine; decide), fun tp htp => ?_⟩
  have e9 := Ex.new (o := HO.tup [.str f]) htp
  have w9 := (Dr.ex w8 e9).well
  have hT9 : SqT K (upd H8 tp (.tup [.str f])) tp [.str f] := SqT.of upd_same
  have w10 : Well (b + k * Fd e') (upd H8 tp (.tup [.str f])) a := w9.le (by
    have := Nat.mul_le_mul_right (Fd e') k3
    omega)
  obtain ⟨HR, hHR⟩ : ∃ HR, HR = upd H8 tp (.tup [.str f]) := ⟨_, rfl⟩
  have dR : Dr (b + k * Fd e') a (upd H8 tp (.tup [.str f])) HR := by
    rw [hHR]
    exact Dr.ex w10 (Ex.refl _)
  rw [← hHR] at w10
  have hTR : SqT K HR tp [.str f] := by
    rw [hHR]
    exact hT9
  rw [← hHR]
  refine ⟨_, rfl, (k : Int), rfl, by omega, by omega, fun D hD => ?_⟩
  have hDa := w10.ne hD
  have e10 := Ex.new (o := HO.lst []) hD
  refine lc_it walk_range (fun i H' => i ≤ k ∧ Dr (b + (k - i) * Fd e') a HR H' ∧ ∃ ts us, H' D = some (.lst us) ∧ Reps K H' ts us ∧ ts.length = i ∧ TsG e' m ts) ⟨Nat.zero_le _, Dr.ex (w10.le (by rw [Nat.sub_zero]; exact Nat.le_refl _)) e10, [], [], upd_same, Reps.nil, rfl, TsG.nil⟩ (fun _ _ _ _ => trivial) ?_ ?_
  · rintro i x H10x H10 hi ⟨hik, d10, ts, us, hU, hUs, hlen, hall⟩ ⟨rfl, rfl⟩
    have hik' : i < k := by
      have : i < ((k : Int)).toNat := hi
      omega
    have hmul : (k - i) * Fd e' = (k - (i + 1)) * Fd e' + Fd e' := by
      rw [show k - i = (k - (i + 1)) + 1 by omega, Nat.add_mul, Nat.one_mul]
    refine ⟨rfl, yesI ⟨_, rfl, _, rfl, _, _, rfl, rfl, _, rfl, a, e', b + (k - (i + 1)) * Fd e', m, by omega, ?_, d10.well.le (by omega), hm, fun v t H11 d11 hR hDn => ?_⟩⟩
    · have z : (((e' + 1 : Nat) : Int) + 1) - 1 = (e' : Int) + 1 := by omega
      show [V.ref a, V.int ((((e' + 1 : Nat) : Int) + 1) - 1), V.int (m : Int)] = _
      rw [z]
    · have hU11 := d11.keep D _ hDa hU
      have t11 : Tups K H10 H11 := Dr.tups d10.well d11
      have t12 : Tups K H11 (upd H11 D (.lst (us ++ [v]))) := Tups.lst hU11
      have hl2 := hUs.len
      refine ⟨us, hU11, small5' (by omega), by omega, ?_, ts ++ [t], us ++ [v], upd_same, ?_, ?_, hall.snoc hDn⟩
      · obtain ⟨x1, y1, z1, hw, hz1, hz2⟩ := d11.well
        refine ⟨⟨x1, y1, z1, by rw [upd_ne hDa.symm]; exact hw, hz1, hz2⟩, fun b o hb hq => ?_⟩
        have hbD : b ≠ D := fun z => by
          subst z
          rw [hD] at hq
          cases hq
        rw [upd_ne hbD]
        exact d11.keep b o hb (d10.keep b o hb hq)
      · exact Reps.app ((hUs.mono t11).mono t12) (Reps.one (hR.mono t12))
      · rw [List.length_append, List.length_singleton, hlen]
  · rintro H10 ⟨hik, d10, ts, us, hU, hUs, hlen, hall⟩
    have hlen' : ts.length = k := by
      rw [hlen]
      show ((k : Int)).toNat = k
      omega
    have hl2 := hUs.len
    refine ⟨D, us, rfl, .inl ⟨SqL.of hU, fun q2 hq2 => ?_⟩⟩
    have e11 := Ex.new (o := HO.tup us) hq2
    have hTp := (Dr.tups w10 d10) _ _ hTR
    have w11 := (Dr.ex d10.well e11).well
    refine ⟨tp, q2, [.str f], us, rfl, rfl, Evl.ex_t e11 hTp, SqT.of upd_same, by simp, small5 (by simp; omega), fun z => ?_, fun _ p hp => ?_⟩
    · rw [z, List.length_nil] at hl2
      omega
    · have e12 := Ex.new (o := HO.tup ([V.str f] ++ us)) hp
      have d11 := Dr.ex d10.well e11
      have dall := (((d8.trans (Dr.ex w8 e9)).trans dR).trans d10).trans (d11.trans (Dr.ex w11 e12))
      refine q (.ref p) (.comp f ts) _ (dall.le (by omega)) ?_ ?_
      · unfold Rep
        exact ⟨p, us, rfl, SqT.of upd_same, (hUs.mono (Tups.of e11)).mono (Tups.of e12)⟩
      · exact hall.comp hf (by omega) (by omega)
theorem ok_law_term (T : Tx K mg) : ∀ n : Nat, FnOk P w K mg base CX0 (n + 3) T.f_law_term T.d_law_term ["_law_well_here", "_law_deep", "_law_many"] (spTermN K n)
  | 0 => ⟨fun _ _ _ _ h => h.elim, fun _ _ _ _ _ _ _ _ _ _ _ _ _ h => h.elim⟩
  | n + 1 => term_step T n (ok_law_term T n)
end
end Hm

set_option Elab.async false
set_option linter.all false
set_option maxRecDepth 100000
set_option maxHeartbeats 1000000
namespace Hm
open PySem
/-! ### reading: plain -/
/-! what a cell stands for: a term whose variables lie at ad -/
mutual
def Den (M : Mem) (ad : Int → Ad) : Tm → Ce → Prop
  | .var k, c => ∃ j, Fol M j c (.ref (ad k))
  | .atom s, c => ∃ j, Fol M j c (.con s)
  | .int i, c => ∃ j, Fol M j c (.num i)
  | .comp f ts, c => ∃ j n, Fol M j c (.str n) ∧ M.cs[n]? = some (.fn f ts.length) ∧ n + ts.length < M.cs.length ∧ Dens M ad ts ((M.cs.drop (n + 1)).take ts.length)
def Dens (M : Mem) (ad : Int → Ad) : List Tm → List Ce → Prop
  | [], cs => cs = []
  | t :: ts, cs => ∃ c r, cs = c :: r ∧ Den M ad t c ∧ Dens M ad ts r
end
/-! the variables in their first order -/
mutual
def vx : List Int → Tm → List Int
  | ns, .var k => addNew ns k
  | ns, .comp _ ts => vxs ns ts
  | ns, .atom _ => ns
  | ns, .int _ => ns
def vxs : List Int → List Tm → List Int
  | ns, [] => ns
  | ns, t :: ts => vxs (vx ns t) ts
end
mutual
def Vin (ns : List Int) : Tm → Prop
  | .var k => k ∈ ns
  | .comp _ ts => Vins ns ts
  | .atom _ => True
  | .int _ => True
def Vins (ns : List Int) : List Tm → Prop
  | [] => True
  | t :: ts => Vin ns t ∧ Vins ns ts
end
mutual
def numT (ns : List Int) : Tm → Tm
  | .var k => .var (ns.idxOf k : Nat)
  | .comp f ts => .comp f (numTs ns ts)
  | .atom s => .atom s
  | .int i => .int i
def numTs (ns : List Int) : List Tm → List Tm
  | [] => []
  | t :: ts => numT ns t :: numTs ns ts
end
theorem numTs_len (ns : List Int) : ∀ ts : List Tm, (numTs ns ts).length = ts.length
  | [] => rfl
  | t :: ts => by
    show (numTs ns ts).length + 1 = _
    rw [numTs_len ns ts]
    rfl
theorem addNew_pre (ns : List Int) (k : Int) : ∃ x, addNew ns k = ns ++ x := by
  unfold addNew
  split
  · exact ⟨[], (List.append_nil _).symm⟩
  · exact ⟨[k], rfl⟩
theorem addNew_mem (ns : List Int) (k : Int) : k ∈ addNew ns k := by
  unfold addNew
  split
  · assumption
  · simp
mutual
theorem vx_pre : ∀ (t : Tm) (ns : List Int), ∃ x, vx ns t = ns ++ x
  | .var k, ns => addNew_pre ns k
  | .comp _ ts, ns => vxs_pre ts ns
  | .atom _, ns => ⟨[], (List.append_nil _).symm⟩
  | .int _, ns => ⟨[], (List.append_nil _).symm⟩
theorem vxs_pre : ∀ (ts : List Tm) (ns : List Int), ∃ x, vxs ns ts = ns ++ x
  | [], ns => ⟨[], (List.append_nil _).symm⟩
  | t :: ts, ns => by
    obtain ⟨x, hx⟩ := vx_pre t ns
    obtain ⟨y, hy⟩ := vxs_pre ts (vx ns t)
    exact ⟨x ++ y, by show vxs (vx ns t) ts = _; rw [hy, hx, List.append_assoc]⟩
end
mutual
theorem vin_ext {ns : List Int} (x : List Int) : ∀ t : Tm, Vin ns t → Vin (ns ++ x) t
  | .var k, h => List.mem_append_left _ h
  | .comp _ ts, h => vins_ext x ts h
  | .atom _, _ => trivial
  | .int _, _ => trivial
theorem vins_ext {ns : List Int} (x : List Int) : ∀ ts : List Tm, Vins ns ts → Vins (ns ++ x) ts
  | [], _ => trivial
  | t :: ts, h => ⟨vin_ext x t h.1, vins_ext x ts h.2⟩
end
mutual
theorem num_ext {ns : List Int} (x : List Int) : ∀ t : Tm, Vin ns t → numT (ns ++ x) t = numT ns t
  | .var k, h => by
    have h' : k ∈ ns := h
    show Tm.var ((ns ++ x).idxOf k : Nat) = _
    rw [List.idxOf_append, if_pos h']
    rfl
  | .comp f ts, h => by
    show Tm.comp f (numTs (ns ++ x) ts) = Tm.comp f (numTs ns ts)
    rw [nums_ext x ts h]
  | .atom _, _ => rfl
  | .int _, _ => rfl
theorem nums_ext {ns : List Int} (x : List Int) : ∀ ts : List Tm, Vins ns ts → numTs (ns ++ x) ts = numTs ns ts
  | [], _ => rfl
  | t :: ts, h => by
    show numT (ns ++ x) t :: numTs (ns ++ x) ts = numT ns t :: numTs ns ts
    rw [num_ext x t h.1, nums_ext x ts h.2]
end
mutual
theorem vx_in : ∀ (t : Tm) (ns : List Int), Vin (vx ns t) t
  | .var k, ns => addNew_mem ns k
  | .comp _ ts, ns => vxs_in ts ns
  | .atom _, _ => trivial
  | .int _, _ => trivial
theorem vxs_in : ∀ (ts : List Tm) (ns : List Int), Vins (vxs ns ts) ts
  | [], _ => trivial
  | t :: ts, ns => by
    obtain ⟨y, hy⟩ := vxs_pre ts (vx ns t)
    refine ⟨?_, vxs_in ts (vx ns t)⟩
    show Vin (vxs (vx ns t) ts) t
    rw [hy]
    exact vin_ext y t (vx_in t ns)
end
/-! what was read already -/
def kget : List (Nat × Tm) → Nat → Option Tm
  | [], _ => none
  | (a, u) :: r, n => if n = a then some u else kget r n
def addA (l : List Ad) (a : Ad) : List Ad := if a ∈ l then l else l ++ [a]
/-- the loop of read: the last that waits stands first -/
inductive Rd (M : Mem) : Nat → List (Ce × Bool) → List Tm → List Ad → List (Nat × Tm) → List Tm → List Ad → Prop where
  | nil {D : List Tm} {as : List Ad} {kn : List (Nat × Tm)} : Rd M 0 [] D as kn D as
  | hit {m k n : Nat} {c : Ce} {u : Tm} {W : List (Ce × Bool)} {D D' : List Tm} {as as' : List Ad} {kn : List (Nat × Tm)} : Fol M k c (.str n) → kget kn n = some u → D.length ≤ 1000000 → Rd M m W (D ++ [u]) as kn D' as' → Rd M (m + 1) ((c, false) :: W) D as kn D' as'
  | opn {m k n j : Nat} {f : Str} {c : Ce} {W : List (Ce × Bool)} {D D' : List Tm} {as as' : List Ad} {kn : List (Nat × Tm)} : Fol M k c (.str n) → kget kn n = none → M.cs[n]? = some (.fn f j) → n + j < M.cs.length → W.length + j ≤ 1000000 →
      Rd M m (((M.cs.drop (n + 1)).take j).map (fun x => (x, false)) ++ (.str n, true) :: W) D as kn D' as' → Rd M (m + 1) ((c, false) :: W) D as kn D' as'
  | shut {m k n j : Nat} {f : Str} {c : Ce} {W : List (Ce × Bool)} {D D' : List Tm} {as as' : List Ad} {kn : List (Nat × Tm)} : Fol M k c (.str n) → M.cs[n]? = some (.fn f j) → 1 ≤ j → j ≤ D.length → D.length ≤ 1000000 → kn.length ≤ 1000000 →
      Rd M m W (D.take (D.length - j) ++ [.comp f (D.drop (D.length - j))]) as ((n, .comp f (D.drop (D.length - j))) :: kn) D' as' → Rd M (m + 1) ((c, true) :: W) D as kn D' as'
  | ref {m k : Nat} {a : Ad} {c : Ce} {W : List (Ce × Bool)} {D D' : List Tm} {as as' : List Ad} {kn : List (Nat × Tm)} : Fol M k c (.ref a) → as.length ≤ 1000000 → D.length ≤ 1000000 → Rd M m W (D ++ [.var ((addA as a).idxOf a : Nat)]) (addA as a) kn D' as' → Rd M (m + 1) ((c, false) :: W) D as kn D' as'
  | con {m k : Nat} {s : Str} {c : Ce} {W : List (Ce × Bool)} {D D' : List Tm} {as as' : List Ad} {kn : List (Nat × Tm)} : Fol M k c (.con s) → D.length ≤ 1000000 → Rd M m W (D ++ [.atom s]) as kn D' as' → Rd M (m + 1) ((c, false) :: W) D as kn D' as'
  | num {m k : Nat} {i : Int} {c : Ce} {W : List (Ce × Bool)} {D D' : List Tm} {as as' : List Ad} {kn : List (Nat × Tm)} : Fol M k c (.num i) → D.length ≤ 1000000 → Rd M m W (D ++ [.int i]) as kn D' as' → Rd M (m + 1) ((c, false) :: W) D as kn D' as'
theorem Fol.det {M : Mem} {k : Nat} {c e : Ce} (h : Fol M k c e) : ∀ {k' : Nat} {e' : Ce}, Fol M k' c e' → e = e' := by
  induction h with
  | stop no =>
    intro k' e' g
    cases g with
    | stop _ => rfl
    | self _ => rfl
    | step _ _ _ => exact absurd rfl (no _)
  | self hat =>
    intro k' e' g
    cases g with
    | stop no => exact absurd rfl (no _)
    | self _ => rfl
    | step h1 h2 _ =>
      rw [hat] at h1
      exact absurd (Option.some.inj h1).symm h2
  | step h1 h2 _ ih =>
    intro k' e' g
    cases g with
    | stop no => exact absurd rfl (no _)
    | self hat =>
      rw [h1] at hat
      exact absurd (Option.some.inj hat) h2
    | step g1 _ g3 =>
      rw [h1] at g1
      cases g1
      exact ih g3
/-- the addresses of variables are their own -/
def Inj (m : Int) (ad : Int → Ad) : Prop := ∀ j k, 0 ≤ j → j < m → 0 ≤ k → k < m → ad j = ad k → j = k
mutual
theorem den_fun {M : Mem} {ad : Int → Ad} {m : Int} (hi : Inj m ad) : ∀ (t u : Tm) (c : Ce), Vb m t → Vb m u → Den M ad t c → Den M ad u c → t = u
  | .var k, u, c, hv, hw, h, g => by
    unfold Den at h
    obtain ⟨_, f1⟩ := h
    cases u with
    | var j =>
      unfold Den at g
      obtain ⟨_, f2⟩ := g
      have e := f1.det f2
      unfold Vb at hv hw
      rw [hi k j hv.1 hv.2 hw.1 hw.2 (Ce.ref.inj e)]
    | atom s =>
      unfold Den at g
      obtain ⟨_, f2⟩ := g
      cases f1.det f2
    | int s =>
      unfold Den at g
      obtain ⟨_, f2⟩ := g
      cases f1.det f2
    | comp f ts =>
      unfold Den at g
      obtain ⟨_, _, f2, _⟩ := g
      cases f1.det f2
  | .atom s, u, c, hv, hw, h, g => by
    unfold Den at h
    obtain ⟨_, f1⟩ := h
    cases u with
    | var j =>
      unfold Den at g
      obtain ⟨_, f2⟩ := g
      cases f1.det f2
    | atom s =>
      unfold Den at g
      obtain ⟨_, f2⟩ := g
      cases f1.det f2
      rfl
    | int s =>
      unfold Den at g
      obtain ⟨_, f2⟩ := g
      cases f1.det f2
    | comp f ts =>
      unfold Den at g
      obtain ⟨_, _, f2, _⟩ := g
      cases f1.det f2
  | .int s, u, c, hv, hw, h, g => by
    unfold Den at h
    obtain ⟨_, f1⟩ := h
    cases u with
    | var j =>
      unfold Den at g
      obtain ⟨_, f2⟩ := g
      cases f1.det f2
    | atom s =>
      unfold Den at g
      obtain ⟨_, f2⟩ := g
      cases f1.det f2
    | int s =>
      unfold Den at g
      obtain ⟨_, f2⟩ := g
      cases f1.det f2
      rfl
    | comp f ts =>
      unfold Den at g
      obtain ⟨_, _, f2, _⟩ := g
      cases f1.det f2
  | .comp f ts, u, c, hv, hw, h, g => by
    unfold Den at h
    obtain ⟨_, n, f1, h1, h2, h3⟩ := h
    cases u with
    | var j =>
      unfold Den at g
      obtain ⟨_, f2⟩ := g
      cases f1.det f2
    | atom s =>
      unfold Den at g
      obtain ⟨_, f2⟩ := g
      cases f1.det f2
    | int s =>
      unfold Den at g
      obtain ⟨_, f2⟩ := g
      cases f1.det f2
    | comp f' ts' =>
      unfold Den at g
      obtain ⟨_, n', f2, g1, g2, g3⟩ := g
      cases f1.det f2
      rw [h1] at g1
      injection g1 with g1
      injection g1 with e1 e2
      subst e1
      rw [← e2] at g3
      unfold Vb at hv hw
      rw [dens_fun hi ts ts' _ hv hw h3 g3]
theorem dens_fun {M : Mem} {ad : Int → Ad} {m : Int} (hi : Inj m ad) : ∀ (ts us : List Tm) (cs : List Ce), Vbs m ts → Vbs m us → Dens M ad ts cs → Dens M ad us cs → ts = us
  | [], [], _, _, _, _, _ => rfl
  | [], u :: us, cs, _, _, h, g => by
    unfold Dens at h g
    obtain ⟨c, r, e, _⟩ := g
    rw [h] at e
    cases e
  | t :: ts, [], cs, _, _, h, g => by
    unfold Dens at h g
    obtain ⟨c, r, e, _⟩ := h
    rw [g] at e
    cases e
  | t :: ts, u :: us, cs, hv, hw, h, g => by
    unfold Dens at h g
    obtain ⟨c, r, rfl, h1, h2⟩ := h
    obtain ⟨c', r', e, g1, g2⟩ := g
    cases e
    rw [vbs_cons] at hv hw
    rw [den_fun hi t u _ hv.1 hw.1 h1 g1, dens_fun hi ts us _ hv.2 hw.2 h2 g2]
end
/-- what was read already is right -/
def VKn (M : Mem) (ad : Int → Ad) (m : Int) (ns : List Int) (kn : List (Nat × Tm)) : Prop := ∀ n u, kget kn n = some u → ∃ f ts, Den M ad (.comp f ts) (.str n) ∧ Vb m (.comp f ts) ∧ Vin ns (.comp f ts) ∧ u = numT ns (.comp f ts)
theorem VKn.ext {M : Mem} {ad : Int → Ad} {m : Int} {ns : List Int} {kn : List (Nat × Tm)} (h : VKn M ad m ns kn) (x : List Int) : VKn M ad m (ns ++ x) kn := fun n u e => by
  obtain ⟨f, ts, h1, h2, h3, h4⟩ := h n u e
  exact ⟨f, ts, h1, h2, vin_ext x _ h3, by rw [num_ext x _ h3]; exact h4⟩
theorem mem_map_ad {ad : Int → Ad} {m : Int} (hi : Inj m ad) {ns : List Int} (hn : ∀ j ∈ ns, 0 ≤ j ∧ j < m) {k : Int} (hk : 0 ≤ k ∧ k < m) : ad k ∈ ns.map ad ↔ k ∈ ns := by
  constructor
  · intro h
    obtain ⟨j, hj, e⟩ := List.mem_map.1 h
    have := hn j hj
    rw [← hi j k this.1 this.2 hk.1 hk.2 e]
    exact hj
  · exact fun h => List.mem_map_of_mem h
theorem idx_map_ad {ad : Int → Ad} {m : Int} (hi : Inj m ad) {k : Int} (hk : 0 ≤ k ∧ k < m) : ∀ (ns : List Int), (∀ j ∈ ns, 0 ≤ j ∧ j < m) → (ns.map ad).idxOf (ad k) = ns.idxOf k
  | [], _ => rfl
  | j :: ns, hn => by
    have hj := hn j (List.mem_cons_self ..)
    have ih := idx_map_ad hi hk ns (fun i h => hn i (List.mem_cons_of_mem _ h))
    rw [List.map_cons, List.idxOf_cons, List.idxOf_cons, ih]
    by_cases e : j = k
    · subst e
      simp
    · have e' : ad j ≠ ad k := fun z => e (hi j k hj.1 hj.2 hk.1 hk.2 z)
      have b1 : (j == k) = false := by simpa using e
      have b2 : (ad j == ad k) = false := by simpa using e'
      rw [b1, b2]
theorem addA_map {ad : Int → Ad} {m : Int} (hi : Inj m ad) {ns : List Int} (hn : ∀ j ∈ ns, 0 ≤ j ∧ j < m) {k : Int} (hk : 0 ≤ k ∧ k < m) : addA (ns.map ad) (ad k) = (addNew ns k).map ad := by
  unfold addA addNew
  by_cases h : k ∈ ns
  · rw [if_pos h, if_pos ((mem_map_ad hi hn hk).2 h)]
  · rw [if_neg h, if_neg (fun z => h ((mem_map_ad hi hn hk).1 z)), List.map_append]
    rfl
mutual
theorem vx_rng {m : Int} : ∀ (t : Tm) (ns : List Int), Vb m t → (∀ j ∈ ns, 0 ≤ j ∧ j < m) → ∀ j ∈ vx ns t, 0 ≤ j ∧ j < m
  | .var k, ns, hv, hn => by
    unfold Vb at hv
    intro j hj
    have hj' : j ∈ addNew ns k := hj
    unfold addNew at hj'
    split at hj'
    · exact hn j hj'
    · rcases List.mem_append.1 hj' with h | h
      · exact hn j h
      · cases List.mem_singleton.1 h
        exact hv
  | .comp _ ts, ns, hv, hn => by
    unfold Vb at hv
    exact vxs_rng ts ns hv hn
  | .atom _, _, _, hn => hn
  | .int _, _, _, hn => hn
theorem vxs_rng {m : Int} : ∀ (ts : List Tm) (ns : List Int), Vbs m ts → (∀ j ∈ ns, 0 ≤ j ∧ j < m) → ∀ j ∈ vxs ns ts, 0 ≤ j ∧ j < m
  | [], _, _, hn => hn
  | t :: ts, ns, hv, hn => by
    rw [vbs_cons] at hv
    exact vxs_rng ts (vx ns t) hv.2 (vx_rng t ns hv.1 hn)
end
mutual
theorem vx_size : ∀ (t : Tm) (ns : List Int), (vx ns t).length ≤ ns.length + size t
  | .var k, ns => by
    have := addNew_len ns k
    show (addNew ns k).length ≤ _
    unfold size
    omega
  | .comp _ ts, ns => by
    have := vxs_size ts ns
    show (vxs ns ts).length ≤ _
    unfold size
    omega
  | .atom _, ns => Nat.le_add_right _ _
  | .int _, ns => Nat.le_add_right _ _
theorem vxs_size : ∀ (ts : List Tm) (ns : List Int), (vxs ns ts).length ≤ ns.length + sizes ts
  | [], ns => Nat.le_add_right _ _
  | t :: ts, ns => by
    have h1 := vx_size t ns
    have h2 := vxs_size ts (vx ns t)
    rw [sizes_cons]
    show (vxs (vx ns t) ts).length ≤ _
    omega
end
mutual
/-- a cell is read: its term stands behind what was read before -/
theorem rd_one {M : Mem} {ad : Int → Ad} {m : Int} (hi : Inj m ad) : ∀ (t : Tm) (c : Ce), Den M ad t c → Ok t → Vb m t → ∀ (D : List Tm) (ns : List Int) (kn : List (Nat × Tm)), (∀ j ∈ ns, 0 ≤ j ∧ j < m) → VKn M ad m ns kn →
    D.length + size t ≤ 1000000 → ns.length + size t ≤ 1000000 → kn.length + size t ≤ 1000000 → ∃ kn', VKn M ad m (vx ns t) kn' ∧ kn'.length ≤ kn.length + size t ∧
    ∀ (q : Nat) (W : List (Ce × Bool)) (D' : List Tm) (as' : List Ad), W.length + size t ≤ 1000000 → Rd M q W (D ++ [numT (vx ns t) t]) ((vx ns t).map ad) kn' D' as' → ∃ q', Rd M q' ((c, false) :: W) D (ns.map ad) kn D' as'
  | .var k, c, h, _, hv, D, ns, kn, hn, hk, b1, b2, b3 => by
    unfold Den at h
    obtain ⟨j, f⟩ := h
    unfold Vb at hv
    obtain ⟨x, hx⟩ := addNew_pre ns k
    have e : vx ns (.var k) = addNew ns k := rfl
    have sz : size (.var k) = 1 := rfl
    refine ⟨kn, by rw [e, hx]; exact hk.ext x, by omega, fun q W D' as' _ h => ⟨q + 1, .ref f (by rw [List.length_map]; omega) (by omega) ?_⟩⟩
    rw [addA_map hi hn hv, idx_map_ad hi hv (addNew ns k) (vx_rng (.var k) ns (by unfold Vb; exact hv) hn)]
    exact h
  | .atom s, c, h, _, hv, D, ns, kn, hn, hk, b1, b2, b3 => by
    unfold Den at h
    obtain ⟨j, f⟩ := h
    exact ⟨kn, hk, by omega, fun q W D' as' _ h => ⟨q + 1, .con f (by omega) h⟩⟩
  | .int i, c, h, _, hv, D, ns, kn, hn, hk, b1, b2, b3 => by
    unfold Den at h
    obtain ⟨j, f⟩ := h
    exact ⟨kn, hk, by omega, fun q W D' as' _ h => ⟨q + 1, .num f (by omega) h⟩⟩
  | .comp f ts, c, h, ho, hv, D, ns, kn, hn, hk, b1, b2, b3 => by
    have hd := h
    unfold Den at h
    obtain ⟨j, n, fo, h1, h2, h3⟩ := h
    have hv0 := hv
    unfold Vb at hv
    unfold Ok at ho
    have hself : Den M ad (.comp f ts) (.str n) := by
      unfold Den
      exact ⟨0, n, .stop (fun a z => by cases z), h1, h2, h3⟩
    have sz : size (.comp f ts) = 1 + sizes ts := by rw [size]
    cases hg : kget kn n with
    | some u =>
      obtain ⟨f', ts', g1, g2, g3, rfl⟩ := hk n u hg
      have e := den_fun hi _ _ _ g2 hv0 g1 hself
      rw [e] at g3
      have same : ∀ (t : Tm) (ns : List Int), Vin ns t → vx ns t = ns := by
        intro t
        exact (Tm.rec (motive_1 := fun t => ∀ ns, Vin ns t → vx ns t = ns) (motive_2 := fun ts => ∀ ns, Vins ns ts → vxs ns ts = ns) (fun k ns h => by
          show addNew ns k = ns
          unfold addNew
          exact if_pos h) (fun _ _ _ => rfl) (fun _ _ _ => rfl) (fun _ _ ih ns h => ih ns h) (fun _ _ => rfl) (fun t ts i1 i2 ns h => by
          show vxs (vx ns t) ts = ns
          rw [i1 ns h.1]
          exact i2 ns h.2) t)
      have e2 := same _ _ g3
      rw [e2]
      refine ⟨kn, hk, by omega, fun q W D' as' _ h => ⟨q + 1, .hit fo hg (by omega) ?_⟩⟩
      rw [e]
      exact h
    | none =>
      obtain ⟨kn', k1, k2, k3⟩ := rd_all hi ts _ h3 ho.2.2.2 hv D ns kn hn hk (by omega) (by omega) (by omega)
      have ex : vx ns (.comp f ts) = vxs ns ts := rfl
      have hin := vxs_in ts ns
      refine ⟨(n, numT (vxs ns ts) (.comp f ts)) :: kn', fun n' u e => ?_, by rw [List.length_cons]; omega, fun q W D' as' bw h => ?_⟩
      · rw [ex]
        unfold kget at e
        by_cases q : n' = n
        · rw [if_pos q] at e
          cases e
          subst q
          exact ⟨f, ts, hself, hv0, hin, rfl⟩
        · rw [if_neg q] at e
          exact k1 n' u e
      · have ls := len_sizes ts
        have hlen := numTs_len (vxs ns ts) ts
        have shutR : Rd M (q + 1) ((.str n, true) :: W) (D ++ numTs (vxs ns ts) ts) ((vxs ns ts).map ad) kn' D' as' := by
          have e1 : (D ++ numTs (vxs ns ts) ts).length - ts.length = D.length := by rw [List.length_append, hlen]; omega
          refine .shut (j := ts.length) (.stop (fun a z => by cases z)) h1 ho.2.1 (by rw [List.length_append, hlen]; omega) (by rw [List.length_append, hlen]; omega) (by omega) ?_
          rw [e1, List.take_left, List.drop_left]
          exact h
        obtain ⟨q', h'⟩ := k3 (q + 1) ((.str n, true) :: W) D' as' (by rw [List.length_cons]; omega) shutR
        exact ⟨q' + 1, .opn fo hg h1 h2 (by omega) h'⟩
theorem rd_all {M : Mem} {ad : Int → Ad} {m : Int} (hi : Inj m ad) : ∀ (ts : List Tm) (cs : List Ce), Dens M ad ts cs → Oks ts → Vbs m ts → ∀ (D : List Tm) (ns : List Int) (kn : List (Nat × Tm)), (∀ j ∈ ns, 0 ≤ j ∧ j < m) → VKn M ad m ns kn →
    D.length + sizes ts ≤ 1000000 → ns.length + sizes ts ≤ 1000000 → kn.length + sizes ts ≤ 1000000 → ∃ kn', VKn M ad m (vxs ns ts) kn' ∧ kn'.length ≤ kn.length + sizes ts ∧
    ∀ (q : Nat) (W : List (Ce × Bool)) (D' : List Tm) (as' : List Ad), W.length + sizes ts ≤ 1000000 → Rd M q W (D ++ numTs (vxs ns ts) ts) ((vxs ns ts).map ad) kn' D' as' → ∃ q', Rd M q' (cs.map (fun x => (x, false)) ++ W) D (ns.map ad) kn D' as'
  | [], cs, h, _, _, D, ns, kn, hn, hk, _, _, _ => by
    unfold Dens at h
    subst h
    exact ⟨kn, hk, by omega, fun q W D' as' _ h => ⟨q, by rw [show numTs (vxs ns []) [] = [] from rfl, List.append_nil] at h; exact h⟩⟩
  | t :: ts, cs, h, ho, hv, D, ns, kn, hn, hk, b1, b2, b3 => by
    unfold Dens at h
    obtain ⟨c, r, rfl, h1, h2⟩ := h
    rw [oks_cons] at ho
    rw [vbs_cons] at hv
    rw [sizes_cons] at b1 b2 b3
    have v1 := vx_size t ns
    have s1 := size_pos t
    obtain ⟨kn1, k1, l1, r1⟩ := rd_one hi t c h1 ho.1 hv.1 D ns kn hn hk (by omega) (by omega) (by omega)
    obtain ⟨kn2, k2, l2, r2⟩ := rd_all hi ts r h2 ho.2 hv.2 (D ++ [numT (vx ns t) t]) (vx ns t) kn1 (vx_rng t ns hv.1 hn) k1 (by rw [List.length_append, List.length_singleton]; omega) (by omega) (by omega)
    refine ⟨kn2, k2, by rw [sizes_cons]; omega, fun q W D' as' bw h => ?_⟩
    rw [sizes_cons] at bw
    obtain ⟨y, hy⟩ := vxs_pre ts (vx ns t)
    have e : vxs ns (t :: ts) = vxs (vx ns t) ts := rfl
    have e2 : D ++ numTs (vxs ns (t :: ts)) (t :: ts) = (D ++ [numT (vx ns t) t]) ++ numTs (vxs (vx ns t) ts) ts := by
      show D ++ (numT (vxs (vx ns t) ts) t :: numTs (vxs (vx ns t) ts) ts) = _
      rw [show numT (vxs (vx ns t) ts) t = numT (vx ns t) t by rw [hy]; exact num_ext y t (vx_in t ns), List.append_assoc]
      rfl
    rw [e2] at h
    obtain ⟨q1, h'⟩ := r2 q W D' as' (by omega) h
    have lr : r.length = ts.length := by
      have go : ∀ (ts : List Tm) (cs : List Ce), Dens M ad ts cs → cs.length = ts.length := by
        intro ts
        induction ts with
        | nil =>
          intro cs h
          unfold Dens at h
          rw [h]
          rfl
        | cons t ts ih =>
          intro cs h
          unfold Dens at h
          obtain ⟨c, r, rfl, _, h2⟩ := h
          rw [List.length_cons, List.length_cons, ih r h2]
      exact go ts r h2
    have ls := len_sizes ts
    obtain ⟨q2, h2'⟩ := r1 q1 (r.map (fun x => (x, false)) ++ W) D' as' (by rw [List.length_append, List.length_map, lr]; omega) h'
    exact ⟨q2, h2'⟩
end
end Hm

set_option Elab.async false
set_option linter.all false
set_option maxRecDepth 100000
set_option maxHeartbeats 1000000
/-! setdefault and list of dicts whose keys are tuples in tuples -/
namespace Hm
open PySem PySem.Spec PyProof.Rows L2
section
variable {X : Cx} {pins : List (Addr × Obj)} {σ : L2.St} {H : Hp} {s : Shared} {A : Around} {E : Value → Shared → Prop} {d a : Addr} {kvs : List NKV} {k : DK}
theorem dn_setd {v : V} {r : Value} {Q : Value → Shared → Prop} (hu : A.units + 16 < cLine) (I : Inv X pins σ H s) (e : H d = some (DN X.prog X.w d kvs)) (ok : KeysOk X.K H kvs) (hk : KRep X.K H k (.ref a)) (ho : KOk k) (hl : kvs.length < sizeLine) (rv : RelV v r)
    (h1 : ∀ v', valN kvs k = some v' → ∀ (w' : Value) (s' : Shared), Inv X pins σ H s' → RelV v' w' → Q w' s') (h2 : valN kvs k = none → ∀ (w' : Value) (s' : Shared), Inv X pins σ (upd H d (DN X.prog X.w d (putN kvs k a v))) s' → RelV v w' → Q w' s') :
    wpAny (model X.prog X.w) A (call (.builtin "dict.setdefault") [.ref d, .ref a, r]) Q E s := by
  obtain ⟨z, hd, xs, rel, dd⟩ := dn_of I e ok
  have hz : xs.length ≤ sizeLine := by rw [← Paired.length rel]; exact z
  refine call_setdefault_heap (knd := nestKind X.prog X.w) (hsz := hz) (show A.units + 1 + 8 < cLine by omega) ⟨kis_of I hk rfl, ho⟩ hd dd (fun p hp => ?_) (fun hn h' dd' hs => ?_)
  · have q := rel.val k
    rw [hp] at q
    cases q0 : valN kvs k with
    | none =>
      rw [q0] at q
      exact (show False from q).elim
    | some v0 =>
      rw [q0] at q
      exact h1 v0 q0 _ _ (I.tok _) q
  · have q := rel.some_eq k
    rw [hn] at q
    have q0 : valN kvs k = none := by
      cases q1 : valN kvs k with
      | none => rfl
      | some _ =>
        rw [q1] at q
        cases q
    refine h2 q0 _ _ ?_ rv
    obtain ⟨q, es, ep, hq, g2, g3, g4, _, g5⟩ := dd'
    have hl2 := putN_len kvs k a v
    exact d_write I (by rw [e]; exact True.intro) hs ⟨q, hq⟩ ⟨⟨by omega, hd, _, rel.put k rv, q, es, ep, hq, g2, g3, g4, g5⟩, ⟨q, hq⟩, fun h1 h2 ⟨g1, g2, ys, g3, o, es, ep, g4, g5⟩ st => ⟨g1, g2, ys, g3, o, es, ep, st _ g4, g5⟩⟩
end
/-- d.setdefault(y, z) -/
def tNSetd (P : Program) (w : World) (K : PySem.W.Frag) (td ty tx : TE) : TE := fun σ H Q => td σ H fun x H1 => ∃ d kvs0, x = .ref d ∧ H1 d = some (DN P w d kvs0) ∧ KeysOk K H1 kvs0 ∧ ty σ H1 fun y H2 => tx σ H2 fun z H3 => ∃ a kvs k, NAsk P w K H3 x y d a kvs k ∧ kvs.length < sizeLine ∧
  (∀ v, valN kvs k = some v → Q v H3) ∧ (valN kvs k = none → Q z (upd H3 d (DN P w d (putN kvs k a z))))
section
variable {X : Cx} {o e f : Expr} {td ty tx : TE} {apos cpos : Pos}
theorem pe_nsetd (hu : X.A.units + 16 < cLine) (ho : PE X o td) (he : PE X e ty) (hf : PE X f tx) (m : M2 X o "setdefault" apos e f cpos) : PE X (.Call (.Attribute o "setdefault" apos) [e, f] [] cpos) (tNSetd X.prog X.w X.K td ty tx) := by
  refine ⟨fun pins s σ H Q I h => ?_⟩
  refine wpAny_Call_method m.base m.few m.line PySem.F.plainAttrs_dict PySem.F.slot_dict_setdefault PySem.F.type_dict_setdefault (thn (ho.run pins s σ H _ I h) fun u s1 ⟨x, H1, I1, rx, d, kvs0, ex, e0, ok0, q1⟩ => ?_)
  subst ex
  obtain rfl : u = Value.ref d := rx
  obtain ⟨_, _, xs, _, ob, es, ep, hq, hx, hrest⟩ := dn_of I1 e0 ok0
  refine ⟨⟨ob, hq, hx.1⟩, fun b q => ?_, ?_⟩
  · cases q
    exact ⟨ob, hq, hx.2.1⟩
  rw [m.trees]
  refine Calls.callWith_builtin rfl (Calls.evalArgs_plain (Calls.spliced_cons (thn (he.run pins s1 σ H1 _ I1 q1) fun iv s2 ⟨y, H2, I2, ry, q2⟩ =>
    Calls.spliced_cons (thn (hf.run pins s2 σ H2 _ I2 q2) fun fv s3 ⟨z, H3, I3, rz, a, kvs, k, ⟨_, ey, ea, ok, hk, hko⟩, hl, q3, q4⟩ => Calls.spliced_nil ?_))))
  subst ey
  obtain rfl : iv = Value.ref a := ry
  exact dn_setd hu I3 ea ok hk hko hl rz (fun v hv w' s4 I4 rw' => ⟨v, _, I4, rw', q3 v hv⟩) fun hn w' s4 I4 rw' => ⟨z, _, I4, rw', q4 hn⟩
end
theorem nt_keys {kvs : List NKV} {ks : List (DK × Addr × Value)} (pr : NT kvs ks) : kvs.map (fun e => e.2.1) = ks.map (fun x => x.2.1) := by
  unfold NT at pr
  induction pr with
  | nil => rfl
  | cons h t ih => rw [List.map_cons, List.map_cons, h.2.1, ih]
section
variable {X : Cx}
theorem vals_refsN : ∀ bs : List Addr, Vals (bs.map V.ref) (bs.map Value.ref)
  | [] => .nil
  | _ :: r => .cons rfl (vals_refsN r)
theorem call_listN (hc : X.calm = true) : CallR X (.type "list") (fun xs H Q => ∃ d kvs, xs = [V.ref d] ∧ H d = some (DN X.prog X.w d kvs) ∧ ∀ p, H p = none → Q (.ref p) (upd H p (.lst (kvs.map fun e => V.ref e.2.1)))) := by
  intro pins s σ H xs us Q I r h
  obtain ⟨d, kvs, rfl, hd, q⟩ := h
  obtain ⟨u, rfl, rx⟩ := r.one
  cases rx
  obtain ⟨⟨z, hs, ks, pr, o, es, ep, ho, hx, hdt, he, hn⟩, _, _⟩ := I.hok d _ hd
  have l1 : es.size = ks.length := size_of_entries he
  have l2 : kvs.length = ks.length := Paired.length pr
  refine PySem.W.kdl_call (kdl_raw hs hx hdt) (I.ok.hd hc) ho (by omega) fun h' tk acc' c' kp e it => ?_
  have ea : acc'.toList = ks.map fun x => Value.ref x.2.1 := by
    have hl : acc'.toList.length = ks.length := by rw [Array.length_toList, it.1]; exact l1
    apply List.ext_getElem?
    intro j
    rw [List.getElem?_map]
    cases hj : acc'.toList[j]? with
    | none =>
      have h1 := List.getElem?_eq_none_iff.mp hj
      rw [List.getElem?_eq_none (by omega)]
      all_goals rfl
    | some v =>
      obtain ⟨en, hen, hv⟩ := it.2 j v (by rw [← Array.getElem?_toList]; exact hj)
      have qe := entry_at he j
      rw [hen] at qe
      cases hb : ks[j]? with
      | none =>
        rw [hb] at qe
        exact nomatch (show some en = none from qe)
      | some b =>
        rw [hb] at qe
        have e2 : en = entryOfKey (nestKind X.prog X.w) b := Option.some.inj qe
        rw [hv, e2]
        all_goals rfl
  have e3 := nt_keys pr
  have e4 : (kvs.map fun e => V.ref e.2.1) = (ks.map fun x => x.2.1).map V.ref := by rw [← e3, List.map_map]; rfl
  have eb : acc'.toList = (ks.map fun x => x.2.1).map Value.ref := by rw [ea, List.map_map]; all_goals rfl
  have rv : Vals ((ks.map fun x => x.2.1).map V.ref) acc'.toList := by rw [eb]; exact vals_refsN _
  have hz : ((ks.map fun x => x.2.1).map V.ref).length ≤ sizeLine := by rw [List.length_map, List.length_map]; omega
  rw [e4] at q
  refine ⟨.ref s.heap.objs.size, _, I.laid (t' := tk) (o := .lst ((ks.map fun x => x.2.1).map V.ref)) kp (Nat.le_refl _) ?_, rfl, q _ (I.hok.fresh (Nat.le_refl _))⟩
  exact ⟨hz, acc'.toList, c', rv, by rw [Array.toArray_toList]; exact e⟩
theorem call_lenN : CallR X (.builtin "len") (fun xs H Q => ∃ (p : Addr) (kvs : List NKV), xs = [.ref p] ∧ H p = some (DN X.prog X.w p kvs) ∧ KeysOk X.K H kvs ∧ Q (.int ((kvs.length : Nat) : Int)) H) := by
  intro pins s σ H xs us Q I r h
  obtain ⟨p, kvs, rfl, hp, ok, q⟩ := h
  obtain ⟨u, rfl, rx⟩ := vals1 r
  obtain rfl : u = .ref p := rx
  obtain ⟨z, hd, ys, rel, dd⟩ := dn_of I hp ok
  have hl : kvs.length = ys.length := Paired.length rel
  refine call_len_dictH hd dd (by rw [← hl]; rw [sizeLine_eq] at z; omega) ?_
  rw [← hl]
  exact ⟨.int ((kvs.length : Nat) : Int), H, I.tok _, ⟨_, rfl⟩, q⟩
end
end Hm

set_option Elab.async false
set_option linter.all false
set_option maxRecDepth 100000
set_option maxHeartbeats 1000000
namespace Hm
open PySem PySem.Spec PyProof.Rows L2 HT
open Evl (Ex)
/-! ### reading: in the program -/
def kA (a : Ad) : DK := .tup [.leaf (.inr a.wd), .leaf (.inl (a.no : Int))]
theorem kA_inj {a b : Ad} (h : kA a = kA b) : a = b := by
  unfold kA at h
  simp at h
  obtain ⟨h1, h2⟩ := h
  cases a with
  | h n =>
    cases b with
    | h m => exact congrArg Ad.h (Int.ofNat.inj h2)
    | s m => exact absurd (show ("h" : Str) = "s" from h1) (by decide +kernel)
  | s n =>
    cases b with
    | h m => exact absurd (show ("s" : Str) = "h" from h1) (by decide +kernel)
    | s m => exact congrArg Ad.s (Int.ofNat.inj h2)
theorem kok_A (a : Ad) : KOk (kA a) := ⟨Nat.le_of_ble_eq_true rfl, lay_ad a⟩
theorem Rd.view {M : Mem} {m : Nat} {Wk : List (Ce × Bool)} {D D' : List Tm} {as as' : List Ad} {kn : List (Nat × Tm)} (h : Rd M m Wk D as kn D' as') : (Wk = [] ∧ D = D' ∧ as = as') ∨ ∃ c b W k e m', Wk = (c, b) :: W ∧ m' < m ∧ Fol M k c e ∧
    ((b = true ∧ ∃ n f j, e = .str n ∧ M.cs[n]? = some (.fn f j) ∧ 1 ≤ j ∧ j ≤ D.length ∧ D.length ≤ 1000000 ∧ kn.length ≤ 1000000 ∧ Rd M m' W (D.take (D.length - j) ++ [.comp f (D.drop (D.length - j))]) as ((n, .comp f (D.drop (D.length - j))) :: kn) D' as') ∨
    (b = false ∧ ((∃ n, e = .str n ∧ ((∃ u, kget kn n = some u ∧ D.length ≤ 1000000 ∧ Rd M m' W (D ++ [u]) as kn D' as') ∨ (kget kn n = none ∧ ∃ f j, M.cs[n]? = some (.fn f j) ∧ n + j < M.cs.length ∧ W.length + j ≤ 1000000 ∧ Rd M m' (((M.cs.drop (n + 1)).take j).map (fun x => (x, false)) ++ (.str n, true) :: W) D as kn D' as'))) ∨
      (∃ a, e = .ref a ∧ as.length ≤ 1000000 ∧ D.length ≤ 1000000 ∧ Rd M m' W (D ++ [.var ((addA as a).idxOf a : Nat)]) (addA as a) kn D' as') ∨
      (∃ t v : Tm, (∃ s, e = .con s ∧ t = .atom s) ∧ D.length ≤ 1000000 ∧ Rd M m' W (D ++ [t]) as kn D' as') ∨ (∃ i, e = .num i ∧ D.length ≤ 1000000 ∧ Rd M m' W (D ++ [.int i]) as kn D' as')))) := by
  cases h with
  | nil => exact .inl ⟨rfl, rfl, rfl⟩
  | hit h1 h2 h3 h4 => exact .inr ⟨_, _, _, _, _, _, rfl, Nat.lt_succ_self _, h1, .inr ⟨rfl, .inl ⟨_, rfl, .inl ⟨_, h2, h3, h4⟩⟩⟩⟩
  | opn h1 h2 h3 h4 h5 h6 => exact .inr ⟨_, _, _, _, _, _, rfl, Nat.lt_succ_self _, h1, .inr ⟨rfl, .inl ⟨_, rfl, .inr ⟨h2, _, _, h3, h4, h5, h6⟩⟩⟩⟩
  | shut h1 h2 h3 h4 h5 h6 h7 => exact .inr ⟨_, _, _, _, _, _, rfl, Nat.lt_succ_self _, h1, .inl ⟨rfl, _, _, _, rfl, h2, h3, h4, h5, h6, h7⟩⟩
  | ref h1 h2 h3 h4 => exact .inr ⟨_, _, _, _, _, _, rfl, Nat.lt_succ_self _, h1, .inr ⟨rfl, .inr (.inl ⟨_, rfl, h2, h3, h4⟩)⟩⟩
  | con h1 h2 h3 => exact .inr ⟨_, _, _, _, _, _, rfl, Nat.lt_succ_self _, h1, .inr ⟨rfl, .inr (.inr (.inl ⟨_, .int 0, ⟨_, rfl, rfl⟩, h2, h3⟩))⟩⟩
  | num h1 h2 h3 => exact .inr ⟨_, _, _, _, _, _, rfl, Nat.lt_succ_self _, h1, .inr ⟨rfl, .inr (.inr (.inr ⟨_, rfl, h2, h3⟩))⟩⟩
theorem cut_tail (xs : List V) (k : Nat) (h1 : 1 ≤ k) (h : k ≤ xs.length) : cutV xs (some (-(k : Int))) none = xs.drop (xs.length - k) := by
  have e : sIx xs.length 0 (some (-(k : Int))) = xs.length - k := by
    show (if -(k : Int) < 0 then (-(k : Int) + (xs.length : Int)).toNat else min (-(k : Int)).toNat xs.length) = _
    rw [if_pos (by omega)]
    omega
  have e2 : sIx xs.length xs.length none = xs.length := rfl
  unfold cutV
  rw [e, e2, List.take_of_length_le (by rw [List.length_drop]; omega)]
section
variable {P : Program} {w : World} {K : PySem.W.Frag} {mg : Str → Option Value} {base : Heap}
theorem krep_A {H : Hp} {v : V} {a : Ad} (h : AdAt K H v a) : ∃ q, v = .ref q ∧ KRep K H (kA a) (.ref q) := by
  obtain ⟨q, rfl, h2⟩ := h
  refine ⟨q, rfl, ?_⟩
  unfold kA KRep
  refine ⟨q, _, rfl, h2, ?_⟩
  unfold KReps
  refine ⟨_, _, rfl, by unfold KRep; rfl, ?_⟩
  unfold KReps
  exact ⟨_, _, rfl, by unfold KRep; rfl, by unfold KReps; rfl⟩
/-- the numbers of the variables -/
structure NumD (P : Program) (w : World) (K : PySem.W.Frag) (H : Hp) (d : Addr) (as : List Ad) : Prop where
  ex : ∃ kvs, H d = some (DN P w d kvs) ∧ PySem.Paired (fun (e : NKV) a => e.1 = kA a ∧ AdAt K H (.ref e.2.1) a) kvs as ∧ ∀ a, valN kvs (kA a) = if a ∈ as then some (.int (as.idxOf a : Nat)) else none
theorem NumD.keep {H H' : Hp} {d : Addr} {as : List Ad} (h : NumD P w K H d as) (t : Tups K H H') (e : ∀ o, H d = some o → H' d = some o) : NumD P w K H' d as := by
  obtain ⟨kvs, h1, h2, h3⟩ := h.ex
  exact ⟨kvs, e _ h1, Paired.mapP h2 fun _ _ q => ⟨q.1, q.2.tups t⟩, h3⟩
theorem num_ok {H : Hp} : ∀ {kvs : List NKV} {as : List Ad}, PySem.Paired (fun (e : NKV) a => e.1 = kA a ∧ AdAt K H (.ref e.2.1) a) kvs as → KeysOk K H kvs := by
  intro kvs as h
  induction h with
  | nil => exact fun e he => by cases he
  | cons h t ih =>
    intro e he
    rcases List.mem_cons.1 he with rfl | he
    · obtain ⟨q, e1, e2⟩ := krep_A h.2
      rw [h.1]
      cases e1
      exact ⟨e2, kok_A _⟩
    · exact ih e he
/-- what was read already, in the program -/
structure KnAt (K : PySem.W.Frag) (H : Hp) (d : Addr) (kn : List (Nat × Tm)) : Prop where
  ex : ∃ kvs : List (Key × V), H d = some (.dK kvs) ∧ kvs.length ≤ kn.length ∧ ∀ n : Nat, (kget kn n = none → valV kvs (.inl (n : Int)) = none) ∧ ∀ u, kget kn n = some u → ∃ v, valV kvs (.inl (n : Int)) = some v ∧ Rep K H u v
theorem KnAt.keep {H H' : Hp} {d : Addr} {kn : List (Nat × Tm)} (h : KnAt K H d kn) (t : Tups K H H') (e : ∀ o, H d = some o → H' d = some o) : KnAt K H' d kn := by
  obtain ⟨kvs, h1, h2, h3⟩ := h.ex
  exact ⟨kvs, e _ h1, h2, fun n => ⟨(h3 n).1, fun u hu => by
    obtain ⟨v, g1, g2⟩ := (h3 n).2 u hu
    exact ⟨v, g1, g2.mono t⟩⟩⟩
def WAt (K : PySem.W.Frag) (H : Hp) (v : V) (q : Ce × Bool) : Prop := ∃ p u, v = .ref p ∧ SqT K H p [u, .bl q.2] ∧ CAt K H u q.1
theorem WAt.tups {H H' : Hp} (e : Tups K H H') {v : V} {q : Ce × Bool} (h : WAt K H v q) : WAt K H' v q := by
  obtain ⟨p, u, rfl, h1, h2⟩ := h
  exact ⟨p, u, rfl, e _ _ h1, h2.tups e⟩
/-- where the loop of read stands -/
structure RdI (P : Program) (w : World) (K : PySem.W.Frag) (H : Hp) (nd kd dl wl : Addr) (H1 : Hp) (W : List (Ce × Bool)) (D : List Tm) (as : List Ad) (kn : List (Nat × Tm)) : Prop where
  ex : Ex H H1
  wt : ∃ ws, H1 wl = some (.lst ws) ∧ PySem.Paired (WAt K H1) ws W.reverse
  wo : ∀ q ∈ W, CeOk q.1
  dn : ∃ ds, H1 dl = some (.lst ds) ∧ Reps K H1 D ds
  nm : NumD P w K H1 nd as
  kn : KnAt K H1 kd kn
  ne : nd ≠ wl ∧ nd ≠ dl ∧ kd ≠ wl ∧ kd ≠ dl ∧ dl ≠ wl ∧ nd ≠ kd
  fr : H nd = none ∧ H kd = none ∧ H dl = none ∧ H wl = none
theorem RdI.exx {H H1 H2 : Hp} {nd kd dl wl : Addr} {W : List (Ce × Bool)} {D : List Tm} {as : List Ad} {kn : List (Nat × Tm)} (h : RdI P w K H nd kd dl wl H1 W D as kn) (e : Ex H1 H2) : RdI P w K H nd kd dl wl H2 W D as kn := by
  obtain ⟨h1, ⟨ws, h2, g2⟩, h3, ⟨ds, h4, g4⟩, h5, h6, h7, h8⟩ := h
  exact ⟨h1.trans e, ⟨ws, e _ _ h2, Paired.mapP g2 fun _ _ q => q.tups (.of e)⟩, h3, ⟨ds, e _ _ h4, g4.mono (.of e)⟩, h5.keep (.of e) (fun o => e _ o), h6.keep (.of e) (fun o => e _ o), h7, h8⟩
/-- the list of what waits is another one -/
theorem RdI.upW {H H1 : Hp} {nd kd dl wl : Addr} {W W' : List (Ce × Bool)} {D : List Tm} {as : List Ad} {kn : List (Nat × Tm)} {ws : List V} (h : RdI P w K H nd kd dl wl H1 W D as kn) (hw : PySem.Paired (WAt K H1) ws W'.reverse) (wo : ∀ q ∈ W', CeOk q.1) : RdI P w K H nd kd dl wl (upd H1 wl (.lst ws)) W' D as kn := by
  obtain ⟨h1, ⟨ws0, h2, g2⟩, h3, ⟨ds, h4, g4⟩, h5, h6, h7, h8⟩ := h
  have t : Tups K H1 (upd H1 wl (.lst ws)) := .lst h2
  exact ⟨h1.mut h8.2.2.2, ⟨ws, upd_same, Paired.mapP hw fun _ _ q => q.tups t⟩, wo, ⟨ds, by rw [upd_ne h7.2.2.2.2.1]; exact h4, g4.mono t⟩, h5.keep t (fun o e => by rw [upd_ne h7.1]; exact e), h6.keep t (fun o e => by rw [upd_ne h7.2.2.1]; exact e), h7, h8⟩
/-- the list of what was read is another one -/
theorem RdI.upD {H H1 : Hp} {nd kd dl wl : Addr} {W : List (Ce × Bool)} {D D' : List Tm} {as : List Ad} {kn : List (Nat × Tm)} {ds : List V} (h : RdI P w K H nd kd dl wl H1 W D as kn) (hd : Reps K H1 D' ds) : RdI P w K H nd kd dl wl (upd H1 dl (.lst ds)) W D' as kn := by
  obtain ⟨h1, ⟨ws0, h2, g2⟩, h3, ⟨ds0, h4, g4⟩, h5, h6, h7, h8⟩ := h
  have t : Tups K H1 (upd H1 dl (.lst ds)) := .lst h4
  exact ⟨h1.mut h8.2.2.1, ⟨ws0, by rw [upd_ne h7.2.2.2.2.1.symm]; exact h2, Paired.mapP g2 fun _ _ q => q.tups t⟩, h3, ⟨ds, upd_same, hd.mono t⟩, h5.keep t (fun o e => by rw [upd_ne h7.2.1]; exact e), h6.keep t (fun o e => by rw [upd_ne h7.2.2.2.1]; exact e), h7, h8⟩
/-- the list of what was read is cut, the rest stays -/
theorem RdI.cut {H H1 H2 : Hp} {nd kd dl wl : Addr} {W : List (Ce × Bool)} {D D' : List Tm} {as : List Ad} {kn : List (Nat × Tm)} {ds : List V} (h : RdI P w K H nd kd dl wl H1 W D as kn) (kp : ∀ b o, b ≠ dl → H1 b = some o → H2 b = some o) (hd : H2 dl = some (.lst ds)) (hD : Reps K H2 D' ds) : RdI P w K H nd kd dl wl H2 W D' as kn ∧ Tups K H1 H2 := by
  obtain ⟨h1, ⟨ws0, h2, g2⟩, h3, ⟨ds0, h4, g4⟩, h5, h6, h7, h8⟩ := h
  have t : Tups K H1 H2 := fun a ys q => by
    have go : ∀ {o : HO}, H1 a = some o → (∀ x, o ≠ .lst x) → H2 a = some o := fun e n2 => kp _ _ (fun z => by subst z; rw [h4] at e; exact n2 _ (Option.some.inj e).symm) e
    rcases q with (q | ⟨o, q⟩) | q
    · exact .inl (.inl (go q (fun _ z => by cases z)))
    · exact .inl (.inr ⟨o, go q (fun _ z => by cases z)⟩)
    · exact .inr q
  exact ⟨⟨fun b o e => kp _ _ (ne_of_none e h8.2.2.1) (h1 _ _ e), ⟨ws0, kp _ _ h7.2.2.2.2.1.symm h2, Paired.mapP g2 fun _ _ q => q.tups t⟩, h3, ⟨ds, hd, hD⟩, h5.keep t (fun o e => kp _ _ h7.2.1 e), h6.keep t (fun o e => kp _ _ h7.2.2.2.1 e), h7, h8⟩, t⟩
/-- one more was read -/
theorem RdI.upK {H H1 : Hp} {nd kd dl wl : Addr} {W : List (Ce × Bool)} {D : List Tm} {as : List Ad} {kn : List (Nat × Tm)} (h : RdI P w K H nd kd dl wl H1 W D as kn) (n : Nat) {u : Tm} {v : V} (hu : Rep K H1 u v) (hl : kn.length ≤ 1000000) :
    ∃ kvs, DPut H1 kd (.int (n : Int)) v (upd H1 kd (.dK kvs)) ∧ RdI P w K H nd kd dl wl (upd H1 kd (.dK kvs)) W D as ((n, u) :: kn) ∧ Tups K H1 (upd H1 kd (.dK kvs)) := by
  obtain ⟨h1, ⟨ws0, h2, g2⟩, h3, ⟨ds0, h4, g4⟩, h5, ⟨kvs, k1, k2, k3⟩, h7, h8⟩ := h
  have t : Tups K H1 (upd H1 kd (.dK (putK kvs (.inl (n : Int)) v))) := tups_dk k1
  refine ⟨putK kvs (.inl (n : Int)) v, DPut.k (k := .inl (n : Int)) k1 (szl (by omega)), ⟨h1.mut h8.2.1, ⟨ws0, by rw [upd_ne h7.2.2.1.symm]; exact h2, Paired.mapP g2 fun _ _ q => q.tups t⟩, h3, ⟨ds0, by rw [upd_ne h7.2.2.2.1.symm]; exact h4, g4.mono t⟩, h5.keep t (fun o e => by rw [upd_ne h7.2.2.2.2.2]; exact e), ⟨_, upd_same, ?_, fun j => ?_⟩, h7, h8⟩, t⟩
  · have := putK_len1 kvs (.inl (n : Int)) v
    rw [List.length_cons]
    omega
  · rw [valV_put]
    unfold kget
    by_cases e : j = n
    · subst e
      rw [if_pos rfl, if_pos rfl]
      refine ⟨fun z => (nomatch z), fun y hy => ?_⟩
      cases hy
      exact ⟨v, by simp, hu.mono t⟩
    · have ne : ¬ ((Sum.inl (j : Int) : Key) = Sum.inl (n : Int)) := fun z => e (by
        have := Sum.inl.inj z
        omega)
      rw [if_neg e, if_neg ne]
      exact ⟨(k3 j).1, fun y hy => by
        obtain ⟨v', g1, g2⟩ := (k3 j).2 y hy
        exact ⟨v', g1, g2.mono t⟩⟩
theorem RdI.known {H H1 : Hp} {nd kd dl wl : Addr} {W : List (Ce × Bool)} {D : List Tm} {as : List Ad} {kn : List (Nat × Tm)} (h : RdI P w K H nd kd dl wl H1 W D as kn) {n : Nat} {u : Tm} (e : kget kn n = some u) : ∃ v, DGet H1 kd (.int (n : Int)) (some v) ∧ Rep K H1 u v := by
  obtain ⟨kvs, k1, k2, k3⟩ := h.kn.ex
  obtain ⟨v, g1, g2⟩ := (k3 n).2 u e
  exact ⟨v, by rw [← g1]; exact DGet.k (k := .inl (n : Int)) k1, g2⟩
theorem RdI.asks {H H1 : Hp} {nd kd dl wl : Addr} {W : List (Ce × Bool)} {D : List Tm} {as : List Ad} {kn : List (Nat × Tm)} (h : RdI P w K H nd kd dl wl H1 W D as kn) (n : Nat) : ∃ o, DGet H1 kd (.int (n : Int)) o ∧ o.isSome = (kget kn n).isSome := by
  obtain ⟨kvs, k1, k2, k3⟩ := h.kn.ex
  refine ⟨_, DGet.k (k := .inl (n : Int)) k1, ?_⟩
  cases e : kget kn n with
  | none => rw [(k3 n).1 e]; rfl
  | some u =>
    obtain ⟨v, g1, _⟩ := (k3 n).2 u e
    rw [g1]
    rfl
/-- one more variable has a number -/
theorem RdI.upN {H H1 : Hp} {nd kd dl wl : Addr} {W : List (Ce × Bool)} {D : List Tm} {as : List Ad} {kn : List (Nat × Tm)} (h : RdI P w K H nd kd dl wl H1 W D as kn) {a : Ad} {q : Addr} {kvs : List NKV} (hn : H1 nd = some (DN P w nd kvs)) (hp : PySem.Paired (fun (e : NKV) a => e.1 = kA a ∧ AdAt K H1 (.ref e.2.1) a) kvs as) (hv : ∀ a, valN kvs (kA a) = if a ∈ as then some (.int (as.idxOf a : Nat)) else none) (na : a ∉ as) (ha : AdAt K H1 (.ref q) a) :
    RdI P w K H nd kd dl wl (upd H1 nd (DN P w nd (putN kvs (kA a) q (.int (kvs.length : Nat))))) W D (as ++ [a]) kn ∧ Tups K H1 (upd H1 nd (DN P w nd (putN kvs (kA a) q (.int (kvs.length : Nat))))) := by
  obtain ⟨h1, ⟨ws0, h2, g2⟩, h3, ⟨ds0, h4, g4⟩, h5, h6, h7, h8⟩ := h
  have t : Tups K H1 (upd H1 nd (DN P w nd (putN kvs (kA a) q (.int (kvs.length : Nat))))) := .dn hn
  have hl := hp.length
  have v0 := hv a
  rw [if_neg na] at v0
  have pe : putN kvs (kA a) q (.int (kvs.length : Nat)) = kvs ++ [(kA a, q, .int (kvs.length : Nat))] := by
    unfold putN
    rw [v0]
    rfl
  refine ⟨⟨h1.mut h8.1, ⟨ws0, by rw [upd_ne h7.1.symm]; exact h2, Paired.mapP g2 fun _ _ q => q.tups t⟩, h3, ⟨ds0, by rw [upd_ne h7.2.1.symm]; exact h4, g4.mono t⟩, ⟨_, upd_same, ?_, fun b => ?_⟩, h6.keep t (fun o e => by rw [upd_ne h7.2.2.2.2.2.symm]; exact e), h7, h8⟩, t⟩
  · have t' := t
    rw [pe] at t' ⊢
    exact paired_app (Paired.mapP hp fun _ _ q => ⟨q.1, q.2.tups t'⟩) (.cons ⟨rfl, ha.tups t'⟩ .nil)
  · rw [valN_put]
    by_cases e : b = a
    · subst e
      rw [if_pos rfl, if_pos (by simp), List.idxOf_append, if_neg na, hl]
      simp
    · rw [if_neg (fun z => e (kA_inj z)), hv b]
      by_cases hb : b ∈ as
      · rw [if_pos hb, if_pos (List.mem_append_left _ hb), List.idxOf_append, if_pos hb]
      · rw [if_neg hb, if_neg (by simp [hb, e])]
def spCompound (K : PySem.W.Frag) (C : Addr) : Sp := fun vs H Q _ => ∃ S c d nt M v l n f j D ds, vs = [.ref S, v, .ref l] ∧ Sto K C H S c d nt M ∧ CAt K H v (.str n) ∧ M.cs[n]? = some (.fn f j) ∧ 1 ≤ j ∧ j ≤ D.length ∧ D.length ≤ 1000000 ∧ H l = some (.lst ds) ∧ Reps K H D ds ∧
  ∀ p H', H p = none → H' l = some (.lst (ds.take (ds.length - j))) → (∀ b o, b ≠ l → H b = some o → H' b = some o) → Rep K H' (.comp f (D.drop (D.length - j))) (.ref p) → Q (.ref p) H'
theorem ok_St_compound (T : Tx K mg) : FnOk P w K mg base CX0 3 T.f_St_compound T.d_St_compound ["self", "cell", "done"] (spCompound K T.C) := by
  refine T.h_St_compound.F.ok sc_St_compound (fun vs H Q E h => ?_) (fun cdv A outer s H vs Q E hr h => ?_)
  · obtain ⟨S, c, d, nt, M, v, l, n, f, j, D, ds, rfl, _⟩ := h
    rfl
  obtain ⟨S, c, d, nt, M, v, l, n, f, j, D, ds, rfl, h, hv, hx, j1, jD, hz, hl, hD, k⟩ := h
  refine ⟨_, (pss_cons (ps_asg (pe_slice sl_tup (pe_meth (pv 0) T.cl T.h_St_functor.m (ok_St_functor T) (hr.mono (by first | decide | omega)) T.h_St_functor.b .nil pass0 (pa_cons (pv 1) pa_nil)) (po_some pe_int) po_none) (pg_tup rfl (pgs_cons (pg_name (i := 3) sc_St_compound.nd rfl (Or.inl rfl)) (pgs_cons (pg_name (i := 4) sc_St_compound.nd rfl (Or.inl rfl)) pgs_nil))))
    (pss_cons (ps_set (i := 5) sc_St_compound.nd rfl (Or.inl rfl) (pe_slice sl_list (pv 2) (po_some (pe_un un_neg (pv 4))) po_none))
    (pss_cons (ps_delTail (pv 2) (pe_un un_neg (pv 4)))
    (pss_one (ps_ret (pe_tup (pa_cons (pv 3) (StX.pa_star (pv 5) pa_nil)))))))), ?_⟩
  obtain ⟨dx, hS⟩ := h.ins
  have ld := hD.len
  have j8 : j ≤ 8 := (h.ok _ (mem_of_at hx)).2.2
  refine ⟨_, rfl, S, dx, _, rfl, hS, rfl, _, rfl, S, c, d, nt, M, v, n, _, rfl, h, hv, hx, fun u hu => ?_⟩
  obtain ⟨pf, rfl, hpf⟩ := hu
  refine ⟨_, rfl, pf, _, rfl, hpf, cut1_ne _ _, fun z hzn => ?_⟩
  rw [cut1]
  have e1 := Ex.new (o := HO.tup [V.str f, V.int (j : Int)]) hzn
  refine ⟨z, _, rfl, .of upd_same, rfl, _, _, rfl, _, _, rfl, rfl, ?_⟩
  have hl1 := e1 _ _ hl
  have hD1 := hD.mono (Tups.of (K := K) e1)
  generalize upd H z (.tup [V.str f, V.int (j : Int)]) = H1 at *
  refine ⟨_, rfl, _, rfl, _, rfl, _, rfl, l, ds, rfl, .of hl1, fun r hrn => ?_⟩
  rw [cut_tail ds j j1 (by omega)]
  have e2 := Ex.new (o := HO.lst (ds.drop (ds.length - j))) hrn
  have hr2 : (upd H1 r (.lst (ds.drop (ds.length - j)))) r = some (.lst (ds.drop (ds.length - j))) := upd_same
  have hl2 := e2 _ _ hl1
  have hD2 := hD1.mono (Tups.of (K := K) e2)
  generalize upd H1 r (.lst (ds.drop (ds.length - j))) = H2 at *
  refine ⟨_, rfl, _, rfl, _, rfl, _, rfl, l, ds, j, rfl, rfl, hl2, j1, by omega, ?_⟩
  have nrl : r ≠ l := (ne_of_none hl1 hrn).symm
  have t3 : Tups K H2 (upd H2 l (.lst (ds.take (ds.length - j)))) := .lst hl2
  refine ⟨_, rfl, _, rfl, r, _, rfl, .inr (.of (by rw [upd_ne nrl]; exact hr2)), ?_⟩
  refine ⟨small5 (by simp; omega), fun p hp => ?_⟩
  have hp2 := none_of_upd hp
  have e4 := Ex.new (o := HO.tup (V.str f :: (ds.drop (ds.length - j) ++ []))) hp
  refine k p _ (ex_none (e1.trans e2) hp2.1) (by rw [upd_ne hp2.2]; exact upd_same) (fun b o nb e => e4 _ _ (by rw [upd_ne nb]; exact (e1.trans e2) _ _ e)) ?_
  unfold Rep
  refine ⟨p, ds.drop (ds.length - j), rfl, .of (by rw [upd_same, List.append_nil]), ?_⟩
  rw [show D.drop (D.length - j) = D.drop (ds.length - j) by rw [ld]]
  exact ((hD2.drop (ds.length - j)).mono t3).mono (.of e4)
theorem CAll.at' {H : Hp} : ∀ {vs : List V} {cs : List Ce}, CAll K H vs cs → ∀ {n : Nat} {v : V}, vs[n]? = some v → ∃ x, cs[n]? = some x ∧ CAt K H v x := by
  intro vs cs h
  induction h with
  | nil => intro n x e; cases e
  | cons h t ih =>
    intro n x e
    cases n with
    | zero =>
      cases e
      exact ⟨_, rfl, h⟩
    | succ n => exact ih (n := n) e
theorem kit_lt : PySem.W.kitAny K (.type "list") [.type "list", .type "tuple"] = some true := by
  unfold PySem.W.kitAny
  rw [show PySem.W.kitOne K (.type "list") (.type "list") = some true from kit_ty (a := "list") (by decide +kernel)]
def spRead (K : PySem.W.Frag) (C : Addr) : Sp := fun vs H Q _ => ∃ S c d nt M l us cs D' as' m, vs = [.ref S, .ref l] ∧ Sto K C H S c d nt M ∧ H l = some (.lst us) ∧ CAll K H us cs ∧ (∀ x ∈ cs, CeOk x) ∧ cs.length ≤ 1000 ∧ Rd M m (cs.map (fun x => (x, false))) [] [] [] D' as' ∧
  ∀ t dl ll ds ls H', Ex H H' → SqT K H' t [.ref dl, .ref ll] → H' dl = some (.lst ds) → Reps K H' D' ds → H' ll = some (.lst ls) → AAll K H' ls as' → Q (.ref t) H'
theorem ok_St_read (T : Tx K mg) : FnOk P w K mg base CX0 9 T.f_St_read T.d_St_read ["self", "cells"] (spRead K T.C) := by
  refine T.h_St_read.F.ok sc_St_read (fun vs H Q E h => ?_) (fun cdv A outer s H vs Q E hr h => ?_)
  · obtain ⟨S, c, d, nt, M, l, us, cs, D', as', m, rfl, _⟩ := h
    rfl
  obtain ⟨S, c, d, nt, M, l, us, cs, D', as', m, rfl, h, hl, hus, hok, hcl, hR, k⟩ := h
  have hu1 := Nat.lt_of_le_of_lt (Nat.add_le_add_left (show 1 ≤ 64 by decide) _) hr.units
  have hu16 := Nat.lt_of_le_of_lt (Nat.add_le_add_left (show 16 ≤ 64 by decide) _) hr.units
  refine ⟨_, (pss_cons (ps_if (pt_not (pt_val (pe_callB call_isiT rfl T.b_isinstance (by decide +kernel) (pa_cons (pv 1) (pa_cons (pe_tup (pa_cons (pe_bltn (v := .ty "list") (u := .type "list") rfl T.b_list (by decide +kernel) rfl) (pa_cons (pe_bltn (v := .ty "tuple") (u := .type "tuple") rfl T.b_tuple (by decide +kernel) rfl) pa_nil))) pa_nil)))))
      (pss_one ps_never)
      pss_nil)
    (pss_cons (ps_for PassesOwn.never rfl (pi_list (pv 1)) (pg_name (i := 2) sc_St_read.nd rfl (Or.inl rfl))
      (pss_one (ps_expr (cl (ok_demand_cell T) T.h_demand_cell hr (pa_cons (pv 2) pa_nil)))))
    (pss_cons (ps_set (i := 3) sc_St_read.nd rfl (Or.inl rfl) pe_nnew)
    (pss_cons (ps_set (i := 4) sc_St_read.nd rfl (Or.inl rfl) pe_dnewK)
    (pss_cons (ps_set (i := 5) sc_St_read.nd rfl (Or.inl rfl) (pe_lst pa_nil))
    (pss_cons (ps_setLc (i := 6) (own := [("cell", 2)]) (g := gName 2) rfl sc_St_read.nd rfl rfl (sw_true rfl rfl rfl (by decide +kernel)) (pi_reversed rfl T.b_reversed (pa_cons (pv 1) pa_nil)) (blkOk_by (own := [("cell", 2)]) (N := ["self", "cells", "cell", "numbers", "known", "done", "waiting", "is_read", "inner"]) (sc := defScope s_St_read) (by decide +kernel)) (fun _ _ _ _ _ => pg_name (i := 2) sc_St_read.nd rfl (Or.inl rfl)) (fun _ _ _ _ _ => pts_nil) (fun _ _ _ _ _ => (pe_tup (pa_cons (pv 2) (pa_cons pe_bl pa_nil)))))
    (pss_cons (ps_while PassesOwn.never (pt_truth (pv 6) (by intro _; rfl))
      (pss_cons (ps_asg (pe_bm0 PySem.F.plainAttrs_list PySem.F.slot_list_pop PySem.F.type_list_pop mt_pop (pv 6)) (pg_tup rfl (pgs_cons (pg_name (i := 2) sc_St_read.nd rfl (Or.inl rfl)) (pgs_cons (pg_name (i := 7) sc_St_read.nd rfl (Or.inl rfl)) pgs_nil))))
    (pss_cons (ps_set (i := 2) sc_St_read.nd rfl (Or.inl rfl) (pe_meth (pv 0) T.cl T.h_St_follow.m (ok_St_follow T) (hr.mono (by first | decide | omega)) T.h_St_follow.b .nil pass0 (pa_cons (pv 2) pa_nil)))
    (pss_one (ps_if (pt_truth (pv 7) (by intro _; rfl))
      (pss_cons (ps_asg (pe_meth (pv 0) T.cl T.h_St_compound.m (ok_St_compound T) (hr.mono (by first | decide | omega)) T.h_St_compound.b .nil pass0 (pa_cons (pv 2) (pa_cons (pv 5) pa_nil))) (pg_sub (pv 4) (pe_ix ix_tup (pe_ix ix_tup (pv 2) pe_int (fun _ _ => rfl)) pe_int (fun _ _ => rfl)) (set_dict hu1)))
    (pss_one (ps_expr (pe_bm PySem.F.plainAttrs_list PySem.F.slot_list_append PySem.F.type_list_append mt_append (pv 5) (pa_cons (pe_dget hu1 (pv 4) (pe_ix ix_tup (pe_ix ix_tup (pv 2) pe_int (fun _ _ => rfl)) pe_int (fun _ _ => rfl)) (fun _ _ => rfl)) pa_nil)))))
      (pss_one (ps_if (PW.pt (pw_and (pt_cmpR op_eq (pe_ix ix_tup (pv 2) pe_int (fun _ _ => rfl)) pe_str (nomark _)) (pw_and1 (pt_cmp (pc_din hu1 (pe_ix ix_tup (pe_ix ix_tup (pv 2) pe_int (fun _ _ => rfl)) pe_int (fun _ _ => rfl)) (pv 4))))))
      (pss_one (ps_expr (pe_bm PySem.F.plainAttrs_list PySem.F.slot_list_append PySem.F.type_list_append mt_append (pv 5) (pa_cons (pe_dget hu1 (pv 4) (pe_ix ix_tup (pe_ix ix_tup (pv 2) pe_int (fun _ _ => rfl)) pe_int (fun _ _ => rfl)) (fun _ _ => rfl)) pa_nil))))
      (pss_one (ps_if (pt_cmpR op_eq (pe_ix ix_tup (pv 2) pe_int (fun _ _ => rfl)) pe_str (nomark _))
      (pss_cons (ps_expr (pe_bm PySem.F.plainAttrs_list PySem.F.slot_list_append PySem.F.type_list_append mt_append (pv 6) (pa_cons (pe_tup (pa_cons (pv 2) (pa_cons pe_bl pa_nil))) pa_nil)))
    (pss_one (ps_expr (pe_bm PySem.F.plainAttrs_list PySem.F.slot_list_extend PySem.F.type_list_extend mt_extend (pv 6) (pa_cons (pe_lc (own := [("inner", 8)]) (g := gName 8) rfl sc_St_read.nd (pi_list (pe_revL (pe_meth (pv 0) T.cl T.h_St_arguments.m (ok_St_arguments T) (hr.mono (by first | decide | omega)) T.h_St_arguments.b .nil pass0 (pa_cons (pv 2) pa_nil)))) (blkOk_by (own := [("inner", 8)]) (N := ["self", "cells", "cell", "numbers", "known", "done", "waiting", "is_read", "inner"]) (sc := defScope s_St_read) (by decide +kernel)) (fun _ _ _ _ _ => pg_name (i := 8) sc_St_read.nd rfl (Or.inl rfl)) (fun _ _ _ _ _ => pts_nil) (fun _ _ _ _ _ => (pe_tup (pa_cons (pv 8) (pa_cons pe_bl pa_nil))))) pa_nil)))))
      (pss_one (ps_if (pt_cmpR op_eq (pe_ix ix_tup (pv 2) pe_int (fun _ _ => rfl)) pe_str (nomark _))
      (pss_one (ps_expr (pe_bm PySem.F.plainAttrs_list PySem.F.slot_list_append PySem.F.type_list_append mt_append (pv 5) (pa_cons (pe_tup (pa_cons (pe_nsetd hu16 (pv 3) (pe_ix ix_tup (pv 2) pe_int (fun _ _ => rfl)) (pe_callB call_lenN rfl T.b_len (by decide +kernel) (pa_cons (pv 3) pa_nil)) ⟨rfl, rfl, rfl, rfl⟩) pa_nil)) pa_nil))))
      (pss_one (ps_expr (pe_bm PySem.F.plainAttrs_list PySem.F.slot_list_append PySem.F.type_list_append mt_append (pv 5) (pa_cons (pe_ix ix_tup (pv 2) pe_int (fun _ _ => rfl)) pa_nil)))))))))))))))
    (pss_one (ps_ret (pe_tup (pa_cons (pv 5) (pa_cons (pe_callTy (call_listN rfl) rfl T.b_list (by decide +kernel) (pa_cons (pv 3) pa_nil)) pa_nil)))))))))))), ?_⟩
  obtain ⟨dx, hS⟩ := h.ins
  refine ⟨_, rfl, Nat.le_of_ble_eq_true rfl, fun tt htt => ?_⟩
  have e1 := Ex.new (o := HO.tup [V.ty "list", V.ty "tuple"]) htt
  refine ⟨_, tt, _, _, _, true, rfl, upd_same, .cons (.ty "list") (.cons (.ty "tuple") .nil), .base (.lst (e1 _ _ hl)), kit_lt, true, rfl, iteF ?_⟩
  generalize upd H tt (.tup [V.ty "list", V.ty "tuple"]) = H1 at *
  have lus := hus.length
  refine ⟨_, rfl, l, rfl, ⟨us, .of (e1 _ _ hl)⟩, for_list (fun i σ' H' => ∃ x2, σ' = [some (.ref S), some (.ref l), x2, none, none, none, none, none, none] ∧ Ex H H') ⟨none, rfl, e1⟩ (fun i σ' H' _ ⟨_, _, e⟩ => .of (e _ _ hl)) ?_ ?_⟩
  · rintro i v σ' H2 hv ⟨x2, rfl, e2⟩
    obtain ⟨x, hx, hcx⟩ := hus.at' hv
    exact ⟨_, rfl, v, x, rfl, hcx.tups (.of e2), hok x (List.mem_of_getElem? hx), fun _ H3 e3 => ⟨_, rfl, e2.trans e3⟩⟩
  rintro σ' H2 ⟨x2, rfl, e2⟩
  intro nd hnd kd hkd
  refine ⟨Nat.zero_le _, fun dl hdl => ?_⟩
  have n1 : Ex H2 (upd H2 nd (DN P w nd [])) := Ex.new hnd
  have hnd3 : (upd H2 nd (DN P w nd [])) nd = some (DN P w nd []) := upd_same
  have hkd : (upd H2 nd (DN P w nd [])) kd = none := hkd
  have hdl : (upd (upd H2 nd (DN P w nd [])) kd (.dK [])) dl = none := hdl
  obtain ⟨H5, hH5⟩ : ∃ H5, H5 = upd (upd (upd H2 nd (DN P w nd [])) kd (.dK [])) dl (.lst []) := ⟨_, rfl⟩
  have n2 := Ex.new (o := HO.dK []) hkd
  have hkd4 : (upd (upd H2 nd (DN P w nd [])) kd (.dK [])) kd = some (.dK []) := upd_same
  have nk := ne_of_none hnd3 hkd
  have n3 : Ex (upd (upd H2 nd (DN P w nd [])) kd (.dK [])) H5 := by rw [hH5]; exact Ex.new (o := HO.lst []) hdl
  have hdl5 : H5 dl = some (.lst []) := by rw [hH5]; exact upd_same
  have nd_dl := ne_of_none (n2 _ _ hnd3) hdl
  have kd_dl := ne_of_none hkd4 hdl
  have e25 := (n1.trans n2).trans n3
  have hl5 := (e2.trans e25) _ _ hl
  refine ⟨_, rfl, l, us, rfl, .of (by rw [hH5] at hl5; exact hl5), fun wl hwl => ?_⟩
  have hwl : H5 wl = none := by rw [hH5]; exact hwl
  have n4 := Ex.new (o := HO.lst []) hwl
  have hnd5 := (n2.trans n3) _ _ hnd3
  have hkd5 := n3 _ _ hkd4
  have nd_wl := ne_of_none hnd5 hwl
  have kd_wl := ne_of_none hkd5 hwl
  have dl_wl := ne_of_none hdl5 hwl
  have l_wl := ne_of_none hl5 hwl
  have e5 := e2.trans e25
  have fnd := ex_none e2 hnd
  have fkd := ex_none (e2.trans n1) hkd
  have fdl := ex_none (e2.trans (n1.trans n2)) hdl
  have fwl := ex_none e5 hwl
  refine lc_it (walk_rev (xs := us)) (fun i H' => i ≤ us.length ∧ Ex H5 H' ∧ ∃ ws, H' wl = some (.lst ws) ∧ PySem.Paired (WAt K H') ws ((cs.reverse.take i).map fun x => (x, false))) ⟨Nat.zero_le _, by subst hH5; exact n4, [], upd_same, .nil⟩ (fun i H' _ ⟨_, e, _⟩ => .of (e _ _ hl5)) ?_ ?_
  · rintro i v Hx H6 hi ⟨hi', e6, ws, hw, hpw⟩ ⟨rfl, hv⟩
    have hi2 : i < us.length := hi
    obtain ⟨x, hx, hcx⟩ := hus.at' hv
    have hxr : cs.reverse[i]? = some x := by
      rw [List.getElem?_reverse (by omega), ← lus]
      exact hx
    refine ⟨rfl, yesI ⟨_, rfl, Nat.le_of_ble_eq_true rfl, fun p hp => ?_⟩⟩
    have e7 := Ex.new (o := HO.tup [v, V.bl false]) hp
    have hw7 := e7 _ _ hw
    have lw : ws.length = i := by rw [hpw.length, List.length_map, List.length_take, List.length_reverse]; omega
    refine ⟨ws, hw7, small5' (by omega), by omega, (e6.trans e7).mut hwl, ws ++ [.ref p], upd_same, ?_⟩
    have t8 : Tups K (upd H6 p (.tup [v, V.bl false])) (upd (upd H6 p (.tup [v, V.bl false])) wl (.lst (ws ++ [.ref p]))) := .lst hw7
    have et : (cs.reverse.take (i + 1)).map (fun x => (x, false)) = (cs.reverse.take i).map (fun x => (x, false)) ++ [(x, false)] := tk_succ _ hxr
    rw [et]
    refine paired_app (Paired.mapP hpw fun _ _ q => (q.tups (.of e7)).tups t8) (.cons (⟨p, v, rfl, t8 _ _ (.of upd_same), (hcx.tups (.of ((e5.trans e6).trans e7))).tups t8⟩) .nil)
  rintro H6 ⟨_, e6, ws, hw, hpw⟩
  have full : (cs.reverse.take us.length).map (fun x => (x, false)) = ((cs.map fun x => (x, false)) : List (Ce × Bool)).reverse := by
    rw [lus, ← List.length_reverse, List.take_length, List.map_reverse]
  rw [full] at hpw
  have e06 := e5.trans e6
  have init : RdI P w K H nd kd dl wl H6 (cs.map fun x => (x, false)) [] [] [] := ⟨e06, ⟨ws, hw, hpw⟩, fun q hq => by
    obtain ⟨x, hx, rfl⟩ := List.mem_map.1 hq
    exact hok x hx, ⟨[], e6 _ _ hdl5, Reps.nil⟩, ⟨[], e6 _ _ hnd5, .nil, fun a => rfl⟩, ⟨[], e6 _ _ hkd5, Nat.le_refl _, fun n => ⟨fun _ => rfl, fun u e => nomatch e⟩⟩, ⟨nd_wl, nd_dl, kd_wl, kd_dl, dl_wl, nk⟩, ⟨fnd, fkd, fdl, fwl⟩⟩
  clear hw hpw full e06 e6 hnd5 hkd5 hdl5 hl5 e25 n1 n2 n3 n4 hnd3 hkd4 hkd hdl hwl e5 hH5 hnd
  refine ⟨fun m σ H7 => ∃ W D as kn x2 x7 x8, σ = [some (.ref S), some (.ref l), x2, some (.ref nd), some (.ref kd), some (.ref dl), some (.ref wl), x7, x8] ∧ RdI P w K H nd kd dl wl H7 W D as kn ∧ Rd M m W D as kn D' as', ⟨m, _, _, _, _, _, _, _, rfl, init, hR⟩, ?_⟩
  clear init hR
  rintro m σ H7 ⟨W, D, as, kn, x2, x7, x8, rfl, hI, hR⟩
  obtain ⟨ws, hw, hpw⟩ := hI.wt
  have h7 := h.ex hI.ex
  obtain ⟨dx7, hS7⟩ := h7.ins
  rcases hR.view with ⟨rfl, rfl, rfl⟩ | ⟨cc, b, W, kf, e, m', rfl, hm, hf, hrest⟩
  · cases hpw
    refine ⟨_, rfl, false, .inl ⟨_, .of hw, rfl⟩, iteF ?_⟩
    obtain ⟨ds, hd, hD⟩ := hI.dn
    obtain ⟨kvs, hn, hp, _⟩ := hI.nm.ex
    refine ⟨_, rfl, _, rfl, nd, kvs, rfl, hn, fun ll hll => ⟨Nat.le_of_ble_eq_true rfl, fun t ht => ?_⟩⟩
    have e8 := Ex.new (o := HO.lst (kvs.map fun e => V.ref e.2.1)) hll
    have e9 := Ex.new (o := HO.tup [V.ref dl, V.ref ll]) ht
    refine k t dl ll ds _ _ ((hI.ex.trans e8).trans e9) (.of upd_same) ((e8.trans e9) _ _ hd) (hD.mono (.of (e8.trans e9))) (e9 _ _ upd_same) ?_
    have go : ∀ (kvs : List NKV) (as : List Ad), PySem.Paired (fun (e : NKV) a => e.1 = kA a ∧ AdAt K H7 (.ref e.2.1) a) kvs as → AAll K H7 (kvs.map fun e => V.ref e.2.1) as := by
      intro kvs as h
      induction h with
      | nil => exact .nil
      | cons h t ih => exact .cons h.2 ih
    exact (go _ _ hp).tups (.of (e8.trans e9))
  rw [List.reverse_cons] at hpw
  obtain ⟨ws', y, rfl, hpw', hy⟩ := paired_snoc_inv hpw
  have lastv : (ws' ++ [y])[(ws' ++ [y]).length - 1]? = some y := by simp
  have okW : ∀ q ∈ W, CeOk q.1 := fun q hq => hI.wo q (List.mem_cons_of_mem _ hq)
  have ok0 : CeOk cc := hI.wo _ (List.mem_cons_self ..)
  refine ⟨_, rfl, true, .inl ⟨_, .of hw, by simp⟩, iteT ⟨fun σ' H' => ∃ m', m' < m ∧ ∃ W D as kn x2 x7 x8, σ' = [some (.ref S), some (.ref l), x2, some (.ref nd), some (.ref kd), some (.ref dl), some (.ref wl), x7, x8] ∧ RdI P w K H nd kd dl wl H' W D as kn ∧ Rd M m' W D as kn D' as', fun _ _ q => q, ?_⟩⟩
  refine ⟨_, rfl, .inl ⟨rfl, _, .of hw⟩, wl, _, y, rfl, rfl, hw, lastv, ?_⟩
  rw [List.dropLast_concat]
  have tw : Tups K H7 (upd H7 wl (.lst ws')) := .lst hw
  have hI8 := hI.upW hpw' okW
  obtain ⟨p, u, rfl, hp, hu⟩ := hy.tups tw
  generalize upd H7 wl (.lst ws') = H8 at *
  clear hI hpw hpw' hy hw tw lastv h7 hS7
  have h8 := h.ex hI8.ex
  obtain ⟨dx8, hS8⟩ := h8.ins
  refine ⟨p, _, rfl, hp, rfl, _, _, rfl, _, _, rfl, rfl, ?_⟩
  refine ⟨_, rfl, S, dx8, _, rfl, hS8, rfl, _, rfl, S, c, d, nt, M, u, cc, e, kf, rfl, h8, hu, ok0, hf, fun v hv => ?_⟩
  have oke := hf.ok h8 ok0
  rcases hrest with ⟨rfl, n, f, j, rfl, hx, j1, jD, hz, hkz, hR'⟩ | ⟨rfl, hrest⟩
  · refine ⟨_, rfl, true, rfl, iteT ?_⟩
    obtain ⟨ds, hd, hD⟩ := hI8.dn
    have ld := hD.len
    refine ⟨_, rfl, S, dx8, _, rfl, hS8, rfl, _, rfl, _, rfl, S, c, d, nt, M, v, dl, n, f, j, D, ds, rfl, h8, hv, hx, j1, jD, hz, hd, hD, fun p9 H9 hp9 hd9 keep9 rep9 => ?_⟩
    obtain ⟨hI9, t9⟩ := hI8.cut keep9 hd9 (D' := D.take (D.length - j)) (by
      have z : Reps K H8 (D.take (D.length - j)) (ds.take (ds.length - j)) := by rw [ld]; exact hD.take _
      exact z.mono (fun a ys q => by
        have go : ∀ {o : HO}, H8 a = some o → (∀ x, o ≠ .lst x) → H9 a = some o := fun e n2 => keep9 _ _ (fun z => by subst z; rw [hd] at e; exact n2 _ (Option.some.inj e).symm) e
        rcases q with (q | ⟨o, q⟩) | q
        · exact .inl (.inl (go q (fun _ z => by cases z)))
        · exact .inl (.inr ⟨o, go q (fun _ z => by cases z)⟩)
        · exact .inr q))
    obtain ⟨kvs, dput, hI10, t10⟩ := hI9.upK n rep9 hkz
    obtain ⟨pv, qv, rfl, hpv, qa, rfl, hqa⟩ := hv.tups t9
    refine ⟨_, rfl, _, rfl, pv, _, 1, _, rfl, rfl, hpv, rfl, qa, _, 1, _, rfl, rfl, hqa, rfl, kd, _, rfl, dput, ?_⟩
    have rep10 := rep9.mono t10
    generalize upd H9 kd (.dK kvs) = H10 at *
    obtain ⟨vk, dg, repk⟩ := hI10.known (n := n) (u := .comp f (D.drop (D.length - j))) (by unfold kget; rw [if_pos rfl])
    obtain ⟨ds1, hd1, hD1⟩ := hI10.dn
    have ld1 := hD1.len
    rw [List.length_take] at ld1
    refine ⟨_, rfl, .inl ⟨rfl, _, .of hd1⟩, _, rfl, _, rfl, pv, _, 1, _, rfl, rfl, t10 _ _ hpv, rfl, qa, _, 1, _, rfl, rfl, t10 _ _ hqa, rfl, kd, vk, rfl, dg, dl, ds1, vk, rfl, rfl, hd1, szl (by omega), ?_⟩
    exact ⟨m', hm, W, _, as, _, _, _, _, rfl, hI10.upD (hD1.app (Reps.one repk)), hR'⟩
  refine ⟨_, rfl, false, rfl, iteF ?_⟩
  have hv0 := hv
  obtain ⟨pv, tl, rfl, hpv⟩ := cat_word hv
  refine ⟨_, rfl, pv, _, 0, _, rfl, rfl, hpv, at0, rfl, e.isStr, (by rw [wd_str]), ?_⟩
  rcases hrest with ⟨n, rfl, hstr⟩ | hrest
  · refine iteT ?_
    have hv1 := hv0
    obtain ⟨pv2, qv, epv, hpv2, qa, rfl, hqa⟩ := hv1
    cases epv
    obtain ⟨o, dg, hos⟩ := hI8.asks n
    refine ⟨_, rfl, pv, _, 1, _, rfl, rfl, hpv2, rfl, qa, _, 1, _, rfl, rfl, hqa, rfl, _, rfl, kd, o, rfl, dg, ?_⟩
    rw [hos]
    rcases hstr with ⟨u', hk', hz, hR'⟩ | ⟨hk', f, j, hx, hnj, hb, hR'⟩
    · rw [hk']
      refine ⟨true, rfl, iteT ?_⟩
      obtain ⟨vk, dg2, repk⟩ := hI8.known hk'
      obtain ⟨ds1, hd1, hD1⟩ := hI8.dn
      have ld1 := hD1.len
      refine ⟨_, rfl, .inl ⟨rfl, _, .of hd1⟩, _, rfl, _, rfl, pv, _, 1, _, rfl, rfl, hpv2, rfl, qa, _, 1, _, rfl, rfl, hqa, rfl, kd, vk, rfl, dg2, dl, ds1, vk, rfl, rfl, hd1, szl (by omega), ?_⟩
      exact ⟨m', hm, W, _, as, _, _, _, _, rfl, hI8.upD (hD1.app (Reps.one repk)), hR'⟩
    · rw [hk']
      refine ⟨false, rfl, iteF ?_⟩
      refine ⟨_, rfl, pv, _, 0, _, rfl, rfl, hpv, at0, rfl, true, rfl, iteT ?_⟩
      obtain ⟨ws1, hw1, hpw1⟩ := hI8.wt
      have lw1 : ws1.length = W.length := by rw [hpw1.length, List.length_reverse]
      refine ⟨_, rfl, .inl ⟨rfl, _, .of hw1⟩, _, rfl, Nat.le_of_ble_eq_true rfl, fun p9 hp9 => ?_⟩
      have e9 := Ex.new (o := HO.tup [V.ref pv, V.bl true]) hp9
      have t9 : SqT K (upd H8 p9 (.tup [V.ref pv, V.bl true])) p9 [V.ref pv, V.bl true] := .of upd_same
      have hI9 := hI8.exx e9
      have hv9 := hv0.tups (K := K) (.of e9)
      have hw9 := e9 _ _ hw1
      generalize upd H8 p9 (.tup [V.ref pv, V.bl true]) = H9 at *
      refine ⟨wl, ws1, .ref p9, rfl, rfl, hw9, szl (by omega), ?_⟩
      have okn : ∀ q ∈ ((Ce.str n, true) :: W : List (Ce × Bool)), CeOk q.1 := fun q hq => by
        rcases List.mem_cons.1 hq with rfl | hq
        · trivial
        · exact okW q hq
      have t10 : Tups K H9 (upd H9 wl (.lst (ws1 ++ [.ref p9]))) := .lst hw9
      have hI10 := hI9.upW (W' := (Ce.str n, true) :: W) (ws := ws1 ++ [.ref p9]) (by
        rw [List.reverse_cons]
        exact paired_app (Paired.mapP hpw1 fun _ _ q => q.tups (.of e9)) (.cons ⟨p9, _, rfl, t9, hv9⟩ .nil)) okn
      have hv10 := hv9.tups t10
      have hw10 : (upd H9 wl (.lst (ws1 ++ [.ref p9]))) wl = some (.lst (ws1 ++ [.ref p9])) := upd_same
      generalize upd H9 wl (.lst (ws1 ++ [.ref p9])) = H10 at *
      have h10 := h.ex hI10.ex
      obtain ⟨dxa, hSa⟩ := h10.ins
      refine ⟨_, rfl, .inl ⟨rfl, _, .of hw10⟩, _, rfl, S, dxa, _, rfl, hSa, rfl, _, rfl, S, c, d, nt, M, .ref pv, n, f, j, rfl, h10, hv10, hx, fun pa Ha usa hpa ea za husa => ?_⟩
      refine ⟨pa, usa, rfl, .of za, fun pr hpr => ?_⟩
      have er := Ex.new (o := HO.lst usa.reverse) hpr
      have zr : (upd Ha pr (.lst usa.reverse)) pr = some (.lst usa.reverse) := upd_same
      have eab := ea.trans er
      have husr := husa.tups (K := K) (.of er)
      generalize upd Ha pr (.lst usa.reverse) = Hr at *
      have hIr := hI10.exx eab
      have hwr := eab _ _ hw10
      refine ⟨pr, rfl, ⟨_, .of zr⟩, fun L hL => ?_⟩
      have eL := Ex.new (o := HO.lst []) hL
      have la : usa.length = j := by rw [husa.length, List.length_take, List.length_drop]; omega
      have j8 : j ≤ 8 := (h.ok _ (mem_of_at hx)).2.2
      have nLw := (ne_of_none hwr hL).symm
      have okargs : ∀ x ∈ (M.cs.drop (n + 1)).take j, CeOk x := fun x hx => h.ok x (List.mem_of_mem_drop (List.mem_of_mem_take hx))
      refine lc_it (walk_list (xs := usa.reverse)) (fun i H' => i ≤ usa.length ∧ Ex Hr H' ∧ ∃ vs, H' L = some (.lst vs) ∧ PySem.Paired (WAt K H') vs ((((M.cs.drop (n + 1)).take j).reverse.take i).map fun x => (x, false))) ⟨Nat.zero_le _, eL, [], upd_same, .nil⟩ (fun i H' _ ⟨_, e, _⟩ => .of (e _ _ zr)) ?_ ?_
      · rintro i x Hx H11 hi ⟨hi', e11, vs, hv11, hpv11⟩ ⟨rfl, hy11⟩
        have hi2 : i < usa.length := by
          have : i < usa.reverse.length := hi
          rwa [List.length_reverse] at this
        obtain ⟨xc, hxc, hcx⟩ := (show CAll K Hr usa.reverse ((M.cs.drop (n + 1)).take j).reverse from paired_rev husr).at' hy11
        refine ⟨rfl, yesI ⟨_, rfl, Nat.le_of_ble_eq_true rfl, fun p hp => ?_⟩⟩
        have e12 := Ex.new (o := HO.tup [x, V.bl false]) hp
        have hv12 := e12 _ _ hv11
        have lv : vs.length = i := by
          have lx : ((M.cs.drop (n + 1)).take j).length = usa.length := husa.length.symm
          rw [hpv11.length, List.length_map, List.length_take, List.length_reverse, lx]
          omega
        refine ⟨vs, hv12, small5' (by omega), by omega, (e11.trans e12).mut hL, vs ++ [.ref p], upd_same, ?_⟩
        have t13 := Tups.lst (K := K) (o := .lst (vs ++ [.ref p])) hv12
        have et : (((M.cs.drop (n + 1)).take j).reverse.take (i + 1)).map (fun x => (x, false)) = (((M.cs.drop (n + 1)).take j).reverse.take i).map (fun x => (x, false)) ++ [(xc, false)] := tk_succ _ hxc
        rw [et]
        exact paired_app (Paired.mapP hpv11 fun _ _ q => (q.tups (.of e12)).tups t13) (.cons ⟨p, x, rfl, t13 _ _ (.of upd_same), (hcx.tups (.of (e11.trans e12))).tups t13⟩ .nil)
      rintro H11 ⟨_, e11, vs, hv11, hpv11⟩
      have lx : ((M.cs.drop (n + 1)).take j).length = usa.length := husa.length.symm
      have full2 : (((M.cs.drop (n + 1)).take j).reverse.take usa.length).map (fun x => (x, false)) = ((((M.cs.drop (n + 1)).take j).map fun x => (x, false)) : List (Ce × Bool)).reverse := by
        rw [← lx, ← List.length_reverse, List.take_length, List.map_reverse]
      rw [List.length_reverse] at hpv11
      rw [full2] at hpv11
      have lv : vs.length = j := by rw [hpv11.length, List.length_reverse, List.length_map, lx, la]
      have hI11 := hIr.exx e11
      have hw11 := e11 _ _ hwr
      refine ⟨wl, L, ws1 ++ [.ref p9], vs, rfl, rfl, hw11, hv11, Nat.le_of_lt (szl (by rw [List.length_append, List.length_singleton]; omega)), ?_⟩
      obtain ⟨ws2, hw2, hpw2⟩ := hI11.wt
      rw [hw11] at hw2
      cases hw2
      refine ⟨m', hm, _, D, as, kn, _, _, _, rfl, hI11.upW (W' := ((M.cs.drop (n + 1)).take j).map (fun x => (x, false)) ++ (Ce.str n, true) :: W) ?_ ?_, hR'⟩
      · rw [List.reverse_append]
        exact paired_app hpw2 hpv11
      · intro q hq
        rcases List.mem_append.1 hq with hq | hq
        · obtain ⟨x, hx', rfl⟩ := List.mem_map.1 hq
          exact okargs x hx'
        · exact okn q hq
  have ns : e.isStr = false := by
    rcases hrest with ⟨a, rfl, _⟩ | ⟨t, v, ⟨s, rfl, _⟩, _⟩ | ⟨i, rfl, _⟩ <;> rfl
  rw [ns]
  refine iteF (iteF ?_)
  refine ⟨_, rfl, pv, _, 0, _, rfl, rfl, hpv, at0, rfl, e.isStr, (by rw [wd_str]), ?_⟩
  rw [ns]
  refine iteF ?_
  refine ⟨_, rfl, pv, _, 0, _, rfl, rfl, hpv, at0, rfl, e.isRef, (by rw [wd_isref]), ?_⟩
  obtain ⟨ds1, hd1, hD1⟩ := hI8.dn
  have ld1 := hD1.len
  rcases hrest with ⟨a, rfl, haz, hz, hR'⟩ | ⟨t, _, ⟨s, rfl, rfl⟩, hz, hR'⟩ | ⟨i, rfl, hz, hR'⟩
  · refine iteT ?_
    obtain ⟨pr, ur, epr, hpr, har⟩ := id hv0
    cases epr
    obtain ⟨q, rfl, hkr⟩ := krep_A har
    obtain ⟨kvs, hn, hp, hval⟩ := hI8.nm.ex
    have hko := num_ok hp
    have hkl := hp.length
    refine ⟨_, rfl, .inl ⟨rfl, _, .of hd1⟩, _, rfl, nd, kvs, rfl, hn, hko, _, rfl, pv, _, 1, _, rfl, rfl, hpr, rfl, _, rfl, nd, kvs, rfl, hn, hko, q, kvs, kA a, ⟨rfl, rfl, hn, hko, hkr, kok_A a⟩, szl (by omega), fun v' hv' => ?_, fun hv' => ?_⟩
    · rw [hval a] at hv'
      by_cases ha : a ∈ as
      · rw [if_pos ha] at hv'
        cases hv'
        refine ⟨Nat.le_of_ble_eq_true rfl, fun p9 hp9 => ?_⟩
        have e9 := Ex.new (o := HO.tup [V.int (as.idxOf a : Nat)]) hp9
        refine ⟨dl, ds1, .ref p9, rfl, rfl, e9 _ _ hd1, szl (by omega), ?_⟩
        have ea : addA as a = as := by unfold addA; rw [if_pos ha]
        rw [ea] at hR'
        exact ⟨m', hm, W, _, as, _, _, _, _, rfl, (hI8.exx e9).upD ((hD1.mono (.of e9)).app (Reps.one (by unfold Rep; exact ⟨p9, rfl, .of upd_same⟩))), hR'⟩
      · rw [if_neg ha] at hv'
        cases hv'
    · rw [hval a] at hv'
      by_cases ha : a ∈ as
      · rw [if_pos ha] at hv'
        cases hv'
      · obtain ⟨hI9, t9⟩ := hI8.upN hn hp hval ha har
        refine ⟨Nat.le_of_ble_eq_true rfl, fun p9 hp9 => ?_⟩
        have ea : addA as a = as ++ [a] := by unfold addA; rw [if_neg ha]
        have ei : (as ++ [a]).idxOf a = kvs.length := by
          rw [List.idxOf_append, if_neg ha, hkl]
          simp
        rw [ea, ei] at hR'
        obtain ⟨ds2, hd2, hD2⟩ := hI9.dn
        have ld2 := hD2.len
        have e9 : Ex (upd H8 nd (DN P w nd (putN kvs (kA a) q (.int (kvs.length : Nat))))) (upd (upd H8 nd (DN P w nd (putN kvs (kA a) q (.int (kvs.length : Nat))))) p9 (.tup [V.int (kvs.length : Nat)])) := Ex.new hp9
        refine ⟨dl, ds2, .ref p9, rfl, rfl, e9 _ _ hd2, szl (by omega), ?_⟩
        exact ⟨m', hm, W, _, as ++ [a], _, _, _, _, rfl, (hI9.exx e9).upD ((hD2.mono (.of e9)).app (Reps.one (by unfold Rep; exact ⟨p9, rfl, .of upd_same⟩))), hR'⟩
  · refine iteF ?_
    obtain ⟨pc, epc, hpc⟩ := hv0
    cases epc
    refine ⟨_, rfl, .inl ⟨rfl, _, .of hd1⟩, _, rfl, pv, _, 1, _, rfl, rfl, hpc, rfl, dl, ds1, _, rfl, rfl, hd1, szl (by omega), ?_⟩
    exact ⟨m', hm, W, _, as, _, _, _, _, rfl, hI8.upD (hD1.app (Reps.one (by unfold Rep; rfl))), hR'⟩
  · refine iteF ?_
    obtain ⟨pc, epc, hpc⟩ := hv0
    cases epc
    refine ⟨_, rfl, .inl ⟨rfl, _, .of hd1⟩, _, rfl, pv, _, 1, _, rfl, rfl, hpc, rfl, dl, ds1, _, rfl, rfl, hd1, szl (by omega), ?_⟩
    exact ⟨m', hm, W, _, as, _, _, _, _, rfl, hI8.upD (hD1.app (Reps.one (by unfold Rep; rfl))), hR'⟩
end
end Hm

set_option Elab.async false
set_option linter.all false
set_option maxRecDepth 100000
set_option maxHeartbeats 1000000
namespace Hm
open PySem
/-! ### what was written stands for the term -/
mutual
def RawC (cs : List Ce) (ad : Int → Ad) : Tm → Ce → Prop
  | .var k, c => c = .ref (ad k)
  | .atom s, c => c = .con s
  | .int i, c => c = .num i
  | .comp f ts, c => ∃ n, c = .str n ∧ cs[n]? = some (.fn f ts.length) ∧ n + ts.length < cs.length ∧ RawCs cs ad ts ((cs.drop (n + 1)).take ts.length)
def RawCs (cs : List Ce) (ad : Int → Ad) : List Tm → List Ce → Prop
  | [], xs => xs = []
  | t :: ts, xs => ∃ c r, xs = c :: r ∧ RawC cs ad t c ∧ RawCs cs ad ts r
end
mutual
theorem raw_app {cs : List Ce} {ad : Int → Ad} (x : List Ce) : ∀ (t : Tm) (c : Ce), RawC cs ad t c → RawC (cs ++ x) ad t c
  | .var _, _, h => h
  | .atom _, _, h => h
  | .int _, _, h => h
  | .comp f ts, c, h => by
    unfold RawC at h ⊢
    obtain ⟨n, e, h1, h2, h3⟩ := h
    refine ⟨n, e, get_app h1, by rw [List.length_append]; omega, ?_⟩
    have e2 : ((cs ++ x).drop (n + 1)).take ts.length = (cs.drop (n + 1)).take ts.length := by
      rw [List.drop_append_of_le_length (by omega), List.take_append_of_le_length (by rw [List.length_drop]; omega)]
    rw [e2]
    exact raws_app x ts _ h3
theorem raws_app {cs : List Ce} {ad : Int → Ad} (x : List Ce) : ∀ (ts : List Tm) (ys : List Ce), RawCs cs ad ts ys → RawCs (cs ++ x) ad ts ys
  | [], _, h => h
  | t :: ts, ys, h => by
    unfold RawCs at h ⊢
    obtain ⟨c, r, e, h1, h2⟩ := h
    exact ⟨c, r, e, raw_app x t c h1, raws_app x ts r h2⟩
end
mutual
theorem raw_den {M : Mem} {ad : Int → Ad} {m : Int} (hs : ∀ k, 0 ≤ k → k < m → M.at (ad k) = some (.ref (ad k))) : ∀ (t : Tm) (c : Ce), Vb m t → RawC M.cs ad t c → Den M ad t c
  | .var k, c, hv, h => by
    unfold RawC at h
    unfold Den
    unfold Vb at hv
    subst h
    exact ⟨0, .self (hs k hv.1 hv.2)⟩
  | .atom s, c, _, h => by
    unfold RawC at h
    unfold Den
    subst h
    exact ⟨0, .stop (fun a z => by cases z)⟩
  | .int s, c, _, h => by
    unfold RawC at h
    unfold Den
    subst h
    exact ⟨0, .stop (fun a z => by cases z)⟩
  | .comp f ts, c, hv, h => by
    unfold RawC at h
    unfold Den
    unfold Vb at hv
    obtain ⟨n, rfl, h1, h2, h3⟩ := h
    exact ⟨0, n, .stop (fun a z => by cases z), h1, h2, raws_den hs ts _ hv h3⟩
theorem raws_den {M : Mem} {ad : Int → Ad} {m : Int} (hs : ∀ k, 0 ≤ k → k < m → M.at (ad k) = some (.ref (ad k))) : ∀ (ts : List Tm) (xs : List Ce), Vbs m ts → RawCs M.cs ad ts xs → Dens M ad ts xs
  | [], _, _, h => h
  | t :: ts, xs, hv, h => by
    rw [vbs_cons] at hv
    unfold RawCs at h
    unfold Dens
    obtain ⟨c, r, e, h1, h2⟩ := h
    exact ⟨c, r, e, raw_den hs t c hv.1 h1, raws_den hs ts r hv.2 h2⟩
end
def tsz : Tm → Nat
  | .comp _ as => as.length + 1
  | _ => 0
def tszs : List Tm → Nat
  | [] => 0
  | t :: ts => tsz t + tszs ts
theorem tszs_app : ∀ xs ys : List Tm, tszs (xs ++ ys) = tszs xs + tszs ys
  | [], ys => by simp [tszs]
  | x :: xs, ys => by
    show tsz x + tszs (xs ++ ys) = tsz x + tszs xs + tszs ys
    rw [tszs_app xs ys]
    omega
/-- the compounds of a row stand one behind the other from p on -/
def PosAll (cs : List Ce) (ad : Int → Ad) : Nat → List Tm → Prop
  | _, [] => True
  | p, t :: ts => RawC cs ad t (.str p) ∧ PosAll cs ad (p + tsz t) ts
theorem pos_app {cs : List Ce} {ad : Int → Ad} : ∀ (xs ys : List Tm) (p : Nat), PosAll cs ad p (xs ++ ys) → PosAll cs ad p xs ∧ PosAll cs ad (p + tszs xs) ys
  | [], ys, p, h => ⟨trivial, h⟩
  | x :: xs, ys, p, h => by
    obtain ⟨h1, h2⟩ := h
    obtain ⟨g1, g2⟩ := pos_app xs ys _ h2
    refine ⟨⟨h1, g1⟩, ?_⟩
    rw [show p + tszs (x :: xs) = p + tsz x + tszs xs by show p + (tsz x + tszs xs) = _; omega]
    exact g2
/-- names stay what they are -/
def NmLe (nm nm' : Int → Option Ce) : Prop := ∀ k c, nm k = some c → nm' k = some c
theorem wArg_nmle (b : BS) (t : Tm) : NmLe b.nm (wArg b t).nm := by
  cases t with
  | comp f as => exact fun _ _ h => h
  | atom a => exact fun _ _ h => h
  | int a => exact fun _ _ h => h
  | var k =>
    show NmLe b.nm (wVar b k).nm
    rcases wVar_is b k with ⟨c, _, e⟩ | ⟨hn, e⟩
    · rw [e]
      exact fun _ _ h => h
    · rw [e]
      intro j c h
      show (if j = k then _ else b.nm j) = some c
      rw [if_neg (fun z => by rw [z, hn] at h; cases h)]
      exact h
theorem fold_nmle : ∀ (as : List Tm) (b : BS), NmLe b.nm (as.foldl wArg b).nm
  | [], _ => fun _ _ h => h
  | t :: as, b => fun k c h => fold_nmle as (wArg b t) k c (wArg_nmle b t k c h)
theorem wComp_nmle (b : BS) (t : Tm) : NmLe b.nm (wComp b t).nm := by
  cases t with
  | comp f as => exact fold_nmle as { b with cs := b.cs ++ [.fn f as.length] }
  | _ => exact fun _ _ h => h
theorem Wr.nmle {m i : Nat} {b b' : BS} (h : Wr m i b b') : NmLe b.nm b'.nm := by
  induction h with
  | done _ => exact fun _ _ h => h
  | step _ _ ih => exact fun k c h => ih k c (wComp_nmle _ _ k c h)
def NmA (nm : Int → Option Ce) (ad : Int → Ad) : Prop := ∀ k c, nm k = some c → c = .ref (ad k)
theorem wArg_lastv (b : BS) (k : Int) : (wVar b k).last = b.last ∧ (wVar b k).wt = b.wt := by
  rcases wVar_is b k with ⟨c, _, e⟩ | ⟨_, e⟩ <;> rw [e] <;> exact ⟨rfl, rfl⟩
/-- the cells of the arguments -/
theorem fold_raw {cs' : List Ce} {ad : Int → Ad} : ∀ (as : List Tm) (b : BS), NmA (as.foldl wArg b).nm ad → PosAll cs' ad b.last (as.filter isC) → ∃ xs, (as.foldl wArg b).cs = b.cs ++ xs ∧ xs.length = as.length ∧ RawCs cs' ad as xs
  | [], b, _, _ => ⟨[], by simp, rfl, rfl⟩
  | t :: as, b, hn, hp => by
    rw [List.foldl_cons] at hn ⊢
    have key : ∃ x, (wArg b t).cs = b.cs ++ [x] ∧ RawC cs' ad t x ∧ PosAll cs' ad (wArg b t).last (as.filter isC) := by
      cases t with
      | comp f us =>
        rw [List.filter_cons_of_pos rfl] at hp
        exact ⟨.str b.last, rfl, hp.1, hp.2⟩
      | atom s =>
        rw [List.filter_cons_of_neg (by simp [isC])] at hp
        exact ⟨.con s, rfl, rfl, hp⟩
      | int s =>
        rw [List.filter_cons_of_neg (by simp [isC])] at hp
        exact ⟨.num s, rfl, rfl, hp⟩
      | var k =>
        rw [List.filter_cons_of_neg (by simp [isC])] at hp
        have nmle := fold_nmle as (wArg b (.var k))
        show ∃ x, (wVar b k).cs = b.cs ++ [x] ∧ RawC cs' ad (.var k) x ∧ PosAll cs' ad (wVar b k).last (as.filter isC)
        rw [(wArg_lastv b k).1]
        rcases wVar_is b k with ⟨c, hc, e⟩ | ⟨hc, e⟩
        · refine ⟨c, by rw [e], ?_, hp⟩
          have h1 : (wArg b (.var k)).nm k = some c := by show (wVar b k).nm k = some c; rw [e]; exact hc
          exact hn k c (nmle k c h1)
        · refine ⟨.ref (.h b.cs.length), by rw [e], ?_, hp⟩
          have h1 : (wArg b (.var k)).nm k = some (.ref (.h b.cs.length)) := by
            show (wVar b k).nm k = _
            rw [e]
            show (if k = k then _ else b.nm k) = _
            rw [if_pos rfl]
          exact hn k _ (nmle k _ h1)
    obtain ⟨x, e1, h1, h2⟩ := key
    obtain ⟨xs, e2, l2, h3⟩ := fold_raw as (wArg b t) hn h2
    refine ⟨x :: xs, by rw [e2, e1, List.append_assoc]; rfl, by rw [List.length_cons, List.length_cons, l2], ?_⟩
    unfold RawCs
    exact ⟨x, xs, rfl, h1, h3⟩
theorem wr_raw {ad : Int → Ad} {m i : Nat} {b b' : BS} (h : Wr m i b b') : (∀ t ∈ b.wt, isC t = true) → b.last = b.cs.length + tszs (b.wt.drop i) → NmA b'.nm ad → PosAll b'.cs ad b.cs.length (b.wt.drop i) := by
  induction h with
  | done e =>
    intro _ _ _
    subst e
    rw [List.drop_length]
    trivial
  | @step m i b b' t hg hw ih =>
    intro hc hl hn
    have hm := List.mem_of_getElem? hg
    have ct := hc t hm
    have il : i < b.wt.length := (List.getElem?_eq_some_iff.1 hg).1
    rw [drop_at hg] at hl ⊢
    cases t with
    | var _ => cases ct
    | atom _ => cases ct
    | int _ => cases ct
    | comp f as =>
      have dr : (wComp b (.comp f as)).wt.drop (i + 1) = b.wt.drop (i + 1) ++ as.filter isC := by
        rw [wComp_wt, List.drop_append_of_le_length (by omega)]
      have fi := (fold_is as { b with cs := b.cs ++ [.fn f as.length] }).len
      have len1 : (wComp b (.comp f as)).cs.length = b.cs.length + 1 + as.length := by
        have e : (wComp b (.comp f as)).cs.length = (b.cs ++ [Ce.fn f as.length]).length + as.length := fi
        rw [e, List.length_append, List.length_singleton]
      have t1 : tsz (.comp f as) = as.length + 1 := rfl
      have hl' : b.last = b.cs.length + (tsz (.comp f as) + tszs (b.wt.drop (i + 1))) := hl
      have lastEq : ∀ (us : List Tm) (b0 : BS), (us.foldl wArg b0).last = b0.last + tszs (us.filter isC) := by
        intro us
        induction us with
        | nil => intro b0; simp [tszs]
        | cons u us ihu =>
          intro b0
          rw [List.foldl_cons, ihu]
          cases u with
          | comp g ws =>
            rw [List.filter_cons_of_pos rfl]
            show b0.last + (ws.length + 1) + _ = b0.last + ((ws.length + 1) + _)
            omega
          | atom _ =>
            rw [List.filter_cons_of_neg (by simp [isC])]
            rfl
          | int _ =>
            rw [List.filter_cons_of_neg (by simp [isC])]
            rfl
          | var k =>
            rw [List.filter_cons_of_neg (by simp [isC])]
            show (wVar b0 k).last + _ = _
            rw [(wArg_lastv b0 k).1]
      have last1 : (wComp b (.comp f as)).last = b.last + tszs (as.filter isC) := lastEq as { b with cs := b.cs ++ [.fn f as.length] }
      have P := ih (fun t ht => by
        rw [wComp_wt] at ht
        rcases List.mem_append.1 ht with ht | ht
        · exact hc t ht
        · exact (List.mem_filter.1 ht).2) (by rw [last1, dr, tszs_app, len1]; omega) hn
      rw [dr] at P
      obtain ⟨P1, P2⟩ := pos_app _ _ _ P
      have eb : (wComp b (.comp f as)).cs.length = b.cs.length + tsz (.comp f as) := by omega
      rw [eb] at P1 P2
      refine ⟨?_, P1⟩
      have hn1 : NmA (wComp b (.comp f as)).nm ad := fun k c e => hn k c (hw.nmle k c e)
      obtain ⟨xs, e1, l1, r1⟩ := fold_raw (cs' := b'.cs) as { b with cs := b.cs ++ [.fn f as.length] } hn1 (by
        show PosAll b'.cs ad b.last _
        rw [show b.last = b.cs.length + tsz (.comp f as) + tszs (b.wt.drop (i + 1)) by omega]
        exact P2)
      obtain ⟨y, hy⟩ := hw.le.cs
      have e2 : b'.cs = b.cs ++ [.fn f as.length] ++ xs ++ y := by
        rw [hy]
        have e3 : (wComp b (.comp f as)).cs = b.cs ++ [.fn f as.length] ++ xs := e1
        rw [e3]
      unfold RawC
      refine ⟨b.cs.length, rfl, ?_, ?_, ?_⟩
      · rw [e2]
        refine get_app (get_app ?_)
        rw [List.getElem?_append_right (Nat.le_refl _), Nat.sub_self]
        rfl
      · rw [e2]
        simp only [List.length_append, List.length_singleton]
        omega
      · have e4 : (b'.cs.drop (b.cs.length + 1)).take as.length = xs := by
          rw [e2, List.append_assoc (b.cs ++ [_]) xs y, List.drop_append_of_le_length (by simp), List.drop_eq_nil_of_le (by simp), List.nil_append, ← l1, List.take_left]
        rw [e4]
        exact r1
/-- what build leaves is the term -/
theorem bt_raw {cs : List Ce} {nm : Int → Option Ce} {n : Nat} {t : Tm} {x : Ce} {cs' : List Ce} {nm' : Int → Option Ce} {n' : Nat} (h : Bt cs nm n t x cs' nm' n') {ad : Int → Ad} (hn : NmA nm' ad) : RawC cs' ad t x ∧ NmLe nm nm' ∧ ∃ ext, cs' = cs ++ ext := by
  cases t with
  | atom a =>
    obtain ⟨rfl, rfl, rfl, rfl⟩ := h
    exact ⟨rfl, fun _ _ h => h, [], by simp⟩
  | int a =>
    obtain ⟨rfl, rfl, rfl, rfl⟩ := h
    exact ⟨rfl, fun _ _ h => h, [], by simp⟩
  | var k =>
    rcases h with ⟨c, hc, rfl, rfl, rfl, rfl⟩ | ⟨hc, rfl, rfl, rfl, rfl⟩
    · exact ⟨hn k _ hc, fun _ _ h => h, [], by simp⟩
    · refine ⟨hn k _ (by show (if k = k then _ else nm k) = _; rw [if_pos rfl]), fun j c e => ?_, _, rfl⟩
      show (if j = k then _ else nm j) = some c
      rw [if_neg (fun z => by rw [z, hc] at e; cases e)]
      exact e
  | comp f as =>
    obtain ⟨rfl, m, b', hw, rfl, rfl, rfl, _⟩ := h
    have P := wr_raw hw (fun t ht => by
      cases List.mem_singleton.1 ht
      rfl) (by show cs.length + (as.length + 1) = cs.length + (as.length + 1 + 0); omega) hn
    exact ⟨P.1, hw.nmle, hw.le.cs⟩
end Hm

set_option Elab.async false
set_option linter.all false
set_option maxRecDepth 100000
set_option maxHeartbeats 1000000
namespace Hm
open PySem
/-! ### the names: each its own unbound variable -/
structure NmI (nm : Int → Option Ce) (cs : List Ce) : Prop where
  self : ∀ k c, nm k = some c → ∃ m, c = .ref (.h m) ∧ cs[m]? = some c
  inj : ∀ j k c, nm j = some c → nm k = some c → j = k
theorem NmI.grow {nm : Int → Option Ce} {cs : List Ce} (h : NmI nm cs) (x : List Ce) : NmI nm (cs ++ x) := ⟨fun k c e => by
  obtain ⟨m, e1, e2⟩ := h.self k c e
  exact ⟨m, e1, get_app e2⟩, h.inj⟩
theorem NmI.new {nm : Int → Option Ce} {cs : List Ce} (h : NmI nm cs) {k : Int} (hk : nm k = none) : NmI (fun j => if j = k then some (.ref (.h cs.length)) else nm j) (cs ++ [.ref (.h cs.length)]) := by
  have top : (cs ++ [Ce.ref (.h cs.length)])[cs.length]? = some (.ref (.h cs.length)) := by
    rw [List.getElem?_append_right (Nat.le_refl _), Nat.sub_self]
    rfl
  have low : ∀ j c, nm j = some c → c ≠ .ref (.h cs.length) := fun j c e z => by
    obtain ⟨m, e1, e2⟩ := h.self j c e
    have hl := (List.getElem?_eq_some_iff.1 e2).1
    rw [z] at e1
    injection e1 with e1
    injection e1 with e1
    omega
  refine ⟨fun j c e => ?_, fun i j c e1 e2 => ?_⟩
  · by_cases q : j = k
    · rw [if_pos q] at e
      cases e
      exact ⟨cs.length, rfl, top⟩
    · rw [if_neg q] at e
      obtain ⟨m, g1, g2⟩ := h.self j c e
      exact ⟨m, g1, get_app g2⟩
  · by_cases q1 : i = k
    · by_cases q2 : j = k
      · rw [q1, q2]
      · rw [if_pos q1] at e1
        rw [if_neg q2] at e2
        cases e1
        exact absurd rfl (low j _ e2)
    · by_cases q2 : j = k
      · rw [if_neg q1] at e1
        rw [if_pos q2] at e2
        cases e2
        exact absurd rfl (low i _ e1)
      · rw [if_neg q1] at e1
        rw [if_neg q2] at e2
        exact h.inj i j c e1 e2
theorem wVar_nmi {b : BS} (h : NmI b.nm b.cs) (k : Int) : NmI (wVar b k).nm (wVar b k).cs := by
  rcases wVar_is b k with ⟨c, _, e⟩ | ⟨hc, e⟩
  · rw [e]
    exact h.grow _
  · rw [e]
    exact h.new hc
theorem wArg_nmi {b : BS} (h : NmI b.nm b.cs) (t : Tm) : NmI (wArg b t).nm (wArg b t).cs := by
  cases t with
  | comp f as => exact h.grow _
  | atom a => exact h.grow _
  | int a => exact h.grow _
  | var k => exact wVar_nmi h k
theorem fold_nmi : ∀ (as : List Tm) (b : BS), NmI b.nm b.cs → NmI (as.foldl wArg b).nm (as.foldl wArg b).cs
  | [], _, h => h
  | t :: as, b, h => fold_nmi as _ (wArg_nmi h t)
theorem Wr.nmi {m i : Nat} {b b' : BS} (h : Wr m i b b') : NmI b.nm b.cs → NmI b'.nm b'.cs := by
  induction h with
  | done _ => exact id
  | @step m i b b' t _ _ ih =>
    intro h
    refine ih ?_
    cases t with
    | comp f as => exact fold_nmi as { b with cs := b.cs ++ [.fn f as.length] } (h.grow _)
    | var _ => exact h
    | atom _ => exact h
    | int _ => exact h
mutual
def DomT (nm : Int → Option Ce) : Tm → Prop
  | .var k => ∃ c, nm k = some c
  | .comp _ ts => DomTs nm ts
  | .atom _ => True
  | .int _ => True
def DomTs (nm : Int → Option Ce) : List Tm → Prop
  | [] => True
  | t :: ts => DomT nm t ∧ DomTs nm ts
end
mutual
theorem dom_le {nm nm' : Int → Option Ce} (h : NmLe nm nm') : ∀ t : Tm, DomT nm t → DomT nm' t
  | .var k, ⟨c, e⟩ => ⟨c, h k c e⟩
  | .comp _ ts, e => doms_le h ts e
  | .atom _, _ => trivial
  | .int _, _ => trivial
theorem doms_le {nm nm' : Int → Option Ce} (h : NmLe nm nm') : ∀ ts : List Tm, DomTs nm ts → DomTs nm' ts
  | [], _ => trivial
  | t :: ts, e => ⟨dom_le h t e.1, doms_le h ts e.2⟩
end
theorem wVar_dom (b : BS) (k : Int) : ∃ c, (wVar b k).nm k = some c := by
  rcases wVar_is b k with ⟨c, hc, e⟩ | ⟨_, e⟩
  · rw [e]
    exact ⟨c, hc⟩
  · rw [e]
    exact ⟨.ref (.h b.cs.length), by show (if k = k then _ else b.nm k) = _; rw [if_pos rfl]⟩
theorem fold_dom {nm' : Int → Option Ce} : ∀ (as : List Tm) (b : BS), NmLe (as.foldl wArg b).nm nm' → (∀ u ∈ as.filter isC, DomT nm' u) → DomTs nm' as
  | [], _, _, _ => trivial
  | t :: as, b, hl, hd => by
    refine ⟨?_, fold_dom as (wArg b t) hl (fun u hu => hd u ?_)⟩
    · cases t with
      | comp f us => exact hd _ (by rw [List.filter_cons_of_pos rfl]; exact List.mem_cons_self ..)
      | atom _ => trivial
      | int _ => trivial
      | var k =>
        obtain ⟨c, hc⟩ := wVar_dom b k
        exact ⟨c, hl k c (fold_nmle as (wVar b k) k c hc)⟩
    · rw [List.filter_cons]
      split
      · exact List.mem_cons_of_mem _ hu
      · exact hu
theorem Wr.dom {m i : Nat} {b b' : BS} (h : Wr m i b b') : (∀ t ∈ b.wt, isC t = true) → ∀ t ∈ b.wt.drop i, DomT b'.nm t := by
  induction h with
  | done e =>
    intro _ t ht
    subst e
    rw [List.drop_length] at ht
    cases ht
  | @step m i b b' t hg hw ih =>
    intro hc u hu
    have hm := List.mem_of_getElem? hg
    have ct := hc t hm
    have il : i < b.wt.length := (List.getElem?_eq_some_iff.1 hg).1
    rw [drop_at hg] at hu
    cases t with
    | var _ => cases ct
    | atom _ => cases ct
    | int _ => cases ct
    | comp f as =>
      have dr : (wComp b (.comp f as)).wt.drop (i + 1) = b.wt.drop (i + 1) ++ as.filter isC := by
        rw [wComp_wt, List.drop_append_of_le_length (by omega)]
      have P := ih (fun t ht => by
        rw [wComp_wt] at ht
        rcases List.mem_append.1 ht with ht | ht
        · exact hc t ht
        · exact (List.mem_filter.1 ht).2)
      rw [dr] at P
      rcases List.mem_cons.1 hu with rfl | hu
      · exact fold_dom as { b with cs := b.cs ++ [.fn f as.length] } hw.nmle (fun v hv => P v (List.mem_append_right _ hv))
      · exact P u (List.mem_append_left _ hu)
theorem bt_names {cs : List Ce} {nm : Int → Option Ce} {n : Nat} {t : Tm} {x : Ce} {cs' : List Ce} {nm' : Int → Option Ce} {n' : Nat} (h : Bt cs nm n t x cs' nm' n') (hi : NmI nm cs) : NmI nm' cs' ∧ DomT nm' t := by
  cases t with
  | atom a =>
    obtain ⟨rfl, rfl, rfl, rfl⟩ := h
    exact ⟨hi, trivial⟩
  | int a =>
    obtain ⟨rfl, rfl, rfl, rfl⟩ := h
    exact ⟨hi, trivial⟩
  | var k =>
    rcases h with ⟨c, hc, rfl, rfl, rfl, rfl⟩ | ⟨hc, rfl, rfl, rfl, rfl⟩
    · exact ⟨hi, _, hc⟩
    · exact ⟨hi.new hc, _, by show (if k = k then _ else nm k) = _; rw [if_pos rfl]⟩
  | comp f as =>
    obtain ⟨rfl, m, b', hw, rfl, rfl, rfl, _⟩ := h
    exact ⟨hw.nmi hi, hw.dom (fun t ht => by
      cases List.mem_singleton.1 ht
      rfl) _ (by rw [List.drop_zero]; exact List.mem_singleton.2 rfl)⟩
/-! ### the law's own writing: places that are filled later -/
def fillAll : List (Option Ce) → Nat → List (Option Nat × Tm) → List (Option Ce)
  | lc, _, [] => lc
  | lc, p, (some j, t) :: r => fillAll (lc.set j (some (.str p))) (p + tsz t) r
  | lc, p, (none, t) :: r => fillAll lc (p + tsz t) r
theorem fill_len : ∀ (W : List (Option Nat × Tm)) (lc : List (Option Ce)) (p : Nat), (fillAll lc p W).length = lc.length
  | [], _, _ => rfl
  | (some j, t) :: r, lc, p => by
    show (fillAll (lc.set j (some (.str p))) (p + tsz t) r).length = _
    rw [fill_len r, List.length_set]
  | (none, t) :: r, lc, p => fill_len r lc _
theorem fill_app : ∀ (W V : List (Option Nat × Tm)) (lc : List (Option Ce)) (p : Nat), fillAll lc p (W ++ V) = fillAll (fillAll lc p W) (p + tszs (W.map (·.2))) V
  | [], V, lc, p => rfl
  | (some j, t) :: r, V, lc, p => by
    show fillAll (lc.set j (some (.str p))) (p + tsz t) (r ++ V) = fillAll (fillAll (lc.set j (some (.str p))) (p + tsz t) r) (p + (tsz t + tszs (r.map (·.2)))) V
    rw [fill_app r V, Nat.add_assoc]
  | (none, t) :: r, V, lc, p => by
    show fillAll lc (p + tsz t) (r ++ V) = fillAll (fillAll lc (p + tsz t) r) (p + (tsz t + tszs (r.map (·.2)))) V
    rw [fill_app r V, Nat.add_assoc]
def PosLt (W : List (Option Nat × Tm)) (n : Nat) : Prop := ∀ j t, (some j, t) ∈ W → j < n
theorem fill_push : ∀ (W : List (Option Nat × Tm)) (lc : List (Option Ce)) (p : Nat) (x : Option Ce), PosLt W lc.length → fillAll (lc ++ [x]) p W = fillAll lc p W ++ [x]
  | [], _, _, _, _ => rfl
  | (some j, t) :: r, lc, p, x, h => by
    have hj := h j t (List.mem_cons_self ..)
    show fillAll ((lc ++ [x]).set j (some (.str p))) (p + tsz t) r = fillAll (lc.set j (some (.str p))) (p + tsz t) r ++ [x]
    rw [List.set_append_left j _ hj]
    exact fill_push r _ _ x (fun i u hu => by rw [List.length_set]; exact h i u (List.mem_cons_of_mem _ hu))
  | (none, t) :: r, lc, p, x, h => fill_push r lc _ x (fun i u hu => h i u (List.mem_cons_of_mem _ hu))
/-- the law's rows beside those of build: r arguments are still to come -/
structure Sim (b : BS) (i r : Nat) (lc : List (Option Ce)) (W : List (Option Nat × Tm)) : Prop where
  wt : W.map (·.2) = b.wt
  len : lc.length = b.cs.length
  fill : fillAll lc (b.cs.length + r) (W.drop i) = b.cs.map some
  lt : PosLt W lc.length
  last : b.last = b.cs.length + r + tszs (b.wt.drop i)
theorem PosLt.mono {W : List (Option Nat × Tm)} {n m : Nat} (h : PosLt W n) (l : n ≤ m) : PosLt W m := fun j t e => Nat.lt_of_lt_of_le (h j t e) l
theorem PosLt.drop {W : List (Option Nat × Tm)} {n : Nat} (h : PosLt W n) (i : Nat) : PosLt (W.drop i) n := fun j t e => h j t (List.mem_of_mem_drop e)
/-- an argument that is no compound -/
theorem Sim.leaf {b b' : BS} {i r : Nat} {lc : List (Option Ce)} {W : List (Option Nat × Tm)} {c : Ce} (h : Sim b i (r + 1) lc W) (e1 : b'.cs = b.cs ++ [c]) (e2 : b'.wt = b.wt) (e3 : b'.last = b.last) : Sim b' i r (lc ++ [some c]) W := by
  have hl : b'.cs.length = b.cs.length + 1 := by rw [e1, List.length_append, List.length_singleton]
  refine ⟨by rw [e2]; exact h.wt, by rw [List.length_append, List.length_singleton, hl, h.len], ?_, h.lt.mono (by rw [List.length_append]; omega), by rw [e3, h.last, e2, hl]; omega⟩
  rw [show b'.cs.length + r = b.cs.length + (r + 1) by omega, fill_push _ _ _ _ (h.lt.drop i), h.fill, e1, List.map_append]
  rfl
/-- an argument that is a compound -/
theorem Sim.sub {b : BS} {i r : Nat} {lc : List (Option Ce)} {W : List (Option Nat × Tm)} {f : Str} {as : List Tm} (h : Sim b i (r + 1) lc W) (hi : i ≤ W.length) : Sim (wArg b (.comp f as)) i r (lc ++ [none]) (W ++ [(some lc.length, .comp f as)]) := by
  have e1 : (wArg b (.comp f as)).cs = b.cs ++ [.str b.last] := rfl
  have hl : (wArg b (.comp f as)).cs.length = b.cs.length + 1 := by rw [e1, List.length_append, List.length_singleton]
  have hw : b.wt.length = W.length := by rw [← h.wt, List.length_map]
  refine ⟨by rw [List.map_append, h.wt]; rfl, by rw [List.length_append, List.length_singleton, hl, h.len], ?_, fun j t e => ?_, ?_⟩
  · rw [show (wArg b (.comp f as)).cs.length + r = b.cs.length + (r + 1) by omega, List.drop_append_of_le_length hi, fill_app, fill_push _ _ _ _ (h.lt.drop i), h.fill]
    have e2 : b.cs.length + (r + 1) + tszs ((W.drop i).map (·.2)) = b.last := by
      rw [List.map_drop, h.wt, h.last]
    rw [e2, e1, List.map_append]
    show (b.cs.map some ++ [none]).set lc.length (some (.str b.last)) = _
    rw [List.set_append_right _ _ (by rw [List.length_map, h.len]; exact Nat.le_refl _), List.length_map, h.len, Nat.sub_self]
    rfl
  · rw [List.length_append, List.length_singleton]
    rcases List.mem_append.1 e with e | e
    · have := h.lt j t e
      omega
    · have z := List.mem_singleton.1 e
      injection z with z1 z2
      injection z1 with z1
      omega
  · show b.last + (as.length + 1) = (wArg b (.comp f as)).cs.length + r + tszs ((b.wt ++ [Tm.comp f as]).drop i)
    rw [List.drop_append_of_le_length (by omega), tszs_app, hl, h.last]
    show _ = b.cs.length + 1 + r + (tszs (b.wt.drop i) + ((as.length + 1) + 0))
    omega
def setQ (lc : List (Option Ce)) : Option Nat → List (Option Ce)
  | some j => lc.set j (some (.str lc.length))
  | none => lc
/-- a compound is begun -/
theorem Sim.start {b : BS} {i : Nat} {lc : List (Option Ce)} {W : List (Option Nat × Tm)} {f : Str} {as : List Tm} {q : Option Nat} (h : Sim b i 0 lc W) (hg : W[i]? = some (q, .comp f as)) :
    Sim { b with cs := b.cs ++ [.fn f as.length] } (i + 1) as.length (setQ lc q ++ [some (.fn f as.length)]) W := by
  have hgt : b.wt[i]? = some (.comp f as) := by
    rw [← h.wt, List.getElem?_map, hg]
    rfl
  have hl : (b.cs ++ [Ce.fn f as.length]).length = b.cs.length + 1 := by rw [List.length_append, List.length_singleton]
  have ll : (setQ lc q).length = lc.length := by
    cases q with
    | none => rfl
    | some j => exact List.length_set ..
  refine ⟨h.wt, by rw [List.length_append, List.length_singleton, ll, hl, h.len], ?_, h.lt.mono (by rw [List.length_append, ll]; omega), ?_⟩
  · show fillAll _ ((b.cs ++ [Ce.fn f as.length]).length + as.length) (W.drop (i + 1)) = (b.cs ++ [Ce.fn f as.length]).map some
    rw [fill_push _ _ _ _ (by rw [ll]; exact h.lt.drop (i + 1)), List.map_append]
    have hf := h.fill
    rw [drop_at hg] at hf
    have e : (b.cs ++ [Ce.fn f as.length]).length + as.length = b.cs.length + 0 + tsz (Tm.comp f as) := by
      rw [hl]
      show _ = b.cs.length + 0 + (as.length + 1)
      omega
    rw [e]
    cases q with
    | none =>
      have hf' : fillAll lc (b.cs.length + 0 + tsz (.comp f as)) (W.drop (i + 1)) = b.cs.map some := hf
      show fillAll lc _ _ ++ _ = _
      rw [hf']
      rfl
    | some j =>
      have hf' : fillAll (lc.set j (some (.str (b.cs.length + 0)))) (b.cs.length + 0 + tsz (.comp f as)) (W.drop (i + 1)) = b.cs.map some := hf
      show fillAll (lc.set j (some (.str lc.length))) _ _ ++ _ = _
      rw [h.len, show b.cs.length = b.cs.length + 0 from rfl, hf']
      rfl
  · show b.last = (b.cs ++ [Ce.fn f as.length]).length + as.length + tszs (b.wt.drop (i + 1))
    rw [h.last, drop_at hgt, hl]
    show b.cs.length + 0 + ((as.length + 1) + tszs (b.wt.drop (i + 1))) = _
    omega
theorem Sim.done {b : BS} {i : Nat} {lc : List (Option Ce)} {W : List (Option Nat × Tm)} (h : Sim b i 0 lc W) (e : i = b.wt.length) : lc = b.cs.map some := by
  have hf := h.fill
  rw [e, ← h.wt, List.length_map, List.drop_length] at hf
  exact hf
end Hm

set_option Elab.async false
set_option linter.all false
set_option maxRecDepth 100000
set_option maxHeartbeats 1000000
namespace Hm
open PySem
/-! ### variables put in -/
mutual
def sb (σ : Int → Tm) : Tm → Tm
  | .var k => σ k
  | .atom s => .atom s
  | .int i => .int i
  | .comp f ts => .comp f (sbs σ ts)
def sbs (σ : Int → Tm) : List Tm → List Tm
  | [] => []
  | t :: ts => sb σ t :: sbs σ ts
end
mutual
def hs (k : Int) : Tm → Bool
  | .var j => decide (j = k)
  | .comp _ ts => hss k ts
  | .atom _ => false
  | .int _ => false
def hss (k : Int) : List Tm → Bool
  | [] => false
  | t :: ts => hs k t || hss k ts
end
theorem sbs_len (σ : Int → Tm) : ∀ ts : List Tm, (sbs σ ts).length = ts.length
  | [] => rfl
  | t :: ts => by
    show (sbs σ ts).length + 1 = _
    rw [sbs_len σ ts]
    rfl
def v1 (k : Int) (u : Tm) : Int → Tm := fun j => if j = k then u else .var j
mutual
theorem sb_sb (σ τ : Int → Tm) : ∀ t : Tm, sb τ (sb σ t) = sb (fun j => sb τ (σ j)) t
  | .var k => rfl
  | .atom _ => rfl
  | .int _ => rfl
  | .comp f ts => by
    show Tm.comp f (sbs τ (sbs σ ts)) = Tm.comp f (sbs (fun j => sb τ (σ j)) ts)
    rw [sbs_sbs σ τ ts]
theorem sbs_sbs (σ τ : Int → Tm) : ∀ ts : List Tm, sbs τ (sbs σ ts) = sbs (fun j => sb τ (σ j)) ts
  | [] => rfl
  | t :: ts => by
    show sb τ (sb σ t) :: sbs τ (sbs σ ts) = sb (fun j => sb τ (σ j)) t :: sbs (fun j => sb τ (σ j)) ts
    rw [sb_sb σ τ t, sbs_sbs σ τ ts]
end
mutual
theorem sb_not (k : Int) (u : Tm) : ∀ t : Tm, hs k t = false → sb (v1 k u) t = t
  | .var j, h => by
    have h' : decide (j = k) = false := h
    show v1 k u j = _
    unfold v1
    exact if_neg (of_decide_eq_false h')
  | .atom _, _ => rfl
  | .int _, _ => rfl
  | .comp f ts, h => by
    show Tm.comp f (sbs (v1 k u) ts) = _
    rw [sbs_not k u ts h]
theorem sbs_not (k : Int) (u : Tm) : ∀ ts : List Tm, hss k ts = false → sbs (v1 k u) ts = ts
  | [], _ => rfl
  | t :: ts, h => by
    have h' : (hs k t || hss k ts) = false := h
    rw [Bool.or_eq_false_iff] at h'
    show sb (v1 k u) t :: sbs (v1 k u) ts = _
    rw [sb_not k u t h'.1, sbs_not k u ts h'.2]
end
mutual
theorem dep_sb {σ : Int → Tm} {D : Nat} (hD : 1 ≤ D) (h : ∀ k, depth (σ k) ≤ D) : ∀ t : Tm, depth (sb σ t) + 1 ≤ depth t + D
  | .var k => by
    have := h k
    show depth (σ k) + 1 ≤ 1 + D
    omega
  | .atom _ => by show 1 + 1 ≤ 1 + D; omega
  | .int _ => by show 1 + 1 ≤ 1 + D; omega
  | .comp f ts => by
    have := deps_sb hD h ts
    show 1 + depths (sbs σ ts) + 1 ≤ 1 + depths ts + D
    omega
theorem deps_sb {σ : Int → Tm} {D : Nat} (hD : 1 ≤ D) (h : ∀ k, depth (σ k) ≤ D) : ∀ ts : List Tm, depths (sbs σ ts) + 1 ≤ depths ts + D
  | [] => by show 0 + 1 ≤ 0 + D; omega
  | t :: ts => by
    have h1 := dep_sb hD h t
    have h2 := deps_sb hD h ts
    show max (depth (sb σ t)) (depths (sbs σ ts)) + 1 ≤ max (depth t) (depths ts) + D
    omega
end
mutual
theorem ok_sb {σ : Int → Tm} (h : ∀ k, 0 ≤ k → Ok (σ k)) : ∀ t : Tm, Ok t → Ok (sb σ t)
  | .var k, g => h k (by unfold Ok at g; exact g)
  | .atom _, g => g
  | .int _, g => g
  | .comp f ts, g => by
    unfold Ok at g
    show Ok (.comp f (sbs σ ts))
    unfold Ok
    rw [sbs_len]
    exact ⟨g.1, g.2.1, g.2.2.1, oks_sb h ts g.2.2.2⟩
theorem oks_sb {σ : Int → Tm} (h : ∀ k, 0 ≤ k → Ok (σ k)) : ∀ ts : List Tm, Oks ts → Oks (sbs σ ts)
  | [], _ => trivial
  | t :: ts, g => by
    rw [oks_cons] at g
    show Oks (sb σ t :: sbs σ ts)
    rw [oks_cons]
    exact ⟨ok_sb h t g.1, oks_sb h ts g.2⟩
end
mutual
theorem vb_sb {m : Int} {σ : Int → Tm} (h : ∀ k, 0 ≤ k → k < m → Vb m (σ k)) : ∀ t : Tm, Vb m t → Vb m (sb σ t)
  | .var k, g => by
    unfold Vb at g
    exact h k g.1 g.2
  | .atom _, _ => trivial
  | .int _, _ => trivial
  | .comp f ts, g => by
    unfold Vb at g
    show Vb m (.comp f (sbs σ ts))
    unfold Vb
    exact vbs_sb h ts g
theorem vbs_sb {m : Int} {σ : Int → Tm} (h : ∀ k, 0 ≤ k → k < m → Vb m (σ k)) : ∀ ts : List Tm, Vbs m ts → Vbs m (sbs σ ts)
  | [], _ => trivial
  | t :: ts, g => by
    rw [vbs_cons] at g
    show Vbs m (sb σ t :: sbs σ ts)
    rw [vbs_cons]
    exact ⟨vb_sb h t g.1, vbs_sb h ts g.2⟩
end
/-! ### bindings, and what they come to -/
def isV : Tm → Bool
  | .var _ => true
  | _ => false
structure Bd (bd : Int → Option Tm) (σ : Int → Tm) (D : Nat) : Prop where
  fr : ∀ k, bd k = none → σ k = .var k
  bn : ∀ k t, bd k = some t → σ k = sb σ t ∧ isV t = false ∧ Ok t ∧ Vb 4 t
  dp : ∀ k, depth (σ k) ≤ D
  ok : ∀ k, 0 ≤ k → Ok (σ k)
  vb : ∀ k, 0 ≤ k → k < 4 → Vb 4 (σ k)
theorem Bd.zero : Bd (fun _ => none) .var 1 := ⟨fun _ _ => rfl, (fun k t e => by cases e), fun _ => Nat.le_refl _, (fun k h => by unfold Ok; exact h), fun k h g => by unfold Vb; exact ⟨h, g⟩⟩
theorem Bd.add {bd : Int → Option Tm} {σ : Int → Tm} {D : Nat} (h : Bd bd σ D) (hD : 1 ≤ D) {k : Int} {t : Tm} (hk : bd k = none) (k0 : 0 ≤ k) (k4 : k < 4) (nv : isV t = false) (ot : Ok t) (vt : Vb 4 t) (dt : depth t ≤ 3) (no : hs k (sb σ t) = false) :
    ∃ σ', Bd (fun j => if j = k then some t else bd j) σ' (2 * D + 1) := by
  have hu : depth (sb σ t) ≤ D + 2 := by
    have := dep_sb hD h.dp t
    omega
  have hv : ∀ j, depth (v1 k (sb σ t) j) ≤ D + 2 := fun j => by
    unfold v1
    split
    · exact hu
    · show 1 ≤ D + 2
      omega
  have key : ∀ s, sb (fun j => sb (v1 k (sb σ t)) (σ j)) s = sb (v1 k (sb σ t)) (sb σ s) := fun s => (sb_sb σ (v1 k (sb σ t)) s).symm
  refine ⟨fun j => sb (v1 k (sb σ t)) (σ j), fun j e => ?_, fun j s e => ?_, fun j => ?_, fun j hj => ?_, fun j h0 h4 => ?_⟩
  · by_cases c : j = k
    · rw [if_pos c] at e
      cases e
    · rw [if_neg c] at e
      rw [h.fr j e]
      show v1 k (sb σ t) j = _
      unfold v1
      exact if_neg c
  · by_cases c : j = k
    · rw [if_pos c] at e
      cases e
      subst c
      refine ⟨?_, nv, ot, vt⟩
      rw [key, sb_not j (sb σ t) _ no, h.fr j hk]
      show v1 j (sb σ t) j = _
      unfold v1
      exact if_pos rfl
    · rw [if_neg c] at e
      obtain ⟨e1, e2⟩ := h.bn j s e
      refine ⟨?_, e2⟩
      rw [key, ← e1]
  · have := dep_sb (σ := v1 k (sb σ t)) (D := D + 2) (by omega) hv (σ j)
    have := h.dp j
    omega
  · refine ok_sb (fun i hi => ?_) _ (h.ok j hj)
    unfold v1
    split
    · exact ok_sb h.ok t ot
    · unfold Ok
      exact hi
  · refine vb_sb (fun i hi h4' => ?_) _ (h.vb j h0 h4)
    unfold v1
    split
    · exact vb_sb h.vb t vt
    · unfold Vb
      exact ⟨hi, h4'⟩
/-! ### the cells of bound variables -/
theorem den_step {M : Mem} {ad : Int → Ad} {a : Ad} {x : Ce} (h : M.at a = some x) (ne : x ≠ .ref a) : ∀ (u : Tm), Den M ad u x → Den M ad u (.ref a)
  | .var k, g => by
    unfold Den at g ⊢
    obtain ⟨j, f⟩ := g
    exact ⟨_, .step h ne f⟩
  | .atom k, g => by
    unfold Den at g ⊢
    obtain ⟨j, f⟩ := g
    exact ⟨_, .step h ne f⟩
  | .int k, g => by
    unfold Den at g ⊢
    obtain ⟨j, f⟩ := g
    exact ⟨_, .step h ne f⟩
  | .comp f ts, g => by
    unfold Den at g ⊢
    obtain ⟨j, n, fo, g2⟩ := g
    exact ⟨_, n, .step h ne fo, g2⟩
def adh (k : Int) : Ad := .h k.toNat
/-- the first four cells of the heap are those of the variables -/
structure V4 (M : Mem) (bd : Int → Option Tm) : Prop where
  len : 4 ≤ M.cs.length
  fr : ∀ k, 0 ≤ k → k < 4 → bd k = none → M.at (adh k) = some (.ref (adh k))
  bn : ∀ k t, 0 ≤ k → k < 4 → bd k = some t → ∃ x, M.at (adh k) = some x ∧ (∀ b, x ≠ .ref b) ∧ (∀ f j, x ≠ .fn f j) ∧ RawC M.cs adh t x
theorem raw_b {M : Mem} {bd : Int → Option Tm} {σ : Int → Tm} {D : Nat} (h : Bd bd σ D) (v : V4 M bd) : ∀ (n : Nat) (t : Tm) (c : Ce), depth (sb σ t) ≤ n → Vb 4 t → RawC M.cs adh t c → Den M adh (sb σ t) c := by
  intro n
  induction n with
  | zero =>
    intro t c hd
    exfalso
    have : 1 ≤ depth (sb σ t) := by
      cases sb σ t with
      | comp f ts => unfold depth; omega
      | var _ => exact Nat.le_refl _
      | atom _ => exact Nat.le_refl _
      | int _ => exact Nat.le_refl _
    omega
  | succ n ih =>
    have nonv : ∀ (t : Tm) (c : Ce), isV t = false → depth (sb σ t) ≤ n + 1 → Vb 4 t → RawC M.cs adh t c → Den M adh (sb σ t) c := by
      intro t c nv hd vb hr
      cases t with
      | var k => cases nv
      | atom s =>
        unfold RawC at hr
        subst hr
        show Den M adh (.atom s) _
        unfold Den
        exact ⟨0, .stop (fun a z => by cases z)⟩
      | int s =>
        unfold RawC at hr
        subst hr
        show Den M adh (.int s) _
        unfold Den
        exact ⟨0, .stop (fun a z => by cases z)⟩
      | comp f ts =>
        unfold RawC at hr
        obtain ⟨m, rfl, h1, h2, h3⟩ := hr
        have hd' : 1 + depths (sbs σ ts) ≤ n + 1 := hd
        unfold Vb at vb
        show Den M adh (.comp f (sbs σ ts)) _
        unfold Den
        rw [sbs_len]
        refine ⟨0, m, .stop (fun a z => by cases z), h1, h2, ?_⟩
        have go : ∀ (ts : List Tm) (xs : List Ce), depths (sbs σ ts) ≤ n → Vbs 4 ts → RawCs M.cs adh ts xs → Dens M adh (sbs σ ts) xs := by
          intro ts
          induction ts with
          | nil =>
            intro xs _ _ hx
            unfold RawCs at hx
            subst hx
            show Dens M adh [] []
            unfold Dens
            rfl
          | cons t ts it =>
            intro xs hd vb hx
            unfold RawCs at hx
            obtain ⟨c, r, rfl, g1, g2⟩ := hx
            rw [vbs_cons] at vb
            have hd2 : max (depth (sb σ t)) (depths (sbs σ ts)) ≤ n := hd
            show Dens M adh (sb σ t :: sbs σ ts) _
            unfold Dens
            exact ⟨c, r, rfl, ih t c (by omega) vb.1 g1, it r (by omega) vb.2 g2⟩
        exact go ts _ (by omega) vb h3
    intro t c hd vb hr
    cases hv : isV t with
    | false => exact nonv t c hv hd vb hr
    | true =>
      cases t with
      | var k =>
        unfold RawC at hr
        subst hr
        unfold Vb at vb
        cases hb : bd k with
        | none =>
          show Den M adh (σ k) _
          rw [h.fr k hb]
          unfold Den
          exact ⟨0, .self (v.fr k vb.1 vb.2 hb)⟩
        | some s =>
          obtain ⟨e1, e2, e3, e4⟩ := h.bn k s hb
          obtain ⟨x, hx, nr, _, hr⟩ := v.bn k s vb.1 vb.2 hb
          have hd2 : depth (σ k) ≤ n + 1 := hd
          show Den M adh (σ k) _
          rw [e1] at hd2 ⊢
          exact den_step hx (nr _) _ (nonv s x e2 hd2 e4 hr)
      | atom _ => cases hv
      | int _ => cases hv
      | comp _ _ => cases hv
/-! ### a binding -/
theorem raw_set {cs : List Ce} {k : Nat} {x : Ce} (hk : k < 4) (nf : ∀ n c, n < 4 → cs[n]? = some c → ∀ f j, c ≠ .fn f j) : ∀ (t : Tm) (c : Ce), RawC cs adh t c → RawC (cs.set k x) adh t c := by
  intro t
  exact (Tm.rec (motive_1 := fun t => ∀ c, RawC cs adh t c → RawC (cs.set k x) adh t c) (motive_2 := fun ts => ∀ xs, RawCs cs adh ts xs → RawCs (cs.set k x) adh ts xs) (fun _ _ h => by unfold RawC at h ⊢; exact h) (fun _ _ h => by unfold RawC at h ⊢; exact h) (fun _ _ h => by unfold RawC at h ⊢; exact h) (fun f ts ih c h => by
    unfold RawC at h ⊢
    obtain ⟨n, e, h1, h2, h3⟩ := h
    have hn : 4 ≤ n := by
      apply Decidable.byContradiction
      intro z
      exact nf n _ (by omega) h1 f ts.length rfl
    refine ⟨n, e, ?_, ?_, ?_⟩
    · rw [List.getElem?_set_ne (by omega)]
      exact h1
    · rw [List.length_set]
      exact h2
    · rw [List.drop_set_of_lt (by omega)]
      exact ih _ h3) (fun _ h => by unfold RawCs at h ⊢; exact h) (fun t ts i1 i2 xs h => by
    unfold RawCs at h ⊢
    obtain ⟨c, r, e, h1, h2⟩ := h
    exact ⟨c, r, e, i1 c h1, i2 r h2⟩) t)
end Hm


set_option Elab.async false
set_option linter.all false
set_option maxRecDepth 100000
set_option maxHeartbeats 1000000
namespace Hm
open PySem
theorem fol_free {M : Mem} {k : Nat} {c e : Ce} (f : Fol M k c e) : ∀ a, e = .ref a → M.at a = some (.ref a) := by
  induction f with
  | stop h => exact fun a z => absurd z (h a)
  | self h => exact fun a z => by cases z; exact h
  | step _ _ _ ih => exact ih
/-- an end stands for itself -/
theorem Fol.fin {M : Mem} {k : Nat} {c e : Ce} (h : Fol M k c e) : Fol M 0 e e := by
  cases e with
  | ref b => exact .self (fol_free h b rfl)
  | con s => exact .stop (fun a z => by cases z)
  | num s => exact .stop (fun a z => by cases z)
  | str s => exact .stop (fun a z => by cases z)
  | fn s j => exact .stop (fun a z => by cases z)
  | non => exact .stop (fun a z => by cases z)
def argC (M : Mem) (n j : Nat) : List Ce := (M.cs.drop (n + 1)).take j
/-- a cell that leads to the variable at a -/
inductive Mt (M : Mem) (a : Ad) : Ce → Prop where
  | hit {c : Ce} {k : Nat} : Fol M k c (.ref a) → Mt M a c
  | arg {c x : Ce} {k n j : Nat} {f : Str} : Fol M k c (.str n) → M.cs[n]? = some (.fn f j) → x ∈ argC M n j → Mt M a x → Mt M a c
theorem Mt.to {M : Mem} {a : Ad} {k : Nat} {c e : Ce} (f : Fol M k c e) (h : Mt M a c) : Mt M a e := by
  cases h with
  | hit g => rw [f.det g]; exact .hit g.fin
  | arg g h1 h2 h3 =>
    rw [f.det g]
    exact .arg g.fin h1 h2 h3
theorem Mt.back {M : Mem} {a : Ad} {k : Nat} {c e : Ce} (f : Fol M k c e) (h : Mt M a e) : Mt M a c := by
  cases h with
  | hit g =>
    have := f.fin.det g
    subst this
    exact .hit f
  | arg g h1 h2 h3 =>
    have := f.fin.det g
    subst this
    exact .arg f h1 h2 h3
theorem mt_leaf {M : Mem} {a : Ad} {k : Nat} {c e : Ce} (f : Fol M k c e) (h1 : e ≠ .ref a) (h2 : ∀ n, e ≠ .str n) : ¬ Mt M a c := fun h => by
  cases h with
  | hit g => exact h1 (f.det g)
  | arg g _ _ _ => exact h2 _ (f.det g)
theorem mt_str {M : Mem} {a : Ad} {k n j : Nat} {f : Str} {c : Ce} (g : Fol M k c (.str n)) (hf : M.cs[n]? = some (.fn f j)) : Mt M a c ↔ ∃ x ∈ argC M n j, Mt M a x := by
  constructor
  · intro h
    cases h with
    | hit g2 => cases g.det g2
    | arg g2 h1 h2 h3 =>
      cases g.det g2
      rw [hf] at h1
      cases h1
      exact ⟨_, h2, h3⟩
  · rintro ⟨x, h1, h2⟩
    exact .arg g hf h1 h2
/-! ### occurs tells just that -/
theorem oc_true {M : Mem} {a : Ad} {m : Nat} {sn : List Nat} {W : List Ce} {r : Bool} (h : Oc M a m sn W r) : r = true → ∃ c ∈ W, Mt M a c := by
  induction h with
  | nil => exact fun z => by cases z
  | hit f => exact fun _ => ⟨_, List.mem_cons_self .., .hit f⟩
  | leaf _ _ _ _ ih =>
    intro z
    obtain ⟨c, h1, h2⟩ := ih z
    exact ⟨c, List.mem_cons_of_mem _ h1, h2⟩
  | seen _ _ _ ih =>
    intro z
    obtain ⟨c, h1, h2⟩ := ih z
    exact ⟨c, List.mem_cons_of_mem _ h1, h2⟩
  | push f _ h2 _ _ _ ih =>
    intro z
    obtain ⟨c, h3, h4⟩ := ih z
    rcases List.mem_append.1 h3 with h3 | h3
    · exact ⟨_, List.mem_cons_self .., .arg f h2 (List.mem_reverse.1 h3) h4⟩
    · exact ⟨c, List.mem_cons_of_mem _ h3, h4⟩
def OJ (M : Mem) (a : Ad) (sn : List Nat) (W : List Ce) : Prop := ∀ n ∈ sn, ∀ f j, M.cs[n]? = some (.fn f j) → ∀ x ∈ argC M n j, x ∈ W ∨ ∃ k e, Fol M k x e ∧ e ≠ .ref a ∧ ∀ p, e = .str p → p ∈ sn
theorem oj_end {M : Mem} {a : Ad} {sn : List Nat} (J : OJ M a sn []) {c : Ce} (h : Mt M a c) : ∀ k n, Fol M k c (.str n) → n ∈ sn → False := by
  induction h with
  | hit g => exact fun k n f _ => by cases f.det g
  | arg g h1 h2 h3 ih =>
    intro k n f hn
    cases f.det g
    rcases J _ hn _ _ h1 _ h2 with q | ⟨k', e, q1, q2, q3⟩
    · cases q
    · cases e with
      | str p => exact ih k' p q1 (q3 p rfl)
      | ref b => exact mt_leaf q1 q2 (fun n z => by cases z) h3
      | con b => exact mt_leaf q1 q2 (fun n z => by cases z) h3
      | num b => exact mt_leaf q1 q2 (fun n z => by cases z) h3
      | fn b i => exact mt_leaf q1 q2 (fun n z => by cases z) h3
      | non => exact mt_leaf q1 q2 (fun n z => by cases z) h3
theorem oc_false {M : Mem} {a : Ad} {m : Nat} {sn : List Nat} {W : List Ce} {r : Bool} (h : Oc M a m sn W r) : r = false → OJ M a sn W → (∀ c ∈ W, ¬ Mt M a c) ∧ ∀ n ∈ sn, ¬ Mt M a (.str n) := by
  induction h with
  | nil => exact fun _ J => ⟨(fun c hc => nomatch hc), fun n hn hm => oj_end J hm 0 n (.stop (fun a z => by cases z)) hn⟩
  | hit f => exact fun z => by cases z
  | leaf f h1 h2 _ ih =>
    intro z J
    obtain ⟨i1, i2⟩ := ih z (fun n hn f' j hf x hx => by
      rcases J n hn f' j hf x hx with q | q
      · rcases List.mem_cons.1 q with q | q
        · subst q
          exact .inr ⟨_, _, f, h1, fun p e => absurd e (h2 p)⟩
        · exact .inl q
      · exact .inr q)
    refine ⟨fun c hc => ?_, i2⟩
    rcases List.mem_cons.1 hc with hc | hc
    · subst hc
      exact mt_leaf f h1 h2
    · exact i1 c hc
  | seen f h1 _ ih =>
    intro z J
    obtain ⟨i1, i2⟩ := ih z (fun n hn f' j hf x hx => by
      rcases J n hn f' j hf x hx with q | q
      · rcases List.mem_cons.1 q with q | q
        · subst q
          exact .inr ⟨_, _, f, (fun z => by cases z), fun p e => by cases e; exact h1⟩
        · exact .inl q
      · exact .inr q)
    refine ⟨fun c hc => ?_, i2⟩
    rcases List.mem_cons.1 hc with hc | hc
    · subst hc
      exact fun hm => i2 _ h1 (hm.to f)
    · exact i1 c hc
  | push f h1 h2 _ _ _ ih =>
    intro z J
    obtain ⟨i1, i2⟩ := ih z (fun n hn f' j hf x hx => by
      rcases List.mem_cons.1 hn with hn | hn
      · subst hn
        rw [h2] at hf
        cases hf
        exact .inl (List.mem_append_left _ (List.mem_reverse.2 hx))
      · rcases J n hn f' j hf x hx with q | ⟨k', e, q1, q2, q3⟩
        · rcases List.mem_cons.1 q with q | q
          · subst q
            exact .inr ⟨_, _, f, (fun z => by cases z), fun p e => by cases e; exact List.mem_cons_self ..⟩
          · exact .inl (List.mem_append_right _ q)
        · exact .inr ⟨k', e, q1, q2, fun p e => List.mem_cons_of_mem _ (q3 p e)⟩)
    refine ⟨fun c hc => ?_, fun n hn => i2 n (List.mem_cons_of_mem _ hn)⟩
    rcases List.mem_cons.1 hc with hc | hc
    · subst hc
      exact fun hm => i2 _ (List.mem_cons_self ..) (hm.to f)
    · exact i1 c (List.mem_append_right _ hc)
theorem oc_mt {M : Mem} {a : Ad} {m : Nat} {c : Ce} {r : Bool} (h : Oc M a m [] [c] r) : r = true ↔ Mt M a c := by
  constructor
  · intro z
    obtain ⟨x, h1, h2⟩ := oc_true h z
    cases List.mem_singleton.1 h1
    exact h2
  · intro hm
    cases r with
    | true => rfl
    | false => exact absurd hm ((oc_false h rfl (fun n hn => nomatch hn)).1 c (List.mem_singleton.2 rfl))
theorem nodup_len : ∀ (N : Nat) (l : List Nat), l.Nodup → (∀ x ∈ l, x < N) → l.length ≤ N := by
  intro N
  induction N with
  | zero =>
    intro l _ h
    cases l with
    | nil => exact Nat.le_refl _
    | cons x l => exact absurd (h x (List.mem_cons_self ..)) (Nat.not_lt_zero _)
  | succ N ih =>
    intro l nd h
    by_cases hN : N ∈ l
    · have h1 := List.length_erase_of_mem hN
      have h2 := ih (l.erase N) (nd.erase N) (fun x hx => by
        have q := (nd.mem_erase_iff).1 hx
        have := h x q.2
        have := q.1
        omega)
      omega
    · have h2 := ih l nd (fun x hx => by
        have := h x hx
        have : x ≠ N := fun z => hN (z ▸ hx)
        omega)
      omega

/-! ### a memory that grew -/
structure Mx (M M' : Mem) : Prop where
  pl : ∀ a x, M.at a = some x → M'.at a = some x
  cs : ∃ ext, M'.cs = M.cs ++ ext
theorem Mx.refl (M : Mem) : Mx M M := ⟨fun _ _ h => h, [], (List.append_nil _).symm⟩
theorem Mx.trans {M M1 M2 : Mem} (h : Mx M M1) (g : Mx M1 M2) : Mx M M2 := ⟨fun a x e => g.pl a x (h.pl a x e), by
  obtain ⟨x, hx⟩ := h.cs
  obtain ⟨y, hy⟩ := g.cs
  exact ⟨x ++ y, by rw [hy, hx, List.append_assoc]⟩⟩
theorem Mx.fol {M M' : Mem} (h : Mx M M') {k : Nat} {c e : Ce} (f : Fol M k c e) : Fol M' k c e := by
  induction f with
  | stop n => exact .stop n
  | self e => exact .self (h.pl _ _ e)
  | step e n _ ih => exact .step (h.pl _ _ e) n ih
theorem Mx.len {M M' : Mem} (h : Mx M M') : M.cs.length ≤ M'.cs.length := by
  obtain ⟨x, hx⟩ := h.cs
  rw [hx, List.length_append]
  omega
mutual
theorem Mx.den {M M' : Mem} (h : Mx M M') {ad : Int → Ad} : ∀ (t : Tm) (c : Ce), Den M ad t c → Den M' ad t c
  | .var k, c, g => by
    unfold Den at g ⊢
    obtain ⟨j, f⟩ := g
    exact ⟨j, h.fol f⟩
  | .atom k, c, g => by
    unfold Den at g ⊢
    obtain ⟨j, f⟩ := g
    exact ⟨j, h.fol f⟩
  | .int k, c, g => by
    unfold Den at g ⊢
    obtain ⟨j, f⟩ := g
    exact ⟨j, h.fol f⟩
  | .comp f ts, c, g => by
    unfold Den at g ⊢
    obtain ⟨j, n, fo, h1, h2, h3⟩ := g
    obtain ⟨x, hx⟩ := h.cs
    refine ⟨j, n, h.fol fo, by rw [hx, List.getElem?_append_left (by omega)]; exact h1, by rw [hx, List.length_append]; omega, ?_⟩
    rw [hx, List.drop_append_of_le_length (by omega), List.take_append_of_le_length (by rw [List.length_drop]; omega)]
    exact Mx.dens h ts _ h3
theorem Mx.dens {M M' : Mem} (h : Mx M M') {ad : Int → Ad} : ∀ (ts : List Tm) (xs : List Ce), Dens M ad ts xs → Dens M' ad ts xs
  | [], _, g => by
    unfold Dens at g ⊢
    exact g
  | t :: ts, xs, g => by
    unfold Dens at g ⊢
    obtain ⟨c, r, e, h1, h2⟩ := g
    exact ⟨c, r, e, Mx.den h t c h1, Mx.dens h ts r h2⟩
end
theorem V4.grow {M M' : Mem} {bd : Int → Option Tm} (v : V4 M bd) (h : Mx M M') : V4 M' bd := by
  obtain ⟨x, hx⟩ := h.cs
  refine ⟨Nat.le_trans v.len h.len, fun k h0 h4 e => h.pl _ _ (v.fr k h0 h4 e), fun k t h0 h4 e => ?_⟩
  obtain ⟨y, h1, h2, h3, h4⟩ := v.bn k t h0 h4 e
  refine ⟨y, h.pl _ _ h1, h2, h3, ?_⟩
  rw [hx]
  exact raw_app x t y h4
theorem V4.nf {M : Mem} {bd : Int → Option Tm} (v : V4 M bd) : ∀ n c, n < 4 → M.cs[n]? = some c → ∀ f j, c ≠ .fn f j := fun n c hn hc f j z => by
  subst z
  have ea : adh (n : Int) = .h n := by
    unfold adh
    rw [Int.toNat_natCast]
  cases hb : bd (n : Int) with
  | none =>
    have h := v.fr (n : Int) (by omega) (by omega) hb
    rw [ea] at h
    have h2 : M.cs[n]? = some (.ref (.h n)) := h
    rw [hc] at h2
    cases h2
  | some t =>
    obtain ⟨y, h1, _, h3, _⟩ := v.bn (n : Int) t (by omega) (by omega) hb
    rw [ea] at h1
    have h2 : M.cs[n]? = some y := h1
    rw [hc] at h2
    exact h3 f j (Option.some.inj h2).symm
theorem V4.put {M : Mem} {bd : Int → Option Tm} (v : V4 M bd) {k : Int} {t : Tm} {x : Ce} (h0 : 0 ≤ k) (h4 : k < 4) (hb : bd k = none) (nr : ∀ b, x ≠ .ref b) (nf : ∀ f j, x ≠ .fn f j) (hr : RawC M.cs adh t x) : V4 (M.put (adh k) x) (fun j => if j = k then some t else bd j) := by
  have cs' : (M.put (adh k) x).cs = M.cs.set k.toNat x := rfl
  have at' : ∀ j : Int, 0 ≤ j → j ≠ k → (M.put (adh k) x).at (adh j) = M.at (adh j) := fun j hj ne => by
    show (M.cs.set k.toNat x)[j.toNat]? = M.cs[j.toNat]?
    rw [List.getElem?_set_ne (by omega)]
  have raw : ∀ t c, RawC M.cs adh t c → RawC (M.put (adh k) x).cs adh t c := fun t c h => raw_set (by omega) v.nf t c h
  refine ⟨by rw [cs', List.length_set]; exact v.len, fun j j0 j4 e => ?_, fun j s j0 j4 e => ?_⟩
  · by_cases c : j = k
    · rw [if_pos c] at e
      cases e
    · rw [if_neg c] at e
      rw [at' j j0 c]
      exact v.fr j j0 j4 e
  · by_cases c : j = k
    · rw [if_pos c] at e
      cases e
      subst c
      refine ⟨x, ?_, nr, nf, raw _ _ hr⟩
      show (M.cs.set j.toNat x)[j.toNat]? = some x
      have := v.len
      rw [List.getElem?_set_self (by omega)]
    · rw [if_neg c] at e
      obtain ⟨y, h1, h2, h3, h4⟩ := v.bn j s j0 j4 e
      exact ⟨y, by rw [at' j j0 c]; exact h1, h2, h3, raw _ _ h4⟩
/-! ### what a cell stands for tells what occurs -/
theorem den_fol {M : Mem} {ad : Int → Ad} : ∀ {u : Tm} {c : Ce}, Den M ad u c → Ok u → ∃ k e, Fol M k c e ∧ ((∀ n, e ≠ .str n) ∨ ∃ n f j, e = .str n ∧ M.cs[n]? = some (.fn f j) ∧ n + j < M.cs.length ∧ j ≤ 8 ∧ ∀ x ∈ argC M n j, ∃ u, Den M ad u x ∧ Ok u)
  | .var k, c, h, _ => by
    unfold Den at h
    obtain ⟨j, f⟩ := h
    exact ⟨j, _, f, .inl (fun n z => by cases z)⟩
  | .atom k, c, h, _ => by
    unfold Den at h
    obtain ⟨j, f⟩ := h
    exact ⟨j, _, f, .inl (fun n z => by cases z)⟩
  | .int k, c, h, _ => by
    unfold Den at h
    obtain ⟨j, f⟩ := h
    exact ⟨j, _, f, .inl (fun n z => by cases z)⟩
  | .comp f ts, c, h, ho => by
    unfold Den at h
    unfold Ok at ho
    obtain ⟨j, n, fo, h1, h2, h3⟩ := h
    refine ⟨j, _, fo, .inr ⟨n, f, ts.length, rfl, h1, h2, ho.2.2.1, ?_⟩⟩
    have go : ∀ (ts : List Tm) (xs : List Ce), Oks ts → Dens M ad ts xs → ∀ x ∈ xs, ∃ u, Den M ad u x ∧ Ok u := by
      intro ts
      induction ts with
      | nil =>
        intro xs _ h x hx
        unfold Dens at h
        subst h
        cases hx
      | cons t ts ih =>
        intro xs ho h x hx
        unfold Dens at h
        obtain ⟨c, r, rfl, h1, h2⟩ := h
        rw [oks_cons] at ho
        rcases List.mem_cons.1 hx with rfl | hx
        · exact ⟨t, h1, ho.1⟩
        · exact ih r ho.2 h2 x hx
    exact go ts _ ho.2.2.2 h3
theorem oc_den {M : Mem} {ad : Int → Ad} (a : Ad) (hN : M.cs.length ≤ 5000) : ∀ (μ : Nat) (W : List Ce) (sn : List Nat), 9 * (M.cs.length - sn.length) + W.length ≤ μ → (∀ c ∈ W, ∃ u, Den M ad u c ∧ Ok u) → sn.Nodup → (∀ n ∈ sn, n < M.cs.length) → W.length ≤ 8 * sn.length + 1 → ∃ m r, Oc M a m sn W r := by
  intro μ
  induction μ with
  | zero =>
    intro W sn hm _ _ _ _
    cases W with
    | nil => exact ⟨0, false, .nil⟩
    | cons c W =>
      rw [List.length_cons] at hm
      omega
  | succ μ ih =>
    intro W sn hm hW nd hs hl
    cases W with
    | nil => exact ⟨0, false, .nil⟩
    | cons c W =>
      rw [List.length_cons] at hm hl
      have hW' : ∀ c ∈ W, ∃ u, Den M ad u c ∧ Ok u := fun x hx => hW x (List.mem_cons_of_mem _ hx)
      have sl := nodup_len _ sn nd hs
      obtain ⟨u, hu, ou⟩ := hW c (List.mem_cons_self ..)
      obtain ⟨k, e, f, ge⟩ := den_fol hu ou
      by_cases ea : e = .ref a
      · subst ea
        exact ⟨0, true, .hit f⟩
      · rcases ge with ns | ⟨n, fn, j, rfl, hat, hj, jb, hargs⟩
        · obtain ⟨m, r, hO⟩ := ih W sn (by omega) hW' nd hs (by omega)
          exact ⟨m + 1, r, .leaf f ea ns hO⟩
        · by_cases hn : n ∈ sn
          · obtain ⟨m, r, hO⟩ := ih W sn (by omega) hW' nd hs (by omega)
            exact ⟨m + 1, r, .seen f hn hO⟩
          · have nd2 : (n :: sn).Nodup := List.nodup_cons.2 ⟨hn, nd⟩
            have hs2 : ∀ x ∈ n :: sn, x < M.cs.length := fun x hx => by
              rcases List.mem_cons.1 hx with rfl | hx
              · omega
              · exact hs x hx
            have sl2 := nodup_len _ _ nd2 hs2
            rw [List.length_cons] at sl2
            have la : (((M.cs.drop (n + 1)).take j).reverse ++ W).length ≤ j + W.length := by
              rw [List.length_append, List.length_reverse, List.length_take]
              omega
            obtain ⟨m, r, hO⟩ := ih (((M.cs.drop (n + 1)).take j).reverse ++ W) (n :: sn) (by rw [List.length_cons]; omega) (fun x hx => by
              rcases List.mem_append.1 hx with hx | hx
              · exact hargs x (List.mem_reverse.1 hx)
              · exact hW' x hx) nd2 hs2 (by rw [List.length_cons]; omega)
            exact ⟨m + 1, r, .push f hn hat (by omega) (by omega) hO⟩
mutual
theorem mt_den {M : Mem} {ad : Int → Ad} {m : Int} (hi : Inj m ad) {k : Int} (k0 : 0 ≤ k) (km : k < m) : ∀ (u : Tm) (c : Ce), Den M ad u c → Vb m u → (Mt M (ad k) c ↔ hs k u = true)
  | .var j, c, h, hv => by
    unfold Den at h
    unfold Vb at hv
    obtain ⟨_, f⟩ := h
    show _ ↔ decide (j = k) = true
    constructor
    · intro g
      cases g with
      | hit g =>
        have e := f.det g
        exact decide_eq_true (hi j k hv.1 hv.2 k0 km (Ce.ref.inj e))
      | arg g _ _ _ => cases f.det g
    · intro e
      have e := of_decide_eq_true e
      subst e
      exact .hit f
  | .atom s, c, h, _ => by
    unfold Den at h
    obtain ⟨_, f⟩ := h
    show _ ↔ false = true
    exact ⟨fun g => absurd g (mt_leaf f (fun z => by cases z) (fun n z => by cases z)), fun z => by cases z⟩
  | .int s, c, h, _ => by
    unfold Den at h
    obtain ⟨_, f⟩ := h
    show _ ↔ false = true
    exact ⟨fun g => absurd g (mt_leaf f (fun z => by cases z) (fun n z => by cases z)), fun z => by cases z⟩
  | .comp f ts, c, h, hv => by
    unfold Den at h
    unfold Vb at hv
    obtain ⟨_, n, fo, h1, _, h3⟩ := h
    rw [mt_str fo h1]
    show _ ↔ hss k ts = true
    exact mts_den hi k0 km ts _ h3 hv
theorem mts_den {M : Mem} {ad : Int → Ad} {m : Int} (hi : Inj m ad) {k : Int} (k0 : 0 ≤ k) (km : k < m) : ∀ (ts : List Tm) (xs : List Ce), Dens M ad ts xs → Vbs m ts → ((∃ x ∈ xs, Mt M (ad k) x) ↔ hss k ts = true)
  | [], xs, h, _ => by
    unfold Dens at h
    subst h
    exact ⟨(fun ⟨x, hx, _⟩ => nomatch hx), fun z => by cases z⟩
  | t :: ts, xs, h, hv => by
    unfold Dens at h
    obtain ⟨c, r, rfl, h1, h2⟩ := h
    rw [vbs_cons] at hv
    have i1 := mt_den hi k0 km t c h1 hv.1
    have i2 := mts_den hi k0 km ts r h2 hv.2
    show _ ↔ (hs k t || hss k ts) = true
    rw [Bool.or_eq_true, ← i1, ← i2]
    constructor
    · rintro ⟨x, hx, g⟩
      rcases List.mem_cons.1 hx with rfl | hx
      · exact .inl g
      · exact .inr ⟨x, hx, g⟩
    · rintro (g | ⟨x, hx, g⟩)
      · exact ⟨c, List.mem_cons_self .., g⟩
      · exact ⟨x, List.mem_cons_of_mem _ hx, g⟩
end
theorem adh_inj (m : Int) : Inj m adh := fun j k h0 _ h1 _ e => by
  have e2 : j.toNat = k.toNat := Ad.h.inj e
  omega
/-- contains, of what a cell stands for -/
theorem con_den {M : Mem} (hN : M.cs.length ≤ 5000) {u : Tm} {c : Ce} (h : Den M adh u c) (ou : Ok u) (vu : Vb 4 u) {k : Int} (k0 : 0 ≤ k) (k4 : k < 4) : ∃ m, Oc M (adh k) m [] [c] (hs k u) := by
  obtain ⟨m, r, hO⟩ := oc_den (adh k) hN (9 * (M.cs.length - 0) + 1) [c] [] (Nat.le_refl _) (fun x hx => by
    cases List.mem_singleton.1 hx
    exact ⟨u, h, ou⟩) List.nodup_nil (fun n hn => by cases hn) (Nat.le_refl _)
  have e1 := oc_mt hO
  have e2 := mt_den (adh_inj 4) k0 k4 u c h vu
  have e : r = hs k u := by
    rw [Bool.eq_iff_iff, e1, e2]
  rw [← e]
  exact ⟨m, hO⟩
end Hm

set_option Elab.async false
set_option linter.all false
set_option maxRecDepth 100000
set_option maxHeartbeats 1000000
namespace Hm
open PySem PySem.Spec PyProof.Rows L2 HT
open Evl (Ex)
section
variable {P : Program} {w : World} {K : PySem.W.Frag} {mg : Str → Option Value} {base : Heap}
def spPut (K : PySem.W.Frag) (C : Addr) : Sp := fun vs H Q _ => ∃ S c d nt m v x, vs = [.ref S, v] ∧ Sto K C H S c d nt m ∧ CAt K H v x ∧ CeOk x ∧ m.cs.length + 1 ≤ 10000000 ∧ ∀ v H', Ks S c d nt H H' → AdAt K H' v (.h m.cs.length) → Sto K C H' S c d nt { m with cs := m.cs ++ [x] } → Q v H'
theorem ok_St_put (T : Tx K mg) : FnOk P w K mg base CX0 9 T.f_St_put T.d_St_put ["self", "cell"] (spPut K T.C) := by
  refine T.h_St_put.F.ok sc_St_put (fun vs H Q E h => ?_) (fun cdv A outer s H vs Q E hr h => ?_)
  · obtain ⟨v, d, _, _, _, _, _, rfl, _⟩ := h
    rfl
  obtain ⟨S, c, d, nt, m, v, x, rfl, h, hx, xo, hl, k⟩ := h
  refine ⟨_, (pss_cons (ps_expr (cl (ok_demand_cell T) T.h_demand_cell hr (pa_cons (pv 1) pa_nil)))
    (pss_cons (ps_expr (pe_bm PySem.F.plainAttrs_list PySem.F.slot_list_append PySem.F.type_list_append mt_append (pe_fld (pv 0) rfl) (pa_cons (pv 1) pa_nil)))
    (pss_one (ps_ret (pe_tup (pa_cons pe_str (pa_cons (pe_op op_sub (pe_callB call_len_seq rfl T.b_len (by decide +kernel) (pa_cons (pe_fld (pv 0) rfl) pa_nil)) pe_int) pa_nil))))))), ?_⟩
  refine ⟨_, rfl, v, x, rfl, hx, xo, fun u1 H1 e1 => ?_⟩
  have h1 := h.ex e1
  obtain ⟨dx, hS⟩ := h1.ins
  obtain ⟨vs, hc, hv⟩ := h1.lst
  have el : vs.length = m.cs.length := hv.length
  refine ⟨_, rfl, S, T.C, dx, _, _, rfl, hS, T.cl, T.n_cells, rfl, .inl ⟨rfl, _, .of hc⟩, _, rfl, c, vs, v, rfl, rfl, hc, by rw [el]; exact szl (by omega), ?_⟩
  have hx1 : CAt K H1 v x := hx.tups (.of e1)
  obtain ⟨k3, h3⟩ := h1.upL (Paired.snoc hv hx1) (fun y hy => by
    rcases List.mem_append.1 hy with hy | hy
    · exact h.ok y hy
    · cases List.mem_singleton.1 hy
      exact xo) (by simpa using hl)
  obtain ⟨dx2, hS2⟩ := h3.ins
  obtain ⟨vs2, hc2, hv2⟩ := h3.lst
  have el2 : vs2.length = m.cs.length + 1 := by
    have := hv2.length
    simpa using this
  generalize upd H1 c (.lst (vs ++ [v])) = H2 at *
  refine ⟨_, rfl, S, T.C, dx2, _, _, rfl, hS2, T.cl, T.n_cells, rfl, c, vs2, rfl, .inl (.of hc2), _, _, rfl, rfl, Nat.le_of_ble_eq_true rfl, fun p hp => ?_⟩
  have ei : ((vs2.length : Int) - 1) = (m.cs.length : Int) := by omega
  show Q (V.ref p) (upd H2 p (HO.tup [V.str "h", V.int ((vs2.length : Int) - 1)]))
  rw [ei]
  have e2 := Ex.new (o := HO.tup [V.str "h", V.int (m.cs.length : Int)]) hp
  exact k _ _ ((Ks.of e1).trans (k3.trans (Ks.of e2))) ⟨p, rfl, .of upd_same⟩ (h3.ex e2)
def spEnd (K : PySem.W.Frag) (C : Addr) : Sp := fun vs H Q _ => ∃ S c d nt m v x e k, vs = [.ref S, v] ∧ Sto K C H S c d nt m ∧ CAt K H v x ∧ CeOk x ∧ Fol m k x e ∧ ∀ u H', Ex H H' → CAt K H' u e → Q u H'
theorem ok_St_end (T : Tx K mg) : FnOk P w K mg base CX0 9 T.f_St_end T.d_St_end ["self", "cell"] (spEnd K T.C) := by
  refine T.h_St_end.F.ok sc_St_end (fun vs H Q E h => ?_) (fun cdv A outer s H vs Q E hr h => ?_)
  · obtain ⟨v, d, _, _, _, _, _, _, _, rfl, _⟩ := h
    rfl
  obtain ⟨S, c, d, nt, m, v, x, e, kk, rfl, h, hx, xo, hf, k⟩ := h
  refine ⟨_, (pss_cons (ps_expr (cl (ok_demand_cell T) T.h_demand_cell hr (pa_cons (pv 1) pa_nil)))
    (pss_one (ps_ret (pe_meth (pv 0) T.cl T.h_St_follow.m (ok_St_follow T) (hr.mono (by first | decide | omega)) T.h_St_follow.b .nil pass0 (pa_cons (pv 1) pa_nil))))), ?_⟩
  refine ⟨_, rfl, v, x, rfl, hx, xo, fun u1 H1 e1 => ?_⟩
  have h1 := h.ex e1
  obtain ⟨dx, hS⟩ := h1.ins
  exact ⟨_, rfl, S, dx, _, rfl, hS, rfl, _, rfl, S, c, d, nt, m, v, x, e, kk, rfl, h1, hx.tups (.of e1), xo, hf, fun u hu => k u _ e1 hu⟩
def spContains (K : PySem.W.Frag) (C : Addr) : Sp := fun vs H Q _ => ∃ S c d nt m v n u x j r, vs = [.ref S, v, u] ∧ Sto K C H S c d nt m ∧ AdAt K H v n ∧ (match n with | .h n => n < m.cs.length | .s n => n < m.sz) ∧ CAt K H u x ∧ CeOk x ∧ Oc m n j [] [x] r ∧ ∀ H', Ex H H' → Q (.bl r) H'
theorem ok_St_contains (T : Tx K mg) : FnOk P w K mg base CX0 9 T.f_St_contains T.d_St_contains ["self", "address", "cell"] (spContains K T.C) := by
  refine T.h_St_contains.F.ok sc_St_contains (fun vs H Q E h => ?_) (fun cdv A outer s H vs Q E hr h => ?_)
  · obtain ⟨v, d, _, _, _, _, _, _, _, _, _, rfl, _⟩ := h
    rfl
  obtain ⟨S, c, d, nt, m, v, n, u, x, j, r, rfl, h, ha, hn, hx, xo, hoc, k⟩ := h
  refine ⟨_, (pss_cons (ps_expr (pe_meth (pv 0) T.cl T.h_St_demand_place.m (ok_St_demand_place T) (hr.mono (by first | decide | omega)) T.h_St_demand_place.b .nil pass0 (pa_cons (pv 1) pa_nil)))
    (pss_cons (ps_expr (cl (ok_demand_cell T) T.h_demand_cell hr (pa_cons (pv 2) pa_nil)))
    (pss_one (ps_ret (pe_meth (pv 0) T.cl T.h_St_occurs.m (ok_St_occurs T) (hr.mono (by first | decide | omega)) T.h_St_occurs.b .nil pass0 (pa_cons (pv 1) (pa_cons (pv 2) pa_nil))))))), ?_⟩
  obtain ⟨dx, hS⟩ := h.ins
  refine ⟨_, rfl, S, dx, _, rfl, hS, rfl, _, rfl, S, c, d, nt, m, v, n, rfl, h, ha, hn, fun _ H1 e1 => ?_⟩
  refine ⟨_, rfl, u, x, rfl, hx.tups (.of e1), xo, fun _ H2 e2 => ?_⟩
  have e := e1.trans e2
  exact ⟨_, rfl, S, dx, _, rfl, e _ _ hS, rfl, _, rfl, _, rfl, S, c, d, nt, m, v, n, u, x, j, r, rfl, h.ex e, ha.tups (.of e), hx.tups (.of e), xo, hoc, fun H3 e3 => k _ (e.trans e3)⟩
end
end Hm

set_option Elab.async false
set_option linter.all false
set_option maxRecDepth 100000
set_option maxHeartbeats 2000000
namespace Hm
open PySem PySem.Spec PyProof.Rows L2 HT
open Evl (Ex)
def wk (bd : Int → Option Tm) : Tm → Tm
  | .var k => (bd k).getD (.var k)
  | t => t
section
variable {P : Program} {w : World} {K : PySem.W.Frag} {mg : Str → Option Value} {base : Heap}
/-- a dict of terms by numbers -/
def BdAt (K : PySem.W.Frag) (H : Hp) (D : Addr) (bd : Int → Option Tm) : Prop := ∃ kvs : List (Key × V), H D = some (.dK kvs) ∧ kvs.length ≤ 4 ∧ ∀ k : Int, (bd k = none → valV kvs (.inl k) = none) ∧ ∀ t, bd k = some t → ∃ v, valV kvs (.inl k) = some v ∧ Rep K H t v
theorem BdAt.keep {H H' : Hp} {D : Addr} {bd : Int → Option Tm} (h : BdAt K H D bd) (t : Tups K H H') (e : ∀ o, H D = some o → H' D = some o) : BdAt K H' D bd := by
  obtain ⟨kvs, h1, h2, h3⟩ := h
  exact ⟨kvs, e _ h1, h2, fun k => ⟨(h3 k).1, fun x hx => by
    obtain ⟨v, g1, g2⟩ := (h3 k).2 x hx
    exact ⟨v, g1, g2.mono t⟩⟩⟩
theorem BdAt.ex {H H' : Hp} {D : Addr} {bd : Int → Option Tm} (h : BdAt K H D bd) (e : Ex H H') : BdAt K H' D bd := h.keep (.of e) (fun o => e _ o)
theorem BdAt.get {H : Hp} {D : Addr} {bd : Int → Option Tm} (h : BdAt K H D bd) {k : Int} {t : Tm} (e : bd k = some t) : ∃ v, DGet H D (.int k) (some v) ∧ Rep K H t v := by
  obtain ⟨kvs, h1, h2, h3⟩ := h
  obtain ⟨v, g1, g2⟩ := (h3 k).2 t e
  exact ⟨v, by rw [← g1]; exact DGet.k (k := .inl k) h1, g2⟩
theorem BdAt.has {H : Hp} {D : Addr} {bd : Int → Option Tm} (h : BdAt K H D bd) (k : Int) : ∃ o, DGet H D (.int k) o ∧ o.isSome = (bd k).isSome := by
  obtain ⟨kvs, h1, h2, h3⟩ := h
  refine ⟨_, DGet.k (k := .inl k) h1, ?_⟩
  cases e : bd k with
  | none =>
    rw [(h3 k).1 e]
    rfl
  | some t =>
    obtain ⟨v, g1, _⟩ := (h3 k).2 t e
    rw [g1]
    rfl
theorem BdAt.put {H : Hp} {D : Addr} {bd : Int → Option Tm} {n : Nat} {k : Int} {t : Tm} {v : V} (h : BdAt K H D bd) (hn : ∀ kvs, H D = some (.dK kvs) → kvs.length ≤ n) (n4 : n < 4) (hv : Rep K H t v) :
    ∃ H', DPut H D (.int k) v H' ∧ (∀ b, b ≠ D → H' b = H b) ∧ Tups K H H' ∧ BdAt K H' D (fun j => if j = k then some t else bd j) ∧ ∀ kvs, H' D = some (.dK kvs) → kvs.length ≤ n + 1 := by
  obtain ⟨kvs, h1, h2, h3⟩ := h
  have hl := hn _ h1
  have l1 := putK_len1 kvs (.inl k) v
  have t' : Tups K H (upd H D (.dK (putK kvs (.inl k) v))) := tups_dk h1
  refine ⟨_, DPut.k (k := .inl k) h1 (szl (by omega)), fun b hb => upd_ne hb, t', ⟨_, upd_same, by omega, fun j => ?_⟩, fun kv e => ?_⟩
  · rw [valV_put]
    by_cases e : j = k
    · subst e
      rw [if_pos rfl]
      refine ⟨fun z => ?_, fun s hs => ?_⟩
      · dsimp only at z
        rw [if_pos rfl] at z
        cases z
      · dsimp only at hs
        rw [if_pos rfl] at hs
        cases hs
        exact ⟨v, rfl, hv.mono t'⟩
    · rw [if_neg (fun z => e (Sum.inl.inj z))]
      refine ⟨fun z => ?_, fun s hs => ?_⟩
      · dsimp only at z
        rw [if_neg e] at z
        exact (h3 j).1 z
      · dsimp only at hs
        rw [if_neg e] at hs
        obtain ⟨u, g1, g2⟩ := (h3 j).2 s hs
        exact ⟨u, g1, g2.mono t'⟩
  · rw [upd_same] at e
    cases e
    omega
def Nvb (bd : Int → Option Tm) : Prop := ∀ k t, bd k = some t → isV t = false
def spWalk (K : PySem.W.Frag) : Sp := fun vs H Q _ => ∃ v D t bd, vs = [v, .ref D] ∧ Rep K H t v ∧ Ok t ∧ BdAt K H D bd ∧ Nvb bd ∧ (∀ k s, bd k = some s → Ok s) ∧ ∀ u, Rep K H (wk bd t) u → Q u H
theorem ok_law_walk (T : Tx K mg) : FnOk P w K mg base CX0 1 T.f_law_walk T.d_law_walk ["_law_term_here", "_law_bound"] (spWalk K) := by
  refine T.h_law_walk.F.ok sc_law_walk (fun vs H Q E h => ?_) (fun cdv A outer s H vs Q E hr h => ?_)
  · obtain ⟨v, D, t, bd, rfl, _⟩ := h
    rfl
  obtain ⟨v, D, t, bd, rfl, hR, ho, hB, nv, bo, q⟩ := h
  have hu1 := Nat.lt_of_le_of_lt (Nat.add_le_add_left (show 1 ≤ 64 by decide) _) hr.units
  refine ⟨_, (pss_cons (ps_for PassesOwn.never rfl (pi_range1 rfl T.b_range (pa_cons (pe_op op_add (pe_callB call_lenD rfl T.b_len (by decide +kernel) (pa_cons (pv 1) pa_nil)) pe_int) pa_nil)) (pg_name (i := 2) sc_law_walk.nd rfl (Or.inl rfl))
      (pss_one (ps_if (PW.pt (pw_and (pt_val (pe_callB call_isi rfl T.b_isinstance (by decide +kernel) (pa_cons (pv 0) (pa_cons (pe_bltn (v := .ty "tuple") (u := .type "tuple") rfl T.b_tuple (by decide +kernel) rfl) pa_nil)))) (pw_and (pt_cmpR op_eq (pe_callB call_len_seq rfl T.b_len (by decide +kernel) (pa_cons (pv 0) pa_nil)) pe_int (nomark _)) (pw_and1 (pt_cmp (pc_din hu1 (pe_ix ix_tup (pv 0) pe_int (fun _ _ => rfl)) (pv 1)))))))
      (pss_one (ps_set (i := 0) sc_law_walk.nd rfl (Or.inl rfl) (pe_dget hu1 (pv 1) (pe_ix ix_tup (pv 0) pe_int (fun _ _ => rfl)) (fun _ _ => rfl))))
      pss_nil)))
    (pss_one (ps_ret (pv 0)))), ?_⟩
  have hB2 := hB
  obtain ⟨kvs, h1, h2, _⟩ := hB2
  refine ⟨_, rfl, D, kvs, rfl, h1, _, _, rfl, rfl, (kvs.length : Int) + 1, rfl, by omega, by omega, for_it walk_range (fun i σ' H' => H' = H ∧ ∃ t' v' x, σ' = [some v', some (.ref D), x] ∧ Rep K H t' v' ∧ Ok t' ∧ ((i = 0 ∧ t' = t) ∨ t' = wk bd t)) ⟨rfl, t, v, none, rfl, hR, ho, .inl ⟨rfl, rfl⟩⟩ (fun _ _ _ _ _ => trivial) ?_ ?_⟩
  · rintro i x σ' Hx H1 _ ⟨rfl, t', v', x2, rfl, hR', ok', ht'⟩ ⟨rfl, _⟩
    have same : wk bd (wk bd t) = wk bd t := by
      cases t with
      | var k =>
        show wk bd ((bd k).getD (.var k)) = (bd k).getD (.var k)
        cases e : bd k with
        | none =>
          show (bd k).getD (.var k) = _
          rw [e]
        | some s =>
          have := nv k s e
          cases s with
          | var _ => cases this
          | atom _ => rfl
          | int _ => rfl
          | comp _ _ => rfl
      | atom _ => rfl
      | int _ => rfl
      | comp _ _ => rfl
    have fin : wk bd t' = wk bd t := by
      rcases ht' with ⟨_, rfl⟩ | rfl
      · rfl
      · exact same
    clear ht'
    obtain ⟨tv, y1, y2⟩ := isi_tup hR'
    refine ⟨_, rfl, _, _, tv, _, isTup t', rfl, .ty "tuple", y1, y2, isTup t', rfl, ?_⟩
    cases t' with
    | atom a => exact iteF (iteF ⟨rfl, .atom a, v', _, rfl, hR', ok', .inr fin⟩)
    | int a => exact iteF (iteF ⟨rfl, .int a, v', _, rfl, hR', ok', .inr fin⟩)
    | comp f as =>
      have hR2 := hR'
      unfold Rep at hR2
      obtain ⟨a, ws, rfl, hT, hA⟩ := hR2
      have hl := hA.len
      have ok2 := ok'
      unfold Ok at ok2
      refine iteT ⟨_, rfl, a, _, rfl, .inr hT, rfl, decide ((V.str f :: ws).length = 1), congrArg V.bl dec1, ?_⟩
      rw [decide_eq_false (by rw [List.length_cons]; omega)]
      exact iteF (iteF ⟨rfl, .comp f as, _, _, rfl, hR', ok', .inr fin⟩)
    | var j =>
      have hR2 := hR'
      unfold Rep at hR2
      obtain ⟨a, rfl, hT⟩ := hR2
      refine iteT ⟨_, rfl, a, _, rfl, .inr hT, rfl, true, rfl, iteT ?_⟩
      obtain ⟨o, g1, g2⟩ := hB.has j
      refine ⟨_, rfl, a, _, 0, _, rfl, rfl, hT, at0, _, rfl, D, o, rfl, g1, ?_⟩
      rw [g2]
      cases e : bd j with
      | none => exact ⟨false, rfl, iteF ⟨rfl, .var j, _, _, rfl, hR', ok', .inr (by rw [← fin]; show _ = (bd j).getD (.var j); rw [e]; rfl)⟩⟩
      | some s =>
        obtain ⟨u, q1, q2⟩ := hB.get e
        refine ⟨true, rfl, iteT ⟨_, rfl, _, rfl, a, _, 0, _, rfl, rfl, hT, at0, D, u, rfl, q1, ?_⟩⟩
        exact ⟨rfl, s, u, _, rfl, q2, bo _ _ e, .inr (by rw [← fin]; show _ = (bd j).getD (.var j); rw [e]; rfl)⟩
  · rintro σ' H1 ⟨rfl, t', v', x2, rfl, hR', ok', ht'⟩
    rcases ht' with ⟨e, _⟩ | rfl
    · exfalso
      have e' : ((kvs.length : Int) + 1).toNat = 0 := e
      omega
    · exact ⟨_, rfl, q _ hR'⟩
end
end Hm

set_option Elab.async false
set_option linter.all false
set_option maxRecDepth 100000
set_option maxHeartbeats 2000000
namespace Hm
open PySem PySem.Spec PyProof.Rows L2 HT
open Evl (Ex)
theorem wk_sb {bd : Int → Option Tm} {σ : Int → Tm} {D : Nat} (h : Bd bd σ D) (t : Tm) : sb σ (wk bd t) = sb σ t := by
  cases t with
  | var k =>
    show sb σ ((bd k).getD (.var k)) = σ k
    cases e : bd k with
    | none => rfl
    | some s => exact (h.bn k s e).1.symm
  | atom _ => rfl
  | int _ => rfl
  | comp _ _ => rfl
theorem wk_ok {bd : Int → Option Tm} {σ : Int → Tm} {D : Nat} (h : Bd bd σ D) {t : Tm} (ho : Ok t) (hv : Vb 4 t) : Ok (wk bd t) ∧ Vb 4 (wk bd t) := by
  cases t with
  | var k =>
    show Ok ((bd k).getD (.var k)) ∧ Vb 4 ((bd k).getD (.var k))
    cases e : bd k with
    | none => exact ⟨ho, hv⟩
    | some s => exact ⟨(h.bn k s e).2.2.1, (h.bn k s e).2.2.2⟩
  | atom _ => exact ⟨ho, hv⟩
  | int _ => exact ⟨ho, hv⟩
  | comp _ _ => exact ⟨ho, hv⟩
theorem wk_var {bd : Int → Option Tm} {σ : Int → Tm} {D : Nat} (h : Bd bd σ D) {t : Tm} {k : Int} (e : wk bd t = .var k) : σ k = .var k := by
  cases t with
  | var j =>
    have e' : (bd j).getD (.var j) = .var k := e
    cases q : bd j with
    | none =>
      rw [q] at e'
      have e2 : Tm.var j = .var k := e'
      rw [← Tm.var.inj e2]
      exact h.fr j q
    | some s =>
      rw [q] at e'
      have := (h.bn j s q).2.1
      rw [show s = .var k from e'] at this
      cases this
  | atom _ => cases e
  | int _ => cases e
  | comp _ _ => cases e
theorem Bd.nv {bd : Int → Option Tm} {σ : Int → Tm} {D : Nat} (h : Bd bd σ D) : Nvb bd := fun k t e => (h.bn k t e).2.1
theorem Bd.oks {bd : Int → Option Tm} {σ : Int → Tm} {D : Nat} (h : Bd bd σ D) : ∀ k s, bd k = some s → Ok s := fun k t e => (h.bn k t e).2.2.1
theorem hss_take (k : Int) : ∀ ts : List Tm, hss k ts = true ↔ ∃ t ∈ ts, hs k t = true
  | [] => ⟨(fun z => by cases z), (fun ⟨t, ht, _⟩ => nomatch ht)⟩
  | t :: ts => by
    show (hs k t || hss k ts) = true ↔ _
    rw [Bool.or_eq_true, hss_take k ts]
    constructor
    · rintro (h | ⟨x, hx, h⟩)
      · exact ⟨t, List.mem_cons_self .., h⟩
      · exact ⟨x, List.mem_cons_of_mem _ hx, h⟩
    · rintro ⟨x, hx, h⟩
      rcases List.mem_cons.1 hx with rfl | hx
      · exact .inl h
      · exact .inr ⟨x, hx, h⟩
mutual
theorem dep_le {σ : Int → Tm} : ∀ t : Tm, depth t ≤ depth (sb σ t)
  | .var k => by
    show 1 ≤ depth (σ k)
    cases σ k with
    | comp f ts => unfold depth; omega
    | var _ => exact Nat.le_refl _
    | atom _ => exact Nat.le_refl _
    | int _ => exact Nat.le_refl _
  | .atom _ => Nat.le_refl _
  | .int _ => Nat.le_refl _
  | .comp f ts => by
    have := deps_le (σ := σ) ts
    show 1 + depths ts ≤ 1 + depths (sbs σ ts)
    omega
theorem deps_le {σ : Int → Tm} : ∀ ts : List Tm, depths ts ≤ depths (sbs σ ts)
  | [] => Nat.le_refl _
  | t :: ts => by
    have h1 := dep_le (σ := σ) t
    have h2 := deps_le (σ := σ) ts
    show max (depth t) (depths ts) ≤ max (depth (sb σ t)) (depths (sbs σ ts))
    omega
end
theorem dep_pos (t : Tm) : 1 ≤ depth t := by
  cases t with
  | comp f ts => unfold depth; omega
  | var _ => exact Nat.le_refl _
  | atom _ => exact Nat.le_refl _
  | int _ => exact Nat.le_refl _
def tmsD (ts : List Tm) : PyData := .list (toDs ts)
theorem hss_app (k : Int) : ∀ xs ys : List Tm, hss k (xs ++ ys) = (hss k xs || hss k ys)
  | [], ys => by simp [hss]
  | x :: xs, ys => by
    show (hs k x || hss k (xs ++ ys)) = ((hs k x || hss k xs) || hss k ys)
    rw [hss_app k xs ys, Bool.or_assoc]
theorem sbs_app (σ : Int → Tm) : ∀ xs ys : List Tm, sbs σ (xs ++ ys) = sbs σ xs ++ sbs σ ys
  | [], _ => rfl
  | x :: xs, ys => by
    show sb σ x :: sbs σ (xs ++ ys) = _
    rw [sbs_app σ xs ys]
    rfl
theorem deps_sb_mem {σ : Int → Tm} : ∀ {ts : List Tm} {t : Tm}, t ∈ ts → depth (sb σ t) ≤ depths (sbs σ ts)
  | u :: ts, t, h => by
    show _ ≤ max (depth (sb σ u)) (depths (sbs σ ts))
    rcases List.mem_cons.1 h with rfl | h
    · omega
    · have := deps_sb_mem (σ := σ) h
      omega
theorem vbs_mem {m : Int} : ∀ {ts : List Tm} {t : Tm}, Vbs m ts → t ∈ ts → Vb m t
  | u :: ts, t, h, m => by
    rw [vbs_cons] at h
    rcases List.mem_cons.1 m with rfl | m
    · exact h.1
    · exact vbs_mem h.2 m
theorem dep_ts : ∀ {ts : List Tm} {n : Nat}, (∀ t ∈ ts, depth t ≤ n) → depths ts ≤ n
  | [], n, _ => Nat.zero_le _
  | t :: ts, n, h => by
    have h1 := h t (List.mem_cons_self ..)
    have h2 := dep_ts (ts := ts) fun x hx => h x (List.mem_cons_of_mem _ hx)
    show max (depth t) (depths ts) ≤ n
    omega
theorem shp_tms {ts : List Tm} (h : Oks ts) (hd : depths ts ≤ 60) : SeqAt.shaped (tmsD ts) = true := by
  have hd2 : (tmsD ts).depth ≤ 64 := by
    show PyData.depthAll (toDs ts) + 1 ≤ 64
    have := dep_tms ts
    omega
  show ((tmsD ts).canLay0 && decide ((tmsD ts).depth ≤ 64)) = true
  rw [decide_eq_true hd2, Bool.and_true]
  exact lay_tms h
theorem tms_empty (ts : List Tm) : PyData.eqv (tmsD ts) (.list []) = ts.isEmpty := by
  cases ts <;> rfl
section
variable {P : Program} {w : World} {K : PySem.W.Frag} {mg : Str → Option Value} {base : Heap}
def spHas (K : PySem.W.Frag) : Nat → Sp
  | 0 => fun _ _ _ _ => False
  | n + 1 => fun vs H Q _ => n ≤ 60 ∧ ∃ k v D t bd σ d, vs = [.int k, v, .ref D] ∧ Rep K H t v ∧ Ok t ∧ Vb 4 t ∧ BdAt K H D bd ∧ Bd bd σ d ∧ depth (sb σ t) ≤ n ∧ ∀ H', Ex H H' → Q (.bl (hs k (sb σ t))) H'
theorem has_step (T : Tx K mg) (n : Nat) (ih : FnOk P w K mg base CX0 (n + 2) T.f_law_has T.d_law_has ["_law_number", "_law_term_here", "_law_bound"] (spHas K n)) :
    FnOk P w K mg base CX0 (n + 2 + 1) T.f_law_has T.d_law_has ["_law_number", "_law_term_here", "_law_bound"] (spHas K (n + 1)) := by
  refine T.h_law_has.F.ok sc_law_has (fun vs H Q E h => ?_) (fun cdv A outer s H vs Q E hr h => ?_)
  · obtain ⟨_, k, v, D, t, bd, σ, d, rfl, _⟩ := h
    rfl
  obtain ⟨n60, k, v, D, t, bd, σ, d, rfl, hR, ho, hv, hB, hb, hd, q⟩ := h
  have hu := hr.units
  have hu1 := Nat.lt_of_le_of_lt (Nat.add_le_add_left (show 1 ≤ 64 by decide) _) hr.units
  refine ⟨_, (pss_cons (ps_set (i := 1) sc_law_has.nd rfl (Or.inl rfl) (cl (ok_law_walk T) T.h_law_walk hr (pa_cons (pv 1) (pa_cons (pv 2) pa_nil))))
    (pss_cons (ps_if (pt_not (pt_val (pe_callB call_isi rfl T.b_isinstance (by decide +kernel) (pa_cons (pv 1) (pa_cons (pe_bltn (v := .ty "tuple") (u := .type "tuple") rfl T.b_tuple (by decide +kernel) rfl) pa_nil)))))
      (pss_one (ps_ret pe_bl))
      pss_nil)
    (pss_cons (ps_if (pt_cmpR op_eq (pe_callB call_len_seq rfl T.b_len (by decide +kernel) (pa_cons (pv 1) pa_nil)) pe_int (nomark _))
      (pss_one (ps_ret (pe_cmpR op_eq (pe_ix ix_tup (pv 1) pe_int (fun _ _ => rfl)) (pv 0) (nomark _))))
      pss_nil)
    (pss_one (ps_ret (pe_cmpR (op_neD hu) (pe_lc (own := [("_law_part", 3)]) (g := gName 3) rfl sc_law_has.nd (pi_tup (pe_slice sl_tup (pv 1) (po_some pe_int) po_none)) (blkOk_by (own := [("_law_part", 3)]) (N := ["_law_number", "_law_term_here", "_law_bound", "_law_part"]) (sc := defScope s_law_has) (by decide +kernel)) (fun _ _ _ _ _ => pg_name (i := 3) sc_law_has.nd rfl (Or.inl rfl)) (fun _ _ _ _ _ => pts_one (pt_val (cl ih T.h_law_has hr (pa_cons (pv 0) (pa_cons (pv 3) (pa_cons (pv 2) pa_nil)))))) (fun _ _ _ _ _ => (pv 3))) (pe_lst pa_nil) (nomark _))))))), ?_⟩
  refine ⟨_, rfl, _, rfl, v, D, t, bd, rfl, hR, ho, hB, hb.nv, hb.oks, fun u hR' => ?_⟩
  obtain ⟨ho', hv'⟩ := wk_ok hb ho hv
  have esb := wk_sb hb t
  rw [← esb] at hd
  rw [← esb] at q
  have wv := fun j (e : wk bd t = .var j) => wk_var hb e
  generalize wk bd t = t' at *
  obtain ⟨tv, y1, y2⟩ := isi_tup hR'
  refine ⟨_, rfl, _, _, tv, _, isTup t', rfl, .ty "tuple", y1, y2, isTup t', rfl, ?_⟩
  cases t' with
  | atom a => exact iteT (q _ (Ex.refl _))
  | int a => exact iteT (q _ (Ex.refl _))
  | var j =>
    have hR2 := hR'
    unfold Rep at hR2
    obtain ⟨a, rfl, hT⟩ := hR2
    refine iteF ⟨_, rfl, a, _, rfl, .inr hT, rfl, true, rfl, iteT ?_⟩
    refine ⟨_, rfl, a, _, 0, _, rfl, rfl, hT, at0, _, rfl, rfl, ?_⟩
    rw [dec_ii]
    have e : hs k (sb σ (.var j)) = decide (j = k) := by
      show hs k (σ j) = _
      rw [wv j rfl]
      rfl
    rw [e] at q
    exact q _ (Ex.refl _)
  | comp g as =>
    have hR2 := hR'
    unfold Rep at hR2
    obtain ⟨a, ws, rfl, hT, hA⟩ := hR2
    have hl := hA.len
    have ok2 := ho'
    unfold Ok at ok2
    refine iteF ⟨_, rfl, a, _, rfl, .inr hT, rfl, decide ((V.str g :: ws).length = 1), congrArg V.bl dec1, ?_⟩
    rw [decide_eq_false (by rw [List.length_cons]; omega)]
    refine iteF ?_
    refine ⟨_, rfl, _, rfl, a, _, rfl, hT, cut1_ne _ _, fun z hzn => ?_⟩
    rw [cut1]
    have e2 := Ex.new (o := HO.tup ws) hzn
    have hz2 : SqT K (upd H z (.tup ws)) z ws := .of upd_same
    generalize upd H z (.tup ws) = H2 at *
    have hA2 := hA.mono (Tups.of (K := K) e2)
    have hB2 := hB.ex e2
    refine ⟨z, rfl, ⟨_, hz2⟩, fun D2 hD2 => ?_⟩
    have e3 := Ex.new (o := HO.lst []) hD2
    have hd' : 1 + depths (sbs σ as) ≤ n := hd
    unfold Vb at hv'
    have full : as.take ws.length = as := by rw [← hl, List.take_length]
    refine lc_it walk_tup (fun i H' => i ≤ ws.length ∧ Ex H2 H' ∧ ∃ zs us, H' D2 = some (.lst us) ∧ Reps K H' zs us ∧ zs.length ≤ i ∧ (∀ t ∈ zs, t ∈ as) ∧ hss k (sbs σ (as.take i)) = !zs.isEmpty) ⟨Nat.zero_le _, e3, [], [], upd_same, Reps.nil, Nat.zero_le _, (fun t ht => nomatch ht), rfl⟩ (fun i H' _ ⟨_, k1, _⟩ => Evl.ex_t k1 hz2) ?_ ?_
    · rintro i x Hx H3 hi ⟨hi', k3, zs, us, hU, hUs, hlz, hzs, hes⟩ ⟨rfl, hx⟩
      obtain ⟨t, ht, hRt⟩ := hA2.get hx
      have tm := List.mem_of_getElem? ht
      have okt := oks_mem ok2.2.2.2 tm
      have dt := deps_sb_mem (σ := σ) tm
      have et : as.take (i + 1) = as.take i ++ [t] := by
        rw [List.take_add_one, ht]
        rfl
      have hes2 : hss k (sbs σ (as.take (i + 1))) = (!zs.isEmpty || hs k (sb σ t)) := by
        rw [et, sbs_app, hss_app, hes]
        show (!zs.isEmpty || (hs k (sb σ t) || false)) = _
        rw [Bool.or_false]
      cases n with
      | zero => omega
      | succ n =>
      refine ⟨rfl, _, rfl, _, rfl, _, rfl, by omega, k, x, D, t, bd, σ, d, rfl, hRt.mono (.of k3), okt, vbs_mem hv' tm, hB2.ex k3, hb, by omega, fun H4 e4 => ⟨hs k (sb σ t), rfl, ?_⟩⟩
      have hU4 := e4 _ _ hU
      have e5 := k3.trans e4
      cases hq : hs k (sb σ t) with
      | false =>
        refine iteF ⟨by have : i < ws.length := hi; omega, e5, zs, us, hU4, hUs.mono (.of e4), by omega, hzs, ?_⟩
        rw [hes2, hq, Bool.or_false]
      | true =>
        have t5 := Tups.lst (K := K) (o := .lst (us ++ [x])) hU4
        have lu := hUs.len
        refine iteT ⟨_, rfl, us, hU4, small5' (by have : i < ws.length := hi; omega), by have : i < ws.length := hi; omega, fun b o e => ?_, zs ++ [t], us ++ [x], upd_same, ?_, by rw [List.length_append, List.length_singleton]; omega, fun y hy => ?_, ?_⟩
        · rw [upd_ne (ne_of_none e hD2)]
          exact e5 _ _ e
        · exact Reps.app ((hUs.mono (.of e4)).mono t5) (Reps.one ((hRt.mono (.of e5)).mono t5))
        · rcases List.mem_append.1 hy with hy | hy
          · exact hzs y hy
          · cases List.mem_singleton.1 hy
            exact tm
        · rw [hes2, hq, Bool.or_true]
          cases zs <;> rfl
    · rintro H3 ⟨_, k3, zs, us, hU, hUs, hlz, hzs, hes⟩
      rw [full] at hes
      refine ⟨Nat.zero_le _, fun p6 hp6 => ?_⟩
      have e6 := Ex.new (o := HO.lst []) hp6
      have okz : Oks zs := oks_of fun t ht => oks_mem ok2.2.2.2 (hzs t ht)
      have dz : depths zs ≤ 60 := dep_ts fun t ht => by
        have h1 := dep_le (σ := σ) t
        have h2 := deps_sb_mem (σ := σ) (hzs t ht)
        omega
      refine ⟨tmsD zs, .list [], .lst (.of (e6 _ _ hU)) (dp_reps (hUs.mono (.of e6))), .lst (.of upd_same) .nil, shp_tms okz dz, rfl, ?_⟩
      have e : hs k (sb σ (.comp g as)) = !zs.isEmpty := hes
      rw [tms_empty, ← e]
      exact q _ ((e2.trans k3).trans e6)
theorem ok_law_has (T : Tx K mg) : ∀ n : Nat, FnOk P w K mg base CX0 (n + 2) T.f_law_has T.d_law_has ["_law_number", "_law_term_here", "_law_bound"] (spHas K n)
  | 0 => ⟨fun _ _ _ _ h => h.elim, fun _ _ _ _ _ _ _ _ _ _ _ _ _ h => h.elim⟩
  | n + 1 => has_step T n (ok_law_has T n)
end
end Hm

set_option Elab.async false
set_option linter.all false
set_option maxRecDepth 100000
set_option maxHeartbeats 2000000
namespace Hm
open PySem PySem.Spec PyProof.Rows L2 HT
open Evl (Ex)
section
variable {P : Program} {w : World} {K : PySem.W.Frag} {mg : Str → Option Value} {base : Heap}
def spWhole (K : PySem.W.Frag) : Nat → Sp
  | 0 => fun _ _ _ _ => False
  | n + 1 => fun vs H Q _ => ∃ v D t bd σ d, vs = [v, .ref D] ∧ Rep K H t v ∧ Ok t ∧ Vb 4 t ∧ BdAt K H D bd ∧ Bd bd σ d ∧ depth (sb σ t) ≤ n ∧ ∀ u H', Ex H H' → Rep K H' (sb σ t) u → Q u H'
theorem whole_step (T : Tx K mg) (n : Nat) (ih : FnOk P w K mg base CX0 (n + 2) T.f_law_whole T.d_law_whole ["_law_term_here", "_law_bound"] (spWhole K n)) :
    FnOk P w K mg base CX0 (n + 2 + 1) T.f_law_whole T.d_law_whole ["_law_term_here", "_law_bound"] (spWhole K (n + 1)) := by
  refine T.h_law_whole.F.ok sc_law_whole (fun vs H Q E h => ?_) (fun cdv A outer s H vs Q E hr h => ?_)
  · obtain ⟨v, D, t, bd, σ, d, rfl, _⟩ := h
    rfl
  obtain ⟨v, D, t, bd, σ, d, rfl, hR, ho, hv, hB, hb, hd, q⟩ := h
  have hu := hr.units
  have hu1 := Nat.lt_of_le_of_lt (Nat.add_le_add_left (show 1 ≤ 64 by decide) _) hr.units
  refine ⟨_, (pss_cons (ps_set (i := 0) sc_law_whole.nd rfl (Or.inl rfl) (cl (ok_law_walk T) T.h_law_walk hr (pa_cons (pv 0) (pa_cons (pv 1) pa_nil))))
    (pss_cons (ps_if (PW.pt (pw_or (pt_not (pt_val (pe_callB call_isi rfl T.b_isinstance (by decide +kernel) (pa_cons (pv 0) (pa_cons (pe_bltn (v := .ty "tuple") (u := .type "tuple") rfl T.b_tuple (by decide +kernel) rfl) pa_nil))))) (pw_or1 (pt_cmpR op_eq (pe_callB call_len_seq rfl T.b_len (by decide +kernel) (pa_cons (pv 0) pa_nil)) pe_int (nomark _)))))
      (pss_one (ps_ret (pv 0)))
      pss_nil)
    (pss_one (ps_ret (pe_op op_catT (pe_tup (pa_cons (pe_ix ix_tup (pv 0) pe_int (fun _ _ => rfl)) pa_nil)) (pe_callTy call_tuple_of rfl T.b_tuple (by decide +kernel) (pa_cons (pe_lc (own := [("_law_part", 2)]) (g := gName 2) rfl sc_law_whole.nd (pi_tup (pe_slice sl_tup (pv 0) (po_some pe_int) po_none)) (blkOk_by (own := [("_law_part", 2)]) (N := ["_law_term_here", "_law_bound", "_law_part"]) (sc := defScope s_law_whole) (by decide +kernel)) (fun _ _ _ _ _ => pg_name (i := 2) sc_law_whole.nd rfl (Or.inl rfl)) (fun _ _ _ _ _ => pts_nil) (fun _ _ _ _ _ => (cl ih T.h_law_whole hr (pa_cons (pv 2) (pa_cons (pv 1) pa_nil))))) pa_nil))))))), ?_⟩
  refine ⟨_, rfl, _, rfl, v, D, t, bd, rfl, hR, ho, hB, hb.nv, hb.oks, fun u hR' => ?_⟩
  obtain ⟨ho', hv'⟩ := wk_ok hb ho hv
  have esb := wk_sb hb t
  rw [← esb] at hd
  rw [← esb] at q
  have wv := fun j (e : wk bd t = .var j) => wk_var hb e
  generalize wk bd t = t' at *
  obtain ⟨tv, y1, y2⟩ := isi_tup hR'
  refine ⟨_, rfl, _, _, tv, _, isTup t', rfl, .ty "tuple", y1, y2, isTup t', rfl, ?_⟩
  cases t' with
  | atom a => exact iteT (iteT ⟨_, rfl, q _ _ (Ex.refl _) hR'⟩)
  | int a => exact iteT (iteT ⟨_, rfl, q _ _ (Ex.refl _) hR'⟩)
  | var j =>
    have hR2 := hR'
    unfold Rep at hR2
    obtain ⟨a, rfl, hT⟩ := hR2
    refine iteF ⟨_, rfl, a, _, rfl, .inr hT, rfl, true, rfl, iteT ⟨_, rfl, ?_⟩⟩
    have e : sb σ (.var j) = .var j := wv j rfl
    rw [e] at q
    exact q _ _ (Ex.refl _) hR'
  | comp g as =>
    have hR2 := hR'
    unfold Rep at hR2
    obtain ⟨a, ws, rfl, hT, hA⟩ := hR2
    have hl := hA.len
    have ho2 := ho'
    unfold Ok at ho2
    unfold Vb at hv'
    refine iteF ⟨_, rfl, a, _, rfl, .inr hT, rfl, decide ((V.str g :: ws).length = 1), congrArg V.bl dec1, ?_⟩
    rw [decide_eq_false (by rw [List.length_cons]; omega)]
    refine iteF ?_
    refine ⟨_, rfl, a, _, 0, _, rfl, rfl, hT, at0, Nat.le_of_ble_eq_true rfl, fun tp htp => ?_⟩
    have e1 := Ex.new (o := HO.tup [V.str g]) htp
    have hT1 : SqT K (upd H tp (.tup [V.str g])) tp [.str g] := .of upd_same
    have hTa := Evl.ex_t (K := K) e1 hT
    generalize upd H tp (.tup [V.str g]) = H1 at *
    refine ⟨_, rfl, _, rfl, a, _, rfl, hTa, cut1_ne _ _, fun z hzn => ?_⟩
    rw [cut1]
    have e2 := Ex.new (o := HO.tup ws) hzn
    have hz2 : SqT K (upd H1 z (.tup ws)) z ws := .of upd_same
    have hT2 := Evl.ex_t e2 hT1
    generalize upd H1 z (.tup ws) = H2 at *
    have e12 := e1.trans e2
    have hA2 := hA.mono (Tups.of (K := K) e12)
    have hB2 := hB.ex e12
    refine ⟨z, rfl, ⟨_, hz2⟩, fun D2 hD => ?_⟩
    have e3 := Ex.new (o := HO.lst []) hD
    have hd' : 1 + depths (sbs σ as) ≤ n := hd
    refine lc_it walk_tup (fun i H' => i ≤ ws.length ∧ Ex H2 H' ∧ ∃ us, H' D2 = some (.lst us) ∧ Reps K H' (sbs σ (as.take i)) us) ⟨Nat.zero_le _, e3, [], upd_same, Reps.nil⟩ (fun i H' _ ⟨_, k1, _⟩ => Evl.ex_t k1 hz2) ?_ ?_
    · rintro i x Hx H3 hi ⟨hi', k3, us, hU, hUs⟩ ⟨rfl, hx⟩
      obtain ⟨t, ht, hRt⟩ := hA2.get hx
      have tm := List.mem_of_getElem? ht
      have okt := oks_mem ho2.2.2.2 tm
      have dt := deps_sb_mem (σ := σ) tm
      have et : as.take (i + 1) = as.take i ++ [t] := by
        rw [List.take_add_one, ht]
        rfl
      cases n with
      | zero => omega
      | succ n =>
      refine ⟨rfl, yesI ⟨_, rfl, _, rfl, x, D, t, bd, σ, d, rfl, hRt.mono (.of k3), okt, vbs_mem hv' tm, hB2.ex k3, hb, by omega, fun u H4 k4 hu => ?_⟩⟩
      have hU4 := k4 _ _ hU
      have t5 := Tups.lst (K := K) (o := .lst (us ++ [u])) hU4
      have lu : us.length = i := by
        rw [← hUs.len, sbs_len, List.length_take]
        have : ws.length = as.length := hl.symm
        omega
      refine ⟨us, hU4, small5' (by have : i < ws.length := hi; omega), hi, fun b o e => ?_, us ++ [u], upd_same, ?_⟩
      · rw [upd_ne (ne_of_none e hD)]
        exact k4 _ _ (k3 _ _ e)
      · rw [et, sbs_app]
        exact Reps.app ((hUs.mono (.of k4)).mono t5) (Reps.one (hu.mono t5))
    · rintro H3 ⟨_, k3, us, hU, hUs⟩
      have full : as.take ws.length = as := by rw [← hl, List.take_length]
      rw [full] at hUs
      have lu := hUs.len
      rw [sbs_len] at lu
      refine ⟨D2, us, rfl, .inl ⟨.of hU, fun q2 hq2 => ?_⟩⟩
      have e4 := Ex.new (o := HO.tup us) hq2
      have hT4 := Evl.ex_t e4 (Evl.ex_t k3 hT2)
      refine ⟨tp, q2, [.str g], us, rfl, rfl, hT4, .of upd_same, by simp, small5 (by simp; omega), fun z => ?_, fun _ p hp => ?_⟩
      · rw [z, List.length_nil] at lu
        omega
      · have e5 := Ex.new (o := HO.tup ([V.str g] ++ us)) hp
        refine q (.ref p) _ (e12.trans (k3.trans (e4.trans e5))) ?_
        show Rep K _ (.comp g (sbs σ as)) _
        unfold Rep
        exact ⟨p, us, rfl, .of upd_same, (hUs.mono (.of e4)).mono (.of e5)⟩
theorem ok_law_whole (T : Tx K mg) : ∀ n : Nat, FnOk P w K mg base CX0 (n + 2) T.f_law_whole T.d_law_whole ["_law_term_here", "_law_bound"] (spWhole K n)
  | 0 => ⟨fun _ _ _ _ h => h.elim, fun _ _ _ _ _ _ _ _ _ _ _ _ _ h => h.elim⟩
  | n + 1 => whole_step T n (ok_law_whole T n)
theorem depths_mem : ∀ {ts : List Tm} {t : Tm}, t ∈ ts → depth t ≤ depths ts
  | u :: ts, t, h => by
    show _ ≤ max (depth u) (depths ts)
    rcases List.mem_cons.1 h with rfl | h
    · omega
    · have := depths_mem h
      omega
/-! ### how many parts -/
def spParts (K : PySem.W.Frag) : Nat → Sp
  | 0 => fun _ _ _ _ => False
  | n + 1 => fun vs H Q _ => ∃ v t, vs = [v] ∧ Rep K H t v ∧ Ok t ∧ depth t ≤ n ∧ ∀ H', Ex H H' → Q (.int (size t : Int)) H'
theorem parts_step (T : Tx K mg) (n : Nat) (ih : FnOk P w K mg base CX0 (n + 2) T.f_law_parts T.d_law_parts ["_law_term_here"] (spParts K n)) :
    FnOk P w K mg base CX0 (n + 2 + 1) T.f_law_parts T.d_law_parts ["_law_term_here"] (spParts K (n + 1)) := by
  refine T.h_law_parts.F.ok sc_law_parts (fun vs H Q E h => ?_) (fun cdv A outer s H vs Q E hr h => ?_)
  · obtain ⟨v, t, rfl, _⟩ := h
    rfl
  obtain ⟨v, t, rfl, hR, ho, hd, q⟩ := h
  have hu := hr.units
  have hu1 := Nat.lt_of_le_of_lt (Nat.add_le_add_left (show 1 ≤ 64 by decide) _) hr.units
  refine ⟨_, (pss_cons (ps_if (PW.pt (pw_or (pt_not (pt_val (pe_callB call_isi rfl T.b_isinstance (by decide +kernel) (pa_cons (pv 0) (pa_cons (pe_bltn (v := .ty "tuple") (u := .type "tuple") rfl T.b_tuple (by decide +kernel) rfl) pa_nil))))) (pw_or1 (pt_cmpR op_eq (pe_callB call_len_seq rfl T.b_len (by decide +kernel) (pa_cons (pv 0) pa_nil)) pe_int (nomark _)))))
      (pss_one (ps_ret pe_int))
      pss_nil)
    (pss_one (ps_ret (pe_op op_add pe_int (pe_callB (cr_sum rfl) rfl T.b_sum (by decide +kernel) (pa_cons (pe_lc (own := [("_law_part", 1)]) (g := gName 1) rfl sc_law_parts.nd (pi_tup (pe_slice sl_tup (pv 0) (po_some pe_int) po_none)) (blkOk_by (own := [("_law_part", 1)]) (N := ["_law_term_here", "_law_part"]) (sc := defScope s_law_parts) (by decide +kernel)) (fun _ _ _ _ _ => pg_name (i := 1) sc_law_parts.nd rfl (Or.inl rfl)) (fun _ _ _ _ _ => pts_nil) (fun _ _ _ _ _ => (cl ih T.h_law_parts hr (pa_cons (pv 1) pa_nil)))) pa_nil)))))), ?_⟩
  obtain ⟨tv, y1, y2⟩ := isi_tup hR
  refine ⟨_, rfl, _, _, tv, _, isTup t, rfl, .ty "tuple", y1, y2, isTup t, rfl, ?_⟩
  cases t with
  | atom a => exact iteT (iteT (q _ (Ex.refl _)))
  | int a => exact iteT (iteT (q _ (Ex.refl _)))
  | var j =>
    have hR2 := hR
    unfold Rep at hR2
    obtain ⟨a, rfl, hT⟩ := hR2
    refine iteF ⟨_, rfl, a, _, rfl, .inr hT, rfl, true, rfl, iteT ?_⟩
    exact q _ (Ex.refl _)
  | comp g as =>
    have hR2 := hR
    unfold Rep at hR2
    obtain ⟨a, ws, rfl, hT, hA⟩ := hR2
    have hl := hA.len
    have ho2 := ho
    unfold Ok at ho2
    refine iteF ⟨_, rfl, a, _, rfl, .inr hT, rfl, decide ((V.str g :: ws).length = 1), congrArg V.bl dec1, ?_⟩
    rw [decide_eq_false (by rw [List.length_cons]; omega)]
    refine iteF ?_
    refine ⟨_, rfl, _, rfl, a, _, rfl, hT, cut1_ne _ _, fun z hzn => ?_⟩
    rw [cut1]
    have e2 := Ex.new (o := HO.tup ws) hzn
    have hz2 : SqT K (upd H z (.tup ws)) z ws := .of upd_same
    generalize upd H z (.tup ws) = H2 at *
    have hA2 := hA.mono (Tups.of (K := K) e2)
    refine ⟨z, rfl, ⟨_, hz2⟩, fun D2 hD => ?_⟩
    have e3 := Ex.new (o := HO.lst []) hD
    have hd' : 1 + depths as ≤ n := hd
    refine lc_it walk_tup (fun i H' => i ≤ ws.length ∧ Ex H2 H' ∧ ∃ ns : List Int, H' D2 = some (.lst (ns.map V.int)) ∧ ns.length = i ∧ ns.sum = (sizes (as.take i) : Int)) ⟨Nat.zero_le _, e3, [], upd_same, rfl, rfl⟩ (fun i H' _ ⟨_, k1, _⟩ => Evl.ex_t k1 hz2) ?_ ?_
    · rintro i x Hx H3 hi ⟨hi', k3, ns, hU, lns, sns⟩ ⟨rfl, hx⟩
      obtain ⟨t, ht, hRt⟩ := hA2.get hx
      have tm := List.mem_of_getElem? ht
      have okt := oks_mem ho2.2.2.2 tm
      have dt := depths_mem tm
      have et : as.take (i + 1) = as.take i ++ [t] := by
        rw [List.take_add_one, ht]
        rfl
      cases n with
      | zero => omega
      | succ n =>
      refine ⟨rfl, yesI ⟨_, rfl, x, t, rfl, hRt.mono (.of k3), okt, by omega, fun H4 k4 => ?_⟩⟩
      have hU4 := k4 _ _ hU
      refine ⟨ns.map V.int, hU4, small5' (by rw [List.length_map]; have : i < ws.length := hi; omega), hi, fun b o e => ?_, ns ++ [(size t : Int)], by rw [upd_same, List.map_append]; rfl, by rw [List.length_append, lns]; rfl, ?_⟩
      · rw [upd_ne (ne_of_none e hD)]
        exact k4 _ _ (k3 _ _ e)
      · rw [et, sizes_app, sizes_one, List.sum_append, sns]
        simp
    · rintro H3 ⟨_, k3, ns, hU, lns, sns⟩
      have full : as.take ws.length = as := by rw [← hl, List.take_length]
      rw [full] at sns
      refine ⟨D2, ns, rfl, .of hU, _, _, rfl, rfl, ?_⟩
      have e : (size (.comp g as) : Int) = 1 + ns.sum := by
        rw [sns, size]
        simp
      rw [e] at q
      exact q _ (e2.trans k3)
theorem ok_law_parts (T : Tx K mg) : ∀ n : Nat, FnOk P w K mg base CX0 (n + 2) T.f_law_parts T.d_law_parts ["_law_term_here"] (spParts K n)
  | 0 => ⟨fun _ _ _ _ h => h.elim, fun _ _ _ _ _ _ _ _ _ _ _ _ _ h => h.elim⟩
  | n + 1 => parts_step T n (ok_law_parts T n)
end
end Hm

set_option Elab.async false
set_option linter.all false
set_option maxRecDepth 100000
set_option maxHeartbeats 2000000
namespace Hm
open PySem PySem.Spec PyProof.Rows L2 HT
open Evl (Ex)
theorem fol_at {M : Mem} {k : Nat} {b : Ad} {e : Ce} (f : Fol M k (.ref b) e) : ∃ y, M.at b = some y := by
  cases f with
  | stop n => exact absurd rfl (n b)
  | self h => exact ⟨_, h⟩
  | step h _ _ => exact ⟨_, h⟩
def Mem.add (M : Mem) (x : Ce) : Mem := { M with cs := M.cs ++ [x] }
theorem mx_add (M : Mem) (x : Ce) : Mx M (M.add x) := ⟨fun a y h => by
  cases a with
  | h n => exact get_app h
  | s n => exact h, [x], rfl⟩
theorem add_top (M : Mem) (x : Ce) : (M.add x).at (.h M.cs.length) = some x := by
  show (M.cs ++ [x])[M.cs.length]? = some x
  rw [List.getElem?_append_right (Nat.le_refl _), Nat.sub_self]
  rfl
theorem mx_fill {M : Mem} {n : Nat} (x : Ce) (h : M.sl n = none) : Mx M (M.fill n x) := ⟨fun a y e => by
  cases a with
  | h m => exact e
  | s m =>
    have e' : M.sl m = some y := e
    have ne : m ≠ n := fun z => by rw [z, h] at e'; cases e'
    show (if m = n then some x else M.sl m) = some y
    rw [if_neg ne]
    exact e', [], (List.append_nil _).symm⟩
structure Sz52 (M : Mem) : Prop where
  sz : M.sz ≤ 30 + M.cs.length
  sl : ∀ n y, M.sl n = some y → n < M.sz
  no : M.no = []
  mks : M.hm = 0 ∧ M.sm = 0
theorem Sz52.add {M : Mem} (h : Sz52 M) (x : Ce) : Sz52 (M.add x) := ⟨by
  have := h.sz
  show M.sz ≤ 30 + (M.cs ++ [x]).length
  rw [List.length_append]
  omega, h.sl, h.no, h.mks⟩
theorem Sz52.fill {M : Mem} (h : Sz52 M) {n : Nat} (hn : n + 1 ≤ 30 + M.cs.length) (x : Ce) : Sz52 (M.fill n x) := ⟨by
  have := h.sz
  show max M.sz (n + 1) ≤ 30 + M.cs.length
  omega, fun m y e => by
  have e' : (if m = n then some x else M.sl m) = some y := e
  show m < max M.sz (n + 1)
  by_cases c : m = n
  · omega
  · rw [if_neg c] at e'
    have := h.sl m y e'
    omega, h.no, h.mks⟩
section
variable {P : Program} {w : World} {K : PySem.W.Frag} {mg : Str → Option Value} {base : Heap}
/-- all but the store and the well stays -/
def Kc (a S c d nt : Addr) (H H' : Hp) : Prop := ∀ b o, b ≠ a → b ≠ S → b ≠ c → b ≠ d → b ≠ nt → H b = some o → H' b = some o
theorem Kc.of {a S c d nt : Addr} {H H' : Hp} (e : Ex H H') : Kc a S c d nt H H' := fun b o _ _ _ _ _ h => e b o h
theorem Kc.ks {a S c d nt : Addr} {H H' : Hp} (k : Ks S c d nt H H') : Kc a S c d nt H H' := fun b o _ n1 n2 n3 n4 h => k b o n1 n2 n3 n4 h
theorem Kc.dr {a S c d nt : Addr} {b : Nat} {H H' : Hp} (k : Dr b a H H') : Kc a S c d nt H H' := fun b o n _ _ _ _ h => k.keep b o n h
theorem Kc.trans {a S c d nt : Addr} {H H1 H2 : Hp} (p : Kc a S c d nt H H1) (q : Kc a S c d nt H1 H2) : Kc a S c d nt H H2 := fun x o n0 n1 n2 n3 n4 h => q x o n0 n1 n2 n3 n4 (p x o n0 n1 n2 n3 n4 h)
theorem Sto.mv {C S c d nt : Addr} {H H' : Hp} {m : Mem} (h : Sto K C H S c d nt m) (t : Tups K H H') (k1 : ∀ o, H S = some o → H' S = some o) (k2 : ∀ o, H c = some o → H' c = some o) (k3 : ∀ o, H d = some o → H' d = some o) (k4 : ∀ o, H nt = some o → H' nt = some o) : Sto K C H' S c d nt m := by
  obtain ⟨⟨dx0, h1⟩, ⟨vs, h2, g2⟩, ⟨kvs, h3, g3, l3⟩, ⟨us, h4, g4⟩, h5, h6, h7⟩ := h
  exact ⟨⟨dx0, k1 _ h1⟩, ⟨vs, k2 _ h2, g2.tups t⟩, ⟨kvs, k3 _ h3, fun n => ⟨(g3 n).1, fun x hx => by
    obtain ⟨v, e1, e2, e3⟩ := (g3 n).2 x hx
    exact ⟨v, e1, e2.tups t, e3⟩⟩, l3⟩, ⟨us, k4 _ h4, g4.tups t⟩, h5, h6, h7⟩
theorem sto_dr {C a S c d nt : Addr} {b b' : Nat} {H H' : Hp} {M : Mem} (h : Sto K C H S c d nt M) (w : Well b' H a) (k : Dr b a H H') (n : a ≠ S ∧ a ≠ c ∧ a ≠ d ∧ a ≠ nt) : Sto K C H' S c d nt M := h.mv (Dr.tups w k) (fun o => k.keep _ o n.1.symm) (fun o => k.keep _ o n.2.1.symm) (fun o => k.keep _ o n.2.2.1.symm) (fun o => k.keep _ o n.2.2.2.symm)
theorem well_ks {a S c d nt : Addr} {b : Nat} {H H' : Hp} (w : Well b H a) (k : Ks S c d nt H H') (n : a ≠ S ∧ a ≠ c ∧ a ≠ d ∧ a ≠ nt) : Well b H' a := by
  obtain ⟨x, y, z, w1, w2, w3⟩ := w
  exact ⟨x, y, z, k _ _ n.1 n.2.1 n.2.2.1 n.2.2.2 w1, w2, w3⟩
def spChain (K : PySem.W.Frag) (C : Addr) : Sp := fun vs H Q _ => ∃ a S c d nt M u x k e b, vs = [.ref a, .ref S, u] ∧ Well (b + 10) H a ∧ Sto K C H S c d nt M ∧ (a ≠ S ∧ a ≠ c ∧ a ≠ d ∧ a ≠ nt) ∧ CAt K H u x ∧ CeOk x ∧ Fol M k x e ∧ Sz52 M ∧ M.cs.length ≤ 1000 ∧
  ∀ u' H' M' x' k', Kc a S c d nt H H' → Well b H' a → Tups K H H' → Sto K C H' S c d nt M' → Mx M M' → Sz52 M' → CAt K H' u' x' → CeOk x' → Fol M' k' x' e → M'.cs.length ≤ M.cs.length + 4 → Q u' H'
theorem ok_law_chain (T : Tx K mg) : FnOk P w K mg base CX0 11 T.f_law_chain T.d_law_chain ["_law_well_here", "_law_store", "_law_cell"] (spChain K T.C) := by
  refine T.h_law_chain.F.ok sc_law_chain (fun vs H Q E h => ?_) (fun cdv A outer s H vs Q E hr h => ?_)
  · obtain ⟨a, S, c, d, nt, M, u, x, k, e, b, rfl, _⟩ := h
    rfl
  obtain ⟨a, S, c, d, nt, M, u, x, k, e, b, rfl, hW, hM, ne, hu, ox, hf, zs, hl, q⟩ := h
  refine ⟨_, (pss_cons (ps_for PassesOwn.never rfl (pi_range1 rfl T.b_range (pa_cons (cl (ok_law_draw T) T.h_law_draw hr (pa_cons (pv 0) (pa_cons pe_int pa_nil))) pa_nil)) (pg_name (i := 3) sc_law_chain.nd rfl (Or.inl rfl))
      (pss_one (ps_if (pt_cmpR op_eq (cl (ok_law_draw T) T.h_law_draw hr (pa_cons (pv 0) (pa_cons pe_int pa_nil))) pe_int (nomark _))
      (pss_one (ps_set (i := 2) sc_law_chain.nd rfl (Or.inl rfl) (pe_tup (pa_cons pe_str (pa_cons (pe_meth (pv 1) T.cl T.h_St_put.m (ok_St_put T) (hr.mono (by first | decide | omega)) T.h_St_put.b .nil pass0 (pa_cons (pv 2) pa_nil)) pa_nil)))))
      (pss_cons (ps_set (i := 4) sc_law_chain.nd rfl (Or.inl rfl) (pe_op op_add pe_int (pe_meth0 (pv 1) T.cl T.h_St_size.m (ok_St_size T) (hr.mono (by first | decide | omega)) T.h_St_size.b .nil pass0)))
    (pss_cons (ps_expr (pe_meth (pv 1) T.cl T.h_St_put.m (ok_St_put T) (hr.mono (by first | decide | omega)) T.h_St_put.b .nil pass0 (pa_cons (pe_tup (pa_cons pe_str pa_nil)) pa_nil)))
    (pss_cons (ps_expr (pe_meth (pv 1) T.cl T.h_St_fill.m (ok_St_fill T) (hr.mono (by first | decide | omega)) T.h_St_fill.b .nil pass0 (pa_cons (pv 4) (pa_cons (pv 2) pa_nil))))
    (pss_one (ps_set (i := 2) sc_law_chain.nd rfl (Or.inl rfl) (pe_tup (pa_cons pe_str (pa_cons (pe_tup (pa_cons pe_str (pa_cons (pv 4) pa_nil))) pa_nil)))))))))))
    (pss_one (ps_ret (pv 2)))), ?_⟩
  refine ⟨_, rfl, a, 5, b + 9, rfl, hW, by decide, by decide, fun dr H1 r0 r1 d1 => ?_⟩
  have hM1 := sto_dr hM hW d1 ne
  have t1 := Dr.tups (K := K) hW d1
  refine ⟨dr, rfl, by omega, by omega, for_it walk_range (fun i σ' H' => i ≤ 4 ∧ ∃ M' u' x' k' x3 x4, σ' = [some (.ref a), some (.ref S), some u', x3, x4] ∧ Kc a S c d nt H H' ∧ Well (b + 9 - i) H' a ∧ Tups K H H' ∧ Sto K T.C H' S c d nt M' ∧ Mx M M' ∧ Sz52 M' ∧ CAt K H' u' x' ∧ CeOk x' ∧ Fol M' k' x' e ∧ M'.cs.length ≤ M.cs.length + i)
    ⟨Nat.zero_le _, M, u, x, k, _, _, rfl, .dr d1, d1.well, t1, hM1, .refl M, zs, hu.tups t1, ox, hf, Nat.le_refl _⟩ (fun _ _ _ _ _ => trivial) ?_ ?_⟩
  · rintro i y σ' Hx H2 hi ⟨hi4, M', u', x', k', x3, x4, rfl, kc, hW2, t2, hM2, mx, zs2, hu2, ox2, hf2, hl2⟩ ⟨rfl, _⟩
    have hi' : i < 4 := by
      have : i < dr.toNat := hi
      omega
    refine ⟨_, rfl, a, 2, b + 9 - (i + 1), rfl, hW2.le (by omega), by decide, by decide, fun dv H3 v0 v1 d3 => ?_⟩
    have hM3 := sto_dr hM2 hW2 d3 ne
    have t3 := Dr.tups (K := K) hW2 d3
    have hu3 := hu2.tups t3
    have kc3 : Kc a S c d nt H H3 := kc.trans (.dr d3)
    have t03 := t2.trans t3
    have hW3 := d3.well
    clear hM2 hW2 t2 t3 hu2 kc d3
    refine ⟨rfl, decide (V.int dv = V.int 0), rfl, ?_⟩
    obtain ⟨dx3, hS3⟩ := hM3.ins
    cases hdv : decide (V.int dv = V.int 0) with
    | true =>
      refine iteT ⟨_, rfl, S, dx3, _, rfl, hS3, rfl, _, rfl, S, c, d, nt, M', u', x', rfl, hM3, hu3, ox2, by omega, fun v4 H4 k4 a4 s4 => ⟨Nat.le_of_ble_eq_true rfl, fun p5 hp5 => ?_⟩⟩
      have t4 := hM3.tups k4
      have e5 := Ex.new (o := HO.tup [V.str "ref", v4]) hp5
      have s4' : Sto K T.C H4 S c d nt (M'.add x') := s4
      have g5 : CAt K (upd H4 p5 (.tup [V.str "ref", v4])) (.ref p5) (.ref (.h M'.cs.length)) := ⟨p5, v4, rfl, .of upd_same, a4.tups (.of e5)⟩
      have nx : x' ≠ .ref (.h M'.cs.length) := fun z => by
        rw [z] at hf2
        obtain ⟨y, hy⟩ := fol_at hf2
        have := (List.getElem?_eq_some_iff.1 (show M'.cs[M'.cs.length]? = some y from hy)).1
        omega
      refine ⟨by omega, M'.add x', _, _, _, _, _, rfl, kc3.trans ((Kc.ks k4).trans (.of e5)), (Dr.ex (well_ks (hW3.le (by omega)) k4 ne) e5).well, t03.trans (t4.trans (.of e5)), s4'.ex e5, mx.trans (mx_add M' x'), zs2.add x', g5, trivial, .step (add_top M' x') nx ((mx_add M' x').fol hf2), ?_⟩
      show (M'.cs ++ [x']).length ≤ _
      rw [List.length_append, List.length_singleton]
      omega
    | false =>
      refine iteF ⟨_, rfl, S, dx3, _, rfl, hS3, rfl, S, c, d, nt, M', rfl, hM3, _, _, rfl, rfl, ?_⟩
      refine ⟨_, rfl, S, dx3, _, rfl, hS3, rfl, Nat.le_of_ble_eq_true rfl, fun p4 hp4 => ?_⟩
      have e4 := Ex.new (o := HO.tup [V.str "none"]) hp4
      have g4 : CAt K (upd H3 p4 (.tup [V.str "none"])) (.ref p4) .non := ⟨p4, rfl, .of upd_same⟩
      generalize upd H3 p4 (.tup [V.str "none"]) = H4 at *
      have hM4 := hM3.ex e4
      refine ⟨S, c, d, nt, M', .ref p4, .non, rfl, hM4, g4, trivial, by omega, fun v5 H5 k5 a5 s5 => ?_⟩
      have s5' : Sto K T.C H5 S c d nt (M'.add .non) := s5
      have t5 := hM4.tups k5
      have hu5 := (hu3.tups (.of e4)).tups t5
      obtain ⟨dx5, hS5⟩ := s5'.ins
      have ep : (30 : Int) + (M'.cs.length : Int) = ((30 + M'.cs.length : Nat) : Int) := by omega
      have la : (M'.add .non).cs.length = M'.cs.length + 1 := by
        show (M'.cs ++ [Ce.non]).length = _
        rw [List.length_append, List.length_singleton]
      have zp := zs2.sz
      have slN : (M'.add .non).sl (30 + M'.cs.length) = none := by
        cases e : M'.sl (30 + M'.cs.length) with
        | none => exact e
        | some y =>
          have := zs2.sl _ y e
          omega
      refine ⟨_, rfl, S, dx5, _, rfl, hS5, rfl, _, rfl, _, rfl, S, c, d, nt, M'.add .non, 30 + M'.cs.length, u', x', ?_, s5', hu5, ox2, .inr zp, by omega, fun r6 H6 k6 s6 => ?_⟩
      · show [V.ref S, V.int ((30 : Int) + (M'.cs.length : Int)), u'] = _
        rw [ep]
      have t6 := s5'.tups k6
      refine ⟨_, rfl, Nat.le_of_ble_eq_true rfl, fun p7 hp7 => ⟨Nat.le_of_ble_eq_true rfl, fun p8 hp8 => ?_⟩⟩
      dsimp only at hp8 ⊢
      rw [ep] at hp8 ⊢
      have e7 := Ex.new (o := HO.tup [V.str "s", V.int ((30 + M'.cs.length : Nat) : Int)]) hp7
      have g7 : AdAt K (upd H6 p7 (.tup [V.str "s", V.int ((30 + M'.cs.length : Nat) : Int)])) (.ref p7) (.s (30 + M'.cs.length)) := ⟨p7, rfl, .of upd_same⟩
      generalize upd H6 p7 (.tup [V.str "s", V.int ((30 + M'.cs.length : Nat) : Int)]) = H7 at *
      have e8 := Ex.new (o := HO.tup [V.str "ref", V.ref p7]) hp8
      have g8 : CAt K (upd H7 p8 (.tup [V.str "ref", V.ref p7])) (.ref p8) (.ref (.s (30 + M'.cs.length))) := ⟨p8, .ref p7, rfl, .of upd_same, g7.tups (.of e8)⟩
      have e78 := e7.trans e8
      have nx : x' ≠ .ref (.s (30 + M'.cs.length)) := fun z => by
        rw [z] at hf2
        obtain ⟨y, hy⟩ := fol_at hf2
        have hy' : M'.sl (30 + M'.cs.length) = some y := hy
        have h2 : M'.sl (30 + M'.cs.length) = none := slN
        rw [h2] at hy'
        cases hy'
      have mx2 : Mx M' ((M'.add .non).fill (30 + M'.cs.length) x') := (mx_add M' .non).trans (mx_fill x' slN)
      have top : ((M'.add .non).fill (30 + M'.cs.length) x').at (.s (30 + M'.cs.length)) = some x' := if_pos rfl
      refine ⟨by omega, (M'.add .non).fill (30 + M'.cs.length) x', _, _, _, _, _, rfl, kc3.trans ((Kc.of e4).trans ((Kc.ks k5).trans ((Kc.ks k6).trans (.of e78)))), (Dr.ex (well_ks (well_ks ((Dr.ex hW3 e4).well.le (by omega)) k5 ne) k6 ne) e78).well, t03.trans ((Tups.of e4).trans (t5.trans (t6.trans (.of e78)))), s6.ex e78, mx.trans mx2, (zs2.add .non).fill (by rw [la]; omega) x', g8, trivial, .step top nx (mx2.fol hf2), ?_⟩
      show (M'.add .non).cs.length ≤ _
      rw [la]
      omega
  rintro σ' H2 ⟨_, M', u', x', k', x3, x4, rfl, kc, hW2, t2, hM2, mx, zs2, hu2, ox2, hf2, hl2⟩
  have : dr.toNat ≤ 4 := by omega
  exact ⟨_, rfl, q u' H2 M' x' k' kc (hW2.le (by omega)) t2 hM2 mx zs2 hu2 ox2 hf2 (by omega)⟩
end
end Hm

set_option Elab.async false
set_option linter.all false
set_option maxRecDepth 100000
set_option maxHeartbeats 1000000
namespace Hm
open PySem PySem.Spec PyProof.Rows L2 HT
open Evl (Ex)
/-! ### build, all names known -/
def nm4 : Int → Option Ce := fun k => if 0 ≤ k ∧ k < 4 then some (.ref (adh k)) else none
theorem nm4_some {k : Int} (h0 : 0 ≤ k) (h4 : k < 4) : nm4 k = some (.ref (adh k)) := if_pos ⟨h0, h4⟩
theorem nm4_nma : NmA nm4 adh := fun k c e => by
  unfold nm4 at e
  split at e
  · exact (Option.some.inj e).symm
  · cases e
def Nd (nm : Int → Option Ce) : Prop := ∀ k, 0 ≤ k → k < 4 → nm k ≠ none
theorem wArg_same {b : BS} (h : Nd b.nm) {t : Tm} (hv : Vb 4 t) : (wArg b t).nm = b.nm ∧ (wArg b t).n = b.n := by
  cases t with
  | comp f as => exact ⟨rfl, rfl⟩
  | atom a => exact ⟨rfl, rfl⟩
  | int a => exact ⟨rfl, rfl⟩
  | var k =>
    unfold Vb at hv
    show (wVar b k).nm = b.nm ∧ (wVar b k).n = b.n
    rcases wVar_is b k with ⟨c, _, e⟩ | ⟨hc, _⟩
    · rw [e]
      exact ⟨rfl, rfl⟩
    · exact absurd hc (h k hv.1 hv.2)
theorem fold_same : ∀ (as : List Tm) (b : BS), Nd b.nm → Vbs 4 as → (as.foldl wArg b).nm = b.nm ∧ (as.foldl wArg b).n = b.n
  | [], _, _, _ => ⟨rfl, rfl⟩
  | t :: as, b, h, hv => by
    rw [vbs_cons] at hv
    obtain ⟨e1, e2⟩ := wArg_same h hv.1
    obtain ⟨g1, g2⟩ := fold_same as (wArg b t) (by rw [e1]; exact h) hv.2
    exact ⟨g1.trans e1, g2.trans e2⟩
theorem Wr.same {m i : Nat} {b b' : BS} (h : Wr m i b b') : Nd b.nm → (∀ t ∈ b.wt, Vb 4 t) → b'.nm = b.nm ∧ b'.n = b.n := by
  induction h with
  | done _ => exact fun _ _ => ⟨rfl, rfl⟩
  | @step m i b b' t hg _ ih =>
    intro hn hv
    have vt := hv t (List.mem_of_getElem? hg)
    cases t with
    | var _ => exact ih hn hv
    | atom _ => exact ih hn hv
    | int _ => exact ih hn hv
    | comp f as =>
      unfold Vb at vt
      obtain ⟨e1, e2⟩ := fold_same as { b with cs := b.cs ++ [.fn f as.length] } hn vt
      have e1' : (wComp b (.comp f as)).nm = b.nm := e1
      have e2' : (wComp b (.comp f as)).n = b.n := e2
      obtain ⟨g1, g2⟩ := ih (by rw [e1']; exact hn) (fun u hu => by
        rw [wComp_wt] at hu
        rcases List.mem_append.1 hu with hu | hu
        · exact hv u hu
        · exact vbs_mem vt (List.mem_filter.1 hu).1)
      exact ⟨g1.trans e1', g2.trans e2'⟩
theorem bt_same {cs : List Ce} {nm : Int → Option Ce} {n : Nat} {t : Tm} {x : Ce} {cs' : List Ce} {nm' : Int → Option Ce} {n' : Nat} (h : Bt cs nm n t x cs' nm' n') (hn : Nd nm) (hv : Vb 4 t) : nm' = nm ∧ n' = n := by
  cases t with
  | atom a =>
    obtain ⟨_, _, rfl, rfl⟩ := h
    exact ⟨rfl, rfl⟩
  | int a =>
    obtain ⟨_, _, rfl, rfl⟩ := h
    exact ⟨rfl, rfl⟩
  | var k =>
    unfold Vb at hv
    rcases h with ⟨c, hc, _, _, rfl, rfl⟩ | ⟨hc, _⟩
    · exact ⟨rfl, rfl⟩
    · exact absurd hc (hn k hv.1 hv.2)
  | comp f as =>
    obtain ⟨_, m, b', hw, _, rfl, rfl, _⟩ := h
    exact hw.same hn (fun u hu => by
      cases List.mem_singleton.1 hu
      exact hv)
theorem bt_ex0 {cs : List Ce} {nm : Int → Option Ce} {n : Nat} {t : Tm} (hs : nc t ≤ 100000) : ∃ x cs' nm' n', Bt cs nm n t x cs' nm' n' ∧ cs'.length ≤ cs.length + csz t + 1 ∧ n' ≤ n + csz t + 1 := by
  cases t with
  | atom a => exact ⟨_, _, _, _, ⟨rfl, rfl, rfl, rfl⟩, by omega, by omega⟩
  | int a => exact ⟨_, _, _, _, ⟨rfl, rfl, rfl, rfl⟩, by omega, by omega⟩
  | var k =>
    cases q : nm k with
    | some c => exact ⟨_, _, _, _, .inl ⟨_, q, rfl, rfl, rfl, rfl⟩, by omega, by omega⟩
    | none => exact ⟨_, _, _, _, .inr ⟨q, rfl, rfl, rfl, rfl⟩, by rw [List.length_append, List.length_singleton]; omega, by omega⟩
  | comp f as =>
    obtain ⟨m, b', hw, h1, h2, h3⟩ := wr_ex (ncs [.comp f as]) 0 ⟨cs, nm, n, cs.length + (as.length + 1), [.comp f as]⟩ (Nat.zero_le _) (Nat.le_refl _) (fun t ht => by
      cases List.mem_singleton.1 ht
      rfl)
    rw [List.drop_zero, cszs_one] at h1
    rw [List.drop_zero, ncs_one] at h2
    dsimp only at h1 h3
    exact ⟨_, _, _, _, ⟨rfl, m, b', hw, rfl, rfl, rfl, by omega⟩, by omega, by omega⟩
theorem built52 {cs : List Ce} {t : Tm} (hs : nc t ≤ 100000) (hv : Vb 4 t) : ∃ x cs', Bt cs nm4 4 t x cs' nm4 4 ∧ cs'.length ≤ cs.length + csz t + 1 ∧ (∃ ext, cs' = cs ++ ext) ∧ RawC cs' adh t x ∧ (∀ f j, x ≠ .fn f j) ∧ (isV t = false → ∀ b, x ≠ .ref b) := by
  obtain ⟨x, cs', nm', n', hB, h1, _⟩ := bt_ex0 (cs := cs) (nm := nm4) (n := 4) hs
  obtain ⟨rfl, rfl⟩ := bt_same hB (fun k h0 h4 => by rw [nm4_some h0 h4]; simp) hv
  obtain ⟨g1, _, g3⟩ := bt_raw hB nm4_nma
  refine ⟨x, cs', hB, h1, g3, g1, ?_, ?_⟩
  · cases t with
    | var k => unfold RawC at g1; rw [g1]; exact fun f j z => by cases z
    | atom k => unfold RawC at g1; rw [g1]; exact fun f j z => by cases z
    | int k => unfold RawC at g1; rw [g1]; exact fun f j z => by cases z
    | comp f as =>
      unfold RawC at g1
      obtain ⟨n, rfl, _⟩ := g1
      exact fun f j z => by cases z
  · intro nv
    cases t with
    | var k => cases nv
    | atom k => unfold RawC at g1; rw [g1]; exact fun b z => by cases z
    | int k => unfold RawC at g1; rw [g1]; exact fun b z => by cases z
    | comp f as =>
      unfold RawC at g1
      obtain ⟨n, rfl, _⟩ := g1
      exact fun b z => by cases z
theorem mx_wc {M : Mem} {cs' : List Ce} (h : ∃ ext, cs' = M.cs ++ ext) : Mx M (M.wc cs') := by
  obtain ⟨ext, rfl⟩ := h
  exact ⟨fun a y e => at_app (cs := M.cs) e, ext, rfl⟩
theorem Sz52.wc {M : Mem} (z : Sz52 M) {cs' : List Ce} (h : ∃ ext, cs' = M.cs ++ ext) : Sz52 (M.wc cs') := by
  obtain ⟨ext, rfl⟩ := h
  refine ⟨?_, z.sl, z.no, z.mks⟩
  have := z.sz
  show M.sz ≤ 30 + (M.cs ++ ext).length
  rw [List.length_append]
  omega
/-! ### while some are bound -/
def dq : Nat → Nat
  | 0 => 1
  | i + 1 => 2 * dq i + 1
theorem dq_pos (i : Nat) : 1 ≤ dq i := by
  cases i with
  | zero => exact Nat.le_refl _
  | succ i => unfold dq; omega
structure B5 (i : Nat) (M : Mem) (bd : Int → Option Tm) (σ : Int → Tm) : Prop where
  v4 : V4 M bd
  b : Bd bd σ (dq i)
  z : Sz52 M
  len : M.cs.length ≤ 4 + 60 * i
  hi : ∀ j : Int, (i : Int) ≤ j → bd j = none
theorem B5.skip {i : Nat} {M : Mem} {bd : Int → Option Tm} {σ : Int → Tm} (h : B5 i M bd σ) : B5 (i + 1) M bd σ := by
  refine ⟨h.v4, ⟨h.b.fr, h.b.bn, fun k => ?_, h.b.ok, h.b.vb⟩, h.z, by have := h.len; omega, fun j hj => h.hi j (by omega)⟩
  have := h.b.dp k
  show _ ≤ 2 * dq i + 1
  omega
theorem bind_put {M : Mem} (z : M.hm = 0) (n : Nat) (x : Ce) : M.bind (.h n) x = M.put (.h n) x := by
  unfold Mem.bind
  have e : M.low (.h n) = false := by
    show decide (n < M.hm) = false
    exact decide_eq_false (by omega)
  rw [e]
  rfl
theorem B5.bind {i : Nat} {M : Mem} {bd : Int → Option Tm} {σ : Int → Tm} (h : B5 i M bd σ) (hi : i < 4) {t : Tm} (nv : isV t = false) (ot : Ok t) (vt : Vb 4 t) (dt : depth t ≤ 3) (ct : csz t ≤ 52) (no : hs (i : Int) (sb σ t) = false) {x : Ce} {cs' : List Ce} (hl : cs'.length ≤ M.cs.length + csz t + 1) (hx : ∃ ext, cs' = M.cs ++ ext) (hr : RawC cs' adh t x) (nf : ∀ f j, x ≠ .fn f j) (nr : ∀ b, x ≠ .ref b) :
    ∃ σ', B5 (i + 1) ((M.wc cs').bind (adh (i : Int)) x) (fun j => if j = (i : Int) then some t else bd j) σ' := by
  have hb := h.hi (i : Int) (Int.le_refl _)
  obtain ⟨σ', hσ⟩ := h.b.add (dq_pos i) hb (by omega) (by omega) nv ot vt dt no
  have v := (h.v4.grow (mx_wc hx)).put (k := (i : Int)) (t := t) (x := x) (by omega) (by omega) hb nr nf hr
  have z := h.z.wc hx
  have e : (M.wc cs').bind (adh (i : Int)) x = (M.wc cs').put (adh (i : Int)) x := bind_put z.mks.1 _ _
  rw [e]
  have cl : ((M.wc cs').put (adh (i : Int)) x).cs.length = cs'.length := by
    show (cs'.set _ x).length = _
    rw [List.length_set]
  refine ⟨σ', v, hσ, ⟨by rw [cl]; exact z.sz, z.sl, z.no, z.mks⟩, by rw [cl]; have := h.len; omega, fun j hj => ?_⟩
  show (if j = (i : Int) then some t else bd j) = none
  rw [if_neg (by omega)]
  exact h.hi j (by omega)
end Hm

set_option Elab.async false
set_option linter.all false
set_option maxRecDepth 100000
set_option maxHeartbeats 1000000
namespace Hm
open PySem PySem.Spec PyProof.Rows L2 HT
open Evl (Ex)
theorem nd_ne {L : List Addr} (h : L.Nodup) {x y : Addr} (i j : Nat) (ij : i ≠ j) (hx : L[i]? = some x) (hy : L[j]? = some y) : x ≠ y := by
  intro z
  subst z
  exact ij ((List.getElem?_inj (List.getElem?_eq_some_iff.1 hx).1 h).1 (hx.trans hy.symm))
/-- all but these stays -/
def Kx (L : List Addr) (H H' : Hp) : Prop := ∀ b o, b ∉ L → H b = some o → H' b = some o
theorem Kx.old {L : List Addr} {H0 H H' : Hp} (k : Kx L H H') (e : Ex H0 H) (hL : ∀ x ∈ L, H0 x = none) : Ex H0 H' := fun b o h => k b o (fun z => by rw [hL b z] at h; cases h) (e b o h)
theorem Kx.of {L : List Addr} {H H' : Hp} (e : Ex H H') : Kx L H H' := fun b o _ h => e b o h
theorem Kx.trans {L : List Addr} {H H1 H2 : Hp} (a : Kx L H H1) (b : Kx L H1 H2) : Kx L H H2 := fun x o n h => b x o n (a x o n h)
section
variable {P : Program} {w : World} {K : PySem.W.Frag} {mg : Str → Option Value} {base : Heap}
theorem Kb.tups {C S c d nt D : Addr} {H H' : Hp} {M : Mem} {nm : Int → Option Ce} {n : Nat} (k : Kb S c d nt D H H') (s : Sto K C H S c d nt M) (h : NmAt K H D nm n) : Tups K H H' := by
  intro p ys z
  obtain ⟨dx', g1⟩ := s.ins
  obtain ⟨vs', g2, _⟩ := s.lst
  obtain ⟨kvs', g3, _⟩ := s.slo
  obtain ⟨us', g4, _⟩ := s.nol
  obtain ⟨kv5, g5, _⟩ := h
  have go : ∀ {o : HO}, H p = some o → (∀ x y z, o ≠ .ins x y z) → (∀ x, o ≠ .lst x) → (∀ x, o ≠ .dK x) → H' p = some o := fun e n1 n2 n3 =>
    k _ _ (fun z => by subst z; rw [g1] at e; exact n1 _ _ _ (Option.some.inj e).symm) (fun z => by subst z; rw [g2] at e; exact n2 _ (Option.some.inj e).symm)
      (fun z => by subst z; rw [g3] at e; exact n3 _ (Option.some.inj e).symm) (fun z => by subst z; rw [g4] at e; exact n2 _ (Option.some.inj e).symm) (fun z => by subst z; rw [g5] at e; exact n3 _ (Option.some.inj e).symm) e
  rcases z with (z | ⟨o, z⟩) | z
  · exact .inl (.inl (go z (fun _ _ _ w => by cases w) (fun _ w => by cases w) (fun _ w => by cases w)))
  · exact .inl (.inr ⟨o, go z (fun _ _ _ w => by cases w) (fun _ w => by cases w) (fun _ w => by cases w)⟩)
  · exact .inr z
structure L5 (K : PySem.W.Frag) (C : Addr) (H : Hp) (a S c d nt Dn Db : Addr) (b : Nat) (M : Mem) (bd : Int → Option Tm) : Prop where
  well : Well b H a
  sto : Sto K C H S c d nt M
  nam : NmAt K H Dn nm4 4
  bnd : BdAt K H Db bd
  nd : [Dn, Db, a, S, c, d, nt].Nodup
variable {C a S c d nt Dn Db : Addr} {H H' : Hp} {b b' : Nat} {M M' : Mem} {bd bd' : Int → Option Tm}
theorem L5.le (h : L5 K C H a S c d nt Dn Db b M bd) (e : b' ≤ b) : L5 K C H a S c d nt Dn Db b' M bd := ⟨h.well.le e, h.sto, h.nam, h.bnd, h.nd⟩
theorem L5.ex (h : L5 K C H a S c d nt Dn Db b M bd) (e : Ex H H') : L5 K C H' a S c d nt Dn Db b M bd := ⟨(Dr.ex h.well e).well, h.sto.ex e, h.nam.keep (.of e) (fun o => e _ o), h.bnd.ex e, h.nd⟩
theorem L5.dr (h : L5 K C H a S c d nt Dn Db b' M bd) (e : Dr b a H H') : L5 K C H' a S c d nt Dn Db b M bd ∧ Tups K H H' ∧ Kx [Dn, Db, a, S, c, d, nt] H H' := by
  have t := Dr.tups (K := K) h.well e
  have N := @nd_ne _ h.nd
  exact ⟨⟨e.well, sto_dr h.sto h.well e ⟨(N 2 3 (by decide) rfl rfl), (N 2 4 (by decide) rfl rfl), (N 2 5 (by decide) rfl rfl), (N 2 6 (by decide) rfl rfl)⟩, h.nam.keep t (fun o => e.keep _ o (N 0 2 (by decide) rfl rfl)), h.bnd.keep t (fun o => e.keep _ o (N 1 2 (by decide) rfl rfl)), h.nd⟩, t, fun x o n g => e.keep x o (fun z => n (by rw [z]; simp)) g⟩
theorem L5.ks (h : L5 K C H a S c d nt Dn Db b M bd) (k : Ks S c d nt H H') (s : Sto K C H' S c d nt M') : L5 K C H' a S c d nt Dn Db b M' bd ∧ Tups K H H' ∧ Kx [Dn, Db, a, S, c, d, nt] H H' := by
  have t := h.sto.tups k
  have N := @nd_ne _ h.nd
  exact ⟨⟨well_ks h.well k ⟨(N 2 3 (by decide) rfl rfl), (N 2 4 (by decide) rfl rfl), (N 2 5 (by decide) rfl rfl), (N 2 6 (by decide) rfl rfl)⟩, s, h.nam.keep t (fun o => k _ o (N 0 3 (by decide) rfl rfl) (N 0 4 (by decide) rfl rfl) (N 0 5 (by decide) rfl rfl) (N 0 6 (by decide) rfl rfl)), h.bnd.keep t (fun o => k _ o (N 1 3 (by decide) rfl rfl) (N 1 4 (by decide) rfl rfl) (N 1 5 (by decide) rfl rfl) (N 1 6 (by decide) rfl rfl)), h.nd⟩, t, fun x o n g => k x o (fun z => n (by rw [z]; simp)) (fun z => n (by rw [z]; simp)) (fun z => n (by rw [z]; simp)) (fun z => n (by rw [z]; simp)) g⟩
theorem L5.kb (h : L5 K C H a S c d nt Dn Db b M bd) (k : Kb S c d nt Dn H H') (s : Sto K C H' S c d nt M') (g : NmAt K H' Dn nm4 4) : L5 K C H' a S c d nt Dn Db b M' bd ∧ Tups K H H' ∧ Kx [Dn, Db, a, S, c, d, nt] H H' := by
  have t := k.tups h.sto h.nam
  have N := @nd_ne _ h.nd
  obtain ⟨x, y, z, w1, w2, w3⟩ := h.well
  exact ⟨⟨⟨x, y, z, k _ _ (N 2 3 (by decide) rfl rfl) (N 2 4 (by decide) rfl rfl) (N 2 5 (by decide) rfl rfl) (N 2 6 (by decide) rfl rfl) (N 2 0 (by decide) rfl rfl) w1, w2, w3⟩, s, g, h.bnd.keep t (fun o => k _ o (N 1 3 (by decide) rfl rfl) (N 1 4 (by decide) rfl rfl) (N 1 5 (by decide) rfl rfl) (N 1 6 (by decide) rfl rfl) (N 1 0 (by decide) rfl rfl)), h.nd⟩, t, fun x o n g => k x o (fun z => n (by rw [z]; simp)) (fun z => n (by rw [z]; simp)) (fun z => n (by rw [z]; simp)) (fun z => n (by rw [z]; simp)) (fun z => n (by rw [z]; simp)) g⟩
theorem L5.put (h : L5 K C H a S c d nt Dn Db b M bd) (k : ∀ x, x ≠ Db → H' x = H x) (t : Tups K H H') (g : BdAt K H' Db bd') : L5 K C H' a S c d nt Dn Db b M bd' ∧ Kx [Dn, Db, a, S, c, d, nt] H H' := by
  have N := @nd_ne _ h.nd
  obtain ⟨x, y, z, w1, w2, w3⟩ := h.well
  exact ⟨⟨⟨x, y, z, by rw [k _ (N 2 1 (by decide) rfl rfl)]; exact w1, w2, w3⟩, h.sto.mv t (fun o e => by rw [k _ (N 3 1 (by decide) rfl rfl)]; exact e) (fun o e => by rw [k _ (N 4 1 (by decide) rfl rfl)]; exact e) (fun o e => by rw [k _ (N 5 1 (by decide) rfl rfl)]; exact e) (fun o e => by rw [k _ (N 6 1 (by decide) rfl rfl)]; exact e), h.nam.keep t (fun o e => by rw [k _ (N 0 1 (by decide) rfl rfl)]; exact e), g, h.nd⟩, fun x o n e => by rw [k x (fun z => n (by rw [z]; simp))]; exact e⟩
end
end Hm

set_option Elab.async false
set_option linter.all false
set_option maxRecDepth 100000
set_option maxHeartbeats 2000000
namespace Hm
open PySem PySem.Spec PyProof.Rows L2 HT
open Evl (Ex)
section
variable {P : Program} {w : World} {K : PySem.W.Frag} {mg : Str → Option Value} {base : Heap}
theorem dq4 : dq 4 = 31 := rfl
theorem dq_le {i : Nat} (h : i ≤ 4) : dq i ≤ 31 := by
  have : i = 0 ∨ i = 1 ∨ i = 2 ∨ i = 3 ∨ i = 4 := by omega
  rcases this with rfl | rfl | rfl | rfl | rfl <;> decide
theorem isV_false {t : Tm} (h : ∀ k, t ≠ .var k) : isV t = false := by
  cases t with
  | var k => exact absurd rfl (h k)
  | atom _ => rfl
  | int _ => rfl
  | comp _ _ => rfl
def spBSome (K : PySem.W.Frag) (C : Addr) : Sp := fun vs H Q _ => ∃ a S c d nt Dn Db M b, vs = [.ref a, .ref S, .ref Dn, .ref Db] ∧ L5 K C H a S c d nt Dn Db (b + 8000) M (fun _ => none) ∧ B5 0 M (fun _ => none) .var ∧ H Db = some (.dK []) ∧
  ∀ r H' M' bd' σ', Kx [Dn, Db, a, S, c, d, nt] H H' → L5 K C H' a S c d nt Dn Db b M' bd' → B5 4 M' bd' σ' → Q r H'
theorem ok_law_bind_some (T : Tx K mg) : FnOk P w K mg base CX0 70 T.f_law_bind_some T.d_law_bind_some ["_law_well_here", "_law_store", "_law_names", "_law_bound"] (spBSome K T.C) := by
  refine T.h_law_bind_some.F.ok sc_law_bind_some (fun vs H Q E h => ?_) (fun cdv A outer s H vs Q E hr h => ?_)
  · obtain ⟨a, S, c, d, nt, Dn, Db, M, b, rfl, _⟩ := h
    rfl
  obtain ⟨a, S, c, d, nt, Dn, Db, M, b, rfl, hL, hB, hDb, q⟩ := h
  have hu := hr.units
  have hu1 := Nat.lt_of_le_of_lt (Nat.add_le_add_left (show 1 ≤ 64 by decide) _) hr.units
  refine ⟨_, (pss_one (ps_for PassesOwn.never rfl (pi_range1 rfl T.b_range (pa_cons pe_int pa_nil)) (pg_name (i := 4) sc_law_bind_some.nd rfl (Or.inl rfl))
      (pss_cons (ps_set (i := 5) sc_law_bind_some.nd rfl (Or.inl rfl) (cl (ok_law_term T 4) T.h_law_term hr (pa_cons (pv 0) (pa_cons pe_int (pa_cons pe_int pa_nil)))))
    (pss_one (ps_if (PW.pt (pw_and (pt_cmpR op_eq (cl (ok_law_draw T) T.h_law_draw hr (pa_cons (pv 0) (pa_cons pe_int pa_nil))) pe_int (nomark _)) (pw_and (pt_cmp (pc_dnotin hu1 (pv 4) (pv 3))) (pw_and1 (pt_not (pt_val (cl (ok_law_has T 60) T.h_law_has hr (pa_cons (pv 4) (pa_cons (pv 5) (pa_cons (pv 3) pa_nil))))))))))
      (pss_one (ps_if (PW.pt (pw_or (pt_not (pt_val (pe_callB call_isi rfl T.b_isinstance (by decide +kernel) (pa_cons (pv 5) (pa_cons (pe_bltn (v := .ty "tuple") (u := .type "tuple") rfl T.b_tuple (by decide +kernel) rfl) pa_nil))))) (pw_or1 (pt_cmpR op_gt (pe_callB call_len_seq rfl T.b_len (by decide +kernel) (pa_cons (pv 5) pa_nil)) pe_int (nomark _)))))
      (pss_cons (ps_expr (pe_meth (pv 1) T.cl T.h_St_bind.m (ok_St_bind T) (hr.mono (by first | decide | omega)) T.h_St_bind.b .nil pass0 (pa_cons (pe_ix ix_tup (pe_dget hu1 (pv 2) (pv 4) (fun _ _ => rfl)) pe_int (fun _ _ => rfl)) (pa_cons (pe_meth (pv 1) T.cl T.h_St_build.m (ok_St_build T) (hr.mono (by first | decide | omega)) T.h_St_build.b .nil pass0 (pa_cons (pv 5) (pa_cons (pv 2) pa_nil))) pa_nil))))
    (pss_one (ps_asg (pv 5) (pg_sub (pv 3) (pv 4) (set_dict hu1)))))
      pss_nil))
      pss_nil))))), ?_⟩
  refine ⟨4, rfl, by decide, by decide, for_it walk_range (fun i σ' H' => i ≤ 4 ∧ ∃ M' bd σ x4 x5, σ' = [some (.ref a), some (.ref S), some (.ref Dn), some (.ref Db), x4, x5] ∧ Kx [Dn, Db, a, S, c, d, nt] H H' ∧ L5 K T.C H' a S c d nt Dn Db (b + (4 - i) * 2000) M' bd ∧ B5 i M' bd σ ∧ ∀ kvs, H' Db = some (.dK kvs) → kvs.length ≤ i)
    ⟨Nat.zero_le _, M, _, _, _, _, rfl, .of (Ex.refl _), hL, hB, fun kvs e => by rw [hDb] at e; cases e; exact Nat.le_refl _⟩ (fun _ _ _ _ _ => trivial) ?_ ?_⟩
  · rintro i y σ' Hx H2 hi ⟨_, M', bd, σ, x4, x5, rfl, k2, L2, B2, l2⟩ ⟨rfl, hxi⟩
    have hxj : y = V.int (i : Int) := hxi.trans (by show V.int (0 + (i : Int)) = _; rw [Int.zero_add])
    subst hxj
    clear hxi
    have hi4 : i < 4 := hi
    have fF : Fd 2 = 236 := rfl
    have fS : Sz 2 = 13 := rfl
    have fC : Cz 2 = 16 := rfl
    have bb : (4 - i) * 2000 = (4 - (i + 1)) * 2000 + 2000 := by omega
    rw [bb] at L2
    refine ⟨_, rfl, a, 2, b + (4 - (i + 1)) * 2000 + 1000, 4, by decide, rfl, L2.well.le (by omega), by decide, fun v t H3 d3 rt gt => ?_⟩
    obtain ⟨L3, t3, kk3⟩ := L2.dr d3
    have k3 := k2.trans kk3
    have N := @nd_ne _ L3.nd
    have l3 : ∀ kvs, H3 Db = some (.dK kvs) → kvs.length ≤ i := fun kvs e => by
      obtain ⟨kv, z1, _⟩ := L2.bnd
      have z2 := d3.keep _ _ (N 1 2 (by decide) rfl rfl) z1
      rw [e] at z2
      cases z2
      exact l2 _ z1
    clear L2 kk3 k2 d3 t3 l2
    refine ⟨_, rfl, a, 2, b + (4 - (i + 1)) * 2000 + 100, rfl, L3.well.le (by omega), by decide, by decide, fun dv H4 v0 v1 d4 => ⟨rfl, decide (V.int dv = V.int 0), rfl, ?_⟩⟩
    obtain ⟨L4, t4, kk4⟩ := L3.dr d4
    have k4 := k3.trans kk4
    have rt4 := rt.mono t4
    have l4 : ∀ kvs, H4 Db = some (.dK kvs) → kvs.length ≤ i := fun kvs e => by
      obtain ⟨kv, z1, _⟩ := L3.bnd
      have z2 := d4.keep _ _ (N 1 2 (by decide) rfl rfl) z1
      rw [e] at z2
      cases z2
      exact l3 _ z1
    clear L3 kk4 k3 d4 t4 l3 rt
    have skip : ∀ {X : Hp}, Ex H4 X → (i + 1 ≤ 4 ∧ ∃ M' bd σ x4 x5, [some (.ref a), some (.ref S), some (.ref Dn), some (.ref Db), some (V.int (i : Int)), some v] = [some (.ref a), some (.ref S), some (.ref Dn), some (.ref Db), x4, x5] ∧ Kx [Dn, Db, a, S, c, d, nt] H X ∧ L5 K T.C X a S c d nt Dn Db (b + (4 - (i + 1)) * 2000) M' bd ∧ B5 (i + 1) M' bd σ ∧ ∀ kvs, X Db = some (.dK kvs) → kvs.length ≤ i + 1) := fun e => by
      refine ⟨by omega, M', bd, σ, _, _, rfl, k4.trans (.of e), (L4.ex e).le (by omega), B2.skip, fun kvs z => ?_⟩
      obtain ⟨kv, z1, _⟩ := L4.bnd
      have z2 := e _ _ z1
      rw [z] at z2
      cases z2
      have := l4 _ z1
      omega
    cases hdv : decide (V.int dv = V.int 0) with
    | false => exact iteF (iteF (skip (Ex.refl _)))
    | true =>
      refine iteT ?_
      obtain ⟨o, g1, g2⟩ := L4.bnd.has (i : Int)
      refine ⟨_, rfl, _, rfl, Db, o, rfl, g1, ?_⟩
      rw [g2, B2.hi (i : Int) (Int.le_refl _)]
      refine ⟨true, rfl, iteT ?_⟩
      have ds := dep_sb (dq_pos i) B2.b.dp t
      have dl := dq_le (show i ≤ 4 by omega)
      have gdp := gt.dep
      have gcz := gt.cz
      have gsz := gt.siz
      have gnc := nc_csz t
      have gcs := B2.len
      refine ⟨_, rfl, _, rfl, _, rfl, by decide, (i : Int), v, Db, t, bd, σ, dq i, rfl, rt4, gt.ok, gt.vb, L4.bnd, B2.b, (show depth (sb σ t) ≤ 59 by omega), fun H5 e5 => ⟨hs (i : Int) (sb σ t), rfl, ?_⟩⟩
      cases hq : hs (i : Int) (sb σ t) with
      | true => exact iteF (skip e5)
      | false =>
      refine iteT ?_
      have rt5 := rt4.mono (Tups.of (K := K) e5)
      have L5' := L4.ex e5
      have l5 : ∀ kvs, H5 Db = some (.dK kvs) → kvs.length ≤ i := fun kvs z => by
        obtain ⟨kv, z1, _⟩ := L4.bnd
        have z2 := e5 _ _ z1
        rw [z] at z2
        cases z2
        exact l4 _ z1
      have dis : (∃ k, t = .var k) ∨ isV t = false := by
        cases t with
        | var k => exact .inl ⟨k, rfl⟩
        | atom _ => exact .inr rfl
        | int _ => exact .inr rfl
        | comp _ _ => exact .inr rfl
      obtain ⟨tv, y1, y2⟩ := isi_tup rt5
      refine ⟨_, rfl, _, _, tv, _, isTup t, rfl, .ty "tuple", y1, y2, isTup t, rfl, ?_⟩
      rcases dis with ⟨j, rfl⟩ | nv
      · have hR2 := rt5
        unfold Rep at hR2
        obtain ⟨p, rfl, hT⟩ := hR2
        exact iteF ⟨_, rfl, p, _, rfl, .inr hT, _, _, rfl, rfl, false, rfl, iteF (skip e5)⟩
      have tst : isTup t = false ∨ ∃ p xs, v = .ref p ∧ SqT K H5 p xs ∧ 1 < xs.length ∧ isTup t = true := by
        cases t with
        | var k => cases nv
        | atom _ => exact .inl rfl
        | int _ => exact .inl rfl
        | comp f as =>
          have hR2 := rt5
          unfold Rep at hR2
          obtain ⟨p, ws, rfl, hT, hA⟩ := hR2
          have hl := hA.len
          have ok2 := gt.ok
          unfold Ok at ok2
          exact .inr ⟨p, _, rfl, hT, by rw [List.length_cons]; omega, rfl⟩
      rcases tst with e | ⟨p, xs, rfl, hp, hl, e⟩
      · rw [e]
        refine iteT (iteT ?_)
        obtain ⟨x, cs', hBt, hcl, hext, hraw, hnf, hnr⟩ := built52 (cs := M'.cs) (t := t) (by omega) gt.vb
        obtain ⟨dx5, hS5⟩ := L5'.sto.ins
        obtain ⟨nv5, gn5, cn5, on5⟩ := L5'.nam.get (k := (i : Int)) (x := .ref (adh (i : Int))) (nm4_some (by omega) (by omega))
        obtain ⟨pn, un, rfl, sn5, an5⟩ := cn5
        refine ⟨_, rfl, S, dx5, _, rfl, hS5, rfl, _, rfl, _, rfl, Dn, .ref pn, rfl, gn5, pn, _, 1, _, rfl, rfl, sn5, rfl, _, rfl, S, dx5, _, rfl, hS5, rfl, _, rfl, _, rfl, S, c, d, nt, M', _, Dn, t, nm4, 4, x, cs', nm4, 4, rfl, L5'.sto, rt5, gt.ok, by omega, L5'.nam, N 0 5 (by decide) rfl rfl, hBt, by omega, by omega, fun u6 H6 kb6 c6 o6 s6 n6 => ?_⟩
        obtain ⟨L6, t6, kk6⟩ := L5'.kb kb6 s6 n6
        have mxw := mx_wc (M := M') hext
        have vw := B2.v4.grow mxw
        have lw : M'.cs.length ≤ cs'.length := mxw.len
        have zw := B2.z.wc hext
        have l6 : ∀ kvs, H6 Db = some (.dK kvs) → kvs.length ≤ i := fun kvs z => by
          obtain ⟨kv, z1, _⟩ := L5'.bnd
          have z2 := kb6 _ _ (N 1 3 (by decide) rfl rfl) (N 1 4 (by decide) rfl rfl) (N 1 5 (by decide) rfl rfl) (N 1 6 (by decide) rfl rfl) (N 1 0 (by decide) rfl rfl) z1
          rw [z] at z2
          cases z2
          exact l5 _ z1
        refine ⟨S, c, d, nt, M'.wc cs', un, adh (i : Int), u6, x, rfl, L6.sto, an5.tups t6, ?_, vw.fr (i : Int) (by omega) (by omega) (B2.hi (i : Int) (Int.le_refl _)), c6, o6, by rw [zw.no]; decide, fun r7 H7 k7 s7 => ?_⟩
        · show (i : Int).toNat < cs'.length
          have := B2.v4.len
          omega
        obtain ⟨L7, t7, kk7⟩ := L6.ks k7 s7
        have l7 : ∀ kvs, H7 Db = some (.dK kvs) → kvs.length ≤ i := fun kvs z => by
          obtain ⟨kv, z1, _⟩ := L6.bnd
          have z2 := k7 _ _ (N 1 3 (by decide) rfl rfl) (N 1 4 (by decide) rfl rfl) (N 1 5 (by decide) rfl rfl) (N 1 6 (by decide) rfl rfl) z1
          rw [z] at z2
          cases z2
          exact l6 _ z1
        obtain ⟨H8, p8, f8, t8, b8, l8⟩ := L7.bnd.put (k := (i : Int)) l7 hi4 ((rt5.mono t6).mono t7)
        obtain ⟨L8, kk8⟩ := L7.put f8 t8 b8
        obtain ⟨σ', hB8⟩ := B2.bind hi4 nv gt.ok gt.vb gt.dep (by omega) hq hcl hext hraw hnf (hnr nv)
        refine ⟨_, rfl, _, rfl, _, rfl, Db, H8, rfl, p8, ?_⟩
        exact ⟨by omega, _, _, σ', _, _, rfl, k4.trans ((Kx.of e5).trans (kk6.trans (kk7.trans kk8))), L8.le (by omega), hB8, l8⟩
      · rw [e]
        refine iteF ⟨_, rfl, p, xs, rfl, .inr hp, _, _, rfl, rfl, true, ?_, iteT ?_⟩
        · show V.bl (decide ((1 : Int) < (xs.length : Int))) = V.bl true
          rw [decide_eq_true (by omega)]
        obtain ⟨x, cs', hBt, hcl, hext, hraw, hnf, hnr⟩ := built52 (cs := M'.cs) (t := t) (by omega) gt.vb
        obtain ⟨dx5, hS5⟩ := L5'.sto.ins
        obtain ⟨nv5, gn5, cn5, on5⟩ := L5'.nam.get (k := (i : Int)) (x := .ref (adh (i : Int))) (nm4_some (by omega) (by omega))
        obtain ⟨pn, un, rfl, sn5, an5⟩ := cn5
        refine ⟨_, rfl, S, dx5, _, rfl, hS5, rfl, _, rfl, _, rfl, Dn, .ref pn, rfl, gn5, pn, _, 1, _, rfl, rfl, sn5, rfl, _, rfl, S, dx5, _, rfl, hS5, rfl, _, rfl, _, rfl, S, c, d, nt, M', _, Dn, t, nm4, 4, x, cs', nm4, 4, rfl, L5'.sto, rt5, gt.ok, by omega, L5'.nam, N 0 5 (by decide) rfl rfl, hBt, by omega, by omega, fun u6 H6 kb6 c6 o6 s6 n6 => ?_⟩
        obtain ⟨L6, t6, kk6⟩ := L5'.kb kb6 s6 n6
        have mxw := mx_wc (M := M') hext
        have vw := B2.v4.grow mxw
        have lw : M'.cs.length ≤ cs'.length := mxw.len
        have zw := B2.z.wc hext
        have l6 : ∀ kvs, H6 Db = some (.dK kvs) → kvs.length ≤ i := fun kvs z => by
          obtain ⟨kv, z1, _⟩ := L5'.bnd
          have z2 := kb6 _ _ (N 1 3 (by decide) rfl rfl) (N 1 4 (by decide) rfl rfl) (N 1 5 (by decide) rfl rfl) (N 1 6 (by decide) rfl rfl) (N 1 0 (by decide) rfl rfl) z1
          rw [z] at z2
          cases z2
          exact l5 _ z1
        refine ⟨S, c, d, nt, M'.wc cs', un, adh (i : Int), u6, x, rfl, L6.sto, an5.tups t6, ?_, vw.fr (i : Int) (by omega) (by omega) (B2.hi (i : Int) (Int.le_refl _)), c6, o6, by rw [zw.no]; decide, fun r7 H7 k7 s7 => ?_⟩
        · show (i : Int).toNat < cs'.length
          have := B2.v4.len
          omega
        obtain ⟨L7, t7, kk7⟩ := L6.ks k7 s7
        have l7 : ∀ kvs, H7 Db = some (.dK kvs) → kvs.length ≤ i := fun kvs z => by
          obtain ⟨kv, z1, _⟩ := L6.bnd
          have z2 := k7 _ _ (N 1 3 (by decide) rfl rfl) (N 1 4 (by decide) rfl rfl) (N 1 5 (by decide) rfl rfl) (N 1 6 (by decide) rfl rfl) z1
          rw [z] at z2
          cases z2
          exact l6 _ z1
        obtain ⟨H8, p8, f8, t8, b8, l8⟩ := L7.bnd.put (k := (i : Int)) l7 hi4 ((rt5.mono t6).mono t7)
        obtain ⟨L8, kk8⟩ := L7.put f8 t8 b8
        obtain ⟨σ', hB8⟩ := B2.bind hi4 nv gt.ok gt.vb gt.dep (by omega) hq hcl hext hraw hnf (hnr nv)
        refine ⟨_, rfl, _, rfl, _, rfl, Db, H8, rfl, p8, ?_⟩
        exact ⟨by omega, _, _, σ', _, _, rfl, k4.trans ((Kx.of e5).trans (kk6.trans (kk7.trans kk8))), L8.le (by omega), hB8, l8⟩
  rintro σ' H2 ⟨_, M', bd, σ, x4, x5, rfl, k2, L2, B2, l2⟩
  exact q _ H2 M' bd σ k2 L2 B2
end
end Hm

set_option Elab.async false
set_option linter.all false
set_option maxRecDepth 100000
set_option maxHeartbeats 1000000
namespace Hm
open PySem PySem.Spec PyProof.Rows L2 HT
open Evl (Ex)
/-! ### rows of cells, rows of addresses as data -/
def cesD (cs : List Ce) : PyData := .list (cs.map Ce.pd)
def adsD (cs : List Ad) : PyData := .list (cs.map adD)
theorem eqvs_ce : ∀ xs ys : List Ce, PyData.eqvAll (xs.map Ce.pd) (ys.map Ce.pd) = decide (xs = ys)
  | [], [] => rfl
  | [], _ :: _ => rfl
  | _ :: _, [] => rfl
  | x :: xs, y :: ys => by
    show (PyData.eqv x.pd y.pd && PyData.eqvAll (xs.map Ce.pd) (ys.map Ce.pd)) = _
    rw [eqv_ce, eqvs_ce xs ys]
    simp
theorem eqv_ces (xs ys : List Ce) : PyData.eqv (cesD xs) (cesD ys) = decide (xs = ys) := eqvs_ce xs ys
theorem eqv_ad (a b : Ad) : PyData.eqv (adD a) (adD b) = decide (a = b) := by
  have h := eqv_ce (.ref a) (.ref b)
  have e : PyData.eqv (Ce.ref a).pd (Ce.ref b).pd = (PyData.eqv (.str "ref") (.str "ref") && (PyData.eqv (adD a) (adD b) && true)) := rfl
  rw [e, show PyData.eqv (.str "ref") (.str "ref") = true by decide +kernel, Bool.true_and, Bool.and_true] at h
  rw [h]
  by_cases q : a = b
  · rw [decide_eq_true q, decide_eq_true (by rw [q])]
  · rw [decide_eq_false q, decide_eq_false (fun z => q (by cases z; rfl))]
theorem eqvs_ad : ∀ xs ys : List Ad, PyData.eqvAll (xs.map adD) (ys.map adD) = decide (xs = ys)
  | [], [] => rfl
  | [], _ :: _ => rfl
  | _ :: _, [] => rfl
  | x :: xs, y :: ys => by
    show (PyData.eqv (adD x) (adD y) && PyData.eqvAll (xs.map adD) (ys.map adD)) = _
    rw [eqv_ad, eqvs_ad xs ys]
    simp
theorem eqv_ads (xs ys : List Ad) : PyData.eqv (adsD xs) (adsD ys) = decide (xs = ys) := eqvs_ad xs ys
theorem lays_ce : ∀ xs : List Ce, (∀ n ∈ xs, CeOk n) → PyData.canLayAll0 (xs.map Ce.pd) = true
  | [], _ => rfl
  | x :: xs, h => by
    show ((x.pd).canLay0 && PyData.canLayAll0 (xs.map Ce.pd)) = true
    rw [lays_ce xs fun n hn => h n (List.mem_cons_of_mem _ hn), Bool.and_true]
    exact lay_ce (h x (List.mem_cons_self ..))
theorem deps_ce : ∀ xs : List Ce, PyData.depthAll (xs.map Ce.pd) ≤ 10
  | [] => Nat.zero_le _
  | x :: xs => by
    show max (x.pd).depth (PyData.depthAll (xs.map Ce.pd)) ≤ 10
    have := deps_ce xs
    have h : (x.pd).depth ≤ 10 := by cases x <;> exact Nat.le_of_ble_eq_true rfl
    omega
theorem shp_ce {xs : List Ce} (h : ∀ n ∈ xs, CeOk n) : SeqAt.shaped (cesD xs) = true := by
  have hd : (cesD xs).depth ≤ 64 := by
    show PyData.depthAll (xs.map Ce.pd) + 1 ≤ 64
    have := deps_ce xs
    omega
  show ((cesD xs).canLay0 && decide ((cesD xs).depth ≤ 64)) = true
  rw [decide_eq_true hd, Bool.and_true]
  exact lays_ce xs h
theorem lays_ad : ∀ xs : List Ad, PyData.canLayAll0 (xs.map adD) = true
  | [] => rfl
  | x :: xs => by
    show ((adD x).canLay0 && PyData.canLayAll0 (xs.map adD)) = true
    rw [lays_ad xs, Bool.and_true]
    exact lay_ad x
theorem deps_ad : ∀ xs : List Ad, PyData.depthAll (xs.map adD) ≤ 10
  | [] => Nat.zero_le _
  | x :: xs => by
    show max (adD x).depth (PyData.depthAll (xs.map adD)) ≤ 10
    have := deps_ad xs
    have h : (adD x).depth ≤ 10 := Nat.le_of_ble_eq_true rfl
    omega
theorem shp_ad (xs : List Ad) : SeqAt.shaped (adsD xs) = true := by
  have hd : (adsD xs).depth ≤ 64 := by
    show PyData.depthAll (xs.map adD) + 1 ≤ 64
    have := deps_ad xs
    omega
  show ((adsD xs).canLay0 && decide ((adsD xs).depth ≤ 64)) = true
  rw [decide_eq_true hd, Bool.and_true]
  exact lays_ad xs

theorem lay_tmsD {ts : List Tm} (h : Oks ts) : (tmsD ts).canLay0 = true := lay_tms h
theorem lay_cesD {cs : List Ce} (h : ∀ c ∈ cs, CeOk c) : (cesD cs).canLay0 = true := lays_ce cs h
theorem lay_adsD (as : List Ad) : (adsD as).canLay0 = true := lays_ad as
def rdD (ts : List Tm) (as : List Ad) : PyData := .tuple [tmsD ts, adsD as]
def hpD (cs : List Ce) (as : List Ad) : PyData := .tuple [cesD cs, adsD as]
theorem lay_rd {ts : List Tm} (h : Oks ts) (as : List Ad) : (rdD ts as).canLay0 = true := by
  show ((tmsD ts).canLay0 && ((adsD as).canLay0 && true)) = true
  rw [lay_tmsD h, lay_adsD]
  rfl
theorem lay_hp {cs : List Ce} (h : ∀ c ∈ cs, CeOk c) (as : List Ad) : (hpD cs as).canLay0 = true := by
  show ((cesD cs).canLay0 && ((adsD as).canLay0 && true)) = true
  rw [lay_cesD h, lay_adsD]
  rfl
theorem shp_rd {ts : List Tm} (h : Oks ts) (hd : depths ts ≤ 50) (as : List Ad) : SeqAt.shaped (rdD ts as) = true := by
  have hd2 : (rdD ts as).depth ≤ 64 := by
    show max (PyData.depthAll (toDs ts) + 1) (max (PyData.depthAll (as.map adD) + 1) 0) + 1 ≤ 64
    have := dep_tms ts
    have := deps_ad as
    omega
  show ((rdD ts as).canLay0 && decide ((rdD ts as).depth ≤ 64)) = true
  rw [decide_eq_true hd2, Bool.and_true]
  exact lay_rd h as
theorem shp_hp {cs : List Ce} (h : ∀ c ∈ cs, CeOk c) (as : List Ad) : SeqAt.shaped (hpD cs as) = true := by
  have hd2 : (hpD cs as).depth ≤ 64 := by
    show max (PyData.depthAll (cs.map Ce.pd) + 1) (max (PyData.depthAll (as.map adD) + 1) 0) + 1 ≤ 64
    have := deps_ce cs
    have := deps_ad as
    omega
  show ((hpD cs as).canLay0 && decide ((hpD cs as).depth ≤ 64)) = true
  rw [decide_eq_true hd2, Bool.and_true]
  exact lay_hp h as
/-! ### numbers anew keep what is asked -/
mutual
theorem ok_num (ns : List Int) : ∀ t : Tm, Ok t → Ok (numT ns t)
  | .var k, h => by
    show Ok (.var (ns.idxOf k : Nat))
    unfold Ok
    omega
  | .atom _, h => h
  | .int _, h => h
  | .comp f ts, h => by
    unfold Ok at h
    show Ok (.comp f (numTs ns ts))
    unfold Ok
    rw [numTs_len]
    exact ⟨h.1, h.2.1, h.2.2.1, oks_num ns ts h.2.2.2⟩
theorem oks_num (ns : List Int) : ∀ ts : List Tm, Oks ts → Oks (numTs ns ts)
  | [], _ => trivial
  | t :: ts, h => by
    rw [oks_cons] at h
    show Oks (numT ns t :: numTs ns ts)
    rw [oks_cons]
    exact ⟨ok_num ns t h.1, oks_num ns ts h.2⟩
end
mutual
theorem depth_num (ns : List Int) : ∀ t : Tm, depth (numT ns t) = depth t
  | .var _ => rfl
  | .atom _ => rfl
  | .int _ => rfl
  | .comp f ts => by
    show 1 + depths (numTs ns ts) = 1 + depths ts
    rw [depths_num ns ts]
theorem depths_num (ns : List Int) : ∀ ts : List Tm, depths (numTs ns ts) = depths ts
  | [] => rfl
  | t :: ts => by
    show max (depth (numT ns t)) (depths (numTs ns ts)) = max (depth t) (depths ts)
    rw [depth_num ns t, depths_num ns ts]
end
/-! ### two cells with one end -/
theorem den_same {M : Mem} {ad : Int → Ad} {k k' : Nat} {x x' e : Ce} (f : Fol M k x e) (f' : Fol M k' x' e) : ∀ (u : Tm), Den M ad u x → Den M ad u x'
  | .var j, h => by
    unfold Den at h ⊢
    obtain ⟨_, g⟩ := h
    rw [← f.det g]
    exact ⟨k', f'⟩
  | .atom s, h => by
    unfold Den at h ⊢
    obtain ⟨_, g⟩ := h
    rw [← f.det g]
    exact ⟨k', f'⟩
  | .int s, h => by
    unfold Den at h ⊢
    obtain ⟨_, g⟩ := h
    rw [← f.det g]
    exact ⟨k', f'⟩
  | .comp g ts, h => by
    unfold Den at h ⊢
    obtain ⟨_, n, g1, g2⟩ := h
    have e := f.det g1
    subst e
    exact ⟨k', n, f', g2⟩
theorem den_ceok {M : Mem} {ad : Int → Ad} {k : Nat} {x e : Ce} (f : Fol M k x e) : ∀ (u : Tm), Den M ad u x → Ok u → CeOk e
  | .var j, h, _ => by
    unfold Den at h
    obtain ⟨_, g⟩ := h
    rw [f.det g]
    trivial
  | .atom s, h, ho => by
    unfold Den at h
    obtain ⟨_, g⟩ := h
    rw [f.det g]
    unfold Ok at ho
    exact ho
  | .int s, h, ho => by
    unfold Den at h
    obtain ⟨_, g⟩ := h
    rw [f.det g]
    unfold Ok at ho
    exact ho
  | .comp g ts, h, _ => by
    unfold Den at h
    obtain ⟨_, n, g1, _⟩ := h
    rw [f.det g1]
    trivial
/-- one cell is read -/
theorem rd_den {M : Mem} {u : Tm} {c : Ce} (h : Den M adh u c) (ou : Ok u) (vu : Vb 4 u) (hs : size u ≤ 2000) : ∃ m, Rd M m ([c].map (fun x => (x, false))) [] [] [] [numT (vx [] u) u] ((vx [] u).map adh) := by
  obtain ⟨kn', _, _, g⟩ := rd_one (adh_inj 4) u c h ou vu [] [] [] (fun j hj => nomatch hj) (fun n u e => nomatch e) (by show 0 + size u ≤ 1000000; omega) (by show 0 + size u ≤ 1000000; omega) (by show 0 + size u ≤ 1000000; omega)
  obtain ⟨m, hm⟩ := g 0 [] _ _ (by show 0 + size u ≤ 1000000; omega) .nil
  exact ⟨m, hm⟩
/-! ### the start -/
def nmI (i : Nat) : Int → Option Ce := fun k => if 0 ≤ k ∧ k < (i : Int) then some (.ref (adh k)) else none
def M0 (i : Nat) : Mem := { Mem.new with cs := (List.range i).map fun k => .ref (.h k) }
theorem nmI_zero : nmI 0 = fun _ => none := funext fun k => if_neg (by omega)
theorem nmI_succ (i : Nat) : nmI (i + 1) = fun j => if j = (i : Int) then some (.ref (.h i)) else nmI i j := funext fun j => by
  unfold nmI
  by_cases e : j = (i : Int)
  · subst e
    rw [if_pos rfl, if_pos (by omega)]
    unfold adh
    rw [Int.toNat_natCast]
  · rw [if_neg e]
    by_cases c : 0 ≤ j ∧ j < (i : Int)
    · rw [if_pos c, if_pos (by omega)]
    · rw [if_neg c, if_neg (by omega)]
theorem nmI_four : nmI 4 = nm4 := rfl
theorem M0_len (i : Nat) : (M0 i).cs.length = i := by
  show ((List.range i).map _).length = i
  rw [List.length_map, List.length_range]
theorem M0_succ (i : Nat) : { M0 i with cs := (M0 i).cs ++ [.ref (.h (M0 i).cs.length)] } = M0 (i + 1) := by
  rw [M0_len]
  unfold M0
  rw [List.range_succ, List.map_append]
  rfl
theorem b5_zero : B5 0 (M0 4) (fun _ => none) .var := by
  refine ⟨⟨Nat.le_refl _, fun k h0 h4 _ => ?_, fun k t _ _ e => by cases e⟩, Bd.zero, ⟨Nat.zero_le _, fun n y e => (by cases e), rfl, rfl, rfl⟩, Nat.le_refl _, fun _ _ => rfl⟩
  have : k = 0 ∨ k = 1 ∨ k = 2 ∨ k = 3 := by omega
  rcases this with rfl | rfl | rfl | rfl <;> rfl
section
variable {P : Program} {w : World} {K : PySem.W.Frag} {mg : Str → Option Value} {base : Heap}
theorem all_dp_ce {H : Hp} : ∀ {xs : List V} {ns : List Ce}, CAll K H xs ns → DpAll K H xs (ns.map Ce.pd) := by
  intro xs ns h
  induction h with
  | nil => exact .nil
  | cons h t ih => exact .cons (dp_ce h) ih
theorem all_dp_ad {H : Hp} : ∀ {xs : List V} {ns : List Ad}, AAll K H xs ns → DpAll K H xs (ns.map adD) := by
  intro xs ns h
  induction h with
  | nil => exact .nil
  | cons h t ih => exact .cons (dp_ad h) ih
theorem dpl_ce {H : Hp} {t : Addr} {us : List V} {cs : List Ce} (h : H t = some (.lst us)) (hu : CAll K H us cs) : Dp K H (.ref t) (cesD cs) := .lst (.of h) (all_dp_ce hu)
theorem dpl_ad {H : Hp} {t : Addr} {us : List V} {cs : List Ad} (h : H t = some (.lst us)) (hu : AAll K H us cs) : Dp K H (.ref t) (adsD cs) := .lst (.of h) (all_dp_ad hu)
theorem dpl_tm {H : Hp} {t : Addr} {us : List V} {ts : List Tm} (h : H t = some (.lst us)) (hu : Reps K H ts us) : Dp K H (.ref t) (tmsD ts) := .lst (.of h) (dp_reps hu)
theorem dp_rd {H : Hp} {t dl ll : Addr} {ds ls : List V} {ts : List Tm} {as : List Ad} (h : SqT K H t [.ref dl, .ref ll]) (h1 : H dl = some (.lst ds)) (h2 : Reps K H ts ds) (h3 : H ll = some (.lst ls)) (h4 : AAll K H ls as) : Dp K H (.ref t) (rdD ts as) := .tup h (.cons (dpl_tm h1 h2) (.cons (dpl_ad h3 h4) .nil))
theorem dp_hp {H : Hp} {t dl ll : Addr} {ds ls : List V} {cs : List Ce} {as : List Ad} (h : SqT K H t [.ref dl, .ref ll]) (h1 : H dl = some (.lst ds)) (h2 : CAll K H ds cs) (h3 : H ll = some (.lst ls)) (h4 : AAll K H ls as) : Dp K H (.ref t) (hpD cs as) := .tup h (.cons (dpl_ce h1 h2) (.cons (dpl_ad h3 h4) .nil))
end
end Hm

set_option Elab.async false
set_option linter.all false
set_option maxRecDepth 100000
set_option maxHeartbeats 4000000
namespace Hm
open PySem PySem.Spec PyProof.Rows L2 HT
open Evl (Ex)
section
variable {P : Program} {w : World} {K : PySem.W.Frag} {mg : Str → Option Value} {base : Heap}
def spLaw (K : PySem.W.Frag) : Sp := fun vs H Q _ => ∃ (a : Addr) (ns : List Int), vs = [.ref a] ∧ SqL K H a (ns.map V.int) ∧ ns.length ≤ 63 ∧ ∀ H', Q (.bl true) H'
theorem ok_law (T : Tx K mg) : FnOk P w K mg base CX0 80 T.f_law T.d_law ["_law_script"] (spLaw K) := by
  refine T.h_law.F.ok sc_law (fun vs H Q E h => ?_) (fun cdv A outer s H vs Q E hr h => ?_)
  · obtain ⟨a, ns, rfl, _⟩ := h
    rfl
  obtain ⟨ascr, ns, rfl, hSc, hn, q⟩ := h
  have hu := hr.units
  have hu1 := Nat.lt_of_le_of_lt (Nat.add_le_add_left (show 1 ≤ 64 by decide) _) hr.units
  refine ⟨_, (pss_cons (ps_for PassesOwn.never rfl (pi_list (pe_op op_cat (pe_lst (pa_cons (cl (ok_law_cell_at T) T.h_law_cell_at hr (pa_cons (pv 0) (pa_cons pe_int pa_nil))) pa_nil)) (pe_slice sl_list (pv 0) (po_some pe_int) (po_some pe_int)))) (pg_name (i := 1) sc_law.nd rfl (Or.inl rfl))
      (pss_cons (ps_set (i := 2) sc_law.nd rfl (Or.inl rfl) (cl (ok_law_well T) T.h_law_well hr (pa_cons (pv 1) pa_nil)))
    (pss_cons (ps_par3 (i := 3) (j := 4) (l := 5) rfl sc_law.nd rfl rfl rfl (by decide) (by decide) (by decide) rfl rfl rfl (pa_cons (pe_make0 T.mkS (ok_St_init T) (hr.mono (by first | decide | omega)) rfl T.mgC T.b_St_init .nil pass0) (pa_cons pe_dnewK (pa_cons pe_dnewK pa_nil))) rfl)
    (pss_cons (ps_for PassesOwn.never rfl (pi_range1 rfl T.b_range (pa_cons pe_int pa_nil)) (pg_name (i := 6) sc_law.nd rfl (Or.inl rfl))
      (pss_one (ps_asg (pe_tup (pa_cons pe_str (pa_cons (pe_meth0 (pv 3) T.cl T.h_St_new.m (ok_St_new T) (hr.mono (by first | decide | omega)) T.h_St_new.b .nil pass0) pa_nil))) (pg_sub (pv 4) (pv 6) (set_dict hu1)))))
    (pss_cons (ps_expr (cl (ok_law_bind_some T) T.h_law_bind_some hr (pa_cons (pv 2) (pa_cons (pv 3) (pa_cons (pv 4) (pa_cons (pv 5) pa_nil))))))
    (pss_one (ps_for PassesOwn.never rfl (pi_range1 rfl T.b_range (pa_cons (pe_op op_add pe_int (cl (ok_law_draw T) T.h_law_draw hr (pa_cons (pv 2) (pa_cons pe_int pa_nil)))) pa_nil)) (pg_name (i := 7) sc_law.nd rfl (Or.inl rfl))
      (pss_cons (ps_set (i := 8) sc_law.nd rfl (Or.inl rfl) (cl (ok_law_term T 4) T.h_law_term hr (pa_cons (pv 2) (pa_cons (pe_op op_add pe_int (cl (ok_law_draw T) T.h_law_draw hr (pa_cons (pv 2) (pa_cons pe_int pa_nil)))) (pa_cons pe_int pa_nil)))))
    (pss_cons (ps_set (i := 9) sc_law.nd rfl (Or.inl rfl) (pe_meth (pv 3) T.cl T.h_St_build.m (ok_St_build T) (hr.mono (by first | decide | omega)) T.h_St_build.b .nil pass0 (pa_cons (pv 8) (pa_cons (pv 4) pa_nil))))
    (pss_cons (ps_set (i := 10) sc_law.nd rfl (Or.inl rfl) (cl (ok_law_chain T) T.h_law_chain hr (pa_cons (pv 2) (pa_cons (pv 3) (pa_cons (pv 9) pa_nil)))))
    (pss_cons (ps_set (i := 11) sc_law.nd rfl (Or.inl rfl) (pe_tup (pa_cons (pe_meth0 (pv 3) T.cl T.h_St_heap.m (ok_St_heap T) (hr.mono (by first | decide | omega)) T.h_St_heap.b .nil pass0) (pa_cons (pe_meth0 (pv 3) T.cl T.h_St_trail.m (ok_St_trail T) (hr.mono (by first | decide | omega)) T.h_St_trail.b .nil pass0) pa_nil))))
    (pss_cons (ps_if (pt_cmpR (op_neD hu) (pe_meth (pv 3) T.cl T.h_St_end.m (ok_St_end T) (hr.mono (by first | decide | omega)) T.h_St_end.b .nil pass0 (pa_cons (pv 10) pa_nil)) (pe_meth (pv 3) T.cl T.h_St_end.m (ok_St_end T) (hr.mono (by first | decide | omega)) T.h_St_end.b .nil pass0 (pa_cons (pv 9) pa_nil)) (nomark _))
      (pss_one (ps_ret pe_bl))
      pss_nil)
    (Evl.pss_cut (ps_if (PW.pt (pw_and (pt_cmpR op_le (cl (ok_law_parts T 60) T.h_law_parts hr (pa_cons (cl (ok_law_whole T 60) T.h_law_whole hr (pa_cons (pv 8) (pa_cons (pv 5) pa_nil))) pa_nil)) pe_int (nomark _)) (pw_and1 (pt_cmpR (op_neD hu) (pe_meth (pv 3) T.cl T.h_St_read.m (ok_St_read T) (hr.mono (by first | decide | omega)) T.h_St_read.b .nil pass0 (pa_cons (pe_lst (pa_cons (pv 10) pa_nil)) pa_nil)) (pe_meth (pv 3) T.cl T.h_St_read.m (ok_St_read T) (hr.mono (by first | decide | omega)) T.h_St_read.b .nil pass0 (pa_cons (pe_lst (pa_cons (pv 9) pa_nil)) pa_nil)) (nomark _)))))
      (pss_one (ps_ret pe_bl))
      pss_nil)
    (Evl.pss_cut (ps_if (PW.pt (pw_and (pt_val (pe_callB call_isi rfl T.b_isinstance (by decide +kernel) (pa_cons (pv 8) (pa_cons (pe_bltn (v := .ty "tuple") (u := .type "tuple") rfl T.b_tuple (by decide +kernel) rfl) pa_nil)))) (pw_and (pt_cmpR op_gt (pe_callB call_len_seq rfl T.b_len (by decide +kernel) (pa_cons (pv 8) pa_nil)) pe_int (nomark _)) (pw_and1 (pt_cmpR (op_neD hu) (pe_meth (pv 3) T.cl T.h_St_end.m (ok_St_end T) (hr.mono (by first | decide | omega)) T.h_St_end.b .nil pass0 (pa_cons (pv 10) pa_nil)) (pv 9) (nomark _))))))
      (pss_one (ps_ret pe_bl))
      pss_nil)
    (pss_cons (ps_set (i := 12) sc_law.nd rfl (Or.inl rfl) (pe_ix ix_list (pe_lst (pa_cons pe_str (pa_cons pe_str pa_nil))) (pe_callTy call_int1 rfl T.b_int (by decide +kernel) (pa_cons (pe_callB call_isi rfl T.b_isinstance (by decide +kernel) (pa_cons (pv 8) (pa_cons (pe_bltn (v := .ty "str") (u := .type "str") rfl T.b_str (by decide +kernel) rfl) pa_nil))) pa_nil)) (fun _ _ => rfl)))
    (Evl.pss_cut (ps_if (PW.pt (pw_and (pt_not (pt_val (pe_callB call_isi rfl T.b_isinstance (by decide +kernel) (pa_cons (pv 8) (pa_cons (pe_bltn (v := .ty "tuple") (u := .type "tuple") rfl T.b_tuple (by decide +kernel) rfl) pa_nil))))) (pw_and1 (pt_cmpR (op_neD hu) (pe_meth (pv 3) T.cl T.h_St_end.m (ok_St_end T) (hr.mono (by first | decide | omega)) T.h_St_end.b .nil pass0 (pa_cons (pv 10) pa_nil)) (pe_tup (pa_cons (pv 12) (pa_cons (pv 8) pa_nil))) (nomark _)))))
      (pss_one (ps_ret pe_bl))
      pss_nil)
    (pss_cons (ps_for PassesOwn.never rfl (pi_range1 rfl T.b_range (pa_cons pe_int pa_nil)) (pg_name (i := 6) sc_law.nd rfl (Or.inl rfl))
      (pss_one (ps_if (pt_cmp (pc_dnotin hu1 (pv 6) (pv 5)))
      (pss_cons (ps_set (i := 13) sc_law.nd rfl (Or.inl rfl) (pe_meth (pv 3) T.cl T.h_St_contains.m (ok_St_contains T) (hr.mono (by first | decide | omega)) T.h_St_contains.b .nil pass0 (pa_cons (pe_ix ix_tup (pe_dget hu1 (pv 4) (pv 6) (fun _ _ => rfl)) pe_int (fun _ _ => rfl)) (pa_cons (pv 10) pa_nil))))
    (pss_one (ps_if (PW.pt (pw_or (pt_not (pt_val (pe_callB call_isi rfl T.b_isinstance (by decide +kernel) (pa_cons (pv 13) (pa_cons (pe_bltn (v := .ty "bool") (u := .type "bool") rfl T.b_bool (by decide +kernel) rfl) pa_nil))))) (pw_or1 (pt_cmpR op_ne (pv 13) (cl (ok_law_has T 60) T.h_law_has hr (pa_cons (pv 6) (pa_cons (pv 8) (pa_cons (pv 5) pa_nil)))) (nomark _)))))
      (pss_one (ps_ret pe_bl))
      pss_nil)))
      pss_nil)))
    (pss_one (ps_if (pt_cmpR (op_neD hu) (pe_tup (pa_cons (pe_meth0 (pv 3) T.cl T.h_St_heap.m (ok_St_heap T) (hr.mono (by first | decide | omega)) T.h_St_heap.b .nil pass0) (pa_cons (pe_meth0 (pv 3) T.cl T.h_St_trail.m (ok_St_trail T) (hr.mono (by first | decide | omega)) T.h_St_trail.b .nil pass0) pa_nil))) (pv 11) (nomark _))
      (pss_one (ps_ret pe_bl))
      pss_nil)))))))))))))))))))
    (pss_one (ps_ret pe_bl))), ?_⟩
  refine ⟨_, rfl, ascr, ns, rfl, hSc, fun z0 => ⟨(by show 1 ≤ sizeLine; decide), fun p1 hp1 => ?_⟩⟩
  have hS1 := Evl.ex_l (Ex.new (o := HO.lst [V.int z0]) hp1) (hSc)
  have hL1 : (upd H p1 (.lst [V.int z0])) p1 = some (.lst [V.int z0]) := upd_same
  generalize upd H p1 (.lst [V.int z0]) = H1 at *
  refine ⟨_, rfl, _, rfl, _, rfl, ascr, _, rfl, hS1, fun p2 hp2 => ?_⟩
  have cl : (cutV (ns.map V.int) (some 1) (some 4)).length ≤ 63 := by
    unfold cutV
    rw [List.length_take, List.length_drop, List.length_map]
    omega
  have items : ∀ x ∈ cutV (ns.map V.int) (some 1) (some 4), ∃ z, x = V.int z := fun x hm => by
    unfold cutV at hm
    obtain ⟨z, _, e⟩ := List.mem_map.mp (List.mem_of_mem_drop (List.mem_of_mem_take hm))
    exact ⟨z, e.symm⟩
  have hL2 : (upd H1 p2 (.lst (cutV (ns.map V.int) (some 1) (some 4)))) p2 = some (.lst (cutV (ns.map V.int) (some 1) (some 4))) := upd_same
  have hL1' := Ex.new (o := HO.lst (cutV (ns.map V.int) (some 1) (some 4))) hp2 _ _ hL1
  generalize upd H1 p2 (.lst (cutV (ns.map V.int) (some 1) (some 4))) = H2 at *
  generalize cutV (ns.map V.int) (some 1) (some 4) = ys at *
  refine ⟨p1, p2, _, _, rfl, rfl, hL1', hL2, small5 (by show 1 + ys.length ≤ _; omega), fun p3 hp3 => ?_⟩
  have items3 : ∀ x ∈ [V.int z0] ++ ys, ∃ z, x = V.int z := fun x hm => by
    rcases List.mem_append.mp hm with hm | hm
    · exact ⟨z0, List.mem_singleton.mp hm⟩
    · exact items x hm
  have hL3 : (upd H2 p3 (.lst ([V.int z0] ++ ys))) p3 = some (.lst ([V.int z0] ++ ys)) := upd_same
  generalize upd H2 p3 (.lst ([V.int z0] ++ ys)) = H3 at *
  generalize [V.int z0] ++ ys = xs at *
  clear hL1 hL1' hL2 hS1 hp1 hp2 hp3 items cl hSc
  refine ⟨p3, rfl, ⟨_, SqL.of hL3⟩, for_list (fun i σ' H' => ∃ c1 c2 c3 c4 c5 c6 c7 c8 c9 c10 c11 c12 c13, σ' = [some (.ref ascr), c1, c2, c3, c4, c5, c6, c7, c8, c9, c10, c11, c12, c13] ∧ Ex H3 H') ⟨none, none, none, none, none, none, none, none, none, none, none, none, none, rfl, Ex.refl _⟩ (fun i σ' H' _ ⟨_, _, _, _, _, _, _, _, _, _, _, _, _, _, h⟩ => SqL.of (h p3 _ hL3)) ?_ ?_⟩
  rotate_left
  · rintro σ' H4 ⟨c1, c2, c3, c4, c5, c6, c7, c8, c9, c10, c11, c12, c13, rfl, e4⟩
    exact q _
  rintro i x σ' H4 hx ⟨c1, c2, c3, c4, c5, c6, c7, c8, c9, c10, c11, c12, c13, rfl, e4⟩
  obtain ⟨z, rfl⟩ := items3 x (List.mem_of_getElem? hx)
  refine ⟨_, rfl, z, rfl, fun a x0 y0 H5 ha e5 hL5 => ?_⟩
  have W5 : Well 1000000 H5 a := ⟨x0, y0, 0, hL5, by decide, by decide⟩
  intro S dx hS0 hdx0 hdS
  refine ⟨S, dx, rfl, upd_same, fun c d nt H6 hc hd hno n1 n2 n3 keep iS ic ino isl => ⟨rfl, ?_⟩⟩
  intro Dn hDn Db hDb
  refine ⟨_, _, _, rfl, ?_⟩
  obtain ⟨hd1, nSd⟩ := none_of_upd hd
  obtain ⟨hc1, nSc⟩ := none_of_upd hc
  obtain ⟨hn1, nSn⟩ := none_of_upd hno
  have hc0 := (none_of_upd hc1).1
  have hd0 := (none_of_upd hd1).1
  have hn0 := (none_of_upd hn1).1
  have x56 : Ex H5 H6 := fun b o hb => keep b o (ne_of_none hb hS0) (by rw [upd_ne (ne_of_none hb hS0), upd_ne (ne_of_none hb hdx0)]; exact hb)
  have s6 := sto_new (K := K) iS ic ino isl n1
  obtain ⟨wx, wy, wz, w1, w2, w3⟩ := W5
  have W6 := (Dr.ex ⟨wx, wy, wz, w1, w2, w3⟩ x56).well
  have aS := ne_of_none w1 hS0
  have ac := ne_of_none w1 hc0
  have ad := ne_of_none w1 hd0
  have an := ne_of_none w1 hn0
  have a6 := x56 _ _ w1
  have x7 := Ex.new (o := HO.dK []) hDn
  have n7 : (upd H6 Dn (.dK [])) Dn = some (.dK []) := upd_same
  have nDn : ∀ {y : Addr} {o : HO}, H6 y = some o → Dn ≠ y := fun e w => by rw [w, e] at hDn; cases hDn
  have Dn5 : H5 Dn = none := ex_none x56 hDn
  generalize upd H6 Dn (.dK []) = H7 at *
  have x8 := Ex.new (o := HO.dK []) hDb
  have b8 : (upd H7 Db (.dK [])) Db = some (.dK []) := upd_same
  have nDb : ∀ {y : Addr} {o : HO}, H7 y = some o → Db ≠ y := fun e w => by rw [w, e] at hDb; cases hDb
  have Db5 : H5 Db = none := ex_none (x56.trans x7) hDb
  have nd : [Dn, Db, a, S, c, d, nt].Nodup := by
    have q1 := (nDb n7).symm
    have q2 := nDn a6
    have q3 := nDn iS
    have q4 := nDn ic
    have q5 := nDn isl
    have q6 := nDn ino
    have r2 := nDb (x7 _ _ a6)
    have r3 := nDb (x7 _ _ iS)
    have r4 := nDb (x7 _ _ ic)
    have r5 := nDb (x7 _ _ isl)
    have r6 := nDb (x7 _ _ ino)
    simp [q1, q2, q3, q4, q5, q6, r2, r3, r4, r5, r6, aS, ac, ad, an, nSc, nSd, nSn, n1, n2, n3.symm]
  have x78 := x7.trans x8
  have n8 := x8 _ _ n7
  generalize upd H7 Db (.dK []) = H8 at *
  have W8 := (Dr.ex W6 x78).well
  have s8 : Sto K T.C H8 S c d nt (M0 0) := s6.ex x78
  have E8 : Ex H4 H8 := e5.trans (x56.trans x78)
  have new4 : ∀ x ∈ [Dn, Db, a, S, c, d, nt], H4 x = none := fun x hx => by
    simp only [List.mem_cons, List.not_mem_nil, or_false] at hx
    rcases hx with rfl | rfl | rfl | rfl | rfl | rfl | rfl
    · exact ex_none e5 Dn5
    · exact ex_none e5 Db5
    · exact ha
    · exact ex_none e5 hS0
    · exact ex_none e5 hc0
    · exact ex_none e5 hd0
    · exact ex_none e5 hn0
  have N8 : NmAt K H8 Dn (nmI 0) 0 := by
    rw [nmI_zero]
    exact ⟨[], n8, rfl, fun k => ⟨fun _ => rfl, fun x e => nomatch e⟩⟩
  clear hd1 hc1 hn1 hc hd hno keep iS ic ino isl hS0 hdx0 hdS hDn hDb x7 x8 x78 x56 s6 W6 n7 n8 e5 hL5 w1 w2 w3 hc0 hd0 hn0 aS ac ad an nSd nSc nSn n1 n2 n3 Dn5 Db5 ha a6 nDn nDb
  have N := @nd_ne _ nd
  refine ⟨4, rfl, by decide, by decide, for_it walk_range (fun i σ' H' => i ≤ 4 ∧ ∃ x6, σ' = [some (.ref ascr), some (.int z), some (.ref a), some (.ref S), some (.ref Dn), some (.ref Db), x6, c7, c8, c9, c10, c11, c12, c13] ∧ Ex H4 H' ∧ Well 1000000 H' a ∧ Sto K T.C H' S c d nt (M0 i) ∧ NmAt K H' Dn (nmI i) i ∧ H' Db = some (.dK [])) ⟨Nat.zero_le _, _, rfl, E8, W8, s8, N8, b8⟩ (fun _ _ _ _ _ => trivial) ?_ ?_⟩
  · clear E8 W8 s8 N8 b8
    rintro j x σ' Hx H9 hj ⟨_, x6, rfl, E9, W9, s9, N9, b9⟩ ⟨rfl, hxj⟩
    have hxj' : x = V.int (j : Int) := hxj.trans (by show V.int (0 + (j : Int)) = _; rw [Int.zero_add])
    subst hxj'
    clear hxj
    have hj4 : j < 4 := hj
    obtain ⟨dx9, hS9⟩ := s9.ins
    refine ⟨_, rfl, S, dx9, _, rfl, hS9, rfl, S, c, d, nt, M0 j, rfl, s9, by rw [M0_len]; omega, fun v0 H10 k10 a10 s10 => ⟨Nat.le_of_ble_eq_true rfl, fun p hp => ?_⟩⟩
    rw [M0_succ] at s10
    rw [M0_len] at a10
    have t10 := s9.tups k10
    have W10 := well_ks W9 k10 ⟨N 2 3 (by decide) rfl rfl, N 2 4 (by decide) rfl rfl, N 2 5 (by decide) rfl rfl, N 2 6 (by decide) rfl rfl⟩
    have N10 := N9.keep t10 (fun o => k10 _ o (N 0 3 (by decide) rfl rfl) (N 0 4 (by decide) rfl rfl) (N 0 5 (by decide) rfl rfl) (N 0 6 (by decide) rfl rfl))
    have b10 := k10 _ _ (N 1 3 (by decide) rfl rfl) (N 1 4 (by decide) rfl rfl) (N 1 5 (by decide) rfl rfl) (N 1 6 (by decide) rfl rfl) b9
    have E10 : Ex H4 H10 := fun b o h => k10 b o (ne_of_none h (new4 S (by simp))) (ne_of_none h (new4 c (by simp))) (ne_of_none h (new4 d (by simp))) (ne_of_none h (new4 nt (by simp))) (E9 b o h)
    have e11 := Ex.new (o := HO.tup [V.str "ref", v0]) hp
    have g11 : CAt K (upd H10 p (.tup [V.str "ref", v0])) (.ref p) (.ref (.h j)) := ⟨p, v0, rfl, .of upd_same, a10.tups (.of e11)⟩
    generalize upd H10 p (.tup [V.str "ref", v0]) = H11 at *
    have W11 := (Dr.ex W10 e11).well
    have s11 := s10.ex e11
    have N11 := N10.keep (.of e11) (fun o => e11 _ o)
    have b11 := e11 _ _ b10
    have E11 := E10.trans e11
    have top : nmI j (j : Int) = none := if_neg (by omega)
    obtain ⟨H12, d12, f12, t12, n12⟩ := N11.put (k := (j : Int)) top g11 trivial (szl (by omega))
    refine ⟨_, rfl, _, rfl, Dn, H12, rfl, d12, ?_⟩
    rw [← nmI_succ] at n12
    obtain ⟨u1, u2, u3, g1, g2, g3⟩ := W11
    refine ⟨by omega, _, rfl, fun b o h => ?_, ⟨u1, u2, u3, by rw [f12 _ (N 2 0 (by decide) rfl rfl)]; exact g1, g2, g3⟩, s11.mv t12 (fun o e => by rw [f12 _ (N 3 0 (by decide) rfl rfl)]; exact e) (fun o e => by rw [f12 _ (N 4 0 (by decide) rfl rfl)]; exact e) (fun o e => by rw [f12 _ (N 5 0 (by decide) rfl rfl)]; exact e) (fun o e => by rw [f12 _ (N 6 0 (by decide) rfl rfl)]; exact e), n12, by rw [f12 _ (N 1 0 (by decide) rfl rfl)]; exact b11⟩
    rw [f12 b (ne_of_none h (new4 Dn (by simp)))]
    exact E11 b o h
  clear E8 W8 s8 N8 b8
  rintro σ' H9 ⟨_, x6, rfl, E9, W9, s9, N9, b9⟩
  have L9 : L5 K T.C H9 a S c d nt Dn Db 1000000 (M0 4) (fun _ => none) := ⟨W9, s9, N9, ⟨[], b9, Nat.zero_le _, fun k => ⟨fun _ => rfl, fun t e => nomatch e⟩⟩, nd⟩
  clear W9 s9 N9
  refine ⟨_, rfl, _, rfl, _, rfl, _, rfl, a, S, c, d, nt, Dn, Db, M0 4, 900000, rfl, L9.le (by decide), b5_zero, b9, fun r10 H10 M bd σ k10 L10 B10 => ?_⟩
  have E10 : Ex H4 H10 := k10.old E9 new4
  clear L9 b9 E9 k10
  refine ⟨_, rfl, a, 4, 899000, rfl, L10.well.le (by decide), by decide, by decide, fun dk H11 k0 k1 d11 => ⟨_, _, rfl, rfl, ?_⟩⟩
  obtain ⟨L11, _, kk11⟩ := L10.dr d11
  have E11 := kk11.old E10 new4
  clear L10 E10 kk11 d11
  refine ⟨1 + dk, rfl, by omega, by omega, for_it walk_range (fun i σ' H' => i ≤ 4 ∧ ∃ M x6 x7 x8 x9 x10 x11 x12 x13, σ' = [some (.ref ascr), some (.int z), some (.ref a), some (.ref S), some (.ref Dn), some (.ref Db), x6, x7, x8, x9, x10, x11, x12, x13] ∧ Ex H4 H' ∧ L5 K T.C H' a S c d nt Dn Db (890000 - i * 2000) M bd ∧ V4 M bd ∧ Sz52 M ∧ M.cs.length ≤ 244 + 60 * i)
    ⟨Nat.zero_le _, M, _, _, _, _, _, _, _, _, rfl, E11, L11.le (by decide), B10.v4, B10.z, B10.len⟩ (fun _ _ _ _ _ => trivial) ?_ ?_⟩
  rotate_left
  · rintro σ' H12 ⟨_, M', x6, x7, x8, x9, x10, x11, x12, x13, rfl, E12, _⟩
    exact ⟨_, _, _, _, _, _, _, _, _, _, _, _, _, rfl, e4.trans E12⟩
  have hBd := B10.b
  clear E11 L11 B10
  rintro j x σ' Hx H12 hj ⟨hj4, M1, x6, x7, x8, x9, x10, x11, x12, x13, rfl, E12, L12, V12, Z12, l12⟩ ⟨rfl, hxj⟩
  clear hxj
  have hj' : j < 4 := by
    have : j < (1 + dk).toNat := hj
    omega
  have bb : 890000 - j * 2000 = (890000 - (j + 1) * 2000) + 2000 := by omega
  rw [bb] at L12
  generalize 890000 - (j + 1) * 2000 = bg at *
  have fF : Fd 3 = 758 := rfl
  have fS : Sz 3 = 40 := rfl
  have fC : Cz 3 = 52 := rfl
  refine ⟨_, rfl, _, rfl, a, 4, bg + 1900, rfl, L12.well.le (by omega), by decide, by decide, fun e13 H13 f0 f1 d13 => ⟨_, _, rfl, rfl, ?_⟩⟩
  obtain ⟨L13, _, kk13⟩ := L12.dr d13
  have E13 := kk13.old E12 new4
  clear L12 E12 kk13 d13
  obtain ⟨e', rfl⟩ := Int.eq_ofNat_of_zero_le f0
  have he : e' ≤ 3 := by omega
  have fm : Fd e' ≤ 758 ∧ Sz e' ≤ 40 ∧ Cz e' ≤ 52 := by
    have : e' = 0 ∨ e' = 1 ∨ e' = 2 ∨ e' = 3 := by omega
    rcases this with rfl | rfl | rfl | rfl <;> decide
  refine ⟨a, e', bg + 1000, 4, he, ?_, L13.well.le (by omega), by decide, fun v t H14 d14 rt gt => ?_⟩
  · show [V.ref a, V.int (1 + (e' : Int)), V.int 4] = _
    rw [Int.add_comm]
    rfl
  obtain ⟨L14, _, kk14⟩ := L13.dr d14
  have E14 := kk14.old E13 new4
  clear L13 E13 kk14 d14
  have gdp : depth t ≤ 4 := Nat.le_trans gt.dep (by omega)
  have gcz : csz t ≤ 52 := Nat.le_trans gt.cz fm.2.2
  have gsz : size t ≤ 40 := Nat.le_trans gt.siz fm.2.1
  have gok := gt.ok
  have gvb : Vb 4 t := gt.vb
  have gnc := nc_csz t
  clear gt
  obtain ⟨y, cs', hBt, hcl, hext, hraw, hnf, hnr⟩ := built52 (cs := M1.cs) (t := t) (by omega) gvb
  obtain ⟨dx14, hS14⟩ := L14.sto.ins
  refine ⟨_, rfl, S, dx14, _, rfl, hS14, rfl, _, rfl, _, rfl, S, c, d, nt, M1, v, Dn, t, nm4, 4, y, cs', nm4, 4, rfl, L14.sto, rt, gok, by omega, L14.nam, N 0 5 (by decide) rfl rfl, hBt, by omega, by omega, fun u15 H15 kb15 c15 o15 s15 n15 => ?_⟩
  obtain ⟨L15, t15, kk15⟩ := L14.kb kb15 s15 n15
  have E15 := kk15.old E14 new4
  have rt15 := rt.mono t15
  have mxw := mx_wc (M := M1) hext
  have V15 := V12.grow mxw
  have Z15 := Z12.wc hext
  clear L14 E14 kk15 kb15 s15 n15 rt hS14 t15 V12 Z12
  have hD : depth (sb σ t) ≤ 34 := by
    have := dep_sb (dq_pos 4) hBd.dp t
    have : dq 4 = 31 := rfl
    omega
  have uok : Ok (sb σ t) := ok_sb hBd.ok t gok
  have uvb : Vb 4 (sb σ t) := vb_sb hBd.vb t gvb
  have den1 := raw_b hBd V15 34 t y hD gvb hraw
  obtain ⟨kk, ee, fol1, _⟩ := den_fol den1 uok
  have len15 : (M1.wc cs').cs.length ≤ M1.cs.length + csz t + 1 := hcl
  refine ⟨_, rfl, _, rfl, _, rfl, a, S, c, d, nt, M1.wc cs', u15, y, kk, ee, bg + 100, rfl, L15.well.le (by omega), L15.sto, ⟨N 2 3 (by decide) rfl rfl, N 2 4 (by decide) rfl rfl, N 2 5 (by decide) rfl rfl, N 2 6 (by decide) rfl rfl⟩, c15, o15, fol1, Z15, by omega, fun u16 H16 M16 y16 k16 kc16 w16 t16 s16 mx16 Z16 c16 o16 fol16 l16 => ?_⟩
  have L16 : L5 K T.C H16 a S c d nt Dn Db (bg + 100) M16 bd := ⟨w16, s16, L15.nam.keep t16 (fun o => kc16 _ o (N 0 2 (by decide) rfl rfl) (N 0 3 (by decide) rfl rfl) (N 0 4 (by decide) rfl rfl) (N 0 5 (by decide) rfl rfl) (N 0 6 (by decide) rfl rfl)), L15.bnd.keep t16 (fun o => kc16 _ o (N 1 2 (by decide) rfl rfl) (N 1 3 (by decide) rfl rfl) (N 1 4 (by decide) rfl rfl) (N 1 5 (by decide) rfl rfl) (N 1 6 (by decide) rfl rfl)), nd⟩
  have E16 : Ex H4 H16 := fun b o h => kc16 b o (ne_of_none h (new4 a (by simp))) (ne_of_none h (new4 S (by simp))) (ne_of_none h (new4 c (by simp))) (ne_of_none h (new4 d (by simp))) (ne_of_none h (new4 nt (by simp))) (E15 b o h)
  have V16 := V15.grow mx16
  have c15' := c15.tups t16
  have rt16 := rt15.mono t16
  have fol15 := mx16.fol fol1
  have den15 := mx16.den _ _ den1
  have den16 := den_same fol15 fol16 _ den15
  have oke := den_ceok fol15 _ den15 uok
  have l16' : M16.cs.length ≤ 244 + 60 * (j + 1) := by omega
  clear L15 E15 V15 Z15 kc16 w16 s16 t16 mx16 fol1 den1 c15 rt15 l16 hBt hcl len15
  obtain ⟨dx16, hS16⟩ := L16.sto.ins
  refine ⟨_, rfl, S, dx16, _, rfl, hS16, rfl, S, c, d, nt, M16, rfl, L16.sto, fun hp17 us17 H17 n17 e17 u17 al17 => ?_⟩
  refine ⟨_, rfl, S, dx16, _, rfl, e17 _ _ hS16, rfl, S, c, d, nt, M16, rfl, L16.sto.ex e17, fun tr18 us18 H18 n18 e18 u18 al18 => ⟨Nat.le_of_ble_eq_true rfl, fun kp hkp => ?_⟩⟩
  have e19 := Ex.new (o := HO.tup [V.ref hp17, V.ref tr18]) hkp
  have q19 : SqT K (upd H18 kp (.tup [V.ref hp17, V.ref tr18])) kp [V.ref hp17, V.ref tr18] := .of upd_same
  have e89 := (e17.trans e18).trans e19
  have u17' := (e18.trans e19) _ _ u17
  have al17' := al17.tups (.of (e18.trans e19))
  have u18' := e19 _ _ u18
  have al18' := al18.tups (.of e19)
  generalize upd H18 kp (.tup [V.ref hp17, V.ref tr18]) = H19 at *
  have L19 := L16.ex e89
  have E19 := E16.trans e89
  have hS19 := e89 _ _ hS16
  have c16' := c16.tups (.of e89)
  have c15'' := c15'.tups (.of e89)
  have rt19 := rt16.mono (Tups.of (K := K) e89)
  have okc := L19.sto.ok
  clear L16 E16 hS16 c16 c15' rt16 u17 al17 u18 al18 e17 e18 e19 e89 hkp n17 n18
  -- the ends
  refine ⟨_, rfl, S, dx16, _, rfl, hS19, rfl, _, rfl, S, c, d, nt, M16, u16, y16, ee, k16, rfl, L19.sto, c16', o16, fol16, fun v20 H20 e20 g20 => ?_⟩
  refine ⟨_, rfl, S, dx16, _, rfl, e20 _ _ hS19, rfl, _, rfl, S, c, d, nt, M16, u15, y, ee, kk, rfl, L19.sto.ex e20, c15''.tups (.of e20), o15, fol15, fun v21 H21 e21 g21 => ?_⟩
  refine ⟨_, _, dp_ce (g20.tups (.of e21)), dp_ce g21, shaped_ce oke, shaped_ce oke, false, by rw [eqv_ce, decide_eq_true rfl]; rfl, iteF ?_⟩
  have e01 := e20.trans e21
  have L21 := L19.ex e01
  have E21 := E19.trans e01
  have hS21 := e01 _ _ hS19
  have c21 := c16'.tups (.of e01)
  have d21 := c15''.tups (.of e01)
  have rt21 := rt19.mono (Tups.of (K := K) e01)
  have q21 := Evl.ex_t e01 q19
  have u21 := e01 _ _ u17'
  have al21 := al17'.tups (.of e01)
  have w21 := e01 _ _ u18'
  have bl21 := al18'.tups (.of e01)
  clear L19 E19 hS19 c16' c15'' rt19 q19 u17' al17' u18' al18' e20 e21 g20 g21 e01
  refine ⟨fun σ' H' => σ' = [some (.ref ascr), some (.int z), some (.ref a), some (.ref S), some (.ref Dn), some (.ref Db), x6, some x, some v, some u15, some u16, some (.ref kp), x12, x13] ∧ Ex H21 H', ?_, ?_⟩
  · refine ⟨_, rfl, _, rfl, v, Db, t, bd, σ, dq 4, rfl, rt21, gok, gvb, L21.bnd, hBd, (show depth (sb σ t) ≤ 59 by omega), fun u22 H22 e22 r22 => ?_⟩
    refine ⟨u22, sb σ t, rfl, r22, uok, (show depth (sb σ t) ≤ 59 by omega), fun H23 e23 => ⟨_, _, rfl, rfl, decide (size (sb σ t) ≤ 2000), ?_, ?_⟩⟩
    · show V.bl (decide ((size (sb σ t) : Int) ≤ 2000)) = _
      by_cases c0 : size (sb σ t) ≤ 2000
      · rw [decide_eq_true c0, decide_eq_true (by omega)]
      · rw [decide_eq_false c0, decide_eq_false (by omega)]
    cases hsz : decide (size (sb σ t) ≤ 2000) with
    | false => exact iteF (iteF ⟨rfl, e22.trans e23⟩)
    | true =>
      refine iteT ?_
      have sz := of_decide_eq_true hsz
      obtain ⟨m1, rd1⟩ := rd_den den16 uok uvb sz
      obtain ⟨m2, rd2⟩ := rd_den den15 uok uvb sz
      have e24 := e22.trans e23
      refine ⟨_, rfl, S, dx16, _, rfl, e24 _ _ hS21, rfl, _, rfl, Nat.le_of_ble_eq_true rfl, fun pl hpl => ?_⟩
      have e25 := e24.trans (Ex.new (o := HO.lst [u16]) hpl)
      refine ⟨S, c, d, nt, M16, pl, [u16], [y16], _, _, m1, rfl, L21.sto.ex e25, upd_same, .cons (c21.tups (.of e25)) .nil, (fun q hq => by cases List.mem_singleton.1 hq; exact o16), by show 1 ≤ 1000; decide, rd1, fun t26 dl ll ds ls H26 e26 sq26 hd26 rp26 hl26 al26 => ?_⟩
      have e6 := e25.trans e26
      refine ⟨_, rfl, S, dx16, _, rfl, e6 _ _ hS21, rfl, _, rfl, Nat.le_of_ble_eq_true rfl, fun pl2 hpl2 => ?_⟩
      have e7 := Ex.new (o := HO.lst [u15]) hpl2
      have e67 := e6.trans e7
      refine ⟨S, c, d, nt, M16, pl2, [u15], [y], _, _, m2, rfl, L21.sto.ex e67, upd_same, .cons (d21.tups (.of e67)) .nil, (fun q hq => by cases List.mem_singleton.1 hq; exact o15), by show 1 ≤ 1000; decide, rd2, fun t28 dl2 ll2 ds2 ls2 H28 e28 sq28 hd28 rp28 hl28 al28 => ?_⟩
      have e78 := e7.trans e28
      have okr : Oks [numT (vx [] (sb σ t)) (sb σ t)] := by
        rw [oks_cons]
        exact ⟨ok_num _ _ uok, trivial⟩
      have dpr : depths [numT (vx [] (sb σ t)) (sb σ t)] ≤ 50 := by
        show max (depth (numT _ (sb σ t))) 0 ≤ 50
        rw [depth_num]
        omega
      refine ⟨_, _, dp_rd (Evl.ex_t e78 sq26) (e78 _ _ hd26) (rp26.mono (.of e78)) (e78 _ _ hl26) (al26.tups (.of e78)), dp_rd sq28 hd28 rp28 hl28 al28, shp_rd okr dpr _, shp_rd okr dpr _, false, ?_, iteF ⟨rfl, e67.trans e28⟩⟩
      rw [SeqAt.eqv_refl _ (lay_rd okr _)]
      rfl
  rintro _ H30 ⟨rfl, e30⟩
  refine ⟨fun σ' H' => σ' = [some (.ref ascr), some (.int z), some (.ref a), some (.ref S), some (.ref Dn), some (.ref Db), x6, some x, some v, some u15, some u16, some (.ref kp), x12, x13] ∧ Ex H21 H', ?_, ?_⟩
  · have rt30 := rt21.mono (Tups.of (K := K) e30)
    obtain ⟨tv, y1, y2⟩ := isi_tup rt30
    refine ⟨_, rfl, _, _, tv, _, isTup t, rfl, .ty "tuple", y1, y2, isTup t, rfl, ?_⟩
    have dis : (∃ k, t = .var k) ∨ (∃ f as, t = .comp f as) ∨ isTup t = false := by
      cases t with
      | var k => exact .inl ⟨k, rfl⟩
      | atom _ => exact .inr (.inr rfl)
      | int _ => exact .inr (.inr rfl)
      | comp f as => exact .inr (.inl ⟨f, as, rfl⟩)
    rcases dis with ⟨k', rfl⟩ | ⟨f, as, rfl⟩ | e
    · have hR2 := rt30
      unfold Rep at hR2
      obtain ⟨p, rfl, hT⟩ := hR2
      exact iteT ⟨_, rfl, p, _, rfl, .inr hT, _, _, rfl, rfl, false, rfl, iteF (iteF ⟨rfl, e30⟩)⟩
    · have hR2 := rt30
      unfold Rep at hR2
      obtain ⟨p, ws, rfl, hT, hA⟩ := hR2
      have hl := hA.len
      have ok2 := gok
      unfold Ok at ok2
      have ey : ee = y := by
        unfold RawC at hraw
        obtain ⟨n, rfl, _⟩ := hraw
        exact fol15.det (.stop (fun a z => by cases z))
      refine iteT ⟨_, rfl, p, _, rfl, .inr hT, _, _, rfl, rfl, true, ?_, iteT ?_⟩
      · show V.bl (decide ((1 : Int) < ((V.str f :: ws).length : Int))) = V.bl true
        rw [decide_eq_true (by rw [List.length_cons]; omega)]
      refine ⟨_, rfl, S, dx16, _, rfl, e30 _ _ hS21, rfl, _, rfl, S, c, d, nt, M16, u16, y16, ee, k16, rfl, L21.sto.ex e30, c21.tups (.of e30), o16, fol16, fun v31 H31 e31 g31 => ?_⟩
      refine ⟨_, rfl, _, _, dp_ce g31, dp_ce (d21.tups (.of (e30.trans e31))), shaped_ce oke, shaped_ce o15, false, by rw [eqv_ce, decide_eq_true ey]; rfl, iteF ⟨rfl, e30.trans e31⟩⟩
    · rw [e]
      exact iteF (iteF ⟨rfl, e30⟩)
  clear e30 H30
  rintro _ H32 ⟨rfl, e32⟩
  have rt32 := rt21.mono (Tups.of (K := K) e32)
  refine ⟨Nat.le_of_ble_eq_true rfl, fun pl hpl => ?_⟩
  have e33 := e32.trans (Ex.new (o := HO.lst [V.str "int", V.str "con"]) hpl)
  have rt33 := rt21.mono (Tups.of (K := K) e33)
  obtain ⟨tv, y1, y2⟩ := isi_str rt33
  have hz : atI [V.str "int", V.str "con"] (if isAtom t = true then 1 else 0) = some (.str (if isAtom t = true then "con" else "int")) := by
    cases isAtom t <;> rfl
  refine ⟨_, rfl, _, _, tv, _, isAtom t, rfl, .ty "str", y1, y2, .inr ⟨_, rfl, pl, _, _, .str (if isAtom t = true then "con" else "int"), rfl, rfl, SqL.of upd_same, hz, ?_⟩⟩
  clear y1 y2 hz tv
  generalize upd H32 pl (.lst [V.str "int", V.str "con"]) = H33 at *
  clear hpl e32 rt32
  refine ⟨fun σ' H' => σ' = [some (.ref ascr), some (.int z), some (.ref a), some (.ref S), some (.ref Dn), some (.ref Db), x6, some x, some v, some u15, some u16, some (.ref kp), some (.str (if isAtom t = true then "con" else "int")), x13] ∧ Ex H21 H', ?_, ?_⟩
  · obtain ⟨tv, y1, y2⟩ := isi_tup rt33
    refine ⟨_, rfl, _, _, tv, _, isTup t, rfl, .ty "tuple", y1, y2, isTup t, rfl, ?_⟩
    have dis : isTup t = true ∨ (∃ s, t = .atom s) ∨ ∃ i, t = .int i := by
      cases t with
      | var k => exact .inl rfl
      | atom s => exact .inr (.inl ⟨s, rfl⟩)
      | int i => exact .inr (.inr ⟨i, rfl⟩)
      | comp f as => exact .inl rfl
    rcases dis with e | ⟨s', rfl⟩ | ⟨i', rfl⟩
    · rw [e]
      exact iteF (iteF ⟨rfl, e33⟩)
    · have hR2 := rt33
      unfold Rep at hR2
      subst hR2
      have ey : ee = .con s' := by
        have h : Den M16 adh (.atom s') y := den15
        unfold Den at h
        obtain ⟨_, f⟩ := h
        exact fol15.det f
      refine iteT ⟨_, rfl, S, dx16, _, rfl, e33 _ _ hS21, rfl, _, rfl, S, c, d, nt, M16, u16, y16, ee, k16, rfl, L21.sto.ex e33, c21.tups (.of e33), o16, fol16, fun v34 H34 e34 g34 => ?_⟩
      refine ⟨_, rfl, _, rfl, Nat.le_of_ble_eq_true rfl, fun pt hpt => ?_⟩
      have e35 := Ex.new (o := HO.tup [V.str "con", V.str s']) hpt
      refine ⟨_, _, dp_ce (g34.tups (.of e35)), dp_ce (c := .con s') ⟨pt, rfl, .of upd_same⟩, shaped_ce oke, shaped_ce (by rw [← ey]; exact oke), false, by rw [eqv_ce, decide_eq_true ey]; rfl, iteF ⟨rfl, e33.trans (e34.trans e35)⟩⟩
    · have hR2 := rt33
      unfold Rep at hR2
      subst hR2
      have ey : ee = .num i' := by
        have h : Den M16 adh (.int i') y := den15
        unfold Den at h
        obtain ⟨_, f⟩ := h
        exact fol15.det f
      refine iteT ⟨_, rfl, S, dx16, _, rfl, e33 _ _ hS21, rfl, _, rfl, S, c, d, nt, M16, u16, y16, ee, k16, rfl, L21.sto.ex e33, c21.tups (.of e33), o16, fol16, fun v34 H34 e34 g34 => ?_⟩
      refine ⟨_, rfl, _, rfl, Nat.le_of_ble_eq_true rfl, fun pt hpt => ?_⟩
      have e35 := Ex.new (o := HO.tup [V.str "int", V.int i']) hpt
      refine ⟨_, _, dp_ce (g34.tups (.of e35)), dp_ce (c := .num i') ⟨pt, rfl, .of upd_same⟩, shaped_ce oke, shaped_ce (by rw [← ey]; exact oke), false, by rw [eqv_ce, decide_eq_true ey]; rfl, iteF ⟨rfl, e33.trans (e34.trans e35)⟩⟩
  clear e33 rt33
  rintro _ H36 ⟨rfl, e36⟩
  generalize (if isAtom t = true then ("con" : Str) else "int") = wd at *
  refine ⟨4, rfl, by decide, by decide, for_it walk_range (fun i σ' H' => i ≤ 4 ∧ ∃ x6 x13, σ' = [some (.ref ascr), some (.int z), some (.ref a), some (.ref S), some (.ref Dn), some (.ref Db), x6, some x, some v, some u15, some u16, some (.ref kp), some (.str wd), x13] ∧ Ex H21 H') ⟨Nat.zero_le _, _, _, rfl, e36⟩ (fun _ _ _ _ _ => trivial) ?_ ?_⟩
  · clear e36
    rintro i' nx σ' Hx2 H37 hi' ⟨_, y6, y13, rfl, e37⟩ ⟨rfl, hxi⟩
    have hxj' : nx = V.int (i' : Int) := hxi.trans (by show V.int (0 + (i' : Int)) = _; rw [Int.zero_add])
    subst hxj'
    clear hxi
    have hi4 : i' < 4 := hi'
    have L37 := L21.ex e37
    obtain ⟨o, g1, g2⟩ := L37.bnd.has (i' : Int)
    refine ⟨_, rfl, _, rfl, Db, o, rfl, g1, ?_⟩
    rw [g2]
    cases eb : bd (i' : Int) with
    | some s => exact ⟨false, rfl, iteF ⟨by omega, _, _, rfl, e37⟩⟩
    | none =>
      refine ⟨true, rfl, iteT ?_⟩
      obtain ⟨nv5, gn5, cn5, on5⟩ := L37.nam.get (k := (i' : Int)) (x := .ref (adh (i' : Int))) (nm4_some (by omega) (by omega))
      obtain ⟨pn, un, rfl, sn5, an5⟩ := cn5
      obtain ⟨mo, hOc⟩ := con_den (by omega) den16 uok uvb (k := (i' : Int)) (by omega) (by omega)
      have inr : (i' : Int).toNat < M16.cs.length := by
        have := V16.len
        omega
      refine ⟨_, rfl, S, dx16, _, rfl, e37 _ _ hS21, rfl, _, rfl, _, rfl, Dn, .ref pn, rfl, gn5, pn, _, 1, _, rfl, rfl, sn5, rfl, _, rfl, S, c, d, nt, M16, un, adh (i' : Int), u16, y16, mo, _, rfl, L37.sto, an5, inr, c21.tups (.of e37), o16, hOc, fun H38 e38 => ?_⟩
      have e78 := e37.trans e38
      refine ⟨_, rfl, _, _, _, _, true, rfl, .ty "bool", .base (.bl _), kit_ty (a := "bool") (by decide +kernel), true, rfl, iteF ?_⟩
      have L38 := L21.ex e78
      refine ⟨_, rfl, _, rfl, _, rfl, _, rfl, by decide, (i' : Int), v, Db, t, bd, σ, dq 4, rfl, rt21.mono (Tups.of (K := K) e78), gok, gvb, L38.bnd, hBd, (show depth (sb σ t) ≤ 59 by omega), fun H39 e39 => ⟨rfl, false, by simp, iteF ?_⟩⟩
      exact ⟨by omega, _, _, rfl, e78.trans e39⟩
  rintro σ' H40 ⟨_, y6, y13, rfl, e40⟩
  clear e36
  refine ⟨_, rfl, S, dx16, _, rfl, e40 _ _ hS21, rfl, S, c, d, nt, M16, rfl, L21.sto.ex e40, fun hp41 us41 H41 n41 e41 u41 al41 => ?_⟩
  have e01 := e40.trans e41
  refine ⟨_, rfl, S, dx16, _, rfl, e01 _ _ hS21, rfl, S, c, d, nt, M16, rfl, L21.sto.ex e01, fun tr42 us42 H42 n42 e42 u42 al42 => ⟨Nat.le_of_ble_eq_true rfl, fun kp2 hkp2 => ?_⟩⟩
  have e43 := Ex.new (o := HO.tup [V.ref hp41, V.ref tr42]) hkp2
  have e03 := e01.trans (e42.trans e43)
  refine ⟨_, rfl, _, _, dp_hp (.of upd_same) ((e42.trans e43) _ _ u41) (al41.tups (.of (e42.trans e43))) (e43 _ _ u42) (al42.tups (.of e43)), dp_hp (Evl.ex_t e03 q21) (e03 _ _ u21) (al21.tups (.of e03)) (e03 _ _ w21) (bl21.tups (.of e03)), shp_hp okc _, shp_hp okc _, false, ?_, iteF ?_⟩
  · rw [SeqAt.eqv_refl _ (lay_hp okc _)]
    rfl
  exact ⟨by omega, M16, _, _, _, _, _, _, _, _, rfl, E21.trans e03, (L21.ex e03).le (by omega), V16, Z16, l16'⟩
end
end Hm

set_option Elab.async false
set_option linter.all false
set_option maxRecDepth 100000
set_option maxHeartbeats 4000000
namespace Hm
open PySem PySem.Spec PyProof.Rows L2 HT
theorem mod_one {K : PySem.W.Frag} {N : Addr} {o : Option Addr} {m : Nat} {w : Array (Option Value)} {g : Tok} (h : K.lookup N = some ⟨.type "tuple", o, .seq #[.str "none" g] m, w⟩) : ∀ H : Hp, SqT K H N [.str "none"] := fun H =>
  .inr ⟨_, _, _, h, rfl, rfl, (by show 1 ≤ sizeLine; decide), .cons ⟨_, rfl⟩ .nil⟩
theorem all_mk {l : PySem.W.OpenLaw} {w : World} {K : PySem.W.Frag} {h : Heap} {mg : Str → Option Value} {fa : Addr} (X : K.In h) (G : h.Ns mainGlobals mg) (hfa : mg "law" = some (.ref fa))
    {f1 : Addr}
    {od1 an1 : Option Addr} {sl1 : Array (Option Value)} {oc1 kV1 dc1 pm1 cd1 ct1 : Value}
    {f2 : Addr}
    {od2 an2 : Option Addr} {sl2 : Array (Option Value)} {oc2 kV2 dc2 pm2 cd2 ct2 : Value}
    {f3 : Addr}
    {od3 an3 : Option Addr} {sl3 : Array (Option Value)} {oc3 kV3 dc3 pm3 cd3 ct3 : Value}
    {f4 : Addr}
    {od4 an4 : Option Addr} {sl4 : Array (Option Value)} {oc4 kV4 dc4 pm4 cd4 ct4 : Value}
    {f5 : Addr}
    {od5 an5 : Option Addr} {sl5 : Array (Option Value)} {oc5 kV5 dc5 pm5 cd5 ct5 : Value}
    {f6 : Addr}
    {od6 an6 : Option Addr} {sl6 : Array (Option Value)} {oc6 kV6 dc6 pm6 cd6 ct6 : Value}
    {f7 : Addr}
    {od7 an7 : Option Addr} {sl7 : Array (Option Value)} {oc7 kV7 dc7 pm7 cd7 ct7 : Value}
    {f8 : Addr}
    {od8 an8 : Option Addr} {sl8 : Array (Option Value)} {oc8 kV8 dc8 pm8 cd8 ct8 : Value}
    {f9 : Addr}
    {od9 an9 : Option Addr} {sl9 : Array (Option Value)} {oc9 kV9 dc9 pm9 cd9 ct9 : Value}
    {f10 : Addr}
    {od10 an10 : Option Addr} {sl10 : Array (Option Value)} {oc10 kV10 dc10 pm10 cd10 ct10 : Value}
    {f11 : Addr}
    {od11 an11 : Option Addr} {sl11 : Array (Option Value)} {oc11 kV11 dc11 pm11 cd11 ct11 : Value}
    {f12 : Addr}
    {od12 an12 : Option Addr} {sl12 : Array (Option Value)} {oc12 kV12 dc12 pm12 cd12 ct12 : Value}
    {f13 : Addr}
    {od13 an13 : Option Addr} {sl13 : Array (Option Value)} {oc13 kV13 dc13 pm13 cd13 ct13 : Value}
    {f14 : Addr}
    {od14 an14 : Option Addr} {sl14 : Array (Option Value)} {oc14 kV14 dc14 pm14 cd14 ct14 : Value}
    {f15 : Addr}
    {od15 an15 : Option Addr} {sl15 : Array (Option Value)} {oc15 kV15 dc15 pm15 cd15 ct15 : Value}
    {f16 : Addr}
    {od16 an16 : Option Addr} {sl16 : Array (Option Value)} {oc16 kV16 dc16 pm16 cd16 ct16 : Value}
    {f17 : Addr}
    {od17 an17 : Option Addr} {sl17 : Array (Option Value)} {oc17 kV17 dc17 pm17 cd17 ct17 : Value}
    {f18 : Addr}
    {od18 an18 : Option Addr} {sl18 : Array (Option Value)} {oc18 kV18 dc18 pm18 cd18 ct18 : Value}
    {f19 : Addr}
    {od19 an19 : Option Addr} {sl19 : Array (Option Value)} {oc19 kV19 dc19 pm19 cd19 ct19 : Value}
    {f20 : Addr}
    {od20 an20 : Option Addr} {sl20 : Array (Option Value)} {oc20 kV20 dc20 pm20 cd20 ct20 : Value}
    {f21 : Addr}
    {od21 an21 : Option Addr} {sl21 : Array (Option Value)} {oc21 kV21 dc21 pm21 cd21 ct21 : Value}
    {f22 : Addr}
    {od22 an22 : Option Addr} {sl22 : Array (Option Value)} {oc22 kV22 dc22 pm22 cd22 ct22 : Value}
    {f23 : Addr}
    {od23 an23 : Option Addr} {sl23 : Array (Option Value)} {oc23 kV23 dc23 pm23 cd23 ct23 : Value}
    {f24 : Addr}
    {od24 an24 : Option Addr} {sl24 : Array (Option Value)} {oc24 kV24 dc24 pm24 cd24 ct24 : Value}
    {f25 : Addr}
    {od25 an25 : Option Addr} {sl25 : Array (Option Value)} {oc25 kV25 dc25 pm25 cd25 ct25 : Value}
    {f26 : Addr}
    {od26 an26 : Option Addr} {sl26 : Array (Option Value)} {oc26 kV26 dc26 pm26 cd26 ct26 : Value}
    {CC : Addr}
    {f27 : Addr}
    {od27 an27 : Option Addr} {sl27 : Array (Option Value)} {oc27 kV27 dc27 pm27 cd27 ct27 : Value}
    {f28 : Addr}
    {od28 an28 : Option Addr} {sl28 : Array (Option Value)} {oc28 kV28 dc28 pm28 cd28 ct28 : Value}
    {f29 : Addr}
    {od29 an29 : Option Addr} {sl29 : Array (Option Value)} {oc29 kV29 dc29 pm29 cd29 ct29 : Value}
    {f30 : Addr}
    {od30 an30 : Option Addr} {sl30 : Array (Option Value)} {oc30 kV30 dc30 pm30 cd30 ct30 : Value}
    {f31 : Addr}
    {od31 an31 : Option Addr} {sl31 : Array (Option Value)} {oc31 kV31 dc31 pm31 cd31 ct31 : Value}
    {f32 : Addr}
    {od32 an32 : Option Addr} {sl32 : Array (Option Value)} {oc32 kV32 dc32 pm32 cd32 ct32 : Value}
    {f33 : Addr}
    {od33 an33 : Option Addr} {sl33 : Array (Option Value)} {oc33 kV33 dc33 pm33 cd33 ct33 : Value}
    {f34 : Addr}
    {od34 an34 : Option Addr} {sl34 : Array (Option Value)} {oc34 kV34 dc34 pm34 cd34 ct34 : Value}
    {f35 : Addr}
    {od35 an35 : Option Addr} {sl35 : Array (Option Value)} {oc35 kV35 dc35 pm35 cd35 ct35 : Value}
    {f36 : Addr}
    {od36 an36 : Option Addr} {sl36 : Array (Option Value)} {oc36 kV36 dc36 pm36 cd36 ct36 : Value}
    {f37 : Addr}
    {od37 an37 : Option Addr} {sl37 : Array (Option Value)} {oc37 kV37 dc37 pm37 cd37 ct37 : Value}
    {f38 : Addr}
    {od38 an38 : Option Addr} {sl38 : Array (Option Value)} {oc38 kV38 dc38 pm38 cd38 ct38 : Value}
    {f39 : Addr}
    {od39 an39 : Option Addr} {sl39 : Array (Option Value)} {oc39 kV39 dc39 pm39 cd39 ct39 : Value}
    {f40 : Addr}
    {od40 an40 : Option Addr} {sl40 : Array (Option Value)} {oc40 kV40 dc40 pm40 cd40 ct40 : Value}
    {f41 : Addr}
    {od41 an41 : Option Addr} {sl41 : Array (Option Value)} {oc41 kV41 dc41 pm41 cd41 ct41 : Value}
    {f42 : Addr}
    {od42 an42 : Option Addr} {sl42 : Array (Option Value)} {oc42 kV42 dc42 pm42 cd42 ct42 : Value}
    {f43 : Addr}
    {od43 an43 : Option Addr} {sl43 : Array (Option Value)} {oc43 kV43 dc43 pm43 cd43 ct43 : Value}
    {f44 : Addr}
    {od44 an44 : Option Addr} {sl44 : Array (Option Value)} {oc44 kV44 dc44 pm44 cd44 ct44 : Value}
    {f45 : Addr}
    {od45 an45 : Option Addr} {sl45 : Array (Option Value)} {oc45 kV45 dc45 pm45 cd45 ct45 : Value}
    {f46 : Addr}
    {od46 an46 : Option Addr} {sl46 : Array (Option Value)} {oc46 kV46 dc46 pm46 cd46 ct46 : Value}
    {f47 : Addr}
    {od47 an47 : Option Addr} {sl47 : Array (Option Value)} {oc47 kV47 dc47 pm47 cd47 ct47 : Value}
    {u1 : Tok}
    {u2 : Tok}
    {u3 : Tok}
    {u4 : Tok}
    {N1 : Addr} {o1 : Option Addr} {m1 : Nat} {w1 : Array (Option Value)} {g1 : Tok}
    (a1 : PySem.W.nsIn K mainGlobals "is_integer" = some (some (.ref f1)))
    (l1 : K.lookup f1 = some ⟨oc1, od1, .func (PySem.W.fnOf "is_integer" "is_integer" (defArgs s_is_integer) (defBody s_is_integer) (defScope s_is_integer) .none kV1 dc1 pm1 an1 cd1 ct1), sl1⟩)
    (c1 : PySem.W.codeIn K cd1 "is_integer" = true) (k1 : PySem.W.keepIn K (.ref f1) = true)
    (a2 : PySem.W.nsIn K mainGlobals "is_sign" = some (some (.ref f2)))
    (l2 : K.lookup f2 = some ⟨oc2, od2, .func (PySem.W.fnOf "is_sign" "is_sign" (defArgs s_is_sign) (defBody s_is_sign) (defScope s_is_sign) .none kV2 dc2 pm2 an2 cd2 ct2), sl2⟩)
    (c2 : PySem.W.codeIn K cd2 "is_sign" = true) (k2 : PySem.W.keepIn K (.ref f2) = true)
    (a3 : PySem.W.nsIn K mainGlobals "is_atom" = some (some (.ref f3)))
    (l3 : K.lookup f3 = some ⟨oc3, od3, .func (PySem.W.fnOf "is_atom" "is_atom" (defArgs s_is_atom) (defBody s_is_atom) (defScope s_is_atom) .none kV3 dc3 pm3 an3 cd3 ct3), sl3⟩)
    (c3 : PySem.W.codeIn K cd3 "is_atom" = true) (k3 : PySem.W.keepIn K (.ref f3) = true)
    (a4 : PySem.W.nsIn K mainGlobals "is_number" = some (some (.ref f4)))
    (l4 : K.lookup f4 = some ⟨oc4, od4, .func (PySem.W.fnOf "is_number" "is_number" (defArgs s_is_number) (defBody s_is_number) (defScope s_is_number) .none kV4 dc4 pm4 an4 cd4 ct4), sl4⟩)
    (c4 : PySem.W.codeIn K cd4 "is_number" = true) (k4 : PySem.W.keepIn K (.ref f4) = true)
    (a5 : PySem.W.nsIn K mainGlobals "is_term" = some (some (.ref f5)))
    (l5 : K.lookup f5 = some ⟨oc5, od5, .func (PySem.W.fnOf "is_term" "is_term" (defArgs s_is_term) (defBody s_is_term) (defScope s_is_term) .none kV5 dc5 pm5 an5 cd5 ct5), sl5⟩)
    (c5 : PySem.W.codeIn K cd5 "is_term" = true) (k5 : PySem.W.keepIn K (.ref f5) = true)
    (a6 : PySem.W.nsIn K mainGlobals "_is_part" = some (some (.ref f6)))
    (l6 : K.lookup f6 = some ⟨oc6, od6, .func (PySem.W.fnOf "_is_part" "_is_part" (defArgs s_is_part) (defBody s_is_part) (defScope s_is_part) .none kV6 dc6 pm6 an6 cd6 ct6), sl6⟩)
    (c6 : PySem.W.codeIn K cd6 "_is_part" = true) (k6 : PySem.W.keepIn K (.ref f6) = true)
    (a7 : PySem.W.nsIn K mainGlobals "arguments_of" = some (some (.ref f7)))
    (l7 : K.lookup f7 = some ⟨oc7, od7, .func (PySem.W.fnOf "arguments_of" "arguments_of" (defArgs s_arguments_of) (defBody s_arguments_of) (defScope s_arguments_of) .none kV7 dc7 pm7 an7 cd7 ct7), sl7⟩)
    (c7 : PySem.W.codeIn K cd7 "arguments_of" = true) (k7 : PySem.W.keepIn K (.ref f7) = true)
    (a8 : PySem.W.nsIn K mainGlobals "is_variable" = some (some (.ref f8)))
    (l8 : K.lookup f8 = some ⟨oc8, od8, .func (PySem.W.fnOf "is_variable" "is_variable" (defArgs s_is_variable) (defBody s_is_variable) (defScope s_is_variable) .none kV8 dc8 pm8 an8 cd8 ct8), sl8⟩)
    (c8 : PySem.W.codeIn K cd8 "is_variable" = true) (k8 : PySem.W.keepIn K (.ref f8) = true)
    (a9 : PySem.W.nsIn K mainGlobals "demand_term" = some (some (.ref f9)))
    (l9 : K.lookup f9 = some ⟨oc9, od9, .func (PySem.W.fnOf "demand_term" "demand_term" (defArgs s_demand_term) (defBody s_demand_term) (defScope s_demand_term) .none kV9 dc9 pm9 an9 cd9 ct9), sl9⟩)
    (c9 : PySem.W.codeIn K cd9 "demand_term" = true) (k9 : PySem.W.keepIn K (.ref f9) = true)
    (a10 : PySem.W.nsIn K mainGlobals "is_address" = some (some (.ref f10)))
    (l10 : K.lookup f10 = some ⟨oc10, od10, .func (PySem.W.fnOf "is_address" "is_address" (defArgs s_is_address) (defBody s_is_address) (defScope s_is_address) .none kV10 dc10 pm10 an10 cd10 ct10), sl10⟩)
    (c10 : PySem.W.codeIn K cd10 "is_address" = true) (k10 : PySem.W.keepIn K (.ref f10) = true)
    (a11 : PySem.W.nsIn K mainGlobals "is_cell" = some (some (.ref f11)))
    (l11 : K.lookup f11 = some ⟨oc11, od11, .func (PySem.W.fnOf "is_cell" "is_cell" (defArgs s_is_cell) (defBody s_is_cell) (defScope s_is_cell) .none kV11 dc11 pm11 an11 cd11 ct11), sl11⟩)
    (c11 : PySem.W.codeIn K cd11 "is_cell" = true) (k11 : PySem.W.keepIn K (.ref f11) = true)
    (a12 : PySem.W.nsIn K mainGlobals "_is_pair_cell" = some (some (.ref f12)))
    (l12 : K.lookup f12 = some ⟨oc12, od12, .func (PySem.W.fnOf "_is_pair_cell" "_is_pair_cell" (defArgs s_is_pair_cell) (defBody s_is_pair_cell) (defScope s_is_pair_cell) .none kV12 dc12 pm12 an12 cd12 ct12), sl12⟩)
    (c12 : PySem.W.codeIn K cd12 "_is_pair_cell" = true) (k12 : PySem.W.keepIn K (.ref f12) = true)
    (a13 : PySem.W.nsIn K mainGlobals "demand_cell" = some (some (.ref f13)))
    (l13 : K.lookup f13 = some ⟨oc13, od13, .func (PySem.W.fnOf "demand_cell" "demand_cell" (defArgs s_demand_cell) (defBody s_demand_cell) (defScope s_demand_cell) .none kV13 dc13 pm13 an13 cd13 ct13), sl13⟩)
    (c13 : PySem.W.codeIn K cd13 "demand_cell" = true) (k13 : PySem.W.keepIn K (.ref f13) = true)
    (a14 : PySem.W.nsIn K mainGlobals "_leaf_cell" = some (some (.ref f14)))
    (l14 : K.lookup f14 = some ⟨oc14, od14, .func (PySem.W.fnOf "_leaf_cell" "_leaf_cell" (defArgs s_leaf_cell) (defBody s_leaf_cell) (defScope s_leaf_cell) .none kV14 dc14 pm14 an14 cd14 ct14), sl14⟩)
    (c14 : PySem.W.codeIn K cd14 "_leaf_cell" = true) (k14 : PySem.W.keepIn K (.ref f14) = true)
    (a15 : PySem.W.nsIn K mainGlobals "_law_cell_at" = some (some (.ref f15)))
    (l15 : K.lookup f15 = some ⟨oc15, od15, .func (PySem.W.fnOf "_law_cell_at" "_law_cell_at" (defArgs s_law_cell_at) (defBody s_law_cell_at) (defScope s_law_cell_at) .none kV15 dc15 pm15 an15 cd15 ct15), sl15⟩)
    (c15 : PySem.W.codeIn K cd15 "_law_cell_at" = true) (k15 : PySem.W.keepIn K (.ref f15) = true)
    (a16 : PySem.W.nsIn K mainGlobals "_law_well" = some (some (.ref f16)))
    (l16 : K.lookup f16 = some ⟨oc16, od16, .func (PySem.W.fnOf "_law_well" "_law_well" (defArgs s_law_well) (defBody s_law_well) (defScope s_law_well) .none kV16 dc16 pm16 an16 cd16 ct16), sl16⟩)
    (c16 : PySem.W.codeIn K cd16 "_law_well" = true) (k16 : PySem.W.keepIn K (.ref f16) = true)
    (a17 : PySem.W.nsIn K mainGlobals "_law_draw" = some (some (.ref f17)))
    (l17 : K.lookup f17 = some ⟨oc17, od17, .func (PySem.W.fnOf "_law_draw" "_law_draw" (defArgs s_law_draw) (defBody s_law_draw) (defScope s_law_draw) .none kV17 dc17 pm17 an17 cd17 ct17), sl17⟩)
    (c17 : PySem.W.codeIn K cd17 "_law_draw" = true) (k17 : PySem.W.keepIn K (.ref f17) = true)
    (a18 : PySem.W.nsIn K mainGlobals "_law_one" = some (some (.ref f18)))
    (l18 : K.lookup f18 = some ⟨oc18, od18, .func (PySem.W.fnOf "_law_one" "_law_one" (defArgs s_law_one) (defBody s_law_one) (defScope s_law_one) .none kV18 dc18 pm18 an18 cd18 ct18), sl18⟩)
    (c18 : PySem.W.codeIn K cd18 "_law_one" = true) (k18 : PySem.W.keepIn K (.ref f18) = true)
    (a19 : PySem.W.nsIn K mainGlobals "_law_term" = some (some (.ref f19)))
    (l19 : K.lookup f19 = some ⟨oc19, od19, .func (PySem.W.fnOf "_law_term" "_law_term" (defArgs s_law_term) (defBody s_law_term) (defScope s_law_term) .none kV19 dc19 pm19 an19 cd19 ct19), sl19⟩)
    (c19 : PySem.W.codeIn K cd19 "_law_term" = true) (k19 : PySem.W.keepIn K (.ref f19) = true)
    (a20 : PySem.W.nsIn K mainGlobals "_law_walk" = some (some (.ref f20)))
    (l20 : K.lookup f20 = some ⟨oc20, od20, .func (PySem.W.fnOf "_law_walk" "_law_walk" (defArgs s_law_walk) (defBody s_law_walk) (defScope s_law_walk) .none kV20 dc20 pm20 an20 cd20 ct20), sl20⟩)
    (c20 : PySem.W.codeIn K cd20 "_law_walk" = true) (k20 : PySem.W.keepIn K (.ref f20) = true)
    (a21 : PySem.W.nsIn K mainGlobals "_law_has" = some (some (.ref f21)))
    (l21 : K.lookup f21 = some ⟨oc21, od21, .func (PySem.W.fnOf "_law_has" "_law_has" (defArgs s_law_has) (defBody s_law_has) (defScope s_law_has) .none kV21 dc21 pm21 an21 cd21 ct21), sl21⟩)
    (c21 : PySem.W.codeIn K cd21 "_law_has" = true) (k21 : PySem.W.keepIn K (.ref f21) = true)
    (a22 : PySem.W.nsIn K mainGlobals "_law_whole" = some (some (.ref f22)))
    (l22 : K.lookup f22 = some ⟨oc22, od22, .func (PySem.W.fnOf "_law_whole" "_law_whole" (defArgs s_law_whole) (defBody s_law_whole) (defScope s_law_whole) .none kV22 dc22 pm22 an22 cd22 ct22), sl22⟩)
    (c22 : PySem.W.codeIn K cd22 "_law_whole" = true) (k22 : PySem.W.keepIn K (.ref f22) = true)
    (a23 : PySem.W.nsIn K mainGlobals "_law_parts" = some (some (.ref f23)))
    (l23 : K.lookup f23 = some ⟨oc23, od23, .func (PySem.W.fnOf "_law_parts" "_law_parts" (defArgs s_law_parts) (defBody s_law_parts) (defScope s_law_parts) .none kV23 dc23 pm23 an23 cd23 ct23), sl23⟩)
    (c23 : PySem.W.codeIn K cd23 "_law_parts" = true) (k23 : PySem.W.keepIn K (.ref f23) = true)
    (a24 : PySem.W.nsIn K mainGlobals "_law_chain" = some (some (.ref f24)))
    (l24 : K.lookup f24 = some ⟨oc24, od24, .func (PySem.W.fnOf "_law_chain" "_law_chain" (defArgs s_law_chain) (defBody s_law_chain) (defScope s_law_chain) .none kV24 dc24 pm24 an24 cd24 ct24), sl24⟩)
    (c24 : PySem.W.codeIn K cd24 "_law_chain" = true) (k24 : PySem.W.keepIn K (.ref f24) = true)
    (a25 : PySem.W.nsIn K mainGlobals "_law_bind_some" = some (some (.ref f25)))
    (l25 : K.lookup f25 = some ⟨oc25, od25, .func (PySem.W.fnOf "_law_bind_some" "_law_bind_some" (defArgs s_law_bind_some) (defBody s_law_bind_some) (defScope s_law_bind_some) .none kV25 dc25 pm25 an25 cd25 ct25), sl25⟩)
    (c25 : PySem.W.codeIn K cd25 "_law_bind_some" = true) (k25 : PySem.W.keepIn K (.ref f25) = true)
    (a26 : PySem.W.nsIn K mainGlobals "law" = some (some (.ref f26)))
    (l26 : K.lookup f26 = some ⟨oc26, od26, .func (PySem.W.fnOf "law" "law" (defArgs s_law) (defBody s_law) (defScope s_law) .none kV26 dc26 pm26 an26 cd26 ct26), sl26⟩)
    (c26 : PySem.W.codeIn K cd26 "law" = true) (k26 : PySem.W.keepIn K (.ref f26) = true)
    (aC : PySem.W.nsIn K mainGlobals "Store" = some (some (.ref CC)))
    (a27 : PySem.W.findIn K (.ref CC) "__init__" = some (some (.ref f27)))
    (i27 : PySem.W.isFn K (.ref f27) = true)
    (l27 : K.lookup f27 = some ⟨oc27, od27, .func (PySem.W.fnOf "__init__" "Store.__init__" (defArgs s_St_init) (defBody s_St_init) (defScope s_St_init) .none kV27 dc27 pm27 an27 cd27 ct27), sl27⟩)
    (c27 : PySem.W.codeIn K cd27 "Store.__init__" = true) (k27 : PySem.W.keepIn K (.ref f27) = true)
    (a28 : PySem.W.findIn K (.ref CC) "heap" = some (some (.ref f28)))
    (i28 : PySem.W.isFn K (.ref f28) = true)
    (l28 : K.lookup f28 = some ⟨oc28, od28, .func (PySem.W.fnOf "heap" "Store.heap" (defArgs s_St_heap) (defBody s_St_heap) (defScope s_St_heap) .none kV28 dc28 pm28 an28 cd28 ct28), sl28⟩)
    (c28 : PySem.W.codeIn K cd28 "Store.heap" = true) (k28 : PySem.W.keepIn K (.ref f28) = true)
    (a29 : PySem.W.findIn K (.ref CC) "trail" = some (some (.ref f29)))
    (i29 : PySem.W.isFn K (.ref f29) = true)
    (l29 : K.lookup f29 = some ⟨oc29, od29, .func (PySem.W.fnOf "trail" "Store.trail" (defArgs s_St_trail) (defBody s_St_trail) (defScope s_St_trail) .none kV29 dc29 pm29 an29 cd29 ct29), sl29⟩)
    (c29 : PySem.W.codeIn K cd29 "Store.trail" = true) (k29 : PySem.W.keepIn K (.ref f29) = true)
    (a30 : PySem.W.findIn K (.ref CC) "size" = some (some (.ref f30)))
    (i30 : PySem.W.isFn K (.ref f30) = true)
    (l30 : K.lookup f30 = some ⟨oc30, od30, .func (PySem.W.fnOf "size" "Store.size" (defArgs s_St_size) (defBody s_St_size) (defScope s_St_size) .none kV30 dc30 pm30 an30 cd30 ct30), sl30⟩)
    (c30 : PySem.W.codeIn K cd30 "Store.size" = true) (k30 : PySem.W.keepIn K (.ref f30) = true)
    (a31 : PySem.W.findIn K (.ref CC) "end" = some (some (.ref f31)))
    (i31 : PySem.W.isFn K (.ref f31) = true)
    (l31 : K.lookup f31 = some ⟨oc31, od31, .func (PySem.W.fnOf "end" "Store.end" (defArgs s_St_end) (defBody s_St_end) (defScope s_St_end) .none kV31 dc31 pm31 an31 cd31 ct31), sl31⟩)
    (c31 : PySem.W.codeIn K cd31 "Store.end" = true) (k31 : PySem.W.keepIn K (.ref f31) = true)
    (a32 : PySem.W.findIn K (.ref CC) "new" = some (some (.ref f32)))
    (i32 : PySem.W.isFn K (.ref f32) = true)
    (l32 : K.lookup f32 = some ⟨oc32, od32, .func (PySem.W.fnOf "new" "Store.new" (defArgs s_St_new) (defBody s_St_new) (defScope s_St_new) .none kV32 dc32 pm32 an32 cd32 ct32), sl32⟩)
    (c32 : PySem.W.codeIn K cd32 "Store.new" = true) (k32 : PySem.W.keepIn K (.ref f32) = true)
    (a33 : PySem.W.findIn K (.ref CC) "put" = some (some (.ref f33)))
    (i33 : PySem.W.isFn K (.ref f33) = true)
    (l33 : K.lookup f33 = some ⟨oc33, od33, .func (PySem.W.fnOf "put" "Store.put" (defArgs s_St_put) (defBody s_St_put) (defScope s_St_put) .none kV33 dc33 pm33 an33 cd33 ct33), sl33⟩)
    (c33 : PySem.W.codeIn K cd33 "Store.put" = true) (k33 : PySem.W.keepIn K (.ref f33) = true)
    (a34 : PySem.W.findIn K (.ref CC) "fill" = some (some (.ref f34)))
    (i34 : PySem.W.isFn K (.ref f34) = true)
    (l34 : K.lookup f34 = some ⟨oc34, od34, .func (PySem.W.fnOf "fill" "Store.fill" (defArgs s_St_fill) (defBody s_St_fill) (defScope s_St_fill) .none kV34 dc34 pm34 an34 cd34 ct34), sl34⟩)
    (c34 : PySem.W.codeIn K cd34 "Store.fill" = true) (k34 : PySem.W.keepIn K (.ref f34) = true)
    (a35 : PySem.W.findIn K (.ref CC) "bind" = some (some (.ref f35)))
    (i35 : PySem.W.isFn K (.ref f35) = true)
    (l35 : K.lookup f35 = some ⟨oc35, od35, .func (PySem.W.fnOf "bind" "Store.bind" (defArgs s_St_bind) (defBody s_St_bind) (defScope s_St_bind) .none kV35 dc35 pm35 an35 cd35 ct35), sl35⟩)
    (c35 : PySem.W.codeIn K cd35 "Store.bind" = true) (k35 : PySem.W.keepIn K (.ref f35) = true)
    (a36 : PySem.W.findIn K (.ref CC) "build" = some (some (.ref f36)))
    (i36 : PySem.W.isFn K (.ref f36) = true)
    (l36 : K.lookup f36 = some ⟨oc36, od36, .func (PySem.W.fnOf "build" "Store.build" (defArgs s_St_build) (defBody s_St_build) (defScope s_St_build) .none kV36 dc36 pm36 an36 cd36 ct36), sl36⟩)
    (c36 : PySem.W.codeIn K cd36 "Store.build" = true) (k36 : PySem.W.keepIn K (.ref f36) = true)
    (a37 : PySem.W.findIn K (.ref CC) "read" = some (some (.ref f37)))
    (i37 : PySem.W.isFn K (.ref f37) = true)
    (l37 : K.lookup f37 = some ⟨oc37, od37, .func (PySem.W.fnOf "read" "Store.read" (defArgs s_St_read) (defBody s_St_read) (defScope s_St_read) .none kV37 dc37 pm37 an37 cd37 ct37), sl37⟩)
    (c37 : PySem.W.codeIn K cd37 "Store.read" = true) (k37 : PySem.W.keepIn K (.ref f37) = true)
    (a38 : PySem.W.findIn K (.ref CC) "_compound" = some (some (.ref f38)))
    (i38 : PySem.W.isFn K (.ref f38) = true)
    (l38 : K.lookup f38 = some ⟨oc38, od38, .func (PySem.W.fnOf "_compound" "Store._compound" (defArgs s_St_compound) (defBody s_St_compound) (defScope s_St_compound) .none kV38 dc38 pm38 an38 cd38 ct38), sl38⟩)
    (c38 : PySem.W.codeIn K cd38 "Store._compound" = true) (k38 : PySem.W.keepIn K (.ref f38) = true)
    (a39 : PySem.W.findIn K (.ref CC) "contains" = some (some (.ref f39)))
    (i39 : PySem.W.isFn K (.ref f39) = true)
    (l39 : K.lookup f39 = some ⟨oc39, od39, .func (PySem.W.fnOf "contains" "Store.contains" (defArgs s_St_contains) (defBody s_St_contains) (defScope s_St_contains) .none kV39 dc39 pm39 an39 cd39 ct39), sl39⟩)
    (c39 : PySem.W.codeIn K cd39 "Store.contains" = true) (k39 : PySem.W.keepIn K (.ref f39) = true)
    (a40 : PySem.W.findIn K (.ref CC) "_demand_place" = some (some (.ref f40)))
    (i40 : PySem.W.isFn K (.ref f40) = true)
    (l40 : K.lookup f40 = some ⟨oc40, od40, .func (PySem.W.fnOf "_demand_place" "Store._demand_place" (defArgs s_St_demand_place) (defBody s_St_demand_place) (defScope s_St_demand_place) .none kV40 dc40 pm40 an40 cd40 ct40), sl40⟩)
    (c40 : PySem.W.codeIn K cd40 "Store._demand_place" = true) (k40 : PySem.W.keepIn K (.ref f40) = true)
    (a41 : PySem.W.findIn K (.ref CC) "look" = some (some (.ref f41)))
    (i41 : PySem.W.isFn K (.ref f41) = true)
    (l41 : K.lookup f41 = some ⟨oc41, od41, .func (PySem.W.fnOf "look" "Store.look" (defArgs s_St_look) (defBody s_St_look) (defScope s_St_look) .none kV41 dc41 pm41 an41 cd41 ct41), sl41⟩)
    (c41 : PySem.W.codeIn K cd41 "Store.look" = true) (k41 : PySem.W.keepIn K (.ref f41) = true)
    (a42 : PySem.W.findIn K (.ref CC) "change" = some (some (.ref f42)))
    (i42 : PySem.W.isFn K (.ref f42) = true)
    (l42 : K.lookup f42 = some ⟨oc42, od42, .func (PySem.W.fnOf "change" "Store.change" (defArgs s_St_change) (defBody s_St_change) (defScope s_St_change) .none kV42 dc42 pm42 an42 cd42 ct42), sl42⟩)
    (c42 : PySem.W.codeIn K cd42 "Store.change" = true) (k42 : PySem.W.keepIn K (.ref f42) = true)
    (a43 : PySem.W.findIn K (.ref CC) "assign" = some (some (.ref f43)))
    (i43 : PySem.W.isFn K (.ref f43) = true)
    (l43 : K.lookup f43 = some ⟨oc43, od43, .func (PySem.W.fnOf "assign" "Store.assign" (defArgs s_St_assign) (defBody s_St_assign) (defScope s_St_assign) .none kV43 dc43 pm43 an43 cd43 ct43), sl43⟩)
    (c43 : PySem.W.codeIn K cd43 "Store.assign" = true) (k43 : PySem.W.keepIn K (.ref f43) = true)
    (a44 : PySem.W.findIn K (.ref CC) "follow" = some (some (.ref f44)))
    (i44 : PySem.W.isFn K (.ref f44) = true)
    (l44 : K.lookup f44 = some ⟨oc44, od44, .func (PySem.W.fnOf "follow" "Store.follow" (defArgs s_St_follow) (defBody s_St_follow) (defScope s_St_follow) .none kV44 dc44 pm44 an44 cd44 ct44), sl44⟩)
    (c44 : PySem.W.codeIn K cd44 "Store.follow" = true) (k44 : PySem.W.keepIn K (.ref f44) = true)
    (a45 : PySem.W.findIn K (.ref CC) "functor" = some (some (.ref f45)))
    (i45 : PySem.W.isFn K (.ref f45) = true)
    (l45 : K.lookup f45 = some ⟨oc45, od45, .func (PySem.W.fnOf "functor" "Store.functor" (defArgs s_St_functor) (defBody s_St_functor) (defScope s_St_functor) .none kV45 dc45 pm45 an45 cd45 ct45), sl45⟩)
    (c45 : PySem.W.codeIn K cd45 "Store.functor" = true) (k45 : PySem.W.keepIn K (.ref f45) = true)
    (a46 : PySem.W.findIn K (.ref CC) "arguments" = some (some (.ref f46)))
    (i46 : PySem.W.isFn K (.ref f46) = true)
    (l46 : K.lookup f46 = some ⟨oc46, od46, .func (PySem.W.fnOf "arguments" "Store.arguments" (defArgs s_St_arguments) (defBody s_St_arguments) (defScope s_St_arguments) .none kV46 dc46 pm46 an46 cd46 ct46), sl46⟩)
    (c46 : PySem.W.codeIn K cd46 "Store.arguments" = true) (k46 : PySem.W.keepIn K (.ref f46) = true)
    (a47 : PySem.W.findIn K (.ref CC) "occurs" = some (some (.ref f47)))
    (i47 : PySem.W.isFn K (.ref f47) = true)
    (l47 : K.lookup f47 = some ⟨oc47, od47, .func (PySem.W.fnOf "occurs" "Store.occurs" (defArgs s_St_occurs) (defBody s_St_occurs) (defScope s_St_occurs) .none kV47 dc47 pm47 an47 cd47 ct47), sl47⟩)
    (c47 : PySem.W.codeIn K cd47 "Store.occurs" = true) (k47 : PySem.W.keepIn K (.ref f47) = true)
    (pg : PySem.W.plainGet K CC Str.empty = true) (hd : PySem.W.hasDictIn K CC = true) (po : PySem.W.plainOver K CC = true) (sa : PySem.W.findIn K (.ref CC) "__setattr__" = some (some (.builtin "object.__setattr__"))) (mk : PySem.W.makesIn K CC = true) (kc : PySem.W.keepIn K (.ref CC) = true)
    (nf0 : PySem.W.findIn K (.ref CC) "cells" = some none)
    (nf1 : PySem.W.findIn K (.ref CC) "slots" = some none)
    (nf2 : PySem.W.findIn K (.ref CC) "stack_size" = some none)
    (nf3 : PySem.W.findIn K (.ref CC) "noted" = some none)
    (nf4 : PySem.W.findIn K (.ref CC) "heap_mark" = some none)
    (nf5 : PySem.W.findIn K (.ref CC) "stack_mark" = some none)
    (y1 : PySem.W.nsIn K mainGlobals "MOST_SIGNS" = some (some (.int 40 u1)))
    (y2 : PySem.W.nsIn K mainGlobals "MOST_ARGUMENTS" = some (some (.int 8 u2)))
    (y3 : PySem.W.nsIn K mainGlobals "BARRED_SIGN" = some (some (.int 37 u3)))
    (y4 : PySem.W.nsIn K mainGlobals "TOO_GREAT" = some (some (.int tooGreat u4)))
    (nd : PySem.W.nsIn K mainGlobals "NO_CELL" = some (some (.ref N1)))
    (nd1 : K.lookup N1 = some ⟨.type "tuple", o1, .seq #[.str "none" g1] m1, w1⟩)
    (z1 : PySem.W.nsIn K mainGlobals "all" = some none)
    (z2 : PySem.W.nsIn K mainGlobals "bool" = some none)
    (z3 : PySem.W.nsIn K mainGlobals "dict" = some none)
    (z4 : PySem.W.nsIn K mainGlobals "int" = some none)
    (z5 : PySem.W.nsIn K mainGlobals "isinstance" = some none)
    (z6 : PySem.W.nsIn K mainGlobals "len" = some none)
    (z7 : PySem.W.nsIn K mainGlobals "list" = some none)
    (z8 : PySem.W.nsIn K mainGlobals "max" = some none)
    (z9 : PySem.W.nsIn K mainGlobals "ord" = some none)
    (z10 : PySem.W.nsIn K mainGlobals "range" = some none)
    (z11 : PySem.W.nsIn K mainGlobals "reversed" = some none)
    (z12 : PySem.W.nsIn K mainGlobals "str" = some none)
    (z13 : PySem.W.nsIn K mainGlobals "sum" = some none)
    (z14 : PySem.W.nsIn K mainGlobals "tuple" = some none) :
    ∃ fd : FuncData, (∀ (s : Shared) (v : Value), BindsTo s fd ⟨[v], []⟩ [("_law_script", v)]) ∧ ∀ base : Heap, K.In base → base.Ns mainGlobals mg → FnOk l.prog w K mg base CX0 80 fa fd ["_law_script"] (spLaw K) := by
  have e := hfa.symm.trans (PySem.W.mg_of X G a26)
  cases e
  have F1 := fun_mk (st := s_is_integer) l1 c1 k1
  have b1 := F1.binds (ps := ["thing"]) fun _ _ _ _ _ _ us hl => match us, hl with | [_], _ => rfl
  have F2 := fun_mk (st := s_is_sign) l2 c2 k2
  have b2 := F2.binds (ps := ["sign"]) fun _ _ _ _ _ _ us hl => match us, hl with | [_], _ => rfl
  have F3 := fun_mk (st := s_is_atom) l3 c3 k3
  have b3 := F3.binds (ps := ["thing"]) fun _ _ _ _ _ _ us hl => match us, hl with | [_], _ => rfl
  have F4 := fun_mk (st := s_is_number) l4 c4 k4
  have b4 := F4.binds (ps := ["thing"]) fun _ _ _ _ _ _ us hl => match us, hl with | [_], _ => rfl
  have F5 := fun_mk (st := s_is_term) l5 c5 k5
  have b5 := F5.binds (ps := ["thing"]) fun _ _ _ _ _ _ us hl => match us, hl with | [_], _ => rfl
  have F6 := fun_mk (st := s_is_part) l6 c6 k6
  have b6 := F6.binds (ps := ["thing"]) fun _ _ _ _ _ _ us hl => match us, hl with | [_], _ => rfl
  have F7 := fun_mk (st := s_arguments_of) l7 c7 k7
  have b7 := F7.binds (ps := ["part"]) fun _ _ _ _ _ _ us hl => match us, hl with | [_], _ => rfl
  have F8 := fun_mk (st := s_is_variable) l8 c8 k8
  have b8 := F8.binds (ps := ["part"]) fun _ _ _ _ _ _ us hl => match us, hl with | [_], _ => rfl
  have F9 := fun_mk (st := s_demand_term) l9 c9 k9
  have b9 := F9.binds (ps := ["term"]) fun _ _ _ _ _ _ us hl => match us, hl with | [_], _ => rfl
  have F10 := fun_mk (st := s_is_address) l10 c10 k10
  have b10 := F10.binds (ps := ["value"]) fun _ _ _ _ _ _ us hl => match us, hl with | [_], _ => rfl
  have F11 := fun_mk (st := s_is_cell) l11 c11 k11
  have b11 := F11.binds (ps := ["value"]) fun _ _ _ _ _ _ us hl => match us, hl with | [_], _ => rfl
  have F12 := fun_mk (st := s_is_pair_cell) l12 c12 k12
  have b12 := F12.binds (ps := ["word", "what"]) fun _ _ _ _ _ _ us hl => match us, hl with | [_, _], _ => rfl
  have F13 := fun_mk (st := s_demand_cell) l13 c13 k13
  have b13 := F13.binds (ps := ["value"]) fun _ _ _ _ _ _ us hl => match us, hl with | [_], _ => rfl
  have F14 := fun_mk (st := s_leaf_cell) l14 c14 k14
  have b14 := F14.binds (ps := ["term", "names"]) fun _ _ _ _ _ _ us hl => match us, hl with | [_, _], _ => rfl
  have F15 := fun_mk (st := s_law_cell_at) l15 c15 k15
  have b15 := F15.binds (ps := ["_law_script", "_law_k"]) fun _ _ _ _ _ _ us hl => match us, hl with | [_, _], _ => rfl
  have F16 := fun_mk (st := s_law_well) l16 c16 k16
  have b16 := F16.binds (ps := ["_law_cell"]) fun _ _ _ _ _ _ us hl => match us, hl with | [_], _ => rfl
  have F17 := fun_mk (st := s_law_draw) l17 c17 k17
  have b17 := F17.binds (ps := ["_law_well_here", "_law_many"]) fun _ _ _ _ _ _ us hl => match us, hl with | [_, _], _ => rfl
  have F18 := fun_mk (st := s_law_one) l18 c18 k18
  have b18 := F18.binds (ps := ["_law_well_here", "_law_some"]) fun _ _ _ _ _ _ us hl => match us, hl with | [_, _], _ => rfl
  have F19 := fun_mk (st := s_law_term) l19 c19 k19
  have b19 := F19.binds (ps := ["_law_well_here", "_law_deep", "_law_many"]) fun _ _ _ _ _ _ us hl => match us, hl with | [_, _, _], _ => rfl
  have F20 := fun_mk (st := s_law_walk) l20 c20 k20
  have b20 := F20.binds (ps := ["_law_term_here", "_law_bound"]) fun _ _ _ _ _ _ us hl => match us, hl with | [_, _], _ => rfl
  have F21 := fun_mk (st := s_law_has) l21 c21 k21
  have b21 := F21.binds (ps := ["_law_number", "_law_term_here", "_law_bound"]) fun _ _ _ _ _ _ us hl => match us, hl with | [_, _, _], _ => rfl
  have F22 := fun_mk (st := s_law_whole) l22 c22 k22
  have b22 := F22.binds (ps := ["_law_term_here", "_law_bound"]) fun _ _ _ _ _ _ us hl => match us, hl with | [_, _], _ => rfl
  have F23 := fun_mk (st := s_law_parts) l23 c23 k23
  have b23 := F23.binds (ps := ["_law_term_here"]) fun _ _ _ _ _ _ us hl => match us, hl with | [_], _ => rfl
  have F24 := fun_mk (st := s_law_chain) l24 c24 k24
  have b24 := F24.binds (ps := ["_law_well_here", "_law_store", "_law_cell"]) fun _ _ _ _ _ _ us hl => match us, hl with | [_, _, _], _ => rfl
  have F25 := fun_mk (st := s_law_bind_some) l25 c25 k25
  have b25 := F25.binds (ps := ["_law_well_here", "_law_store", "_law_names", "_law_bound"]) fun _ _ _ _ _ _ us hl => match us, hl with | [_, _, _, _], _ => rfl
  have F26 := fun_mk (st := s_law) l26 c26 k26
  have b26 := F26.binds (ps := ["_law_script"]) fun _ _ _ _ _ _ us hl => match us, hl with | [_], _ => rfl
  have F27 := fun_mk (st := s_St_init) l27 c27 k27
  have b27 := F27.binds (ps := ["self"]) fun _ _ _ _ _ _ us hl => match us, hl with | [_], _ => rfl
  have F28 := fun_mk (st := s_St_heap) l28 c28 k28
  have b28 := F28.binds (ps := ["self"]) fun _ _ _ _ _ _ us hl => match us, hl with | [_], _ => rfl
  have F29 := fun_mk (st := s_St_trail) l29 c29 k29
  have b29 := F29.binds (ps := ["self"]) fun _ _ _ _ _ _ us hl => match us, hl with | [_], _ => rfl
  have F30 := fun_mk (st := s_St_size) l30 c30 k30
  have b30 := F30.binds (ps := ["self"]) fun _ _ _ _ _ _ us hl => match us, hl with | [_], _ => rfl
  have F31 := fun_mk (st := s_St_end) l31 c31 k31
  have b31 := F31.binds (ps := ["self", "cell"]) fun _ _ _ _ _ _ us hl => match us, hl with | [_, _], _ => rfl
  have F32 := fun_mk (st := s_St_new) l32 c32 k32
  have b32 := F32.binds (ps := ["self"]) fun _ _ _ _ _ _ us hl => match us, hl with | [_], _ => rfl
  have F33 := fun_mk (st := s_St_put) l33 c33 k33
  have b33 := F33.binds (ps := ["self", "cell"]) fun _ _ _ _ _ _ us hl => match us, hl with | [_, _], _ => rfl
  have F34 := fun_mk (st := s_St_fill) l34 c34 k34
  have b34 := F34.binds (ps := ["self", "k", "cell"]) fun _ _ _ _ _ _ us hl => match us, hl with | [_, _, _], _ => rfl
  have F35 := fun_mk (st := s_St_bind) l35 c35 k35
  have b35 := F35.binds (ps := ["self", "address", "cell"]) fun _ _ _ _ _ _ us hl => match us, hl with | [_, _, _], _ => rfl
  have F36 := fun_mk (st := s_St_build) l36 c36 k36
  have b36 := F36.binds (ps := ["self", "term", "names"]) fun _ _ _ _ _ _ us hl => match us, hl with | [_, _, _], _ => rfl
  have F37 := fun_mk (st := s_St_read) l37 c37 k37
  have b37 := F37.binds (ps := ["self", "cells"]) fun _ _ _ _ _ _ us hl => match us, hl with | [_, _], _ => rfl
  have F38 := fun_mk (st := s_St_compound) l38 c38 k38
  have b38 := F38.binds (ps := ["self", "cell", "done"]) fun _ _ _ _ _ _ us hl => match us, hl with | [_, _, _], _ => rfl
  have F39 := fun_mk (st := s_St_contains) l39 c39 k39
  have b39 := F39.binds (ps := ["self", "address", "cell"]) fun _ _ _ _ _ _ us hl => match us, hl with | [_, _, _], _ => rfl
  have F40 := fun_mk (st := s_St_demand_place) l40 c40 k40
  have b40 := F40.binds (ps := ["self", "address"]) fun _ _ _ _ _ _ us hl => match us, hl with | [_, _], _ => rfl
  have F41 := fun_mk (st := s_St_look) l41 c41 k41
  have b41 := F41.binds (ps := ["self", "address"]) fun _ _ _ _ _ _ us hl => match us, hl with | [_, _], _ => rfl
  have F42 := fun_mk (st := s_St_change) l42 c42 k42
  have b42 := F42.binds (ps := ["self", "address", "cell"]) fun _ _ _ _ _ _ us hl => match us, hl with | [_, _, _], _ => rfl
  have F43 := fun_mk (st := s_St_assign) l43 c43 k43
  have b43 := F43.binds (ps := ["self", "address", "cell"]) fun _ _ _ _ _ _ us hl => match us, hl with | [_, _, _], _ => rfl
  have F44 := fun_mk (st := s_St_follow) l44 c44 k44
  have b44 := F44.binds (ps := ["self", "cell"]) fun _ _ _ _ _ _ us hl => match us, hl with | [_, _], _ => rfl
  have F45 := fun_mk (st := s_St_functor) l45 c45 k45
  have b45 := F45.binds (ps := ["self", "cell"]) fun _ _ _ _ _ _ us hl => match us, hl with | [_, _], _ => rfl
  have F46 := fun_mk (st := s_St_arguments) l46 c46 k46
  have b46 := F46.binds (ps := ["self", "cell"]) fun _ _ _ _ _ _ us hl => match us, hl with | [_, _], _ => rfl
  have F47 := fun_mk (st := s_St_occurs) l47 c47 k47
  have b47 := F47.binds (ps := ["self", "address", "cell"]) fun _ _ _ _ _ _ us hl => match us, hl with | [_, _, _], _ => rfl
  exact ⟨PySem.W.fnOf "law" "law" (defArgs s_law) (defBody s_law) (defScope s_law) .none kV26 dc26 pm26 an26 cd26 ct26, fun s v => .of_eq rfl, fun base _ _ => ok_law (T := ({
    f_is_integer := f1, d_is_integer := _, h_is_integer := ⟨F1, b1, PySem.W.mg_of X G a1⟩,
    f_is_sign := f2, d_is_sign := _, h_is_sign := ⟨F2, b2, PySem.W.mg_of X G a2⟩,
    f_is_atom := f3, d_is_atom := _, h_is_atom := ⟨F3, b3, PySem.W.mg_of X G a3⟩,
    f_is_number := f4, d_is_number := _, h_is_number := ⟨F4, b4, PySem.W.mg_of X G a4⟩,
    f_is_term := f5, d_is_term := _, h_is_term := ⟨F5, b5, PySem.W.mg_of X G a5⟩,
    f_is_part := f6, d_is_part := _, h_is_part := ⟨F6, b6, PySem.W.mg_of X G a6⟩,
    f_arguments_of := f7, d_arguments_of := _, h_arguments_of := ⟨F7, b7, PySem.W.mg_of X G a7⟩,
    f_is_variable := f8, d_is_variable := _, h_is_variable := ⟨F8, b8, PySem.W.mg_of X G a8⟩,
    f_demand_term := f9, d_demand_term := _, h_demand_term := ⟨F9, b9, PySem.W.mg_of X G a9⟩,
    f_is_address := f10, d_is_address := _, h_is_address := ⟨F10, b10, PySem.W.mg_of X G a10⟩,
    f_is_cell := f11, d_is_cell := _, h_is_cell := ⟨F11, b11, PySem.W.mg_of X G a11⟩,
    f_is_pair_cell := f12, d_is_pair_cell := _, h_is_pair_cell := ⟨F12, b12, PySem.W.mg_of X G a12⟩,
    f_demand_cell := f13, d_demand_cell := _, h_demand_cell := ⟨F13, b13, PySem.W.mg_of X G a13⟩,
    f_leaf_cell := f14, d_leaf_cell := _, h_leaf_cell := ⟨F14, b14, PySem.W.mg_of X G a14⟩,
    f_law_cell_at := f15, d_law_cell_at := _, h_law_cell_at := ⟨F15, b15, PySem.W.mg_of X G a15⟩,
    f_law_well := f16, d_law_well := _, h_law_well := ⟨F16, b16, PySem.W.mg_of X G a16⟩,
    f_law_draw := f17, d_law_draw := _, h_law_draw := ⟨F17, b17, PySem.W.mg_of X G a17⟩,
    f_law_one := f18, d_law_one := _, h_law_one := ⟨F18, b18, PySem.W.mg_of X G a18⟩,
    f_law_term := f19, d_law_term := _, h_law_term := ⟨F19, b19, PySem.W.mg_of X G a19⟩,
    f_law_walk := f20, d_law_walk := _, h_law_walk := ⟨F20, b20, PySem.W.mg_of X G a20⟩,
    f_law_has := f21, d_law_has := _, h_law_has := ⟨F21, b21, PySem.W.mg_of X G a21⟩,
    f_law_whole := f22, d_law_whole := _, h_law_whole := ⟨F22, b22, PySem.W.mg_of X G a22⟩,
    f_law_parts := f23, d_law_parts := _, h_law_parts := ⟨F23, b23, PySem.W.mg_of X G a23⟩,
    f_law_chain := f24, d_law_chain := _, h_law_chain := ⟨F24, b24, PySem.W.mg_of X G a24⟩,
    f_law_bind_some := f25, d_law_bind_some := _, h_law_bind_some := ⟨F25, b25, PySem.W.mg_of X G a25⟩,
    f_law := fa, d_law := _, h_law := ⟨F26, b26, PySem.W.mg_of X G a26⟩,
    f_St_init := f27, d_St_init := _, F_St_init := F27, b_St_init := b27, mkS := ⟨mk, a27, i27, kc⟩,
    f_St_heap := f28, d_St_heap := _, h_St_heap := ⟨F28, b28, ⟨a28, i28, k28⟩⟩,
    f_St_trail := f29, d_St_trail := _, h_St_trail := ⟨F29, b29, ⟨a29, i29, k29⟩⟩,
    f_St_size := f30, d_St_size := _, h_St_size := ⟨F30, b30, ⟨a30, i30, k30⟩⟩,
    f_St_end := f31, d_St_end := _, h_St_end := ⟨F31, b31, ⟨a31, i31, k31⟩⟩,
    f_St_new := f32, d_St_new := _, h_St_new := ⟨F32, b32, ⟨a32, i32, k32⟩⟩,
    f_St_put := f33, d_St_put := _, h_St_put := ⟨F33, b33, ⟨a33, i33, k33⟩⟩,
    f_St_fill := f34, d_St_fill := _, h_St_fill := ⟨F34, b34, ⟨a34, i34, k34⟩⟩,
    f_St_bind := f35, d_St_bind := _, h_St_bind := ⟨F35, b35, ⟨a35, i35, k35⟩⟩,
    f_St_build := f36, d_St_build := _, h_St_build := ⟨F36, b36, ⟨a36, i36, k36⟩⟩,
    f_St_read := f37, d_St_read := _, h_St_read := ⟨F37, b37, ⟨a37, i37, k37⟩⟩,
    f_St_compound := f38, d_St_compound := _, h_St_compound := ⟨F38, b38, ⟨a38, i38, k38⟩⟩,
    f_St_contains := f39, d_St_contains := _, h_St_contains := ⟨F39, b39, ⟨a39, i39, k39⟩⟩,
    f_St_demand_place := f40, d_St_demand_place := _, h_St_demand_place := ⟨F40, b40, ⟨a40, i40, k40⟩⟩,
    f_St_look := f41, d_St_look := _, h_St_look := ⟨F41, b41, ⟨a41, i41, k41⟩⟩,
    f_St_change := f42, d_St_change := _, h_St_change := ⟨F42, b42, ⟨a42, i42, k42⟩⟩,
    f_St_assign := f43, d_St_assign := _, h_St_assign := ⟨F43, b43, ⟨a43, i43, k43⟩⟩,
    f_St_follow := f44, d_St_follow := _, h_St_follow := ⟨F44, b44, ⟨a44, i44, k44⟩⟩,
    f_St_functor := f45, d_St_functor := _, h_St_functor := ⟨F45, b45, ⟨a45, i45, k45⟩⟩,
    f_St_arguments := f46, d_St_arguments := _, h_St_arguments := ⟨F46, b46, ⟨a46, i46, k46⟩⟩,
    f_St_occurs := f47, d_St_occurs := _, h_St_occurs := ⟨F47, b47, ⟨a47, i47, k47⟩⟩,
    C := CC, cl := ⟨pg, hd, po, sa⟩, mgC := PySem.W.mg_of X G aC,
    n_cells := nf0,
    n_slots := nf1,
    n_stack_size := nf2,
    n_noted := nf3,
    n_heap_mark := nf4,
    n_stack_mark := nf5,
    c_MOST_SIGNS := ⟨_, PySem.W.mg_of X G y1⟩,
    c_MOST_ARGUMENTS := ⟨_, PySem.W.mg_of X G y2⟩,
    c_BARRED_SIGN := ⟨_, PySem.W.mg_of X G y3⟩,
    c_TOO_GREAT := ⟨_, PySem.W.mg_of X G y4⟩,
    a_No := N1, m_No := PySem.W.mg_of X G nd, r_No := mod_one nd1,
    b_all := PySem.W.mg_none_of X G z1,
    b_bool := PySem.W.mg_none_of X G z2,
    b_dict := PySem.W.mg_none_of X G z3,
    b_int := PySem.W.mg_none_of X G z4,
    b_isinstance := PySem.W.mg_none_of X G z5,
    b_len := PySem.W.mg_none_of X G z6,
    b_list := PySem.W.mg_none_of X G z7,
    b_max := PySem.W.mg_none_of X G z8,
    b_ord := PySem.W.mg_none_of X G z9,
    b_range := PySem.W.mg_none_of X G z10,
    b_reversed := PySem.W.mg_none_of X G z11,
    b_str := PySem.W.mg_none_of X G z12,
    b_sum := PySem.W.mg_none_of X G z13,
    b_tuple := PySem.W.mg_none_of X G z14 } : Tx K mg))⟩
theorem walk {l : PySem.W.OpenLaw} {q : Program} {loose : List Str} {XP : (Str → Option Value) → Heap → Prop} {YP : World → Heap → Prop} {d : DefRec} {K : Params → PySem.W.Frag} (hn : l.most = some 63) (hdf : d.params.defaults = [])
    (hY : ∀ (w : World) (h : Heap), YP w h → (K w.params).In h)
    (F : ∀ (w : World) (mg : Str → Option Value) (fa : Addr) (h : Heap), (K w.params).In h → h.Ns mainGlobals mg → mg d.name = some (.ref fa) →
      ∃ fd : FuncData, (∀ (s : Shared) (u : Value), BindsTo s fd ⟨[u], []⟩ [("_law_script", u)]) ∧ ∀ base : Heap, (K w.params).In base → base.Ns mainGlobals mg → FnOk l.prog w (K w.params) mg base CX0 80 fa fd ["_law_script"] (spLaw (K w.params))) :
    PySem.W.WalkO q loose XP YP l.row.toRowW d [] (fun f vs => PySem.call f vs) :=
  L2.walk_of (n := 63) (k := 80) (x := "_law_script") (CX := fun _ => CX0) (sp := fun w => spLaw (K w.params)) hn (by decide) hdf ⟨rfl, by decide, by decide⟩ hY F (fun _ _ a ns hl _ hS => ⟨a, ns, rfl, hS, hl, fun _ => rfl⟩) fun _ _ _ _ _ z => z
end Hm

open PySem PySem.W PyProof.Rows
set_option maxRecDepth 100000 in
set_option maxHeartbeats 0 in
theorem PySem.Challenge.cw_hornmill_k52_whole_ends_and_what_contain_holds : PySem.Challenge.rw_hornmill_k52_whole_ends_and_what_contain.Holds := by
  w_on; o_law; k_head; (case hw => w_witness2)
  k_fill
  refine Hm.walk (l := PySem.Challenge.rw_hornmill_k52_whole_ends_and_what_contain) rfl rfl (fun w h Y => PySem.W.kIn_of Y) ?F
  case F =>
    intro w mg fa h KX G hmg
    refine' Hm.all_mk KX G hmg ?a1 ?l1 ?c1 ?k1 ?a2 ?l2 ?c2 ?k2 ?a3 ?l3 ?c3 ?k3 ?a4 ?l4 ?c4 ?k4 ?a5 ?l5 ?c5 ?k5 ?a6 ?l6 ?c6 ?k6 ?a7 ?l7 ?c7 ?k7 ?a8 ?l8 ?c8 ?k8 ?a9 ?l9 ?c9 ?k9 ?a10 ?l10 ?c10 ?k10 ?a11 ?l11 ?c11 ?k11 ?a12 ?l12 ?c12 ?k12 ?a13 ?l13 ?c13 ?k13 ?a14 ?l14 ?c14 ?k14 ?a15 ?l15 ?c15 ?k15 ?a16 ?l16 ?c16 ?k16 ?a17 ?l17 ?c17 ?k17 ?a18 ?l18 ?c18 ?k18 ?a19 ?l19 ?c19 ?k19 ?a20 ?l20 ?c20 ?k20 ?a21 ?l21 ?c21 ?k21 ?a22 ?l22 ?c22 ?k22 ?a23 ?l23 ?c23 ?k23 ?a24 ?l24 ?c24 ?k24 ?a25 ?l25 ?c25 ?k25 ?a26 ?l26 ?c26 ?k26 ?aC ?a27 ?i27 ?l27 ?c27 ?k27 ?a28 ?i28 ?l28 ?c28 ?k28 ?a29 ?i29 ?l29 ?c29 ?k29 ?a30 ?i30 ?l30 ?c30 ?k30 ?a31 ?i31 ?l31 ?c31 ?k31 ?a32 ?i32 ?l32 ?c32 ?k32 ?a33 ?i33 ?l33 ?c33 ?k33 ?a34 ?i34 ?l34 ?c34 ?k34 ?a35 ?i35 ?l35 ?c35 ?k35 ?a36 ?i36 ?l36 ?c36 ?k36 ?a37 ?i37 ?l37 ?c37 ?k37 ?a38 ?i38 ?l38 ?c38 ?k38 ?a39 ?i39 ?l39 ?c39 ?k39 ?a40 ?i40 ?l40 ?c40 ?k40 ?a41 ?i41 ?l41 ?c41 ?k41 ?a42 ?i42 ?l42 ?c42 ?k42 ?a43 ?i43 ?l43 ?c43 ?k43 ?a44 ?i44 ?l44 ?c44 ?k44 ?a45 ?i45 ?l45 ?c45 ?k45 ?a46 ?i46 ?l46 ?c46 ?k46 ?a47 ?i47 ?l47 ?c47 ?k47 ?pg ?hd ?po ?sa ?mk ?kc ?nf0 ?nf1 ?nf2 ?nf3 ?nf4 ?nf5 ?y1 ?y2 ?y3 ?y4 ?nd ?nd1 ?z1 ?z2 ?z3 ?z4 ?z5 ?z6 ?z7 ?z8 ?z9 ?z10 ?z11 ?z12 ?z13 ?z14
    (case a1 => k_is)
    (case l1 => k_is)
    (case c1 => k_is)
    (case k1 => k_is)
    (case a2 => k_is)
    (case l2 => k_is)
    (case c2 => k_is)
    (case k2 => k_is)
    (case a3 => k_is)
    (case l3 => k_is)
    (case c3 => k_is)
    (case k3 => k_is)
    (case a4 => k_is)
    (case l4 => k_is)
    (case c4 => k_is)
    (case k4 => k_is)
    (case a5 => k_is)
    (case l5 => k_is)
    (case c5 => k_is)
    (case k5 => k_is)
    (case a6 => k_is)
    (case l6 => k_is)
    (case c6 => k_is)
    (case k6 => k_is)
    (case a7 => k_is)
    (case l7 => k_is)
    (case c7 => k_is)
    (case k7 => k_is)
    (case a8 => k_is)
    (case l8 => k_is)
    (case c8 => k_is)
    (case k8 => k_is)
    (case a9 => k_is)
    (case l9 => k_is)
    (case c9 => k_is)
    (case k9 => k_is)
    (case a10 => k_is)
    (case l10 => k_is)
    (case c10 => k_is)
    (case k10 => k_is)
    (case a11 => k_is)
    (case l11 => k_is)
    (case c11 => k_is)
    (case k11 => k_is)
    (case a12 => k_is)
    (case l12 => k_is)
    (case c12 => k_is)
    (case k12 => k_is)
    (case a13 => k_is)
    (case l13 => k_is)
    (case c13 => k_is)
    (case k13 => k_is)
    (case a14 => k_is)
    (case l14 => k_is)
    (case c14 => k_is)
    (case k14 => k_is)
    (case a15 => k_is)
    (case l15 => k_is)
    (case c15 => k_is)
    (case k15 => k_is)
    (case a16 => k_is)
    (case l16 => k_is)
    (case c16 => k_is)
    (case k16 => k_is)
    (case a17 => k_is)
    (case l17 => k_is)
    (case c17 => k_is)
    (case k17 => k_is)
    (case a18 => k_is)
    (case l18 => k_is)
    (case c18 => k_is)
    (case k18 => k_is)
    (case a19 => k_is)
    (case l19 => k_is)
    (case c19 => k_is)
    (case k19 => k_is)
    (case a20 => k_is)
    (case l20 => k_is)
    (case c20 => k_is)
    (case k20 => k_is)
    (case a21 => k_is)
    (case l21 => k_is)
    (case c21 => k_is)
    (case k21 => k_is)
    (case a22 => k_is)
    (case l22 => k_is)
    (case c22 => k_is)
    (case k22 => k_is)
    (case a23 => k_is)
    (case l23 => k_is)
    (case c23 => k_is)
    (case k23 => k_is)
    (case a24 => k_is)
    (case l24 => k_is)
    (case c24 => k_is)
    (case k24 => k_is)
    (case a25 => k_is)
    (case l25 => k_is)
    (case c25 => k_is)
    (case k25 => k_is)
    (case a26 => k_is)
    (case l26 => k_is)
    (case c26 => k_is)
    (case k26 => k_is)
    (case aC => k_is)
    (case a27 => k_is)
    (case i27 => k_is)
    (case l27 => k_is)
    (case c27 => k_is)
    (case k27 => k_is)
    (case a28 => k_is)
    (case i28 => k_is)
    (case l28 => k_is)
    (case c28 => k_is)
    (case k28 => k_is)
    (case a29 => k_is)
    (case i29 => k_is)
    (case l29 => k_is)
    (case c29 => k_is)
    (case k29 => k_is)
    (case a30 => k_is)
    (case i30 => k_is)
    (case l30 => k_is)
    (case c30 => k_is)
    (case k30 => k_is)
    (case a31 => k_is)
    (case i31 => k_is)
    (case l31 => k_is)
    (case c31 => k_is)
    (case k31 => k_is)
    (case a32 => k_is)
    (case i32 => k_is)
    (case l32 => k_is)
    (case c32 => k_is)
    (case k32 => k_is)
    (case a33 => k_is)
    (case i33 => k_is)
    (case l33 => k_is)
    (case c33 => k_is)
    (case k33 => k_is)
    (case a34 => k_is)
    (case i34 => k_is)
    (case l34 => k_is)
    (case c34 => k_is)
    (case k34 => k_is)
    (case a35 => k_is)
    (case i35 => k_is)
    (case l35 => k_is)
    (case c35 => k_is)
    (case k35 => k_is)
    (case a36 => k_is)
    (case i36 => k_is)
    (case l36 => k_is)
    (case c36 => k_is)
    (case k36 => k_is)
    (case a37 => k_is)
    (case i37 => k_is)
    (case l37 => k_is)
    (case c37 => k_is)
    (case k37 => k_is)
    (case a38 => k_is)
    (case i38 => k_is)
    (case l38 => k_is)
    (case c38 => k_is)
    (case k38 => k_is)
    (case a39 => k_is)
    (case i39 => k_is)
    (case l39 => k_is)
    (case c39 => k_is)
    (case k39 => k_is)
    (case a40 => k_is)
    (case i40 => k_is)
    (case l40 => k_is)
    (case c40 => k_is)
    (case k40 => k_is)
    (case a41 => k_is)
    (case i41 => k_is)
    (case l41 => k_is)
    (case c41 => k_is)
    (case k41 => k_is)
    (case a42 => k_is)
    (case i42 => k_is)
    (case l42 => k_is)
    (case c42 => k_is)
    (case k42 => k_is)
    (case a43 => k_is)
    (case i43 => k_is)
    (case l43 => k_is)
    (case c43 => k_is)
    (case k43 => k_is)
    (case a44 => k_is)
    (case i44 => k_is)
    (case l44 => k_is)
    (case c44 => k_is)
    (case k44 => k_is)
    (case a45 => k_is)
    (case i45 => k_is)
    (case l45 => k_is)
    (case c45 => k_is)
    (case k45 => k_is)
    (case a46 => k_is)
    (case i46 => k_is)
    (case l46 => k_is)
    (case c46 => k_is)
    (case k46 => k_is)
    (case a47 => k_is)
    (case i47 => k_is)
    (case l47 => k_is)
    (case c47 => k_is)
    (case k47 => k_is)
    (case pg => k_is)
    (case hd => k_is)
    (case po => k_is)
    (case sa => k_is)
    (case mk => k_is)
    (case kc => k_is)
    (case nf0 => k_is)
    (case nf1 => k_is)
    (case nf2 => k_is)
    (case nf3 => k_is)
    (case nf4 => k_is)
    (case nf5 => k_is)
    (case y1 => k_is)
    (case y2 => k_is)
    (case y3 => k_is)
    (case y4 => k_is)
    (case nd => k_is)
    (case nd1 => k_is)
    (case z1 => k_is)
    (case z2 => k_is)
    (case z3 => k_is)
    (case z4 => k_is)
    (case z5 => k_is)
    (case z6 => k_is)
    (case z7 => k_is)
    (case z8 => k_is)
    (case z9 => k_is)
    (case z10 => k_is)
    (case z11 => k_is)
    (case z12 => k_is)
    (case z13 => k_is)
    (case z14 => k_is)

