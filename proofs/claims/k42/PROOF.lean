import PyProof.Rows.All
import Wide.All
import OpenK.AllK
import Wide.FinOn
import HandS.ForMost
import HandS.Style
import HandS.TupAny
import HandS.Flow
import HandS.Star
import HandS.IsInst
import HandS.Rev
import HandS.Evl
import HandS.More
import HandS.DictComp
import HandS.Wide
import HandS.Walk
import KE.LtSeq
import KE.LtData
import HandS.SortKw
import KE.KSortKey
import KE.SortCalls
import KE.KBits
import KE.BitLaws
import HandS.Exc
import HandS.WordsExc
import HandS.ExcInit
import HandS.ExcField
import HandS.ExcIs
import HandS.ForExc
import KE.KExcIs
import PyProof.ReprRoads
import PyProof.CallFns
import HandS.Ends
import PyProof.AutoSeq1
import HandS.WideBits
import HandS.CallLocal
import HandS.Defaults
import PySem.Challenge.RW_hornmill_k42_whole_laws_of_arithmetic
import HandS.TupMul
import HandS.ExcOwn
set_option Elab.async false
set_option linter.all false
set_option maxRecDepth 100000
set_option maxHeartbeats 4000000
namespace Hm
open PySem PySem.Spec PyProof.Rows L2 HT

/-! ## rules that the layer lacks -/
section
variable {prog : Program} {w : World} {A : Around} {E : Value → Shared → Prop} {s : Shared}
theorem sliceApplied_back {sl : Addr} {n : Nat} {ti : Tok} {Q : Int × Int × Nat → Shared → Prop} (hs : s.heap.IsSliceOf sl .none .none (.int (-1) ti))
    (h : Q ((n : Int) - 1, -1, n) s) : wpAny (model prog w) A (Builtin.Slice.sliceApplied (.ref sl) (pure (n : Int))) Q E s := by
  obtain ⟨os, hos, hcs, hds⟩ := id hs
  unfold Builtin.Slice.sliceApplied Builtin.Slice.sliceFields
  refine wpAny_bind (wpAny_bind (wpAny_field hos hds (x := .none) rfl (wpAny_bind (wpAny_field hos hds (x := .none) rfl (wpAny_bind (wpAny_field hos hds (x := .int (-1) ti) rfl (wpAny_pure ?_)))))))
  refine wpAny_bind (slicePart_ (.int (-1) ti) ?_)
  show wpAny _ _ (if ((-1 : Int) == 0) = true then _ else _) _ _ s
  rw [if_neg (by decide)]
  refine wpAny_bind (slicePart_ .none (wpAny_bind (slicePart_ .none (wpAny_bind (wpAny_pure ?_)))))
  show wpAny _ _ (pure ((n : Int) - 1, (-1 : Int), Builtin.Slice.slicePlaces ((n : Int) - 1) (-1) (-1))) _ _ s
  have e : Builtin.Slice.slicePlaces ((n : Int) - 1) (-1) (-1) = n := by
    unfold Builtin.Slice.slicePlaces
    rw [if_neg (by decide)]
    by_cases hn : (n : Int) - 1 > -1
    · rw [if_pos hn]
      have : -(-1 : Int) = 1 := by decide
      rw [this, Int.ediv_one]
      omega
    · rw [if_neg hn]
      omega
  rw [e]
  exact wpAny_pure h
theorem fm_congr {α β : Type} {f g : α → Option β} : ∀ l : List α, (∀ x ∈ l, f x = g x) → l.filterMap f = l.filterMap g
  | [], _ => rfl
  | x :: r, h => by
    rw [List.filterMap_cons, List.filterMap_cons, h x List.mem_cons_self, fm_congr r fun y hy => h y (List.mem_cons_of_mem _ hy)]
theorem pick_back (xs : List Value) : ((List.range xs.toArray.size).filterMap fun (k : Nat) => xs.toArray[(((xs.toArray.size : Nat) : Int) - 1 + (k : Int) * -1).toNat]?).toArray = xs.reverse.toArray := by
  apply congrArg List.toArray
  have key : ∀ m : Nat, m ≤ xs.length → ((List.range m).filterMap fun (k : Nat) => xs[xs.length - 1 - k]?) = xs.reverse.take m := by
    intro m
    induction m with
    | zero => intro _; simp
    | succ m ih =>
      intro hm
      rw [List.range_succ, List.filterMap_append, ih (by omega), List.take_add_one]
      congr 1
      have hlt : xs.length - 1 - m < xs.length := by omega
      rw [List.getElem?_reverse (by omega)]
      simp [List.getElem?_eq_getElem hlt]
  have k2 := key xs.length (Nat.le_refl _)
  rw [List.take_of_length_le (by simp)] at k2
  rw [← k2, List.size_toArray]
  refine fm_congr _ fun k hk => ?_
  have hk' : k < xs.length := List.mem_range.mp hk
  have e : (((xs.length : Nat) : Int) - 1 + (k : Int) * -1).toNat = xs.length - 1 - k := by omega
  rw [e]
  simp
theorem getItem_tuple_back {t sl : Addr} {items : List Value} {ti : Tok} {Q : Value → Shared → Prop} (ht : IsTup s.heap t items.toArray) (hs : s.heap.IsSliceOf sl .none .none (.int (-1) ti))
    (h : Q (.ref s.heap.objs.size) { s with heap := s.heap.push { cls := .type "tuple", data := .seq items.reverse.toArray } })
    (hsz : items.length ≤ sizeLine) : wpAny (model prog w) A (getItem (.ref t) (.ref sl)) Q E s := by
  have htake : sizeOk (.seq items.reverse.toArray) := by
    show items.reverse.toArray.size ≤ sizeLine
    rw [List.size_toArray, List.length_reverse]
    exact hsz
  obtain ⟨os, hos, hcs, hds⟩ := id hs
  have hTs : s.TypeIs (.ref sl) "slice" := ⟨os, hos, hcs⟩
  unfold getItem
  try with_reducible refine wpAny_holding ?_
  first | refine wpAny_bind (wpAny_pure ?_) | skip
  refine wpAny_bind (wpAny_sequenceKey ht.typeIs (by decide) ?_)
  refine wpAny_bind (wpAny_callSpecial?_slot (name := Str.ofString "__getitem__") ht.typeIs PyProof.Rows.slot_tuple_getitem
    (wpAny_call_entry PyProof.Rows.slot_tuple_getitem ht.typeIs entry_tuple_getitem ?_ (args_tuple_getitem _ _)))
  show wpAny _ _ (Builtin.Tuple.tupleItemsOf (.ref t) >>= _) _ _ s
  refine wpAny_bind (tupleItemsOf_ ht ?_)
  refine wpAny_bind (wpAny_typeOf hTs ?_)
  rw [if_pos (by decide)]
  refine wpAny_bind (sliceApplied_back hs ?_)
  have hno : ¬ ((((items.toArray.size : Nat) : Int) - 1 == 0 && (-1 : Int) == 1 && items.toArray.size == items.toArray.size) = true) := by
    intro q
    rw [Bool.and_eq_true, Bool.and_eq_true] at q
    exact absurd q.1.2 (by decide)
  show wpAny _ _ (if (((items.toArray.size : Nat) : Int) - 1 == 0 && (-1 : Int) == 1 && items.toArray.size == items.toArray.size) = true then _ else _) _ _ s
  rw [if_neg hno, pick_back]
  first
    | exact wpAny_bind (m := Builtin.Tuple.tupleExact _) (wpAny_newObj_type (wpAny_pure ⟨_, rfl, wpAny_pure h⟩) htake)
    | exact wpAny_bind (m := Builtin.Tuple.tupleExact _) (wpAny_newObj_type (wpAny_bind (wpAny_pure (wpAny_pure ⟨_, rfl, wpAny_pure h⟩))) htake)
    | exact wpAny_bind (wpAny_bind (m := Builtin.Tuple.tupleExact _) (wpAny_newObj_type (wpAny_pure (wpAny_pure ⟨_, rfl, wpAny_pure h⟩)) htake))
    | exact wpAny_bind (wpAny_bind (m := Builtin.Tuple.tupleExact _) (wpAny_newObj_type (wpAny_pure ⟨_, rfl, wpAny_pure h⟩) htake))
end

/-- t[::-1] of a tuple -/
def tRevT (K : PySem.W.Frag) (te : TE) : TE := fun σ H Q => te σ H fun x H1 => ∃ a xs, x = .ref a ∧ SqT K H1 a xs ∧ ∀ p, H1 p = none → Q (.ref p) (upd H1 p (.tup xs.reverse))
section
variable {X : Cx}
theorem pe_revT {e : Expr} {te : TE} {k : Nat} {p1 p2 p3 pos : Pos} (he : PE X e te) : PE X (.Subscript e (.Slice none none (some (.UnaryOp .USub (.Constant (.int 1) k p1) p2)) p3) pos) (tRevT X.K te) := by
  refine ⟨fun pins s σ H Q I h => ?_⟩
  refine Subscript_ (thn (he.run pins s σ H _ I h) fun v s1 ⟨x, H1, I1, r1, q1⟩ => ?_)
  obtain ⟨a, xs, ex, hx, q⟩ := q1
  subst ex
  cases r1
  have hst : PO X (some (.UnaryOp .USub (.Constant (.int 1) k p1) p2)) (tPart (tUn (rU fun i => .int (-i)) (tC (.int 1)))) := po_some (pe_un un_neg pe_int)
  refine wpAny_Slice (thn (po_none.run pins s1 σ H1 (fun o H2 => o = none ∧ H2 = H1) I1 ⟨rfl, rfl⟩) fun vl s2 ⟨l, H2, I2, pl, el, e2⟩ => ?_)
  subst el e2
  refine thn (po_none.run pins s2 σ H2 (fun o H3 => o = none ∧ H3 = H2) I2 ⟨rfl, rfl⟩) fun vu s3 ⟨u, H3, I3, pu, eu, e3⟩ => ?_
  subst eu e3
  refine thn (hst.run pins s3 σ H3 (fun o H4 => o = some (-1) ∧ H4 = H3) I3 ⟨1, rfl, -1, rfl, rfl, rfl⟩) fun vs s4 ⟨o, H4, I4, ps, eo, e4⟩ => ?_
  subst eo e4
  cases pl
  cases pu
  obtain ⟨ti, rfl⟩ : ∃ ti, vs = Value.int (-1) ti := by
    cases ps
    exact ⟨_, rfl⟩
  have I5 : Inv X pins σ H4 { s4 with heap := s4.heap.push { cls := .type "slice", data := .fields #[Value.none, Value.none, Value.int (-1) ti] } } := I4.kept (t' := s4.toks) fun b ob q => Heap.get?_push_of_some _ q
  obtain ⟨its, r, ht, hz⟩ := I5.tuple hx
  have hlen := r.length
  show wpAny (model X.prog X.w) X.A (subscriptTail e (.Slice none none (some (.UnaryOp .USub (.Constant (.int 1) k p1) p2)) p3) (.ref a) (.ref s4.heap.objs.size)) (EP X pins σ Q) X.xe { s4 with heap := s4.heap.push { cls := .type "slice", data := .fields #[Value.none, Value.none, Value.int (-1) ti] } }
  refine tail_any (ops := [.ref a, .ref s4.heap.objs.size]) ht.typeIs (PyProof.Rows.slot_tuple_getitem.lookup) ?_ (by with_unfolding_all rfl)
  refine getItem_tuple_back ht (Heap.IsSliceOf.new _ Value.none Value.none (Value.int (-1) ti)) ?_ (by rw [← hlen]; exact hz)
  refine ⟨.ref _, _, I5.laid (t' := s4.toks) (o := .tup xs.reverse) (fun b ob q => Heap.get?_push_of_some _ q) (Nat.le_refl _) ?_, rfl, q _ (I5.hok.fresh (Nat.le_refl _))⟩
  exact ⟨by rw [List.length_reverse]; exact hz, _, r.reverse, IsTup.new _ _⟩
end

/-! ### xs[:-m-1:-1] of a list: the last m, the last one first -/
def tBackL (K : PySem.W.Frag) (te tu : TE) : TE := fun σ H Q => te σ H fun x H1 => tPart tu σ H1 fun o H2 => ∃ (a : Addr) (xs : List V) (m : Nat), x = .ref a ∧ o = some (-(m : Int) - 1) ∧ SqL K H2 a xs ∧ m ≤ xs.length ∧ ∀ p, H2 p = none → Q (.ref p) (upd H2 p (.lst (xs.drop (xs.length - m)).reverse))
theorem back_bounds (n m : Nat) (h : m ≤ n) : sliceBounds none (some (-(m : Int) - 1)) (some (-1)) n = ((n : Int) - 1, (n : Int) - m - 1, -1) := by
  have h1 : -(m : Int) - 1 < 0 := by omega
  have h2 : ¬ ((-1 : Int) > 0) := by decide
  simp only [sliceBounds, Option.getD_some, h1, h2, if_true, if_false]
  have e : max (-1) (min (-(m : Int) - 1 + n) ((n : Int) - 1)) = (n : Int) - m - 1 := by omega
  rw [e]
theorem back_range (n m : Nat) (h : m ≤ n) : sliceRange ((n : Int) - 1) ((n : Int) - m - 1) (-1) = (List.range m).map fun k => n - 1 - k := by
  unfold sliceRange
  have h1 : ¬ ((-1 : Int) > 0) := by decide
  by_cases hm : (n : Int) - 1 > (n : Int) - m - 1
  · have e : ((n : Int) - 1 - ((n : Int) - m - 1) - -1 - 1) / (- -1) = (m : Int) := by
      rw [show (- -1 : Int) = 1 by decide, Int.ediv_one]
      omega
    simp only [h1, if_false, hm, if_true, e, Int.toNat_natCast]
    apply List.map_congr_left
    intro k hk
    have := List.mem_range.mp hk
    omega
  · have e : m = 0 := by omega
    subst e
    simp
theorem back_pick (xs : List Value) (m : Nat) (h : m ≤ xs.length) : slicePick xs.toArray none (some (-(m : Int) - 1)) (some (-1)) = ((xs.drop (xs.length - m)).reverse).toArray := by
  unfold slicePick
  rw [List.size_toArray, back_bounds _ _ h]
  show ((sliceRange ((xs.length : Int) - 1) ((xs.length : Int) - m - 1) (-1)).filterMap (xs.toArray[·]?)).toArray = _
  rw [back_range _ _ h]
  apply congrArg List.toArray
  rw [List.filterMap_map]
  have key : ∀ j : Nat, j ≤ xs.length → ((List.range j).filterMap fun (k : Nat) => xs[xs.length - 1 - k]?) = xs.reverse.take j := by
    intro j
    induction j with
    | zero => intro _; simp
    | succ j ih =>
      intro hm
      rw [List.range_succ, List.filterMap_append, ih (by omega), List.take_add_one]
      congr 1
      have hlt : xs.length - 1 - j < xs.length := by omega
      rw [List.getElem?_reverse (by omega)]
      simp [List.getElem?_eq_getElem hlt]
  have e : ((fun x : Nat => xs.toArray[x]?) ∘ fun k => xs.length - 1 - k) = fun k => xs[xs.length - 1 - k]? := by
    funext k
    simp
  rw [e, key m h, List.take_reverse]
section
variable {X : Cx}
theorem pe_backL {e u : Expr} {te tu : TE} {k : Nat} {p1 p2 p3 pos : Pos} (he : PE X e te) (hu : PE X u tu) : PE X (.Subscript e (.Slice none (some u) (some (.UnaryOp .USub (.Constant (.int 1) k p1) p2)) p3) pos) (tBackL X.K te tu) := by
  refine ⟨fun pins s σ H Q I h => ?_⟩
  refine Subscript_ (thn (he.run pins s σ H _ I h) fun v s1 ⟨x, H1, I1, r1, q1⟩ => ?_)
  have hup : PO X (some u) (tPart tu) := po_some hu
  have hst : PO X (some (.UnaryOp .USub (.Constant (.int 1) k p1) p2)) (tPart (tUn (rU fun i => .int (-i)) (tC (.int 1)))) := po_some (pe_un un_neg pe_int)
  refine wpAny_Slice (thn (po_none.run pins s1 σ H1 (fun o H2 => o = none ∧ H2 = H1) I1 ⟨rfl, rfl⟩) fun vl s2 ⟨l, H2, I2, pl, el, e2⟩ => ?_)
  subst el e2
  refine thn (hup.run pins s2 σ H2 (fun o H3 => ∃ (a : Addr) (xs : List V) (m : Nat), x = .ref a ∧ o = some (-(m : Int) - 1) ∧ SqL X.K H3 a xs ∧ m ≤ xs.length ∧ ∀ p, H3 p = none → Q (.ref p) (upd H3 p (.lst (xs.drop (xs.length - m)).reverse))) I2 q1) fun vu s3 ⟨u', H3, I3, pu, qu⟩ => ?_
  obtain ⟨a, xs, m, ex, eu, hx, hm, q⟩ := qu
  subst ex eu
  refine thn (hst.run pins s3 σ H3 (fun o H4 => o = some (-1) ∧ H4 = H3) I3 ⟨1, rfl, -1, rfl, rfl, rfl⟩) fun vs s4 ⟨o, H4, I4, ps, eo, e4⟩ => ?_
  subst eo e4
  cases r1
  have I5 : Inv X pins σ H4 { s4 with heap := s4.heap.push { cls := .type "slice", data := .fields #[vl, vu, vs] } } := I4.kept (t' := s4.toks) fun b ob q => Heap.get?_push_of_some _ q
  obtain ⟨its, r, ht, hz⟩ := I5.list hx
  have hlen := r.length
  show wpAny (model X.prog X.w) X.A (subscriptTail e (.Slice none (some u) (some (.UnaryOp .USub (.Constant (.int 1) k p1) p2)) p3) (.ref a) (.ref s4.heap.objs.size)) (EP X pins σ Q) X.xe { s4 with heap := s4.heap.push { cls := .type "slice", data := .fields #[vl, vu, vs] } }
  refine tail_any (ops := [.ref a, .ref s4.heap.objs.size]) ht.isList.typeIs (PySem.slot_list_getitem.lookup) ?_ (by with_unfolding_all rfl)
  refine wpAny_getItem_list_slice ht.isList (Heap.IsSliceOf.new _ vl vu vs) pl pu ps (by decide) ?_ (by rw [List.size_toArray]; omega)
  rw [back_pick its m (by omega)]
  refine ⟨.ref _, _, I5.laid (t' := s4.toks) (o := .lst (xs.drop (xs.length - m)).reverse) (fun b ob q => Heap.get?_push_of_some _ q) (Nat.le_refl _) ?_, rfl, q _ (I5.hok.fresh (Nat.le_refl _))⟩
  refine ⟨by rw [List.length_reverse, List.length_drop]; omega, _, 0, ?_, Heap.get?_push_size _ rfl⟩
  rw [hlen]
  exact (r.drop _).reverse
end

/-! ### del xs[-m:] of a list, 1 ≤ m -/
def sel (start stop step : Int) (i : Nat) : Bool :=
  if step > 0 then start ≤ i && i < stop && (i - start) % step == 0
  else stop < i && i ≤ start && (start - i) % (-step) == 0
theorem del_bounds (n m : Nat) (h : m ≤ n) (h1 : 1 ≤ m) : sliceBounds (some (-(m : Int))) none none n = ((n : Int) - m, (n : Int), 1) := by
  have h2 : -(m : Int) < 0 := by omega
  have h3 : (1 : Int) > 0 := by decide
  simp only [sliceBounds, Option.getD_none, h2, h3, if_true]
  have e : max 0 (min (-(m : Int) + n) (n : Int)) = (n : Int) - m := by omega
  rw [e]
theorem del_keep (n m : Nat) (h : m ≤ n) (xs : List Value) : ∀ k : Nat, k + xs.length = n →
    ((xs.zipIdx k).filterMap fun (p : Value × Nat) => if sel ((n : Int) - m) (n : Int) 1 p.2 then none else some p.1) = xs.take (n - m - k) := by
  induction xs with
  | nil => intro k _; simp
  | cons x r ih =>
    intro k hk
    rw [List.length_cons] at hk
    rw [List.zipIdx_cons, List.filterMap_cons]
    have hs : sel ((n : Int) - m) (n : Int) 1 k = decide (n - m ≤ k) := by
      unfold sel
      rw [if_pos (by decide), Int.emod_one]
      by_cases q : n - m ≤ k
      · have q1 : (n : Int) - m ≤ (k : Int) := by omega
        have q2 : (k : Int) < (n : Int) := by omega
        simp [q, q1, q2]
      · have q1 : ¬ (n : Int) - m ≤ (k : Int) := by omega
        simp [q, q1]
    have i2 := ih (k + 1) (by omega)
    rw [i2]
    dsimp only
    rw [hs]
    by_cases q : n - m ≤ k
    · rw [if_pos (by simpa using q)]
      have e1 : n - m - (k + 1) = 0 := by omega
      have e2 : n - m - k = 0 := by omega
      rw [e1, e2]
      simp
    · rw [if_neg (by simpa using q)]
      have e1 : n - m - k = (n - m - (k + 1)) + 1 := by omega
      rw [e1, List.take_succ_cons]
section
variable {prog : Program} {w : World} {A : Around} {E : Value → Shared → Prop} {s : Shared}
theorem delItem_tail {l sl : Addr} {its : List Value} {n m : Nat} {ti : Tok} {Q : Unit → Shared → Prop}
    (e : s.heap.get? l = some { cls := .type "list", data := .seq its.toArray n }) (hs : s.heap.IsSliceOf sl (.int (-(m : Int)) ti) .none .none) (h1 : 1 ≤ m) (hm : m ≤ its.length) (hsz : its.length ≤ sizeLine)
    (h : ∀ f : Array Value → Array Value, f its.toArray = (its.take (its.length - m)).toArray → Q () { s with heap := s.heap.update l (Obj.mapSeq f) }) :
    wpAny (model prog w) A (delItem (.ref l) (.ref sl)) Q E s := by
  have hl : s.heap.IsList l its.toArray := PySem.IsL.isList e
  obtain ⟨os, hos, hcs, hds⟩ := id hs
  have hTs : s.TypeIs (.ref sl) "slice" := ⟨os, hos, hcs⟩
  have hstep : ¬ ((rawPart none == rawInt 0) = true) := Bool.false_ne_true
  refine wpAny_delItem_slot hl.typeIs (by decide) PySem.F.slot_list_delitem
    (wpAny_call_entry PySem.F.slot_list_delitem hl.typeIs PySem.F.entry_list_delitem ?_ (PySem.F.args_list_delitem_2 _ _))
  show wpAny _ _ (Builtin.List.listSubscript? (.ref sl) >>= _) _ _ s
  refine wpAny_bind ?_
  unfold Builtin.List.listSubscript?
  refine wpAny_bind (wpAny_specialOf hTs slice_no_index ?_)
  simp only [Option.isNone_none, if_true]
  refine wpAny_pure ?_
  show wpAny _ _ (typeOf (.ref sl) >>= _) _ _ s
  refine wpAny_bind (wpAny_typeOf hTs ?_)
  first
    | rw [if_neg (by decide)]
    | refine PySem.W.KFB.if_not (by decide) ?_
  rw [listSliceParts_eq]
  refine wpAny_bind (wpAny_bind (wpAny_field hos hds (x := .none) rfl (wpAny_bind (wpAny_listPart .none ?_))))
  rw [if_neg hstep]
  refine wpAny_bind (wpAny_field hos hds (x := .int (-(m : Int)) ti) rfl (wpAny_bind (wpAny_listPart (.int (-(m : Int)) ti) ?_)))
  refine wpAny_bind (wpAny_field hos hds (x := .none) rfl (wpAny_bind (wpAny_listPart .none (wpAny_pure ?_))))
  unfold Builtin.List.listItems
  refine wpAny_bind (wpAny_bind (wpAny_seqItems e rfl (wpAny_pure ?_)))
  refine wpAny_bind (wpAny_of_eq ((sliceIndices_raw (some (-(m : Int))) none none its.toArray.size (by simp)).trans (congrArg (pure : Int × Int × Int → Sem (Int × Int × Int)) (show sliceBounds (some (-(m : Int))) none none its.toArray.size = ((its.length : Int) - m, (its.length : Int), 1) from del_bounds its.length m hm h1))) ?_)
  refine wpAny_bind (wpAny_rule ?_)
  have hf := congrArg List.toArray (del_keep its.length m hm its 0 (Nat.zero_add _))
  rw [Nat.sub_zero] at hf
  show wpAny _ _ (updateSeq l (fun xs : Array Value => (xs.toList.zipIdx.filterMap fun (p : Value × Nat) => if sel ((its.length : Int) - m) (its.length : Int) 1 p.2 then none else some p.1).toArray) >>= _) _ _ s
  have hf' : (fun xs : Array Value => (xs.toList.zipIdx.filterMap fun (p : Value × Nat) => if sel ((its.length : Int) - m) (its.length : Int) 1 p.2 then none else some p.1).toArray) its.toArray = (its.take (its.length - m)).toArray := hf
  have hz2 : ((fun xs : Array Value => (xs.toList.zipIdx.filterMap fun (p : Value × Nat) => if sel ((its.length : Int) - m) (its.length : Int) 1 p.2 then none else some p.1).toArray) its.toArray).size ≤ sizeLine + 1 := by
    rw [hf', List.size_toArray, List.length_take]
    omega
  refine wpAny_bind (wpAny_updateSeq (hz := by rw [List.size_toArray]; exact hsz) (_hz' := hz2) e rfl ?_)
  refine wpAny_bind (wpAny_letGo ?_)
  have k := h (fun xs : Array Value => (xs.toList.zipIdx.filterMap fun (p : Value × Nat) => if sel ((its.length : Int) - m) (its.length : Int) 1 p.2 then none else some p.1).toArray) hf'
  first
    | exact wpAny_bind (wpAny_pure (wpAny_pure ⟨.none, rfl, k⟩))
    | exact wpAny_pure ⟨.none, rfl, k⟩
end
def tDelTail (te tu : TE) : TS := fun D σ H => te σ H fun x H1 => tPart tu σ H1 fun o H2 => ∃ (l : Addr) (xs : List V) (m : Nat), x = .ref l ∧ o = some (-(m : Int)) ∧ H2 l = some (.lst xs) ∧ 1 ≤ m ∧ m ≤ xs.length ∧ D.nx σ (upd H2 l (.lst (xs.take (xs.length - m))))
section
variable {X : Cx}
theorem ps_delTail {e u : Expr} {te tu : TE} {p3 tpos pos : Pos} (he : PE X e te) (hu : PE X u tu) : PS X (.Delete [.Subscript e (.Slice (some u) none none p3) tpos] pos) (tDelTail te tu) := by
  refine ⟨fun pins s σ H D I h => ?_⟩
  refine wpAny_Delete (wpAny_deleteEach_cons (wpAny_delete_Subscript (thn (he.run pins s σ H _ I h) fun v s1 ⟨x, H1, I1, r1, q1⟩ => ?_)))
  have hup : PO X (some u) (tPart tu) := po_some hu
  refine wpAny_Slice (thn (hup.run pins s1 σ H1 (fun o H2 => ∃ (l : Addr) (xs : List V) (m : Nat), x = .ref l ∧ o = some (-(m : Int)) ∧ H2 l = some (.lst xs) ∧ 1 ≤ m ∧ m ≤ xs.length ∧ D.nx σ (upd H2 l (.lst (xs.take (xs.length - m))))) I1 q1) fun vl s2 ⟨o, H2, I2, pl, q2⟩ => ?_)
  obtain ⟨l, xs, m, ex, eo, hH, h1, hm, q⟩ := q2
  subst ex eo
  cases r1
  rw [evalPart_none]
  refine wpAny_pure ?_
  refine wpAny_pure ?_
  obtain ⟨i, ti, rfl, ei⟩ : ∃ i ti, vl = Value.int i ti ∧ i = -(m : Int) := by
    cases pl
    exact ⟨_, _, rfl, rfl⟩
  subst ei
  have I5 : Inv X pins σ H2 { s2 with heap := s2.heap.push { cls := .type "slice", data := .fields #[.int (-(m : Int)) ti, Value.none, Value.none] } } := I2.kept (t' := s2.toks) fun b ob q => Heap.get?_push_of_some _ q
  obtain ⟨z, its, n, r, hl, e5⟩ := I5.lstM hH
  refine delItem_tail e5 (Heap.IsSliceOf.new _ (.int (-(m : Int)) ti) Value.none Value.none) h1 (by omega) (by omega) fun f hf => wpAny_deleteEach_nil ⟨σ, _, ?_, q⟩
  refine I5.lset (its' := its.take (its.length - m)) (t' := s2.toks) hH e5 hf ?_ (by rw [List.length_take]; omega)
  rw [hl]
  exact r.take _
end

/-! ### xs.extend(a tuple) -/
section
open AutoSeq1
theorem list_extend_tupW (l : Addr) (items : Array Value) (n : Nat) (b : Addr) (items2 : Array Value) (n2 : Nat) (dd : Option Addr) (sl : Array (Option Value)) (hs0 : ¬(!items.isEmpty && Builtin.List.listTooLong (items.size + items2.size)) = true) (hs1 : items.size ≤ sizeLine) (hs2 : items.size + items2.size ≤ sizeLine + 1) :
    Meets (Builtin.«list.extend» ⟨[.ref l, .ref b], []⟩) (fun _ R s => s.heap.get? l = some { cls := .type "list", dict := none, data := .seq items n, slots := #[] } ∧ s.heap.get? b = some { cls := .type "tuple", dict := dd, data := .seq items2 n2, slots := sl } ∧ R (.ok (.ret Value.none)) { s with heap := s.heap.update l (Obj.mapSeq fun x => x ++ items2), toks := s.toks }) :=
  .of_wp fun prog w A R s h => by
    obtain ⟨hp, g, d, tk, os⟩ := s; obtain ⟨hl, hb, h⟩ := h; have f1 := AutoSeq1.idx_int; have f2 := AutoSeq1.sub_tuple_tuple; have f3 := AutoSeq1.sub_list_list; have f4 := AutoSeq1.sub_tuple_list; have f5 := AutoSeq1.sub_list_tuple;
    have hz' : (items ++ items2).size ≤ sizeLine + 1 := by rw [Array.size_append]; exact hs2
    wp_walk using (wpAny_updateSeq hl rfl (hz := hs1) (_hz' := hz')), wpAny_loadPart' hl, wpAny_loadPart' hb; exact ⟨_, rfl, h⟩
end
def rExtT (K : PySem.W.Frag) : V → List V → Hp → VK → Prop := fun x vs H Q => ∃ l b xs zs, x = .ref l ∧ vs = [.ref b] ∧ H l = some (.lst xs) ∧ SqT K H b zs ∧ xs.length + zs.length ≤ sizeLine ∧ Q .non (upd H l (.lst (xs ++ zs)))
section
variable {X : Cx}
theorem mt_extT : MtR X "list.extend" (rExtT X.K) := by
  intro pins s σ H x vs v us Q I rx rv h
  obtain ⟨l, b, xs, zs, rfl, rfl, hH, hB, hz, q⟩ := h
  cases rx
  obtain ⟨u, rfl, ru⟩ := rv.one
  cases ru
  obtain ⟨z, its, n, r, hl, e⟩ := I.lstM hH
  obtain ⟨its2, r2, ⟨⟨oc, od, dt, sl⟩, e2, c2, n2, d2⟩, z2⟩ := I.tuple hB
  simp only at c2 d2
  subst c2 d2
  have hl2 := r2.length
  have hsz : its.toArray.size + its2.toArray.size ≤ sizeLine := by rw [List.size_toArray, List.size_toArray]; omega
  have hlong : ¬ (!its.toArray.isEmpty && Builtin.List.listTooLong (its.toArray.size + its2.toArray.size)) = true := by
    rw [notLongL hsz, Bool.and_false]
    exact Bool.false_ne_true
  refine call_meets PySem.F.slot_list_extend ⟨_, e, rfl⟩ PySem.F.entry_list_extend (PySem.F.args_list_extend_2 _ _)
    (list_extend_tupW l its.toArray n b its2.toArray n2 od sl hlong (by rw [List.size_toArray]; omega) (by omega)) ⟨e, e2, ?_⟩
  refine ⟨.non, _, I.lset (its' := its ++ its2) (t' := s.toks) hH e (by simp) (r.append r2) ?_, rfl, q⟩
  rw [List.length_append]
  omega
end
end Hm

set_option Elab.async false
set_option linter.all false
set_option maxRecDepth 100000
set_option maxHeartbeats 4000000
namespace Hm
open PySem PySem.Spec PyProof.Rows L2 HT

/-! ## terms, told in Lean -/
inductive Tm where
  | var (k : Int)
  | int (i : Int)
  | atom (s : Str)
  | comp (f : Str) (as : List Tm)

def Tm.args : Tm → List Tm
  | .comp _ as => as
  | _ => []
mutual
def size : Tm → Nat
  | .comp _ as => 1 + sizes as
  | _ => 1
def sizes : List Tm → Nat
  | [] => 0
  | t :: ts => size t + sizes ts
end
mutual
def depth : Tm → Nat
  | .comp _ as => 1 + depths as
  | _ => 1
def depths : List Tm → Nat
  | [] => 0
  | t :: ts => max (depth t) (depths ts)
end
mutual
/-- the parts, each ahead of its arguments -/
def pre : Tm → List Tm
  | .var k => [.var k]
  | .int i => [.int i]
  | .atom s => [.atom s]
  | .comp f as => .comp f as :: pres as
def pres : List Tm → List Tm
  | [] => []
  | t :: ts => pre t ++ pres ts
end
mutual
/-- variables replaced, all at once -/
def sub (g : Int → Tm) : Tm → Tm
  | .var k => g k
  | .int i => .int i
  | .atom s => .atom s
  | .comp f as => .comp f (subs g as)
def subs (g : Int → Tm) : List Tm → List Tm
  | [] => []
  | t :: ts => sub g t :: subs g ts
end
def AtomOk (s : Str) : Prop := s.cps.size ≤ 40 ∧ ∀ c ∈ s.cps.toList, 32 ≤ c ∧ c ≤ 126 ∧ c ≠ 37
def tooGreat : Int := (10 ^ 60) ^ 5
mutual
/-- a term as the document tells it -/
def Ok : Tm → Prop
  | .var k => 0 ≤ k
  | .int i => -tooGreat < i ∧ i < tooGreat
  | .atom s => AtomOk s
  | .comp f as => AtomOk f ∧ 1 ≤ as.length ∧ as.length ≤ 8 ∧ Oks as
def Oks : List Tm → Prop
  | [] => True
  | t :: ts => Ok t ∧ Oks ts
end

theorem sizes_cons (t : Tm) (ts : List Tm) : sizes (t :: ts) = size t + sizes ts := by rw [sizes]
theorem depths_cons (t : Tm) (ts : List Tm) : depths (t :: ts) = max (depth t) (depths ts) := by rw [depths]
theorem pres_cons (t : Tm) (ts : List Tm) : pres (t :: ts) = pre t ++ pres ts := by rw [pres]
theorem oks_cons (t : Tm) (ts : List Tm) : Oks (t :: ts) = (Ok t ∧ Oks ts) := by rw [Oks]
theorem size_pos : ∀ t : Tm, 1 ≤ size t
  | .var _ => Nat.le_refl _
  | .int _ => Nat.le_refl _
  | .atom _ => Nat.le_refl _
  | .comp _ as => by unfold size; omega
theorem sizes_app : ∀ xs ys : List Tm, sizes (xs ++ ys) = sizes xs + sizes ys
  | [], ys => by show sizes ys = sizes [] + sizes ys; unfold sizes; omega
  | x :: xs, ys => by
    show sizes (x :: (xs ++ ys)) = _
    rw [sizes_cons, sizes_cons, sizes_app xs ys]
    omega
theorem sizes_rev : ∀ xs : List Tm, sizes xs.reverse = sizes xs
  | [] => rfl
  | x :: xs => by
    rw [List.reverse_cons, sizes_app, sizes_rev xs, sizes_cons x xs]
    have : sizes [x] = size x := by simp [sizes]
    omega
theorem sizes_one (t : Tm) : sizes [t] = size t := by simp [sizes]
theorem size_eq : ∀ t : Tm, size t = 1 + sizes t.args
  | .var _ => by simp [size, Tm.args, sizes]
  | .int _ => by simp [size, Tm.args, sizes]
  | .atom _ => by simp [size, Tm.args, sizes]
  | .comp _ as => by simp [size, Tm.args]
theorem len_sizes : ∀ ts : List Tm, ts.length ≤ sizes ts
  | [] => Nat.zero_le _
  | t :: ts => by
    have h1 := size_pos t
    have h2 := len_sizes ts
    rw [List.length_cons]
    unfold sizes
    omega
theorem pre_eq : ∀ t : Tm, pre t = t :: pres t.args
  | .var _ => by simp [pre, Tm.args, pres]
  | .int _ => by simp [pre, Tm.args, pres]
  | .atom _ => by simp [pre, Tm.args, pres]
  | .comp _ as => by simp [pre, Tm.args]
theorem pres_app : ∀ xs ys : List Tm, pres (xs ++ ys) = pres xs ++ pres ys
  | [], ys => by simp [pres]
  | x :: xs, ys => by
    show pres (x :: (xs ++ ys)) = _
    rw [pres_cons, pres_cons, pres_app xs ys, List.append_assoc]
mutual
theorem len_pre : ∀ t : Tm, (pre t).length = size t
  | .var _ => rfl
  | .int _ => rfl
  | .atom _ => rfl
  | .comp f as => by
    unfold pre size
    rw [List.length_cons, len_pres as]
    omega
theorem len_pres : ∀ ts : List Tm, (pres ts).length = sizes ts
  | [] => rfl
  | t :: ts => by
    unfold pres sizes
    rw [List.length_append, len_pre t, len_pres ts]
end
theorem oks_app : ∀ {xs ys : List Tm}, Oks (xs ++ ys) ↔ Oks xs ∧ Oks ys
  | [], ys => by simp [Oks]
  | x :: xs, ys => by
    show Oks (x :: (xs ++ ys)) ↔ _
    rw [oks_cons, oks_cons, oks_app (xs := xs) (ys := ys)]
    constructor
    · rintro ⟨a, b, c⟩; exact ⟨⟨a, b⟩, c⟩
    · rintro ⟨⟨a, b⟩, c⟩; exact ⟨a, b, c⟩
theorem ok_args : ∀ {t : Tm}, Ok t → Oks t.args
  | .var _, _ => trivial
  | .int _, _ => trivial
  | .atom _, _ => trivial
  | .comp _ _, h => by unfold Ok at h; exact h.2.2.2
theorem depths_app : ∀ xs ys : List Tm, depths (xs ++ ys) = max (depths xs) (depths ys)
  | [], ys => by simp [depths]
  | x :: xs, ys => by
    show depths (x :: (xs ++ ys)) = _
    rw [depths_cons, depths_cons, depths_app xs ys]
    omega
theorem depth_eq : ∀ t : Tm, depth t = 1 + depths t.args
  | .var _ => by simp [depth, Tm.args, depths]
  | .int _ => by simp [depth, Tm.args, depths]
  | .atom _ => by simp [depth, Tm.args, depths]
  | .comp _ as => by simp [depth, Tm.args]
/-- the next layer -/
def layer (ts : List Tm) : List Tm := ts.flatMap Tm.args
theorem depths_layer : ∀ t ts, depths (t :: ts) = 1 + depths (layer (t :: ts))
  | t, [] => by
    unfold layer
    simp [depths, depth_eq]
  | t, u :: us => by
    have ih := depths_layer u us
    unfold layer at ih ⊢
    rw [List.flatMap_cons, depths_app]
    show max (depth t) (depths (u :: us)) = _
    rw [ih, depth_eq]
    omega
theorem sizes_layer : ∀ ts, sizes (layer ts) + ts.length = sizes ts
  | [] => rfl
  | t :: ts => by
    have ih := sizes_layer ts
    unfold layer at ih ⊢
    rw [List.flatMap_cons, sizes_app, List.length_cons, sizes_cons, size_eq t]
    omega

/-! ## variables, by first occurrence -/
def addNew (acc : List Int) (k : Int) : List Int := if k ∈ acc then acc else acc ++ [k]
def stepVar (acc : List Int) : Tm → List Int
  | .var k => addNew acc k
  | _ => acc
def varsOf (t : Tm) : List Int := (pre t).foldl stepVar []
theorem addNew_nodup {acc : List Int} {k : Int} (h : acc.Nodup) : (addNew acc k).Nodup := by
  unfold addNew
  by_cases q : k ∈ acc
  · rw [if_pos q]; exact h
  · rw [if_neg q, List.nodup_append]
    exact ⟨h, by simp, fun a ha b hb e => by
      simp only [List.mem_singleton] at hb
      subst hb
      subst e
      exact q ha⟩
theorem addNew_len (acc : List Int) (k : Int) : (addNew acc k).length ≤ acc.length + 1 := by
  unfold addNew
  split
  · omega
  · rw [List.length_append, List.length_singleton]; omega
theorem stepVar_nodup {acc : List Int} {t : Tm} (h : acc.Nodup) : (stepVar acc t).Nodup := by
  cases t <;> first | exact addNew_nodup h | exact h
theorem stepVar_len (acc : List Int) (t : Tm) : (stepVar acc t).length ≤ acc.length + 1 := by
  cases t <;> first | exact addNew_len acc _ | exact Nat.le_succ _
theorem fold_nodup : ∀ (ts : List Tm) {acc : List Int}, acc.Nodup → (ts.foldl stepVar acc).Nodup
  | [], _, h => h
  | t :: ts, _, h => fold_nodup ts (stepVar_nodup h)
theorem fold_len : ∀ (ts : List Tm) (acc : List Int), (ts.foldl stepVar acc).length ≤ acc.length + ts.length
  | [], _ => Nat.le_refl _
  | t :: ts, acc => by
    have h := fold_len ts (stepVar acc t)
    have h2 := stepVar_len acc t
    rw [List.foldl_cons, List.length_cons]
    omega
theorem varsOf_nodup (t : Tm) : (varsOf t).Nodup := fold_nodup _ List.nodup_nil
theorem varsOf_len (t : Tm) : (varsOf t).length ≤ size t := by
  have h := fold_len (pre t) []
  rw [len_pre, List.length_nil, Nat.zero_add] at h
  exact h

/-! ## rows, and what folding them gives -/
inductive Rw where
  | leaf (t : Tm)
  | node (f : Str) (n : Nat)
mutual
def rowOf (g : Int → Tm) : Tm → List Rw
  | .var k => [.leaf (g k)]
  | .int i => [.leaf (.int i)]
  | .atom s => [.leaf (.atom s)]
  | .comp f as => .node f as.length :: rowsOf g as
def rowsOf (g : Int → Tm) : List Tm → List Rw
  | [] => []
  | t :: ts => rowOf g t ++ rowsOf g ts
end
def rw1 (g : Int → Tm) : Tm → Rw
  | .var k => .leaf (g k)
  | .int i => .leaf (.int i)
  | .atom s => .leaf (.atom s)
  | .comp f as => .node f as.length
mutual
theorem row_pre (g : Int → Tm) : ∀ t : Tm, (pre t).map (rw1 g) = rowOf g t
  | .var _ => rfl
  | .int _ => rfl
  | .atom _ => rfl
  | .comp f as => by
    unfold pre rowOf
    rw [List.map_cons, row_pres g as]
    rfl
theorem row_pres (g : Int → Tm) : ∀ ts : List Tm, (pres ts).map (rw1 g) = rowsOf g ts
  | [] => rfl
  | t :: ts => by
    unfold pres rowsOf
    rw [List.map_append, row_pre g t, row_pres g ts]
end
/-- one turn of folding: the stack has its top at its end -/
def turn (r : Rw) (D : List Tm) : List Tm :=
  match r with
  | .leaf t => D ++ [t]
  | .node f n => D.take (D.length - n) ++ [.comp f (D.drop (D.length - n)).reverse]
theorem subs_len (g : Int → Tm) : ∀ ts : List Tm, (subs g ts).length = ts.length
  | [] => rfl
  | t :: ts => by
    unfold subs
    rw [List.length_cons, List.length_cons, subs_len g ts]
mutual
theorem fold_row (g : Int → Tm) : ∀ (t : Tm) (D : List Tm), (rowOf g t).foldr turn D = D ++ [sub g t]
  | .var _, _ => rfl
  | .int _, _ => rfl
  | .atom _, _ => rfl
  | .comp f as, D => by
    unfold rowOf sub
    rw [List.foldr_cons, fold_rows g as D]
    unfold turn
    have hl : (D ++ (subs g as).reverse).length - as.length = D.length := by
      rw [List.length_append, List.length_reverse, subs_len]
      omega
    dsimp only
    rw [hl, List.take_left' rfl, List.drop_left' rfl, List.reverse_reverse]
theorem fold_rows (g : Int → Tm) : ∀ (ts : List Tm) (D : List Tm), (rowsOf g ts).foldr turn D = D ++ (subs g ts).reverse
  | [], D => by simp [rowsOf, subs]
  | t :: ts, D => by
    unfold rowsOf subs
    rw [List.foldr_append, fold_rows g ts D, fold_row g t, List.reverse_cons, List.append_assoc]
end
/-- each node of a row finds its arguments on the stack -/
def Rooms : List Rw → List Tm → Prop
  | [], _ => True
  | r :: rs, D => Rooms rs D ∧ (match r with
    | .leaf _ => True
    | .node _ n => 1 ≤ n ∧ n ≤ (rs.foldr turn D).length)
theorem rooms_cons (r : Rw) (rs : List Rw) (D : List Tm) : Rooms (r :: rs) D = (Rooms rs D ∧ (match r with
    | .leaf _ => True
    | .node _ n => 1 ≤ n ∧ n ≤ (rs.foldr turn D).length)) := by
  cases r <;> rfl
theorem rooms_app : ∀ {xs ys : List Rw} {D : List Tm}, Rooms (xs ++ ys) D ↔ Rooms ys D ∧ Rooms xs (ys.foldr turn D)
  | [], ys, D => by simp [Rooms]
  | x :: xs, ys, D => by
    show Rooms (x :: (xs ++ ys)) D ↔ _
    rw [rooms_cons, rooms_cons, rooms_app (xs := xs) (ys := ys), List.foldr_append]
    constructor
    · rintro ⟨⟨a, b⟩, c⟩; exact ⟨a, b, c⟩
    · rintro ⟨a, b, c⟩; exact ⟨⟨a, b⟩, c⟩
mutual
theorem rooms_row (g : Int → Tm) : ∀ (t : Tm) (D : List Tm), Ok t → Rooms (rowOf g t) D
  | .var _, _, _ => ⟨trivial, trivial⟩
  | .int _, _, _ => ⟨trivial, trivial⟩
  | .atom _, _, _ => ⟨trivial, trivial⟩
  | .comp f as, D, h => by
    unfold Ok at h
    unfold rowOf
    refine ⟨rooms_rows g as D h.2.2.2, h.2.1, ?_⟩
    rw [fold_rows g as D, List.length_append, List.length_reverse, subs_len]
    omega
theorem rooms_rows (g : Int → Tm) : ∀ (ts : List Tm) (D : List Tm), Oks ts → Rooms (rowsOf g ts) D
  | [], _, _ => trivial
  | t :: ts, D, h => by
    unfold Oks at h
    unfold rowsOf
    exact rooms_app.mpr ⟨rooms_rows g ts D h.2, rooms_row g t _ h.1⟩
end

/-! ## how a heap bears a term -/
mutual
def Rep (K : PySem.W.Frag) (H : Hp) : Tm → V → Prop
  | .var k, v => ∃ a, v = .ref a ∧ SqT K H a [.int k]
  | .int i, v => v = .int i
  | .atom s, v => v = .str s
  | .comp f as, v => ∃ a vs, v = .ref a ∧ SqT K H a (.str f :: vs) ∧ Reps K H as vs
def Reps (K : PySem.W.Frag) (H : Hp) : List Tm → List V → Prop
  | [], vs => vs = []
  | t :: ts, vs => ∃ v ws, vs = v :: ws ∧ Rep K H t v ∧ Reps K H ts ws
end
/-- tuples stay -/
def Tups (K : PySem.W.Frag) (H H' : Hp) : Prop := ∀ a xs, SqT K H a xs → SqT K H' a xs
theorem Tups.refl {K : PySem.W.Frag} (H : Hp) : Tups K H H := fun _ _ h => h
theorem Tups.trans {K : PySem.W.Frag} {H H1 H2 : Hp} (a : Tups K H H1) (b : Tups K H1 H2) : Tups K H H2 := fun x xs h => b x xs (a x xs h)
theorem Tups.of {K : PySem.W.Frag} {H H' : Hp} (e : Evl.Ex H H') : Tups K H H' := fun _ _ h => Evl.ex_t e h
/-- a list of H is changed -/
theorem Tups.lst {K : PySem.W.Frag} {H : Hp} {l : Addr} {xs : List V} {o : HO} (h : H l = some (.lst xs)) : Tups K H (upd H l o) := fun a ys q => by
  rcases q with (q | ⟨ob, q⟩) | q
  · exact .inl (.inl (by rw [upd_ne (ne_of q h (by intro z; cases z))]; exact q))
  · exact .inl (.inr ⟨ob, by rw [upd_ne (ne_of q h (by intro z; cases z))]; exact q⟩)
  · exact .inr q
theorem tups_dk {K : PySem.W.Frag} {H : Hp} {l : Addr} {kvs : List (Key × V)} {o : HO} (h : H l = some (.dK kvs)) : Tups K H (upd H l o) := fun a ys q => by
  rcases q with (q | ⟨ob, q⟩) | q
  · exact .inl (.inl (by rw [upd_ne (ne_of q h (by intro z; cases z))]; exact q))
  · exact .inl (.inr ⟨ob, by rw [upd_ne (ne_of q h (by intro z; cases z))]; exact q⟩)
  · exact .inr q
section
variable {K : PySem.W.Frag} {H H' : Hp}
mutual
theorem Rep.mono (e : Tups K H H') : ∀ {t : Tm} {v : V}, Rep K H t v → Rep K H' t v
  | .var k, v, h => by
    unfold Rep at h ⊢
    obtain ⟨a, e1, q⟩ := h
    exact ⟨a, e1, e _ _ q⟩
  | .int i, v, h => by unfold Rep at h ⊢; exact h
  | .atom s, v, h => by unfold Rep at h ⊢; exact h
  | .comp f as, v, h => by
    unfold Rep at h ⊢
    obtain ⟨a, vs, e1, q, r⟩ := h
    exact ⟨a, vs, e1, e _ _ q, Reps.mono e r⟩
theorem Reps.mono (e : Tups K H H') : ∀ {ts : List Tm} {vs : List V}, Reps K H ts vs → Reps K H' ts vs
  | [], vs, h => by unfold Reps at h ⊢; exact h
  | t :: ts, vs, h => by
    unfold Reps at h ⊢
    obtain ⟨v, ws, e1, q, r⟩ := h
    exact ⟨v, ws, e1, Rep.mono e q, Reps.mono e r⟩
end
theorem Reps.nil : Reps K H [] [] := by unfold Reps; rfl
theorem Reps.cons {t : Tm} {ts : List Tm} {v : V} {vs : List V} (h : Rep K H t v) (r : Reps K H ts vs) : Reps K H (t :: ts) (v :: vs) := by
  unfold Reps
  exact ⟨v, vs, rfl, h, r⟩
theorem Reps.one {t : Tm} {v : V} (h : Rep K H t v) : Reps K H [t] [v] := Reps.cons h Reps.nil
theorem Reps.cons_inv {t : Tm} {ts : List Tm} {vs : List V} (h : Reps K H (t :: ts) vs) : ∃ v ws, vs = v :: ws ∧ Rep K H t v ∧ Reps K H ts ws := by
  unfold Reps at h
  exact h
theorem Reps.nil_inv {vs : List V} (h : Reps K H [] vs) : vs = [] := by
  unfold Reps at h
  exact h
theorem Reps.len : ∀ {ts : List Tm} {vs : List V}, Reps K H ts vs → ts.length = vs.length
  | [], vs, h => by rw [h.nil_inv] <;> rfl
  | t :: ts, vs, h => by
    obtain ⟨v, ws, e, _, r⟩ := h.cons_inv
    rw [e, List.length_cons, List.length_cons, Reps.len r]
theorem Reps.app : ∀ {ts us : List Tm} {vs ws : List V}, Reps K H ts vs → Reps K H us ws → Reps K H (ts ++ us) (vs ++ ws)
  | [], us, vs, ws, h, r => by rw [h.nil_inv]; exact r
  | t :: ts, us, vs, ws, h, r => by
    obtain ⟨v, xs, e, q, s⟩ := h.cons_inv
    rw [e]
    exact Reps.cons q (Reps.app s r)
theorem Reps.app_inv : ∀ {ts us : List Tm} {vs : List V}, Reps K H (ts ++ us) vs → ∃ v1 v2, vs = v1 ++ v2 ∧ Reps K H ts v1 ∧ Reps K H us v2
  | [], us, vs, h => ⟨[], vs, rfl, Reps.nil, h⟩
  | t :: ts, us, vs, h => by
    obtain ⟨v, ws, e, q, r⟩ := Reps.cons_inv (ts := ts ++ us) h
    obtain ⟨v1, v2, e2, r1, r2⟩ := Reps.app_inv r
    exact ⟨v :: v1, v2, by rw [e, e2]; rfl, Reps.cons q r1, r2⟩
theorem Reps.rev : ∀ {ts : List Tm} {vs : List V}, Reps K H ts vs → Reps K H ts.reverse vs.reverse
  | [], vs, h => by rw [h.nil_inv]; exact Reps.nil
  | t :: ts, vs, h => by
    obtain ⟨v, ws, e, q, r⟩ := h.cons_inv
    rw [e, List.reverse_cons, List.reverse_cons]
    exact Reps.app (Reps.rev r) (Reps.one q)
theorem Reps.get : ∀ {ts : List Tm} {vs : List V} {i : Nat} {v : V}, Reps K H ts vs → vs[i]? = some v → ∃ t, ts[i]? = some t ∧ Rep K H t v
  | [], vs, i, v, h, e => by rw [h.nil_inv] at e; simp at e
  | t :: ts, vs, i, v, h, e => by
    obtain ⟨w, ws, e1, q, r⟩ := h.cons_inv
    rw [e1] at e
    cases i with
    | zero =>
      have : w = v := by simpa using e
      subst this
      exact ⟨t, rfl, q⟩
    | succ i =>
      obtain ⟨u, h1, h2⟩ := Reps.get (i := i) r (by simpa using e)
      exact ⟨u, by simpa using h1, h2⟩
/-- the last one -/
theorem Reps.last {ts : List Tm} {t : Tm} {vs : List V} (h : Reps K H (ts ++ [t]) vs) : ∃ ws v, vs = ws ++ [v] ∧ Reps K H ts ws ∧ Rep K H t v := by
  obtain ⟨v1, v2, e, r1, r2⟩ := h.app_inv
  obtain ⟨v, ws, e2, q, r⟩ := r2.cons_inv
  rw [r.nil_inv] at e2
  exact ⟨v1, v, by rw [e, e2], r1, q⟩
theorem Reps.take {ts : List Tm} {vs : List V} (h : Reps K H ts vs) (n : Nat) : Reps K H (ts.take n) (vs.take n) := by
  induction n generalizing ts vs with
  | zero => exact Reps.nil
  | succ n ih =>
    cases ts with
    | nil => rw [h.nil_inv]; exact Reps.nil
    | cons t ts =>
      obtain ⟨v, ws, e, q, r⟩ := h.cons_inv
      rw [e, List.take_succ_cons, List.take_succ_cons]
      exact Reps.cons q (ih r)
theorem Reps.drop {ts : List Tm} {vs : List V} (h : Reps K H ts vs) (n : Nat) : Reps K H (ts.drop n) (vs.drop n) := by
  induction n generalizing ts vs with
  | zero => exact h
  | succ n ih =>
    cases ts with
    | nil => rw [h.nil_inv]; exact Reps.nil
    | cons t ts =>
      obtain ⟨v, ws, e, q, r⟩ := h.cons_inv
      rw [e, List.drop_succ_cons, List.drop_succ_cons]
      exact ih r
end
end Hm

set_option Elab.async false
set_option linter.all false
set_option maxRecDepth 100000
set_option maxHeartbeats 1000000
namespace Hm
open PySem PySem.Spec PyProof.Rows L2 HT
theorem oks_get : ∀ {ts : List Tm} {i : Nat} {t : Tm}, Oks ts → ts[i]? = some t → Ok t
  | [], i, _, _, e => by simp at e
  | u :: us, 0, t, h, e => by
    rw [oks_cons] at h
    have : u = t := by simpa using e
    exact this ▸ h.1
  | u :: us, i + 1, t, h, e => by
    rw [oks_cons] at h
    exact oks_get h.2 (by simpa using e)
mutual
theorem ok_pre : ∀ {t : Tm}, Ok t → Oks (pre t)
  | .var _, h => by unfold pre; rw [oks_cons]; exact ⟨h, trivial⟩
  | .int _, h => by unfold pre; rw [oks_cons]; exact ⟨h, trivial⟩
  | .atom _, h => by unfold pre; rw [oks_cons]; exact ⟨h, trivial⟩
  | .comp f as, h => by
    have h2 := h
    unfold Ok at h2
    unfold pre
    rw [oks_cons]
    exact ⟨h, ok_pres h2.2.2.2⟩
theorem ok_pres : ∀ {ts : List Tm}, Oks ts → Oks (pres ts)
  | [], _ => trivial
  | t :: ts, h => by
    rw [oks_cons] at h
    rw [pres_cons]
    exact oks_app.mpr ⟨ok_pre h.1, ok_pres h.2⟩
end
/-! ## comparing: -1, 0, 1 -/
structure Cmpr {α : Type} (c : α → α → Int) : Prop where
  refl : ∀ a, c a a = 0
  eq : ∀ a b, c a b = 0 → a = b
  anti : ∀ a b, c b a = - c a b
  tr : ∀ a b d, c a b ≤ 0 → c b d ≤ 0 → c a d ≤ 0
  ran : ∀ a b, c a b = -1 ∨ c a b = 0 ∨ c a b = 1
def intC (i j : Int) : Int := if i = j then 0 else if i < j then -1 else 1
theorem intC_ok : Cmpr intC := by
  refine ⟨fun a => if_pos rfl, fun a b h => ?_, fun a b => ?_, fun a b d h1 h2 => ?_, fun a b => ?_⟩
  · unfold intC at h
    split at h
    · assumption
    · split at h <;> omega
  · unfold intC
    split <;> split <;> (try split) <;> (try split) <;> omega
  · unfold intC at *
    split at h1 <;> split at h2 <;> (try split at h1) <;> (try split at h2) <;> split <;> (try split) <;> omega
  · unfold intC
    split
    · exact .inr (.inl rfl)
    · split
      · exact .inl rfl
      · exact .inr (.inr rfl)
def lexC {α : Type} (c : α → α → Int) : List α → List α → Int
  | [], [] => 0
  | [], _ :: _ => -1
  | _ :: _, [] => 1
  | x :: xs, y :: ys => if c x y = 0 then lexC c xs ys else c x y
section
variable {α : Type} {c : α → α → Int}
theorem lexC_cons (x y : α) (xs ys : List α) : lexC c (x :: xs) (y :: ys) = if c x y = 0 then lexC c xs ys else c x y := by rw [lexC]
theorem lexC_refl (C : Cmpr c) : ∀ xs : List α, lexC c xs xs = 0
  | [] => rfl
  | x :: xs => by
    rw [lexC_cons, if_pos (C.refl x), lexC_refl C xs]
theorem lexC_eq (C : Cmpr c) : ∀ xs ys : List α, lexC c xs ys = 0 → xs = ys
  | [], [], _ => rfl
  | [], _ :: _, h => by simp [lexC] at h
  | _ :: _, [], h => by simp [lexC] at h
  | x :: xs, y :: ys, h => by
    rw [lexC_cons] at h
    split at h
    · next e => rw [C.eq x y e, lexC_eq C xs ys h]
    · contradiction
theorem lexC_anti (C : Cmpr c) : ∀ xs ys : List α, lexC c ys xs = - lexC c xs ys
  | [], [] => rfl
  | [], _ :: _ => by simp [lexC]
  | _ :: _, [] => by simp [lexC]
  | x :: xs, y :: ys => by
    have a := C.anti x y
    rw [lexC_cons, lexC_cons, lexC_anti C xs ys]
    split <;> split <;> omega
theorem lexC_ran (C : Cmpr c) : ∀ xs ys : List α, lexC c xs ys = -1 ∨ lexC c xs ys = 0 ∨ lexC c xs ys = 1
  | [], [] => .inr (.inl rfl)
  | [], _ :: _ => .inl rfl
  | _ :: _, [] => .inr (.inr rfl)
  | x :: xs, y :: ys => by
    rw [lexC_cons]
    split
    · exact lexC_ran C xs ys
    · exact C.ran x y
theorem lexC_tr (C : Cmpr c) : ∀ xs ys zs : List α, lexC c xs ys ≤ 0 → lexC c ys zs ≤ 0 → lexC c xs zs ≤ 0
  | [], _, [], _, _ => by simp [lexC]
  | [], _, _ :: _, _, _ => by simp [lexC]
  | _ :: _, [], _, h, _ => by simp [lexC] at h
  | _ :: _, _ :: _, [], _, h => by simp [lexC] at h
  | x :: xs, y :: ys, z :: zs, h1, h2 => by
    rw [lexC_cons] at h1 h2 ⊢
    have ran := C.ran x y
    by_cases e1 : c x y = 0
    · rw [if_pos e1] at h1
      have := C.eq x y e1
      subst this
      by_cases e2 : c x z = 0
      · rw [if_pos e2] at h2 ⊢
        exact lexC_tr C xs ys zs h1 h2
      · rw [if_neg e2] at h2 ⊢
        exact h2
    · rw [if_neg e1] at h1
      by_cases e2 : c y z = 0
      · have := C.eq y z e2
        subst this
        rw [if_neg e1]
        exact h1
      · rw [if_neg e2] at h2
        have h3 := C.tr x y z h1 h2
        have h4 : c x z ≠ 0 := fun e => by
          have := C.eq x z e
          subst this
          have := C.anti x y
          omega
        rw [if_neg h4]
        exact h3
theorem lexC_ok (C : Cmpr c) : Cmpr (lexC c) := ⟨lexC_refl C, lexC_eq C, lexC_anti C, lexC_tr C, lexC_ran C⟩
end
/-! ## heads -/
def cpsI (s : Str) : List Int := s.cps.toList.map fun n : Nat => (n : Int)
def sC (a b : Str) : Int := lexC intC (cpsI a) (cpsI b)
theorem natlex : ∀ xs ys : List Nat, lexC intC (xs.map fun n : Nat => (n : Int)) (ys.map fun n : Nat => (n : Int)) = if xs = ys then 0 else if xs < ys then -1 else 1
  | [], [] => by simp [lexC]
  | [], y :: ys => by simp [lexC]
  | x :: xs, [] => by simp [lexC]
  | x :: xs, y :: ys => by
    rw [List.map_cons, List.map_cons, lexC_cons, natlex xs ys]
    unfold intC
    by_cases e : x = y
    · subst e
      rw [if_pos rfl, if_pos rfl]
      by_cases e2 : xs = ys
      · subst e2
        simp
      · have n2 : ¬ x :: xs = x :: ys := fun z => e2 (List.cons.inj z).2
        rw [if_neg e2, if_neg n2]
        by_cases l : xs < ys
        · rw [if_pos l, if_pos (List.cons_lt_cons_iff.mpr (.inr ⟨rfl, l⟩))]
        · rw [if_neg l, if_neg]
          intro z
          rcases List.cons_lt_cons_iff.mp z with z | z
          · omega
          · exact l z.2
    · have e1 : ¬ (x : Int) = (y : Int) := by omega
      have n2 : ¬ x :: xs = y :: ys := fun z => e (List.cons.inj z).1
      rw [if_neg e1, if_neg n2]
      by_cases l : (x : Int) < (y : Int)
      · rw [if_pos l, if_neg (by decide), if_pos (List.cons_lt_cons_iff.mpr (.inl (by omega)))]
      · rw [if_neg l, if_neg (by decide), if_neg]
        intro z
        rcases List.cons_lt_cons_iff.mp z with z | z
        · omega
        · exact e z.1
theorem sC_eq (a b : Str) : sC a b = if a = b then 0 else if a.cps.toList < b.cps.toList then -1 else 1 := by
  unfold sC cpsI
  rw [natlex]
  by_cases e : a = b
  · subst e
    rw [if_pos rfl, if_pos rfl]
  · rw [if_neg e, if_neg]
    intro z
    have := Array.toList_inj.mp z
    apply e
    cases a
    cases b
    simp only [Str.mk.injEq]
    exact this
def hcode : Tm → List Int
  | .var k => [0, k]
  | .int i => [1, i]
  | .atom s => 2 :: cpsI s
  | .comp f as => 3 :: (as.length : Int) :: cpsI f
abbrev hC : List Int → List Int → Int := lexC intC
theorem hC_ok : Cmpr hC := lexC_ok intC_ok
abbrev kC : List (List Int) → List (List Int) → Int := lexC hC
theorem kC_ok : Cmpr kC := lexC_ok hC_ok
def kcode (t : Tm) : List (List Int) := (pre t).map hcode
mutual
def tord : Tm → Tm → Int
  | .comp f as, .comp g bs => if intC as.length bs.length = 0 then (if sC f g = 0 then tords as bs else sC f g) else intC as.length bs.length
  | .var k, t => hC (hcode (.var k)) (hcode t)
  | .int k, t => hC (hcode (.int k)) (hcode t)
  | .atom k, t => hC (hcode (.atom k)) (hcode t)
  | .comp f as, t => hC (hcode (.comp f as)) (hcode t)
def tords : List Tm → List Tm → Int
  | a :: as, b :: bs => if tord a b = 0 then tords as bs else tord a b
  | _, _ => 0
end
theorem hC3 (n m : Int) (f g : Str) : hC (3 :: n :: cpsI f) (3 :: m :: cpsI g) = if intC n m = 0 then sC f g else intC n m := by
  show lexC intC _ _ = _
  rw [lexC_cons, if_pos (by decide), lexC_cons]
  rfl
theorem hC_tag {a b : Int} (h : a ≠ b) (xs ys : List Int) : hC (a :: xs) (b :: ys) ≠ 0 := by
  show lexC intC _ _ ≠ 0
  have : intC a b ≠ 0 := fun z => h (intC_ok.eq a b z)
  rw [lexC_cons, if_neg this]
  exact this
def rank : Tm → Int
  | .var _ => 0
  | .int _ => 1
  | .atom _ => 2
  | .comp _ _ => 3
theorem hC_rank {s t : Tm} (h : rank s ≠ rank t) : hC (hcode s) (hcode t) ≠ 0 := by
  cases s <;> cases t <;> first | exact absurd rfl h | exact hC_tag (by decide) _ _
mutual
theorem ord_pre : ∀ (s t : Tm) (xs ys : List (List Int)), kC ((pre s).map hcode ++ xs) ((pre t).map hcode ++ ys) = if tord s t = 0 then kC xs ys else tord s t
  | .var i, .var j, xs, ys => by
    show lexC hC (hcode (.var i) :: xs) (hcode (.var j) :: ys) = _
    rw [lexC_cons]
    rfl
  | .var i, .int j, xs, ys => by
    show lexC hC (hcode (.var i) :: xs) (hcode (.int j) :: ys) = _
    rw [lexC_cons]
    rfl
  | .var i, .atom j, xs, ys => by
    show lexC hC (hcode (.var i) :: xs) (hcode (.atom j) :: ys) = _
    rw [lexC_cons]
    rfl
  | .var i, .comp g bs, xs, ys => by
    rw [pre, pre]
    show lexC hC (hcode (.var i) :: xs) (hcode (.comp g bs) :: _) = _
    have h : hC (hcode (.var i)) (hcode (.comp g bs)) ≠ 0 := hC_rank (by simp [rank])
    rw [lexC_cons, if_neg h]
    show _ = if hC (hcode (.var i)) (hcode (.comp g bs)) = 0 then _ else _
    rw [if_neg h]
    rfl
  | .int i, .var j, xs, ys => by
    show lexC hC (hcode (.int i) :: xs) (hcode (.var j) :: ys) = _
    rw [lexC_cons]
    rfl
  | .int i, .int j, xs, ys => by
    show lexC hC (hcode (.int i) :: xs) (hcode (.int j) :: ys) = _
    rw [lexC_cons]
    rfl
  | .int i, .atom j, xs, ys => by
    show lexC hC (hcode (.int i) :: xs) (hcode (.atom j) :: ys) = _
    rw [lexC_cons]
    rfl
  | .int i, .comp g bs, xs, ys => by
    rw [pre, pre]
    show lexC hC (hcode (.int i) :: xs) (hcode (.comp g bs) :: _) = _
    have h : hC (hcode (.int i)) (hcode (.comp g bs)) ≠ 0 := hC_rank (by simp [rank])
    rw [lexC_cons, if_neg h]
    show _ = if hC (hcode (.int i)) (hcode (.comp g bs)) = 0 then _ else _
    rw [if_neg h]
    rfl
  | .atom i, .var j, xs, ys => by
    show lexC hC (hcode (.atom i) :: xs) (hcode (.var j) :: ys) = _
    rw [lexC_cons]
    rfl
  | .atom i, .int j, xs, ys => by
    show lexC hC (hcode (.atom i) :: xs) (hcode (.int j) :: ys) = _
    rw [lexC_cons]
    rfl
  | .atom i, .atom j, xs, ys => by
    show lexC hC (hcode (.atom i) :: xs) (hcode (.atom j) :: ys) = _
    rw [lexC_cons]
    rfl
  | .atom i, .comp g bs, xs, ys => by
    rw [pre, pre]
    show lexC hC (hcode (.atom i) :: xs) (hcode (.comp g bs) :: _) = _
    have h : hC (hcode (.atom i)) (hcode (.comp g bs)) ≠ 0 := hC_rank (by simp [rank])
    rw [lexC_cons, if_neg h]
    show _ = if hC (hcode (.atom i)) (hcode (.comp g bs)) = 0 then _ else _
    rw [if_neg h]
    rfl
  | .comp f as, .var j, xs, ys => by
    rw [pre, pre]
    show lexC hC (hcode (.comp f as) :: _) (hcode (.var j) :: _) = _
    have h : hC (hcode (.comp f as)) (hcode (.var j)) ≠ 0 := hC_rank (by simp [rank])
    rw [lexC_cons, if_neg h]
    show _ = if hC (hcode (.comp f as)) (hcode (.var j)) = 0 then _ else _
    rw [if_neg h]
    rfl
  | .comp f as, .int j, xs, ys => by
    rw [pre, pre]
    show lexC hC (hcode (.comp f as) :: _) (hcode (.int j) :: _) = _
    have h : hC (hcode (.comp f as)) (hcode (.int j)) ≠ 0 := hC_rank (by simp [rank])
    rw [lexC_cons, if_neg h]
    show _ = if hC (hcode (.comp f as)) (hcode (.int j)) = 0 then _ else _
    rw [if_neg h]
    rfl
  | .comp f as, .atom j, xs, ys => by
    rw [pre, pre]
    show lexC hC (hcode (.comp f as) :: _) (hcode (.atom j) :: _) = _
    have h : hC (hcode (.comp f as)) (hcode (.atom j)) ≠ 0 := hC_rank (by simp [rank])
    rw [lexC_cons, if_neg h]
    show _ = if hC (hcode (.comp f as)) (hcode (.atom j)) = 0 then _ else _
    rw [if_neg h]
    rfl
  | .comp f as, .comp g bs, xs, ys => by
    rw [pre, pre, tord]
    show lexC hC (hcode (.comp f as) :: ((pres as).map hcode ++ xs)) (hcode (.comp g bs) :: ((pres bs).map hcode ++ ys)) = _
    have h : hC (hcode (.comp f as)) (hcode (.comp g bs)) = _ := hC3 _ _ f g
    rw [lexC_cons, h]
    by_cases e1 : intC (as.length : Int) (bs.length : Int) = 0
    · rw [if_pos e1, if_pos e1]
      by_cases e2 : sC f g = 0
      · rw [if_pos e2, if_pos e2]
        have := intC_ok.eq _ _ e1
        exact ord_pres as bs xs ys (by omega)
      · rw [if_neg e2, if_neg e2, if_neg e2]
    · rw [if_neg e1, if_neg e1, if_neg e1, if_neg e1]
theorem ord_pres : ∀ (as bs : List Tm) (xs ys : List (List Int)), as.length = bs.length → kC ((pres as).map hcode ++ xs) ((pres bs).map hcode ++ ys) = if tords as bs = 0 then kC xs ys else tords as bs
  | [], [], xs, ys, _ => by
    show kC xs ys = if tords [] [] = 0 then _ else _
    rw [tords, if_pos rfl]
    intro a as b bs h
    cases h
  | [], _ :: _, _, _, h => by simp at h
  | _ :: _, [], _, _, h => by simp at h
  | a :: as, b :: bs, xs, ys, h => by
    rw [pres, pres, List.map_append, List.map_append, List.append_assoc, List.append_assoc, ord_pre a b, tords]
    by_cases e : tord a b = 0
    · rw [if_pos e, if_pos e]
      exact ord_pres as bs xs ys (by simpa using h)
    · rw [if_neg e, if_neg e, if_neg e]
end
theorem ord_key (s t : Tm) : kC (kcode s) (kcode t) = tord s t := by
  have h := ord_pre s t [] []
  rw [List.append_nil, List.append_nil] at h
  unfold kcode
  rw [h]
  split
  · next e => rw [e]; rfl
  · rfl
mutual
theorem hcode_eq : ∀ (s t : Tm), tord s t = 0 → s = t
  | .comp f as, .comp g bs, h => by
    rw [tord] at h
    by_cases e1 : intC (as.length : Int) (bs.length : Int) = 0
    · rw [if_pos e1] at h
      by_cases e2 : sC f g = 0
      · rw [if_pos e2] at h
        have hl := intC_ok.eq _ _ e1
        have hf : f = g := by
          rw [sC_eq] at e2
          split at e2
          · assumption
          · split at e2 <;> omega
        rw [hf, hcodes_eq as bs (by omega) h]
      · rw [if_neg e2] at h
        exact absurd h e2
    · rw [if_neg e1] at h
      exact absurd h e1
  | .var i, .var j, h => by
    have := hC_ok.eq _ _ (show hC [0, i] [0, j] = 0 from h)
    simp at this
    rw [this]
  | .int i, .int j, h => by
    have := hC_ok.eq _ _ (show hC [1, i] [1, j] = 0 from h)
    simp at this
    rw [this]
  | .atom i, .atom j, h => by
    have h2 : sC i j = 0 := by
      have h3 : lexC intC (2 :: cpsI i) (2 :: cpsI j) = 0 := h
      rw [lexC_cons, if_pos (by decide)] at h3
      exact h3
    rw [sC_eq] at h2
    split at h2
    · next e => rw [e]
    · split at h2 <;> omega
  | .var _, .int _, h => absurd h (hC_rank (by simp [rank]))
  | .var _, .atom _, h => absurd h (hC_rank (by simp [rank]))
  | .var _, .comp _ _, h => absurd h (hC_rank (by simp [rank]))
  | .int _, .var _, h => absurd h (hC_rank (by simp [rank]))
  | .int _, .atom _, h => absurd h (hC_rank (by simp [rank]))
  | .int _, .comp _ _, h => absurd h (hC_rank (by simp [rank]))
  | .atom _, .var _, h => absurd h (hC_rank (by simp [rank]))
  | .atom _, .int _, h => absurd h (hC_rank (by simp [rank]))
  | .atom _, .comp _ _, h => absurd h (hC_rank (by simp [rank]))
  | .comp _ _, .var _, h => absurd h (hC_rank (by simp [rank]))
  | .comp _ _, .int _, h => absurd h (hC_rank (by simp [rank]))
  | .comp _ _, .atom _, h => absurd h (hC_rank (by simp [rank]))
theorem hcodes_eq : ∀ (as bs : List Tm), as.length = bs.length → tords as bs = 0 → as = bs
  | [], [], _, _ => rfl
  | [], _ :: _, h, _ => by simp at h
  | _ :: _, [], h, _ => by simp at h
  | a :: as, b :: bs, h, h2 => by
    rw [tords] at h2
    by_cases e : tord a b = 0
    · rw [if_pos e] at h2
      rw [hcode_eq a b e, hcodes_eq as bs (by simpa using h) h2]
    · rw [if_neg e] at h2
      exact absurd h2 e
end
theorem tord_ok : Cmpr tord := by
  refine ⟨fun a => ?_, hcode_eq, fun a b => ?_, fun a b d h1 h2 => ?_, fun a b => ?_⟩
  · rw [← ord_key]
    exact kC_ok.refl _
  · rw [← ord_key, ← ord_key]
    exact kC_ok.anti _ _
  · rw [← ord_key] at *
    exact kC_ok.tr _ _ _ h1 h2
  · rw [← ord_key]
    exact kC_ok.ran _ _
/-- in order -/
def Rising (ts : List Tm) : Prop := ts.Pairwise fun a b => tord a b ≤ 0
theorem rising_uniq : ∀ {ts us : List Tm}, Rising ts → Rising us → ts.Perm us → ts = us
  | [], us, _, _, p => (List.Perm.nil_eq p)
  | t :: ts, [], _, _, p => absurd p.length_eq (by simp)
  | t :: ts, u :: us, h1, h2, p => by
    have a1 := List.pairwise_cons.mp h1
    have a2 := List.pairwise_cons.mp h2
    have e1 : tord t u ≤ 0 := by
      rcases List.mem_cons.mp (p.mem_iff.mpr (List.mem_cons_self (a := u) (l := us))) with e | e
      · rw [e, tord_ok.refl]
        exact Int.le_refl _
      · exact a1.1 u e
    have e2 : tord u t ≤ 0 := by
      rcases List.mem_cons.mp (p.mem_iff.mp (List.mem_cons_self (a := t) (l := ts))) with e | e
      · rw [e, tord_ok.refl]
        exact Int.le_refl _
      · exact a2.1 t e
    have e3 := tord_ok.anti t u
    have e : t = u := tord_ok.eq t u (by omega)
    subst e
    rw [rising_uniq a1.2 a2.2 p.cons_inv]
end Hm

set_option Elab.async false
set_option linter.all false
set_option maxRecDepth 100000
set_option maxHeartbeats 4000000
namespace Hm
open PySem PySem.SeqAt
open AutoSeq1 (wpAny_loadPart')
open MeetsSeq MeetsSeq2 MeetsSeq3 SeqRoads2
/-! ## x < y of two rows of values: what decides is the first place that differs; what stands behind it may be anything -/
inductive Dec (A : Around) (s : Shared) : List Value → List Value → Bool → Prop
  | both : Dec A s [] [] false
  | short (y : Value) (ys : List Value) : Dec A s [] (y :: ys) true
  | long (x : Value) (xs : List Value) : Dec A s (x :: xs) [] false
  | same {x y : Value} {xs ys : List Value} {b : Bool} : EqAt A s x y true → Dec A s xs ys b → Dec A s (x :: xs) (y :: ys) b
  | here {x y : Value} {xs ys : List Value} {b : Bool} : EqAt A s x y false → RcLt A s x y b → Dec A s (x :: xs) (y :: ys) b
def tupObj (its : Array Value) (n : Nat) (dd : Option Addr) (sl : Array (Option Value)) : Obj := { cls := .type "tuple", dict := dd, data := .seq its n, slots := sl }
theorem dec_tup (p q : Addr) (is js : Array Value) (n m : Nat) (d1 d2 : Option Addr) (s1 s2 : Array (Option Value)) (b : Bool) :
    Meets (Builtin.«tuple.__lt__» ⟨[.ref p, .ref q], []⟩) (fun A R s => s.heap.get? p = some (tupObj is n d1 s1) ∧ s.heap.get? q = some (tupObj js m d2 s2) ∧ Dec A.in1 s is.toList js.toList b ∧ R (.ok (.ret (.bool b))) s) :=
  .of_wp fun prog w A R s z => by
    have st := AutoSeq1.sub_tuple_tuple
    obtain ⟨heap, gens, drawn, toks, os⟩ := s
    obtain ⟨gp, gq, dc, fin⟩ := z
    unfold tupObj at gp gq
    wp_walk using wpAny_loadPart' gp, wpAny_loadPart' gq, wpAny_forIn_list _ (fun left bb s' => bb.1 = none ∧ s' = ⟨heap, gens, drawn, toks, os⟩ ∧ ∃ xs ys, left = xs.zip ys ∧ Dec A.in1 ⟨heap, gens, drawn, toks, os⟩ xs ys b ∧ xs.length + js.size = ys.length + is.size) _
    case turn =>
      rintro ⟨x, y⟩ left bb s' ⟨h0, rfl, xs, ys, hz, hd, hl⟩
      cases hd with
      | both => cases hz
      | short => cases hz
      | long => cases hz
      | @same x' y' xs ys _ he hr =>
        rw [List.zip_cons_cons] at hz
        injection hz with h1 h2
        injection h1 with h3 h4
        subst h3 h4 h2
        refine wpAny_bind (he prog w _ _ ?_)
        wp_walk
        exact ⟨rfl, rfl, xs, ys, rfl, hr, by simp only [List.length_cons] at hl; omega⟩
      | @here x' y' xs ys _ he hr =>
        rw [List.zip_cons_cons] at hz
        injection hz with h1 h2
        injection h1 with h3 h4
        subst h3 h4 h2
        have rc : ∀ {Q : Value → Shared → Prop} {E : Value → Shared → Prop}, Q (.bool b) ⟨heap, gens, drawn, toks, os⟩ → wpAny (model prog w) A.in1 (richCompare .Lt x y) Q E ⟨heap, gens, drawn, toks, os⟩ := fun z => hr prog w _ _ z
        refine wpAny_bind (he prog w _ _ ?_)
        wp_walk using rc
        exact ⟨_, rfl, fin⟩
    case fin =>
      rintro ⟨b1, b2⟩ s' ⟨h0, rfl, xs, ys, hz, hd, hl⟩
      simp only at h0
      subst h0
      wp_walk
      refine ⟨_, rfl, ?_⟩
      have e : decide (is.size < js.size) = b := by
        cases hd with
        | both => exact decide_eq_false (by simp only [List.length_nil] at hl; omega)
        | short => exact decide_eq_true (by simp only [List.length_nil, List.length_cons] at hl; omega)
        | long => exact decide_eq_false (by simp only [List.length_nil, List.length_cons] at hl; omega)
        | same => simp at hz
        | here => simp at hz
      simpa [Builtin.Tuple.tupleCompareSizes, e] using fin
    case h => exact ⟨rfl, rfl, is.toList, js.toList, rfl, dc, by simp; omega⟩
def lstObj (its : Array Value) (n : Nat) (dd : Option Addr) (sl : Array (Option Value)) : Obj := { cls := .type "list", dict := dd, data := .seq its n, slots := sl }
theorem dec_nil {A : Around} {s : Shared} {xs ys : List Value} {b : Bool} (h : Dec A s xs ys b) (e : xs = [] ∨ ys = []) : b = decide (xs.length < ys.length) := by
  cases h with
  | both => rfl
  | short => rfl
  | long => rfl
  | same => simp at e
  | here => simp at e
theorem dec_loop (p q : Addr) (is js : Array Value) (n m : Nat) (d1 d2 : Option Addr) (s1 s2 : Array (Option Value)) (b : Bool) (k : Nat) :
    ∀ i : Nat, is.size + js.size = k + 2 * i ∨ is.size + js.size = k + 2 * i + 1 → i ≤ is.size → i ≤ js.size → Meets (Builtin.«list.__eq__.loop» ⟨[.ref p, .ref q, rawInt i, rawInt 0], []⟩)
      (fun A R s => s.heap.get? p = some (lstObj is n d1 s1) ∧ s.heap.get? q = some (lstObj js m d2 s2) ∧ Dec A.in1 s (is.toList.drop i) (js.toList.drop i) b ∧ R (.ok (.ret (.bool b))) s) := by
  induction k using Nat.strongRecOn with
  | ind k ih =>
    intro i hk li lj prog w A R s z
    obtain ⟨heap, gens, drawn, toks, os⟩ := s
    obtain ⟨gp, gq, dc, fin⟩ := z
    unfold lstObj at gp gq
    by_cases ei : i < is.size
    · by_cases ej : i < js.size
      · have gi : is[((i : Nat) : Int).toNat]? = some is[i] := by simp [ei]
        have gj : js[((i : Nat) : Int).toNat]? = some js[i] := by simp [ej]
        have di : is.toList.drop i = is[i] :: is.toList.drop (i + 1) := by simp [List.drop_eq_getElem_cons, ei]
        have dj : js.toList.drop i = js[i] :: js.toList.drop (i + 1) := by simp [List.drop_eq_getElem_cons, ej]
        have nx : ((i : Int) + 1) = ((i + 1 : Nat) : Int) := by push_cast; rfl
        rw [di, dj] at dc
        wp_walk using wpAny_loadPart' gp, wpAny_loadPart' gq
        rw [gi, gj]
        cases dc with
        | same he hr =>
          refine wpAny_bind (he prog w _ _ ?_)
          wp_walk
          rw [nx]
          refine ⟨plainId_quiet plain_eq_loop _, codeAny_builtin entry_eq_loop ?_⟩
          rw [Around.under_plainId plain_eq_loop _]
          exact ih (k - 2) (by omega) (i + 1) (by omega) (by omega) (by omega) prog w A R _ ⟨gp, gq, hr, fin⟩
        | here he hr =>
          refine wpAny_bind (he prog w _ _ ?_)
          wp_walk using wpAny_loadPart' gp, wpAny_loadPart' gq
          rw [gi, gj]
          have rc : ∀ {Q : Value → Shared → Prop} {E : Value → Shared → Prop}, Q (.bool b) ⟨heap, gens, drawn, toks, os⟩ → wpAny (model prog w) A.in1 (richCompare .Lt is[i] js[i]) Q E ⟨heap, gens, drawn, toks, os⟩ := fun z => hr prog w _ _ z
          wp_walk using rc
          exact fin
      · have gi : is[((i : Nat) : Int).toNat]? = some is[i] := by simp [ei]
        have gj : js[((i : Nat) : Int).toNat]? = none := by simp; omega
        have e := dec_nil dc (.inr (by simp; omega))
        have e2 : decide (is.size < js.size) = b := by
          rw [e]
          simp
          omega
        wp_walk using wpAny_loadPart' gp, wpAny_loadPart' gq
        rw [gi, gj]
        wp_walk using wpAny_loadPart' gp, wpAny_loadPart' gq
        rw [← e2] at fin
        exact fin
    · have gi : is[((i : Nat) : Int).toNat]? = none := by simp; omega
      have e := dec_nil dc (.inl (by simp; omega))
      have e2 : decide (is.size < js.size) = b := by
        rw [e]
        simp
        omega
      wp_walk using wpAny_loadPart' gp, wpAny_loadPart' gq
      rw [gi]
      wp_walk using wpAny_loadPart' gp, wpAny_loadPart' gq
      rw [← e2] at fin
      exact fin
theorem dec_lst (p q : Addr) (is js : Array Value) (n m : Nat) (d1 d2 : Option Addr) (s1 s2 : Array (Option Value)) (b : Bool) :
    Meets (Builtin.«list.__lt__» ⟨[.ref p, .ref q], []⟩) (fun A R s => s.heap.get? p = some (lstObj is n d1 s1) ∧ s.heap.get? q = some (lstObj js m d2 s2) ∧ Dec A.in1 s is.toList js.toList b ∧ R (.ok (.ret (.bool b))) s) := by
  intro prog w A R s z
  have st := AutoSeq1.sub_list_list
  obtain ⟨heap, gens, drawn, toks, os⟩ := s
  obtain ⟨gp, gq, dc, fin⟩ := z
  unfold lstObj at gp gq
  wp_walk using wpAny_loadPart' gp, wpAny_loadPart' gq
  refine ⟨plainId_quiet plain_eq_loop _, codeAny_builtin entry_eq_loop ?_⟩
  rw [Around.under_plainId plain_eq_loop _]
  exact dec_loop p q is js n m d1 d2 s1 s2 b (is.size + js.size) 0 (.inl (by omega)) (Nat.zero_le _) (Nat.zero_le _) prog w A R _ ⟨gp, gq, dc, fin⟩
theorem obj_tup {h : Heap} {p : Addr} {is : Array Value} (hp : h.IsTuple p is) : ∃ n d sl, h.get? p = some (tupObj is n d sl) := by
  obtain ⟨⟨cls, dd, data, sl⟩, ho, hc, n, hd⟩ := hp
  simp only at hc hd
  subst hc hd
  exact ⟨n, dd, sl, ho⟩
theorem obj_lst {h : Heap} {p : Addr} {is : Array Value} (hp : h.IsList p is) : ∃ n d sl, h.get? p = some (lstObj is n d sl) := by
  obtain ⟨⟨cls, dd, data, sl⟩, ho, hc, n, hd⟩ := hp
  simp only at hc hd
  subst hc hd
  exact ⟨n, dd, sl, ho⟩
section
variable {A : Around} {s : Shared} {p q : Addr} {is js : Array Value} {b : Bool}
theorem rc_tup (hp : s.heap.IsTuple p is) (hq : s.heap.IsTuple q js) (hu : A.units < cLine) (h : Dec A.in1 s is.toList js.toList b) : RcLt A s (.ref p) (.ref q) b := fun prog w E Q z => by
  obtain ⟨n, d, sl, e⟩ := obj_tup hp
  obtain ⟨m, d', sl', e'⟩ := obj_tup hq
  exact richCompare_meets_room (op := .Lt) ⟨_, e, rfl⟩ ⟨_, e', rfl⟩ F.slot_tuple_lt F.entry_tuple_lt (F.args_tuple_lt_2 _ _) (dec_tup p q is js n m d d' sl sl' b) ⟨e, e', h, show Value.bool b ≠ Value.notImplemented ∧ Q (.bool b) s from ⟨(fun x => nomatch x), z⟩⟩ hu
theorem rc_lst (hp : s.heap.IsList p is) (hq : s.heap.IsList q js) (hu : A.units < cLine) (h : Dec A.in1 s is.toList js.toList b) : RcLt A s (.ref p) (.ref q) b := fun prog w E Q z => by
  obtain ⟨n, d, sl, e⟩ := obj_lst hp
  obtain ⟨m, d', sl', e'⟩ := obj_lst hq
  exact richCompare_meets_room (op := .Lt) ⟨_, e, rfl⟩ ⟨_, e', rfl⟩ F.slot_list_lt F.entry_list_lt (F.args_list_lt_2 _ _) (dec_lst p q is js n m d d' sl sl' b) ⟨e, e', h, show Value.bool b ≠ Value.notImplemented ∧ Q (.bool b) s from ⟨(fun x => nomatch x), z⟩⟩ hu
/-- the same, as sorting asks -/
theorem call_lst {prog : Program} {w : World} {E Q : Value → Shared → Prop} (hp : s.heap.IsList p is) (hq : s.heap.IsList q js) (h : Dec A.in1 s is.toList js.toList b) (z : Q (.bool b) s) : wpAny (model prog w) A (call (.builtin "list.__lt__") [.ref p, .ref q]) Q E s := by
  obtain ⟨n, d, sl, e⟩ := obj_lst hp
  obtain ⟨m, d', sl', e'⟩ := obj_lst hq
  exact call_meets F.slot_list_lt ⟨_, e, rfl⟩ F.entry_list_lt (F.args_list_lt_2 _ _) (dec_lst p q is js n m d d' sl sl' b) ⟨e, e', h, z⟩
end
end Hm

set_option Elab.async false
set_option linter.all false
set_option maxRecDepth 100000
set_option maxHeartbeats 4000000
namespace Hm
open PySem PySem.Spec PySem.SeqAt PySem.W
/-! ## keys: rows of heads, as data -/
def hdD : Tm → PyData
  | .var k => .tuple [.int 0, .int k]
  | .int i => .tuple [.int 1, .int i]
  | .atom s => .tuple [.int 2, .str s]
  | .comp f as => .tuple [.int 3, .int (as.length : Int), .str f]
theorem hd_depth (t : Tm) : (hdD t).depth = 1 := by cases t <;> rfl
theorem intC_beq (i j : Int) : (i == j) = decide (intC i j = 0) := by
  by_cases e : i = j
  · subst e
    rw [beq_self_eq_true, decide_eq_true (intC_ok.refl i)]
  · rw [decide_eq_false (fun z => e (intC_ok.eq i j z))]
    exact beq_false_of_ne e
theorem intC_lt (i j : Int) (h : intC i j ≠ 0) : decide (i < j) = decide (intC i j < 0) := by
  have e : i ≠ j := fun z => h (z ▸ intC_ok.refl i)
  unfold intC
  rw [if_neg e]
  by_cases l : i < j
  · rw [if_pos l, decide_eq_true l]
    rfl
  · rw [if_neg l, decide_eq_false l]
    rfl
theorem sC_beq (a b : Str) : (a == b) = decide (sC a b = 0) := by
  rw [sC_eq]
  by_cases e : a = b
  · subst e
    rw [if_pos rfl, beq_self_eq_true]
    rfl
  · rw [if_neg e, beq_false_of_ne e]
    split <;> rfl
theorem sC_lt (a b : Str) (h : sC a b ≠ 0) : decide (a.cps.toList < b.cps.toList) = decide (sC a b < 0) := by
  rw [sC_eq] at *
  by_cases e : a = b
  · rw [if_pos e] at h
    exact absurd rfl h
  · rw [if_neg e]
    by_cases l : a.cps.toList < b.cps.toList
    · rw [if_pos l, decide_eq_true l]
      rfl
    · rw [if_neg l, decide_eq_false l]
      rfl
theorem hC_tag' {a b : Int} (h : a ≠ b) (xs ys : List Int) : hC (a :: xs) (b :: ys) = intC a b := by
  show lexC intC _ _ = _
  have : intC a b ≠ 0 := fun z => h (intC_ok.eq a b z)
  rw [lexC_cons, if_neg this]
theorem hC_two (a i j : Int) : hC [a, i] [a, j] = intC i j := by
  show lexC intC _ _ = _
  rw [lexC_cons, if_pos (intC_ok.refl a), lexC_cons]
  split
  · next e => rw [e]; rfl
  · rfl
theorem hC_str (f g : Str) : hC (2 :: cpsI f) (2 :: cpsI g) = sC f g := by
  show lexC intC _ _ = _
  rw [lexC_cons, if_pos (intC_ok.refl 2)]
  rfl
section
variable {A : Around} {s : Shared}
theorem eq_int (i j : Int) (t u : Tok) : EqAt A s (.int i t) (.int j u) (decide (intC i j = 0)) := by
  rw [← intC_beq]
  exact EqAt.int_int i t j u
theorem lt_int (i j : Int) (t u : Tok) (h : intC i j ≠ 0) : RcLt A s (.int i t) (.int j u) (decide (intC i j < 0)) := by
  rw [← intC_lt i j h, ← dataLt_int]
  by_cases z : A.units < cLine
  · exact rcLt_alike (.int i) (.int j) A s _ _ _ _ (.int i t) (.int j u) rfl (by simp) (by show A.units + 0 < _; omega)
  · intro prog w E Q q
    rw [dataLt_int] at q
    exact PyProof.Rows.lt_int q
theorem eq_str (i j : Str) (t u : Tok) : EqAt A s (.str i t) (.str j u) (decide (sC i j = 0)) := by
  rw [← sC_beq]
  exact EqAt.str_str i t j u
theorem lt_str (i j : Str) (t u : Tok) (hu : A.units < cLine) (h : sC i j ≠ 0) : RcLt A s (.str i t) (.str j u) (decide (sC i j < 0)) := by
  rw [← sC_lt i j h, ← dataLt_str]
  exact rcLt_alike (.str i) (.str j) A s _ _ _ _ (.str i t) (.str j u) rfl (by simp) (by show A.units + 0 < _; omega)
theorem dec_int1 (i j : Int) (t u : Tok) {xs ys : List Value} {b : Bool} (hs : intC i j = 0 → Dec A s xs ys b) (hn : intC i j ≠ 0 → b = decide (intC i j < 0)) : Dec A s (.int i t :: xs) (.int j u :: ys) b := by
  have e := eq_int (A := A) (s := s) i j t u
  by_cases z : intC i j = 0
  · rw [decide_eq_true z] at e
    exact .same e (hs z)
  · rw [decide_eq_false z] at e
    rw [hn z]
    exact .here e (lt_int i j t u z)
theorem dec_str1 (i j : Str) (t u : Tok) {xs ys : List Value} {b : Bool} (hu : A.units < cLine) (hs : sC i j = 0 → Dec A s xs ys b) (hn : sC i j ≠ 0 → b = decide (sC i j < 0)) : Dec A s (.str i t :: xs) (.str j u :: ys) b := by
  have e := eq_str (A := A) (s := s) i j t u
  by_cases z : sC i j = 0
  · rw [decide_eq_true z] at e
    exact .same e (hs z)
  · rw [decide_eq_false z] at e
    rw [hn z]
    exact .here e (lt_str i j t u hu z)
/-- the first sign of a head and what stands behind it -/
def hdR : Tm → List PyData
  | .var k => [.int k]
  | .int i => [.int i]
  | .atom s => [.str s]
  | .comp f as => [.int (as.length : Int), .str f]
theorem hd_row (t : Tm) : hdD t = .tuple (.int (rank t) :: hdR t) := by cases t <;> rfl
theorem hcode_row (t : Tm) : ∃ r, hcode t = rank t :: r := by cases t <;> exact ⟨_, rfl⟩
theorem head_dec {t t' : Tm} {vs us : List Value} {as bs : List Addr} (hu : A.units < cLine) (r1 : ReadsAll s.heap vs (.int (rank t) :: hdR t) as) (r2 : ReadsAll s.heap us (.int (rank t') :: hdR t') bs) : Dec A s vs us (decide (hC (hcode t) (hcode t') < 0)) := by
  cases r1 with
  | cons q1 r1 =>
    cases r2 with
    | cons q2 r2 =>
      cases q1
      cases q2
      by_cases e : rank t = rank t'
      · cases t <;> cases t' <;> first | (simp [rank] at e; done) | skip
        · cases r1 with
          | cons a1 b1 =>
            cases r2 with
            | cons a2 b2 =>
              cases a1; cases a2; cases b1; cases b2
              show Dec A s _ _ (decide (hC [0, _] [0, _] < 0))
              rw [hC_two]
              exact dec_int1 _ _ _ _ (fun _ => dec_int1 _ _ _ _ (fun z => by rw [z]; exact .both) fun _ => rfl) fun z => absurd (intC_ok.refl 0) z
        · cases r1 with
          | cons a1 b1 =>
            cases r2 with
            | cons a2 b2 =>
              cases a1; cases a2; cases b1; cases b2
              show Dec A s _ _ (decide (hC [1, _] [1, _] < 0))
              rw [hC_two]
              exact dec_int1 _ _ _ _ (fun _ => dec_int1 _ _ _ _ (fun z => by rw [z]; exact .both) fun _ => rfl) fun z => absurd (intC_ok.refl 1) z
        · cases r1 with
          | cons a1 b1 =>
            cases r2 with
            | cons a2 b2 =>
              cases a1; cases a2; cases b1; cases b2
              show Dec A s _ _ (decide (hC (2 :: cpsI _) (2 :: cpsI _) < 0))
              rw [hC_str]
              exact dec_int1 _ _ _ _ (fun _ => dec_str1 _ _ _ _ hu (fun z => by rw [z]; exact .both) fun _ => rfl) fun z => absurd (intC_ok.refl 2) z
        · cases r1 with
          | cons a1 b1 =>
            cases r2 with
            | cons a2 b2 =>
              cases b1 with
              | cons c1 d1 =>
                cases b2 with
                | cons c2 d2 =>
                  cases a1; cases a2; cases c1; cases c2; cases d1; cases d2
                  show Dec A s _ _ (decide (hC (3 :: _ :: cpsI _) (3 :: _ :: cpsI _) < 0))
                  rw [hC3]
                  refine dec_int1 _ _ _ _ (fun _ => dec_int1 _ _ _ _ (fun z => ?_) fun z => by rw [if_neg z]) fun z => absurd (intC_ok.refl 3) z
                  rw [if_pos z]
                  exact dec_str1 _ _ _ _ hu (fun z => by rw [z]; exact .both) fun _ => rfl
      · obtain ⟨x, e1⟩ := hcode_row t
        obtain ⟨y, e2⟩ := hcode_row t'
        rw [e1, e2, hC_tag' e]
        exact dec_int1 _ _ _ _ (fun z => absurd (intC_ok.eq _ _ z) e) fun _ => rfl
theorem hd_lay (t : Tm) (h : Ok t) : (hdD t).canLay0 = true := by
  have hs : ∀ z : Str, AtomOk z → (PyData.str z).canLay0 = true := fun z h => by
    show (z.cps.all fun c => decide (c < 0x110000)) = true
    rw [← Array.all_toList, List.all_eq_true]
    intro c hc
    have := h.2 c hc
    exact decide_eq_true (by omega)
  cases t with
  | var k => rfl
  | int i => rfl
  | atom z =>
    unfold Ok at h
    show ((PyData.int 2).canLay0 && ((PyData.str z).canLay0 && true)) = true
    rw [hs z h]
    rfl
  | comp f as =>
    unfold Ok at h
    show ((PyData.int 3).canLay0 && ((PyData.int (as.length : Int)).canLay0 && ((PyData.str f).canLay0 && true))) = true
    rw [hs f h.1]
    rfl
theorem eqv_hd (t t' : Tm) : PyData.eqv (hdD t) (hdD t') = decide (hC (hcode t) (hcode t') = 0) := by
  by_cases e : rank t = rank t'
  · cases t <;> cases t' <;> first | (simp [rank] at e; done) | skip
    · show ((0 == 0 : Bool) && ((_ == _ : Bool) && true)) = decide (hC [0, _] [0, _] = 0)
      rw [hC_two, intC_beq, Bool.and_true]
      rfl
    · show (((1 : Int) == 1 : Bool) && ((_ == _ : Bool) && true)) = decide (hC [1, _] [1, _] = 0)
      rw [hC_two, ← intC_beq, Bool.and_true]
      rfl
    · show (((2 : Int) == 2 : Bool) && ((_ == _ : Bool) && true)) = decide (hC (2 :: cpsI _) (2 :: cpsI _) = 0)
      rw [hC_str, sC_beq, Bool.and_true]
      rfl
    · next f as g bs =>
      show (((3 : Int) == 3 : Bool) && (((as.length : Int) == (bs.length : Int) : Bool) && ((f == g : Bool) && true))) = decide (hC (3 :: (as.length : Int) :: cpsI f) (3 :: (bs.length : Int) :: cpsI g) = 0)
      rw [hC3, intC_beq (as.length : Int), sC_beq, Bool.and_true]
      by_cases z : intC (as.length : Int) (bs.length : Int) = 0
      · rw [if_pos z, decide_eq_true z]
        rfl
      · rw [if_neg z, decide_eq_false z]
        rfl
  · obtain ⟨x, e1⟩ := hcode_row t
    obtain ⟨y, e2⟩ := hcode_row t'
    rw [e1, e2, hC_tag' e, hd_row, hd_row]
    have z : intC (rank t) (rank t') ≠ 0 := fun z => e (intC_ok.eq _ _ z)
    rw [decide_eq_false z]
    show ((rank t == rank t' : Bool) && _) = false
    rw [beq_false_of_ne e]
    rfl
theorem head_rc {t t' : Tm} {v u : Value} {as bs : List Addr} (hu : A.units + 1 < cLine) (r1 : Reads s.heap v (hdD t) as) (r2 : Reads s.heap u (hdD t') bs) : RcLt A s v u (decide (hC (hcode t) (hcode t') < 0)) := by
  rw [hd_row] at r1 r2
  cases r1 with
  | @tuple p o vs n _ _ h1 h2 h3 h4 =>
    cases r2 with
    | @tuple q o' us n' _ _ k1 k2 k3 k4 =>
      exact rc_tup ⟨o, h1, h2, n, h3⟩ ⟨o', k1, k2, n', k3⟩ (by omega) (head_dec (A := A.in1) hu h4 k4)
theorem heads_dec (hu : A.units + 2 < cLine) : ∀ (ts us : List Tm) (vs ws : List Value) (as bs : List Addr), Oks ts → Oks us → ReadsAll s.heap vs (ts.map hdD) as → ReadsAll s.heap ws (us.map hdD) bs → Dec A s vs ws (decide (kC (ts.map hcode) (us.map hcode) < 0))
  | [], [], _, _, _, _, _, _, r1, r2 => by
    cases r1
    cases r2
    exact .both
  | [], _ :: _, _, _, _, _, _, _, r1, r2 => by
    cases r1
    cases r2 with
    | cons a b => exact .short _ _
  | _ :: _, [], _, _, _, _, _, _, r1, r2 => by
    cases r2
    cases r1 with
    | cons a b => exact .long _ _
  | t :: ts, u :: us, _, _, _, _, o1, o2, r1, r2 => by
    rw [oks_cons] at o1 o2
    cases r1 with
    | cons a1 b1 =>
      cases r2 with
      | cons a2 b2 =>
        have e := eqAt_reads _ _ A s _ _ _ _ a1 a2 (hd_lay t o1.1) (hd_lay u o2.1) (by rw [hd_depth, hd_depth]; show A.units + 1 < _; omega)
        rw [eqv_hd] at e
        rw [List.map_cons, List.map_cons]
        show Dec A s _ _ (decide (lexC hC _ _ < 0))
        rw [lexC_cons]
        by_cases z : hC (hcode t) (hcode u) = 0
        · rw [decide_eq_true z] at e
          rw [if_pos z]
          exact .same e (heads_dec hu ts us _ _ _ _ o1.2 o2.2 b1 b2)
        · rw [decide_eq_false z] at e
          rw [if_neg z]
          exact .here e (head_rc (by omega) a1 a2)
/-- two keys -/
theorem keys_rc {ts us : List Tm} {v w : Value} {as bs : List Addr} (hu : A.units + 3 < cLine) (o1 : Oks ts) (o2 : Oks us) (r1 : Reads s.heap v (.list (ts.map hdD)) as) (r2 : Reads s.heap w (.list (us.map hdD)) bs) : RcLt A s v w (decide (kC (ts.map hcode) (us.map hcode) < 0)) := by
  cases r1 with
  | @list p o vs n _ _ h1 h2 h3 h4 =>
    cases r2 with
    | @list q o' us n' _ _ k1 k2 k3 k4 => exact rc_lst ⟨o, h1, h2, n, h3⟩ ⟨o', k1, k2, n', k3⟩ (by omega) (heads_dec (A := A.in1) (by show A.units + 1 + 2 < _; omega) _ _ _ _ _ _ o1 o2 h4 k4)
end
end Hm

set_option Elab.async false
set_option linter.all false
set_option maxRecDepth 100000
set_option maxHeartbeats 4000000
namespace Hm
open PySem PySem.Spec PySem.W PyProof.Rows SrtO
section
variable {prog : Program} {w : World} {A : Around} {E : Value → Shared → Prop} {s : Shared}
/-- the sorting itself, where the keys are all there -/
theorem srt_end {a kS : Addr} {its keys : Array Value} {e e1 : Nat} {P : Keyed → Prop} {lt : Keyed → Keyed → Bool} {R : PySem.Fin → Shared → Prop} (O : Swo lt) (hka : kS ≠ a) (hz : its.size ≤ sizeLine) (hkz : keys.size = its.size)
    (nk : s.heap.get? kS = some (seqObj "list" keys e)) (na : s.heap.get? a = some (seqObj "list" #[] e1)) (T : 2 ≤ keys.size → Cmp prog w A s oneType' P lt) (hP : AllL P (keys.zip its).toList)
    (hty : ∀ v ∈ keys.toList, Looks (model prog w) s.heap (typeOf v) (Value.type "list"))
    (h : ∀ out : List Keyed, Srtd lt out → Stb lt out (keys.zip its).toList → R (.done (.ret .none)) { s with heap := (s.heap.update kS (Obj.mapSeq fun _ => #[])).update a (Obj.mapSeq fun _ => (out.map (·.2)).toArray) }) :
    wpAny (model prog w) A (ksk_end a false its e1 (.ref kS) keys) R E s := by
  have pz : (keys.zip its).size = its.size := by rw [Array.size_zip, hkz, Nat.min_self]
  have last : ∀ st : SortSt, failedOf st = none → Srtd lt (arrOf st).toList → Stb lt (arrOf st).toList (keys.zip its).toList → wpAny (model prog w) A (ksk_tail a false e1 (.ref kS) st) R E s := by
    intro st hf h1 h2
    have sz : (arrOf st).size = its.size := by
      have := h2.len
      rw [Array.length_toList, Array.length_toList, pz] at this
      exact this
    have na1 : (s.heap.update kS (Obj.mapSeq fun _ => (#[] : Array Value))).get? a = some (seqObj "list" #[] e1) := (Heap.get?_update_ne _ _ _ _ hka.symm).trans na
    unfold ksk_tail
    try dsimp only
    refine wpAny_bind (listUpdate_at nk rfl ?_ (by rw [hkz]; exact hz) (Nat.zero_le _))
    refine wpAny_bind (wpAny_letGo ?_)
    refine wpAny_bind (seqEpoch_at na1 rfl ?_)
    refine wpAny_bind (listUpdate_at na1 rfl ?_ (Nat.zero_le _) (by show ((arrOf st).map _).size ≤ _; rw [Array.size_map, sz]; omega))
    rw [hf]
    simp only [bne_self_eq_false, Bool.false_eq_true, if_false]
    have r := h _ h1 h2
    rw [← Array.toList_map, Array.toArray_toList] at r
    exact wpAny_pure r
  unfold ksk_end
  try dsimp only
  simp only [Bool.false_eq_true, if_false]
  by_cases h2 : its.size < 2
  · rw [if_pos h2, if_pos h2]
    refine wpAny_bind (wpAny_pure ?_)
    rw [StateT.run_pure]
    refine wpAny_bind (wpAny_pure ?_)
    try dsimp only
    refine last (SortSt.mk' general' (keys.zip its) #[] 7 none) rfl ?_ (Stb.refl _)
    show Srtd lt (keys.zip its).toList
    have l1 : (keys.zip its).toList.length < 2 := by rw [Array.length_toList, pz]; exact h2
    match (keys.zip its).toList, l1 with
    | [], _ => exact List.Pairwise.nil
    | [x], _ => exact List.pairwise_singleton _ _
    | x :: y :: r, l1 => exact absurd l1 (by simp)
  · rw [if_neg h2, if_neg h2]
    have kk : keyKind' keys = keyKind' keys.toList.toArray := by rw [Array.toArray_toList]
    rw [kk]
    refine wpAny_bind (kas_kind (T := Value.type "list") (by rw [Array.length_toList]; omega) hty (by rfl) (by rfl) ?_)
    refine wpAny_bind (wpAny_mono (wpS_sortO (st0 := SortSt.mk' oneType' (keys.zip its) #[] 7 none) (Q := fun _ st' => Srtd lt (arrOf st').toList ∧ Stb lt (arrOf st').toList (keys.zip its).toList ∧ failedOf st' = none) O (T (by omega)) rfl hP rfl rfl fun st' a1 a2 a3 => ⟨a1, a2, a3⟩) ?_ fun _ _ q => q)
    rintro ⟨⟨⟩, st'⟩ s' ⟨rfl, p1, p2, p3⟩
    try dsimp only
    exact last st' p3 p1 p2
end
/-! ## a call of the program's own function by sorted's own -/
section
open L2 HT
open Evl (Ex)
variable {X : Cx} {pins : List (Addr × Obj)} {σ : L2.St} {H : Hp} {s : Shared}
theorem run2 {k : Nat} {f : Addr} {fd : FuncData} {ps : List Str} {sp : Sp} {us : List Value} {vs : List V} {Q : VK} (F : FnOk X.prog X.w X.K X.mg X.base CX0 k f fd ps sp) (hr : Room k X.A.in1.in1) (hb : Binds X.K fd ps []) (I : Inv X pins σ H s) (r : Vals vs us) (h : sp vs H Q E0) :
    wpAny (model X.prog X.w) X.A.in1.in1 (call (.ref f) us) (EP X pins σ Q) (fun _ _ => False) s := by
  have hl : us.length = ps.length := r.length.symm.trans (F.len _ _ _ _ h)
  have hb' := hb s us I.kIn (by rw [List.append_nil]; exact hl)
  rw [List.append_nil] at hb'
  refine wpAny_call (codeAny_mono (F.run X.A.in1.in1 X.stack s H ⟨us, []⟩ us vs Q E0 hr I.env0.in1.in1 hb' r h) fun r s' hq => ?_)
  match r, hq with
  | .error e, hq => exact hq.elim
  | .ok (.ret u), hq => exact I.after hq
  | .ok .next, hq => exact hq.elim
  | .ok .brk, hq => exact hq.elim
  | .ok .cont, hq => exact hq.elim
def hdV : Tm → List V
  | .var k => [.int 0, .int k]
  | .int i => [.int 1, .int i]
  | .atom s => [.int 2, .str s]
  | .comp f as => [.int 3, .int (as.length : Int), .str f]
def HdAt (K : PySem.W.Frag) (H : Hp) (w : V) (t : Tm) : Prop := ∃ q, w = .ref q ∧ SqT K H q (hdV t)
def KeyL (K : PySem.W.Frag) (H : Hp) (p : Addr) (ts : List Tm) : Prop := ∃ ws, H p = some (.lst ws) ∧ PySem.Paired (HdAt K H) ws ts
theorem KeyL.ex {K : PySem.W.Frag} {H H' : Hp} {p : Addr} {ts : List Tm} (h : KeyL K H p ts) (e : Ex H H') : KeyL K H' p ts := by
  obtain ⟨ws, h1, h2⟩ := h
  exact ⟨ws, e _ _ h1, Paired.mapP h2 fun w t ⟨q, a, b⟩ => ⟨q, a, Evl.ex_t e b⟩⟩
theorem KeyL.put {K : PySem.W.Frag} {H : Hp} {p l : Addr} {xs : List V} {o : HO} {ts : List Tm} (h : KeyL K H p ts) (hl : H l = some (.lst xs)) (n : p ≠ l) : KeyL K (upd H l o) p ts := by
  obtain ⟨ws, h1, h2⟩ := h
  exact ⟨ws, by rw [upd_ne n]; exact h1, Paired.mapP h2 fun w t ⟨q, a, b⟩ => ⟨q, a, Tups.lst hl _ _ b⟩⟩
theorem dp_hd {K : PySem.W.Frag} {H : Hp} {w : V} {t : Tm} (h : HdAt K H w t) : Dp K H w (hdD t) := by
  obtain ⟨q, rfl, h⟩ := h
  cases t with
  | var k => exact .tup h (.cons (.int 0) (.cons (.int k) .nil))
  | int k => exact .tup h (.cons (.int 1) (.cons (.int k) .nil))
  | atom k => exact .tup h (.cons (.int 2) (.cons (.str k) .nil))
  | comp f as => exact .tup h (.cons (.int 3) (.cons (.int _) (.cons (.str f) .nil)))
theorem dp_hds {K : PySem.W.Frag} {H : Hp} : ∀ {ws : List V} {ts : List Tm}, PySem.Paired (HdAt K H) ws ts → DpAll K H ws (ts.map hdD)
  | _, _, .nil => .nil
  | _, _, .cons h r => .cons (dp_hd h) (dp_hds r)
theorem KeyL.dp {K : PySem.W.Frag} {H : Hp} {p : Addr} {ts : List Tm} (h : KeyL K H p ts) : Dp K H (.ref p) (.list (ts.map hdD)) := by
  obtain ⟨ws, h1, h2⟩ := h
  exact .lst (SqL.of h1) (dp_hds h2)
/-- what a key is of: where it stands, the term's value in the hand layer and in the heap, the term -/
structure Ent where
  p : Addr
  v : V
  u : Value
  t : Tm
theorem perm_back {α β : Type} {f : α → β} {l m : List β} (h : l.Perm m) : ∀ Z : List α, m = Z.map f → ∃ Z' : List α, Z'.Perm Z ∧ l = Z'.map f := by
  induction h with
  | nil => exact fun Z e => ⟨Z, .refl _, e⟩
  | cons x _ ih =>
    intro Z e
    match Z, e with
    | z :: Z, e =>
      rw [List.map_cons] at e
      injection e with e1 e2
      obtain ⟨Z', h1, h2⟩ := ih Z e2
      exact ⟨z :: Z', h1.cons z, by rw [List.map_cons, e1, h2]⟩
    | [], e => cases e
  | swap x y l =>
    intro Z e
    match Z, e with
    | z :: z' :: Z, e =>
      rw [List.map_cons, List.map_cons] at e
      injection e with e1 e2
      injection e2 with e2 e3
      exact ⟨z' :: z :: Z, .swap _ _ _, by rw [List.map_cons, List.map_cons, e1, e2, e3]⟩
    | [z], e => simp at e
    | [], e => cases e
  | trans _ _ ih1 ih2 =>
    intro Z e
    obtain ⟨Z1, a1, b1⟩ := ih2 Z e
    obtain ⟨Z2, a2, b2⟩ := ih1 Z1 b1
    exact ⟨Z2, a2.trans a1, b2⟩
/-- the code of a key's value -/
def codeOf (Z : List Ent) : Value → List (List Int)
  | .ref p => match Z.find? (fun z => z.p == p) with
    | some z => kcode z.t
    | none => []
  | _ => []
theorem code_at {z : Ent} : ∀ {Z : List Ent}, (Z.map Ent.p).Nodup → z ∈ Z → codeOf Z (.ref z.p) = kcode z.t
  | [], _, h => by cases h
  | y :: Z, hn, h => by
    rw [List.map_cons, List.nodup_cons] at hn
    show (match List.find? (fun x : Ent => x.p == z.p) (y :: Z) with
      | some x => kcode x.t
      | none => []) = kcode z.t
    rw [List.find?_cons]
    rcases List.mem_cons.mp h with rfl | h
    · rw [beq_self_eq_true]
    · have ne : y.p ≠ z.p := fun e => hn.1 (by rw [e]; exact List.mem_map_of_mem h)
      rw [beq_false_of_ne ne]
      exact code_at hn.2 h
def ltK (Z : List Ent) (x y : Keyed) : Bool := decide (kC (codeOf Z x.1) (codeOf Z y.1) < 0)
theorem ltK_swo (Z : List Ent) : Swo (ltK Z) := by
  refine ⟨fun x y h => ?_, fun x y z h1 h2 => ?_⟩
  · have := of_decide_eq_true h
    have a := kC_ok.anti (codeOf Z x.1) (codeOf Z y.1)
    exact decide_eq_false (by omega)
  · have h1 := of_decide_eq_false h1
    have h2 := of_decide_eq_false h2
    have a1 := kC_ok.anti (codeOf Z x.1) (codeOf Z y.1)
    have a2 := kC_ok.anti (codeOf Z y.1) (codeOf Z z.1)
    have a3 := kC_ok.anti (codeOf Z x.1) (codeOf Z z.1)
    have t := kC_ok.tr _ _ _ (show kC (codeOf Z x.1) (codeOf Z y.1) ≤ 0 by omega) (show kC (codeOf Z y.1) (codeOf Z z.1) ≤ 0 by omega)
    exact decide_eq_false (by omega)
/-- an address that no one of this frame knows yet -/
structure Fre (X : Cx) (pins : List (Addr × Obj)) (L : Addr) : Prop where
  far : X.s_0.heap.objs.size ≤ L
  loc : L ≠ X.env.locals
  cel : ∀ x c, X.env.cells.lookup x = some c → c ≠ L
  pin : ∀ p ∈ X.pn ++ pins, p.1 ≠ L
  nfs : L ∉ X.fs
theorem Fre.of (I : Inv X pins σ H s) {L : Addr} (h : s.heap.objs.size ≤ L) : Fre X pins L := by
  have lt : ∀ b o, s.heap.get? b = some o → b ≠ L := fun b o e z => by
    subst z
    exact absurd (Heap.lt_size e) (Nat.not_lt.mpr h)
  refine ⟨Nat.le_trans I.sz h, fun z => ?_, fun x c e => ?_, fun p hp => lt _ _ (I.pin p hp).1, I.nofs h⟩
  · subst z
    exact absurd I.lt (Nat.not_lt.mpr h)
  · obtain ⟨v, o, ho, _⟩ := I.cell x c e
    exact lt _ _ ho
/-- such an object is changed, and is told in the hand layer from now on, or not -/
theorem adopt {L : Addr} {o : HO} {h' : Heap} (I : Inv X pins σ H s) (f : Fre X pins L) (hn : H L = none) (k : ∀ b u, b ≠ L → s.heap.get? b = some u → h'.get? b = some u) (new : ObjOk X.prog X.w (upd H L o) h' L o) : Inv X pins σ (upd H L o) { s with heap := h' } := by
  have ne : ∀ b u, H b = some u → b ≠ L := fun b u e z => by rw [z, hn] at e; cases e
  refine I.step (t' := s.toks) (g' := s.gens) (d' := s.drawn) (ch := [L]) (fun b hb => ?_) (fun b o _ _ hc e _ => k b o (fun z => hc (by simp [z])) e) (fun b o _ _ hc e _ => ⟨o.slots, k b o (fun z => hc (by simp [z])) e⟩) (fun b o hc e n => by rw [upd_ne (fun z => hc (by simp [z]))]; exact n)
    (fun b o hc e => ⟨o, k b o (fun z => hc (by simp [z])) e⟩) (fun b xs e => by rw [upd_ne (ne b _ e)]; exact e) (fun b o u e => by rw [upd_ne (ne b _ e)]; exact e) (fun b ps e => ⟨#[], by rw [upd_ne (ne b _ e), e]; simp⟩) (fun m hm => ?_) (fun b u e => ?_) I.bare
  · have e : b = L := by simpa using hb
    subst e
    exact ⟨.inr f.far, f.loc, f.cel, f.pin⟩
  · obtain ⟨o, es, ep, ho, r⟩ := hm
    exact ⟨o, es, ep, k _ o (Ne.symm f.loc) ho, r⟩
  · by_cases hb : b = L
    · subst hb
      rw [upd_same] at e
      cases e
      exact new
    · rw [upd_ne hb] at e
      refine (I.hok b u e).stay (fun c v hc q => k c v ?_ q) (fun c q => by rw [upd_ne (ne c _ q)]; exact q) fun c xs q => by rw [upd_ne (ne c _ q)]; exact q
      rcases hc with z | z
      · rw [z]; exact hb
      · exact ne c _ z
theorem touched {L : Addr} {h' : Heap} (I : Inv X pins σ H s) (f : Fre X pins L) (hn : H L = none) (k : ∀ b u, b ≠ L → s.heap.get? b = some u → h'.get? b = some u) : Inv X pins σ H { s with heap := h' } :=
  I.turned (t' := s.toks) (fun b o hb e => k b o hb e) hn f.loc (.inr f.far) f.cel f.pin
theorem pinned {L : Addr} {o : Obj} (I : Inv X pins σ H s) (f : Fre X pins L) (hn : H L = none) (h : s.heap.get? L = some o) (nc : ∀ v, o.data ≠ .cell v) : Inv X ((L, o) :: pins) σ H s :=
  I.pins_of fun p hp => by
    rcases List.mem_cons.mp hp with rfl | hp
    · exact ⟨h, hn, f.loc, f.nfs, nc⟩
    · exact I.pin p (List.mem_append_right _ hp)
theorem unpinned {L : Addr} {o : Obj} (I : Inv X ((L, o) :: pins) σ H s) : Inv X pins σ H s := I.pins_of fun p hp => I.pin p (List.mem_append_right _ (List.mem_cons_of_mem _ hp))
theorem vals_at : ∀ {xs : List V} {us : List Value}, Vals xs us → ∀ {j : Nat} {u : Value}, us[j]? = some u → ∃ x, xs[j]? = some x ∧ RelV x u
  | _, _, .nil, j, u, h => by simp at h
  | _, _, .cons h r, 0, u, e => ⟨_, rfl, by
      have := Option.some.inj e
      subst this
      exact h⟩
  | _, _, .cons h r, j + 1, u, e => vals_at r (by simpa using e)
theorem vals_refs : ∀ {Z : List Ent} {us : List Value}, Vals (Z.map fun z => V.ref z.p) us → us = Z.map fun z => Value.ref z.p
  | [], _, h => by cases h; rfl
  | z :: Z, _, h => by
    cases h with
    | cons h r =>
      rw [List.map_cons, ← vals_refs r]
      exact congrArg (· :: _) h
theorem zip_ents : ∀ Z : List Ent, (Z.map fun z => Value.ref z.p).zip (Z.map Ent.u) = Z.map fun z => (Value.ref z.p, z.u)
  | [] => rfl
  | z :: Z => by
    rw [List.map_cons, List.map_cons, List.map_cons, List.zip_cons_cons, zip_ents Z]
theorem vals_ents : ∀ {Z : List Ent}, (∀ z ∈ Z, RelV z.v z.u) → Vals (Z.map Ent.v) (Z.map Ent.u)
  | [], _ => .nil
  | z :: Z, h => .cons (h z List.mem_cons_self) (vals_ents fun y hy => h y (List.mem_cons_of_mem _ hy))
theorem reps_ents {K : PySem.W.Frag} : ∀ {Z : List Ent}, (∀ z ∈ Z, Rep K H z.t z.v) → Reps K H (Z.map Ent.t) (Z.map Ent.v)
  | [], _ => Reps.nil
  | z :: Z, h => Reps.cons (h z List.mem_cons_self) (reps_ents fun y hy => h y (List.mem_cons_of_mem _ hy))
def spKey (K : PySem.W.Frag) : Sp := fun vs H Q _ => ∃ v t, vs = [v] ∧ Rep K H t v ∧ Ok t ∧ size t ≤ 50000 ∧ ∀ p H', H p = none → Ex H H' → KeyL K H' p (pre t) → Q (.ref p) H'
def rSrt (K : PySem.W.Frag) (f : Addr) : List V → List V → Hp → VK → Prop := fun vs zs H Q => ∃ a xs ts, vs = [V.ref a] ∧ zs = [V.ref f] ∧ (SqL K H a xs ∨ SqT K H a xs) ∧ Reps K H ts xs ∧ Oks ts ∧ (∀ t ∈ ts, size t ≤ 50000) ∧ xs.length ≤ 1000 ∧
  ∀ p ys us H', H p = none → Ex H H' → H' p = some (.lst ys) → Reps K H' us ys → us.Perm ts → Rising us → Q (.ref p) H'
theorem cr_srt {k : Nat} {f : Addr} {fd : FuncData} {ps : List Str} (F : FnOk X.prog X.w X.K X.mg X.base CX0 k f fd ps (spKey X.K)) (hb : Binds X.K fd ps []) (hr : Room (k + 2) X.A) : CallRK X (.builtin "sorted") [Str.ofString "key"] (rSrt X.K f) := by
  intro pins s σ H vs zs us ws Q I r rz h
  obtain ⟨a, xs, ts, rfl, rfl, hS, hR, hO, hz0, hx, q⟩ := h
  have hz' : ∀ (t : Tm) {j : Nat}, ts[j]? = some t → size t ≤ 50000 := fun t j e => hz0 t (List.mem_of_getElem? e)
  obtain rfl := Vals.ref1 r
  obtain ⟨w1, rfl, e1⟩ := vals1 rz
  obtain rfl : w1 = Value.ref f := e1
  obtain ⟨its, rv, T, o, n, hT, ho, hc, hd⟩ : ∃ its, Vals xs its ∧ ∃ (T : String) (o : Obj) (n : Nat), (T = "list" ∨ T = "tuple") ∧ s.heap.get? a = some o ∧ o.cls = .type T ∧ o.data = .seq its.toArray n := by
    rcases hS with hS | hS
    · obtain ⟨its, rv, hl, _⟩ := I.list hS
      obtain ⟨o, ho, hc, n, hd⟩ := hl.isList
      exact ⟨its, rv, "list", o, n, .inl rfl, ho, hc, hd⟩
    · obtain ⟨its, rv, ⟨o, ho, hc, n, hd⟩, _⟩ := I.tuple hS
      exact ⟨its, rv, "tuple", o, n, .inr rfl, ho, hc, hd⟩
  have hlen : its.length ≤ 1000 := by rw [← rv.length]; exact hx
  have hsz : its.length ≤ sizeLine := Nat.le_trans hlen (by decide)
  refine call_function_entry_kw kind_sorted plain_sorted entry_sorted (ksk_s1 _ _) ?_
  unfold Builtin.«sorted»
  refine wpAny_bind (m := checkCount "sorted" 1 1 _) (wpAny_pure ?_)
  refine wpAny_bind (wpAny_collect_seq a hT ho hc hd (fun h1 k1 => ?_) (by rw [List.size_toArray]; exact hsz))
  have I1 : Inv X pins σ H { s with heap := h1 } := I.kept (t' := s.toks) k1
  rw [List.toList_toArray]
  refine wpAny_bind (wpAny_newList ?_ hsz)
  have fL : H h1.objs.size = none := I1.hok.fresh (Nat.le_refl _)
  have frL : Fre X pins h1.objs.size := Fre.of I1 (Nat.le_refl _)
  have hoL : (h1.push (seqObj "list" its.toArray 0)).get? h1.objs.size = some (seqObj "list" its.toArray 0) := Heap.get?_push_size _ rfl
  have I2 : Inv X pins σ H { s with heap := h1.push (seqObj "list" its.toArray 0) } := I1.kept (t' := s.toks) fun b u e => Heap.get?_push_of_some _ e
  generalize h1.objs.size = L at *
  refine wpAny_bind (wpAny_holding (wpAny_call_entry_kw slot_list_sort ⟨_, hoL, rfl⟩ entry_list_sort ?body (ksk_l1 _ _)))
  case body =>
    show wpAny (model X.prog X.w) X.A.in1.in1 (Builtin.«list.sort» ⟨[.ref L], [(Str.ofString "key", .ref f)]⟩) _ _ _
    rw [ksk_t1]
    unfold ksk_tree
    refine wpAny_bind (listItems_at hoL rfl ?_)
    refine wpAny_bind (listUpdate_at hoL rfl ?_ (by rw [List.size_toArray]; exact hsz) (Nat.zero_le _))
    obtain ⟨e1, ho1⟩ : ∃ e1, ((h1.push (seqObj "list" its.toArray 0)).update L (Obj.mapSeq fun _ => (#[] : Array Value))).get? L = some (seqObj "list" #[] e1) := ⟨_, get?_update_seq hoL fun _ => #[]⟩
    have I3 : Inv X pins σ H { s with heap := (h1.push (seqObj "list" its.toArray 0)).update L (Obj.mapSeq fun _ => (#[] : Array Value)) }     := touched (s := { s with heap := h1.push (seqObj "list" its.toArray 0) }) I2 frL fL fun b u hb hu => (Heap.get?_update_ne _ _ _ _ hb).trans hu
    refine wpAny_bind (seqEpoch_at ho1 rfl ?_)
    generalize (h1.push (seqObj "list" its.toArray 0)).update L (Obj.mapSeq fun _ => (#[] : Array Value)) = h3 at *
    refine wpAny_bind (wpAny_newTuple ?_ (by rw [List.toList_toArray]; exact hsz))
    refine wpAny_bind (wpAny_newList ?_ (Nat.zero_le _))
    refine wpAny_holding ?_
    rw [List.toList_toArray]
    have I4 : Inv X pins σ H { s with heap := h3.push (seqObj "tuple" its.toArray 0) } := I3.kept (t' := s.toks) fun b u e => Heap.get?_push_of_some _ e
    have ho4 : (h3.push (seqObj "tuple" its.toArray 0)).get? L = some (seqObj "list" #[] e1) := Heap.get?_push_of_some _ ho1
    generalize hh4 : h3.push (seqObj "tuple" its.toArray 0) = h4 at *
    have I4 := pinned I4 frL fL ho4 (fun v z => by cases z)
    have fK : H h4.objs.size = none := I4.hok.fresh (Nat.le_refl _)
    have hoK : (h4.push (seqObj "list" #[] 0)).get? h4.objs.size = some (seqObj "list" #[] 0) := Heap.get?_push_size _ rfl
    have I5 : Inv X ((L, seqObj "list" #[] e1) :: pins) σ (upd H h4.objs.size (.lst [])) { s with heap := h4.push (seqObj "list" #[] 0) } := I4.laid (t' := s.toks) (fun b u e => Heap.get?_push_of_some _ e) (Nat.le_refl _) ⟨Nat.zero_le _, [], 0, .nil, hoK⟩
    have hLK : L ≠ h4.objs.size := Nat.ne_of_lt (Heap.lt_size ho4)
    generalize h4.objs.size = kS at *
    unfold ksk_rest
    refine wpAny_bind (wpAny_rule ?_)
    rw [List.forIn_toArray]
    refine wpAny_bind (ksk_fold (fun j s' => ∃ (H' : Hp) (Z : List Ent), Inv X ((L, seqObj "list" #[] e1) :: pins) σ H' s' ∧ Ex H H' ∧ H' kS = some (.lst (Z.map fun z => V.ref z.p)) ∧ Z.map Ent.t = ts.take j ∧ Z.map Ent.u = its.take j ∧ (Z.map Ent.p).Nodup ∧ ∀ z ∈ Z, z.p ≠ kS ∧ KeyL X.K H' z.p (pre z.t) ∧ Rep X.K H z.t z.v ∧ RelV z.v z.u) its 0 _ ?init ?step ?done)
    case init =>
      exact ⟨_, [], I5, Ex.new fK, upd_same, rfl, rfl, List.nodup_nil, fun z hz => by cases hz⟩
    case step =>
      rintro j u s' hju ⟨H', Z, I', eH, hK', zt, zu, nd, hz⟩
      simp only [Nat.zero_add] at zt zu ⊢
      obtain ⟨x, hxj, hxu⟩ := vals_at rv hju
      obtain ⟨t, htj, hrt⟩ := hR.get hxj
      refine wpAny_bind (wpAny_attempt (wpAny_mono (run2 (Q := fun v H2 => ∃ p, v = .ref p ∧ H' p = none ∧ Ex H' H2 ∧ KeyL X.K H2 p (pre t)) F (hr.in1.in1) hb I' (.cons hxu .nil) ⟨x, t, rfl, hrt.mono (Tups.of eH), oks_get hO htj, hz' t htj, fun p H2 hp e2 hk => ⟨p, rfl, hp, e2, hk⟩⟩) (fun kv s2 he => ?_) fun _ _ hF => hF.elim))
      obtain ⟨v, H2, I6, rkv, p, rfl, hp, e2, hky⟩ := he
      have hK2 := e2 _ _ hK'
      have zlen : Z.length = j := by
        have := congrArg List.length zu
        rw [List.length_map, List.length_take] at this
        have hj : j < its.length := (List.getElem?_eq_some_iff.mp hju).1
        omega
      have hj : j < its.length := (List.getElem?_eq_some_iff.mp hju).1
      obtain ⟨hz2, kis, kn, kv2, hgK⟩ := I6.hok _ _ hK2
      obtain ⟨c2, hc2⟩ : ∃ c2, (s2.heap.update kS (Obj.mapSeq (·.push kv))).get? kS = some (seqObj "list" (kis.toArray.push kv) c2) := ⟨_, get?_update_seq hgK (·.push kv)⟩
      have kl : kis.length = j := by
        rw [← kv2.length, List.length_map, zlen]
      have e3 : kis.toArray.push kv = (kis ++ [kv]).toArray := by simp
      rw [e3] at hc2
      refine wpAny_bind (listUpdate_at hgK rfl ?_ (by rw [List.size_toArray, kl]; omega) (by rw [Array.size_push, List.size_toArray, kl]; omega))
      have hpK : p ≠ kS := (ne_of_none hK' hp).symm
      have I7 : Inv X ((L, seqObj "list" #[] e1) :: pins) σ (upd H2 kS (.lst ((Z ++ [(⟨p, x, u, t⟩ : Ent)]).map fun z => V.ref z.p))) { s2 with heap := s2.heap.update kS (Obj.mapSeq (·.push kv)) } :=
        I6.write (e := kS) (t' := s2.toks) (by rw [hK2]; trivial) (.inl rfl) (fun b u hb hu => (Heap.get?_update_ne _ _ _ _ hb).trans hu) ⟨_, hc2⟩ ⟨by rw [List.length_map, List.length_append, zlen]; show j + 1 ≤ _; omega, kis ++ [kv], c2, by rw [List.map_append]; exact kv2.append (.cons rkv .nil), hc2⟩
      refine wpAny_pure ⟨rfl, _, Z ++ [⟨p, x, u, t⟩], I7, Ex.mut (eH.trans e2) fK, upd_same, ?_, ?_, ?_, fun z hm => ?_⟩
      · rw [List.map_append, zt, List.take_add_one, htj]
        rfl
      · rw [List.map_append, zu, List.take_add_one, hju]
        rfl
      · rw [List.map_append, List.nodup_append]
        refine ⟨nd, by simp, fun y hy z hzz e => ?_⟩
        simp only [List.map_cons, List.map_nil, List.mem_singleton] at hzz
        subst hzz
        subst e
        obtain ⟨y, hy1, hy2⟩ := List.mem_map.mp hy
        obtain ⟨_, ⟨ws, hk, _⟩, _⟩ := hz y hy1
        rw [hy2, hp] at hk
        cases hk
      · rcases List.mem_append.mp hm with hm | hm
        · obtain ⟨a1, a3, a4, a5⟩ := hz z hm
          exact ⟨a1, (a3.ex e2).put hK2 a1, a4, a5⟩
        · have := List.mem_singleton.mp hm
          subst this
          exact ⟨hpK, hky.put hK2 hpK, hrt, hxu⟩
    case done =>
      rintro s' ⟨H', Z, I', eH, hK', zt, zu, nd, hz⟩
      simp only [Nat.zero_add] at zt zu
      have lts : ts.length = its.length := by rw [hR.len, rv.length]
      rw [List.take_of_length_le (by omega)] at zt zu
      obtain ⟨hz2, kis, kn, kv2, hgK⟩ := I'.hok _ _ hK'
      have ek := vals_refs kv2
      have lK : kis.length = its.length := by rw [ek, ← zu, List.length_map, List.length_map]
      obtain ⟨hgL, nL, _⟩ := I'.pin (L, seqObj "list" #[] e1) (List.mem_append_right _ List.mem_cons_self)
      have ez : (kis.toArray.zip its.toArray).toList = Z.map fun z => (Value.ref z.p, z.u) := by
        rw [ksk_zip, List.toList_toArray, ek, ← zu, zip_ents]
      have rd : ∀ z ∈ Z, ∃ as, Reads s'.heap (.ref z.p) (.list ((pre z.t).map hdD)) as := fun z hm => Dp.reads I' _ _ _ (hz z hm).2.1.dp rfl
      have okz : ∀ z ∈ Z, Ok z.t := fun z hm => by
        have : z.t ∈ ts := by rw [← zt]; exact List.mem_map_of_mem hm
        obtain ⟨i, hi, e⟩ := List.getElem_of_mem this
        exact oks_get hO (by rw [List.getElem?_eq_getElem hi, e])
      refine wpAny_bind (listItems_at hgK rfl ?_)
      refine srt_end (P := fun p => ∃ z ∈ Z, p.1 = .ref z.p) (lt := ltK Z) (ltK_swo Z) hLK.symm (by rw [List.size_toArray]; exact hsz) (by rw [List.size_toArray, List.size_toArray, lK]) hgK hgL (fun _ => ?_) (fun p hp => ?_) (fun v hv => ?_) fun out h1 h2 => ?_
      · rintro x y ⟨z, z1, z2⟩ ⟨z', z1', z2'⟩
        show wpAny _ _ (keyLt' oneType' x.1 y.1) (fun r s'' => s'' = s' ∧ r = ltK Z x y) _ s'
        have el : ltK Z x y = decide (kC (kcode z.t) (kcode z'.t) < 0) := by
          unfold ltK
          rw [z2, z2', code_at nd z1, code_at nd z1']
        rw [z2, z2', keyLt'_oneType, oneLt'_eq, el]
        simp only [if_true]
        obtain ⟨as, r1⟩ := rd z z1
        obtain ⟨bs, r2⟩ := rd z' z1'
        have un := hr.un
        have du : X.A.in1.in1.units = X.A.units + 2 := rfl
        cases r1 with
        | @list p1 o1 vs1 n1 _ as1 a1 a2 a3 a4 =>
          cases r2 with
          | @list p2 o2 vs2 n2 _ as2 b1 b2 b3 b4 =>
            refine wpAny_bind (wpAny_cRoomFor (by rw [du]; omega) ?_)
            refine wpAny_bind (wpAny_callSpecialIfBound?_slot (T := "list") ⟨_, a1, a2⟩ PySem.F.slot_list_lt (call_lst ⟨o1, a1, a2, n1, a3⟩ ⟨o2, b1, b2, n2, b3⟩ (heads_dec (A := X.A.in1.in1.in1) (by show X.A.units + 3 + 2 < _; omega) _ _ _ _ _ _ (ok_pre (okz z z1)) (ok_pre (okz z' z1')) a4 b4) ?_))
            exact wpAny_truthy_bool ⟨rfl, rfl⟩
      · rw [ez] at hp
        obtain ⟨z, hm, e⟩ := List.mem_map.mp hp
        exact ⟨z, hm, by rw [← e]⟩
      · rw [List.toList_toArray, ek] at hv
        obtain ⟨z, hm, e⟩ := List.mem_map.mp hv
        obtain ⟨as, r1⟩ := rd z hm
        rw [← e]
        exact looks_reads r1
      · rw [ez] at h2
        obtain ⟨Z', pZ, eZ⟩ := perm_back h2.perm Z rfl
        have hz3 : ∀ z ∈ Z', z ∈ Z := fun z hm => pZ.mem_iff.mp hm
        have eo : (out.map (·.2)) = Z'.map Ent.u := by rw [eZ, List.map_map]; rfl
        have lZ : Z'.length = its.length := by rw [pZ.length_eq, ← zu, List.length_map]
        obtain ⟨c2, hc2⟩ : ∃ c2, (s'.heap.update kS (Obj.mapSeq fun _ => (#[] : Array Value))).get? kS = some (seqObj "list" #[] c2) := ⟨_, get?_update_seq hgK fun _ => #[]⟩
        have I8 : Inv X pins σ (upd H' kS (.lst [])) { s' with heap := s'.heap.update kS (Obj.mapSeq fun _ => (#[] : Array Value)) } :=
          (unpinned I').write (e := kS) (t' := s'.toks) (by rw [hK']; trivial) (.inl rfl) (fun b u hb hu => (Heap.get?_update_ne _ _ _ _ hb).trans hu) ⟨_, hc2⟩ ⟨Nat.zero_le _, [], c2, .nil, hc2⟩
        have hgL8 : (s'.heap.update kS (Obj.mapSeq fun _ => (#[] : Array Value))).get? L = some (seqObj "list" #[] e1) := (Heap.get?_update_ne _ _ _ _ hLK).trans hgL
        have nL8 : upd H' kS (.lst []) L = none := by rw [upd_ne hLK]; exact nL
        obtain ⟨c3, hc3⟩ : ∃ c3, ((s'.heap.update kS (Obj.mapSeq fun _ => (#[] : Array Value))).update L (Obj.mapSeq fun _ => (out.map (·.2)).toArray)).get? L = some (seqObj "list" (out.map (·.2)).toArray c3) := ⟨_, get?_update_seq hgL8 fun _ => (out.map (·.2)).toArray⟩
        have I9 : Inv X pins σ (upd (upd H' kS (.lst [])) L (.lst (Z'.map Ent.v))) { s' with heap := (s'.heap.update kS (Obj.mapSeq fun _ => (#[] : Array Value))).update L (Obj.mapSeq fun _ => (out.map (·.2)).toArray) } :=
          adopt (s := { s' with heap := s'.heap.update kS (Obj.mapSeq fun _ => (#[] : Array Value)) }) I8 frL nL8 (fun b u hb hu => (Heap.get?_update_ne _ _ _ _ hb).trans hu) ⟨by rw [List.length_map, lZ]; exact hsz, out.map (·.2), c3, by rw [eo]; exact vals_ents fun z hm => (hz z (hz3 z hm)).2.2.2, hc3⟩
        have eH9 : Ex H (upd (upd H' kS (.lst [])) L (.lst (Z'.map Ent.v))) := Ex.mut (Ex.mut eH fK) fL
        refine ⟨_, rfl, wpAny_pure ⟨_, rfl, .ref L, _, I9, rfl, q L _ (Z'.map Ent.t) _ fL eH9 upd_same (reps_ents fun z hm => (hz z (hz3 z hm)).2.2.1.mono (Tups.of eH9)) (by rw [← zt]; exact pZ.map _) ?_⟩⟩
        have h1' := h1
        unfold Srtd at h1'
        rw [eZ, List.pairwise_map] at h1'
        refine List.pairwise_map.mpr (h1'.imp_of_mem fun {x y} hx hy g => ?_)
        unfold ltK at g
        have g2 := of_decide_eq_false g
        rw [code_at nd (hz3 y hy), code_at nd (hz3 x hx), ord_key] at g2
        have g3 := tord_ok.anti x.t y.t
        omega
end
end Hm

set_option Elab.async false
set_option linter.all false
set_option maxRecDepth 100000
set_option maxHeartbeats 1000000
namespace Hm
open PySem PySem.Spec PyProof.Rows L2 HT
open Evl (Ex)
/-! ## terms as data -/
mutual
def toD : Tm → PyData
  | .var k => .tuple [.int k]
  | .int i => .int i
  | .atom s => .str s
  | .comp f as => .tuple (.str f :: toDs as)
def toDs : List Tm → List PyData
  | [] => []
  | t :: ts => toD t :: toDs ts
end
section
variable {K : PySem.W.Frag} {H : Hp}
mutual
theorem dp_rep : ∀ {t : Tm} {v : V}, Rep K H t v → Dp K H v (toD t)
  | .var k, v, h => by
    unfold Rep at h
    obtain ⟨a, rfl, hT⟩ := h
    exact .tup hT (.cons (.int k) .nil)
  | .int i, v, h => by
    unfold Rep at h
    subst h
    exact .int i
  | .atom s, v, h => by
    unfold Rep at h
    subst h
    exact .str s
  | .comp f as, v, h => by
    unfold Rep at h
    obtain ⟨a, vs, rfl, hT, hA⟩ := h
    exact .tup hT (.cons (.str f) (dp_reps hA))
theorem dp_reps : ∀ {ts : List Tm} {vs : List V}, Reps K H ts vs → DpAll K H vs (toDs ts)
  | [], vs, h => by
    rw [h.nil_inv]
    exact .nil
  | t :: ts, vs, h => by
    obtain ⟨v, ws, rfl, h1, h2⟩ := h.cons_inv
    exact .cons (dp_rep h1) (dp_reps h2)
end
theorem dp_ints {p : Addr} {ns : List Int} (h : SqL K H p (ns.map V.int)) : Dp K H (.ref p) (.list (ns.map PyData.int)) := by
  refine .lst h ?_
  induction ns with
  | nil => exact .nil
  | cons n ns ih => exact .cons (.int n) (ih' ns)
where ih' : ∀ ns : List Int, DpAll K H (ns.map V.int) (ns.map PyData.int)
  | [] => .nil
  | n :: ns => .cons (.int n) (ih' ns)
end
theorem lay_ints : ∀ ns : List Int, PyData.canLayAll0 (ns.map PyData.int) = true
  | [] => rfl
  | n :: ns => by
    show (PyData.canLay0 (.int n) && PyData.canLayAll0 (ns.map PyData.int)) = true
    rw [lay_ints ns]
    rfl
theorem dep_ints : ∀ ns : List Int, PyData.depthAll (ns.map PyData.int) = 0
  | [] => rfl
  | n :: ns => by
    show max (PyData.depth (.int n)) (PyData.depthAll (ns.map PyData.int)) = 0
    rw [dep_ints ns]
    rfl
theorem shaped_ints (ns : List Int) : SeqAt.shaped (.list (ns.map PyData.int)) = true := by
  show (PyData.canLayAll0 (ns.map PyData.int) && decide (PyData.depthAll (ns.map PyData.int) + 1 ≤ 64)) = true
  rw [lay_ints, dep_ints]
  rfl
theorem eqv_ints (ns : List Int) : PyData.eqv (.list (ns.map PyData.int)) (.list (ns.map PyData.int)) = true := SeqAt.eqv_refl _ (lay_ints ns)
theorem strOk_of {s : Str} (h : AtomOk s) : (PyData.str s).canLay0 = true := by
  show (s.cps.all fun c => decide (c < 0x110000)) = true
  rw [← Array.all_toList, List.all_eq_true]
  intro c hc
  have := h.2 c hc
  exact decide_eq_true (by omega)
mutual
theorem lay_tm : ∀ {t : Tm}, Ok t → (toD t).canLay0 = true
  | .var k, _ => rfl
  | .int i, _ => rfl
  | .atom s, h => by
    unfold Ok at h
    exact strOk_of h
  | .comp f as, h => by
    unfold Ok at h
    unfold toD
    show ((PyData.str f).canLay0 && PyData.canLayAll0 (toDs as)) = true
    rw [strOk_of h.1, lay_tms h.2.2.2]
    rfl
theorem lay_tms : ∀ {ts : List Tm}, Oks ts → PyData.canLayAll0 (toDs ts) = true
  | [], _ => rfl
  | t :: ts, h => by
    rw [oks_cons] at h
    unfold toDs
    show ((toD t).canLay0 && PyData.canLayAll0 (toDs ts)) = true
    rw [lay_tm h.1, lay_tms h.2]
    rfl
end
mutual
theorem dep_tm : ∀ t : Tm, (toD t).depth ≤ depth t
  | .var k => by
    show max (PyData.depth (.int k)) (PyData.depthAll []) + 1 ≤ 1
    exact Nat.le_refl _
  | .int i => Nat.zero_le _
  | .atom s => Nat.zero_le _
  | .comp f as => by
    unfold toD depth
    have := dep_tms as
    show max (PyData.depth (.str f)) (PyData.depthAll (toDs as)) + 1 ≤ _
    have e : PyData.depth (.str f) = 0 := rfl
    omega
theorem dep_tms : ∀ ts : List Tm, PyData.depthAll (toDs ts) ≤ depths ts
  | [] => Nat.zero_le _
  | t :: ts => by
    unfold toDs
    rw [depths_cons]
    have h1 := dep_tm t
    have h2 := dep_tms ts
    show max (toD t).depth (PyData.depthAll (toDs ts)) ≤ _
    omega
end
theorem shaped_tm {t : Tm} (h : Ok t) (hd : depth t ≤ 64) : SeqAt.shaped (toD t) = true := by
  show ((toD t).canLay0 && decide ((toD t).depth ≤ 64)) = true
  rw [lay_tm h, decide_eq_true (Nat.le_trans (dep_tm t) hd)]
  rfl
theorem eqv_tm {t : Tm} (h : Ok t) : PyData.eqv (toD t) (toD t) = true := SeqAt.eqv_refl _ (lay_tm h)
mutual
theorem eqv_toD : ∀ s t : Tm, PyData.eqv (toD s) (toD t) = decide (tord s t = 0)
  | .var i, .var j => by
    show ((i == j : Bool) && true) = decide (hC [0, i] [0, j] = 0)
    rw [hC_two, intC_beq, Bool.and_true]
  | .int i, .int j => by
    show (i == j : Bool) = decide (hC [1, i] [1, j] = 0)
    rw [hC_two, intC_beq]
  | .atom i, .atom j => by
    show (i == j : Bool) = decide (hC (2 :: cpsI i) (2 :: cpsI j) = 0)
    rw [hC_str, sC_beq]
  | .comp f as, .comp g bs => by
    rw [tord]
    unfold toD
    show ((f == g : Bool) && PyData.eqvAll (toDs as) (toDs bs)) = _
    rw [eqv_toDs as bs, sC_beq]
    by_cases e1 : intC (as.length : Int) (bs.length : Int) = 0
    · have := intC_ok.eq _ _ e1
      rw [if_pos e1, decide_eq_true (show as.length = bs.length by omega), Bool.true_and]
      by_cases e2 : sC f g = 0
      · rw [if_pos e2, decide_eq_true e2, Bool.true_and]
      · rw [if_neg e2, decide_eq_false e2, Bool.false_and]
    · have hl : ¬ as.length = bs.length := fun z => e1 (by rw [z]; exact intC_ok.refl _)
      rw [if_neg e1, decide_eq_false e1, decide_eq_false hl, Bool.false_and, Bool.and_false]
  | .var i, .int j => by rw [decide_eq_false (show tord (.var i) (.int j) ≠ 0 from hC_rank (by simp [rank]))]; rfl
  | .var i, .atom j => by rw [decide_eq_false (show tord (.var i) (.atom j) ≠ 0 from hC_rank (by simp [rank]))]; rfl
  | .var i, .comp g bs => by
    rw [decide_eq_false (show tord (.var i) (.comp g bs) ≠ 0 from hC_rank (by simp [rank]))]
    unfold toD
    rfl
  | .int i, .var j => by rw [decide_eq_false (show tord (.int i) (.var j) ≠ 0 from hC_rank (by simp [rank]))]; rfl
  | .int i, .atom j => by rw [decide_eq_false (show tord (.int i) (.atom j) ≠ 0 from hC_rank (by simp [rank]))]; rfl
  | .int i, .comp g bs => by
    rw [decide_eq_false (show tord (.int i) (.comp g bs) ≠ 0 from hC_rank (by simp [rank]))]
    unfold toD
    rfl
  | .atom i, .var j => by rw [decide_eq_false (show tord (.atom i) (.var j) ≠ 0 from hC_rank (by simp [rank]))]; rfl
  | .atom i, .int j => by rw [decide_eq_false (show tord (.atom i) (.int j) ≠ 0 from hC_rank (by simp [rank]))]; rfl
  | .atom i, .comp g bs => by
    rw [decide_eq_false (show tord (.atom i) (.comp g bs) ≠ 0 from hC_rank (by simp [rank]))]
    unfold toD
    rfl
  | .comp g bs, .var j => by
    rw [decide_eq_false (show tord (.comp g bs) (.var j) ≠ 0 from hC_rank (by simp [rank]))]
    unfold toD
    rfl
  | .comp g bs, .int j => by
    rw [decide_eq_false (show tord (.comp g bs) (.int j) ≠ 0 from hC_rank (by simp [rank]))]
    unfold toD
    rfl
  | .comp g bs, .atom j => by
    rw [decide_eq_false (show tord (.comp g bs) (.atom j) ≠ 0 from hC_rank (by simp [rank]))]
    unfold toD
    rfl
theorem eqv_toDs : ∀ as bs : List Tm, PyData.eqvAll (toDs as) (toDs bs) = (decide (as.length = bs.length) && decide (tords as bs = 0))
  | [], [] => by simp [toDs, PyData.eqvAll, tords]
  | [], b :: bs => by simp [toDs, PyData.eqvAll]
  | a :: as, [] => by simp [toDs, PyData.eqvAll]
  | a :: as, b :: bs => by
    unfold toDs
    show (PyData.eqv (toD a) (toD b) && PyData.eqvAll (toDs as) (toDs bs)) = _
    rw [eqv_toD a b, eqv_toDs as bs, tords]
    have e : decide ((a :: as).length = (b :: bs).length) = decide (as.length = bs.length) := by simp
    rw [e]
    by_cases z : tord a b = 0
    · rw [if_pos z, decide_eq_true z, Bool.true_and]
    · rw [if_neg z, decide_eq_false z, Bool.false_and, Bool.and_false]
end
theorem tord_rank {s t : Tm} (h : rank s ≠ rank t) : tord s t = intC (rank s) (rank t) := by
  obtain ⟨x, e1⟩ := hcode_row s
  obtain ⟨y, e2⟩ := hcode_row t
  have e : tord s t = hC (hcode s) (hcode t) := by
    cases s <;> cases t <;> first | rfl | exact absurd rfl h
  rw [e, e1, e2, hC_tag' h]
theorem tord_var (i j : Int) : tord (.var i) (.var j) = intC i j := hC_two 0 i j
theorem tord_int (i j : Int) : tord (.int i) (.int j) = intC i j := hC_two 1 i j
theorem tord_atom (a b : Str) : tord (.atom a) (.atom b) = sC a b := hC_str a b
end Hm

set_option Elab.async false
set_option linter.all false
set_option maxHeartbeats 1000000
/-! bits of whole numbers, gcd by remainders, powers -/
namespace Hm
open PySem PyProof.Rows PySem.W
theorem bnot_bnot (x : Int) : Builtin.bitNot (Builtin.bitNot x) = x := by
  unfold Builtin.bitNot
  omega
theorem bor_and (x y : Int) : Builtin.bitAnd x y + Builtin.bitOr x y = x + y := by
  have h := bitXor_and x y
  unfold Builtin.bitXor at h
  omega
theorem bor_xor (x y : Int) : Builtin.bitOr x y - Builtin.bitAnd x y = Builtin.bitXor x y := rfl
theorem de_morgan (x y : Int) : Builtin.bitNot (Builtin.bitAnd x y) = Builtin.bitOr (Builtin.bitNot x) (Builtin.bitNot y) := by
  unfold Builtin.bitOr
  rw [bnot_bnot, bnot_bnot]
/-- the bits of y that x has not: what xor leaves of y -/
theorem xor_and : ∀ (n : Nat) (x y : Int), x.natAbs + y.natAbs ≤ n → Builtin.bitAnd (Builtin.bitXor x y) y = y - Builtin.bitAnd x y := by
  intro n
  induction n with
  | zero =>
    intro x y h
    have hx : x = 0 := by omega
    have hy : y = 0 := by omega
    subst hx
    subst hy
    decide
  | succ n ih =>
    intro x y h
    have ex := bitXor_and x y
    have hl := kbt_halves x y
    by_cases hb : (x = 0 ∨ x = -1) ∧ (y = 0 ∨ y = -1)
    · obtain ⟨rfl | rfl, rfl | rfl⟩ := hb <;> decide
    · have hx2 : (x / 2).natAbs + (y / 2).natAbs ≤ n := by omega
      have i2 := ih (x / 2) (y / 2) hx2
      have e2 := bitXor_and (x / 2) (y / 2)
      have hxor : Builtin.bitXor x y = 2 * Builtin.bitXor (x / 2) (y / 2) + (x + y) % 2 := by
        rw [ex, e2, hl]
        split <;> omega
      have hd : Builtin.bitXor x y / 2 = Builtin.bitXor (x / 2) (y / 2) := by omega
      have hm : Builtin.bitXor x y % 2 = (x + y) % 2 := by omega
      have h3 := kbt_halves (Builtin.bitXor x y) y
      rw [h3, hd, hm, i2, hl]
      split <;> split <;> omega
theorem xor_back (x y : Int) : Builtin.bitXor (Builtin.bitXor x y) y = x := by
  rw [bitXor_and (Builtin.bitXor x y) y, xor_and _ x y (Nat.le_refl _), bitXor_and x y]
  omega
theorem gcd_step (x y : Int) : Int.gcd y (x % y) = Int.gcd x y := by
  have h := Int.gcd_add_mul_right_right y (x % y) (x / y)
  rw [show x % y + x / y * y = x by rw [Int.mul_comm]; exact Int.emod_add_mul_ediv x y] at h
  rw [← h, Int.gcd_comm]
theorem gcd_stepF (x y : Int) : Int.gcd y (x.fmod y) = Int.gcd x y := by
  have h := Int.gcd_add_mul_right_right y (x.fmod y) (x.fdiv y)
  rw [show x.fmod y + x.fdiv y * y = x by rw [Int.mul_comm]; exact Int.fmod_add_mul_fdiv x y] at h
  rw [← h, Int.gcd_comm]
end Hm

set_option Elab.async false
set_option linter.all false
set_option maxRecDepth 100000
set_option maxHeartbeats 1000000
namespace Hm
open PySem PySem.Spec PyProof.Rows L2 HT
open Evl (Ex)
/-! ## objects of all sorts, by what is_term asks of them -/
inductive Od where
  | non
  | bl (b : Bool)
  | int (i : Int)
  | str (s : Str)
  | lst
  | dic
  | tup (ds : List Od)
mutual
def sizeD : Od → Nat
  | .non => 1
  | .bl _ => 1
  | .int _ => 1
  | .str s => 1 + s.length
  | .lst => 1
  | .dic => 1
  | .tup ds => 1 + sizesD ds
def sizesD : List Od → Nat
  | [] => 0
  | d :: ds => sizeD d + sizesD ds
end
mutual
inductive OdAt (K : PySem.W.Frag) (H : Hp) : V → Od → Prop
  | non : OdAt K H .non .non
  | bl (b : Bool) : OdAt K H (.bl b) (.bl b)
  | int (i : Int) : OdAt K H (.int i) (.int i)
  | str (s : Str) : OdAt K H (.str s) (.str s)
  | lst {a : Addr} {xs : List V} : SqL K H a xs → OdAt K H (.ref a) .lst
  | dic {a : Addr} {kvs : List (Key × V)} : H a = some (.dK kvs) → OdAt K H (.ref a) .dic
  | tup {a : Addr} {xs : List V} {ds : List Od} : SqT K H a xs → OdAll K H xs ds → OdAt K H (.ref a) (.tup ds)
inductive OdAll (K : PySem.W.Frag) (H : Hp) : List V → List Od → Prop
  | nil : OdAll K H [] []
  | cons {v : V} {vs : List V} {d : Od} {ds : List Od} : OdAt K H v d → OdAll K H vs ds → OdAll K H (v :: vs) (d :: ds)
end
def signOk (c : Nat) : Bool := decide (32 ≤ c ∧ c ≤ 126 ∧ c ≠ 37)
def atomD : Od → Bool
  | .str s => decide (s.length ≤ 40) && s.cps.toList.all signOk
  | _ => false
def intD : Od → Bool
  | .int _ => true
  | _ => false
def numD : Od → Bool
  | .int i => decide (0 ≤ i)
  | _ => false
def partD : Od → Bool
  | .int i => decide (-tooGreat < i) && decide (i < tooGreat)
  | .tup ds => match ds with
    | [] => false
    | [x] => numD x
    | x :: y :: r => decide (r.length ≤ 7) && atomD x
  | d => atomD d
def argsD : Od → List Od
  | .tup (_ :: ds) => ds
  | _ => []
mutual
def isT : Od → Bool
  | .non => false
  | .bl _ => false
  | .int i => decide (-tooGreat < i) && decide (i < tooGreat)
  | .str s => atomD (.str s)
  | .lst => false
  | .dic => false
  | .tup ds => partD (.tup ds) && isTq true ds
/-- all of them, or all but the first -/
def isTq : Bool → List Od → Bool
  | _, [] => true
  | true, _ :: ds => isTq false ds
  | false, d :: ds => isT d && isTq false ds
end
abbrev isTs (ds : List Od) : Bool := isTq false ds
theorem isTs_nil : isTs [] = true := rfl
theorem isTs_cons (d : Od) (ds : List Od) : isTs (d :: ds) = (isT d && isTs ds) := rfl
theorem isT_eq : ∀ d : Od, isT d = (partD d && isTs (argsD d))
  | .tup [] => rfl
  | .tup (x :: ds) => rfl
  | .non => rfl
  | .bl b => rfl
  | .int b => (Bool.and_true _).symm
  | .str b => (Bool.and_true _).symm
  | .lst => rfl
  | .dic => rfl
theorem isTs_app : ∀ xs ys : List Od, isTs (xs ++ ys) = (isTs xs && isTs ys)
  | [], ys => by rw [isTs_nil, Bool.true_and]; rfl
  | x :: xs, ys => by
    show isTs (x :: (xs ++ ys)) = _
    rw [isTs_cons, isTs_cons, isTs_app xs ys, Bool.and_assoc]
theorem sizesD_app : ∀ xs ys : List Od, sizesD (xs ++ ys) = sizesD xs + sizesD ys
  | [], ys => by rw [sizesD, Nat.zero_add]; rfl
  | x :: xs, ys => by
    show sizesD (x :: (xs ++ ys)) = _
    rw [sizesD, sizesD, sizesD_app xs ys, Nat.add_assoc]
theorem sizeD_pos : ∀ d : Od, 1 ≤ sizeD d
  | .non => Nat.le_refl _
  | .bl _ => Nat.le_refl _
  | .int _ => Nat.le_refl _
  | .str _ => Nat.le_add_right _ _
  | .lst => Nat.le_refl _
  | .dic => Nat.le_refl _
  | .tup _ => Nat.le_add_right _ _
theorem sizeD_args : ∀ d : Od, 1 + sizesD (argsD d) ≤ sizeD d
  | .tup [] => by rw [sizeD]; exact Nat.le_refl _
  | .tup (x :: ds) => by
    rw [sizeD, sizesD]
    show 1 + sizesD ds ≤ _
    omega
  | .non => sizeD_pos _
  | .bl b => sizeD_pos _
  | .int b => sizeD_pos _
  | .str b => sizeD_pos _
  | .lst => sizeD_pos _
  | .dic => sizeD_pos _
theorem len_sizesD : ∀ ds : List Od, ds.length ≤ sizesD ds
  | [] => Nat.zero_le _
  | d :: ds => by
    have h1 := len_sizesD ds
    have h2 := sizeD_pos d
    rw [sizesD, List.length_cons]
    omega
section
variable {K : PySem.W.Frag} {H : Hp}
/-- what an object that changes may do: lists and dicts stay such -/
structure Kind (K : PySem.W.Frag) (H H' : Hp) : Prop where
  t : Tups K H H'
  l : ∀ a xs, SqL K H a xs → ∃ ys, SqL K H' a ys
  d : ∀ a kvs, H a = some (.dK kvs) → ∃ ls, H' a = some (.dK ls)
theorem Kind.of {H H' : Hp} (e : Ex H H') : Kind K H H' := ⟨Tups.of e, fun a xs h => ⟨xs, Evl.ex_l e h⟩, fun a kvs h => ⟨kvs, e _ _ h⟩⟩
theorem Kind.trans {H H1 H2 : Hp} (p : Kind K H H1) (q : Kind K H1 H2) : Kind K H H2 := ⟨p.t.trans q.t, fun a xs h => (p.l a xs h).elim fun ys z => q.l a ys z, fun a xs h => (p.d a xs h).elim fun ys z => q.d a ys z⟩
theorem Kind.lst {H : Hp} {a : Addr} {xs ys : List V} (h : H a = some (.lst xs)) : Kind K H (upd H a (.lst ys)) := ⟨Tups.lst h, fun b zs z => by
  by_cases e : b = a
  · subst e
    exact ⟨ys, SqL.of upd_same⟩
  · rcases z with (z | ⟨o, z⟩) | z
    · exact ⟨zs, .inl (.inl (by rw [upd_ne e]; exact z))⟩
    · exact ⟨zs, .inl (.inr ⟨o, by rw [upd_ne e]; exact z⟩)⟩
    · exact ⟨zs, .inr z⟩, fun b kvs z => by
  by_cases e : b = a
  · subst e
    rw [h] at z
    cases z
  · exact ⟨kvs, by rw [upd_ne e]; exact z⟩⟩
mutual
theorem OdAt.mono {H H' : Hp} (m : Kind K H H') : ∀ {v : V} {d : Od}, OdAt K H v d → OdAt K H' v d
  | _, _, .non => .non
  | _, _, .bl b => .bl b
  | _, _, .int i => .int i
  | _, _, .str s => .str s
  | _, _, .lst h => (m.l _ _ h).elim fun ys z => .lst z
  | _, _, .dic h => (m.d _ _ h).elim fun ys z => .dic z
  | _, _, .tup h r => .tup (m.t _ _ h) (OdAll.mono m r)
theorem OdAll.mono {H H' : Hp} (m : Kind K H H') : ∀ {vs : List V} {ds : List Od}, OdAll K H vs ds → OdAll K H' vs ds
  | _, _, .nil => .nil
  | _, _, .cons h r => .cons (h.mono m) (OdAll.mono m r)
end
theorem OdAll.len : ∀ {vs : List V} {ds : List Od}, OdAll K H vs ds → ds.length = vs.length
  | _, _, .nil => rfl
  | _, _, .cons _ r => by rw [List.length_cons, List.length_cons, OdAll.len r]
theorem OdAll.app : ∀ {vs ws : List V} {ds es : List Od}, OdAll K H vs ds → OdAll K H ws es → OdAll K H (vs ++ ws) (ds ++ es)
  | _, _, _, _, .nil, h => h
  | _, _, _, _, .cons a r, h => .cons a (OdAll.app r h)
theorem OdAll.last : ∀ {ds : List Od} {d : Od} {vs : List V}, OdAll K H vs (ds ++ [d]) → ∃ ws v, vs = ws ++ [v] ∧ OdAll K H ws ds ∧ OdAt K H v d
  | [], d, _, .cons h .nil => ⟨[], _, rfl, .nil, h⟩
  | x :: ds, d, _, .cons h r => by
    obtain ⟨ws, v, rfl, h1, h2⟩ := OdAll.last r
    exact ⟨_ :: ws, v, rfl, .cons h h1, h2⟩
/-- its type's name -/
def tyN : Od → String
  | .non => "NoneType"
  | .bl _ => "bool"
  | .int _ => "int"
  | .str _ => "str"
  | .lst => "list"
  | .dic => "dict"
  | .tup _ => "tuple"
theorem ty_od {v : V} {d : Od} (h : OdAt K H v d) : TyX K H v (.type (tyN d)) := by
  cases h with
  | non => exact .base .non
  | bl b => exact .base (.bl b)
  | int i => exact .base (.int i)
  | str s => exact .base (.str s)
  | lst h =>
    rcases h with (h | ⟨o, h⟩) | ⟨o, its, n, h1, h2, _⟩
    · exact .base (.lst h)
    · exact .base (.frz h)
    · exact .kList h1 h2
  | dic h => exact .base (.dK h)
  | tup h _ =>
    rcases h with (h | ⟨o, h⟩) | ⟨o, its, n, h1, h2, _⟩
    · exact .base (.tup h)
    · exact .fTuple h
    · exact .kTuple h1 h2
end
/-! ### terms among them -/
mutual
def odT : Tm → Od
  | .var k => .tup [.int k]
  | .int i => .int i
  | .atom s => .str s
  | .comp f as => .tup (.str f :: odTs as)
def odTs : List Tm → List Od
  | [] => []
  | t :: ts => odT t :: odTs ts
end
theorem odTs_len : ∀ ts : List Tm, (odTs ts).length = ts.length
  | [] => rfl
  | t :: ts => by rw [odTs, List.length_cons, List.length_cons, odTs_len ts]
mutual
theorem od_rep {K : PySem.W.Frag} {H : Hp} : ∀ {t : Tm} {v : V}, Rep K H t v → OdAt K H v (odT t)
  | .var k, v, h => by
    unfold Rep at h
    obtain ⟨a, rfl, hT⟩ := h
    exact .tup hT (.cons (.int k) .nil)
  | .int i, v, h => by
    unfold Rep at h
    subst h
    exact .int i
  | .atom s, v, h => by
    unfold Rep at h
    subst h
    exact .str s
  | .comp f as, v, h => by
    unfold Rep at h
    obtain ⟨a, vs, rfl, hT, hA⟩ := h
    exact .tup hT (.cons (.str f) (od_reps hA))
theorem od_reps {K : PySem.W.Frag} {H : Hp} : ∀ {ts : List Tm} {vs : List V}, Reps K H ts vs → OdAll K H vs (odTs ts)
  | [], vs, h => by
    rw [h.nil_inv]
    exact .nil
  | t :: ts, vs, h => by
    obtain ⟨v, ws, rfl, h1, h2⟩ := h.cons_inv
    exact .cons (od_rep h1) (od_reps h2)
end
theorem atomD_ok {s : Str} (h : AtomOk s) : atomD (.str s) = true := by
  show (decide (s.length ≤ 40) && s.cps.toList.all signOk) = true
  rw [decide_eq_true (show s.length ≤ 40 from h.1), Bool.true_and, List.all_eq_true]
  exact fun c hc => decide_eq_true (h.2 c hc)
theorem atomD_is {s : Str} (h : atomD (.str s) = true) : AtomOk s := by
  have h' : (decide (s.length ≤ 40) && s.cps.toList.all signOk) = true := h
  rw [Bool.and_eq_true, List.all_eq_true] at h'
  exact ⟨of_decide_eq_true h'.1, fun c hc => of_decide_eq_true (h'.2 c hc)⟩
mutual
theorem isT_tm : ∀ {t : Tm}, Ok t → isT (odT t) = true
  | .var k, h => by
    unfold Ok at h
    show (decide (0 ≤ k) && true) = true
    rw [decide_eq_true h]
    rfl
  | .int i, h => by
    unfold Ok at h
    show (decide (-tooGreat < i) && decide (i < tooGreat)) = true
    rw [decide_eq_true h.1, decide_eq_true h.2]
    rfl
  | .atom s, h => by
    unfold Ok at h
    exact atomD_ok h
  | .comp f as, h => by
    unfold Ok at h
    obtain ⟨h1, h2, h3, h4⟩ := h
    show (partD (.tup (.str f :: odTs as)) && isTs (odTs as)) = true
    rw [isTs_tm h4, Bool.and_true]
    match as, h2, h3 with
    | a :: as, _, h3 =>
      show (decide ((odTs as).length ≤ 7) && atomD (.str f)) = true
      rw [atomD_ok h1, odTs_len, decide_eq_true (by rw [List.length_cons] at h3; omega)]
      rfl
theorem isTs_tm : ∀ {ts : List Tm}, Oks ts → isTs (odTs ts) = true
  | [], _ => rfl
  | t :: ts, h => by
    rw [oks_cons] at h
    show (isT (odT t) && isTs (odTs ts)) = true
    rw [isT_tm h.1, isTs_tm h.2]
    rfl
end
mutual
theorem sizeD_tm : ∀ {t : Tm}, Ok t → sizeD (odT t) ≤ 42 * size t
  | .var k, _ => by show 1 + (1 + 0) ≤ 42 * 1; decide
  | .int i, _ => by show 1 ≤ 42 * 1; decide
  | .atom s, h => by
    unfold Ok at h
    have h1 : s.length ≤ 40 := h.1
    show 1 + s.length ≤ 42 * 1
    omega
  | .comp f as, h => by
    unfold Ok at h
    have h1 : f.length ≤ 40 := h.1.1
    have h2 := sizesD_tm h.2.2.2
    show 1 + (1 + f.length + sizesD (odTs as)) ≤ 42 * size (.comp f as)
    rw [size]
    omega
theorem sizesD_tm : ∀ {ts : List Tm}, Oks ts → sizesD (odTs ts) ≤ 42 * sizes ts
  | [], _ => by rw [odTs, sizesD]; exact Nat.zero_le _
  | t :: ts, h => by
    rw [oks_cons] at h
    have h1 := sizeD_tm h.1
    have h2 := sizesD_tm h.2
    rw [odTs, sizesD, sizes_cons]
    omega
end
end Hm

set_option Elab.async false
set_option linter.all false
set_option maxRecDepth 100000
set_option maxHeartbeats 2000000
/-! defs that are called where no repr is under way: what they promise may speak of repr of data -/
namespace RG
open PySem PySem.Spec PyProof.Rows L2
/-- no object is being shown -/
abbrev Free (A : Around) : Prop := A.guards = some []
/-- a promise that holds where no object is being shown -/
structure FnG (P : Program) (w : World) (K : PySem.W.Frag) (mg : Str → Option Value) (base : Heap) (CC : CXT) (k : Nat) (f : Addr) (fd : FuncData) (ps : List Str) (sp : Sp) : Prop where
  arity : ∀ us H Q E, sp us H Q E → us.length = ps.length
  go : ∀ (B : Around) (es : List Env) (st : Shared) (H : Hp) (as : Args) (xs : List Value) (us : List V) (Q : VK) (E : XK), Free B → Room k B → Env0 P w K mg base B es st H → BindsTo st fd as (ps.zip xs) → Vals us xs → sp us H Q E →
    codeAny (model P w) B (.call (.ref f) as) (CR CC es P w H st Q E) st
section
variable {P : Program} {w : World} {K : PySem.W.Frag} {mg : Str → Option Value} {base : Heap}
theorem free_deeper {A : Around} {e : Env} (h : Free A) : Free (A.deeper e) := h
theorem fn_free {CC : CXT} {k : Nat} {f : Addr} {nm qual : Str} {pars : Arguments} {body : List Stmt} {sc : Scope} {dV kV doc pm cdv ct oc : Value} {an od : Option Addr} {osl : Array (Option Value)} {N ps : List Str} {sp : Sp}
    (lk : K.lookup f = some ⟨oc, od, .func (PySem.W.fnOf nm qual pars body sc dV kV doc pm an cdv ct), osl⟩) (hcd : PySem.W.codeIn K cdv qual = true) (S : FnScope N ps sc) (len : ∀ us H Q E, sp us H Q E → us.length = ps.length)
    (hb : ∀ (B : Around) (es : List Env) (st : Shared) (H : Hp) (us : List V) (Q : VK) (E : XK), Free B → Room k (B.deeper (envOfC qual sc st.heap.objs.size f cdv)) → sp us H Q E →
      ∃ t, PSs (cxOf CC P w K mg base N qual sc f cdv B es st H E) body t ∧ t { nx := fun _ G => Q .non G, rt := Q } (start N us) H) :
    FnG P w K mg base CC (k + 1) f (PySem.W.fnOf nm qual pars body sc dV kV doc pm an cdv ct) ps sp where
  arity := len
  go := by
    intro B es st H as xs us Q E hF hR he hB hV hs
    have n1 := len us H Q E hs
    have inK : K.In st.heap := he.mod.kin.keeps fun b o z => (he.bs b o z).1
    have noL : st.heap.NoLimit := he.mod.nolimit.keeps fun b o z => (he.bs b o z).1
    have kinds : ∀ y ∈ ps.zip xs, sc.names.lookup y.1 = some .local ∨ (sc.names.lookup y.1 = some .cell ∧ ((cellsFrom (st.heap.objs.size + 1) sc.names []).lookup y.1).isSome = true) := by
      rintro ⟨z, u⟩ hz
      cases S.par z (List.of_mem_zip hz).1 with
      | inl c => exact .inl c
      | inr c => exact .inr ⟨c, PySem.W.cellsFrom_some _ _ _ (.inl c)⟩
    apply codeAny_call_function hR.depth (inK _ _ lk) rfl S.co S.gen rfl (PySem.W.codeRec_of inK hcd)
    apply hB
    apply wpAny_newFunctionEnv_cells S.kind kinds
    intro env hE s1 hx
    subst hE
    refine ⟨noL.keeps hx.toInCall.keep, codeAny_func ?_⟩
    obtain ⟨t, hT, hQ⟩ := hb B es st H us Q E hF (hR.deeper _) hs
    have J := inv_start (CX := CC) (E := E) S hR.hd he n1 hV hx
    refine wpAny_mono (hT.run [] s1 (start N us) H _ J hQ) ?_ (fun _ _ z => z)
    rintro (_ | _ | _ | u) s2 h2
    · obtain ⟨σ, G, I2, q⟩ := h2
      exact ⟨.non, G, I2.os, I2.bare, I2.base, I2.hok, rfl, q⟩
    · exact h2.elim fun _ z => z.elim fun _ z => z.2.elim
    · exact h2.elim fun _ z => z.elim fun _ z => z.2.elim
    · obtain ⟨v, σ, G, I2, r, q⟩ := h2
      exact ⟨v, G, I2.os, I2.bare, I2.base, I2.hok, r, q⟩
theorem Fun.free {x qual : Str} {st : Stmt} {f : Addr} {fd : FuncData} {N ps : List Str} {k : Nat} {sp : Sp} (F : Fun K x qual st f fd) (S : FnScope N ps (defScope st)) (len : ∀ us H Q E, sp us H Q E → us.length = ps.length)
    (hb : ∀ (cdv : Value) (B : Around) (es : List Env) (s0 : Shared) (H : Hp) (us : List V) (Q : VK) (E : XK), Free (B.deeper (envOfC qual (defScope st) s0.heap.objs.size f cdv)) → Room k (B.deeper (envOfC qual (defScope st) s0.heap.objs.size f cdv)) → sp us H Q E →
      ∃ t, PSs (cxOf CX0 P w K mg base N qual (defScope st) f cdv B es s0 H E).nox (defBody st) t ∧ t { nx := fun _ G => Q .non G, rt := Q } (start N us) H) : FnG P w K mg base CX0 (k + 1) f fd ps sp := by
  obtain ⟨_, _, _, _, _, _, cdv, _, _, rfl, lk, hcd⟩ := F.ex
  exact fn_free lk hcd S len fun B es s0 H us Q E h1 h2 h3 => (hb cdv B es s0 H us Q E h1 h2 h3).elim fun t z => ⟨t, z.1.nox, z.2⟩
theorem FnG.of {CC : CXT} {k : Nat} {f : Addr} {fd : FuncData} {ps : List Str} {sp : Sp} (F : FnOk P w K mg base CC k f fd ps sp) : FnG P w K mg base CC k f fd ps sp := ⟨F.len, fun B es st H as xs us Q E _ h1 h2 h3 h4 h5 => F.run B es st H as xs us Q E h1 h2 h3 h4 h5⟩
end
/-- f(..), where nothing is being shown -/
theorem pe_callG {X : Cx} {CC : CXT} {k : Nat} {f : Addr} {fd : FuncData} {ps : List Str} {sp : Sp} {ws : List V} {ds : List Value} {E : XK} {x : Str} {p pos : Pos} {e : Expr} {es : List Expr} {t : TA}
    (F : FnG X.prog X.w X.K X.mg X.base CC k f fd ps sp) (free : Free X.A) (room : Room k X.A) (gl : Gl X x) (at_ : X.mg x = some (.ref f)) (kp : PySem.W.keepIn X.K (.ref f) = true) (bi : Binds X.K fd ps ds) (dv : Vals ws ds) (out : Passes CC X E) (ar : PA X (e :: es) t)
    (nd : (x == ("__debug__" : Str)) = false := by decide) (se : starEach (e :: es) X.env = (false, eval e X.env) :: starEach es X.env := by rfl) (pl : (backTo pos (starEach es X.env)).any (·.1) = false := by rfl) : PE X (.Call (.Name x p) (e :: es) [] pos) (tCall sp ws E t) where
  run := by
    intro pins s σ H Q I h
    apply wpAny_Call_Name_kw
    apply ld_glob I gl at_ _ nd
    apply PySem.W.callWith_K (h₀ := X.base) I.ok.mod.kin kp _ se pl
    refine thn (ar.run pos pins s σ H _ I h) fun us s1 ⟨vs, H1, J, r, q⟩ => ⟨J.kIn, ?_⟩
    have rr := r.append dv
    have n1 := (rr.length).symm.trans (F.arity _ _ _ _ q)
    apply wpAny_call
    refine codeAny_mono (F.go X.A X.stack s1 H1 ⟨us, []⟩ (us ++ ds) (vs ++ ws) Q E free room J.env0 (bi s1 us J.kIn n1) rr q) ?_
    rintro (er | (_ | _ | _ | u)) s2 h2
    · exact out pins σ H1 s1 er s2 J h2
    · exact h2.elim
    · exact h2.elim
    · exact h2.elim
    · exact J.after h2
end RG

set_option Elab.async false
set_option linter.all false
set_option maxRecDepth 100000
set_option maxHeartbeats 2000000
/-! an error of the program's own, whose __init__ calls that of its base by the base's name, and that has one field -/
namespace RG
open PySem PySem.Spec PyProof.Rows L2
/-- the base class: its __init__ is ValueError's -/
structure BaseE (K : PySem.W.Frag) (mg : Str → Option Value) (x : Str) (B : Addr) : Prop where
  at_ : mg x = some (.ref B)
  rd : PySem.W.readsIn K B (.type "type") = true
  ga : PySem.W.specialIn K (.ref B) "__getattribute__" = some (some (.builtin "type.__getattribute__"))
  ini : PySem.W.findCls K (.ref B) (.type "type") "__init__" = some (.val (.builtin "ValueError.__init__"))
/-- Base.__init__(self, ..) -/
theorem pe_hinit {X : Cx} {x : Str} {B : Addr} {e : Expr} {es : List Expr} {ta : TA} {p1 p2 pos : Pos} {pl : Sem Bool} (T : BaseE X.K X.mg x B) (gl : Gl X x) (ar : PA X (e :: es) ta) (nd : (x == ("__debug__" : Str)) = false := by decide)
    (ev : eval (.Call (.Attribute (.Name x p1) "__init__" p2) (e :: es) [] pos) X.env = (do
      let cv ← eval (.Name x p1) X.env
      standAt p2.atName
      let (g, fst) ← holding [cv] (getMethod cv "__init__" pl)
      callWith pos g fst (backTo pos (starEach (e :: es) X.env)) (backToKw pos (keywordEach [] X.env))) := by rfl)
    (se : starEach (e :: es) X.env = (false, eval e X.env) :: starEach es X.env := by rfl) (pn : (backTo pos (starEach es X.env)).any (·.1) = false := by rfl) :
    PE X (.Call (.Attribute (.Name x p1) "__init__" p2) (e :: es) [] pos) (tVeI X.K ta) where
  run := by
    intro pins s σ H Q I h
    refine PySem.W.methodCall_KW (ld_glob I gl T.at_ ?_ nd) ev
    refine PySem.W.method_cls I.kIn T.ga (PySem.W.cls_value I.kIn T.rd T.ini (by decide +kernel) ?_)
    show wpAny _ _ (callWith pos (Value.builtin "ValueError.__init__") [] (backTo pos (starEach (e :: es) X.env)) []) _ _ _
    refine PyProof.Rows.callWith_method1 (thn (ar.run pos pins _ σ H _ (I.tok _) h) fun us s1 z => ?_) se pn
    obtain ⟨vs, H1, J, rv, a, C, ws, rfl, few, oe, ha, q⟩ := z
    cases rv with
    | @cons _ u _ ur ra rr =>
      cases (ra : u = Value.ref a)
      have n1 : ur.length ≤ sizeLine := Nat.le_trans (Nat.le_of_eq (Paired.length rr).symm) (Nat.le_trans few (by decide))
      exact oinit_ok oe J ha n1 fun s2 J2 => ⟨.non, H1, J2, rfl, q⟩
/-- what the text says of an error class with one field -/
structure ErrE (K : PySem.W.Frag) (mg : Str → Option Value) (x f : Str) (C fI : Addr) : Prop where
  at_ : mg x = some (.ref C)
  oex : OexC K C
  xf : XfC K C
  noF : PySem.W.findIn K (.ref C) f = some none
  iC : PySem.W.findIn K (.ref C) "__init__" = some (some (.ref fI))
  tI : PySem.W.typeIn K (.ref fI) = some (.type "function")
  ex : PySem.W.exmOne K (.ref C) (.ref C) = some true
/-- what __init__(self, v) does -/
def spIni (C : Addr) (f : Str) : Sp := fun vs H Q _ => ∃ (a : Addr) (v : V), vs = [.ref a, v] ∧ H a = some (exo a C none) ∧ ∀ d, H d = none → d ≠ a → Q .non (upd (upd H d (exd d [(f, v)])) a (exo a C (some d)))
/-- how such an error comes: its dict is new and holds the field, all that was stands -/
def Comes (C : Addr) (f : Str) (v : V) (H : Hp) (E : XK) : Prop := ∀ d H', H d = none → Evl.Ex H H' → H' d = some (.xd [(f, v)]) → E (.ref C) (some d) H'
theorem made_err {C : Addr} {f : Str} {v : V} {H : Hp} {Q : XK} (q : ∀ d H', H d = none → Evl.Ex H H' → H' d = some (.xd [(f, v)]) → Q (.ref C) (some d) H') : ([v].length ≤ 1000 ∧ ∀ a, H a = none → spIni C f (.ref a :: ([v] ++ [])) (upd H a (exo a C none))
    (fun u H2 => u = .non ∧ ∃ (d : Addr) (fs : List (Str × V)), H2 a = some (exo a C (some d)) ∧ H2 d = some (exd d fs) ∧ H d = none ∧ Q (.ref C) (some d) (upd (del H2 a) d (.xd fs))) (fun _ _ _ => False)) := by
  refine ⟨by simp, fun a ha => ⟨a, v, rfl, upd_same, fun d hd ne => ⟨rfl, d, _, upd_same, ?_, ?_, q d _ ?_ ?_ upd_same⟩⟩⟩
  · rw [upd_ne ne, upd_same]
  · rw [upd_ne ne] at hd
    exact hd
  · rw [upd_ne ne] at hd
    exact hd
  · intro b o hb
    rw [upd_ne ne] at hd
    have n1 : b ≠ d := fun z => by subst z; rw [hd] at hb; cases hb
    have n2 : b ≠ a := fun z => by subst z; rw [ha] at hb; cases hb
    rw [upd_ne n1, del_ne n2, upd_ne n2, upd_ne n1, upd_ne n2]
    exact hb
/-- isinstance(e, c), e the error with a dict that the suite holds -/
structure IsE (K : PySem.W.Frag) (D : Addr) : Prop where
  cl : (PySem.W.clsIn K D).isSome = true
  hg : PySem.W.findIn K (.ref D) "__getattribute__" = some (some (.builtin "BaseException.__getattribute__"))
  hk : PySem.W.findIn K (.ref D) "__getattr__" = some none
  hs : PySem.W.subIn K (.ref D) (.type "BaseException") = some true
  ha : PySem.W.findIn K (.ref D) "__class__" = some (some (.builtin "object.__class__"))
  hn : PySem.W.specialIn K (.builtin "object.__class__") "__get__" = some (some (.builtin "getset_descriptor.__get__"))
  ht : PySem.W.takesIn K (.builtin "object.__class__") = some true
  hm : PySem.W.mroIn K D (.type "object") = some true
def rIsD (K : PySem.W.Frag) (D a : Addr) (cls : Value) (d : Option Addr) : List V → Hp → VK → Prop := fun xs H Q => ∃ (c : V) (cv : Value) (b : Bool) (dd : Addr) (fs : List (Str × V)), xs = [.ref a, c] ∧ (∀ u, RelV c u → u = cv) ∧ cls = .ref D ∧ d = some dd ∧ H dd = some (.xd fs) ∧ PySem.W.kitOne K (.ref D) cv = some b ∧ Q (.bl b) H
theorem call_isD {X : Cx} {a D : Addr} {cls : Value} {d : Option Addr} {oe : Obj} {pn : List (Addr × Obj)} (C : IsE X.K D) (hz : Zc cls d oe) (hf : ∃ vs, oe.data = .fields vs) : CallR (X.suite a ((a, oe) :: pn)) (.builtin "isinstance") (rIsD X.K D a cls d) := by
  intro pins s σ H xs us Q I r h
  obtain ⟨c, cv, b, dd, fs, rfl, hcv, rfl, rfl, hd, e, q⟩ := h
  obtain ⟨u1, u2, rfl, r1, r2⟩ := vals2 r
  cases (r1 : u1 = Value.ref a)
  cases hcv _ r2
  obtain ⟨at_, _⟩ := I.pin (a, oe) (List.mem_append_left _ List.mem_cons_self)
  obtain ⟨vs, hv⟩ := hf
  have hx : ObjOk X.prog X.w H s.heap dd (.xd fs) := I.hok dd _ hd
  obtain ⟨mA, hns, _⟩ := hx
  obtain ⟨od, ho, _⟩ := lookIn_ns hns
  have J : PySem.W.InstAt s.heap a oe D (some od) := ⟨at_, hz.1, by unfold PySem.W.notCls; rw [hv] <;> rfl, by rw [hz.2]; exact ho⟩
  exact PySem.W.kia_one (PySem.W.kitx_exc C.cl C.hg C.hk C.hs C.ha C.hn C.ht C.hm) I.kIn J e (fun z => nomatch z) fun tk => ⟨.bl b, H, I.kept (t' := tk) fun _ _ z => z, rfl, q⟩
end RG

set_option Elab.async false
set_option linter.all false
set_option maxRecDepth 100000
set_option maxHeartbeats 2000000
/-! repr of data -/
namespace RG
open PySem PySem.Spec PyProof.Rows L2
/-- repr(x), x data without dicts -/
def rReprD (K : PySem.W.Frag) : List V → Hp → VK → Prop := fun xs H Q => ∃ v d, xs = [v] ∧ Dp K H v d ∧ d.showable = true ∧ d.hasDict = false ∧ d.depth ≤ 60 ∧ d.shown.length ≤ sizeLine ∧ Q (.str d.shown) H
/-- the same, or an empty dict -/
def rReprE (K : PySem.W.Frag) : List V → Hp → VK → Prop := fun xs H Q => rReprD K xs H Q ∨ ∃ a, xs = [.ref a] ∧ H a = some (.dK []) ∧ Q (.str "{}") H
theorem call_reprD {X : Cx} (free : Free X.A) (hu : X.A.units + 64 < cLine) : CallR X (.builtin "repr") (rReprD X.K) := by
  intro pins s σ H xs us Q I r h
  obtain ⟨v, d, rfl, hd, hs, hn, hp, hl, q⟩ := h
  obtain ⟨u, rfl, rv⟩ := vals1 r
  obtain ⟨as, rd⟩ := Dp.reads I d v u hd rv
  cases hd with
  | non =>
    cases rv
    exact PySem.P.repr_of_none ⟨.str _, H, I.tok _, ⟨_, rfl⟩, q⟩
  | bl b =>
    cases rv
    exact PySem.P.repr_of_bool ⟨.str _, H, I.tok _, ⟨_, rfl⟩, q⟩
  | int i =>
    obtain ⟨t, rfl⟩ := rv
    exact PySem.P.repr_of_int (of_decide_eq_true hs) ⟨.str _, H, I.tok _, ⟨_, rfl⟩, q⟩
  | str x =>
    obtain ⟨t, rfl⟩ := rv
    exact PySem.P.repr_of_str ⟨.str _, H, I.tok _, ⟨_, rfl⟩, q⟩ hl
  | lst _ _ =>
    cases rv
    exact repr_of_reads' rd hs (fun z => by rw [hn] at z; cases z) free (by omega) (fun _ _ e => e) (fun h' u tk k => ⟨.str _, H, I.kept k, ⟨_, rfl⟩, q⟩) hl
  | tup _ _ =>
    cases rv
    exact repr_of_reads' rd hs (fun z => by rw [hn] at z; cases z) free (by omega) (fun _ _ e => e) (fun h' u tk k => ⟨.str _, H, I.kept k, ⟨_, rfl⟩, q⟩) hl
theorem call_reprE {X : Cx} (free : Free X.A) (hu : X.A.units + 64 < cLine) : CallR X (.builtin "repr") (rReprE X.K) := by
  intro pins s σ H xs us Q I r h
  rcases h with h | ⟨a, rfl, ha, q⟩
  · exact call_reprD free hu pins s σ H xs us Q I r h
  obtain ⟨u, rfl, rv⟩ := vals1 r
  cases rv
  obtain ⟨_, hn, vs, kv, o, es, ep, e1, ⟨e2, _⟩, e3, _, e4, _⟩ := I.hok a _ ha
  cases kv
  have n1 : es.toList = [] := List.length_eq_zero_iff.mp (by rw [Array.length_toList]; exact e4.length.trans rfl)
  have rd : Reads s.heap (.ref a) (.dict []) ([a] ++ [] ++ []) := Reads.dict e1 e2 e3 (by rw [n1]; exact ReadsAll.nil) (by rw [n1]; exact ReadsAll.nil)
  have ne : a ≠ sysModules := by simpa using hn
  exact repr_of_reads' rd rfl (fun _ z => ne (by simp at z; exact z.symm)) free (by show X.A.units + (1 + 1) < cLine; omega) (fun _ _ e => e) (fun h' u tk k => ⟨.str _, H, I.kept k, ⟨_, rfl⟩, q⟩) (by decide +kernel)
end RG

set_option Elab.async false
set_option linter.all false
set_option maxRecDepth 100000
set_option maxHeartbeats 2000000
/-! the end of a law whose defs show data: at the caller nothing is being shown -/
namespace RG
open PySem PySem.Spec PyProof.Rows L2
/-- the script's list -/
abbrev scr (vs : List Value) : Obj := { cls := .type "list", data := .seq vs.toArray }
/-- what is tracked at the start: the script, if it is not the module's -/
def trk0 (K : PySem.W.Frag) (a : Addr) (vs : List Value) (ns : List Int) : Hp := fun b => if b = a ∧ K.lookup a = none then some (.frz (scr vs) (.lst (ns.map V.int))) else none
theorem trk0_at {K : PySem.W.Frag} {a b : Addr} {vs : List Value} {ns : List Int} {u : HO} (h : trk0 K a vs ns b = some u) : b = a ∧ K.lookup a = none ∧ u = .frz (scr vs) (.lst (ns.map V.int)) := by
  unfold trk0 at h
  split at h
  · rename_i c
    cases h
    exact ⟨c.1, c.2, rfl⟩
  · cases h
theorem law_free {P : Program} {w : World} {K : PySem.W.Frag} {mg mb : Str → Option Value} {CC : CXT} {k : Nat} {fa a : Addr} {fd : FuncData} {x : Str} {sp : Sp} {st : Shared} {vs : List Value} {ns : List Int}
    (inK : K.In st.heap) (gl : st.heap.Ns mainGlobals mg) (bn : st.heap.Ns builtinsNs mb) (boot : ∀ y : Str, y ≠ "__name__" → mb y = bootBuiltins y) (noL : st.heap.NoLimit) (noG : st.gens = #[])
    (at_ : st.heap.get? a = some (scr vs)) (inz : IntsAre vs ns) (few : ns.length ≤ sizeLine) (room : Room k callerA)
    (F : ∀ base : Heap, K.In base → base.Ns mainGlobals mg → FnG P w K mg base CC k fa fd [x] sp) (bind : ∀ (s : Shared) (u : Value), BindsTo s fd ⟨[u], []⟩ [(x, u)])
    (told : ∀ H : Hp, SqL K H a (ns.map V.int) → sp [.ref a] H (fun v _ => v = .bl true) fun _ _ _ => False)
    (calm : ∀ H e s', CC [] H st (fun _ _ _ => False) e s' → False) :
    codeAny (model P w) callerA (.call (.ref fa) ⟨[.ref a], []⟩) (fun r s' => r = .ok (.ret (.bool true)) ∧ OldK st.heap s'.heap ∧ s'.os = st.os ∧ AllBare s'.gens) st := by
  have rv := vals_ints inz
  have hlen := inz.length
  let H := trk0 K a vs ns
  have hS : SqL K H a (ns.map V.int) := by
    cases e : K.lookup a with
    | none => exact .inl (.inr ⟨scr vs, if_pos ⟨rfl, e⟩⟩)
    | some o =>
      have e2 := inK a o e
      rw [at_] at e2
      cases e2
      exact .inr ⟨_, vs.toArray, _, e, rfl, rfl, rfl, by rw [List.size_toArray, hlen]; exact few, by simpa using rv⟩
  have hOk : HOk P w H st.heap := fun b u z => by
    obtain ⟨rfl, _, rfl⟩ := trk0_at z
    exact ⟨at_, by rw [List.length_map]; exact few, vs, _, rv, at_⟩
  have keepB : ∀ {b : Addr} {o : Obj}, st.heap.get? b = some o → H b = none → (hidT st.heap H).get? b = some o := fun e n => hidT_get e n
  have dicts : ∀ {b : Addr} {m : Str → Option Value}, st.heap.Ns b m → (hidT st.heap H).Ns b m := by
    rintro b m ⟨o, es, ep, e, d, r⟩
    refine ⟨o, es, ep, keepB e ?_, d, r⟩
    cases q : H b with
    | none => rfl
    | some u =>
      obtain ⟨rfl, _, _⟩ := trk0_at q
      rw [at_] at e
      cases e
      cases d
  have inB : K.In (hidT st.heap H) := fun b o e => keepB (inK b o e) (by
    cases q : H b with
    | none => rfl
    | some u =>
      obtain ⟨rfl, z, _⟩ := trk0_at q
      rw [z] at e
      cases e)
  obtain ⟨mc, c1, c2⟩ := noL
  have md : Mod K mg (hidT st.heap H) := ⟨inB, dicts gl, ⟨mb, dicts bn, boot⟩, mc, dicts c1, c2⟩
  have e0 : Env0 P w K mg (hidT st.heap H) callerA [] st H := {
    frames := rfl, mod := md, bs := fun b o e => of_hidT e, bsz := Nat.le_of_eq (hidT_size _ _), funs := trivial
    frf := fun b hb => (List.not_mem_nil hb).elim, hok := hOk, bare := .of_eq noG }
  refine codeAny_mono ((F _ inB (dicts gl)).go callerA [] st H ⟨[.ref a], []⟩ [.ref a] [.ref a] _ _ rfl room e0 (bind st (.ref a)) (.cons rfl .nil) (told H hS)) ?_
  rintro (er | (_ | _ | _ | u)) s2 h2
  · exact (calm H er s2 h2).elim
  · exact h2.elim
  · exact h2.elim
  · exact h2.elim
  · obtain ⟨v, G, ho, hb, un, ok2, r, rfl⟩ := h2
    cases (r : u = Value.bool true)
    refine ⟨rfl, OldK.of_keep fun b o e => ?_, ho, hb⟩
    cases q : H b with
    | none => exact un.keep b o e q (fun z => List.not_mem_nil z) (by simp)
    | some t =>
      obtain ⟨rfl, _, rfl⟩ := trk0_at q
      have z2 := un.frzs b (scr vs) _ q
      obtain ⟨k1, _⟩ := ok2 b _ z2
      rw [at_] at e
      cases e
      exact k1
/-- the goal that k_head leaves, from a law's promise where nothing is being shown -/
theorem walk_free {l : PySem.W.OpenLaw} {n k : Nat} {q : Program} {loose : List Str} {XP : (Str → Option Value) → Heap → Prop} {YP : World → Heap → Prop} {d : DefRec} {K : Params → PySem.W.Frag} {CC : World → CXT} {sp : World → Sp} {x : Str}
    (most : l.most = some n) (few : n ≤ sizeLine) (nodef : d.params.defaults = []) (room : Room k callerA) (inK : ∀ (w : World) (h : Heap), YP w h → (K w.params).In h)
    (F : ∀ (w : World) (mg : Str → Option Value) (fa : Addr) (h : Heap), (K w.params).In h → h.Ns mainGlobals mg → mg d.name = some (.ref fa) →
      ∃ fd : FuncData, (∀ (s : Shared) (u : Value), BindsTo s fd ⟨[u], []⟩ [(x, u)]) ∧ ∀ base : Heap, (K w.params).In base → base.Ns mainGlobals mg → FnG l.prog w (K w.params) mg base (CC w) k fa fd [x] (sp w))
    (told : ∀ (w : World) (H : Hp) (a : Addr) (ns : List Int), ns.length ≤ n → SqL (K w.params) H a (ns.map V.int) → sp w [.ref a] H (fun v _ => v = .bl true) fun _ _ _ => False)
    (calm : ∀ (w : World) (H : Hp) (s : Shared) (e : Value) (s' : Shared), CC w [] H s (fun _ _ _ => False) e s' → False) : PySem.W.WalkO q loose XP YP l.row.toRowW d [] (fun f vs => PySem.call f vs) := by
  apply Att.attach_call most nodef
  intro w s0 s1 mg mb fa o pm cd doc a vs ns G Y ho hd hcd hmg hob hin hle hgn
  obtain ⟨fd, hbi, hF⟩ := F w mg fa s1.heap (inK w _ Y) G.T.g hmg
  exact law_free (inK w _ Y) G.T.g G.T.b G.T.builtins G.T.nolimit hgn hob hin (Nat.le_trans hle few) room hF hbi (fun H hS => told w H a ns hle hS) fun H e s2 => calm w H s1 e s2
end RG

set_option Elab.async false
set_option linter.all false
set_option maxRecDepth 100000
set_option maxHeartbeats 1000000
namespace Hm
open PySem PySem.Spec PyProof.Rows L2 HT
open PySem.AutoSeq1 (wpAny_loadPart')
/-! list + list where the left one may be the script itself -/
theorem list_add_any (l b : Addr) (xs ys : Array Value) (n m : Nat) (sl : Array (Option Value)) (hz : xs.size + ys.size ≤ sizeLine) :
    Meets (Builtin.«list.__add__» ⟨[.ref l, .ref b], []⟩) fun _ R s =>
      s.heap.get? l = some { cls := .type "list", dict := none, data := .seq xs n, slots := sl } ∧
      s.heap.get? b = some { cls := .type "list", data := .seq ys m } ∧
      R (.ok (.ret (.ref s.heap.objs.size))) { s with heap := s.heap.push { cls := .type "list", data := .seq (xs ++ ys) } } := by
  refine .of_wp fun pr wo ar re st hh => ?_
  obtain ⟨heap, gens, drawn, toks, os⟩ := st
  obtain ⟨e1, e2, k⟩ := hh
  have q1 := AutoSeq1.idx_int
  have q2 := AutoSeq1.sub_tuple_tuple
  have q3 := AutoSeq1.sub_list_list
  have q4 := AutoSeq1.sub_tuple_list
  have q5 := AutoSeq1.sub_list_tuple
  wp_walk using wpAny_loadPart' e1, wpAny_loadPart' e2
  exact ⟨_, rfl, k⟩
def rCatL (K : PySem.W.Frag) : R2 := fun x y H Q => ∃ l b xs zs, x = .ref l ∧ y = .ref b ∧ SqL K H l xs ∧ H b = some (.lst zs) ∧ xs.length + zs.length ≤ sizeLine ∧ ∀ p, H p = none → Q (.ref p) (upd H p (.lst (xs ++ zs)))
theorem op_catL {X : Cx} : OpR X (binaryOp .Add) (rCatL X.K) := by
  intro pins s σ H x y v u Q I rx ry h
  obtain ⟨l, b, xs, zs, rfl, rfl, hH, hB, hz, q⟩ := h
  cases rx
  cases ry
  obtain ⟨its, r, ⟨o, n, e, h1, h2, h3⟩, hz1⟩ := I.list hH
  obtain ⟨z2, its2, n2, r2, hl2, e2⟩ := I.lstM hB
  have hlen := r.length
  have eo : o = { cls := .type "list", dict := none, data := .seq its.toArray n, slots := o.slots } := by
    cases o
    simp only at h1 h2 h3
    subst h1
    subst h2
    subst h3
    rfl
  rw [eo] at e
  refine concat_meets ⟨_, e, rfl⟩ ⟨_, e2, rfl⟩ noFill_list_add seq_list_add F.slot_list_add F.entry_list_add (F.args_list_add_2 _ _) (list_add_any l b its.toArray its2.toArray n n2 _ (by rw [List.size_toArray, List.size_toArray]; omega)) ⟨e, e2, ?_⟩
  have ea : its.toArray ++ its2.toArray = (its ++ its2).toArray := by simp
  rw [ea]
  exact ⟨.ref _, _, I.lnew (t' := s.toks) (r.append r2) (by rw [List.length_append]; omega), rfl, q _ I.fresh⟩
end Hm

set_option Elab.async false
set_option linter.all false
set_option maxRecDepth 100000
set_option maxHeartbeats 4000000
namespace Hm
open PySem PySem.Spec PyProof.Rows L2 HT
/-! t[:0:-1] of a tuple -/
section
variable {prog : Program} {w : World} {A : Around} {E : Value → Shared → Prop} {s : Shared}
theorem sliceApplied_back0 {sl : Addr} {n : Nat} {ti tj : Tok} {Q : Int × Int × Nat → Shared → Prop} (h1 : 1 ≤ n) (hs : s.heap.IsSliceOf sl .none (.int 0 tj) (.int (-1) ti))
    (h : Q ((n : Int) - 1, -1, n - 1) s) : wpAny (model prog w) A (Builtin.Slice.sliceApplied (.ref sl) (pure (n : Int))) Q E s := by
  obtain ⟨os, hos, hcs, hds⟩ := id hs
  unfold Builtin.Slice.sliceApplied Builtin.Slice.sliceFields
  refine wpAny_bind (wpAny_bind (wpAny_field hos hds (x := .none) rfl (wpAny_bind (wpAny_field hos hds (x := .int 0 tj) rfl (wpAny_bind (wpAny_field hos hds (x := .int (-1) ti) rfl (wpAny_pure ?_)))))))
  refine wpAny_bind (slicePart_ (.int (-1) ti) ?_)
  show wpAny _ _ (if ((-1 : Int) == 0) = true then _ else _) _ _ s
  rw [if_neg (by decide)]
  refine wpAny_bind (slicePart_ .none (wpAny_bind (slicePart_ (.int 0 tj) (wpAny_bind (wpAny_pure ?_)))))
  have e : Builtin.Slice.slicePlaces ((n : Int) - 1) 0 (-1) = n - 1 := by
    unfold Builtin.Slice.slicePlaces
    rw [if_neg (by decide)]
    by_cases hn : (n : Int) - 1 > 0
    · rw [if_pos hn]
      have : -(-1 : Int) = 1 := by decide
      rw [this, Int.ediv_one]
      omega
    · rw [if_neg hn]
      omega
  have ea : Builtin.Slice.sliceAdjust none (some 0) (-1) (n : Int) = ((n : Int) - 1, 0) := by
    unfold Builtin.Slice.sliceAdjust
    simp
    omega
  show wpAny _ _ (match Builtin.Slice.sliceAdjust none (some 0) (-1) (n : Int) with
    | (lo, hi) => pure (lo, (-1 : Int), Builtin.Slice.slicePlaces lo hi (-1))) _ _ s
  rw [ea]
  show wpAny _ _ (pure ((n : Int) - 1, (-1 : Int), Builtin.Slice.slicePlaces ((n : Int) - 1) 0 (-1))) _ _ s
  rw [e]
  exact wpAny_pure h
theorem pick_back0 (xs : List Value) : ((List.range (xs.toArray.size - 1)).filterMap fun (k : Nat) => xs.toArray[(((xs.toArray.size : Nat) : Int) - 1 + (k : Int) * -1).toNat]?).toArray = (xs.drop 1).reverse.toArray := by
  apply congrArg List.toArray
  have key : ∀ m : Nat, m ≤ xs.length → ((List.range m).filterMap fun (k : Nat) => xs[xs.length - 1 - k]?) = xs.reverse.take m := by
    intro m
    induction m with
    | zero => intro _; simp
    | succ m ih =>
      intro hm
      rw [List.range_succ, List.filterMap_append, ih (by omega), List.take_add_one]
      congr 1
      have hlt : xs.length - 1 - m < xs.length := by omega
      rw [List.getElem?_reverse (by omega)]
      simp [List.getElem?_eq_getElem hlt]
  have k2 := key (xs.length - 1) (by omega)
  have e2 : xs.reverse.take (xs.length - 1) = (xs.drop 1).reverse := by rw [List.take_reverse]; by_cases h : xs.length = 0
                                                                        · have := List.length_eq_zero_iff.mp h; subst this; rfl
                                                                        · rw [show xs.length - (xs.length - 1) = 1 by omega]
  rw [← e2, ← k2, List.size_toArray]
  refine fm_congr _ fun k hk => ?_
  have hk' : k < xs.length - 1 := List.mem_range.mp hk
  have e : (((xs.length : Nat) : Int) - 1 + (k : Int) * -1).toNat = xs.length - 1 - k := by omega
  rw [e]
  simp
theorem getItem_tuple_back0 {t sl : Addr} {items : List Value} {ti tj : Tok} {Q : Value → Shared → Prop} (h1 : 1 ≤ items.length) (ht : IsTup s.heap t items.toArray) (hs : s.heap.IsSliceOf sl .none (.int 0 tj) (.int (-1) ti))
    (h : Q (.ref s.heap.objs.size) { s with heap := s.heap.push { cls := .type "tuple", data := .seq (items.drop 1).reverse.toArray } })
    (hsz : items.length ≤ sizeLine) : wpAny (model prog w) A (getItem (.ref t) (.ref sl)) Q E s := by
  have htake : sizeOk (.seq (items.drop 1).reverse.toArray) := by
    show (items.drop 1).reverse.toArray.size ≤ sizeLine
    rw [List.size_toArray, List.length_reverse, List.length_drop]
    omega
  obtain ⟨os, hos, hcs, hds⟩ := id hs
  have hTs : s.TypeIs (.ref sl) "slice" := ⟨os, hos, hcs⟩
  unfold getItem
  try with_reducible refine wpAny_holding ?_
  first | refine wpAny_bind (wpAny_pure ?_) | skip
  refine wpAny_bind (wpAny_sequenceKey ht.typeIs (by decide) ?_)
  refine wpAny_bind (wpAny_callSpecial?_slot (name := Str.ofString "__getitem__") ht.typeIs PyProof.Rows.slot_tuple_getitem
    (wpAny_call_entry PyProof.Rows.slot_tuple_getitem ht.typeIs entry_tuple_getitem ?_ (args_tuple_getitem _ _)))
  show wpAny _ _ (Builtin.Tuple.tupleItemsOf (.ref t) >>= _) _ _ s
  refine wpAny_bind (tupleItemsOf_ ht ?_)
  refine wpAny_bind (wpAny_typeOf hTs ?_)
  rw [if_pos (by decide)]
  refine wpAny_bind (sliceApplied_back0 (by rw [List.size_toArray]; exact h1) hs ?_)
  have hno : ¬ ((((items.toArray.size : Nat) : Int) - 1 == 0 && (-1 : Int) == 1 && items.toArray.size - 1 == items.toArray.size) = true) := by
    intro q
    rw [Bool.and_eq_true, Bool.and_eq_true] at q
    exact absurd q.1.2 (by decide)
  show wpAny _ _ (if (((items.toArray.size : Nat) : Int) - 1 == 0 && (-1 : Int) == 1 && items.toArray.size - 1 == items.toArray.size) = true then _ else _) _ _ s
  rw [if_neg hno, pick_back0]
  first
    | exact wpAny_bind (m := Builtin.Tuple.tupleExact _) (wpAny_newObj_type (wpAny_pure ⟨_, rfl, wpAny_pure h⟩) htake)
    | exact wpAny_bind (m := Builtin.Tuple.tupleExact _) (wpAny_newObj_type (wpAny_bind (wpAny_pure (wpAny_pure ⟨_, rfl, wpAny_pure h⟩))) htake)
    | exact wpAny_bind (wpAny_bind (m := Builtin.Tuple.tupleExact _) (wpAny_newObj_type (wpAny_pure (wpAny_pure ⟨_, rfl, wpAny_pure h⟩)) htake))
    | exact wpAny_bind (wpAny_bind (m := Builtin.Tuple.tupleExact _) (wpAny_newObj_type (wpAny_pure ⟨_, rfl, wpAny_pure h⟩) htake))
end
/-- t[:0:-1] of a tuple: all but the first, the last one first -/
def tRevT0 (K : PySem.W.Frag) (te : TE) : TE := fun σ H Q => te σ H fun x H1 => ∃ a xs, x = .ref a ∧ SqT K H1 a xs ∧ 1 ≤ xs.length ∧ ∀ p, H1 p = none → Q (.ref p) (upd H1 p (.tup (xs.drop 1).reverse))
section
variable {X : Cx}
theorem pe_revT0 {e : Expr} {te : TE} {k : Nat} {p0 p1 p2 p3 pos : Pos} (he : PE X e te) : PE X (.Subscript e (.Slice none (some (.Constant (.int 0) k p0)) (some (.UnaryOp .USub (.Constant (.int 1) k p1) p2)) p3) pos) (tRevT0 X.K te) := by
  refine ⟨fun pins s σ H Q I h => ?_⟩
  refine Subscript_ (thn (he.run pins s σ H _ I h) fun v s1 ⟨x, H1, I1, r1, q1⟩ => ?_)
  obtain ⟨a, xs, ex, hx, h1, q⟩ := q1
  subst ex
  cases r1
  have hup : PO X (some (.Constant (.int 0) k p0)) (tPart (tC (.int 0))) := po_some pe_int
  have hst : PO X (some (.UnaryOp .USub (.Constant (.int 1) k p1) p2)) (tPart (tUn (rU fun i => .int (-i)) (tC (.int 1)))) := po_some (pe_un un_neg pe_int)
  refine wpAny_Slice (thn (po_none.run pins s1 σ H1 (fun o H2 => o = none ∧ H2 = H1) I1 ⟨rfl, rfl⟩) fun vl s2 ⟨l, H2, I2, pl, el, e2⟩ => ?_)
  subst el e2
  refine thn (hup.run pins s2 σ H2 (fun o H3 => o = some 0 ∧ H3 = H2) I2 ⟨0, rfl, rfl, rfl⟩) fun vu s3 ⟨u, H3, I3, pu, eu, e3⟩ => ?_
  subst eu e3
  refine thn (hst.run pins s3 σ H3 (fun o H4 => o = some (-1) ∧ H4 = H3) I3 ⟨1, rfl, -1, rfl, rfl, rfl⟩) fun vs s4 ⟨o, H4, I4, ps, eo, e4⟩ => ?_
  subst eo e4
  cases pl
  obtain ⟨tj, rfl⟩ : ∃ ti, vu = Value.int 0 ti := by
    cases pu
    exact ⟨_, rfl⟩
  obtain ⟨ti, rfl⟩ : ∃ ti, vs = Value.int (-1) ti := by
    cases ps
    exact ⟨_, rfl⟩
  have I5 : Inv X pins σ H4 { s4 with heap := s4.heap.push { cls := .type "slice", data := .fields #[Value.none, Value.int 0 tj, Value.int (-1) ti] } } := I4.kept (t' := s4.toks) fun b ob q => Heap.get?_push_of_some _ q
  obtain ⟨its, r, ht, hz⟩ := I5.tuple hx
  have hlen := r.length
  show wpAny (model X.prog X.w) X.A (subscriptTail e (.Slice none (some (.Constant (.int 0) k p0)) (some (.UnaryOp .USub (.Constant (.int 1) k p1) p2)) p3) (.ref a) (.ref s4.heap.objs.size)) (EP X pins σ Q) X.xe { s4 with heap := s4.heap.push { cls := .type "slice", data := .fields #[Value.none, Value.int 0 tj, Value.int (-1) ti] } }
  refine tail_any (ops := [.ref a, .ref s4.heap.objs.size]) ht.typeIs (PyProof.Rows.slot_tuple_getitem.lookup) ?_ (by with_unfolding_all rfl)
  refine getItem_tuple_back0 (by omega) ht (Heap.IsSliceOf.new _ Value.none (Value.int 0 tj) (Value.int (-1) ti)) ?_ (by rw [← hlen]; exact hz)
  refine ⟨.ref _, _, I5.laid (t' := s4.toks) (o := .tup (xs.drop 1).reverse) (fun b ob q => Heap.get?_push_of_some _ q) (Nat.le_refl _) ?_, rfl, q _ (I5.hok.fresh (Nat.le_refl _))⟩
  exact ⟨by rw [List.length_reverse, List.length_drop]; omega, _, (r.drop 1).reverse, IsTup.new _ _⟩
end
end Hm

set_option Elab.async false
set_option linter.all false
set_option maxRecDepth 100000
set_option maxHeartbeats 4000000
namespace Hm
open PySem PySem.Spec PyProof.Rows L2 HT
/-- a def of the text as it stands behind the top -/
structure Df (K : PySem.W.Frag) (mg : Str → Option Value) (x : Str) (st : Stmt) (ps : List Str) (ds : List Value) (f : Addr) (fd : FuncData) : Prop where
  F : Fun K x x st f fd
  b : Binds K fd ps ds
  m : mg x = some (.ref f)
theorem cl {X : Cx} {x : Str} {f : Addr} {fd : FuncData} {ps : List Str} {sp : Sp} {j k : Nat} {st : Stmt} {e : Expr} {es : List Expr} {t : TA} {p pos : Pos} (G : FnOk X.prog X.w X.K X.mg X.base CX0 k f fd ps sp) (D : Df X.K X.mg x st ps [] f fd) (hr : Room j X.A) (ha : PA X (e :: es) t)
    (hj : k ≤ j := by first | decide | omega) (hg : Gl X x := by rfl) (hd : (x == ("__debug__" : Str)) = false := by decide) (hs : starEach (e :: es) X.env = (false, eval e X.env) :: starEach es X.env := by rfl) (hst : (backTo pos (starEach es X.env)).any (·.1) = false := by rfl) : PE X (.Call (.Name x p) (e :: es) [] pos) (tCall sp [] E0 t) :=
  pe_call G (hr.mono hj) hg D.m D.F.kp D.b .nil pass0 ha (hdb := hd) (he := hs) (hpl := hst)
/-- a def with default values -/
structure DfD (K : PySem.W.Frag) (mg : Str → Option Value) (x : Str) (st : Stmt) (ps : List Str) (dvs : List V) (f : Addr) (fd : FuncData) : Prop where
  F : FunD K x x (defArgs st) (defBody st) (defScope st) dvs [] f fd
  m : mg x = some (.ref f)
  b : ∃ ds, Vals dvs ds ∧ Binds K fd ps ds
theorem cld {X : Cx} {x : Str} {f : Addr} {fd : FuncData} {ps : List Str} {sp : Sp} {j k : Nat} {st : Stmt} {dvs : List V} {e : Expr} {es : List Expr} {t : TA} {p pos : Pos} (G : FnOk X.prog X.w X.K X.mg X.base CX0 k f fd ps sp) (D : DfD X.K X.mg x st ps dvs f fd) (hr : Room j X.A) (ha : PA X (e :: es) t)
    (hj : k ≤ j := by first | decide | omega) (hg : Gl X x := by rfl) (hd : (x == ("__debug__" : Str)) = false := by decide) (hs : starEach (e :: es) X.env = (false, eval e X.env) :: starEach es X.env := by rfl) (hst : (backTo pos (starEach es X.env)).any (·.1) = false := by rfl) : PE X (.Call (.Name x p) (e :: es) [] pos) (tCall sp dvs E0 t) := by
  obtain ⟨ds, hv, hb⟩ := D.b
  exact pe_call G (hr.mono hj) hg D.m D.F.kp hb hv pass0 ha (hdb := hd) (he := hs) (hpl := hst)


def top (i : Nat) : Stmt := PySem.Challenge.pw_hornmill_k42_whole_laws_of_arithmetic.main.body.getD i (.Pass ⟨0, 0, 0, 0⟩)
abbrev s_is_integer : Stmt := top 8
theorem sc_is_integer : FnScope ["thing"] ["thing"] (defScope s_is_integer) := ⟨rfl, rfl, rfl, by decide +kernel, rfl, by decide +kernel, by decide +kernel⟩
abbrev s_is_sign : Stmt := top 9
theorem sc_is_sign : FnScope ["sign"] ["sign"] (defScope s_is_sign) := ⟨rfl, rfl, rfl, by decide +kernel, rfl, by decide +kernel, by decide +kernel⟩
abbrev s_is_atom : Stmt := top 10
theorem sc_is_atom : FnScope ["thing", "sign"] ["thing"] (defScope s_is_atom) := ⟨rfl, rfl, rfl, by decide +kernel, rfl, by decide +kernel, by decide +kernel⟩
abbrev s_is_number : Stmt := top 11
theorem sc_is_number : FnScope ["thing"] ["thing"] (defScope s_is_number) := ⟨rfl, rfl, rfl, by decide +kernel, rfl, by decide +kernel, by decide +kernel⟩
abbrev s_is_term : Stmt := top 12
theorem sc_is_term : FnScope ["thing", "waiting", "part"] ["thing"] (defScope s_is_term) := ⟨rfl, rfl, rfl, by decide +kernel, rfl, by decide +kernel, by decide +kernel⟩
abbrev s_is_part : Stmt := top 13
theorem sc_is_part : FnScope ["thing"] ["thing"] (defScope s_is_part) := ⟨rfl, rfl, rfl, by decide +kernel, rfl, by decide +kernel, by decide +kernel⟩
abbrev s_demand_term : Stmt := top 14
theorem sc_demand_term : FnScope ["term"] ["term"] (defScope s_demand_term) := ⟨rfl, rfl, rfl, by decide +kernel, rfl, by decide +kernel, by decide +kernel⟩
abbrev s_is_variable : Stmt := top 15
theorem sc_is_variable : FnScope ["part"] ["part"] (defScope s_is_variable) := ⟨rfl, rfl, rfl, by decide +kernel, rfl, by decide +kernel, by decide +kernel⟩
abbrev s_arguments_of : Stmt := top 16
theorem sc_arguments_of : FnScope ["part"] ["part"] (defScope s_arguments_of) := ⟨rfl, rfl, rfl, by decide +kernel, rfl, by decide +kernel, by decide +kernel⟩
abbrev s_reckoned : Stmt := top 21
theorem sc_reckoned : FnScope ["term", "values", "waiting", "what", "many", "is_ready", "result", "inner"] ["term"] (defScope s_reckoned) := ⟨rfl, rfl, rfl, by decide +kernel, rfl, by decide +kernel, by decide +kernel⟩
abbrev s_is_operation : Stmt := top 22
theorem sc_is_operation : FnScope ["term"] ["term"] (defScope s_is_operation) := ⟨rfl, rfl, rfl, by decide +kernel, rfl, by decide +kernel, by decide +kernel⟩
abbrev s_leaf : Stmt := top 23
theorem sc_leaf : FnScope ["term", "name", "arity"] ["term"] (defScope s_leaf) := ⟨rfl, rfl, rfl, by decide +kernel, rfl, by decide +kernel, by decide +kernel⟩
abbrev s_operated : Stmt := top 24
theorem sc_operated : FnScope ["name", "values", "of_one", "of_two"] ["name", "values"] (defScope s_operated) := ⟨rfl, rfl, rfl, by decide +kernel, rfl, by decide +kernel, by decide +kernel⟩
abbrev s_bounded : Stmt := top 25
theorem sc_bounded : FnScope ["result"] ["result"] (defScope s_bounded) := ⟨rfl, rfl, rfl, by decide +kernel, rfl, by decide +kernel, by decide +kernel⟩
abbrev s_same : Stmt := top 26
theorem sc_same : FnScope ["x"] ["x"] (defScope s_same) := ⟨rfl, rfl, rfl, by decide +kernel, rfl, by decide +kernel, by decide +kernel⟩
abbrev s_opposite : Stmt := top 27
theorem sc_opposite : FnScope ["x"] ["x"] (defScope s_opposite) := ⟨rfl, rfl, rfl, by decide +kernel, rfl, by decide +kernel, by decide +kernel⟩
abbrev s_absolute : Stmt := top 28
theorem sc_absolute : FnScope ["x"] ["x"] (defScope s_absolute) := ⟨rfl, rfl, rfl, by decide +kernel, rfl, by decide +kernel, by decide +kernel⟩
abbrev s_sign : Stmt := top 29
theorem sc_sign : FnScope ["x"] ["x"] (defScope s_sign) := ⟨rfl, rfl, rfl, by decide +kernel, rfl, by decide +kernel, by decide +kernel⟩
abbrev s_complement : Stmt := top 30
theorem sc_complement : FnScope ["x"] ["x"] (defScope s_complement) := ⟨rfl, rfl, rfl, by decide +kernel, rfl, by decide +kernel, by decide +kernel⟩
abbrev s_highest_bit : Stmt := top 31
theorem sc_highest_bit : FnScope ["x"] ["x"] (defScope s_highest_bit) := ⟨rfl, rfl, rfl, by decide +kernel, rfl, by decide +kernel, by decide +kernel⟩
abbrev s_sum : Stmt := top 32
theorem sc_sum : FnScope ["x", "y"] ["x", "y"] (defScope s_sum) := ⟨rfl, rfl, rfl, by decide +kernel, rfl, by decide +kernel, by decide +kernel⟩
abbrev s_difference : Stmt := top 33
theorem sc_difference : FnScope ["x", "y"] ["x", "y"] (defScope s_difference) := ⟨rfl, rfl, rfl, by decide +kernel, rfl, by decide +kernel, by decide +kernel⟩
abbrev s_product : Stmt := top 34
theorem sc_product : FnScope ["x", "y"] ["x", "y"] (defScope s_product) := ⟨rfl, rfl, rfl, by decide +kernel, rfl, by decide +kernel, by decide +kernel⟩
abbrev s_least : Stmt := top 35
theorem sc_least : FnScope ["x", "y"] ["x", "y"] (defScope s_least) := ⟨rfl, rfl, rfl, by decide +kernel, rfl, by decide +kernel, by decide +kernel⟩
abbrev s_greatest : Stmt := top 36
theorem sc_greatest : FnScope ["x", "y"] ["x", "y"] (defScope s_greatest) := ⟨rfl, rfl, rfl, by decide +kernel, rfl, by decide +kernel, by decide +kernel⟩
abbrev s_common_divisor : Stmt := top 37
theorem sc_common_divisor : FnScope ["x", "y"] ["x", "y"] (defScope s_common_divisor) := ⟨rfl, rfl, rfl, by decide +kernel, rfl, by decide +kernel, by decide +kernel⟩
abbrev s_both_bits : Stmt := top 38
theorem sc_both_bits : FnScope ["x", "y"] ["x", "y"] (defScope s_both_bits) := ⟨rfl, rfl, rfl, by decide +kernel, rfl, by decide +kernel, by decide +kernel⟩
abbrev s_any_bits : Stmt := top 39
theorem sc_any_bits : FnScope ["x", "y"] ["x", "y"] (defScope s_any_bits) := ⟨rfl, rfl, rfl, by decide +kernel, rfl, by decide +kernel, by decide +kernel⟩
abbrev s_unlike_bits : Stmt := top 40
theorem sc_unlike_bits : FnScope ["x", "y"] ["x", "y"] (defScope s_unlike_bits) := ⟨rfl, rfl, rfl, by decide +kernel, rfl, by decide +kernel, by decide +kernel⟩
abbrev s_towards_zero : Stmt := top 41
theorem sc_towards_zero : FnScope ["x", "y", "quotient"] ["x", "y"] (defScope s_towards_zero) := ⟨rfl, rfl, rfl, by decide +kernel, rfl, by decide +kernel, by decide +kernel⟩
abbrev s_downwards : Stmt := top 42
theorem sc_downwards : FnScope ["x", "y"] ["x", "y"] (defScope s_downwards) := ⟨rfl, rfl, rfl, by decide +kernel, rfl, by decide +kernel, by decide +kernel⟩
abbrev s_modulus : Stmt := top 43
theorem sc_modulus : FnScope ["x", "y"] ["x", "y"] (defScope s_modulus) := ⟨rfl, rfl, rfl, by decide +kernel, rfl, by decide +kernel, by decide +kernel⟩
abbrev s_remainder : Stmt := top 44
theorem sc_remainder : FnScope ["x", "y", "quotient"] ["x", "y"] (defScope s_remainder) := ⟨rfl, rfl, rfl, by decide +kernel, rfl, by decide +kernel, by decide +kernel⟩
abbrev s_shift_left : Stmt := top 45
theorem sc_shift_left : FnScope ["x", "y"] ["x", "y"] (defScope s_shift_left) := ⟨rfl, rfl, rfl, by decide +kernel, rfl, by decide +kernel, by decide +kernel⟩
abbrev s_shift_right : Stmt := top 46
theorem sc_shift_right : FnScope ["x", "y"] ["x", "y"] (defScope s_shift_right) := ⟨rfl, rfl, rfl, by decide +kernel, rfl, by decide +kernel, by decide +kernel⟩
abbrev s_power : Stmt := top 47
theorem sc_power : FnScope ["x", "y", "value", "_"] ["x", "y"] (defScope s_power) := ⟨rfl, rfl, rfl, by decide +kernel, rfl, by decide +kernel, by decide +kernel⟩
abbrev s_small_power : Stmt := top 48
theorem sc_small_power : FnScope ["x", "y"] ["x", "y"] (defScope s_small_power) := ⟨rfl, rfl, rfl, by decide +kernel, rfl, by decide +kernel, by decide +kernel⟩
abbrev s_law_source_of : Stmt := top 52
theorem sc_law_source_of : FnScope ["_law_cell"] ["_law_cell"] (defScope s_law_source_of) := ⟨rfl, rfl, rfl, by decide +kernel, rfl, by decide +kernel, by decide +kernel⟩
abbrev s_law_next : Stmt := top 53
theorem sc_law_next : FnScope ["_law_source", "_law_many", "_law_found", "_law_prime", "_law_number_here"] ["_law_source", "_law_many"] (defScope s_law_next) := ⟨rfl, rfl, rfl, by decide +kernel, rfl, by decide +kernel, by decide +kernel⟩
abbrev s_law_one : Stmt := top 54
theorem sc_law_one : FnScope ["_law_source", "_law_some"] ["_law_source", "_law_some"] (defScope s_law_one) := ⟨rfl, rfl, rfl, by decide +kernel, rfl, by decide +kernel, by decide +kernel⟩
abbrev s_law_top : Stmt := top 55
theorem sc_law_top : FnScope ["_law_part"] [] (defScope s_law_top) := ⟨rfl, rfl, rfl, by decide +kernel, rfl, by decide +kernel, by decide +kernel⟩
abbrev s_law_of : Stmt := top 56
theorem sc_law_of : FnScope ["_law_name", "_law_x", "_law_y", "_law_got"] ["_law_name", "_law_x", "_law_y"] (defScope s_law_of) := ⟨rfl, rfl, rfl, by decide +kernel, rfl, by decide +kernel, by decide +kernel⟩
abbrev s_law_number : Stmt := top 57
theorem sc_law_number : FnScope ["_law_source", "_law_most"] ["_law_source"] (defScope s_law_number) := ⟨rfl, rfl, rfl, by decide +kernel, rfl, by decide +kernel, by decide +kernel⟩
abbrev s_law_divisions_right : Stmt := top 58
theorem sc_law_divisions_right : FnScope ["_law_x", "_law_y", "_law_told", "_law_near", "_law_down", "_law_after", "_law_left", "_law_name"] ["_law_x", "_law_y"] (defScope s_law_divisions_right) := ⟨rfl, rfl, rfl, by decide +kernel, rfl, by decide +kernel, by decide +kernel⟩
abbrev s_law_bits_right : Stmt := top 59
theorem sc_law_bits_right : FnScope ["_law_x", "_law_y", "_law_both", "_law_some", "_law_unlike"] ["_law_x", "_law_y"] (defScope s_law_bits_right) := ⟨rfl, rfl, rfl, by decide +kernel, rfl, by decide +kernel, by decide +kernel⟩
abbrev s_law_gcd_right : Stmt := top 60
theorem sc_law_gcd_right : FnScope ["_law_x", "_law_y", "_law_more", "_law_found"] ["_law_x", "_law_y", "_law_more"] (defScope s_law_gcd_right) := ⟨rfl, rfl, rfl, by decide +kernel, rfl, by decide +kernel, by decide +kernel⟩
abbrev s_law_shifts_right : Stmt := top 61
theorem sc_law_shifts_right : FnScope ["_law_x", "_law_many", "_law_more", "_law_high", "_law_base", "_law_whole"] ["_law_x", "_law_many", "_law_more"] (defScope s_law_shifts_right) := ⟨rfl, rfl, rfl, by decide +kernel, rfl, by decide +kernel, by decide +kernel⟩
abbrev s_law_brink_right : Stmt := top 62
theorem sc_law_brink_right : FnScope ["_law_source", "_law_top_here", "_law_sign", "_law_last", "_law_great", "_law_some", "_law_due", "_law_one_here"] ["_law_source"] (defScope s_law_brink_right) := ⟨rfl, rfl, rfl, by decide +kernel, rfl, by decide +kernel, by decide +kernel⟩
abbrev s_law_refused : Stmt := top 63
theorem sc_law_refused : FnScope ["_law_thing", "e"] ["_law_thing"] (defScope s_law_refused) := ⟨rfl, rfl, rfl, by decide +kernel, rfl, by decide +kernel, by decide +kernel⟩
abbrev s_law : Stmt := top 64
theorem sc_law : FnScope ["_law_script", "_law_cell", "_law_source", "_law_x", "_law_y", "_law_more", "_law_high", "_law_odd"] ["_law_script"] (defScope s_law) := ⟨rfl, rfl, rfl, by decide +kernel, rfl, by decide +kernel, by decide +kernel⟩
abbrev s_BadTerm_init : Stmt := inClass (top 2) 0
theorem sc_BadTerm_init : FnScope ["self", "term"] ["self", "term"] (defScope s_BadTerm_init) := ⟨rfl, rfl, rfl, by decide +kernel, rfl, by decide +kernel, by decide +kernel⟩
structure Tx (K : PySem.W.Frag) (mg : Str → Option Value) where
  f_is_integer : Addr
  d_is_integer : FuncData
  h_is_integer : Df K mg "is_integer" s_is_integer ["thing"] [] f_is_integer d_is_integer
  f_is_sign : Addr
  d_is_sign : FuncData
  h_is_sign : Df K mg "is_sign" s_is_sign ["sign"] [] f_is_sign d_is_sign
  f_is_atom : Addr
  d_is_atom : FuncData
  h_is_atom : Df K mg "is_atom" s_is_atom ["thing"] [] f_is_atom d_is_atom
  f_is_number : Addr
  d_is_number : FuncData
  h_is_number : Df K mg "is_number" s_is_number ["thing"] [] f_is_number d_is_number
  f_is_term : Addr
  d_is_term : FuncData
  h_is_term : Df K mg "is_term" s_is_term ["thing"] [] f_is_term d_is_term
  f_is_part : Addr
  d_is_part : FuncData
  h_is_part : Df K mg "_is_part" s_is_part ["thing"] [] f_is_part d_is_part
  f_demand_term : Addr
  d_demand_term : FuncData
  h_demand_term : Df K mg "demand_term" s_demand_term ["term"] [] f_demand_term d_demand_term
  f_is_variable : Addr
  d_is_variable : FuncData
  h_is_variable : Df K mg "is_variable" s_is_variable ["part"] [] f_is_variable d_is_variable
  f_arguments_of : Addr
  d_arguments_of : FuncData
  h_arguments_of : Df K mg "arguments_of" s_arguments_of ["part"] [] f_arguments_of d_arguments_of
  f_reckoned : Addr
  d_reckoned : FuncData
  h_reckoned : Df K mg "reckoned" s_reckoned ["term"] [] f_reckoned d_reckoned
  f_is_operation : Addr
  d_is_operation : FuncData
  h_is_operation : Df K mg "_is_operation" s_is_operation ["term"] [] f_is_operation d_is_operation
  f_leaf : Addr
  d_leaf : FuncData
  h_leaf : Df K mg "_leaf" s_leaf ["term"] [] f_leaf d_leaf
  f_operated : Addr
  d_operated : FuncData
  h_operated : Df K mg "_operated" s_operated ["name", "values"] [] f_operated d_operated
  f_bounded : Addr
  d_bounded : FuncData
  h_bounded : Df K mg "_bounded" s_bounded ["result"] [] f_bounded d_bounded
  f_same : Addr
  d_same : FuncData
  h_same : Df K mg "_same" s_same ["x"] [] f_same d_same
  f_opposite : Addr
  d_opposite : FuncData
  h_opposite : Df K mg "_opposite" s_opposite ["x"] [] f_opposite d_opposite
  f_absolute : Addr
  d_absolute : FuncData
  h_absolute : Df K mg "_absolute" s_absolute ["x"] [] f_absolute d_absolute
  f_sign : Addr
  d_sign : FuncData
  h_sign : Df K mg "_sign" s_sign ["x"] [] f_sign d_sign
  f_complement : Addr
  d_complement : FuncData
  h_complement : Df K mg "_complement" s_complement ["x"] [] f_complement d_complement
  f_highest_bit : Addr
  d_highest_bit : FuncData
  h_highest_bit : Df K mg "_highest_bit" s_highest_bit ["x"] [] f_highest_bit d_highest_bit
  f_sum : Addr
  d_sum : FuncData
  h_sum : Df K mg "_sum" s_sum ["x", "y"] [] f_sum d_sum
  f_difference : Addr
  d_difference : FuncData
  h_difference : Df K mg "_difference" s_difference ["x", "y"] [] f_difference d_difference
  f_product : Addr
  d_product : FuncData
  h_product : Df K mg "_product" s_product ["x", "y"] [] f_product d_product
  f_least : Addr
  d_least : FuncData
  h_least : Df K mg "_least" s_least ["x", "y"] [] f_least d_least
  f_greatest : Addr
  d_greatest : FuncData
  h_greatest : Df K mg "_greatest" s_greatest ["x", "y"] [] f_greatest d_greatest
  f_common_divisor : Addr
  d_common_divisor : FuncData
  h_common_divisor : Df K mg "_common_divisor" s_common_divisor ["x", "y"] [] f_common_divisor d_common_divisor
  f_both_bits : Addr
  d_both_bits : FuncData
  h_both_bits : Df K mg "_both_bits" s_both_bits ["x", "y"] [] f_both_bits d_both_bits
  f_any_bits : Addr
  d_any_bits : FuncData
  h_any_bits : Df K mg "_any_bits" s_any_bits ["x", "y"] [] f_any_bits d_any_bits
  f_unlike_bits : Addr
  d_unlike_bits : FuncData
  h_unlike_bits : Df K mg "_unlike_bits" s_unlike_bits ["x", "y"] [] f_unlike_bits d_unlike_bits
  f_towards_zero : Addr
  d_towards_zero : FuncData
  h_towards_zero : Df K mg "_towards_zero" s_towards_zero ["x", "y"] [] f_towards_zero d_towards_zero
  f_downwards : Addr
  d_downwards : FuncData
  h_downwards : Df K mg "_downwards" s_downwards ["x", "y"] [] f_downwards d_downwards
  f_modulus : Addr
  d_modulus : FuncData
  h_modulus : Df K mg "_modulus" s_modulus ["x", "y"] [] f_modulus d_modulus
  f_remainder : Addr
  d_remainder : FuncData
  h_remainder : Df K mg "_remainder" s_remainder ["x", "y"] [] f_remainder d_remainder
  f_shift_left : Addr
  d_shift_left : FuncData
  h_shift_left : Df K mg "_shift_left" s_shift_left ["x", "y"] [] f_shift_left d_shift_left
  f_shift_right : Addr
  d_shift_right : FuncData
  h_shift_right : Df K mg "_shift_right" s_shift_right ["x", "y"] [] f_shift_right d_shift_right
  f_power : Addr
  d_power : FuncData
  h_power : Df K mg "_power" s_power ["x", "y"] [] f_power d_power
  f_small_power : Addr
  d_small_power : FuncData
  h_small_power : Df K mg "_small_power" s_small_power ["x", "y"] [] f_small_power d_small_power
  f_law_source_of : Addr
  d_law_source_of : FuncData
  h_law_source_of : Df K mg "_law_source_of" s_law_source_of ["_law_cell"] [] f_law_source_of d_law_source_of
  f_law_next : Addr
  d_law_next : FuncData
  h_law_next : Df K mg "_law_next" s_law_next ["_law_source", "_law_many"] [] f_law_next d_law_next
  f_law_one : Addr
  d_law_one : FuncData
  h_law_one : Df K mg "_law_one" s_law_one ["_law_source", "_law_some"] [] f_law_one d_law_one
  f_law_top : Addr
  d_law_top : FuncData
  h_law_top : Df K mg "_law_top" s_law_top [] [] f_law_top d_law_top
  f_law_of : Addr
  d_law_of : FuncData
  h_law_of : Df K mg "_law_of" s_law_of ["_law_name", "_law_x", "_law_y"] [] f_law_of d_law_of
  f_law_number : Addr
  d_law_number : FuncData
  h_law_number : Df K mg "_law_number" s_law_number ["_law_source"] [] f_law_number d_law_number
  f_law_divisions_right : Addr
  d_law_divisions_right : FuncData
  h_law_divisions_right : Df K mg "_law_divisions_right" s_law_divisions_right ["_law_x", "_law_y"] [] f_law_divisions_right d_law_divisions_right
  f_law_bits_right : Addr
  d_law_bits_right : FuncData
  h_law_bits_right : Df K mg "_law_bits_right" s_law_bits_right ["_law_x", "_law_y"] [] f_law_bits_right d_law_bits_right
  f_law_gcd_right : Addr
  d_law_gcd_right : FuncData
  h_law_gcd_right : Df K mg "_law_gcd_right" s_law_gcd_right ["_law_x", "_law_y", "_law_more"] [] f_law_gcd_right d_law_gcd_right
  f_law_shifts_right : Addr
  d_law_shifts_right : FuncData
  h_law_shifts_right : Df K mg "_law_shifts_right" s_law_shifts_right ["_law_x", "_law_many", "_law_more"] [] f_law_shifts_right d_law_shifts_right
  f_law_brink_right : Addr
  d_law_brink_right : FuncData
  h_law_brink_right : Df K mg "_law_brink_right" s_law_brink_right ["_law_source"] [] f_law_brink_right d_law_brink_right
  f_law_refused : Addr
  d_law_refused : FuncData
  h_law_refused : Df K mg "_law_refused" s_law_refused ["_law_thing"] [] f_law_refused d_law_refused
  f_law : Addr
  d_law : FuncData
  h_law : Df K mg "law" s_law ["_law_script"] [] f_law d_law
  c_MOST_SIGNS : ∃ t, mg "MOST_SIGNS" = some (.int 40 t)
  c_MOST_ARGUMENTS : ∃ t, mg "MOST_ARGUMENTS" = some (.int 8 t)
  c_BARRED_SIGN : ∃ t, mg "BARRED_SIGN" = some (.int 37 t)
  c_TOO_GREAT : ∃ t, mg "TOO_GREAT" = some (.int tooGreat t)
  c_MOST_BITS : ∃ t, mg "MOST_BITS" = some (.int 1000 t)
  b_abs : mg "abs" = none
  b_all : mg "all" = none
  b_bool : mg "bool" = none
  b_int : mg "int" = none
  b_isinstance : mg "isinstance" = none
  b_len : mg "len" = none
  b_list : mg "list" = none
  b_max : mg "max" = none
  b_min : mg "min" = none
  b_ord : mg "ord" = none
  b_range : mg "range" = none
  b_repr : mg "repr" = none
  b_reversed : mg "reversed" = none
  b_str : mg "str" = none
  b_tuple : mg "tuple" = none
  a_Horn : Addr
  e_Horn : RG.BaseE K mg "HornError" a_Horn
  a_Bad : Addr
  i_Bad : Addr
  d_Bad : FuncData
  e_Bad : RG.ErrE K mg "BadTerm" "term" a_Bad i_Bad
  F_Bad : Fun K "__init__" "BadTerm.__init__" s_BadTerm_init i_Bad d_Bad
  b_Bad : Binds K d_Bad ["self", "term"] []
  x_Bad : RG.IsE K a_Bad
  y_Bad : PySem.W.kitOne K (.ref a_Bad) (.ref a_Horn) = some true
end Hm

set_option Elab.async false
set_option linter.all false
set_option maxRecDepth 100000
set_option maxHeartbeats 1000000
namespace Hm
open PySem PySem.Spec PyProof.Rows L2 HT
open Evl (Ex)
/-- what an operation says: a number, or an error's term -/
inductive Rs where
  | n (k : Int)
  | e (d : PyData)
mutual
/-- an error's term as it lies: numbers, texts, tuples -/
inductive Et (K : PySem.W.Frag) (H : Hp) : V → PyData → Prop
  | int (i : Int) : Et K H (.int i) (.int i)
  | str (x : Str) : Et K H (.str x) (.str x)
  | tup {a : Addr} {xs : List V} {ds : List PyData} : SqT K H a xs → EtAll K H xs ds → Et K H (.ref a) (.tuple ds)
inductive EtAll (K : PySem.W.Frag) (H : Hp) : List V → List PyData → Prop
  | nil : EtAll K H [] []
  | cons {v : V} {vs : List V} {d : PyData} {ds : List PyData} : Et K H v d → EtAll K H vs ds → EtAll K H (v :: vs) (d :: ds)
end
mutual
theorem et_mono {K : PySem.W.Frag} {H H' : Hp} (m : Tups K H H') : ∀ {v : V} {d : PyData}, Et K H v d → Et K H' v d
  | _, _, .int i => .int i
  | _, _, .str x => .str x
  | _, _, .tup h r => .tup (m _ _ h) (ets_mono m r)
theorem ets_mono {K : PySem.W.Frag} {H H' : Hp} (m : Tups K H H') : ∀ {vs : List V} {ds : List PyData}, EtAll K H vs ds → EtAll K H' vs ds
  | _, _, .nil => .nil
  | _, _, .cons h r => .cons (et_mono m h) (ets_mono m r)
end
mutual
theorem et_dp {K : PySem.W.Frag} {H : Hp} : ∀ {v : V} {d : PyData}, Et K H v d → Dp K H v d
  | _, _, .int i => .int i
  | _, _, .str x => .str x
  | _, _, .tup h r => .tup h (ets_dp r)
theorem ets_dp {K : PySem.W.Frag} {H : Hp} : ∀ {vs : List V} {ds : List PyData}, EtAll K H vs ds → DpAll K H vs ds
  | _, _, .nil => .nil
  | _, _, .cons h r => .cons (et_dp h) (ets_dp r)
end
def RsAt (K : PySem.W.Frag) (H : Hp) (v : V) : Rs → Prop
  | .n k => ∃ a, v = .ref a ∧ SqT K H a [.str "value", .int k]
  | .e d => ∃ a x, v = .ref a ∧ SqT K H a [.str "error", x] ∧ Et K H x d
abbrev dNoDiv : PyData := .tuple [.str "evaluation_error", .str "zero_divisor"]
abbrev dTooLong : PyData := .tuple [.str "resource_error", .str "integer"]
/-- with the two errors that the module holds -/
structure Ty (K : PySem.W.Frag) (mg : Str → Option Value) extends Tx K mg where
  a_NO_DIVISOR : Addr
  m_NO_DIVISOR : mg "NO_DIVISOR" = some (.ref a_NO_DIVISOR)
  r_NO_DIVISOR : ∀ H : Hp, RsAt K H (.ref a_NO_DIVISOR) (.e dNoDiv)
  a_TOO_LONG : Addr
  m_TOO_LONG : mg "TOO_LONG" = some (.ref a_TOO_LONG)
  r_TOO_LONG : ∀ H : Hp, RsAt K H (.ref a_TOO_LONG) (.e dTooLong)
def sp1 (K : PySem.W.Frag) (C : Int → Prop) (f : Int → Rs) : Sp := fun vs H Q _ => ∃ x : Int, vs = [.int x] ∧ C x ∧ ∀ v H', Ex H H' → RsAt K H' v (f x) → Q v H'
def sp2 (K : PySem.W.Frag) (C : Int → Int → Prop) (f : Int → Int → Rs) : Sp := fun vs H Q _ => ∃ x y : Int, vs = [.int x, .int y] ∧ C x y ∧ ∀ v H', Ex H H' → RsAt K H' v (f x y) → Q v H'
theorem rs_n {K : PySem.W.Frag} {H : Hp} {p : Addr} {k : Int} : RsAt K (upd H p (.tup [.str "value", .int k])) (.ref p) (.n k) := ⟨p, rfl, SqT.of upd_same⟩
abbrev Small (x : Int) : Prop := -tooGreat < x ∧ x < tooGreat
theorem tg_pow : tooGreat < 2 ^ 1000 := by decide +kernel
theorem Small.nat {x : Int} (h : Small x) : x.natAbs < 2 ^ 1000 := by
  have e : (2 : Int) ^ 1000 = ((2 ^ 1000 : Nat) : Int) := by decide +kernel
  have a := tg_pow
  have b := h.1
  have c := h.2
  generalize tooGreat = g at a b c
  rw [e] at a
  generalize (2 : Nat) ^ 1000 = m at a ⊢
  omega
/-- // by any divisor of less than 9000 bits -/
def CDivZ (_ j : Int) : Prop := j ≠ 0 ∧ j.natAbs.log2 < 9000
theorem op_fdivZ {X : Cx} : OpR X (binaryOp .FloorDiv) (rI CDivZ fun i j => .int (i.fdiv j)) := opI fun i j _ _ _ _ _ hc q => floordiv_int hc.1 q (.inl (PyProof.noPylong_of_log2 hc.2))
theorem divZ {x y : Int} (h0 : y ≠ 0) (h : y.natAbs < 2 ^ 1000) : CDivZ x y := ⟨h0, Nat.lt_of_lt_of_le (PySem.Flt.log2_lt_of (by decide) h) (by decide)⟩
theorem op_sub_bb {X : Cx} : OpR X (binaryOp .Sub) (fun x y H Q => ∃ i k, x = .bl i ∧ y = .bl k ∧ Q (.int (b2i i - b2i k)) H) := by
  intro pins s σ H x y v u Q I rx ry h
  obtain ⟨i, k, rfl, rfl, q⟩ := h
  cases rx
  cases ry
  exact sub_bool ⟨.int (b2i i - b2i k), H, I.tok _, ⟨_, rfl⟩, q⟩
theorem ip_mulW {X : Cx} : PIp X .Mult (fun x y H Q => ∃ i j, x = .int i ∧ y = .int j ∧ CMulW i j ∧ Q (.int (i * j)) H) := by
  intro pins s σ H x y v u Q I r1 r2 h
  obtain ⟨i, j, e1, e2, c, q⟩ := h
  subst e1; subst e2
  obtain ⟨t, rfl⟩ := r1
  obtain ⟨t', rfl⟩ := r2
  exact imul_int ⟨.int _, H, I.tok _, ⟨_, rfl⟩, q⟩ c.ok
theorem small_mul {x y : Int} (hx : Small x) (hy : Small y) : CMulW x y := wide_mul hx.nat hy.nat (by decide) (by decide) (by decide)
/-- an error of three parts -/
def eOf (a b : Str) (x : Int) : Rs := .e (.tuple [.str a, .str b, .int x])
theorem rs_e3 {K : PySem.W.Frag} {H : Hp} {p q : Addr} {a b : Str} {x : Int} (hq : upd H p (.tup [.str a, .str b, .int x]) q = none) : RsAt K (upd (upd H p (.tup [.str a, .str b, .int x])) q (.tup [.str "error", .ref p])) (.ref q) (eOf a b x) :=
  ⟨q, .ref p, rfl, SqT.of upd_same, .tup (Evl.ex_t (Ex.new hq) (SqT.of upd_same)) (.cons (.str a) (.cons (.str b) (.cons (.int x) .nil)))⟩
abbrev qz (x y : Int) : Int := if decide (x < 0) = decide (y < 0) then (if x < 0 then -x else x) / (if y < 0 then -y else y) else -((if x < 0 then -x else x) / (if y < 0 then -y else y))
abbrev fTz (x y : Int) : Rs := if y = 0 then .e dNoDiv else .n (qz x y)
abbrev fDown (x y : Int) : Rs := if y = 0 then .e dNoDiv else .n (x.fdiv y)
abbrev fMod (x y : Int) : Rs := if y = 0 then .e dNoDiv else .n (x - y * x.fdiv y)
abbrev fRem (x y : Int) : Rs := if y = 0 then .e dNoDiv else .n (x - y * qz x y)
abbrev fMsb (x : Int) : Rs := if x < 1 then eOf "type_error" "not_less_than_one" x else .n ((Builtin.Int.intBits x : Nat) - 1)
abbrev fShl (x y : Int) : Rs := if y < 0 then eOf "domain_error" "not_less_than_zero" y else if x ≠ 0 ∧ y > 1000 then .e dTooLong else .n (x * 2 ^ (if (1000 : Int) < y then (1000 : Int) else y).toNat)
abbrev fShr (x y : Int) : Rs := if y < 0 then eOf "domain_error" "not_less_than_zero" y else .n (x / 2 ^ (if (1000 : Int) < y then (1000 : Int) else y).toNat)
abbrev fSmallPow (x y : Int) : Rs := if y = 0 then .n 1 else if x = 0 then (if y < 0 then .e dNoDiv else .n 0) else .n (if y % 2 = 0 then 1 else x)
theorem beq_true_of {α : Type} [BEq α] [LawfulBEq α] {a b : α} (h : a = b) : (a == b) = true := by
  rw [h]
  exact beq_self_eq_true b
theorem shl_c {x y : Int} (hx : Small x) (h0 : 0 ≤ y) : CShl x (if (1000 : Int) < y then (1000 : Int) else y) := by
  have : (if (1000 : Int) < y then (1000 : Int) else y) = ((if (1000 : Int) < y then (1000 : Nat) else y.toNat : Nat) : Int) := by split <;> omega
  rw [this]
  exact shl_ok hx.nat (by split <;> omega)
theorem fmod_lt {x y : Int} (h : y ≠ 0) : (x.fmod y).natAbs < y.natAbs := by
  by_cases h0 : 0 < y
  · have a := Int.fmod_lt_of_pos x h0
    have b := Int.fmod_nonneg_of_pos x h0
    omega
  · have a := Int.fmod_lt_of_pos (-x) (show 0 < -y by omega)
    have b := Int.fmod_nonneg_of_pos (-x) (show 0 < -y by omega)
    rw [Int.neg_fmod_neg] at a b
    omega
theorem not_small {a b : Int} (h : ¬ Small a) (hab : a.natAbs ≤ b.natAbs) : ¬ Small b := fun z => h (by
  have z1 := z.1
  have z2 := z.2
  unfold Small
  generalize tooGreat = g at *
  omega)
theorem pow_large {x : Int} (h : ¬ (-1 ≤ x ∧ x ≤ 1)) {i n : Nat} (hi : i ≤ n) : (x ^ i).natAbs ≤ (x ^ n).natAbs := by
  rw [Int.natAbs_pow, Int.natAbs_pow]
  exact Nat.pow_le_pow_right (by omega) hi
theorem small_one : Small 1 := by
  constructor <;> decide +kernel
theorem fdiv_le {x y : Int} : (x.fdiv y).natAbs ≤ x.natAbs := by
  by_cases h : 0 ≤ y
  · rw [Int.fdiv_eq_ediv_of_nonneg x h]
    exact Int.natAbs_ediv_le_natAbs x y
  · rw [← Int.neg_fdiv_neg, Int.fdiv_eq_ediv_of_nonneg (-x) (by omega), ← Int.natAbs_neg x]
    exact Int.natAbs_ediv_le_natAbs (-x) (-y)
theorem mul_fdiv {x y : Int} (hx : Small x) (hy : Small y) : CMulW y (x.fdiv y) := wide_mul hy.nat (Nat.lt_of_le_of_lt fdiv_le hx.nat) (by decide) (by decide) (by decide)
theorem abs_div {x y : Int} (h : y ≠ 0) (hy : Small y) : CDivW (if x < 0 then -x else x) (if y < 0 then -y else y) := by
  have := hy.nat
  refine wide_div (b := 1000) ?_ ?_ (by decide) (by decide)
  · split <;> omega
  · split
    · rw [Int.natAbs_neg]; exact this
    · exact this
theorem qz_le {x y : Int} : (qz x y).natAbs ≤ x.natAbs := by
  have e : ((if x < 0 then -x else x) / (if y < 0 then -y else y)).natAbs ≤ x.natAbs := by
    refine Nat.le_trans (Int.natAbs_ediv_le_natAbs _ _) ?_
    split <;> omega
  unfold qz
  split
  · exact e
  · rw [Int.natAbs_neg]; exact e
theorem mul_qz {x y : Int} (hx : Small x) (hy : Small y) : CMulW y (qz x y) := wide_mul hy.nat (Nat.lt_of_le_of_lt qz_le hx.nat) (by decide) (by decide) (by decide)
abbrev fPow (x y : Int) : Rs := if -1 ≤ x ∧ x ≤ 1 then fSmallPow x y else if y < 0 then eOf "type_error" "float" x else if y > 1000 then .e dTooLong else if Small (x ^ y.toNat) then .n (x ^ y.toNat) else .e dTooLong
section
variable {P : Program} {w : World} {K : PySem.W.Frag} {mg : Str → Option Value} {base : Heap}
theorem ok_same (T : Ty K mg) : FnOk P w K mg base CX0 1 T.f_same T.d_same ["x"] (sp1 K (fun _ => True) .n) := by
  refine T.h_same.F.ok sc_same (fun vs H Q E h => ?_) (fun cdv A outer s H vs Q E hr h => ?_)
  · obtain ⟨x, rfl, _⟩ := h
    rfl
  obtain ⟨x, rfl, c, q⟩ := h
  refine ⟨_, (pss_one (ps_ret (pe_tup (pa_cons pe_str (pa_cons (pv 0) pa_nil))))), ?_⟩
  exact ⟨_, rfl, (by show 2 ≤ sizeLine; decide), fun p hp => q _ _ (Ex.new hp) rs_n⟩

theorem ok_opposite (T : Ty K mg) : FnOk P w K mg base CX0 1 T.f_opposite T.d_opposite ["x"] (sp1 K (fun _ => True) (fun x => .n (-x))) := by
  refine T.h_opposite.F.ok sc_opposite (fun vs H Q E h => ?_) (fun cdv A outer s H vs Q E hr h => ?_)
  · obtain ⟨x, rfl, _⟩ := h
    rfl
  obtain ⟨x, rfl, c, q⟩ := h
  refine ⟨_, (pss_one (ps_ret (pe_tup (pa_cons pe_str (pa_cons (pe_un un_neg (pv 0)) pa_nil))))), ?_⟩
  exact ⟨_, rfl, _, rfl, (by show 2 ≤ sizeLine; decide), fun p hp => q _ _ (Ex.new hp) rs_n⟩

theorem ok_absolute (T : Ty K mg) : FnOk P w K mg base CX0 1 T.f_absolute T.d_absolute ["x"] (sp1 K (fun _ => True) (fun x => .n (if x < 0 then -x else x))) := by
  refine T.h_absolute.F.ok sc_absolute (fun vs H Q E h => ?_) (fun cdv A outer s H vs Q E hr h => ?_)
  · obtain ⟨x, rfl, _⟩ := h
    rfl
  obtain ⟨x, rfl, c, q⟩ := h
  refine ⟨_, (pss_one (ps_ret (pe_tup (pa_cons pe_str (pa_cons (pe_callB call_abs rfl T.b_abs (by decide +kernel) (pa_cons (pv 0) pa_nil)) pa_nil))))), ?_⟩
  exact ⟨_, rfl, _, rfl, (by show 2 ≤ sizeLine; decide), fun p hp => q _ _ (Ex.new hp) rs_n⟩

theorem ok_sign (T : Ty K mg) : FnOk P w K mg base CX0 1 T.f_sign T.d_sign ["x"] (sp1 K (fun _ => True) (fun x => .n (b2i (decide (x > 0)) - b2i (decide (x < 0))))) := by
  refine T.h_sign.F.ok sc_sign (fun vs H Q E h => ?_) (fun cdv A outer s H vs Q E hr h => ?_)
  · obtain ⟨x, rfl, _⟩ := h
    rfl
  obtain ⟨x, rfl, c, q⟩ := h
  refine ⟨_, (pss_one (ps_ret (pe_tup (pa_cons pe_str (pa_cons (pe_op op_sub_bb (pe_cmpR op_gt (pv 0) pe_int (nomark _)) (pe_cmpR op_lt (pv 0) pe_int (nomark _))) pa_nil))))), ?_⟩
  exact ⟨_, rfl, _, _, rfl, rfl, _, rfl, _, _, rfl, rfl, _, _, rfl, rfl, (by show 2 ≤ sizeLine; decide), fun p hp => q _ _ (Ex.new hp) rs_n⟩

theorem ok_complement (T : Ty K mg) : FnOk P w K mg base CX0 1 T.f_complement T.d_complement ["x"] (sp1 K (fun _ => True) (fun x => .n (-x - 1))) := by
  refine T.h_complement.F.ok sc_complement (fun vs H Q E h => ?_) (fun cdv A outer s H vs Q E hr h => ?_)
  · obtain ⟨x, rfl, _⟩ := h
    rfl
  obtain ⟨x, rfl, c, q⟩ := h
  refine ⟨_, (pss_one (ps_ret (pe_tup (pa_cons pe_str (pa_cons (pe_op op_sub (pe_un un_neg (pv 0)) pe_int) pa_nil))))), ?_⟩
  exact ⟨_, rfl, _, rfl, _, _, rfl, rfl, (by show 2 ≤ sizeLine; decide), fun p hp => q _ _ (Ex.new hp) rs_n⟩

theorem ok_sum (T : Ty K mg) : FnOk P w K mg base CX0 1 T.f_sum T.d_sum ["x", "y"] (sp2 K (fun x y => Small x ∧ Small y) (fun x y => .n (x + y))) := by
  refine T.h_sum.F.ok sc_sum (fun vs H Q E h => ?_) (fun cdv A outer s H vs Q E hr h => ?_)
  · obtain ⟨x, y, rfl, _⟩ := h
    rfl
  obtain ⟨x, y, rfl, c, q⟩ := h
  refine ⟨_, (pss_one (ps_ret (pe_tup (pa_cons pe_str (pa_cons (pe_op op_add (pv 0) (pv 1)) pa_nil))))), ?_⟩
  exact ⟨_, rfl, _, rfl, _, _, rfl, rfl, (by show 2 ≤ sizeLine; decide), fun p hp => q _ _ (Ex.new hp) rs_n⟩

theorem ok_difference (T : Ty K mg) : FnOk P w K mg base CX0 1 T.f_difference T.d_difference ["x", "y"] (sp2 K (fun x y => Small x ∧ Small y) (fun x y => .n (x - y))) := by
  refine T.h_difference.F.ok sc_difference (fun vs H Q E h => ?_) (fun cdv A outer s H vs Q E hr h => ?_)
  · obtain ⟨x, y, rfl, _⟩ := h
    rfl
  obtain ⟨x, y, rfl, c, q⟩ := h
  refine ⟨_, (pss_one (ps_ret (pe_tup (pa_cons pe_str (pa_cons (pe_op op_sub (pv 0) (pv 1)) pa_nil))))), ?_⟩
  exact ⟨_, rfl, _, rfl, _, _, rfl, rfl, (by show 2 ≤ sizeLine; decide), fun p hp => q _ _ (Ex.new hp) rs_n⟩

theorem ok_both_bits (T : Ty K mg) : FnOk P w K mg base CX0 1 T.f_both_bits T.d_both_bits ["x", "y"] (sp2 K (fun x y => Small x ∧ Small y) (fun x y => .n (Builtin.bitAnd x y))) := by
  refine T.h_both_bits.F.ok sc_both_bits (fun vs H Q E h => ?_) (fun cdv A outer s H vs Q E hr h => ?_)
  · obtain ⟨x, y, rfl, _⟩ := h
    rfl
  obtain ⟨x, y, rfl, c, q⟩ := h
  refine ⟨_, (pss_one (ps_ret (pe_tup (pa_cons pe_str (pa_cons (pe_op op_and (pv 0) (pv 1)) pa_nil))))), ?_⟩
  exact ⟨_, rfl, _, rfl, _, _, rfl, rfl, (by show 2 ≤ sizeLine; decide), fun p hp => q _ _ (Ex.new hp) rs_n⟩

theorem ok_any_bits (T : Ty K mg) : FnOk P w K mg base CX0 1 T.f_any_bits T.d_any_bits ["x", "y"] (sp2 K (fun x y => Small x ∧ Small y) (fun x y => .n (Builtin.bitOr x y))) := by
  refine T.h_any_bits.F.ok sc_any_bits (fun vs H Q E h => ?_) (fun cdv A outer s H vs Q E hr h => ?_)
  · obtain ⟨x, y, rfl, _⟩ := h
    rfl
  obtain ⟨x, y, rfl, c, q⟩ := h
  refine ⟨_, (pss_one (ps_ret (pe_tup (pa_cons pe_str (pa_cons (pe_op op_or (pv 0) (pv 1)) pa_nil))))), ?_⟩
  exact ⟨_, rfl, _, rfl, _, _, rfl, rfl, (by show 2 ≤ sizeLine; decide), fun p hp => q _ _ (Ex.new hp) rs_n⟩

theorem ok_unlike_bits (T : Ty K mg) : FnOk P w K mg base CX0 1 T.f_unlike_bits T.d_unlike_bits ["x", "y"] (sp2 K (fun x y => Small x ∧ Small y) (fun x y => .n (Builtin.bitXor x y))) := by
  refine T.h_unlike_bits.F.ok sc_unlike_bits (fun vs H Q E h => ?_) (fun cdv A outer s H vs Q E hr h => ?_)
  · obtain ⟨x, y, rfl, _⟩ := h
    rfl
  obtain ⟨x, y, rfl, c, q⟩ := h
  refine ⟨_, (pss_one (ps_ret (pe_tup (pa_cons pe_str (pa_cons (pe_op op_xor (pv 0) (pv 1)) pa_nil))))), ?_⟩
  exact ⟨_, rfl, _, rfl, _, _, rfl, rfl, (by show 2 ≤ sizeLine; decide), fun p hp => q _ _ (Ex.new hp) rs_n⟩

theorem ok_product (T : Ty K mg) : FnOk P w K mg base CX0 1 T.f_product T.d_product ["x", "y"] (sp2 K (fun x y => Small x ∧ Small y) (fun x y => .n (x * y))) := by
  refine T.h_product.F.ok sc_product (fun vs H Q E h => ?_) (fun cdv A outer s H vs Q E hr h => ?_)
  · obtain ⟨x, y, rfl, _⟩ := h
    rfl
  obtain ⟨x, y, rfl, c, q⟩ := h
  refine ⟨_, (pss_one (ps_ret (pe_tup (pa_cons pe_str (pa_cons (pe_op op_mulW (pv 0) (pv 1)) pa_nil))))), ?_⟩
  exact ⟨_, rfl, _, rfl, _, _, rfl, rfl, small_mul c.1 c.2, (by show 2 ≤ sizeLine; decide), fun p hp => q _ _ (Ex.new hp) rs_n⟩

theorem ok_least (T : Ty K mg) : FnOk P w K mg base CX0 1 T.f_least T.d_least ["x", "y"] (sp2 K (fun x y => Small x ∧ Small y) (fun x y => .n (if y < x then y else x))) := by
  refine T.h_least.F.ok sc_least (fun vs H Q E h => ?_) (fun cdv A outer s H vs Q E hr h => ?_)
  · obtain ⟨x, y, rfl, _⟩ := h
    rfl
  obtain ⟨x, y, rfl, c, q⟩ := h
  refine ⟨_, (pss_one (ps_ret (pe_tup (pa_cons pe_str (pa_cons (pe_callB (call_min2 rfl) rfl T.b_min (by decide +kernel) (pa_cons (pv 0) (pa_cons (pv 1) pa_nil))) pa_nil))))), ?_⟩
  exact ⟨_, rfl, _, rfl, _, _, rfl, (by show 2 ≤ sizeLine; decide), fun p hp => q _ _ (Ex.new hp) rs_n⟩

theorem ok_greatest (T : Ty K mg) : FnOk P w K mg base CX0 1 T.f_greatest T.d_greatest ["x", "y"] (sp2 K (fun x y => Small x ∧ Small y) (fun x y => .n (if y > x then y else x))) := by
  refine T.h_greatest.F.ok sc_greatest (fun vs H Q E h => ?_) (fun cdv A outer s H vs Q E hr h => ?_)
  · obtain ⟨x, y, rfl, _⟩ := h
    rfl
  obtain ⟨x, y, rfl, c, q⟩ := h
  refine ⟨_, (pss_one (ps_ret (pe_tup (pa_cons pe_str (pa_cons (pe_callB (call_max2 rfl) rfl T.b_max (by decide +kernel) (pa_cons (pv 0) (pa_cons (pv 1) pa_nil))) pa_nil))))), ?_⟩
  exact ⟨_, rfl, _, rfl, _, _, rfl, (by show 2 ≤ sizeLine; decide), fun p hp => q _ _ (Ex.new hp) rs_n⟩

theorem ok_highest_bit (T : Ty K mg) : FnOk P w K mg base CX0 1 T.f_highest_bit T.d_highest_bit ["x"] (sp1 K (fun _ => True) fMsb) := by
  refine T.h_highest_bit.F.ok sc_highest_bit (fun vs H Q E h => ?_) (fun cdv A outer s H vs Q E hr h => ?_)
  · obtain ⟨x, rfl, _⟩ := h
    rfl
  obtain ⟨x, rfl, c, q⟩ := h
  refine ⟨_, (pss_cons (ps_if (pt_cmpR op_lt (pv 0) pe_int (nomark _))
      (pss_one (ps_ret (pe_tup (pa_cons pe_str (pa_cons (pe_tup (pa_cons pe_str (pa_cons pe_str (pa_cons (pv 0) pa_nil)))) pa_nil)))))
      pss_nil)
    (pss_one (ps_ret (pe_tup (pa_cons pe_str (pa_cons (pe_op op_sub (pe_bits (pv 0)) pe_int) pa_nil)))))), ?_⟩
  refine ⟨_, rfl, _, _, rfl, rfl, _, rfl, ?_⟩
  by_cases h : x < 1
  · rw [decide_eq_true h]
    have q' : ∀ v H', Ex H H' → RsAt K H' v (eOf "type_error" "not_less_than_one" x) → Q v H' := by
      simpa only [fMsb, if_pos h] using q
    exact iteT ⟨_, rfl, (by show 3 ≤ sizeLine; decide), fun p hp => ⟨(by show 2 ≤ sizeLine; decide), fun p' hp' => q' _ _ ((Ex.new hp).trans (Ex.new hp')) (rs_e3 hp')⟩⟩
  · rw [decide_eq_false h]
    have q' : ∀ v H', Ex H H' → RsAt K H' v (.n ((Builtin.Int.intBits x : Nat) - 1)) → Q v H' := by
      simpa only [fMsb, if_neg h] using q
    exact iteF ⟨_, rfl, _, rfl, _, _, rfl, rfl, (by show 2 ≤ sizeLine; decide), fun p hp => q' _ _ (Ex.new hp) rs_n⟩

theorem ok_downwards (T : Ty K mg) : FnOk P w K mg base CX0 1 T.f_downwards T.d_downwards ["x", "y"] (sp2 K (fun x y => Small x ∧ Small y) fDown) := by
  refine T.h_downwards.F.ok sc_downwards (fun vs H Q E h => ?_) (fun cdv A outer s H vs Q E hr h => ?_)
  · obtain ⟨x, y, rfl, _⟩ := h
    rfl
  obtain ⟨x, y, rfl, c, q⟩ := h
  refine ⟨_, (pss_one (ps_ret (pe_ifExp (pt_cmpR op_eq (pv 1) pe_int (nomark _)) (pe_glob (v := .ref T.a_NO_DIVISOR) rfl T.m_NO_DIVISOR rfl) (pe_tup (pa_cons pe_str (pa_cons (pe_op op_fdivZ (pv 0) (pv 1)) pa_nil)))))), ?_⟩
  refine ⟨_, rfl, rfl, _, rfl, ?_⟩
  rw [dec_int]
  by_cases h : y = 0
  · subst h
    exact iteT (q _ _ (Ex.refl _) (T.r_NO_DIVISOR H))
  · rw [beq_false_of_ne h]
    have q' : ∀ v H', Ex H H' → RsAt K H' v (.n (x.fdiv y)) → Q v H' := by
      simpa only [fDown, if_neg h] using q
    exact iteF ⟨_, rfl, _, rfl, _, _, rfl, rfl, divZ h c.2.nat, (by show 2 ≤ sizeLine; decide), fun p hp => q' _ _ (Ex.new hp) rs_n⟩

theorem ok_modulus (T : Ty K mg) : FnOk P w K mg base CX0 1 T.f_modulus T.d_modulus ["x", "y"] (sp2 K (fun x y => Small x ∧ Small y) fMod) := by
  refine T.h_modulus.F.ok sc_modulus (fun vs H Q E h => ?_) (fun cdv A outer s H vs Q E hr h => ?_)
  · obtain ⟨x, y, rfl, _⟩ := h
    rfl
  obtain ⟨x, y, rfl, c, q⟩ := h
  refine ⟨_, (pss_one (ps_ret (pe_ifExp (pt_cmpR op_eq (pv 1) pe_int (nomark _)) (pe_glob (v := .ref T.a_NO_DIVISOR) rfl T.m_NO_DIVISOR rfl) (pe_tup (pa_cons pe_str (pa_cons (pe_op op_sub (pv 0) (pe_op op_mulW (pv 1) (pe_op op_fdivZ (pv 0) (pv 1)))) pa_nil)))))), ?_⟩
  refine ⟨_, rfl, rfl, _, rfl, ?_⟩
  rw [dec_int]
  by_cases h : y = 0
  · subst h
    exact iteT (q _ _ (Ex.refl _) (T.r_NO_DIVISOR H))
  · rw [beq_false_of_ne h]
    have q' : ∀ v H', Ex H H' → RsAt K H' v (.n (x - y * x.fdiv y)) → Q v H' := by
      simpa only [fMod, if_neg h] using q
    exact iteF ⟨_, rfl, _, rfl, _, rfl, _, rfl, _, _, rfl, rfl, divZ h c.2.nat, _, _, rfl, rfl, mul_fdiv c.1 c.2, _, _, rfl, rfl, (by show 2 ≤ sizeLine; decide), fun p hp => q' _ _ (Ex.new hp) rs_n⟩

theorem ok_towards_zero (T : Ty K mg) : FnOk P w K mg base CX0 1 T.f_towards_zero T.d_towards_zero ["x", "y"] (sp2 K (fun x y => Small x ∧ Small y) fTz) := by
  refine T.h_towards_zero.F.ok sc_towards_zero (fun vs H Q E h => ?_) (fun cdv A outer s H vs Q E hr h => ?_)
  · obtain ⟨x, y, rfl, _⟩ := h
    rfl
  obtain ⟨x, y, rfl, c, q⟩ := h
  refine ⟨_, (pss_cons (ps_if (pt_cmpR op_eq (pv 1) pe_int (nomark _))
      (pss_one (ps_ret (pe_glob (v := .ref T.a_NO_DIVISOR) rfl T.m_NO_DIVISOR rfl)))
      pss_nil)
    (pss_cons (ps_set (i := 2) sc_towards_zero.nd rfl (Or.inl rfl) (pe_op op_fdivW (pe_callB call_abs rfl T.b_abs (by decide +kernel) (pa_cons (pv 0) pa_nil)) (pe_callB call_abs rfl T.b_abs (by decide +kernel) (pa_cons (pv 1) pa_nil))))
    (pss_one (ps_ret (pe_tup (pa_cons pe_str (pa_cons (pe_ifExp (pt_cmpR op_eq (pe_cmpR op_lt (pv 0) pe_int (nomark _)) (pe_cmpR op_lt (pv 1) pe_int (nomark _)) (nomark _)) (pv 2) (pe_un un_neg (pv 2))) pa_nil))))))), ?_⟩
  refine ⟨_, rfl, rfl, _, rfl, ?_⟩
  rw [dec_int]
  by_cases h : y = 0
  · subst h
    exact iteT (q _ _ (Ex.refl _) (T.r_NO_DIVISOR H))
  · rw [beq_false_of_ne h]
    have q' : ∀ v H', Ex H H' → RsAt K H' v (.n (qz x y)) → Q v H' := by
      simpa only [fTz, if_neg h] using q
    refine iteF ⟨_, rfl, _, rfl, _, rfl, _, rfl, _, _, rfl, rfl, abs_div h c.2, ?_⟩
    refine ⟨_, rfl, _, _, rfl, rfl, _, rfl, _, _, rfl, rfl, rfl, _, rfl, ?_⟩
    show if decide (V.bl (decide (x < 0)) = V.bl (decide (y < 0))) = true then _ else _
    rw [dec_bl]
    by_cases h2 : decide (x < 0) = decide (y < 0)
    · rw [beq_true_of h2]
      simp only [qz, if_pos h2] at q'
      exact iteT ⟨_, rfl, (by show 2 ≤ sizeLine; decide), fun p hp => q' _ _ (Ex.new hp) rs_n⟩
    · rw [beq_false_of_ne h2]
      simp only [qz, if_neg h2] at q'
      exact iteF ⟨_, rfl, _, rfl, (by show 2 ≤ sizeLine; decide), fun p hp => q' _ _ (Ex.new hp) rs_n⟩

theorem ok_shift_left (T : Ty K mg) : FnOk P w K mg base CX0 1 T.f_shift_left T.d_shift_left ["x", "y"] (sp2 K (fun x y => Small x ∧ Small y) fShl) := by
  refine T.h_shift_left.F.ok sc_shift_left (fun vs H Q E h => ?_) (fun cdv A outer s H vs Q E hr h => ?_)
  · obtain ⟨x, y, rfl, _⟩ := h
    rfl
  obtain ⟨x, y, rfl, c, q⟩ := h
  obtain ⟨tk, hc_MOST_BITS⟩ := T.c_MOST_BITS
  refine ⟨_, (pss_cons (ps_if (pt_cmpR op_lt (pv 1) pe_int (nomark _))
      (pss_one (ps_ret (pe_tup (pa_cons pe_str (pa_cons (pe_tup (pa_cons pe_str (pa_cons pe_str (pa_cons (pv 1) pa_nil)))) pa_nil)))))
      pss_nil)
    (pss_cons (ps_if (PW.pt (pw_and (pt_cmpR op_ne (pv 0) pe_int (nomark _)) (pw_and1 (pt_cmpR op_gt (pv 1) (pe_glob (v := .int 1000) rfl hc_MOST_BITS ⟨_, rfl⟩) (nomark _)))))
      (pss_one (ps_ret (pe_glob (v := .ref T.a_TOO_LONG) rfl T.m_TOO_LONG rfl)))
      pss_nil)
    (pss_one (ps_ret (pe_tup (pa_cons pe_str (pa_cons (pe_op op_shlW (pv 0) (pe_callB (call_min2 rfl) rfl T.b_min (by decide +kernel) (pa_cons (pv 1) (pa_cons (pe_glob (v := .int 1000) rfl hc_MOST_BITS ⟨_, rfl⟩) pa_nil)))) pa_nil))))))), ?_⟩
  refine ⟨_, rfl, _, _, rfl, rfl, _, rfl, ?_⟩
  by_cases h : y < 0
  · rw [decide_eq_true h]
    have q' : ∀ v H', Ex H H' → RsAt K H' v (eOf "domain_error" "not_less_than_zero" y) → Q v H' := by
      simpa only [fShl, if_pos h] using q
    exact iteT ⟨_, rfl, (by show 3 ≤ sizeLine; decide), fun p hp => ⟨(by show 2 ≤ sizeLine; decide), fun p' hp' => q' _ _ ((Ex.new hp).trans (Ex.new hp')) (rs_e3 hp')⟩⟩
  · rw [decide_eq_false h]
    simp only [fShl, if_neg h] at q
    refine iteF ⟨_, rfl, rfl, _, rfl, ?_⟩
    have last : (¬ (x ≠ 0 ∧ y > 1000)) → tRet (tTup (tCons (tC (.str "value")) (tCons (tOp (rI CShl fun i j => .int (i * 2 ^ j.toNat)) (tVar 0) (tCB (fun xs H Q => ∃ i j, xs = [.int i, .int j] ∧ Q (.int (if j < i then j else i)) H) (tCons (tVar 1) (tCons (tC (.int 1000)) tNil)))) tNil))) { nx := fun x H' => Q .non H', rt := Q } (L2.start ["x", "y"] [.int x, .int y]) H := fun h9 => by
      rw [if_neg h9] at q
      exact ⟨_, rfl, _, rfl, _, _, rfl, _, _, rfl, rfl, shl_c c.1 (by omega), (by show 2 ≤ sizeLine; decide), fun p hp => q _ _ (Ex.new hp) rs_n⟩
    show if (!decide (V.int x = V.int 0)) = true then _ else _
    rw [dec_int]
    by_cases h1 : x = 0
    · rw [beq_true_of h1]
      exact iteF (iteF (last (by omega)))
    · rw [beq_false_of_ne h1]
      refine iteT ⟨_, rfl, _, _, rfl, rfl, _, rfl, ?_⟩
      by_cases h2 : 1000 < y
      · rw [decide_eq_true h2]
        rw [if_pos ⟨h1, h2⟩] at q
        exact iteT (q _ _ (Ex.refl _) (T.r_TOO_LONG H))
      · rw [decide_eq_false h2]
        exact iteF (last (by omega))

theorem ok_shift_right (T : Ty K mg) : FnOk P w K mg base CX0 1 T.f_shift_right T.d_shift_right ["x", "y"] (sp2 K (fun x y => Small x ∧ Small y) fShr) := by
  refine T.h_shift_right.F.ok sc_shift_right (fun vs H Q E h => ?_) (fun cdv A outer s H vs Q E hr h => ?_)
  · obtain ⟨x, y, rfl, _⟩ := h
    rfl
  obtain ⟨x, y, rfl, c, q⟩ := h
  obtain ⟨tk, hc_MOST_BITS⟩ := T.c_MOST_BITS
  refine ⟨_, (pss_cons (ps_if (pt_cmpR op_lt (pv 1) pe_int (nomark _))
      (pss_one (ps_ret (pe_tup (pa_cons pe_str (pa_cons (pe_tup (pa_cons pe_str (pa_cons pe_str (pa_cons (pv 1) pa_nil)))) pa_nil)))))
      pss_nil)
    (pss_one (ps_ret (pe_tup (pa_cons pe_str (pa_cons (pe_op op_shr (pv 0) (pe_callB (call_min2 rfl) rfl T.b_min (by decide +kernel) (pa_cons (pv 1) (pa_cons (pe_glob (v := .int 1000) rfl hc_MOST_BITS ⟨_, rfl⟩) pa_nil)))) pa_nil)))))), ?_⟩
  refine ⟨_, rfl, _, _, rfl, rfl, _, rfl, ?_⟩
  by_cases h : y < 0
  · rw [decide_eq_true h]
    have q' : ∀ v H', Ex H H' → RsAt K H' v (eOf "domain_error" "not_less_than_zero" y) → Q v H' := by
      simpa only [fShr, if_pos h] using q
    exact iteT ⟨_, rfl, (by show 3 ≤ sizeLine; decide), fun p hp => ⟨(by show 2 ≤ sizeLine; decide), fun p' hp' => q' _ _ ((Ex.new hp).trans (Ex.new hp')) (rs_e3 hp')⟩⟩
  · rw [decide_eq_false h]
    simp only [fShr, if_neg h] at q
    exact iteF ⟨_, rfl, _, rfl, _, _, rfl, _, _, rfl, rfl, (by split <;> omega), (by show 2 ≤ sizeLine; decide), fun p hp => q _ _ (Ex.new hp) rs_n⟩

theorem ok_small_power (T : Ty K mg) : FnOk P w K mg base CX0 1 T.f_small_power T.d_small_power ["x", "y"] (sp2 K (fun x y => Small x ∧ Small y) fSmallPow) := by
  refine T.h_small_power.F.ok sc_small_power (fun vs H Q E h => ?_) (fun cdv A outer s H vs Q E hr h => ?_)
  · obtain ⟨x, y, rfl, _⟩ := h
    rfl
  obtain ⟨x, y, rfl, c, q⟩ := h
  refine ⟨_, (pss_cons (ps_if (pt_cmpR op_eq (pv 1) pe_int (nomark _))
      (pss_one (ps_ret (pe_tup (pa_cons pe_str (pa_cons pe_int pa_nil)))))
      pss_nil)
    (pss_cons (ps_if (pt_cmpR op_eq (pv 0) pe_int (nomark _))
      (pss_one (ps_ret (pe_ifExp (pt_cmpR op_lt (pv 1) pe_int (nomark _)) (pe_glob (v := .ref T.a_NO_DIVISOR) rfl T.m_NO_DIVISOR rfl) (pe_tup (pa_cons pe_str (pa_cons pe_int pa_nil))))))
      pss_nil)
    (pss_one (ps_ret (pe_tup (pa_cons pe_str (pa_cons (pe_ifExp (pt_cmpR op_eq (pe_op op_mod (pv 1) pe_int) pe_int (nomark _)) pe_int (pv 0)) pa_nil))))))), ?_⟩
  refine ⟨_, rfl, rfl, _, rfl, ?_⟩
  rw [dec_int]
  by_cases h : y = 0
  · rw [h]
    simp only [fSmallPow, if_pos h] at q
    exact iteT ⟨(by show 2 ≤ sizeLine; decide), fun p hp => q _ _ (Ex.new hp) rs_n⟩
  rw [beq_false_of_ne h]
  simp only [fSmallPow, if_neg h] at q
  refine iteF ⟨_, rfl, rfl, _, rfl, ?_⟩
  rw [dec_int]
  by_cases h1 : x = 0
  · rw [h1]
    simp only [if_pos h1] at q
    refine iteT ⟨_, rfl, _, _, rfl, rfl, _, rfl, ?_⟩
    by_cases h2 : y < 0
    · rw [decide_eq_true h2]
      simp only [if_pos h2] at q
      exact iteT (q _ _ (Ex.refl _) (T.r_NO_DIVISOR H))
    · rw [decide_eq_false h2]
      simp only [if_neg h2] at q
      exact iteF ⟨(by show 2 ≤ sizeLine; decide), fun p hp => q _ _ (Ex.new hp) rs_n⟩
  · rw [beq_false_of_ne h1]
    simp only [if_neg h1] at q
    refine iteF ⟨_, rfl, _, _, rfl, rfl, (by show (0:Int) < 2; decide), rfl, _, rfl, ?_⟩
    rw [dec_int]
    by_cases h3 : y % 2 = 0
    · rw [h3]
      simp only [if_pos h3] at q
      exact iteT ⟨(by show 2 ≤ sizeLine; decide), fun p hp => q _ _ (Ex.new hp) rs_n⟩
    · rw [beq_false_of_ne h3]
      simp only [if_neg h3] at q
      exact iteF ⟨_, rfl, (by show 2 ≤ sizeLine; decide), fun p hp => q _ _ (Ex.new hp) rs_n⟩

theorem ok_remainder (T : Ty K mg) : FnOk P w K mg base CX0 2 T.f_remainder T.d_remainder ["x", "y"] (sp2 K (fun x y => Small x ∧ Small y) fRem) := by
  refine T.h_remainder.F.ok sc_remainder (fun vs H Q E h => ?_) (fun cdv A outer s H vs Q E hr h => ?_)
  · obtain ⟨x, y, rfl, _⟩ := h
    rfl
  obtain ⟨x, y, rfl, c, q⟩ := h
  refine ⟨_, (pss_cons (ps_set (i := 2) sc_remainder.nd rfl (Or.inl rfl) (cl (ok_towards_zero T) T.h_towards_zero hr (pa_cons (pv 0) (pa_cons (pv 1) pa_nil))))
    (pss_one (ps_ret (pe_ifExp (pt_cmpR op_eq (pe_ix ix_tup (pv 2) pe_int (fun _ _ => rfl)) pe_str (nomark _)) (pv 2) (pe_tup (pa_cons pe_str (pa_cons (pe_op op_sub (pv 0) (pe_op op_mulW (pv 1) (pe_ix ix_tup (pv 2) pe_int (fun _ _ => rfl)))) pa_nil))))))), ?_⟩
  refine ⟨_, rfl, _, rfl, x, y, rfl, c, fun v H' e r => ?_⟩
  by_cases h : y = 0
  · simp only [fTz, if_pos h] at r
    simp only [fRem, if_pos h] at q
    obtain ⟨a, x', rfl, r1, r2⟩ := r
    refine ⟨_, rfl, a, _, 0, _, rfl, rfl, r1, rfl, rfl, _, rfl, ?_⟩
    show if decide (V.str "error" = V.str "error") = true then _ else _
    rw [decide_eq_true rfl]
    exact iteT ⟨_, rfl, q _ _ e ⟨a, x', rfl, r1, r2⟩⟩
  · simp only [fTz, if_neg h] at r
    simp only [fRem, if_neg h] at q
    obtain ⟨a, rfl, r1⟩ := r
    refine ⟨_, rfl, a, _, 0, _, rfl, rfl, r1, rfl, rfl, _, rfl, ?_⟩
    show if decide (V.str "value" = V.str "error") = true then _ else _
    rw [decide_eq_false (by intro z; injection z with z; exact absurd z (by decide))]
    exact iteF ⟨_, rfl, _, rfl, _, rfl, a, _, 1, _, rfl, rfl, r1, rfl, _, _, rfl, rfl, mul_qz c.1 c.2, _, _, rfl, rfl, (by show 2 ≤ sizeLine; decide), fun p hp => q _ _ (e.trans (Ex.new hp)) rs_n⟩

theorem ok_common_divisor (T : Ty K mg) : FnOk P w K mg base CX0 1 T.f_common_divisor T.d_common_divisor ["x", "y"] (sp2 K (fun x y => Small x ∧ Small y) (fun x y => .n ((Int.gcd x y : Nat) : Int))) := by
  refine T.h_common_divisor.F.ok sc_common_divisor (fun vs H Q E h => ?_) (fun cdv A outer s H vs Q E hr h => ?_)
  · obtain ⟨x, y, rfl, _⟩ := h
    rfl
  obtain ⟨x, y, rfl, c, q⟩ := h
  refine ⟨_, (pss_cons (ps_while PassesOwn.never (pt_cmpR op_ne (pv 1) pe_int (nomark _))
      (pss_one (ps_par (i := 0) (j := 1) rfl sc_common_divisor.nd rfl rfl (by decide) rfl rfl (pa_cons (pv 1) (pa_cons (pe_op op_modN (pv 0) (pv 1)) pa_nil)) rfl)))
    (pss_one (ps_ret (pe_tup (pa_cons pe_str (pa_cons (pe_callB call_abs rfl T.b_abs (by decide +kernel) (pa_cons (pv 0) pa_nil)) pa_nil)))))), ?_⟩
  refine ⟨fun m σ' H' => ∃ x' y' : Int, m = y'.natAbs ∧ Int.gcd x' y' = Int.gcd x y ∧ σ' = [some (.int x'), some (.int y')] ∧ H' = H, ⟨_, x, y, rfl, rfl, rfl, rfl⟩, ?_⟩
  rintro m σ' H' ⟨x', y', rfl, hg, rfl, rfl⟩
  refine ⟨_, rfl, rfl, _, rfl, ?_⟩
  show if (!decide (V.int y' = V.int 0)) = true then _ else _
  rw [dec_int]
  by_cases h : y' = 0
  · rw [beq_true_of h]
    refine iteF ⟨_, rfl, _, rfl, (by show 2 ≤ sizeLine; decide), fun p hp => ?_⟩
    refine q _ _ (Ex.new hp) ?_
    rw [h, Int.gcd_zero_right] at hg
    have e : (if x' < 0 then -x' else x') = ((Int.gcd x y : Nat) : Int) := by split <;> omega
    rw [e]
    exact rs_n
  · rw [beq_false_of_ne h]
    refine iteT ⟨_, fun _ _ h => h, ?_⟩
    exact ⟨_, rfl, _, rfl, _, rfl, _, _, rfl, rfl, h, _, _, rfl, _, fmod_lt h, _, _, rfl, (gcd_stepF x' y').trans hg, rfl, rfl⟩

theorem ok_power (T : Ty K mg) : FnOk P w K mg base CX0 2 T.f_power T.d_power ["x", "y"] (sp2 K (fun x y => Small x ∧ Small y) fPow) := by
  refine T.h_power.F.ok sc_power (fun vs H Q E h => ?_) (fun cdv A outer s H vs Q E hr h => ?_)
  · obtain ⟨x, y, rfl, _⟩ := h
    rfl
  obtain ⟨x, y, rfl, c, q⟩ := h
  obtain ⟨tk, hc_MOST_BITS⟩ := T.c_MOST_BITS
  obtain ⟨tg, hc_TOO_GREAT⟩ := T.c_TOO_GREAT
  refine ⟨_, (Evl.pss_cut (ps_if (pt_chain op_le op_le (pe_un un_neg pe_int) (pv 0) pe_int)
      (pss_one (ps_ret (cl (ok_small_power T) T.h_small_power hr (pa_cons (pv 0) (pa_cons (pv 1) pa_nil)))))
      pss_nil)
    (pss_cons (ps_if (pt_cmpR op_lt (pv 1) pe_int (nomark _))
      (pss_one (ps_ret (pe_tup (pa_cons pe_str (pa_cons (pe_tup (pa_cons pe_str (pa_cons pe_str (pa_cons (pv 0) pa_nil)))) pa_nil)))))
      pss_nil)
    (pss_cons (ps_if (pt_cmpR op_gt (pv 1) (pe_glob (v := .int 1000) rfl hc_MOST_BITS ⟨_, rfl⟩) (nomark _))
      (pss_one (ps_ret (pe_glob (v := .ref T.a_TOO_LONG) rfl T.m_TOO_LONG rfl)))
      pss_nil)
    (pss_cons (ps_set (i := 2) sc_power.nd rfl (Or.inl rfl) pe_int)
    (pss_cons (ps_for PassesOwn.never rfl (pi_range1 rfl T.b_range (pa_cons (pv 1) pa_nil)) (pg_name (i := 3) sc_power.nd rfl (Or.inl rfl))
      (pss_cons (ps_aug (i := 2) sc_power.nd rfl (Or.inl rfl) (pv 0) ip_mulW)
    (pss_one (ps_if (pt_not (pt_chain op_lt op_lt (pe_un un_neg (pe_glob (v := .int tooGreat) rfl hc_TOO_GREAT ⟨_, rfl⟩)) (pv 2) (pe_glob (v := .int tooGreat) rfl hc_TOO_GREAT ⟨_, rfl⟩)))
      (pss_one (ps_ret (pe_glob (v := .ref T.a_TOO_LONG) rfl T.m_TOO_LONG rfl)))
      pss_nil))))
    (pss_one (ps_ret (pe_tup (pa_cons pe_str (pa_cons (pv 2) pa_nil)))))))))), ?_⟩
  refine ⟨fun σ' H' => (¬ (-1 ≤ x ∧ x ≤ 1)) ∧ σ' = [some (.int x), some (.int y), none, none] ∧ H' = H, ?_, ?_⟩
  · refine ⟨_, rfl, _, rfl, _, _, rfl, rfl, _, rfl, ?_⟩
    by_cases h1 : -1 ≤ x
    · rw [decide_eq_true h1]
      refine iteT ⟨_, _, rfl, rfl, _, rfl, ?_⟩
      by_cases h2 : x ≤ 1
      · rw [decide_eq_true h2]
        simp only [fPow, if_pos (And.intro h1 h2)] at q
        exact iteT ⟨_, rfl, _, rfl, x, y, rfl, c, q⟩
      · rw [decide_eq_false h2]
        exact iteF ⟨fun z => h2 z.2, rfl, rfl⟩
    · rw [decide_eq_false h1]
      exact iteF ⟨_, rfl, iteF ⟨fun z => h1 z.1, rfl, rfl⟩⟩
  rintro _ _ ⟨hx, rfl, rfl⟩
  simp only [fPow, if_neg hx] at q
  refine ⟨_, rfl, _, _, rfl, rfl, _, rfl, ?_⟩
  by_cases h : y < 0
  · rw [decide_eq_true h]
    simp only [if_pos h] at q
    exact iteT ⟨_, rfl, (by show 3 ≤ sizeLine; decide), fun p hp => ⟨(by show 2 ≤ sizeLine; decide), fun p' hp' => q _ _ ((Ex.new hp).trans (Ex.new hp')) (rs_e3 hp')⟩⟩
  rw [decide_eq_false h]
  simp only [if_neg h] at q
  refine iteF ⟨_, rfl, _, _, rfl, rfl, _, rfl, ?_⟩
  by_cases h1 : 1000 < y
  · rw [decide_eq_true h1]
    simp only [gt_iff_lt, if_pos h1] at q
    exact iteT (q _ _ (Ex.refl _) (T.r_TOO_LONG _))
  rw [decide_eq_false h1]
  simp only [gt_iff_lt, if_neg h1] at q
  refine iteF ⟨_, rfl, y, rfl, by omega, by omega, ?_⟩
  refine for_range (lo := 0) (n := y.toNat) (fun i σ' H' => ∃ u, σ' = [some (.int x), some (.int y), some (.int (x ^ i)), u] ∧ H' = _ ∧ Small (x ^ i)) ⟨none, by rw [Int.pow_zero]; rfl, rfl, by rw [Int.pow_zero]; exact small_one⟩ ?_ ?_
  · rintro i σ' H' hi ⟨u, rfl, rfl, hs⟩
    refine ⟨_, rfl, _, rfl, _, _, rfl, rfl, small_mul hs c.1, ?_⟩
    refine ⟨_, rfl, _, rfl, _, _, rfl, rfl, _, rfl, ?_⟩
    have big : ¬ Small (x ^ i * x) → Q (.ref T.a_TOO_LONG) H' := fun z => by
      rw [if_neg (not_small z (by rw [← Int.pow_succ]; exact pow_large hx hi))] at q
      exact q _ _ (Ex.refl _) (T.r_TOO_LONG _)
    by_cases h2 : -tooGreat < x ^ i * x
    · rw [decide_eq_true h2]
      refine iteT ⟨_, _, rfl, rfl, _, rfl, ?_⟩
      by_cases h3 : x ^ i * x < tooGreat
      · rw [decide_eq_true h3]
        exact iteF ⟨_, by rw [Int.pow_succ]; rfl, rfl, by rw [Int.pow_succ]; exact ⟨h2, h3⟩⟩
      · rw [decide_eq_false h3]
        exact iteT (big fun z => h3 z.2)
    · rw [decide_eq_false h2]
      exact iteF ⟨_, rfl, iteT (big fun z => h2 z.1)⟩
  · rintro σ' H' ⟨u, rfl, rfl, hs⟩
    simp only [if_pos hs] at q
    exact ⟨_, rfl, (by show 2 ≤ sizeLine; decide), fun p hp => q _ _ (Ex.new hp) rs_n⟩
end
end Hm

set_option Elab.async false
set_option linter.all false
set_option maxRecDepth 100000
set_option maxHeartbeats 4000000
namespace Hm
open PySem PySem.Spec PyProof.Rows L2 HT
open Evl (Ex)
section
variable {P : Program} {w : World} {K : PySem.W.Frag} {mg : Str → Option Value} {base : Heap}
theorem tk_succ {α β : Type} {l : List α} {i : Nat} {x : α} (f : α → β) (h : l[i]? = some x) : (l.take (i + 1)).map f = (l.take i).map f ++ [f x] := by
  rw [List.take_add_one, h]
  simp
theorem yesI {σ : L2.St} {H : Hp} {A B : Hp → Prop} (h : A H) : tYes σ H (fun b H3 => if b = true then A H3 else B H3) := by
  show (if true = true then A H else B H)
  exact iteT h
theorem small5 {n : Nat} (h : n ≤ 100000) : n ≤ sizeLine := Nat.le_trans h (by decide)
theorem small5' {n : Nat} (h : n ≤ 100000) : n < sizeLine := Nat.lt_of_le_of_lt h (by decide)
theorem tyx_tup {H : Hp} {a : Addr} {xs : List V} (h : SqT K H a xs) : TyX K H (.ref a) (.type "tuple") := by
  rcases h with (h | ⟨o, h⟩) | ⟨o, its, n, h1, h2, _⟩
  · exact .base (.tup h)
  · exact .fTuple h
  · exact .kTuple h1 h2
theorem cut1 (x : V) (vs : List V) : cutV (x :: vs) (some 1) none = vs := by
  unfold cutV
  have e : sIx (x :: vs).length 0 (some 1) = 1 := by
    show (if (1 : Int) < 0 then ((1 : Int) + ((x :: vs).length : Int)).toNat else min (1 : Int).toNat (x :: vs).length) = 1
    rw [if_neg (by decide), List.length_cons]
    show min 1 (vs.length + 1) = 1
    omega
  rw [e, sIx_none]
  show (vs.take ((x :: vs).length - 1)) = vs
  rw [List.length_cons]
  exact List.take_of_length_le (by omega)
theorem cut1_ne (x : V) (vs : List V) : ¬ (sIx (x :: vs).length 0 (some 1) = 0 ∧ sIx (x :: vs).length (x :: vs).length none = (x :: vs).length) := by
  intro h
  have e : sIx (x :: vs).length 0 (some 1) = 1 := by
    show (if (1 : Int) < 0 then ((1 : Int) + ((x :: vs).length : Int)).toNat else min (1 : Int).toNat (x :: vs).length) = 1
    rw [if_neg (by decide), List.length_cons]
    show min 1 (vs.length + 1) = 1
    omega
  rw [e] at h
  exact absurd h.1 (by decide)

/-! ### is_integer -/
def spInt (K : PySem.W.Frag) : Sp := fun vs H Q _ => ∃ v d, vs = [v] ∧ OdAt K H v d ∧ Q (.bl (intD d)) H
theorem ok_is_integer (T : Tx K mg) : FnOk P w K mg base CX0 1 T.f_is_integer T.d_is_integer ["thing"] (spInt K) := by
  refine T.h_is_integer.F.ok sc_is_integer (fun vs H Q E h => ?_) (fun cdv A outer s H vs Q E hr h => ?_)
  · obtain ⟨v, d, rfl, _⟩ := h
    rfl
  obtain ⟨v, d, rfl, hv, q⟩ := h
  have ty := ty_od hv
  refine ⟨_, (pss_one (ps_ret (pe_and (pe_callB call_isi rfl T.b_isinstance (by decide +kernel) (pa_cons (pv 0) (pa_cons (pe_bltn (v := .ty "int") (u := .type "int") rfl T.b_int (by decide +kernel) rfl) pa_nil))) (pe_one (pe_not (pe_callB call_isi rfl T.b_isinstance (by decide +kernel) (pa_cons (pv 0) (pa_cons (pe_bltn (v := .ty "bool") (u := .type "bool") rfl T.b_bool (by decide +kernel) rfl) pa_nil)))))))), ?_⟩
  cases hv with
  | int i => exact ⟨_, rfl, _, _, _, _, true, rfl, .ty "int", ty, kit_ty (a := "int") (by decide +kernel), true, rfl, iteT ⟨_, rfl, _, _, _, _, false, rfl, .ty "bool", ty, kit_ty (a := "int") (by decide +kernel), false, rfl, q⟩⟩
  | bl i => exact ⟨_, rfl, _, _, _, _, true, rfl, .ty "int", ty, kit_ty (a := "bool") (by decide +kernel), true, rfl, iteT ⟨_, rfl, _, _, _, _, true, rfl, .ty "bool", ty, kit_ty (a := "bool") (by decide +kernel), true, rfl, q⟩⟩
  | non => exact ⟨_, rfl, _, _, _, _, false, rfl, .ty "int", ty, kit_ty (a := "NoneType") (by decide +kernel), false, rfl, iteF q⟩
  | str s => exact ⟨_, rfl, _, _, _, _, false, rfl, .ty "int", ty, kit_ty (a := "str") (by decide +kernel), false, rfl, iteF q⟩
  | lst h => exact ⟨_, rfl, _, _, _, _, false, rfl, .ty "int", ty, kit_ty (a := "list") (by decide +kernel), false, rfl, iteF q⟩
  | dic h => exact ⟨_, rfl, _, _, _, _, false, rfl, .ty "int", ty, kit_ty (a := "dict") (by decide +kernel), false, rfl, iteF q⟩
  | tup h r => exact ⟨_, rfl, _, _, _, _, false, rfl, .ty "int", ty, kit_ty (a := "tuple") (by decide +kernel), false, rfl, iteF q⟩

/-! ### is_sign, of one sign -/
def spSign : Sp := fun vs H Q _ => ∃ c : Nat, vs = [.str ⟨#[c]⟩] ∧ Q (.bl (signOk c)) H
theorem one_lt {a b : Nat} : (([a] : List Nat) < [b]) ↔ a < b := by
  constructor
  · intro h
    cases h with
    | rel h => exact h
    | cons h => cases h
  · intro h
    exact List.Lex.rel h
theorem ok_is_sign (T : Tx K mg) : FnOk P w K mg base CX0 1 T.f_is_sign T.d_is_sign ["sign"] spSign := by
  refine T.h_is_sign.F.ok sc_is_sign (fun vs H Q E h => ?_) (fun cdv A outer s H vs Q E hr h => ?_)
  · obtain ⟨c, rfl, _⟩ := h
    rfl
  obtain ⟨c, rfl, q⟩ := h
  obtain ⟨tk, hc_BARRED_SIGN⟩ := T.c_BARRED_SIGN
  refine ⟨_, (pss_one (ps_ret (pe_and (pe_chain op_le_str op_le_str pe_str (pv 0) pe_str) (pe_one (pe_cmpR op_ne (pe_callB call_ord rfl T.b_ord (by decide +kernel) (pa_cons (pv 0) pa_nil)) (pe_glob (v := .int 37) rfl hc_BARRED_SIGN ⟨_, rfl⟩) (nomark _)))))), ?_⟩
  refine ⟨_, rfl, _, _, rfl, rfl, _, rfl, ?_⟩
  have e1 : (!decide ((⟨#[c]⟩ : Str).cps.toList < (" " : Str).cps.toList)) = decide (32 ≤ c) := by
    show (!decide (([c] : List Nat) < [32])) = _
    by_cases h : c < 32
    · rw [decide_eq_true (one_lt.mpr h), decide_eq_false (by omega)]
      rfl
    · rw [decide_eq_false (fun z => h (one_lt.mp z)), decide_eq_true (by omega)]
      rfl
  have e2 : (!decide (("~" : Str).cps.toList < (⟨#[c]⟩ : Str).cps.toList)) = decide (c ≤ 126) := by
    show (!decide (([126] : List Nat) < [c])) = _
    by_cases h : 126 < c
    · rw [decide_eq_true (one_lt.mpr h), decide_eq_false (by omega)]
      rfl
    · rw [decide_eq_false (fun z => h (one_lt.mp z)), decide_eq_true (by omega)]
      rfl
  rw [e1]
  by_cases h1 : 32 ≤ c
  · rw [decide_eq_true h1]
    refine iteT ⟨_, _, rfl, rfl, _, rfl, ?_⟩
    rw [e2]
    by_cases h2 : c ≤ 126
    · rw [decide_eq_true h2]
      refine iteT ⟨_, rfl, _, rfl, rfl, rfl, ?_⟩
      have e3 : (!decide (V.int (((#[c] : Array Nat).getD 0 0 : Nat) : Int) = V.int 37)) = signOk c := by
        show (!decide (V.int (c : Int) = V.int 37)) = _
        unfold signOk
        by_cases h3 : c = 37
        · subst h3
          decide
        · rw [decide_eq_false (by intro z; injection z with z; omega), decide_eq_true ⟨h1, h2, h3⟩]
          rfl
      exact e3 ▸ q
    · rw [decide_eq_false h2]
      refine iteF ?_
      have : signOk c = false := decide_eq_false (fun z => h2 z.2.1)
      exact this ▸ q
  · rw [decide_eq_false h1]
    refine iteF ⟨_, rfl, iteF ?_⟩
    have : signOk c = false := decide_eq_false (fun z => h1 z.1)
    exact this ▸ q

/-! ### is_atom -/
def spAtom (K : PySem.W.Frag) : Sp := fun vs H Q _ => ∃ v d, vs = [v] ∧ OdAt K H v d ∧ sizeD d ≤ 60000 ∧ ∀ H', Ex H H' → Q (.bl (atomD d)) H'
theorem ok_is_atom (T : Tx K mg) : FnOk P w K mg base CX0 2 T.f_is_atom T.d_is_atom ["thing"] (spAtom K) := by
  refine T.h_is_atom.F.ok sc_is_atom (fun vs H Q E h => ?_) (fun cdv A outer s H vs Q E hr h => ?_)
  · obtain ⟨x, d, rfl, _⟩ := h
    rfl
  obtain ⟨x, d, rfl, hv, hz, q⟩ := h
  obtain ⟨tk, hc_MOST_SIGNS⟩ := T.c_MOST_SIGNS
  have ty := ty_od hv
  refine ⟨_, (pss_one (ps_ret (pe_and (pe_callB call_isi rfl T.b_isinstance (by decide +kernel) (pa_cons (pv 0) (pa_cons (pe_bltn (v := .ty "str") (u := .type "str") rfl T.b_str (by decide +kernel) rfl) pa_nil))) (pe_and (pe_cmpR op_le (pe_callB call_len_str rfl T.b_len (by decide +kernel) (pa_cons (pv 0) pa_nil)) (pe_glob (v := .int 40) rfl hc_MOST_SIGNS ⟨_, rfl⟩) (nomark _)) (pe_one (pe_callB (cr_all rfl) rfl T.b_all (by decide +kernel) (pa_cons (pe_lc (own := [("sign", 1)]) (g := gName 1) rfl sc_is_atom.nd (pi_str (pv 0)) (blkOk_by (own := [("sign", 1)]) (N := ["thing", "sign"]) (sc := defScope s_is_atom) (by decide +kernel)) (fun _ _ _ _ _ => pg_name (i := 1) sc_is_atom.nd rfl (Or.inl rfl)) (fun _ _ _ _ _ => pts_nil) (fun _ _ _ _ _ => (cl (ok_is_sign T) T.h_is_sign hr (pa_cons (pv 1) pa_nil)))) pa_nil))))))), ?_⟩
  cases hv with
  | str z =>
    have hz' : 1 + z.length ≤ 60000 := hz
    refine ⟨_, rfl, _, _, _, _, true, rfl, .ty "str", ty, kit_ty (a := "str") (by decide +kernel), true, rfl, iteT ?_⟩
    refine ⟨_, rfl, z, rfl, small5 (by omega), _, _, rfl, rfl, _, rfl, ?_⟩
    have ed : atomD (.str z) = (decide (z.length ≤ 40) && z.cps.toList.all signOk) := rfl
    rw [ed] at q
    by_cases hl : z.length ≤ 40
    · rw [decide_eq_true (show ((z.length : Nat) : Int) ≤ 40 by omega)]
      rw [decide_eq_true hl, Bool.true_and] at q
      refine iteT ⟨_, rfl, z, rfl, fun D hD => lc_it walk_str (fun i H' => Ex H H' ∧ H' D = some (.lst ((z.cps.toList.take i).map fun c => V.bl (signOk c)))) ⟨Ex.new hD, upd_same⟩ (fun _ _ _ _ => trivial) ?_ ?_⟩
      · rintro i x H1 H2 hi ⟨e1, hL⟩ ⟨rfl, c, hc', rfl⟩
        have hcl : z.cps.toList.length = z.length := by rw [Array.length_toList]; rfl
        refine ⟨rfl, yesI ⟨_, rfl, c, rfl, _, hL, ?_, Ex.mut e1 hD, ?_⟩⟩
        · rw [List.length_map, List.length_take]
          exact small5' (by omega)
        · rw [upd_same, tk_succ (x := c)]
          rw [← hc', Array.getElem?_toList]
      · rintro H1 ⟨e1, hL⟩
        refine ⟨D, z.cps.toList.map signOk, rfl, SqL.of ?_, ?_⟩
        · rw [hL, List.take_of_length_le (by simp), List.map_map]
          rfl
        · have : (z.cps.toList.map signOk).all id = z.cps.toList.all signOk := by
            rw [List.all_map]
            rfl
          rw [this]
          exact q _ e1
    · rw [decide_eq_false (show ¬ ((z.length : Nat) : Int) ≤ 40 by omega)]
      rw [decide_eq_false hl, Bool.false_and] at q
      exact iteF (q _ (Ex.refl _))
  | int i => exact ⟨_, rfl, _, _, _, _, false, rfl, .ty "str", ty, kit_ty (a := "int") (by decide +kernel), false, rfl, iteF (q _ (Ex.refl _))⟩
  | bl i => exact ⟨_, rfl, _, _, _, _, false, rfl, .ty "str", ty, kit_ty (a := "bool") (by decide +kernel), false, rfl, iteF (q _ (Ex.refl _))⟩
  | non => exact ⟨_, rfl, _, _, _, _, false, rfl, .ty "str", ty, kit_ty (a := "NoneType") (by decide +kernel), false, rfl, iteF (q _ (Ex.refl _))⟩
  | lst h => exact ⟨_, rfl, _, _, _, _, false, rfl, .ty "str", ty, kit_ty (a := "list") (by decide +kernel), false, rfl, iteF (q _ (Ex.refl _))⟩
  | dic h => exact ⟨_, rfl, _, _, _, _, false, rfl, .ty "str", ty, kit_ty (a := "dict") (by decide +kernel), false, rfl, iteF (q _ (Ex.refl _))⟩
  | tup h r => exact ⟨_, rfl, _, _, _, _, false, rfl, .ty "str", ty, kit_ty (a := "tuple") (by decide +kernel), false, rfl, iteF (q _ (Ex.refl _))⟩

/-! ### is_number -/
def spNum (K : PySem.W.Frag) : Sp := fun vs H Q _ => ∃ v d, vs = [v] ∧ OdAt K H v d ∧ Q (.bl (numD d)) H
theorem ok_is_number (T : Tx K mg) : FnOk P w K mg base CX0 2 T.f_is_number T.d_is_number ["thing"] (spNum K) := by
  refine T.h_is_number.F.ok sc_is_number (fun vs H Q E h => ?_) (fun cdv A outer s H vs Q E hr h => ?_)
  · obtain ⟨x, d, rfl, _⟩ := h
    rfl
  obtain ⟨v, d, rfl, hv, q⟩ := h
  refine ⟨_, (pss_one (ps_ret (pe_and (cl (ok_is_integer T) T.h_is_integer hr (pa_cons (pv 0) pa_nil)) (pe_one (pe_cmpR op_ge (pv 0) pe_int (nomark _)))))), ?_⟩
  refine ⟨_, rfl, v, d, rfl, hv, intD d, rfl, ?_⟩
  cases hv with
  | int i => exact iteT ⟨_, rfl, _, _, rfl, rfl, q⟩
  | bl i => exact iteF q
  | non => exact iteF q
  | str s => exact iteF q
  | lst h => exact iteF q
  | dic h => exact iteF q
  | tup h r => exact iteF q

/-! ### arguments_of, of what may be a part of a term -/
def spArgs (K : PySem.W.Frag) : Sp := fun vs H Q _ => ∃ v d, vs = [v] ∧ OdAt K H v d ∧ partD d = true ∧ ∀ p ws H', H p = none → Ex H H' → H' p = some (.tup ws) → OdAll K H' ws (argsD d) → Q (.ref p) H'
theorem ok_arguments_of (T : Tx K mg) : FnOk P w K mg base CX0 1 T.f_arguments_of T.d_arguments_of ["part"] (spArgs K) := by
  refine T.h_arguments_of.F.ok sc_arguments_of (fun vs H Q E h => ?_) (fun cdv A outer s H vs Q E hr h => ?_)
  · obtain ⟨v, t, rfl, _⟩ := h
    rfl
  obtain ⟨v, d, rfl, hv, hp, q⟩ := h
  have ty := ty_od hv
  refine ⟨_, (pss_one (ps_ret (pe_ifExp (pt_val (pe_callB call_isi rfl T.b_isinstance (by decide +kernel) (pa_cons (pv 0) (pa_cons (pe_bltn (v := .ty "tuple") (u := .type "tuple") rfl T.b_tuple (by decide +kernel) rfl) pa_nil)))) (pe_slice sl_tup (pv 0) (po_some pe_int) po_none) (pe_tup pa_nil)))), ?_⟩
  cases hv with
  | tup hT hA =>
    refine ⟨_, rfl, _, _, _, _, true, rfl, .ty "tuple", ty, kit_ty (a := "tuple") (by decide +kernel), true, rfl, iteT ?_⟩
    cases hA with
    | nil => cases hp
    | cons h r =>
      refine ⟨_, rfl, _, rfl, _, _, rfl, hT, cut1_ne _ _, fun p hp => ?_⟩
      rw [cut1]
      exact q p _ _ hp (Ex.new hp) upd_same (r.mono (Kind.of (Ex.new hp)))
  | int i => exact ⟨_, rfl, _, _, _, _, false, rfl, .ty "tuple", ty, kit_ty (a := "int") (by decide +kernel), false, rfl, iteF ⟨Nat.zero_le _, fun p hp => q p _ _ hp (Ex.new hp) upd_same .nil⟩⟩
  | bl i => exact ⟨_, rfl, _, _, _, _, false, rfl, .ty "tuple", ty, kit_ty (a := "bool") (by decide +kernel), false, rfl, iteF ⟨Nat.zero_le _, fun p hp => q p _ _ hp (Ex.new hp) upd_same .nil⟩⟩
  | non => exact ⟨_, rfl, _, _, _, _, false, rfl, .ty "tuple", ty, kit_ty (a := "NoneType") (by decide +kernel), false, rfl, iteF ⟨Nat.zero_le _, fun p hp => q p _ _ hp (Ex.new hp) upd_same .nil⟩⟩
  | str s => exact ⟨_, rfl, _, _, _, _, false, rfl, .ty "tuple", ty, kit_ty (a := "str") (by decide +kernel), false, rfl, iteF ⟨Nat.zero_le _, fun p hp => q p _ _ hp (Ex.new hp) upd_same .nil⟩⟩
  | lst h => exact ⟨_, rfl, _, _, _, _, false, rfl, .ty "tuple", ty, kit_ty (a := "list") (by decide +kernel), false, rfl, iteF ⟨Nat.zero_le _, fun p hp => q p _ _ hp (Ex.new hp) upd_same .nil⟩⟩
  | dic h => exact ⟨_, rfl, _, _, _, _, false, rfl, .ty "tuple", ty, kit_ty (a := "dict") (by decide +kernel), false, rfl, iteF ⟨Nat.zero_le _, fun p hp => q p _ _ hp (Ex.new hp) upd_same .nil⟩⟩

/-! ### is_variable, of a term -/
def isVar : Tm → Bool
  | .var _ => true
  | _ => false
def spIsVar (K : PySem.W.Frag) : Sp := fun vs H Q _ => ∃ v t, vs = [v] ∧ Rep K H t v ∧ Ok t ∧ Q (.bl (isVar t)) H
theorem dec_len {n m : Nat} : decide (V.int (n : Int) = V.int (m : Int)) = decide (n = m) := by
  by_cases h : n = m
  · subst h
    simp
  · rw [decide_eq_false h, decide_eq_false]
    intro z
    injection z with z
    omega
theorem ok_is_variable (T : Tx K mg) : FnOk P w K mg base CX0 1 T.f_is_variable T.d_is_variable ["part"] (spIsVar K) := by
  refine T.h_is_variable.F.ok sc_is_variable (fun vs H Q E h => ?_) (fun cdv A outer s H vs Q E hr h => ?_)
  · obtain ⟨v, t, rfl, _⟩ := h
    rfl
  obtain ⟨v, t, rfl, hR, hO, q⟩ := h
  refine ⟨_, (pss_one (ps_ret (pe_and (pe_callB call_isi rfl T.b_isinstance (by decide +kernel) (pa_cons (pv 0) (pa_cons (pe_bltn (v := .ty "tuple") (u := .type "tuple") rfl T.b_tuple (by decide +kernel) rfl) pa_nil))) (pe_one (pe_cmpR op_eq (pe_callB call_len_seq rfl T.b_len (by decide +kernel) (pa_cons (pv 0) pa_nil)) pe_int (nomark _)))))), ?_⟩
  cases t with
  | var k =>
    unfold Rep at hR
    obtain ⟨a, rfl, hT⟩ := hR
    refine ⟨_, rfl, _, _, _, _, true, rfl, .ty "tuple", tyx_tup hT, kit_ty (by decide +kernel), true, rfl, iteT ?_⟩
    exact ⟨_, rfl, a, _, rfl, .inr hT, rfl, q⟩
  | int i =>
    unfold Rep at hR
    subst hR
    exact ⟨_, rfl, _, _, _, _, false, rfl, .ty "tuple", .base (.int i), kit_ty (by decide +kernel), false, rfl, iteF q⟩
  | atom z =>
    unfold Rep at hR
    subst hR
    exact ⟨_, rfl, _, _, _, _, false, rfl, .ty "tuple", .base (.str z), kit_ty (by decide +kernel), false, rfl, iteF q⟩
  | comp f as =>
    unfold Rep at hR
    obtain ⟨a, ws, rfl, hT, hA⟩ := hR
    refine ⟨_, rfl, _, _, _, _, true, rfl, .ty "tuple", tyx_tup hT, kit_ty (by decide +kernel), true, rfl, iteT ?_⟩
    refine ⟨_, rfl, a, _, rfl, .inr hT, rfl, ?_⟩
    have hl := hA.len
    unfold Ok at hO
    have e : decide (V.int (((V.str f :: ws).length : Nat) : Int) = V.int 1) = false := by
      rw [show (V.int 1) = V.int ((1 : Nat) : Int) from rfl, dec_len, decide_eq_false]
      rw [List.length_cons]
      omega
    rw [e]
    exact q
end
end Hm

set_option Elab.async false
set_option linter.all false
set_option maxRecDepth 100000
set_option maxHeartbeats 4000000
namespace Hm
open PySem PySem.Spec PyProof.Rows L2 HT
open Evl (Ex)
section
variable {P : Program} {w : World} {K : PySem.W.Frag} {mg : Str → Option Value} {base : Heap}
theorem dec1 {n : Nat} : decide (V.int (n : Int) = V.int 1) = decide (n = 1) := dec_len (m := 1)
theorem at0 {α : Type} {x : α} {xs : List α} : atI (x :: xs) 0 = some x := atI_nat (j := 0) rfl
theorem ex_none {H H1 : Hp} {p : Addr} (e1 : Ex H H1) (hp : H1 p = none) : H p = none := by
  cases hq : H p with
  | none => rfl
  | some o => rw [e1 _ _ hq] at hp; cases hp
/-! ### _is_part -/
def spPart (K : PySem.W.Frag) : Sp := fun vs H Q _ => ∃ v d, vs = [v] ∧ OdAt K H v d ∧ sizeD d ≤ 60000 ∧ ∀ H', Ex H H' → Q (.bl (partD d)) H'
theorem ok_is_part (T : Tx K mg) : FnOk P w K mg base CX0 3 T.f_is_part T.d_is_part ["thing"] (spPart K) := by
  refine T.h_is_part.F.ok sc_is_part (fun vs H Q E h => ?_) (fun cdv A outer s H vs Q E hr h => ?_)
  · obtain ⟨v, t, rfl, _⟩ := h
    rfl
  obtain ⟨v, d, rfl, hv, hz, q⟩ := h
  obtain ⟨tk, hc_TOO_GREAT⟩ := T.c_TOO_GREAT
  obtain ⟨tk2, hc_MOST_ARGUMENTS⟩ := T.c_MOST_ARGUMENTS
  have ty := ty_od hv
  refine ⟨_, (pss_cons (ps_if (pt_not (pt_val (pe_callB call_isi rfl T.b_isinstance (by decide +kernel) (pa_cons (pv 0) (pa_cons (pe_bltn (v := .ty "tuple") (u := .type "tuple") rfl T.b_tuple (by decide +kernel) rfl) pa_nil)))))
      (pss_one (ps_ret (pe_or (cl (ok_is_atom T) T.h_is_atom hr (pa_cons (pv 0) pa_nil)) (pe_one (pe_and (cl (ok_is_integer T) T.h_is_integer hr (pa_cons (pv 0) pa_nil)) (pe_one (pe_chain op_lt op_lt (pe_un un_neg (pe_glob (v := .int tooGreat) rfl hc_TOO_GREAT ⟨_, rfl⟩)) (pv 0) (pe_glob (v := .int tooGreat) rfl hc_TOO_GREAT ⟨_, rfl⟩))))))))
      pss_nil)
    (pss_cons (ps_if (pt_cmpR op_eq (pe_callB call_len_seq rfl T.b_len (by decide +kernel) (pa_cons (pv 0) pa_nil)) pe_int (nomark _))
      (pss_one (ps_ret (cl (ok_is_number T) T.h_is_number hr (pa_cons (pe_ix ix_tup (pv 0) pe_int (fun _ _ => rfl)) pa_nil))))
      pss_nil)
    (pss_one (ps_ret (pe_and (pe_chain op_le op_le pe_int (pe_callB call_len_seq rfl T.b_len (by decide +kernel) (pa_cons (pv 0) pa_nil)) (pe_op op_add (pe_glob (v := .int 8) rfl hc_MOST_ARGUMENTS ⟨_, rfl⟩) pe_int)) (pe_one (cl (ok_is_atom T) T.h_is_atom hr (pa_cons (pe_ix ix_tup (pv 0) pe_int (fun _ _ => rfl)) pa_nil)))))))), ?_⟩
  cases hv with
  | int i =>
    refine ⟨_, rfl, _, _, _, _, false, rfl, .ty "tuple", ty, kit_ty (a := "int") (by decide +kernel), false, rfl, iteT ?_⟩
    refine ⟨_, rfl, _, _, rfl, .int i, hz, fun H1 e1 => ⟨false, rfl, iteF ⟨_, rfl, _, _, rfl, .int i, true, rfl, iteT ?_⟩⟩⟩
    refine ⟨tooGreat, rfl, _, rfl, _, _, rfl, rfl, _, rfl, ?_⟩
    have ep : partD (.int i) = (decide (-tooGreat < i) && decide (i < tooGreat)) := rfl
    rw [ep] at q
    by_cases c : -tooGreat < i
    · rw [decide_eq_true c] at q ⊢
      rw [Bool.true_and] at q
      exact iteT ⟨_, _, rfl, rfl, q _ e1⟩
    · rw [decide_eq_false c] at q ⊢
      exact iteF (q _ e1)
  | str s =>
    refine ⟨_, rfl, _, _, _, _, false, rfl, .ty "tuple", ty, kit_ty (a := "str") (by decide +kernel), false, rfl, iteT ?_⟩
    refine ⟨_, rfl, _, _, rfl, .str s, hz, fun H1 e1 => ⟨atomD (.str s), rfl, ?_⟩⟩
    have ep : partD (.str s) = atomD (.str s) := rfl
    rw [ep] at q
    cases e : atomD (.str s) with
    | true =>
      rw [e] at q
      exact iteT (q _ e1)
    | false =>
      rw [e] at q
      exact iteF ⟨_, rfl, _, _, rfl, .str s, false, rfl, iteF (q _ e1)⟩
  | bl b =>
    refine ⟨_, rfl, _, _, _, _, false, rfl, .ty "tuple", ty, kit_ty (a := "bool") (by decide +kernel), false, rfl, iteT ?_⟩
    exact ⟨_, rfl, _, _, rfl, .bl b, hz, fun H1 e1 => ⟨false, rfl, iteF ⟨_, rfl, _, _, rfl, .bl b, false, rfl, iteF (q _ e1)⟩⟩⟩
  | non =>
    refine ⟨_, rfl, _, _, _, _, false, rfl, .ty "tuple", ty, kit_ty (a := "NoneType") (by decide +kernel), false, rfl, iteT ?_⟩
    exact ⟨_, rfl, _, _, rfl, .non, hz, fun H1 e1 => ⟨false, rfl, iteF ⟨_, rfl, _, _, rfl, .non, false, rfl, iteF (q _ e1)⟩⟩⟩
  | lst h =>
    refine ⟨_, rfl, _, _, _, _, false, rfl, .ty "tuple", ty, kit_ty (a := "list") (by decide +kernel), false, rfl, iteT ?_⟩
    exact ⟨_, rfl, _, _, rfl, .lst h, hz, fun H1 e1 => ⟨false, rfl, iteF ⟨_, rfl, _, _, rfl, .lst (Evl.ex_l e1 h), false, rfl, iteF (q _ e1)⟩⟩⟩
  | dic h =>
    refine ⟨_, rfl, _, _, _, _, false, rfl, .ty "tuple", ty, kit_ty (a := "dict") (by decide +kernel), false, rfl, iteT ?_⟩
    exact ⟨_, rfl, _, _, rfl, .dic h, hz, fun H1 e1 => ⟨false, rfl, iteF ⟨_, rfl, _, _, rfl, .dic (e1 _ _ h), false, rfl, iteF (q _ e1)⟩⟩⟩
  | @tup a xs ds hT hA =>
    refine ⟨_, rfl, _, _, _, _, true, rfl, .ty "tuple", ty, kit_ty (a := "tuple") (by decide +kernel), true, rfl, iteF ?_⟩
    refine ⟨_, rfl, a, _, rfl, .inr hT, rfl, _, rfl, ?_⟩
    rw [dec1]
    cases hA with
    | nil =>
      rw [decide_eq_false (by decide)]
      exact iteF ⟨_, rfl, a, _, rfl, .inr hT, _, _, rfl, rfl, _, rfl, iteF ⟨_, rfl, iteF (q _ (Ex.refl _))⟩⟩
    | @cons x ws dx dw hx hw =>
      cases hw with
      | nil =>
        rw [decide_eq_true (show [x].length = 1 from rfl)]
        exact iteT ⟨_, rfl, a, _, 0, _, rfl, rfl, hT, at0, _, _, rfl, hx, q _ (Ex.refl _)⟩
      | @cons y vs dy ds hy hr =>
        have hl := hr.len
        have sx : sizeD dx ≤ 60000 := Nat.le_trans (by rw [sizeD, sizesD]; omega) hz
        rw [decide_eq_false (by rw [List.length_cons, List.length_cons]; omega)]
        refine iteF ⟨_, rfl, a, _, rfl, .inr hT, _, _, rfl, rfl, _, rfl, ?_⟩
        rw [decide_eq_true (show (2 : Int) ≤ (((x :: y :: vs).length : Nat) : Int) by rw [List.length_cons, List.length_cons]; omega)]
        refine iteT ⟨_, _, rfl, rfl, _, _, rfl, rfl, _, rfl, ?_⟩
        have ep : partD (.tup (dx :: dy :: ds)) = (decide (ds.length ≤ 7) && atomD dx) := rfl
        rw [ep] at q
        by_cases c : ds.length ≤ 7
        · rw [decide_eq_true (show (((x :: y :: vs).length : Nat) : Int) ≤ (8 : Int) + 1 by rw [List.length_cons, List.length_cons]; omega)]
          rw [decide_eq_true c, Bool.true_and] at q
          exact iteT ⟨_, rfl, a, _, 0, _, rfl, rfl, hT, at0, _, _, rfl, hx, sx, q⟩
        · rw [decide_eq_false (show ¬ (((x :: y :: vs).length : Nat) : Int) ≤ (8 : Int) + 1 by rw [List.length_cons, List.length_cons]; omega)]
          rw [decide_eq_false c, Bool.false_and] at q
          exact iteF (q _ (Ex.refl _))

/-! ### is_term, demand_term -/
theorem list_end {α : Type} (l : List α) : l = [] ∨ ∃ r x, l = r ++ [x] := by
  cases h : l.reverse with
  | nil => exact .inl (by simpa using h)
  | cons x r =>
    refine .inr ⟨r.reverse, x, ?_⟩
    have := congrArg List.reverse h
    simpa using this
theorem last_app {α : Type} (r : List α) (x : α) : (r ++ [x])[(r ++ [x]).length - 1]? = some x := by simp
theorem drop_app {α : Type} (r : List α) (x : α) : (r ++ [x]).dropLast = r := by simp
def spIsT (K : PySem.W.Frag) : Sp := fun vs H Q _ => ∃ v d, vs = [v] ∧ OdAt K H v d ∧ sizeD d ≤ 60000 ∧ ∀ H', Ex H H' → Q (.bl (isT d)) H'
theorem ok_is_term (T : Tx K mg) : FnOk P w K mg base CX0 4 T.f_is_term T.d_is_term ["thing"] (spIsT K) := by
  refine T.h_is_term.F.ok sc_is_term (fun vs H Q E h => ?_) (fun cdv A outer s H vs Q E hr h => ?_)
  · obtain ⟨v, t, rfl, _⟩ := h
    rfl
  obtain ⟨v, d, rfl, hv, hz, q⟩ := h
  refine ⟨_, (pss_cons (ps_set (i := 1) sc_is_term.nd rfl (Or.inl rfl) (pe_lst (pa_cons (pv 0) pa_nil)))
    (pss_cons (ps_while PassesOwn.never (pt_truth (pv 1) (by intro _; rfl))
      (pss_cons (ps_set (i := 2) sc_is_term.nd rfl (Or.inl rfl) (pe_bm0 PySem.F.plainAttrs_list PySem.F.slot_list_pop PySem.F.type_list_pop mt_pop (pv 1)))
    (pss_cons (ps_if (pt_not (pt_val (cl (ok_is_part T) T.h_is_part hr (pa_cons (pv 2) pa_nil))))
      (pss_one (ps_ret pe_bl))
      pss_nil)
    (pss_one (ps_expr (pe_bm PySem.F.plainAttrs_list PySem.F.slot_list_extend PySem.F.type_list_extend mt_extT (pv 1) (pa_cons (cl (ok_arguments_of T) T.h_arguments_of hr (pa_cons (pv 2) pa_nil)) pa_nil)))))))
    (pss_one (ps_ret pe_bl)))), ?_⟩
  refine ⟨_, rfl, (by show 1 ≤ sizeLine; decide), fun l hl => ?_⟩
  refine ⟨fun m σ' H' => ∃ x ds ws, σ' = [some v, some (.ref l), x] ∧ Ex H H' ∧ H' l = some (.lst ws) ∧ OdAll K H' ws ds ∧ isTs ds = isT d ∧ sizesD ds = m ∧ m ≤ 60000,
    ⟨sizeD d, none, [d], [v], rfl, Ex.new hl, upd_same, .cons (hv.mono (Kind.of (Ex.new hl))) .nil, Bool.and_true _, rfl, hz⟩, ?_⟩
  rintro m σ' H' ⟨x, ds, ws, rfl, e1, hL, hRs, hT, rfl, hm⟩
  refine ⟨_, rfl, _, .inl ⟨ws, SqL.of hL, rfl⟩, ?_⟩
  rcases list_end ds with rfl | ⟨ds, d', rfl⟩
  · cases hRs
    have e : isT d = true := hT.symm
    rw [e] at q
    exact iteF (q _ e1)
  · obtain ⟨ws, v', rfl, hR1, hR2⟩ := hRs.last
    have hne : (!(ws ++ [v']).isEmpty) = true := by simp
    rw [hne]
    rw [isTs_app, isTs_cons, isTs_nil, Bool.and_true] at hT
    rw [sizesD_app] at hm ⊢
    have hs1 : sizesD [d'] = sizeD d' := by rw [sizesD, sizesD, Nat.add_zero]
    rw [hs1] at hm ⊢
    refine iteT ⟨fun σ2 H2 => ∃ m', m' < sizesD ds + sizeD d' ∧ ∃ x ds ws, σ2 = [some v, some (.ref l), x] ∧ Ex H H2 ∧ H2 l = some (.lst ws) ∧ OdAll K H2 ws ds ∧ isTs ds = isT d ∧ sizesD ds = m' ∧ m' ≤ 60000, fun _ _ h => h, ?_⟩
    refine ⟨_, rfl, .inl ⟨rfl, _, SqL.of hL⟩, l, _, v', rfl, rfl, hL, last_app _ _, ?_⟩
    rw [drop_app]
    have t1 : Kind K H' (upd H' l (.lst ws)) := Kind.lst hL
    refine ⟨_, rfl, v', d', rfl, hR2.mono t1, by omega, fun H2 e2 => ⟨partD d', rfl, ?_⟩⟩
    have hL2 : H2 l = some (.lst ws) := e2 l _ upd_same
    have e4 : Ex H (upd H' l (.lst ws)) := Ex.mut e1 hl
    rw [isT_eq d'] at hT
    cases hp : partD d' with
    | false =>
      rw [hp, Bool.false_and, Bool.and_false] at hT
      rw [← hT] at q
      exact iteT (q _ (e4.trans e2))
    | true =>
      rw [hp, Bool.true_and] at hT
      refine iteF ⟨_, rfl, .inl ⟨rfl, _, SqL.of hL2⟩, _, rfl, v', d', rfl, (hR2.mono t1).mono (Kind.of e2), hp, fun p us H3 hp3 e3 hU hUs => ?_⟩
      have hL3 : H3 l = some (.lst ws) := e3 l _ hL2
      have hlen := hR1.len
      have hlen2 := hUs.len
      have z1 := len_sizesD ds
      have z2 := len_sizesD (argsD d')
      have z3 := sizeD_args d'
      refine ⟨l, p, ws, us, rfl, rfl, hL3, SqT.of hU, small5 (by omega), sizesD (ds ++ argsD d'), ?_, _, ds ++ argsD d', ws ++ us, rfl, ?_, upd_same, ?_, ?_, rfl, ?_⟩
      · rw [sizesD_app]
        omega
      · exact Ex.mut ((e4.trans e2).trans e3) hl
      · have t3 : Kind K (upd H' l (.lst ws)) (upd H3 l (.lst (ws ++ us))) := ((Kind.of e2).trans (Kind.of e3)).trans (Kind.lst hL3)
        exact ((hR1.mono t1).mono t3).app (hUs.mono (Kind.lst hL3))
      · rw [isTs_app]
        exact hT
      · rw [sizesD_app]
        omega
theorem ok_bad_init (T : Tx K mg) : FnOk P w K mg base CX0 1 T.i_Bad T.d_Bad ["self", "term"] (RG.spIni T.a_Bad "term") := by
  refine T.F_Bad.ok sc_BadTerm_init (fun vs H Q E h => ?_) (fun cdv A outer s H vs Q E hr h => ?_)
  · obtain ⟨a, v, rfl, _⟩ := h
    rfl
  obtain ⟨a, v, rfl, ha, q⟩ := h
  refine ⟨_, (pss_cons (ps_expr (RG.pe_hinit T.e_Horn rfl (pa_cons (pv 0) (pa_cons pe_str pa_nil)))) (pss_one (ps_ost (pv 0) (pv 1)))), ?_⟩
  refine ⟨_, rfl, a, _, [.str "no term"], rfl, by decide, T.e_Bad.oex, ha, _, rfl, _, rfl, a, _, rfl, T.e_Bad.oex, T.e_Bad.noF, .inl ⟨ha, fun d hd ne => q d hd ne⟩⟩
def spDem (K : PySem.W.Frag) (C : Addr) : Sp := fun vs H Q E => ∃ v d, vs = [v] ∧ OdAt K H v d ∧ sizeD d ≤ 60000 ∧ (isT d = true → ∀ u H', Ex H H' → Q u H') ∧ (isT d = false → RG.Comes C "term" v H E)
theorem ok_demand_term (T : Tx K mg) : FnOk P w K mg base (L2.CX P w) 5 T.f_demand_term T.d_demand_term ["term"] (spDem K T.a_Bad) := by
  refine T.h_demand_term.F.okX sc_demand_term (fun vs H Q E h => ?_) (fun cdv A outer s H vs Q E hr h => ?_)
  · obtain ⟨v, t, rfl, _⟩ := h
    rfl
  obtain ⟨v, d, rfl, hv, hz, q, e⟩ := h
  refine ⟨_, (pss_one (ps_if (pt_not (pt_val (cl (ok_is_term T) T.h_is_term hr (pa_cons (pv 0) pa_nil))))
      (pss_one (ps_raise rfl (takes_of rfl rfl rfl rfl) (pmk_oex T.e_Bad.oex T.e_Bad.iC T.e_Bad.tI (ok_bad_init T) (hr.mono (by decide)) T.b_Bad .nil pass0 rfl T.e_Bad.at_ (pa_cons (pv 0) pa_nil))))
      pss_nil)), ?_⟩
  refine ⟨_, rfl, v, d, rfl, hv, hz, fun H' e1 => ⟨isT d, rfl, ?_⟩⟩
  cases c : isT d with
  | true => exact iteF (q c _ _ e1)
  | false => exact iteT ⟨_, rfl, RG.made_err fun dd H2 h1 e2 h2 => e c dd H2 (ex_none e1 h1) (e1.trans e2) h2⟩
end
end Hm

set_option Elab.async false
set_option linter.all false
set_option maxRecDepth 100000
set_option maxHeartbeats 1000000
namespace Hm
open PySem PySem.Spec PyProof.Rows L2 HT
open Evl (Ex)
/-! ## a call of a local that holds one of several defs, by a word about the one -/
def tCallR (i : Nat) (S : Addr → Sp → Prop) (t : TA) : TE := fun σ H Q => ∃ f sp, σ[i]? = some (some (.ref f)) ∧ S f sp ∧ t σ H fun vs H1 => sp vs H1 Q (fun _ _ _ => False)
theorem pe_callR {X : Cx} {k i : Nat} {x : Str} {p pos : Pos} {e : Expr} {es : List Expr} {t : TA} {S : Addr → Sp → Prop} (A : ∀ f sp, S f sp → Held X.prog X.w X.K X.mg X.base k f sp) (hr : Room k X.A) (hN : X.N[i]? = some x) (hv : Vis X.env.scope x) (ha : PA X (e :: es) t)
    (hdb : (x == ("__debug__" : Str)) = false := by decide) (hcd : (x == ("__classdict__" : Str)) = false := by decide)
    (he : starEach (e :: es) X.env = (false, eval e X.env) :: starEach es X.env := by rfl) (hpl : (backTo pos (starEach es X.env)).any (·.1) = false := by rfl) : PE X (.Call (.Name x p) (e :: es) [] pos) (tCallR i S t) := by
  refine ⟨fun pins s σ H Q I h => ?_⟩
  obtain ⟨f, sp, hs, hS, ht⟩ := h
  exact (pe_callA (i := i) (S := fun g => if g = f then some sp else none) (fun g sp' z => by
    by_cases e : g = f
    · rw [if_pos e] at z
      injection z with z
      subst e
      subst z
      exact A _ _ hS
    · rw [if_neg e] at z
      cases z) hr hN hv ha hdb hcd he hpl).run pins s σ H Q I ⟨f, sp, hs, if_pos rfl, ht⟩
abbrev fNeg (x : Int) : Rs := .n (-x)
abbrev fAbs (x : Int) : Rs := .n (if x < 0 then -x else x)
abbrev fSgn (x : Int) : Rs := .n (b2i (decide (x > 0)) - b2i (decide (x < 0)))
abbrev fCpl (x : Int) : Rs := .n (-x - 1)
def one1 : List (Str × (Int → Rs)) := [("+", .n), ("-", fNeg), ("abs", fAbs), ("sign", fSgn), ("\\", fCpl), ("msb", fMsb)]
def two2 : List (Str × (Int → Int → Rs)) := [("+", fun x y => .n (x + y)), ("-", fun x y => .n (x - y)), ("*", fun x y => .n (x * y)), ("min", fun x y => .n (if y < x then y else x)), ("max", fun x y => .n (if y > x then y else x)), ("gcd", fun x y => .n ((Int.gcd x y : Nat) : Int)),
  ("/\\", fun x y => .n (Builtin.bitAnd x y)), ("\\/", fun x y => .n (Builtin.bitOr x y)), ("xor", fun x y => .n (Builtin.bitXor x y)), ("//", fTz), ("div", fDown), ("mod", fMod), ("rem", fRem), ("<<", fShl), (">>", fShr), ("**", fPow), ("^", fPow)]
section
variable {K : PySem.W.Frag} {mg : Str → Option Value}
def one0 (T : Ty K mg) : List (Str × Addr) := [("+", T.f_same), ("-", T.f_opposite), ("abs", T.f_absolute), ("sign", T.f_sign), ("\\", T.f_complement), ("msb", T.f_highest_bit)]
def two0 (T : Ty K mg) : List (Str × Addr) := [("+", T.f_sum), ("-", T.f_difference), ("*", T.f_product), ("min", T.f_least), ("max", T.f_greatest), ("gcd", T.f_common_divisor),
  ("/\\", T.f_both_bits), ("\\/", T.f_any_bits), ("xor", T.f_unlike_bits), ("//", T.f_towards_zero), ("div", T.f_downwards), ("mod", T.f_modulus), ("rem", T.f_remainder), ("<<", T.f_shift_left), (">>", T.f_shift_right), ("**", T.f_power), ("^", T.f_power)]
end
/-- with the two tables of operations -/
structure Tz (K : PySem.W.Frag) (w : World) (mg : Str → Option Value) extends Ty K mg where
  a_OF_ONE : Addr
  m_OF_ONE : mg "OF_ONE" = some (.ref a_OF_ONE)
  e_OF_ONE : Array DictEntry
  n_OF_ONE : Nat
  k_OF_ONE : KDict K w a_OF_ONE e_OF_ONE n_OF_ONE
  v_OF_ONE : ∀ z, PySem.W.nsIn K a_OF_ONE z = some (((one0 toTy).lookup z).map Value.ref)
  a_OF_TWO : Addr
  m_OF_TWO : mg "OF_TWO" = some (.ref a_OF_TWO)
  e_OF_TWO : Array DictEntry
  n_OF_TWO : Nat
  k_OF_TWO : KDict K w a_OF_TWO e_OF_TWO n_OF_TWO
  v_OF_TWO : ∀ z, PySem.W.nsIn K a_OF_TWO z = some (((two0 toTy).lookup z).map Value.ref)
section
variable {P : Program} {w : World} {K : PySem.W.Frag} {mg : Str → Option Value} {base : Heap}
/-- what the tables hold -/
structure Pr1 (P : Program) (w : World) (K : PySem.W.Frag) (mg : Str → Option Value) (base : Heap) (a : Str × Addr) (g : Str × (Int → Rs)) : Prop where
  nm : a.1 = g.1
  h : Held P w K mg base 2 a.2 (sp1 K (fun _ => True) g.2)
structure Pr2 (P : Program) (w : World) (K : PySem.W.Frag) (mg : Str → Option Value) (base : Heap) (a : Str × Addr) (g : Str × (Int → Int → Rs)) : Prop where
  nm : a.1 = g.1
  h : Held P w K mg base 2 a.2 (sp2 K (fun x y => Small x ∧ Small y) g.2)
theorem pr1 {K0 : PySem.W.Frag} {x : Str} {st : Stmt} {f : Addr} {fd : FuncData} {g : Int → Rs} {k : Nat} {z : Str} (D : Df K mg x st ["x"] [] f fd) (G : FnOk P w K mg base CX0 k f fd ["x"] (sp1 K (fun _ => True) g)) (hk : k ≤ 2) : Pr1 P w K mg base (z, f) (z, g) := by
  have h := G.mono hk
  exact ⟨rfl, ⟨fd, ["x"], h, D.F.kp, D.b⟩⟩
theorem pr2 {x : Str} {st : Stmt} {f : Addr} {fd : FuncData} {g : Int → Int → Rs} {k : Nat} {z : Str} (D : Df K mg x st ["x", "y"] [] f fd) (G : FnOk P w K mg base CX0 k f fd ["x", "y"] (sp2 K (fun x y => Small x ∧ Small y) g)) (hk : k ≤ 2) : Pr2 P w K mg base (z, f) (z, g) :=
  ⟨rfl, ⟨fd, ["x", "y"], G.mono hk, D.F.kp, D.b⟩⟩
theorem tab1 (T : Ty K mg) : PySem.Paired (Pr1 P w K mg base) (one0 T) one1 :=
  .cons (pr1 (K0 := K) T.h_same (ok_same T) (by decide)) (.cons (pr1 (K0 := K) T.h_opposite (ok_opposite T) (by decide)) (.cons (pr1 (K0 := K) T.h_absolute (ok_absolute T) (by decide)) (.cons (pr1 (K0 := K) T.h_sign (ok_sign T) (by decide)) (.cons (pr1 (K0 := K) T.h_complement (ok_complement T) (by decide)) (.cons (pr1 (K0 := K) T.h_highest_bit (ok_highest_bit T) (by decide)) .nil)))))
theorem tab2 (T : Ty K mg) : PySem.Paired (Pr2 P w K mg base) (two0 T) two2 :=
  .cons (pr2 T.h_sum (ok_sum T) (by decide)) <| .cons (pr2 T.h_difference (ok_difference T) (by decide)) <| .cons (pr2 T.h_product (ok_product T) (by decide)) <| .cons (pr2 T.h_least (ok_least T) (by decide)) <| .cons (pr2 T.h_greatest (ok_greatest T) (by decide)) <|
  .cons (pr2 T.h_common_divisor (ok_common_divisor T) (by decide)) <| .cons (pr2 T.h_both_bits (ok_both_bits T) (by decide)) <| .cons (pr2 T.h_any_bits (ok_any_bits T) (by decide)) <| .cons (pr2 T.h_unlike_bits (ok_unlike_bits T) (by decide)) <| .cons (pr2 T.h_towards_zero (ok_towards_zero T) (by decide)) <|
  .cons (pr2 T.h_downwards (ok_downwards T) (by decide)) <| .cons (pr2 T.h_modulus (ok_modulus T) (by decide)) <| .cons (pr2 T.h_remainder (ok_remainder T) (by decide)) <| .cons (pr2 T.h_shift_left (ok_shift_left T) (by decide)) <| .cons (pr2 T.h_shift_right (ok_shift_right T) (by decide)) <|
  .cons (pr2 T.h_power (ok_power T) (by decide)) <| .cons (pr2 T.h_power (ok_power T) (by decide)) .nil
theorem look1 {l : List (Str × Addr)} {m : List (Str × (Int → Rs))} (h : PySem.Paired (Pr1 P w K mg base) l m) (z : Str) : (l.lookup z).isSome = (m.lookup z).isSome ∧ ∀ g, m.lookup z = some g → ∃ f, l.lookup z = some f ∧ Held P w K mg base 2 f (sp1 K (fun _ => True) g) := by
  induction h with
  | nil => exact ⟨rfl, fun g e => nomatch e⟩
  | @cons a g l m p _ ih =>
    obtain ⟨a1, a2⟩ := a
    obtain ⟨g1, g2⟩ := g
    obtain ⟨e, hh⟩ := p
    dsimp only at e hh
    subst e
    rw [List.lookup_cons, List.lookup_cons]
    cases z == a1 with
    | true => exact ⟨rfl, fun g e => by cases e; exact ⟨a2, rfl, hh⟩⟩
    | false => exact ih
theorem look2 {l : List (Str × Addr)} {m : List (Str × (Int → Int → Rs))} (h : PySem.Paired (Pr2 P w K mg base) l m) (z : Str) : (l.lookup z).isSome = (m.lookup z).isSome ∧ ∀ g, m.lookup z = some g → ∃ f, l.lookup z = some f ∧ Held P w K mg base 2 f (sp2 K (fun x y => Small x ∧ Small y) g) := by
  induction h with
  | nil => exact ⟨rfl, fun g e => nomatch e⟩
  | @cons a g l m p _ ih =>
    obtain ⟨a1, a2⟩ := a
    obtain ⟨g1, g2⟩ := g
    obtain ⟨e, hh⟩ := p
    dsimp only at e hh
    subst e
    rw [List.lookup_cons, List.lookup_cons]
    cases z == a1 with
    | true => exact ⟨rfl, fun g e => by cases e; exact ⟨a2, rfl, hh⟩⟩
    | false => exact ih
/-! ### _bounded -/
def bnd : Rs → Rs
  | .n k => if Small k then .n k else .e dTooLong
  | .e d => .e d
theorem bnd_in {k : Int} (h : Small k) : bnd (.n k) = .n k := if_pos h
theorem bnd_out {k : Int} (h : ¬ Small k) : bnd (.n k) = .e dTooLong := if_neg h
def spBnd (K : PySem.W.Frag) : Sp := fun vs H Q _ => ∃ v r, vs = [v] ∧ RsAt K H v r ∧ ∀ v', RsAt K H v' (bnd r) → Q v' H
theorem ok_bounded (T : Ty K mg) : FnOk P w K mg base CX0 1 T.f_bounded T.d_bounded ["result"] (spBnd K) := by
  refine T.h_bounded.F.ok sc_bounded (fun vs H Q E h => ?_) (fun cdv A outer s H vs Q E hr h => ?_)
  · obtain ⟨v, r, rfl, _⟩ := h
    rfl
  obtain ⟨v, r, rfl, hv, q⟩ := h
  obtain ⟨tg, hc_TOO_GREAT⟩ := T.c_TOO_GREAT
  refine ⟨_, (pss_cons (ps_if (PW.pt (pw_and (pt_cmpR op_eq (pe_ix ix_tup (pv 0) pe_int (fun _ _ => rfl)) pe_str (nomark _)) (pw_and1 (pt_not (pt_chain op_lt op_lt (pe_un un_neg (pe_glob (v := .int tooGreat) rfl hc_TOO_GREAT ⟨_, rfl⟩)) (pe_ix ix_tup (pv 0) pe_int (fun _ _ => rfl)) (pe_glob (v := .int tooGreat) rfl hc_TOO_GREAT ⟨_, rfl⟩))))))
      (pss_one (ps_ret (pe_glob (v := .ref T.a_TOO_LONG) rfl T.m_TOO_LONG rfl)))
      pss_nil)
    (pss_one (ps_ret (pv 0)))), ?_⟩
  cases r with
  | e d =>
    have hv' := hv
    obtain ⟨a, x, rfl, h1, h2⟩ := hv
    refine ⟨_, rfl, a, _, 0, _, rfl, rfl, h1, rfl, rfl, _, rfl, ?_⟩
    show if decide (V.str "error" = V.str "value") = true then _ else _
    rw [decide_eq_false (by intro z; injection z with z; exact absurd z (by decide))]
    exact iteF (iteF ⟨_, rfl, q _ hv'⟩)
  | n k =>
    have hv' := hv
    obtain ⟨a, rfl, h1⟩ := hv
    refine ⟨_, rfl, a, _, 0, _, rfl, rfl, h1, rfl, rfl, _, rfl, ?_⟩
    show if decide (V.str "value" = V.str "value") = true then _ else _
    rw [decide_eq_true rfl]
    refine iteT ⟨_, rfl, _, rfl, a, _, 1, _, rfl, rfl, h1, rfl, _, _, rfl, rfl, _, rfl, ?_⟩
    by_cases h2 : -tooGreat < k
    · rw [decide_eq_true h2]
      refine iteT ⟨_, _, rfl, rfl, _, rfl, ?_⟩
      by_cases h3 : k < tooGreat
      · rw [decide_eq_true h3]
        exact iteF ⟨_, rfl, q _ (by rw [bnd_in ⟨h2, h3⟩]; exact hv')⟩
      · rw [decide_eq_false h3]
        exact iteT (q _ (by rw [bnd_out (fun z => h3 z.2)]; exact T.r_TOO_LONG H))
    · rw [decide_eq_false h2]
      exact iteF ⟨_, rfl, iteT (q _ (by rw [bnd_out (fun z => h2 z.1)]; exact T.r_TOO_LONG H))⟩
/-! ### _leaf -/
def dEv (f : Str) (n : Nat) : PyData := .tuple [.str "type_error", .str "evaluable", .tuple [.str "/", .str f, .int (n : Int)]]
def leafR : Tm → Rs
  | .var _ => .e (.str "instantiation_error")
  | .int i => .n i
  | .atom s => .e (dEv s 0)
  | .comp f as => .e (dEv f as.length)
theorem rs_ev {K : PySem.W.Frag} {H : Hp} {p1 p2 p3 : Addr} {f : Str} {n : Nat} {i : Int} (hi : i = (n : Int)) (h2 : upd H p1 (.tup [.str "/", .str f, .int i]) p2 = none) (h3 : upd (upd H p1 (.tup [.str "/", .str f, .int i])) p2 (.tup [.str "type_error", .str "evaluable", .ref p1]) p3 = none) :
    RsAt K (upd (upd (upd H p1 (.tup [.str "/", .str f, .int i])) p2 (.tup [.str "type_error", .str "evaluable", .ref p1])) p3 (.tup [.str "error", .ref p2])) (.ref p3) (.e (dEv f n)) := by
  subst hi
  exact ⟨p3, .ref p2, rfl, SqT.of upd_same, .tup (Evl.ex_t (Ex.new h3) (SqT.of upd_same)) (.cons (.str _) (.cons (.str _) (.cons (.tup (Evl.ex_t (Ex.new h3) (Evl.ex_t (Ex.new h2) (SqT.of upd_same))) (.cons (.str _) (.cons (.str _) (.cons (.int _) .nil)))) .nil)))⟩
def spLeaf (K : PySem.W.Frag) : Sp := fun vs H Q _ => ∃ v t, vs = [v] ∧ Rep K H t v ∧ Ok t ∧ ∀ v' H', Ex H H' → RsAt K H' v' (leafR t) → Q v' H'
theorem ok_leaf (T : Ty K mg) : FnOk P w K mg base CX0 2 T.f_leaf T.d_leaf ["term"] (spLeaf K) := by
  refine T.h_leaf.F.ok sc_leaf (fun vs H Q E h => ?_) (fun cdv A outer s H vs Q E hr h => ?_)
  · obtain ⟨v, r, rfl, _⟩ := h
    rfl
  obtain ⟨v, t, rfl, hR, hO, q⟩ := h
  refine ⟨_, (pss_cons (ps_if (pt_val (cl (ok_is_variable T.toTx) T.h_is_variable hr (pa_cons (pv 0) pa_nil)))
      (pss_one (ps_ret (pe_tup (pa_cons pe_str (pa_cons pe_str pa_nil)))))
      pss_nil)
    (pss_cons (ps_if (pt_val (pe_callB call_isi rfl T.b_isinstance (by decide +kernel) (pa_cons (pv 0) (pa_cons (pe_bltn (v := .ty "int") (u := .type "int") rfl T.b_int (by decide +kernel) rfl) pa_nil))))
      (pss_one (ps_ret (pe_tup (pa_cons pe_str (pa_cons (pv 0) pa_nil)))))
      pss_nil)
    (pss_cons (ps_asg (pe_ifExp (pt_val (pe_callB call_isi rfl T.b_isinstance (by decide +kernel) (pa_cons (pv 0) (pa_cons (pe_bltn (v := .ty "str") (u := .type "str") rfl T.b_str (by decide +kernel) rfl) pa_nil)))) (pe_tup (pa_cons (pv 0) (pa_cons pe_int pa_nil))) (pe_tup (pa_cons (pe_ix ix_tup (pv 0) pe_int (fun _ _ => rfl)) (pa_cons (pe_op op_sub (pe_callB call_len_seq rfl T.b_len (by decide +kernel) (pa_cons (pv 0) pa_nil)) pe_int) pa_nil)))) (pg_tup rfl (pgs_cons (pg_name (i := 1) sc_leaf.nd rfl (Or.inl rfl)) (pgs_cons (pg_name (i := 2) sc_leaf.nd rfl (Or.inl rfl)) pgs_nil))))
    (pss_one (ps_ret (pe_tup (pa_cons pe_str (pa_cons (pe_tup (pa_cons pe_str (pa_cons pe_str (pa_cons (pe_tup (pa_cons pe_str (pa_cons (pv 1) (pa_cons (pv 2) pa_nil)))) pa_nil)))) pa_nil)))))))), ?_⟩
  refine ⟨_, rfl, v, t, rfl, hR, hO, ?_⟩
  cases t with
  | var k => exact ⟨_, rfl, iteT ⟨(by show 2 ≤ sizeLine; decide), fun p hp => q _ _ (Ex.new hp) ⟨p, _, rfl, SqT.of upd_same, .str _⟩⟩⟩
  | int i =>
    unfold Rep at hR
    subst hR
    exact ⟨_, rfl, iteF ⟨_, rfl, _, _, _, _, true, rfl, .ty "int", .base (.int i), kit_ty (by decide +kernel), true, rfl, iteT ⟨_, rfl, (by show 2 ≤ sizeLine; decide), fun p hp => q _ _ (Ex.new hp) rs_n⟩⟩⟩
  | atom z =>
    unfold Rep at hR
    subst hR
    refine ⟨_, rfl, iteF ⟨_, rfl, _, _, _, _, false, rfl, .ty "int", .base (.str z), kit_ty (by decide +kernel), false, rfl, iteF ⟨_, rfl, _, _, _, _, true, rfl, .ty "str", .base (.str z), kit_ty (by decide +kernel), true, rfl, iteT ⟨_, rfl, (by show 2 ≤ sizeLine; decide), fun p hp => ?_⟩⟩⟩⟩
    refine ⟨p, _, rfl, SqT.of upd_same, rfl, _, _, rfl, _, _, rfl, rfl, _, rfl, _, rfl, (by show 3 ≤ sizeLine; decide), fun p1 hp1 => ?_⟩
    exact ⟨(by show 3 ≤ sizeLine; decide), fun p2 hp2 => ⟨(by show 2 ≤ sizeLine; decide), fun p3 hp3 => q _ _ ((Ex.new hp).trans ((Ex.new hp1).trans ((Ex.new hp2).trans (Ex.new hp3)))) (rs_ev rfl hp2 hp3)⟩⟩
  | comp f as =>
    unfold Rep at hR
    obtain ⟨a, ws, rfl, hT, hA⟩ := hR
    refine ⟨_, rfl, iteF ⟨_, rfl, _, _, _, _, false, rfl, .ty "int", tyx_tup hT, kit_ty (by decide +kernel), false, rfl, iteF ⟨_, rfl, _, _, _, _, false, rfl, .ty "str", tyx_tup hT, kit_ty (by decide +kernel), false, rfl, iteF ?_⟩⟩⟩
    refine ⟨_, rfl, a, _, 0, _, rfl, rfl, hT, at0, _, rfl, a, _, rfl, .inr hT, _, _, rfl, rfl, (by show 2 ≤ sizeLine; decide), fun p hp => ?_⟩
    have e : (((V.str f :: ws).length : Nat) : Int) - 1 = ((as.length : Nat) : Int) := by
      have := hA.len
      rw [List.length_cons]
      omega
    refine ⟨p, _, rfl, SqT.of upd_same, rfl, _, _, rfl, _, _, rfl, rfl, _, rfl, _, rfl, (by show 3 ≤ sizeLine; decide), fun p1 hp1 => ?_⟩
    exact ⟨(by show 3 ≤ sizeLine; decide), fun p2 hp2 => ⟨(by show 2 ≤ sizeLine; decide), fun p3 hp3 => q _ _ ((Ex.new hp).trans ((Ex.new hp1).trans ((Ex.new hp2).trans (Ex.new hp3)))) (rs_ev e hp2 hp3)⟩⟩
/-! ### _is_operation -/
def isOp : Tm → Bool
  | .comp f [_] => (one1.lookup f).isSome
  | .comp f [_, _] => (two2.lookup f).isSome
  | _ => false
def spIsOp (K : PySem.W.Frag) : Sp := fun vs H Q _ => ∃ v t, vs = [v] ∧ Rep K H t v ∧ Ok t ∧ Q (.bl (isOp t)) H
theorem ok_is_operation (T : Tz K w mg) : FnOk P w K mg base CX0 1 T.f_is_operation T.d_is_operation ["term"] (spIsOp K) := by
  refine T.h_is_operation.F.ok sc_is_operation (fun vs H Q E h => ?_) (fun cdv A outer s H vs Q E hr h => ?_)
  · obtain ⟨v, r, rfl, _⟩ := h
    rfl
  obtain ⟨v, t, rfl, hR, hO, q⟩ := h
  refine ⟨_, (pss_cons (ps_if (pt_not (pt_val (pe_callB call_isi rfl T.b_isinstance (by decide +kernel) (pa_cons (pv 0) (pa_cons (pe_bltn (v := .ty "tuple") (u := .type "tuple") rfl T.b_tuple (by decide +kernel) rfl) pa_nil)))))
      (pss_one (ps_ret pe_bl))
      pss_nil)
    (pss_one (ps_ret (pe_or (pe_and (pe_cmpR op_eq (pe_callB call_len_seq rfl T.b_len (by decide +kernel) (pa_cons (pv 0) pa_nil)) pe_int (nomark _)) (pe_one (pe_cmpR (op_in_kd T.k_OF_ONE) (pe_ix ix_tup (pv 0) pe_int (fun _ _ => rfl)) (pe_glob (v := .ref T.a_OF_ONE) rfl T.m_OF_ONE rfl) (by rfl)))) (pe_one (pe_and (pe_cmpR op_eq (pe_callB call_len_seq rfl T.b_len (by decide +kernel) (pa_cons (pv 0) pa_nil)) pe_int (nomark _)) (pe_one (pe_cmpR (op_in_kd T.k_OF_TWO) (pe_ix ix_tup (pv 0) pe_int (fun _ _ => rfl)) (pe_glob (v := .ref T.a_OF_TWO) rfl T.m_OF_TWO rfl) (by rfl))))))))), ?_⟩
  have look0 : ∀ z, ((one0 T.toTy).lookup z).isSome = (one1.lookup z).isSome := fun z => (look1 (P := P) (w := w) (base := base) (tab1 T.toTy) z).1
  have look0' : ∀ z, ((two0 T.toTy).lookup z).isSome = (two2.lookup z).isSome := fun z => (look2 (P := P) (w := w) (base := base) (tab2 T.toTy) z).1
  cases t with
  | var k =>
    unfold Rep at hR
    obtain ⟨a, rfl, hT⟩ := hR
    exact ⟨_, rfl, _, _, _, _, true, rfl, .ty "tuple", tyx_tup hT, kit_ty (by decide +kernel), true, rfl, iteF ⟨_, rfl, a, _, rfl, .inr hT, rfl, _, rfl, iteF ⟨_, rfl, iteF ⟨_, rfl, a, _, rfl, .inr hT, rfl, _, rfl, iteF q⟩⟩⟩⟩
  | int i =>
    unfold Rep at hR
    subst hR
    exact ⟨_, rfl, _, _, _, _, false, rfl, .ty "tuple", .base (.int i), kit_ty (by decide +kernel), false, rfl, iteT q⟩
  | atom z =>
    unfold Rep at hR
    subst hR
    exact ⟨_, rfl, _, _, _, _, false, rfl, .ty "tuple", .base (.str z), kit_ty (by decide +kernel), false, rfl, iteT q⟩
  | comp f as =>
    unfold Rep at hR
    obtain ⟨a, ws, rfl, hT, hA⟩ := hR
    refine ⟨_, rfl, _, _, _, _, true, rfl, .ty "tuple", tyx_tup hT, kit_ty (by decide +kernel), true, rfl, iteF ?_⟩
    have hl := hA.len
    have dec : ∀ m : Nat, decide (V.int (((V.str f :: ws).length : Nat) : Int) = V.int ((m + 1 : Nat) : Int)) = decide (as.length = m) := fun m => by
      rw [dec_len]
      congr 1
      rw [List.length_cons, hl]
      exact propext ⟨fun h => by omega, fun h => by omega⟩
    refine ⟨_, rfl, a, _, rfl, .inr hT, rfl, _, rfl, ?_⟩
    show if decide (V.int (((V.str f :: ws).length : Nat) : Int) = V.int ((1 + 1 : Nat) : Int)) = true then _ else _
    rw [dec 1]
    by_cases h1 : as.length = 1
    · rw [decide_eq_true h1]
      obtain ⟨x, rfl⟩ := List.length_eq_one_iff.mp h1
      refine iteT ⟨_, rfl, a, _, 0, _, rfl, rfl, hT, at0, f, _, rfl, rfl, T.v_OF_ONE f, ?_⟩
      rw [Option.isSome_map, look0]
      cases ho : (one1.lookup f).isSome with
      | true => exact ⟨_, rfl, iteT ((show isOp (.comp f [x]) = true from ho) ▸ q)⟩
      | false =>
        refine ⟨_, rfl, iteF ⟨_, rfl, a, _, rfl, .inr hT, rfl, _, rfl, ?_⟩⟩
        show if decide (V.int (((V.str f :: ws).length : Nat) : Int) = V.int ((2 + 1 : Nat) : Int)) = true then _ else _
        rw [dec 2, decide_eq_false (by rw [h1]; decide)]
        exact iteF ((show isOp (.comp f [x]) = false from ho) ▸ q)
    · rw [decide_eq_false h1]
      refine iteF ⟨_, rfl, iteF ⟨_, rfl, a, _, rfl, .inr hT, rfl, _, rfl, ?_⟩⟩
      show if decide (V.int (((V.str f :: ws).length : Nat) : Int) = V.int ((2 + 1 : Nat) : Int)) = true then _ else _
      rw [dec 2]
      by_cases h2 : as.length = 2
      · rw [decide_eq_true h2]
        obtain ⟨x, y, rfl⟩ : ∃ x y, as = [x, y] := by
          match as, h2 with
          | [x, y], _ => exact ⟨x, y, rfl⟩
        refine iteT ⟨_, rfl, a, _, 0, _, rfl, rfl, hT, at0, f, _, rfl, rfl, T.v_OF_TWO f, ?_⟩
        rw [Option.isSome_map, look0']
        exact q
      · rw [decide_eq_false h2]
        have : isOp (.comp f as) = false := by
          match as, h1, h2 with
          | [], _, _ => rfl
          | [_], h, _ => exact absurd rfl h
          | [_, _], _, h => exact absurd rfl h
          | _ :: _ :: _ :: _, _, _ => rfl
        exact iteF (this ▸ q)
/-! ### _operated -/
def spOper (K : PySem.W.Frag) : Sp := fun vs H Q _ => ∃ z a xs r, vs = [.str z, .ref a] ∧ SqL K H a xs ∧ ((∃ x g, xs = [.int x] ∧ one1.lookup z = some g ∧ r = g x) ∨ (∃ x y g, xs = [.int x, .int y] ∧ Small x ∧ Small y ∧ two2.lookup z = some g ∧ r = g x y)) ∧ ∀ v' H', Ex H H' → RsAt K H' v' r → Q v' H'
theorem ok_operated (T : Tz K w mg) : FnOk P w K mg base CX0 3 T.f_operated T.d_operated ["name", "values"] (spOper K) := by
  refine T.h_operated.F.ok sc_operated (fun vs H Q E h => ?_) (fun cdv A outer s H vs Q E hr h => ?_)
  · obtain ⟨v, r, _, _, rfl, _⟩ := h
    rfl
  obtain ⟨z, a, xs, r, rfl, hS, hc, q⟩ := h
  refine ⟨_, (pss_cons (ps_if (pt_cmpR op_eq (pe_callB call_len_seq rfl T.b_len (by decide +kernel) (pa_cons (pv 1) pa_nil)) pe_int (nomark _))
      (pss_cons (ps_set (i := 2) sc_operated.nd rfl (Or.inl rfl) (pe_ix ix_kdict (pe_glob (v := .ref T.a_OF_ONE) rfl T.m_OF_ONE rfl) (pv 0) (fun _ _ => rfl)))
    (pss_one (ps_ret (pe_callR (i := 2) (S := Held P w K mg base 2) (fun _ _ h => h) (hr.mono (by decide)) rfl (Or.inl rfl) (pa_cons (pe_ix ix_list (pv 1) pe_int (fun _ _ => rfl)) pa_nil)))))
      pss_nil)
    (pss_cons (ps_set (i := 3) sc_operated.nd rfl (Or.inl rfl) (pe_ix ix_kdict (pe_glob (v := .ref T.a_OF_TWO) rfl T.m_OF_TWO rfl) (pv 0) (fun _ _ => rfl)))
    (pss_one (ps_ret (pe_callR (i := 3) (S := Held P w K mg base 2) (fun _ _ h => h) (hr.mono (by decide)) rfl (Or.inl rfl) (pa_cons (pe_ix ix_list (pv 1) pe_int (fun _ _ => rfl)) (pa_cons (pe_ix ix_list (pv 1) pe_int (fun _ _ => rfl)) pa_nil))))))), ?_⟩
  have kd1 : ∀ {g}, one1.lookup z = some g → ∃ f, KDct K w T.a_OF_ONE z (.ref f) ∧ Held P w K mg base 2 f (sp1 K (fun _ => True) g) := fun {g} e => by
    obtain ⟨f, h1, h2⟩ := (look1 (P := P) (w := w) (base := base) (tab1 T.toTy) z).2 g e
    exact ⟨f, ⟨_, _, .ref f, T.k_OF_ONE.at_, T.k_OF_ONE.lit, by rw [T.v_OF_ONE, h1]; rfl, rfl⟩, h2⟩
  have kd2 : ∀ {g}, two2.lookup z = some g → ∃ f, KDct K w T.a_OF_TWO z (.ref f) ∧ Held P w K mg base 2 f (sp2 K (fun x y => Small x ∧ Small y) g) := fun {g} e => by
    obtain ⟨f, h1, h2⟩ := (look2 (P := P) (w := w) (base := base) (tab2 T.toTy) z).2 g e
    exact ⟨f, ⟨_, _, .ref f, T.k_OF_TWO.at_, T.k_OF_TWO.lit, by rw [T.v_OF_TWO, h1]; rfl, rfl⟩, h2⟩
  refine ⟨_, rfl, a, _, rfl, .inl hS, rfl, _, rfl, ?_⟩
  rcases hc with ⟨x, g, rfl, hg, rfl⟩ | ⟨x, y, g, rfl, hx, hy, hg, rfl⟩
  · obtain ⟨f, h1, h2⟩ := kd1 hg
    refine iteT ⟨_, rfl, _, z, _, rfl, rfl, h1, ?_⟩
    exact ⟨f, _, rfl, h2, _, rfl, a, _, 0, _, rfl, rfl, hS, rfl, x, rfl, trivial, q⟩
  · obtain ⟨f, h1, h2⟩ := kd2 hg
    refine iteF ⟨_, rfl, _, z, _, rfl, rfl, h1, ?_⟩
    exact ⟨f, _, rfl, h2, _, rfl, a, _, 0, _, rfl, rfl, hS, rfl, _, rfl, a, _, 1, _, rfl, rfl, hS, rfl, x, y, rfl, ⟨hx, hy⟩, q⟩
end
end Hm

set_option Elab.async false
set_option linter.all false
set_option maxRecDepth 100000
set_option maxHeartbeats 1000000
namespace Hm
open PySem PySem.Spec PyProof.Rows L2 HT
/-! ## what a term stands for, and the way there with a stack -/
def opR (f : Str) : List Int → Rs
  | [x] => ((one1.lookup f).map fun g => g x).getD (.n 0)
  | [x, y] => ((two2.lookup f).map fun g => g x y).getD (.n 0)
  | _ => .n 0
mutual
def ev : Tm → Rs
  | .comp f as => if isOp (.comp f as) = true then (match evs as with
      | .error d => .e d
      | .ok ks => bnd (opR f ks)) else leafR (.comp f as)
  | .var k => leafR (.var k)
  | .int i => leafR (.int i)
  | .atom s => leafR (.atom s)
def evs : List Tm → Except PyData (List Int)
  | [] => .ok []
  | t :: ts => match ev t with
    | .e d => .error d
    | .n k => match evs ts with
      | .error d => .error d
      | .ok ks => .ok (k :: ks)
end
inductive It where
  | t (t : Tm)
  | o (f : Str) (n : Nat)
def run : List It → List Int → Rs
  | [], vs => .n (vs.headD 0)
  | .t t :: S, vs => match ev t with
    | .e d => .e d
    | .n k => run S (vs ++ [k])
  | .o f n :: S, vs => match bnd (opR f (vs.drop (vs.length - n))) with
    | .e d => .e d
    | .n k => run S (vs.take (vs.length - n) ++ [k])
theorem isOp_cases {f : Str} {as : List Tm} (h : isOp (.comp f as) = true) : (∃ x, as = [x] ∧ (one1.lookup f).isSome = true) ∨ (∃ x y, as = [x, y] ∧ (two2.lookup f).isSome = true) := by
  match as, h with
  | [x], h => exact .inl ⟨x, rfl, h⟩
  | [x, y], h => exact .inr ⟨x, y, rfl, h⟩
theorem run_leaf {t : Tm} {S : List It} {vs : List Int} (h : isOp t = false) : run (.t t :: S) vs = (match leafR t with
    | .e d => .e d
    | .n k => run S (vs ++ [k])) := by
  have e : ev t = leafR t := by
    cases t with
    | comp f as => rw [ev, if_neg (by rw [h]; decide)]
    | var k => rw [ev]
    | int k => rw [ev]
    | atom k => rw [ev]
  rw [run, e]
theorem take_app1 (vs : List Int) (k : Int) : (vs ++ [k]).take ((vs ++ [k]).length - 1) = vs ∧ (vs ++ [k]).drop ((vs ++ [k]).length - 1) = [k] := by
  have e : (vs ++ [k]).length - 1 = vs.length := by rw [List.length_append]; rfl
  rw [e]
  exact ⟨List.take_left, List.drop_left⟩
theorem take_app2 (vs : List Int) (j k : Int) : (vs ++ [j] ++ [k]).take ((vs ++ [j] ++ [k]).length - 2) = vs ∧ (vs ++ [j] ++ [k]).drop ((vs ++ [j] ++ [k]).length - 2) = [j, k] := by
  have e : (vs ++ [j] ++ [k]).length - 2 = vs.length := by rw [List.length_append, List.length_append]; rfl
  rw [e, List.append_assoc]
  exact ⟨List.take_left, List.drop_left⟩
theorem run_op {f : Str} {as : List Tm} {S : List It} {vs : List Int} (h : isOp (.comp f as) = true) : run (.t (.comp f as) :: S) vs = run (as.map .t ++ .o f as.length :: S) vs := by
  rcases isOp_cases h with ⟨x, rfl, _⟩ | ⟨x, y, rfl, _⟩
  · show run (.t (.comp f [x]) :: S) vs = run (.t x :: .o f 1 :: S) vs
    rw [run, ev, if_pos h, run, evs, evs]
    cases ev x with
    | e d => rfl
    | n k =>
      dsimp only
      rw [run, (take_app1 vs k).1, (take_app1 vs k).2]
  · show run (.t (.comp f [x, y]) :: S) vs = run (.t x :: .t y :: .o f 2 :: S) vs
    rw [run, ev, if_pos h, run, evs, evs, evs]
    cases ev x with
    | e d => rfl
    | n j =>
      dsimp only
      rw [run]
      cases ev y with
      | e d => rfl
      | n k =>
        dsimp only
        rw [run, (take_app2 vs j k).1, (take_app2 vs j k).2]
/-- a stack that fits -/
def fits : List It → Nat → Prop
  | [], m => m = 1
  | .t t :: S, m => Ok t ∧ fits S (m + 1)
  | .o f n :: S, m => n ≤ m ∧ ((n = 1 ∧ (one1.lookup f).isSome = true) ∨ (n = 2 ∧ (two2.lookup f).isSome = true)) ∧ fits S (m - n + 1)
theorem fits_op {f : Str} {as : List Tm} {S : List It} {m : Nat} (h : isOp (.comp f as) = true) (hO : Ok (.comp f as)) (hS : fits S (m + 1)) : fits (as.map .t ++ .o f as.length :: S) m := by
  unfold Ok at hO
  rcases isOp_cases h with ⟨x, rfl, hf⟩ | ⟨x, y, rfl, hf⟩
  · have h1 := hO.2.2.2
    rw [oks_cons] at h1
    exact ⟨h1.1, Nat.le_add_left 1 m, .inl ⟨rfl, hf⟩, (by show fits S (m + 1 - 1 + 1); rw [show m + 1 - 1 + 1 = m + 1 by omega]; exact hS)⟩
  · have h1 := hO.2.2.2
    rw [oks_cons, oks_cons] at h1
    exact ⟨h1.1, h1.2.1, (by show 2 ≤ m + 1 + 1; omega), .inr ⟨rfl, hf⟩, (by show fits S (m + 1 + 1 - 2 + 1); rw [show m + 1 + 1 - 2 + 1 = m + 1 by omega]; exact hS)⟩
theorem bnd_small {r : Rs} {k : Int} (h : bnd r = .n k) : Small k := by
  cases r with
  | e d => cases h
  | n j =>
    by_cases c : Small j
    · rw [bnd_in c] at h
      cases h
      exact c
    · rw [bnd_out c] at h
      cases h
theorem leaf_small {t : Tm} {k : Int} (hO : Ok t) (h : leafR t = .n k) : Small k := by
  cases t with
  | int i =>
    cases h
    unfold Ok at hO
    exact hO
  | var i => cases h
  | atom i => cases h
  | comp f as => cases h
/-- how much is left to do -/
def left : List It → Nat
  | [] => 0
  | .t t :: S => 2 * size t + left S
  | .o _ _ :: S => 1 + left S
theorem left_app (a b : List It) : left (a ++ b) = left a + left b := by
  induction a with
  | nil => simp [left]
  | cons x a ih =>
    cases x with
    | t t => show 2 * size t + left (a ++ b) = 2 * size t + left a + left b; omega
    | o f n => show 1 + left (a ++ b) = 1 + left a + left b; omega
end Hm

set_option Elab.async false
set_option linter.all false
set_option maxRecDepth 100000
set_option maxHeartbeats 1000000
namespace Hm
open PySem PySem.Spec PyProof.Rows L2 HT
open Evl (Ex)
section
variable {P : Program} {w : World} {K : PySem.W.Frag} {mg : Str → Option Value} {base : Heap}
def spReck (K : PySem.W.Frag) (C : Addr) : Sp := fun vs H Q E => ∃ v, vs = [v] ∧ ((∃ t, Rep K H t v ∧ Ok t ∧ size t ≤ 1000 ∧ ∀ v' H', Ex H H' → RsAt K H' v' (ev t) → Q v' H') ∨ ∃ d, OdAt K H v d ∧ sizeD d ≤ 60000 ∧ isT d = false ∧ RG.Comes C "term" v H E)
/-- an item of the stack as it lies -/
def ItAt (K : PySem.W.Frag) (H : Hp) (x : V) : It → Prop
  | .t t => ∃ a v, x = .ref a ∧ SqT K H a [v, .int 0, .bl false] ∧ Rep K H t v
  | .o f n => ∃ a, x = .ref a ∧ SqT K H a [.str f, .int (n : Int), .bl true]
theorem ItAt.mono {H H' : Hp} (m : Tups K H H') {x : V} {i : It} (h : ItAt K H x i) : ItAt K H' x i := by
  cases i with
  | t t =>
    obtain ⟨a, v, e, h1, h2⟩ := h
    exact ⟨a, v, e, m _ _ h1, h2.mono m⟩
  | o f n =>
    obtain ⟨a, e, h1⟩ := h
    exact ⟨a, e, m _ _ h1⟩
theorem stk_mono {H H' : Hp} (m : Tups K H H') {ws : List V} {S : List It} (h : PySem.Paired (ItAt K H) ws S) : PySem.Paired (ItAt K H') ws S := Paired.mapP h fun _ _ q => q.mono m
theorem paired_snoc {α β : Type} {F : α → β → Prop} : ∀ {l1 : List α} {l2 : List β} {a : α} {b : β}, PySem.Paired F l1 l2 → F a b → PySem.Paired F (l1 ++ [a]) (l2 ++ [b])
  | _, _, _, _, .nil, h => .cons h .nil
  | _, _, _, _, .cons p r, h => .cons p (paired_snoc r h)
theorem paired_unsnoc {α β : Type} {F : α → β → Prop} : ∀ {l2 : List β} {l1 : List α} {b : β}, PySem.Paired F l1 (l2 ++ [b]) → ∃ r a, l1 = r ++ [a] ∧ PySem.Paired F r l2 ∧ F a b
  | [], _, _, .cons p .nil => ⟨[], _, rfl, .nil, p⟩
  | _ :: _, _, _, .cons p r => by
    obtain ⟨r', a, e, h1, h2⟩ := paired_unsnoc r
    exact ⟨_ :: r', a, by rw [e]; rfl, .cons p h1, h2⟩
/-- where the loop stands -/
structure RkS (K : PySem.W.Frag) (H : Hp) (L W : Addr) (t : Tm) (H' : Hp) (S : List It) (vs : List Int) (ws : List V) : Prop where
  ex : Ex H H'
  hL : H' L = some (.lst (vs.map V.int))
  hW : H' W = some (.lst ws)
  st : PySem.Paired (ItAt K H') ws S.reverse
  ft : fits S vs.length
  sm : ∀ k ∈ vs, Small k
  rn : run S vs = ev t
  mx : left S + vs.length ≤ 100000
def RkI (K : PySem.W.Frag) (H : Hp) (L W : Addr) (v : V) (t : Tm) (m : Nat) (σ' : L2.St) (H' : Hp) : Prop :=
  ∃ S vs ws u3 u4 u5 u6 u7, σ' = [some v, some (.ref L), some (.ref W), u3, u4, u5, u6, u7] ∧ RkS K H L W t H' S vs ws ∧ left S = m
def goOn (S : List It) (vs : List Int) : Rs → Rs
  | .e d => .e d
  | .n k => run S (vs ++ [k])
theorem go_leaf {t : Tm} {S : List It} {vs : List Int} (h : isOp t = false) : run (.t t :: S) vs = goOn S vs (leafR t) := by
  rw [run_leaf h]
  cases leafR t <;> rfl
theorem go_op {f : Str} {n : Nat} {S : List It} {vs : List Int} : run (.o f n :: S) vs = goOn S (vs.take (vs.length - n)) (bnd (opR f (vs.drop (vs.length - n)))) := by
  rw [run]
  cases bnd (opR f (vs.drop (vs.length - n))) <;> rfl
structure MidS (K : PySem.W.Frag) (H : Hp) (L W : Addr) (t : Tm) (S : List It) (ws : List V) (H2 : Hp) (x6 : V) (r : Rs) (vs : List Int) : Prop where
  ex : Ex H H2
  hL : H2 L = some (.lst (vs.map V.int))
  hW : H2 W = some (.lst ws)
  st : PySem.Paired (ItAt K H2) ws S.reverse
  rs : RsAt K H2 x6 r
  ft : fits S (vs.length + 1)
  sm : ∀ k ∈ vs, Small k
  rm : ∀ k, r = .n k → Small k
  rn : goOn S vs r = ev t
theorem paired_len {α β : Type} {F : α → β → Prop} : ∀ {l1 : List α} {l2 : List β}, PySem.Paired F l1 l2 → l1.length = l2.length
  | _, _, .nil => rfl
  | _, _, .cons _ r => by rw [List.length_cons, List.length_cons, paired_len r]
theorem paired_app {α β : Type} {F : α → β → Prop} : ∀ {l1 : List α} {l2 : List β} {m1 : List α} {m2 : List β}, PySem.Paired F l1 l2 → PySem.Paired F m1 m2 → PySem.Paired F (l1 ++ m1) (l2 ++ m2)
  | _, _, _, _, .nil, h => h
  | _, _, _, _, .cons p r, h => .cons p (paired_app r h)
theorem len_left : ∀ S : List It, S.length ≤ left S
  | [] => Nat.le_refl _
  | .t t :: S => by
    have h := len_left S
    have h1 := size_pos t
    show S.length + 1 ≤ 2 * size t + left S
    omega
  | .o f n :: S => by
    have h := len_left S
    show S.length + 1 ≤ 1 + left S
    omega
theorem left_args : ∀ as : List Tm, left (as.map .t) = 2 * sizes as
  | [] => rfl
  | t :: as => by
    have h := left_args as
    show 2 * size t + left (as.map .t) = 2 * (size t + sizes as)
    omega
theorem reps_get {K : PySem.W.Frag} {H : Hp} : ∀ {ts : List Tm} {vs : List V} {i : Nat} {x : V}, Reps K H ts vs → vs[i]? = some x → ∃ t, ts[i]? = some t ∧ Rep K H t x
  | [], _, i, x, h, e => by
    rw [h.nil_inv] at e
    cases e
  | t :: ts, _, i, x, h, e => by
    obtain ⟨v, ws, rfl, h1, h2⟩ := h.cons_inv
    cases i with
    | zero =>
      cases e
      exact ⟨t, rfl, h1⟩
    | succ i => exact reps_get (i := i) h2 e
theorem cut_tail (xs : List V) (k : Nat) (h1 : 1 ≤ k) (h : k ≤ xs.length) : cutV xs (some (-(k : Int))) none = xs.drop (xs.length - k) := by
  have e : sIx xs.length 0 (some (-(k : Int))) = xs.length - k := by
    show (if -(k : Int) < 0 then (-(k : Int) + (xs.length : Int)).toNat else min (-(k : Int)).toNat xs.length) = _
    rw [if_pos (by omega)]
    omega
  have e2 : sIx xs.length xs.length none = xs.length := rfl
  unfold cutV
  rw [e, e2, List.take_of_length_le (by rw [List.length_drop]; omega)]
theorem ok_reckoned (T : Tz K w mg) : FnOk P w K mg base (L2.CX P w) 6 T.f_reckoned T.d_reckoned ["term"] (spReck K T.a_Bad) := by
  refine T.h_reckoned.F.okX sc_reckoned (fun vs H Q E h => ?_) (fun cdv A outer s H vs Q E hr h => ?_)
  · obtain ⟨v, rfl, _⟩ := h
    rfl
  obtain ⟨v, rfl, h⟩ := h
  refine ⟨_, (pss_cons (ps_expr (pe_callS (ok_demand_term T.toTx) (hr.mono (by decide)) rfl T.h_demand_term.m T.h_demand_term.F.kp T.h_demand_term.b (fun σ => passAt (takes_of rfl rfl rfl rfl) σ) (pa_cons (pv 0) pa_nil)))
    (PSs.nox (pss_cons (ps_set (i := 1) sc_reckoned.nd rfl (Or.inl rfl) (pe_lst pa_nil))
    (pss_cons (ps_set (i := 2) sc_reckoned.nd rfl (Or.inl rfl) (pe_lst (pa_cons (pe_tup (pa_cons (pv 0) (pa_cons pe_int (pa_cons pe_bl pa_nil)))) pa_nil)))
    (pss_cons (ps_while PassesOwn.never (pt_truth (pv 2) (by intro _; rfl))
      (pss_cons (ps_asg (pe_bm0 PySem.F.plainAttrs_list PySem.F.slot_list_pop PySem.F.type_list_pop mt_pop (pv 2)) (pg_tup rfl (pgs_cons (pg_name (i := 3) sc_reckoned.nd rfl (Or.inl rfl)) (pgs_cons (pg_name (i := 4) sc_reckoned.nd rfl (Or.inl rfl)) (pgs_cons (pg_name (i := 5) sc_reckoned.nd rfl (Or.inl rfl)) pgs_nil)))))
    (Evl.pss_cut (ps_if (pt_truth (pv 5) (by intro _; rfl))
      (pss_cons (ps_set (i := 6) sc_reckoned.nd rfl (Or.inl rfl) (cl (ok_bounded T.toTy) T.h_bounded hr (pa_cons (cl (ok_operated T) T.h_operated hr (pa_cons (pv 3) (pa_cons (pe_slice sl_list (pv 1) (po_some (pe_un un_neg (pv 4))) po_none) pa_nil))) pa_nil)))
    (pss_one (ps_delTail (pv 1) (pe_un un_neg (pv 4)))))
      (pss_one (ps_if (pt_val (cl (ok_is_operation T) T.h_is_operation hr (pa_cons (pv 3) pa_nil)))
      (pss_cons (ps_expr (pe_bm PySem.F.plainAttrs_list PySem.F.slot_list_append PySem.F.type_list_append mt_append (pv 2) (pa_cons (pe_tup (pa_cons (pe_ix ix_tup (pv 3) pe_int (fun _ _ => rfl)) (pa_cons (pe_op op_sub (pe_callB call_len_seq rfl T.b_len (by decide +kernel) (pa_cons (pv 3) pa_nil)) pe_int) (pa_cons pe_bl pa_nil)))) pa_nil)))
    (pss_cons (ps_expr (pe_bm PySem.F.plainAttrs_list PySem.F.slot_list_extend PySem.F.type_list_extend mt_extend (pv 2) (pa_cons (pe_lc (own := [("inner", 7)]) (g := gName 7) rfl sc_reckoned.nd (pi_tup (pe_revT0 (pv 3))) (blkOk_by (own := [("inner", 7)]) (N := ["term", "values", "waiting", "what", "many", "is_ready", "result", "inner"]) (sc := defScope s_reckoned) (by decide +kernel)) (fun _ _ _ _ _ => pg_name (i := 7) sc_reckoned.nd rfl (Or.inl rfl)) (fun _ _ _ _ _ => pts_nil) (fun _ _ _ _ _ => (pe_tup (pa_cons (pv 7) (pa_cons pe_int (pa_cons pe_bl pa_nil)))))) pa_nil)))
    (pss_one ps_continue)))
      (pss_one (ps_set (i := 6) sc_reckoned.nd rfl (Or.inl rfl) (cl (ok_leaf T.toTy) T.h_leaf hr (pa_cons (pv 3) pa_nil)))))))
    (pss_cons (ps_if (pt_cmpR op_eq (pe_ix ix_tup (pv 6) pe_int (fun _ _ => rfl)) pe_str (nomark _))
      (pss_one (ps_ret (pv 6)))
      pss_nil)
    (pss_one (ps_expr (pe_bm PySem.F.plainAttrs_list PySem.F.slot_list_append PySem.F.type_list_append mt_append (pv 1) (pa_cons (pe_ix ix_tup (pv 6) pe_int (fun _ _ => rfl)) pa_nil))))))))
    (pss_one (ps_ret (pe_tup (pa_cons pe_str (pa_cons (pe_ix ix_list (pv 1) pe_int (fun _ _ => rfl)) pa_nil)))))))))), ?_⟩
  rcases h with ⟨t, hR, hO, hz, q⟩ | ⟨d, hv, hz, hf, hE⟩
  rotate_left
  · exact ⟨_, rfl, v, d, rfl, hv, hz, (fun c => by rw [hf] at c; cases c), fun _ => hE⟩
  have hzt := sizeD_tm hO
  refine ⟨_, rfl, v, odT t, rfl, od_rep hR, by omega, fun _ _ H0 e0 => ?_, fun c => by rw [isT_tm hO] at c; cases c⟩
  refine ⟨Nat.zero_le _, fun L hL => ?_⟩
  refine ⟨_, rfl, (by show 3 ≤ sizeLine; decide), fun p hp => ⟨(by show 1 ≤ sizeLine; decide), fun W hW => ?_⟩⟩
  have hLW : L ≠ W := fun z => by
    subst z
    rw [Ex.new hp _ _ upd_same] at hW
    cases hW
  have eW : Ex H0 (upd (upd (upd H0 L (.lst [])) p (.tup [v, .int 0, .bl false])) W (.lst [.ref p])) := (Ex.new hL).trans ((Ex.new hp).trans (Ex.new hW))
  have hL0 : H L = none := by
    cases hh : H L with
    | none => rfl
    | some o => rw [e0 _ _ hh] at hL; cases hL
  have hW0 : H W = none := by
    cases hh : H W with
    | none => rfl
    | some o => rw [Ex.new hp _ _ (Ex.new hL _ _ (e0 _ _ hh))] at hW; cases hW
  refine ⟨fun m σ' H' => RkI K H L W v t m σ' H', ⟨_, [.t t], [], [.ref p], none, none, none, none, none, rfl, ⟨e0.trans eW, (by rw [upd_ne hLW]; exact Ex.new hp _ _ upd_same), upd_same, .cons ⟨p, v, rfl, Evl.ex_t (Ex.new hW) (SqT.of upd_same), hR.mono (Tups.of (e0.trans eW))⟩ .nil, ⟨hO, rfl⟩, fun _ z => (List.not_mem_nil z).elim, ?_, ?_⟩, rfl⟩, ?_⟩
  · rw [run]
    cases ev t with
    | e d => rfl
    | n k => rfl
  · show 2 * size t + 0 + 0 ≤ 100000
    omega
  rintro m σ' H' ⟨S, vs, ws, u3, u4, u5, u6, u7, rfl, I, rfl⟩
  refine ⟨_, rfl, _, .inl ⟨ws, SqL.of I.hW, rfl⟩, ?_⟩
  cases S with
  | nil =>
    have hst := I.st
    have hws : ws = [] := by
      cases ws with
      | nil => rfl
      | cons a b => cases hst
    subst hws
    have hf : vs.length = 1 := I.ft
    obtain ⟨k, rfl⟩ := List.length_eq_one_iff.mp hf
    have hr : Rs.n k = ev t := I.rn
    refine iteF ⟨_, rfl, L, _, 0, _, rfl, rfl, SqL.of I.hL, rfl, (by show 2 ≤ sizeLine; decide), fun p' hp' => q _ _ (I.ex.trans (Ex.new hp')) ?_⟩
    rw [← hr]
    exact rs_n
  | cons it S =>
    have hst := I.st
    rw [List.reverse_cons] at hst
    obtain ⟨ws, x, rfl, hs1, hs2⟩ := paired_unsnoc hst
    have hne : (!(ws ++ [x]).isEmpty) = true := by simp
    rw [hne]
    refine iteT ⟨fun σ2 H2 => ∃ m', m' < left (it :: S) ∧ RkI K H L W v t m' σ2 H2, fun _ _ h => h, ?_⟩
    refine ⟨_, rfl, .inl ⟨rfl, _, SqL.of I.hW⟩, W, _, x, rfl, rfl, I.hW, last_app _ _, ?_⟩
    rw [drop_app]
    have t1 : Tups K H' (upd H' W (.lst ws)) := Tups.lst I.hW
    have hL1 : (upd H' W (.lst ws)) L = some (.lst (vs.map V.int)) := by rw [upd_ne hLW]; exact I.hL
    have e1 : Ex H (upd H' W (.lst ws)) := Ex.mut I.ex hW0
    have hW1 : (upd H' W (.lst ws)) W = some (.lst ws) := upd_same
    have s1 := stk_mono t1 hs1
    have x1 := hs2.mono t1
    generalize upd H' W (.lst ws) = H1 at *
    obtain ⟨a, y, n, b, rfl, hT, hc⟩ : ∃ a y n b, x = .ref a ∧ SqT K H1 a [y, .int n, .bl b] ∧ ((∃ t', it = .t t' ∧ b = false ∧ Rep K H1 t' y) ∨ (∃ f k, it = .o f k ∧ y = .str f ∧ n = ((k : Nat) : Int) ∧ b = true)) := by
      cases it with
      | t t' =>
        obtain ⟨a, y, e, h1, h2⟩ := x1
        exact ⟨a, y, 0, false, e, h1, .inl ⟨t', rfl, rfl, h2⟩⟩
      | o f k =>
        obtain ⟨a, e, h1⟩ := x1
        exact ⟨a, .str f, k, true, e, h1, .inr ⟨f, k, rfl, rfl, rfl, rfl⟩⟩
    refine ⟨a, _, rfl, hT, rfl, _, _, rfl, _, _, rfl, _, _, rfl, rfl, ?_⟩
    have lt : left S < left (it :: S) := by
      cases it with
      | t t' => have := size_pos t'; show left S < 2 * size t' + left S; omega
      | o f k => show left S < 1 + left S; omega
    have mx := I.mx
    refine ⟨fun σ2 H2 => ∃ r x6 vs' w3 w4 w5 w7, σ2 = [some v, some (.ref L), some (.ref W), w3, w4, w5, some x6, w7] ∧ MidS K H L W t S ws H2 x6 r vs' ∧ left S + (vs'.length + 1) ≤ 100000, ?_, ?_⟩
    · rcases hc with ⟨t', rfl, rfl, hR'⟩ | ⟨f, k, rfl, rfl, rfl, rfl⟩
      · refine ⟨_, rfl, _, rfl, iteF ?_⟩
        have hft := I.ft
        have hO' : Ok t' := hft.1
        refine ⟨_, rfl, y, t', rfl, hR', hO', _, rfl, ?_⟩
        cases hop : isOp t' with
        | false =>
          have hrun := go_leaf (S := S) (vs := vs) hop
          refine iteF ⟨_, rfl, y, t', rfl, hR', hO', fun v' H2 e2 rs => ⟨leafR t', v', vs, _, _, _, _, rfl, ⟨e1.trans e2, e2 _ _ hL1, e2 _ _ hW1, stk_mono (Tups.of e2) s1, rs, hft.2, I.sm, fun k hk => leaf_small hO' hk, ?_⟩, ?_⟩⟩
          · rw [← I.rn, hrun]
          · have h1 : 2 * size t' + left S + vs.length ≤ 100000 := I.mx
            have := size_pos t'
            omega
        | true =>
          obtain ⟨f, as, rfl⟩ : ∃ f as, t' = .comp f as := by
            cases t' with
            | comp f as => exact ⟨f, as, rfl⟩
            | var k => cases hop
            | int k => cases hop
            | atom k => cases hop
          have hRc := hR'
          unfold Rep at hRc
          obtain ⟨a2, us, rfl, hT2, hA⟩ := hRc
          have hrun := run_op (S := S) (vs := vs) hop
          have hfit := fits_op hop hO' hft.2
          have hlen := hA.len
          refine iteT ⟨_, rfl, .inl ⟨rfl, _, SqL.of hW1⟩, _, rfl, a2, _, 0, _, rfl, rfl, hT2, at0, _, rfl, a2, _, rfl, .inr hT2, _, _, rfl, rfl, (by show 3 ≤ sizeLine; decide), fun p2 hp2 => ?_⟩
          have hW2 := Ex.new (o := HO.tup [.str f, .int ((((V.str f :: us).length : Nat) : Int) - 1), .bl true]) hp2 _ _ hW1
          refine ⟨W, ws, .ref p2, rfl, rfl, hW2, ?_, ?_⟩
          · have := paired_len hs1
            rw [List.length_reverse] at this
            have h2 := len_left S
            have h3 : 2 * size (Tm.comp f as) + left S + vs.length ≤ 100000 := I.mx
            exact Nat.lt_of_le_of_lt (show ws.length ≤ 100000 by omega) (by decide)
          have hn : (((V.str f :: us).length : Nat) : Int) - 1 = ((as.length : Nat) : Int) := by
            rw [List.length_cons]
            omega
          simp only [hn]
          have hW2' := Ex.new (o := HO.tup [.str f, .int ((as.length : Nat) : Int), .bl true]) hp2 _ _ hW1
          have t2 : Tups K H1 (upd H1 p2 (.tup [.str f, .int ((as.length : Nat) : Int), .bl true])) := Tups.of (Ex.new hp2)
          have t3 : Tups K (upd H1 p2 (.tup [.str f, .int ((as.length : Nat) : Int), .bl true])) (upd (upd H1 p2 (.tup [.str f, .int ((as.length : Nat) : Int), .bl true])) W (.lst (ws ++ [.ref p2]))) := Tups.lst hW2'
          have hop3 : ItAt K (upd (upd H1 p2 (.tup [.str f, .int ((as.length : Nat) : Int), .bl true])) W (.lst (ws ++ [.ref p2]))) (.ref p2) (.o f as.length) := ⟨p2, rfl, t3 _ _ (SqT.of upd_same)⟩
          have hL3 : (upd (upd H1 p2 (.tup [.str f, .int ((as.length : Nat) : Int), .bl true])) W (.lst (ws ++ [.ref p2]))) L = some (.lst (vs.map V.int)) := by
            rw [upd_ne hLW]
            exact Ex.new hp2 _ _ hL1
          have hW3 : (upd (upd H1 p2 (.tup [.str f, .int ((as.length : Nat) : Int), .bl true])) W (.lst (ws ++ [.ref p2]))) W = some (.lst (ws ++ [.ref p2])) := upd_same
          have e3 : Ex H (upd (upd H1 p2 (.tup [.str f, .int ((as.length : Nat) : Int), .bl true])) W (.lst (ws ++ [.ref p2]))) := Ex.mut (e1.trans (Ex.new hp2)) hW0
          have hT3 := t3 _ _ (t2 _ _ hT2)
          have hA3 := (hA.mono t2).mono t3
          have s3 := stk_mono t3 (stk_mono t2 s1)
          generalize upd (upd H1 p2 (.tup [.str f, .int ((as.length : Nat) : Int), .bl true])) W (.lst (ws ++ [.ref p2])) = H3 at *
          refine ⟨_, rfl, .inl ⟨rfl, _, SqL.of hW3⟩, _, rfl, a2, _, rfl, hT3, Nat.le_add_left 1 _, fun p3 hp3 => ?_⟩
          have eq3 : ((V.str f :: us).drop 1).reverse = us.reverse := rfl
          rw [eq3]
          refine ⟨p3, rfl, ⟨_, SqT.of upd_same⟩, fun D hD => ?_⟩
          have hp3' : H3 p3 = none := hp3
          have e4 := Ex.new (o := HO.tup us.reverse) hp3
          have hA4 := (hA3.mono (Tups.of e4)).rev
          have hq4 : SqT K (upd H3 p3 (.tup us.reverse)) p3 us.reverse := SqT.of upd_same
          have hL4 := e4 _ _ hL3
          have hW4 := e4 _ _ hW3
          have e04 := e3.trans e4
          have s4 := stk_mono (Tups.of e4) s3
          have o4 := hop3.mono (Tups.of e4)
          generalize upd H3 p3 (.tup us.reverse) = H4 at *
          refine lc_it walk_tup (fun i H' => Ex H4 H' ∧ ∃ zs, H' D = some (.lst zs) ∧ PySem.Paired (ItAt K H') zs ((as.reverse.take i).map .t)) ⟨Ex.new hD, [], upd_same, .nil⟩ (fun i H' _ h => Evl.ex_t h.1 hq4) ?_ ?_
          · rintro i x H5 H6 hi ⟨e5, zs, hz5, hp5⟩ ⟨rfl, hx⟩
            obtain ⟨t1, ht1, hR1⟩ := reps_get hA4 hx
            have hR5 := hR1.mono (Tups.of e5)
            refine ⟨rfl, yesI ⟨_, rfl, (by show 3 ≤ sizeLine; decide), fun p4 hp4 => ?_⟩⟩
            have hz6 := Ex.new (o := HO.tup [x, .int 0, .bl false]) hp4 _ _ hz5
            have tt := (Tups.of (K := K) (Ex.new (o := HO.tup [x, .int 0, .bl false]) hp4)).trans (Tups.lst (o := HO.lst (zs ++ [.ref p4])) hz6)
            refine ⟨zs, hz6, ?_, Ex.mut (e5.trans (Ex.new hp4)) hD, _, upd_same, ?_⟩
            · have l1 := paired_len hp5
              rw [List.length_map, List.length_take, List.length_reverse] at l1
              have l2 := len_sizes as
              have l3 : 2 * size (Tm.comp f as) + left S + vs.length ≤ 100000 := I.mx
              have l4 : size (Tm.comp f as) = 1 + sizes as := by rw [size]
              exact Nat.lt_of_le_of_lt (show zs.length ≤ 100000 by omega) (by decide)
            · rw [List.take_add_one, ht1, Option.toList_some, List.map_append]
              refine paired_snoc (stk_mono tt hp5) ⟨p4, x, rfl, ?_, hR5.mono tt⟩
              exact Tups.lst (o := HO.lst (zs ++ [.ref p4])) hz6 _ _ (SqT.of upd_same)
          · rintro H5 ⟨e5, zs, hz5, hp5⟩
            have l2 := len_sizes as
            have l3 : 2 * size (Tm.comp f as) + left S + vs.length ≤ 100000 := I.mx
            have l4 : size (Tm.comp f as) = 1 + sizes as := by rw [size]
            have ll : left (as.map .t ++ .o f as.length :: S) = 2 * sizes as + (1 + left S) := by rw [left_app, left_args]; rfl
            have l5 := paired_len hp5
            rw [List.length_map, List.length_take, List.length_reverse] at l5
            have l6 := paired_len hs1
            rw [List.length_reverse] at l6
            have l7 := len_left S
            rw [List.take_of_length_le (by rw [List.length_reverse, List.length_reverse]; omega)] at hp5
            have hW5 := e5 _ _ hW4
            have t6 : Tups K H5 (upd H5 W (.lst (ws ++ [.ref p2] ++ zs))) := Tups.lst hW5
            have lz : (ws ++ [V.ref p2]).length + zs.length ≤ sizeLine := by
              rw [List.length_append, List.length_singleton]
              exact Nat.le_trans (show ws.length + 1 + zs.length ≤ 300000 by omega) (by decide)
            refine ⟨W, D, ws ++ [.ref p2], zs, rfl, rfl, hW5, hz5, lz, ?_⟩
            refine ⟨left (as.map .t ++ .o f as.length :: S), ?_, as.map .t ++ .o f as.length :: S, vs, _, _, _, _, _, _, rfl, ⟨Ex.mut (e04.trans e5) hW0, ?_, upd_same, ?_, hfit, I.sm, ?_, ?_⟩, rfl⟩
            · show left (as.map .t ++ .o f as.length :: S) < 2 * size (Tm.comp f as) + left S
              omega
            · rw [upd_ne hLW]
              exact e5 _ _ hL4
            · rw [List.reverse_append, List.reverse_cons, ← List.map_reverse]
              exact paired_app (paired_snoc (stk_mono t6 (stk_mono (Tups.of e5) s4)) ((o4.mono (Tups.of e5)).mono t6)) (stk_mono t6 hp5)
            · rw [← hrun]
              exact I.rn
            · omega
      · refine ⟨_, rfl, _, rfl, iteT ?_⟩
        obtain ⟨f1, f2, f3⟩ := (show k ≤ vs.length ∧ ((k = 1 ∧ (one1.lookup f).isSome = true) ∨ (k = 2 ∧ (two2.lookup f).isSome = true)) ∧ fits S (vs.length - k + 1) from I.ft)
        have k1 : 1 ≤ k := by rcases f2 with ⟨rfl, _⟩ | ⟨rfl, _⟩ <;> decide
        have hcut : cutV (vs.map V.int) (some (-(k : Int))) none = (vs.drop (vs.length - k)).map V.int := by
          rw [cut_tail _ k k1 (by rw [List.length_map]; exact f1), List.length_map, List.map_drop]
        have hmx : 1 + left S + vs.length ≤ 100000 := I.mx
        refine ⟨_, rfl, _, rfl, _, rfl, _, rfl, _, rfl, ?_⟩
        refine ⟨L, _, rfl, SqL.of hL1, fun p2 hp2 => ?_⟩
        rw [hcut]
        refine ⟨f, p2, _, opR f (vs.drop (vs.length - k)), rfl, SqL.of upd_same, ?_, fun v' H3 e3 rs => ⟨v', _, rfl, rs, fun v2 rs2 => ?_⟩⟩
        · have sd : ∀ j ∈ vs.drop (vs.length - k), Small j := fun j hj => I.sm j (List.mem_of_mem_drop hj)
          have ld : (vs.drop (vs.length - k)).length = k := by rw [List.length_drop]; omega
          generalize vs.drop (vs.length - k) = ds at *
          rcases f2 with ⟨rfl, f4⟩ | ⟨rfl, f4⟩
          · obtain ⟨j, rfl⟩ := List.length_eq_one_iff.mp ld
            obtain ⟨g, hg⟩ := Option.isSome_iff_exists.mp f4
            exact .inl ⟨j, g, rfl, hg, by unfold opR; rw [hg]; rfl⟩
          · match ds, ld with
            | [i, j], _ =>
              obtain ⟨g, hg⟩ := Option.isSome_iff_exists.mp f4
              exact .inr ⟨i, j, g, rfl, sd i (by simp), sd j (by simp), hg, by unfold opR; rw [hg]; rfl⟩
        · have hL3 : H3 L = some (.lst (vs.map V.int)) := e3 _ _ (Ex.new hp2 _ _ hL1)
          have hW3 : H3 W = some (.lst ws) := e3 _ _ (Ex.new hp2 _ _ hW1)
          have t3 : Tups K H3 (upd H3 L (.lst ((vs.map V.int).take ((vs.map V.int).length - k)))) := Tups.lst hL3
          have e13 : Ex H1 H3 := (Ex.new hp2).trans e3
          refine ⟨_, rfl, _, rfl, _, rfl, _, rfl, L, _, k, rfl, rfl, hL3, k1, (by rw [List.length_map]; exact f1), ?_⟩
          refine ⟨bnd (opR f (vs.drop (vs.length - k))), v2, vs.take (vs.length - k), _, _, _, _, rfl, ⟨Ex.mut (e1.trans e13) hL0, ?_, ?_, stk_mono t3 (stk_mono (Tups.of e13) s1), ?_, ?_, fun j hj => I.sm j (List.mem_of_mem_take hj), fun j hj => bnd_small hj, ?_⟩, ?_⟩
          · rw [upd_same, List.length_map, List.map_take]
          · rw [upd_ne hLW.symm]
            exact hW3
          · cases hb : bnd (opR f (vs.drop (vs.length - k))) with
            | n j =>
              rw [hb] at rs2
              obtain ⟨a2, e2, h2⟩ := rs2
              exact ⟨a2, e2, t3 _ _ h2⟩
            | e d =>
              rw [hb] at rs2
              obtain ⟨a2, x2, e2, h2, h3⟩ := rs2
              exact ⟨a2, x2, e2, t3 _ _ h2, et_mono t3 h3⟩
          · have : (vs.take (vs.length - k)).length = vs.length - k := by rw [List.length_take]; omega
            rw [this]
            exact f3
          · rw [← I.rn, go_op]
          · rw [List.length_take]
            omega
    · rintro σ2 H2 ⟨r, x6, vs', w3, w4, w5, w7, rfl, M, hv⟩
      cases r with
      | e d =>
        have hr := M.rs
        obtain ⟨p6, x', rfl, h1, h2⟩ := M.rs
        refine ⟨_, rfl, p6, _, 0, _, rfl, rfl, h1, rfl, rfl, _, rfl, ?_⟩
        show if decide (V.str "error" = V.str "error") = true then _ else _
        rw [decide_eq_true rfl]
        have e2 : Rs.e d = ev t := M.rn
        exact iteT ⟨_, rfl, q _ _ M.ex (by rw [← e2]; exact hr)⟩
      | n k =>
        obtain ⟨p6, rfl, h1⟩ := M.rs
        refine ⟨_, rfl, p6, _, 0, _, rfl, rfl, h1, rfl, rfl, _, rfl, ?_⟩
        show if decide (V.str "value" = V.str "error") = true then _ else _
        rw [decide_eq_false (by intro z; injection z with z; exact absurd z (by decide))]
        have hz5 : (vs'.map V.int).length < sizeLine := by
          rw [List.length_map]
          exact Nat.lt_of_le_of_lt (show vs'.length ≤ 100000 by omega) (by decide)
        refine iteF ⟨_, rfl, .inl ⟨rfl, _, SqL.of M.hL⟩, _, rfl, p6, _, 1, _, rfl, rfl, h1, rfl, L, _, _, rfl, rfl, M.hL, hz5, ?_⟩
        have t2 : Tups K H2 (upd H2 L (.lst (vs'.map V.int ++ [.int k]))) := Tups.lst M.hL
        refine ⟨left S, lt, S, vs' ++ [k], ws, _, _, _, _, _, rfl, ⟨Ex.mut M.ex hL0, ?_, ?_, stk_mono t2 M.st, ?_, ?_, M.rn, by rw [List.length_append]; exact hv⟩, rfl⟩
        · rw [upd_same, List.map_append]
          rfl
        · rw [upd_ne hLW.symm]
          exact M.hW
        · rw [List.length_append]
          exact M.ft
        · intro j hj
          rcases List.mem_append.mp hj with hj | hj
          · exact M.sm j hj
          · rw [List.mem_singleton.mp hj]
            exact M.rm k rfl
end
end Hm

set_option Elab.async false
set_option linter.all false
set_option maxHeartbeats 1000000
set_option maxRecDepth 100000
set_option exponentiation.threshold 4000
/-! bits added up one by one; remainders till there is none -/
namespace Hm
open PySem PyProof.Rows PySem.W
def bsum (f : Int → Int → Int) (x y : Int) : Nat → Int
  | 0 => 0
  | n + 1 => bsum f x y n + f (x / 2 ^ n % 2) (y / 2 ^ n % 2) * 2 ^ n
theorem div_succ (x : Int) (n : Nat) : x / 2 ^ (n + 1) = x / 2 ^ n / 2 := by
  rw [Int.pow_succ, Int.ediv_ediv_of_nonneg (Int.le_of_lt (kbt_pos n))]
theorem bsum_step {op f : Int → Int → Int} (h : ∀ a b, op a b = 2 * op (a / 2) (b / 2) + f (a % 2) (b % 2)) (x y : Int) : ∀ n, bsum f x y n + op (x / 2 ^ n) (y / 2 ^ n) * 2 ^ n = op x y
  | 0 => by
    show 0 + op (x / 2 ^ 0) (y / 2 ^ 0) * 2 ^ 0 = op x y
    rw [Int.pow_zero, Int.ediv_one, Int.ediv_one]
    omega
  | n + 1 => by
    have ih := bsum_step h x y n
    rw [h (x / 2 ^ n) (y / 2 ^ n), ← div_succ, ← div_succ] at ih
    show bsum f x y n + f (x / 2 ^ n % 2) (y / 2 ^ n % 2) * 2 ^ n + op (x / 2 ^ (n + 1)) (y / 2 ^ (n + 1)) * 2 ^ (n + 1) = op x y
    rw [← ih, Int.pow_succ, Int.add_mul, Int.add_comm (2 * _ * _), ← Int.add_assoc, Int.mul_comm 2 (op _ _), Int.mul_assoc (op _ _) 2, Int.mul_comm 2 (2 ^ n)]
theorem far_div {x : Int} {n : Nat} (h : x.natAbs < 2 ^ n) : x / 2 ^ n = if x < 0 then -1 else 0 := by
  have hp := kbt_pos n
  have hc := kbt_cast n
  split
  · rename_i c
    exact (kbt_unique (a := x) (b := 2 ^ n) (q := -1) (r := x + 2 ^ n) hp (by omega) (by omega) (by omega)).1
  · exact (kbt_unique (a := x) (b := 2 ^ n) (q := 0) (r := x) hp (by omega) (by omega) (by omega)).1
theorem bsum_end {op f : Int → Int → Int} (h : ∀ a b, op a b = 2 * op (a / 2) (b / 2) + f (a % 2) (b % 2)) {x y : Int} {n : Nat} (hx : x.natAbs < 2 ^ n) (hy : y.natAbs < 2 ^ n) (c : Bool)
    (e : op (if x < 0 then -1 else 0) (if y < 0 then -1 else 0) = if c = true then -1 else 0) : op x y = if c = true then bsum f x y n - 1 * 2 ^ n else bsum f x y n := by
  have s := bsum_step h x y n
  rw [far_div hx, far_div hy, e] at s
  cases c with
  | true =>
    rw [if_pos rfl] at s ⊢
    omega
  | false =>
    rw [if_neg (by decide)] at s ⊢
    omega
abbrev fA (l r : Int) : Int := l * r
abbrev fO (l r : Int) : Int := if r > l then r else l
abbrev fX (l r : Int) : Int := if l = r then 0 else 1
theorem bit2 (a : Int) : a % 2 = 0 ∨ a % 2 = 1 := by omega
theorem and_half (a b : Int) : Builtin.bitAnd a b = 2 * Builtin.bitAnd (a / 2) (b / 2) + fA (a % 2) (b % 2) := by
  rw [kbt_halves a b]
  unfold fA
  rcases bit2 a with h | h <;> rcases bit2 b with k | k <;> rw [h, k] <;> rfl
theorem or_half (a b : Int) : Builtin.bitOr a b = 2 * Builtin.bitOr (a / 2) (b / 2) + fO (a % 2) (b % 2) := by
  have h1 := bor_and a b
  have h2 := bor_and (a / 2) (b / 2)
  have h3 := and_half a b
  unfold fA at h3
  unfold fO
  rcases bit2 a with h | h <;> rcases bit2 b with k | k <;> rw [h, k] at h3 ⊢ <;> simp at h3 ⊢ <;> omega
theorem xor_half (a b : Int) : Builtin.bitXor a b = 2 * Builtin.bitXor (a / 2) (b / 2) + fX (a % 2) (b % 2) := by
  have h1 := bitXor_and a b
  have h2 := bitXor_and (a / 2) (b / 2)
  have h3 := and_half a b
  unfold fA at h3
  unfold fX
  rcases bit2 a with h | h <;> rcases bit2 b with k | k <;> rw [h, k] at h3 ⊢ <;> simp at h3 ⊢ <;> omega
theorem and_end {x y : Int} {n : Nat} (hx : x.natAbs < 2 ^ n) (hy : y.natAbs < 2 ^ n) : Builtin.bitAnd x y = if (decide (x < 0) && decide (y < 0)) = true then bsum fA x y n - 1 * 2 ^ n else bsum fA x y n := by
  refine bsum_end and_half hx hy _ ?_
  by_cases h1 : x < 0 <;> by_cases h2 : y < 0 <;> simp only [h1, h2, if_true, if_false, decide_true, decide_false] <;> decide
theorem or_end {x y : Int} {n : Nat} (hx : x.natAbs < 2 ^ n) (hy : y.natAbs < 2 ^ n) : Builtin.bitOr x y = if (decide (x < 0) || decide (y < 0)) = true then bsum fO x y n - 1 * 2 ^ n else bsum fO x y n := by
  refine bsum_end or_half hx hy _ ?_
  by_cases h1 : x < 0 <;> by_cases h2 : y < 0 <;> simp only [h1, h2, if_true, if_false, decide_true, decide_false] <;> decide
theorem xor_end {x y : Int} {n : Nat} (hx : x.natAbs < 2 ^ n) (hy : y.natAbs < 2 ^ n) : Builtin.bitXor x y = if (decide (x < 0) != decide (y < 0)) = true then bsum fX x y n - 1 * 2 ^ n else bsum fX x y n := by
  refine bsum_end xor_half hx hy _ ?_
  by_cases h1 : x < 0 <;> by_cases h2 : y < 0 <;> simp only [h1, h2, if_true, if_false, decide_true, decide_false] <;> decide
/-! ### remainders -/
structure GcI (x y : Int) (i : Nat) (a b : Int) : Prop where
  a0 : 0 ≤ a
  b0 : 0 ≤ b
  g : Int.gcd a b = Int.gcd x y
  m : b = 0 ∨ (i = 0 ∧ a.toNat * b.toNat ≤ x.natAbs * y.natAbs) ∨ ∃ j, i = j + 1 ∧ b < a ∧ a.toNat * b.toNat * 2 ^ j ≤ x.natAbs * y.natAbs
theorem GcI.start (x y : Int) : GcI x y 0 (if 0 - x > x then 0 - x else x) (if 0 - y > y then 0 - y else y) := by
  have e1 : (if 0 - x > x then 0 - x else x) = (x.natAbs : Int) := by split <;> omega
  have e2 : (if 0 - y > y then 0 - y else y) = (y.natAbs : Int) := by split <;> omega
  rw [e1, e2]
  refine ⟨by omega, by omega, ?_, .inr (.inl ⟨rfl, ?_⟩)⟩
  · rw [Int.gcd_natCast_natCast]; rfl
  · rw [Int.toNat_natCast, Int.toNat_natCast]; exact Nat.le_refl _
theorem GcI.skip {x y : Int} {i : Nat} {a b : Int} (h : GcI x y i a b) (hb : ¬ b > 0) : GcI x y (i + 1) a b := ⟨h.a0, h.b0, h.g, .inl (by have := h.b0; omega)⟩
theorem GcI.step {x y : Int} {i : Nat} {a b : Int} (h : GcI x y i a b) (hb : b > 0) : GcI x y (i + 1) b (a % b) := by
  have m0 := Int.emod_nonneg a (show b ≠ 0 by omega)
  have m1 := Int.emod_lt_of_pos a hb
  have a0 := h.a0
  refine ⟨h.b0, m0, by rw [gcd_step]; exact h.g, ?_⟩
  obtain ⟨A, rfl⟩ := Int.eq_ofNat_of_zero_le a0
  obtain ⟨B, rfl⟩ := Int.eq_ofNat_of_zero_le h.b0
  have em : ((A : Int) % (B : Int)) = ((A % B : Nat) : Int) := rfl
  have hB : 0 < B := by omega
  rw [em] at m1 ⊢
  have hm := h.m
  simp only [Int.toNat_natCast] at hm ⊢
  have h3 : A % B ≤ A := Nat.mod_le A B
  rcases hm with h1 | ⟨rfl, h2⟩ | ⟨j, rfl, h1, h2⟩
  · omega
  · refine .inr (.inr ⟨0, rfl, m1, ?_⟩)
    rw [Nat.pow_zero, Nat.mul_one]
    refine Nat.le_trans ?_ h2
    rw [Nat.mul_comm A B]
    exact Nat.mul_le_mul_left B h3
  · refine .inr (.inr ⟨j + 1, rfl, m1, ?_⟩)
    have h4 : 2 * (A % B) ≤ A := by
      have d := Nat.div_add_mod A B
      have q : 1 ≤ A / B := (Nat.one_le_div_iff hB).mpr (by omega)
      have : B * 1 ≤ B * (A / B) := Nat.mul_le_mul_left B q
      omega
    refine Nat.le_trans ?_ h2
    have e1 : B * (A % B) * 2 ^ (j + 1) = B * (2 * (A % B)) * 2 ^ j := by
      rw [Nat.pow_succ, Nat.mul_comm (2 ^ j) 2, ← Nat.mul_assoc, Nat.mul_assoc B (A % B) 2, Nat.mul_comm (A % B) 2]
    rw [e1, Nat.mul_comm A B]
    exact Nat.mul_le_mul_right _ (Nat.mul_le_mul_left B h4)
theorem GcI.fin {x y : Int} {a b : Int} (h : GcI x y 3000 a b) (hx : x.natAbs < 2 ^ 1000) (hy : y.natAbs < 2 ^ 1000) : a = ((Int.gcd x y : Nat) : Int) := by
  have hb : b = 0 := by
    rcases h.m with h1 | ⟨h1, _⟩ | ⟨j, h1, h2, h3⟩
    · exact h1
    · cases h1
    · by_cases c : b = 0
      · exact c
      · exfalso
        have hj : j = 2999 := by omega
        subst hj
        have b0 := h.b0
        have p : 1 ≤ a.toNat * b.toNat := Nat.mul_pos (by omega) (by omega)
        have h4 : 2 ^ 2999 ≤ x.natAbs * y.natAbs := Nat.le_trans (Nat.le_trans (Nat.le_of_eq (Nat.one_mul _).symm) (Nat.mul_le_mul_right _ p)) h3
        have h5 : x.natAbs * y.natAbs ≤ 2 ^ 1000 * 2 ^ 1000 := Nat.mul_le_mul (Nat.le_of_lt hx) (Nat.le_of_lt hy)
        have h6 : (2 : Nat) ^ 1000 * 2 ^ 1000 < 2 ^ 2999 := by decide +kernel
        exact absurd (Nat.le_trans h4 h5) (Nat.not_le.mpr h6)
  have g := h.g
  subst hb
  rw [Int.gcd_zero_right] at g
  have := h.a0
  omega
end Hm

set_option Elab.async false
set_option linter.all false
set_option maxRecDepth 100000
set_option maxHeartbeats 1000000
namespace Hm
open PySem PySem.Spec PyProof.Rows L2 HT
open Evl (Ex)
/-! ## draws: a source is a list of three numbers that changes; what is drawn is any number that may come -/
def Well (H : Hp) (a : Addr) : Prop := ∃ x y z : Int, H a = some (.lst [.int x, .int y, .int z])
/-- all but the source is as it was -/
structure Dr (a : Addr) (H H' : Hp) : Prop where
  well : Well H' a
  keep : ∀ b o, b ≠ a → H b = some o → H' b = some o
theorem Dr.ex {a : Addr} {H H' : Hp} (h : Well H a) (e : Ex H H') : Dr a H H' := by
  obtain ⟨x, y, z, h⟩ := h
  exact ⟨⟨x, y, z, e _ _ h⟩, fun b o _ q => e b o q⟩
theorem Dr.trans {a : Addr} {H H1 H2 : Hp} (p : Dr a H H1) (q : Dr a H1 H2) : Dr a H H2 := ⟨q.well, fun b o n h => q.keep b o n (p.keep b o n h)⟩
theorem Dr.tups {K : PySem.W.Frag} {a : Addr} {H H' : Hp} (h : Well H a) (d : Dr a H H') : Tups K H H' := fun b ys q => by
  obtain ⟨x, y, z, h⟩ := h
  rcases q with (q | ⟨ob, q⟩) | q
  · exact .inl (.inl (d.keep _ _ (ne_of q h (by intro z; cases z)) q))
  · exact .inl (.inr ⟨ob, d.keep _ _ (ne_of q h (by intro z; cases z)) q⟩)
  · exact .inr q
theorem Dr.sql {K : PySem.W.Frag} {a l : Addr} {xs : List V} {H H' : Hp} (d : Dr a H H') (n : l ≠ a) (h : SqL K H l xs) : SqL K H' l xs := by
  rcases h with (h | ⟨o, h⟩) | h
  · exact .inl (.inl (d.keep _ _ n h))
  · exact .inl (.inr ⟨o, d.keep _ _ n h⟩)
  · exact .inr h
theorem Dr.upd {a : Addr} {H : Hp} {x y z : Int} : Dr a H (upd H a (.lst [.int x, .int y, .int z])) := ⟨⟨x, y, z, upd_same⟩, fun b o n h => by rw [upd_ne n]; exact h⟩
theorem Well.ne {H : Hp} {a p : Addr} (h : Well H a) (hp : H p = none) : p ≠ a := by
  obtain ⟨x, y, z, h⟩ := h
  exact (ne_of_none h hp).symm
section
variable {P : Program} {w : World} {K : PySem.W.Frag} {mg : Str → Option Value} {base : Heap}
def spNext : Sp := fun vs H Q _ => ∃ a m, vs = [.ref a, .int m] ∧ Well H a ∧ 0 < m ∧ m.natAbs < 2 ^ 1000 ∧ ∀ d H', 0 ≤ d → d < m → Dr a H H' → Q (.int d) H'
theorem mod_in {x m : Int} (h : 0 < m) : 0 ≤ x % m ∧ x % m < m := ⟨Int.emod_nonneg x (by omega), Int.emod_lt_of_pos x h⟩
theorem ok_law_next (T : Tx K mg) : FnOk P w K mg base CX0 1 T.f_law_next T.d_law_next ["_law_source", "_law_many"] spNext := by
  refine T.h_law_next.F.ok sc_law_next (fun vs H Q E h => ?_) (fun cdv A outer s H vs Q E hr h => ?_)
  · obtain ⟨v, t, rfl, _⟩ := h
    rfl
  obtain ⟨a, m, rfl, ⟨x, y, z, hW⟩, h0, h1, q⟩ := h
  refine ⟨_, (pss_cons (ps_if (pt_cmpR op_gt (pe_ix ix_list (pv 0) pe_int (fun _ _ => rfl)) pe_int (nomark _))
      (pss_cons (ps_set (i := 2) sc_law_next.nd rfl (Or.inl rfl) (pe_op op_mod (pe_callTy call_int1 rfl T.b_int (by decide +kernel) (pa_cons (pe_ix ix_list (pv 0) pe_int (fun _ _ => rfl)) pa_nil)) (pv 1)))
    (pss_cons (ps_asg (pe_op op_fdivZ (pe_ix ix_list (pv 0) pe_int (fun _ _ => rfl)) (pv 1)) (pg_sub (pv 0) pe_int set_list))
    (pss_one (ps_ret (pv 2)))))
      pss_nil)
    (pss_cons (ps_asg (pe_op op_add (pe_ix ix_list (pv 0) pe_int (fun _ _ => rfl)) pe_int) (pg_sub (pv 0) pe_int set_list))
    (pss_cons (ps_set (i := 3) sc_law_next.nd rfl (Or.inl rfl) pe_int)
    (pss_cons (ps_set (i := 4) sc_law_next.nd rfl (Or.inl rfl) (pe_op op_mod (pe_callTy call_int1 rfl T.b_int (by decide +kernel) (pa_cons (pe_op op_add (pe_op op_add (pe_ix ix_list (pv 0) pe_int (fun _ _ => rfl)) (pe_op op_mul pe_int (pe_ix ix_list (pv 0) pe_int (fun _ _ => rfl)))) pe_int) pa_nil)) (pv 3)))
    (pss_cons (ps_set (i := 4) sc_law_next.nd rfl (Or.inl rfl) (pe_op op_mod (pe_callTy call_int1 rfl T.b_int (by decide +kernel) (pa_cons (pe_op op_mul (pv 4) pe_int) pa_nil)) (pv 3)))
    (pss_cons (ps_set (i := 4) sc_law_next.nd rfl (Or.inl rfl) (pe_op op_mod (pe_callTy call_int1 rfl T.b_int (by decide +kernel) (pa_cons (pe_op op_mul (pv 4) (pe_op op_add (pe_op op_fdiv (pv 4) pe_int) pe_int)) pa_nil)) (pv 3)))
    (pss_cons (ps_set (i := 4) sc_law_next.nd rfl (Or.inl rfl) (pe_op op_mod (pe_callTy call_int1 rfl T.b_int (by decide +kernel) (pa_cons (pe_op op_mul (pv 4) (pe_op op_add (pe_op op_fdiv (pv 4) pe_int) pe_int)) pa_nil)) pe_int))
    (pss_one (ps_ret (pe_op op_mod (pe_callTy call_int1 rfl T.b_int (by decide +kernel) (pa_cons (pe_op op_fdiv (pv 4) pe_int) pa_nil)) (pv 1))))))))))), ?_⟩
  refine ⟨_, rfl, a, _, 0, _, rfl, rfl, SqL.of hW, at0, _, _, rfl, rfl, _, rfl, ?_⟩
  refine ite2 (fun _ => ?_) (fun _ => ?_)
  · refine ⟨_, rfl, a, _, 0, _, rfl, rfl, SqL.of hW, at0, .inl ⟨_, rfl, _, rfl, _, _, rfl, rfl, h0, ?_⟩⟩
    refine ⟨_, rfl, a, _, 0, _, rfl, rfl, SqL.of hW, at0, _, rfl, _, _, rfl, rfl, divZ (by omega) h1, ?_⟩
    refine ⟨_, rfl, a, _, 0, 0, rfl, rfl, hW, rfl, ?_⟩
    refine ⟨_, rfl, q _ _ (mod_in h0).1 (mod_in h0).2 Dr.upd⟩
  · refine ⟨_, rfl, a, _, 2, _, rfl, rfl, SqL.of hW, rfl, _, _, rfl, rfl, ?_⟩
    refine ⟨_, rfl, a, _, 2, 2, rfl, rfl, hW, rfl, ?_⟩
    have hW2 : (upd H a (.lst ([V.int x, .int y, .int z].set 2 (.int (z + 1))))) a = some (.lst [.int x, .int y, .int (z + 1)]) := upd_same
    refine ⟨_, rfl, a, _, 1, _, rfl, rfl, SqL.of hW2, rfl, ?_⟩
    refine ⟨_, rfl, a, _, 2, _, rfl, rfl, SqL.of hW2, rfl, _, _, rfl, rfl, .inl ⟨by decide, by decide⟩, _, _, rfl, rfl, _, _, rfl, rfl, .inl ⟨_, rfl, _, rfl, _, _, rfl, rfl, (show (0 : Int) < 2147483647 by decide), ?_⟩⟩
    generalize (y + 104729 * (z + 1) + 7919) % 2147483647 = n1
    refine ⟨_, rfl, _, _, rfl, rfl, .inr ⟨by decide, by decide⟩, .inl ⟨_, rfl, _, rfl, _, _, rfl, rfl, (show (0 : Int) < 2147483647 by decide), ?_⟩⟩
    have b1 := mod_in (x := n1 * 48271) (show (0 : Int) < 2147483647 by decide)
    generalize n1 * 48271 % 2147483647 = n2 at *
    refine ⟨_, rfl, _, rfl, _, _, rfl, rfl, ⟨by decide, by decide⟩, _, _, rfl, rfl, _, _, rfl, rfl, .inl ⟨by omega, by omega⟩, .inl ⟨_, rfl, _, rfl, _, _, rfl, rfl, (show (0 : Int) < 2147483647 by decide), ?_⟩⟩
    have b2 := mod_in (x := n2 * (n2 / 1009 + 69621)) (show (0 : Int) < 2147483647 by decide)
    generalize n2 * (n2 / 1009 + 69621) % 2147483647 = n3 at *
    refine ⟨_, rfl, _, rfl, _, _, rfl, rfl, ⟨by decide, by decide⟩, _, _, rfl, rfl, _, _, rfl, rfl, .inl ⟨by omega, by omega⟩, .inl ⟨_, rfl, _, _, rfl, rfl, (show (0 : Int) < 2147483399 by decide), ?_⟩⟩
    refine ⟨_, rfl, _, _, rfl, rfl, ⟨by decide, by decide⟩, .inl ⟨_, rfl, _, rfl, _, _, rfl, rfl, h0, ?_⟩⟩
    exact q _ _ (mod_in h0).1 (mod_in h0).2 Dr.upd
/-- one of some, any of them -/
def spOne (K : PySem.W.Frag) : Sp := fun vs H Q _ => ∃ a l xs, vs = [.ref a, .ref l] ∧ Well H a ∧ l ≠ a ∧ SqL K H l xs ∧ xs ≠ [] ∧ xs.length ≤ 1000 ∧ ∀ x H', x ∈ xs → Dr a H H' → Q x H'
theorem ok_law_one (T : Tx K mg) : FnOk P w K mg base CX0 2 T.f_law_one T.d_law_one ["_law_source", "_law_some"] (spOne K) := by
  refine T.h_law_one.F.ok sc_law_one (fun vs H Q E h => ?_) (fun cdv A outer s H vs Q E hr h => ?_)
  · obtain ⟨v, t, _, rfl, _⟩ := h
    rfl
  obtain ⟨a, l, xs, rfl, hW, hne, hL, hx, hz, q⟩ := h
  have hpos : 0 < xs.length := List.length_pos_iff.mpr hx
  refine ⟨_, (pss_one (ps_ret (pe_ix ix_list (pv 1) (cl (ok_law_next T) T.h_law_next hr (pa_cons (pv 0) (pa_cons (pe_callB call_len_seq rfl T.b_len (by decide +kernel) (pa_cons (pv 1) pa_nil)) pa_nil))) (fun _ _ => rfl)))), ?_⟩
  refine ⟨_, rfl, _, rfl, _, rfl, l, xs, rfl, .inl hL, a, _, rfl, hW, by omega, Nat.lt_of_le_of_lt (show ((xs.length : Int)).natAbs ≤ 1000 by omega) (by decide +kernel), fun d H' h1 h2 dr => ?_⟩
  obtain ⟨k, rfl⟩ := Int.eq_ofNat_of_zero_le h1
  have hk : k < xs.length := by omega
  exact ⟨l, xs, _, xs[k], rfl, rfl, dr.sql hne hL, atI_nat (List.getElem?_eq_getElem hk), q _ _ (List.getElem_mem hk) dr⟩
/-- a source of a cell -/
def spSrc : Sp := fun vs H Q _ => ∃ c, vs = [.int c] ∧ ∀ p x y z H', H p = none → Ex H H' → H' p = some (.lst [.int x, .int y, .int z]) → Q (.ref p) H'
theorem ok_law_source_of (T : Tx K mg) : FnOk P w K mg base CX0 1 T.f_law_source_of T.d_law_source_of ["_law_cell"] spSrc := by
  refine T.h_law_source_of.F.ok sc_law_source_of (fun vs H Q E h => ?_) (fun cdv A outer s H vs Q E hr h => ?_)
  · obtain ⟨c, rfl, _⟩ := h
    rfl
  obtain ⟨c, rfl, q⟩ := h
  refine ⟨_, (Evl.pss_cut (ps_set (i := 0) sc_law_source_of.nd rfl (Or.inl rfl) (pe_ifExp (pt_cmpR op_ge (pv 0) pe_int (nomark _)) (pv 0) (pe_op op_sub (pe_op op_sub pe_int (pe_op op_mul pe_int (pv 0))) pe_int)))
    (pss_one (ps_ret (pe_lst (pa_cons (pe_op op_mul (pv 0) (pe_callTy call_int1 rfl T.b_int (by decide +kernel) (pa_cons (pe_cmpR op_ge (pv 0) (pe_op op_pow pe_int pe_int) (nomark _)) pa_nil))) (pa_cons (pe_op op_mod (pe_callTy call_int1 rfl T.b_int (by decide +kernel) (pa_cons (pv 0) pa_nil)) pe_int) (pa_cons pe_int pa_nil))))))), ?_⟩
  refine ⟨fun σ' H' => ∃ c : Int, σ' = [some (.int c)] ∧ H' = H, ?_, ?_⟩
  · refine ⟨_, rfl, _, _, rfl, rfl, _, rfl, ?_⟩
    refine ite2 (fun _ => ?_) (fun _ => ?_)
    · exact ⟨_, rfl, _, rfl, rfl⟩
    · exact ⟨_, rfl, _, _, rfl, rfl, .inl ⟨by decide, by decide⟩, _, _, rfl, rfl, _, _, rfl, rfl, _, rfl, rfl⟩
  · rintro _ _ ⟨c, rfl, rfl⟩
    refine ⟨_, rfl, _, rfl, _, _, rfl, rfl, ⟨by decide, by decide, by decide⟩, _, _, rfl, rfl, .inr ⟨_, rfl, ?_⟩⟩
    refine ⟨_, _, rfl, rfl, .inr (by constructor <;> split <;> first | decide | omega), _, rfl, .inl ⟨_, rfl, _, _, rfl, rfl, (show (0 : Int) < 2147483647 by decide), ?_⟩⟩
    refine ⟨(by show 3 ≤ sizeLine; decide), fun p hp => ?_⟩
    exact q p _ _ _ _ hp (Ex.new hp) upd_same
end
end Hm

set_option Elab.async false
set_option linter.all false
set_option maxRecDepth 100000
set_option maxHeartbeats 1000000
namespace Hm
open PySem PySem.Spec PyProof.Rows L2 HT
open Evl (Ex)
section
variable {P : Program} {w : World} {K : PySem.W.Frag} {mg : Str → Option Value} {base : Heap}
def spTop : Sp := fun vs H Q _ => vs = [] ∧ Q (.int tooGreat) H
theorem ok_law_top (T : Ty K mg) : FnOk P w K mg base CX0 1 T.f_law_top T.d_law_top [] spTop := by
  refine T.h_law_top.F.ok sc_law_top (fun vs H Q E h => ?_) (fun cdv A outer s H vs Q E hr h => ?_)
  · obtain ⟨rfl, _⟩ := h
    rfl
  obtain ⟨rfl, q⟩ := h
  refine ⟨_, (pss_cons (ps_set (i := 0) sc_law_top.nd rfl (Or.inl rfl) (pe_op op_pow pe_int pe_int))
    (pss_one (ps_ret (pe_op op_mulW (pe_op op_mulW (pe_op op_mulW (pe_op op_mulW (pv 0) (pv 0)) (pv 0)) (pv 0)) (pv 0))))), ?_⟩
  refine ⟨_, _, rfl, rfl, ⟨by decide, by decide, by decide⟩, ?_⟩
  refine ⟨_, rfl, _, rfl, _, _, rfl, rfl, ?_, _, rfl, _, _, rfl, rfl, ?_, _, rfl, _, _, rfl, rfl, ?_, _, rfl, _, _, rfl, rfl, ?_, ?_⟩
  · exact wide_mul (a := 200) (b := 200) (by decide +kernel) (by decide +kernel) (by decide) (by decide) (by decide)
  · exact wide_mul (a := 400) (b := 200) (by decide +kernel) (by decide +kernel) (by decide) (by decide) (by decide)
  · exact wide_mul (a := 600) (b := 200) (by decide +kernel) (by decide +kernel) (by decide) (by decide) (by decide)
  · exact wide_mul (a := 800) (b := 200) (by decide +kernel) (by decide +kernel) (by decide) (by decide) (by decide)
  · have e : (10 : Int) ^ (60 : Int).toNat * 10 ^ (60 : Int).toNat * 10 ^ (60 : Int).toNat * 10 ^ (60 : Int).toNat * 10 ^ (60 : Int).toNat = tooGreat := by decide +kernel
    show Q (.int ((10 : Int) ^ (60 : Int).toNat * 10 ^ (60 : Int).toNat * 10 ^ (60 : Int).toNat * 10 ^ (60 : Int).toNat * 10 ^ (60 : Int).toNat)) H
    rw [e]
    exact q
end
end Hm

set_option Elab.async false
set_option linter.all false
set_option maxRecDepth 100000
set_option maxHeartbeats 1000000
set_option exponentiation.threshold 4000
/-! what the operations of arithmetic say of one another -/
namespace Hm
open PySem PySem.Spec PyProof.Rows L2 HT
open PySem.W (kbt_halves kbt_pos kbt_cast kbt_unique)
abbrev big : Int := 10 ^ 100
/-- what the law draws -/
abbrev Dn (x : Int) : Prop := -big < x ∧ x < big
theorem big_small : 100000 * big < tooGreat := by decide +kernel
theorem Dn.small {x : Int} (h : Dn x) : Small x := by
  have a := big_small
  have b : (0 : Int) < big := by decide +kernel
  unfold Dn at h
  unfold Small
  generalize big = g at *
  generalize tooGreat = t at *
  omega
theorem qz_t {x y : Int} : qz x y = x.tdiv y := by
  unfold qz
  have n1 : ∀ z : Int, (if z < 0 then -z else z) = (z.natAbs : Int) := fun z => by split <;> omega
  rw [n1, n1]
  have e : ((x.natAbs : Int) / (y.natAbs : Int)) = ((x.natAbs / y.natAbs : Nat) : Int) := rfl
  rw [e]
  by_cases hx : x < 0 <;> by_cases hy : y < 0
  · rw [decide_eq_true hx, decide_eq_true hy, if_pos rfl]
    obtain ⟨a, rfl⟩ : ∃ a : Nat, x = -(a : Int) := ⟨x.natAbs, by omega⟩
    obtain ⟨b, rfl⟩ : ∃ b : Nat, y = -(b : Int) := ⟨y.natAbs, by omega⟩
    rw [Int.neg_tdiv, Int.tdiv_neg, Int.neg_neg, Int.natAbs_neg, Int.natAbs_neg]
    rfl
  · rw [decide_eq_true hx, decide_eq_false hy, if_neg (by decide)]
    obtain ⟨a, rfl⟩ : ∃ a : Nat, x = -(a : Int) := ⟨x.natAbs, by omega⟩
    obtain ⟨b, rfl⟩ : ∃ b : Nat, y = (b : Int) := ⟨y.natAbs, by omega⟩
    rw [Int.neg_tdiv, Int.natAbs_neg]
    rfl
  · rw [decide_eq_false hx, decide_eq_true hy, if_neg (by decide)]
    obtain ⟨a, rfl⟩ : ∃ a : Nat, x = (a : Int) := ⟨x.natAbs, by omega⟩
    obtain ⟨b, rfl⟩ : ∃ b : Nat, y = -(b : Int) := ⟨y.natAbs, by omega⟩
    rw [Int.tdiv_neg, Int.natAbs_neg]
    rfl
  · rw [decide_eq_false hx, decide_eq_false hy, if_pos rfl]
    obtain ⟨a, rfl⟩ : ∃ a : Nat, x = (a : Int) := ⟨x.natAbs, by omega⟩
    obtain ⟨b, rfl⟩ : ∃ b : Nat, y = (b : Int) := ⟨y.natAbs, by omega⟩
    rfl
theorem left_t {x y : Int} : x - y * qz x y = x.tmod y := by
  rw [qz_t]
  have := Int.mul_tdiv_add_tmod x y
  omega
theorem after_f {x y : Int} : x - y * x.fdiv y = x.fmod y := by
  have := Int.fmod_add_mul_fdiv x y
  omega
/-- the facts of a division -/
structure DivF (x y n d a l : Int) : Prop where
  s1 : n * y + l = x
  s2 : d * y + a = x
  b1 : ¬ (if y < 0 then -y else y) ≤ (if l < 0 then -l else l)
  b2 : ¬ (if y < 0 then -y else y) ≤ (if a < 0 then -a else a)
  g1 : a ≠ 0 → ((0 < a) ↔ (0 < y))
  g2 : l ≠ 0 → ((0 < l) ↔ (0 < x))
  f : n - d = if l = a then 0 else 1
theorem div_facts {x y : Int} (h : y ≠ 0) : DivF x y (qz x y) (x.fdiv y) (x - y * x.fdiv y) (x - y * qz x y) := by
  have lt := @left_t x y
  have af := @after_f x y
  have s1 : qz x y * y + (x - y * qz x y) = x := by rw [Int.mul_comm]; omega
  have s2 : x.fdiv y * y + (x - y * x.fdiv y) = x := by rw [Int.mul_comm]; omega
  have b1 : (x.tmod y).natAbs < y.natAbs := by
    rw [Int.natAbs_tmod]
    exact Nat.mod_lt _ (by omega)
  have b2 : (x.fmod y).natAbs < y.natAbs := fmod_lt h
  have c1 : x.tmod y ≠ 0 → ((0 < x.tmod y) ↔ (0 < x)) := fun ne => by
    by_cases hx : 0 ≤ x
    · have := Int.tmod_nonneg y hx
      constructor
      · intro _
        have : x ≠ 0 := fun z => ne (by rw [z, Int.zero_tmod])
        omega
      · intro _; omega
    · have h0 := Int.tmod_nonneg y (show 0 ≤ -x by omega)
      rw [Int.neg_tmod] at h0
      constructor <;> intro _ <;> omega
  have c2 : x.fmod y ≠ 0 → ((0 < x.fmod y) ↔ (0 < y)) := fun ne => by
    by_cases hy : 0 < y
    · have := Int.fmod_nonneg_of_pos x hy
      constructor <;> intro _ <;> omega
    · have h0 := Int.fmod_nonneg_of_pos (-x) (show 0 < -y by omega)
      rw [Int.neg_fmod_neg] at h0
      constructor <;> intro _ <;> omega
  have e : (qz x y - x.fdiv y) * y = x.fmod y - x.tmod y := by
    rw [Int.sub_mul]
    omega
  rw [lt, af]
  rw [lt] at s1
  rw [af] at s2
  refine ⟨s1, s2, by omega, by omega, c2, c1, ?_⟩
  generalize hk : qz x y - x.fdiv y = k at e ⊢
  generalize x.fmod y = a at *
  generalize x.tmod y = l at *
  by_cases c : l = a
  · rw [if_pos c]
    subst c
    have e0 : k * y = 0 := by omega
    rcases Int.mul_eq_zero.mp e0 with z | z
    · exact z
    · exact absurd z h
  · rw [if_neg c]
    -- both below |y|, unlike: their difference is y itself
    have hne : k ≠ 0 := fun z => by rw [z, Int.zero_mul] at e; omega
    by_cases hy : 0 < y
    · have ha : 0 ≤ a := by
        by_cases z : a = 0
        · omega
        · exact Int.le_of_lt ((c2 z).mpr hy)
      have k1 : ¬ 2 ≤ k := fun z => by
        have : 2 * y ≤ k * y := Int.mul_le_mul_of_nonneg_right z (by omega)
        omega
      have k2 : ¬ k ≤ -1 := fun z => by
        have hm : k * y ≤ -1 * y := Int.mul_le_mul_of_nonneg_right z (by omega)
        have hl : 0 < l := by omega
        by_cases z2 : a = 0
        · omega
        · have := (c1 (by omega)).mp hl
          omega
      omega
    · have ha : a ≤ 0 := by
        by_cases z : a = 0
        · omega
        · have : ¬ 0 < a := fun q => hy ((c2 z).mp q)
          omega
      have k1 : ¬ 2 ≤ k := fun z => by
        have : k * y ≤ 2 * y := Int.mul_le_mul_of_nonpos_right z (by omega)
        omega
      have k2 : ¬ k ≤ -1 := fun z => by
        have hm : -1 * y ≤ k * y := Int.mul_le_mul_of_nonpos_right z (by omega)
        omega
      omega
end Hm

set_option Elab.async false
set_option linter.all false
set_option maxRecDepth 100000
set_option maxHeartbeats 1000000
set_option exponentiation.threshold 4000
namespace Hm
open PySem PySem.Spec PyProof.Rows L2 HT
open PySem.W (kbt_halves kbt_pos kbt_cast kbt_unique)
/-! ### bits stay in range -/
theorem rng {op f : Int → Int → Int} (h : ∀ a b, op a b = 2 * op (a / 2) (b / 2) + f (a % 2) (b % 2)) (hf : ∀ l r : Int, (l = 0 ∨ l = 1) → (r = 0 ∨ r = 1) → 0 ≤ f l r ∧ f l r ≤ 1)
    (h0 : ∀ a b : Int, (a = -1 ∨ a = 0) → (b = -1 ∨ b = 0) → (op a b = -1 ∨ op a b = 0)) : ∀ (n : Nat) (x y : Int), -2 ^ n ≤ x → x < 2 ^ n → -2 ^ n ≤ y → y < 2 ^ n → -2 ^ n ≤ op x y ∧ op x y < 2 ^ n
  | 0, x, y, h1, h2, h3, h4 => by
    rw [Int.pow_zero] at *
    have := h0 x y (by omega) (by omega)
    omega
  | n + 1, x, y, h1, h2, h3, h4 => by
    rw [Int.pow_succ] at *
    have ih := rng h hf h0 n (x / 2) (y / 2) (by omega) (by omega) (by omega) (by omega)
    have hb := hf (x % 2) (y % 2) (bit2 x) (bit2 y)
    rw [h x y]
    omega
theorem f01A : ∀ l r : Int, (l = 0 ∨ l = 1) → (r = 0 ∨ r = 1) → 0 ≤ fA l r ∧ fA l r ≤ 1 := fun l r hl hr => by rcases hl with rfl | rfl <;> rcases hr with rfl | rfl <;> decide
theorem f01O : ∀ l r : Int, (l = 0 ∨ l = 1) → (r = 0 ∨ r = 1) → 0 ≤ fO l r ∧ fO l r ≤ 1 := fun l r hl hr => by rcases hl with rfl | rfl <;> rcases hr with rfl | rfl <;> decide
theorem f01X : ∀ l r : Int, (l = 0 ∨ l = 1) → (r = 0 ∨ r = 1) → 0 ≤ fX l r ∧ fX l r ≤ 1 := fun l r hl hr => by rcases hl with rfl | rfl <;> rcases hr with rfl | rfl <;> decide
theorem dn_pow {x : Int} (h : Dn x) : -2 ^ 340 ≤ x ∧ x < 2 ^ 340 := by
  have e : big < 2 ^ 340 := by decide +kernel
  unfold Dn at h
  generalize big = g at *
  generalize (2 : Int) ^ 340 = m at *
  omega
theorem pow_small {x : Int} (h : -2 ^ 340 ≤ x ∧ x < 2 ^ 340) : Small x := by
  have e : (2 : Int) ^ 340 < tooGreat := by decide +kernel
  unfold Small
  generalize tooGreat = g at *
  generalize (2 : Int) ^ 340 = m at *
  omega
theorem and_small {x y : Int} (hx : Dn x) (hy : Dn y) : Small (Builtin.bitAnd x y) := pow_small (rng and_half f01A (fun a b ha hb => by rcases ha with rfl | rfl <;> rcases hb with rfl | rfl <;> decide) 340 x y (dn_pow hx).1 (dn_pow hx).2 (dn_pow hy).1 (dn_pow hy).2)
theorem or_small {x y : Int} (hx : Dn x) (hy : Dn y) : Small (Builtin.bitOr x y) := pow_small (rng or_half f01O (fun a b ha hb => by rcases ha with rfl | rfl <;> rcases hb with rfl | rfl <;> decide) 340 x y (dn_pow hx).1 (dn_pow hx).2 (dn_pow hy).1 (dn_pow hy).2)
theorem xor_small {x y : Int} (hx : Dn x) (hy : Dn y) : Small (Builtin.bitXor x y) := pow_small (rng xor_half f01X (fun a b ha hb => by rcases ha with rfl | rfl <;> rcases hb with rfl | rfl <;> decide) 340 x y (dn_pow hx).1 (dn_pow hx).2 (dn_pow hy).1 (dn_pow hy).2)
theorem morgan (x y : Int) : -Builtin.bitAnd x y - 1 = Builtin.bitOr (-x - 1) (-y - 1) := de_morgan x y
/-! ### common divisors -/
theorem gcd_mulR (x y m : Int) : ((Int.gcd (x * m) (y * m) : Nat) : Int) = ((Int.gcd x y : Nat) : Int) * (if m < 0 then -m else m) := by
  rw [Int.gcd_mul_right]
  have e : (if m < 0 then -m else m) = (m.natAbs : Int) := by split <;> omega
  rw [e]
  rfl
theorem gcd_addR (x y m : Int) : Int.gcd y (x + m * y) = Int.gcd x y := by
  rw [Int.gcd_add_mul_right_right, Int.gcd_comm]
theorem gcd_mod (x y : Int) : x % ((Int.gcd x y : Nat) : Int) = 0 ∧ y % ((Int.gcd x y : Nat) : Int) = 0 := ⟨Int.emod_eq_zero_of_dvd (Int.gcd_dvd_left x y), Int.emod_eq_zero_of_dvd (Int.gcd_dvd_right x y)⟩
theorem gcd_zero {x y : Int} (h : ((Int.gcd x y : Nat) : Int) = 0) : x = 0 ∧ y = 0 := Int.gcd_eq_zero_iff.mp (by omega)
theorem gcd_small {x y : Int} (hx : Small x) (hy : Small y) : Small ((Int.gcd x y : Nat) : Int) := by
  have t0 : (0 : Int) < tooGreat := by decide +kernel
  by_cases h : x = 0
  · subst h
    rw [Int.gcd_zero_left]
    unfold Small at *
    generalize tooGreat = g at *
    omega
  · have := Nat.le_of_dvd (show 0 < x.natAbs by omega) (Int.gcd_dvd_natAbs_left x y)
    unfold Small at *
    generalize tooGreat = g at *
    omega
/-! ### powers and shifts -/
theorem pow_le {b : Int} (h : b.natAbs ≤ 9) {e : Nat} (he : e ≤ 140) : Small (b ^ e) := by
  have h1 : (b ^ e).natAbs ≤ 9 ^ 140 := by
    rw [Int.natAbs_pow]
    exact Nat.le_trans (Nat.pow_le_pow_left h e) (Nat.pow_le_pow_right (by decide) he)
  have h2 : ((9 ^ 140 : Nat) : Int) < tooGreat := by decide +kernel
  unfold Small
  generalize tooGreat = g at *
  generalize (9 : Nat) ^ 140 = m at *
  generalize b ^ e = z at *
  omega
theorem pow_val {b : Int} (h : b.natAbs ≤ 9) {e : Nat} (he : e ≤ 140) : fPow b (e : Int) = .n (b ^ e) := by
  have ee : ((e : Int)).toNat = e := by omega
  by_cases c : -1 ≤ b ∧ b ≤ 1
  · rw [fPow, if_pos c, fSmallPow]
    by_cases e0 : (e : Int) = 0
    · rw [if_pos e0]
      have : e = 0 := by omega
      subst this
      rw [Int.pow_zero]
    · rw [if_neg e0]
      have h3 : b = 0 ∨ b = 1 ∨ b = -1 := by omega
      obtain ⟨k, rfl⟩ : ∃ k, e = k + 1 := ⟨e - 1, by omega⟩
      rcases h3 with rfl | rfl | rfl
      · rw [if_pos rfl, if_neg (by omega), Int.pow_succ, Int.mul_zero]
      · rw [if_neg (by decide), Int.one_pow]
        split <;> rfl
      · rw [if_neg (by decide)]
        congr 1
        have key : ∀ n : Nat, (-1 : Int) ^ n = if n % 2 = 0 then 1 else -1 := fun n => by
          induction n with
          | zero => rfl
          | succ n ih =>
            rw [Int.pow_succ, ih]
            rcases Nat.mod_two_eq_zero_or_one n with q | q
            · rw [if_pos q, if_neg (by omega)]
              rfl
            · rw [if_neg (by omega), if_pos (by omega)]
              rfl
        rw [key]
        split <;> split <;> omega
  · rw [fPow, if_neg c, if_neg (by omega), if_neg (by omega), ee, if_pos (pow_le h he)]
theorem clamp {x : Int} : (if (9 : Int) < (if 0 - 9 > x then 0 - 9 else x) then (9 : Int) else (if 0 - 9 > x then 0 - 9 else x)).natAbs ≤ 9 := by
  split <;> split <;> omega
theorem shl_small {x : Int} (h : Dn x) {k : Nat} (hk : k < 70) : Small (x * 2 ^ k) := by
  have e1 : big * 2 ^ 70 < tooGreat := by decide +kernel
  have e2 : (2 : Int) ^ k ≤ 2 ^ 70 := by
    have := Nat.pow_le_pow_right (show 0 < 2 by decide) (show k ≤ 70 by omega)
    have a1 := kbt_cast k
    have a2 := kbt_cast 70
    omega
  have e3 := kbt_pos k
  have u1 : x * 2 ^ k ≤ big * 2 ^ 70 := by
    have hb : (0 : Int) ≤ big := by decide +kernel
    exact Int.le_trans (Int.mul_le_mul_of_nonneg_right (Int.le_of_lt h.2) (Int.le_of_lt e3)) (Int.mul_le_mul_of_nonneg_left e2 hb)
  have u2 : -(big * 2 ^ 70) ≤ x * 2 ^ k := by
    have hb : (0 : Int) ≤ big := by decide +kernel
    have a1 : -big * 2 ^ k ≤ x * 2 ^ k := Int.mul_le_mul_of_nonneg_right (Int.le_of_lt h.1) (Int.le_of_lt e3)
    have a2 : big * 2 ^ k ≤ big * 2 ^ 70 := Int.mul_le_mul_of_nonneg_left e2 hb
    rw [Int.neg_mul] at a1
    omega
  unfold Small
  generalize big * 2 ^ 70 = m at *
  generalize tooGreat = g at *
  omega
theorem shl_val {x : Int} {k : Nat} (hk : k < 70) : fShl x (k : Int) = .n (x * 2 ^ k) := by
  unfold fShl
  rw [if_neg (by omega), if_neg (by omega), if_neg (by omega)]
  rfl
theorem shr_val {x : Int} {k : Nat} (hk : k < 70) : fShr x (k : Int) = .n (x / 2 ^ k) := by
  unfold fShr
  rw [if_neg (by omega), if_neg (by omega)]
  rfl
theorem shr_far {x y : Int} (h : Small x) (hy : 1000 < y) : fShr x y = .n (0 - (if x < 0 then 1 else 0)) := by
  unfold fShr
  rw [if_neg (by omega), if_pos hy]
  have := far_div (n := 1000) h.nat
  show Rs.n (x / 2 ^ 1000) = _
  rw [this]
  congr 1
  split <;> rfl
theorem msb_val {x : Int} (h : 0 < x) : ∃ k : Nat, fMsb x = .n (k : Int) ∧ 1 * 2 ^ k ≤ x ∧ x < 2 * 2 ^ k ∧ k < Builtin.Int.intBits x := by
  have h0 : x.natAbs ≠ 0 := by omega
  have e : Builtin.Int.intBits x = x.natAbs.log2 + 1 := by
    unfold Builtin.Int.intBits
    rw [if_neg (by intro z; have := eq_of_beq z; omega)]
  have h1 : 2 ^ x.natAbs.log2 ≤ x.natAbs := Nat.log2_self_le h0
  have h2 : x.natAbs < 2 ^ (x.natAbs.log2 + 1) := Nat.lt_log2_self
  have c := kbt_cast x.natAbs.log2
  refine ⟨x.natAbs.log2, ?_, ?_, ?_, ?_⟩
  · unfold fMsb
    rw [if_neg (by omega), e]
    congr 1
    omega
  · rw [Int.one_mul]
    omega
  · rw [Nat.pow_succ] at h2
    omega
  · rw [e]
    exact Nat.lt_succ_self _
end Hm

set_option Elab.async false
set_option linter.all false
set_option maxRecDepth 100000
set_option maxHeartbeats 1000000
set_option exponentiation.threshold 4000
namespace Hm
open PySem PySem.Spec PyProof.Rows L2 HT
open Evl (Ex)
section
variable {P : Program} {w : World} {K : PySem.W.Frag} {mg : Str → Option Value} {base : Heap}
/-- a def that may raise, where it does not -/
theorem calm {k : Nat} {f : Addr} {fd : FuncData} {ps : List Str} {sp sp0 : Sp} (F : FnOk P w K mg base (L2.CX P w) k f fd ps sp) (h : ∀ vs H Q E, sp0 vs H Q E → sp vs H Q fun _ _ _ => False) : FnOk P w K mg base CX0 k f fd ps sp0 :=
  ⟨fun vs H Q E q => F.len vs H Q _ (h vs H Q E q), fun A outer s H args us vs Q E hr he hb hv hs => codeAny_mono (F.run A outer s H args us vs Q _ hr he hb hv (h vs H Q E hs)) fun r s' z => by
    cases r with
    | ok fl => cases fl <;> exact z
    | error e =>
      obtain ⟨_, _, _, _, _, _, _, _, _, _, _, _, z⟩ := z
      exact z⟩
def spReck0 (K : PySem.W.Frag) : Sp := fun vs H Q _ => ∃ v t, vs = [v] ∧ Rep K H t v ∧ Ok t ∧ size t ≤ 1000 ∧ ∀ v' H', Ex H H' → RsAt K H' v' (ev t) → Q v' H'
theorem ok_reck0 (T : Tz K w mg) : FnOk P w K mg base CX0 6 T.f_reckoned T.d_reckoned ["term"] (spReck0 K) := calm (ok_reckoned T) fun vs H Q E ⟨v, t, e, hR, hO, hz, q⟩ => ⟨v, e, .inl ⟨t, hR, hO, hz, q⟩⟩
theorem rep_int {H : Hp} {i : Int} : Rep K H (.int i) (.int i) := by unfold Rep; rfl
theorem rep_comp {H : Hp} {p : Addr} {f : Str} {as : List Tm} {ws : List V} (h : SqT K H p (.str f :: ws)) (hA : Reps K H as ws) : Rep K H (.comp f as) (.ref p) := by
  unfold Rep
  exact ⟨p, ws, rfl, h, hA⟩
def atomB (s : Str) : Bool := decide (s.cps.size ≤ 40) && s.cps.toList.all fun c => decide (32 ≤ c) && decide (c ≤ 126) && decide (c ≠ 37)
theorem atomB_ok {s : Str} (h : atomB s = true) : AtomOk s := by
  unfold atomB at h
  rw [Bool.and_eq_true, List.all_eq_true] at h
  refine ⟨of_decide_eq_true h.1, fun c hc => ?_⟩
  have := h.2 c hc
  rw [Bool.and_eq_true, Bool.and_eq_true] at this
  exact ⟨of_decide_eq_true this.1.1, of_decide_eq_true this.1.2, of_decide_eq_true this.2⟩
theorem ok_int {i : Int} (h : Small i) : Ok (.int i) := by
  unfold Ok
  exact h
theorem ok_two {z : Str} {s t : Tm} (hz : atomB z = true) (hs : Ok s) (ht : Ok t) : Ok (.comp z [s, t]) := by
  unfold Ok
  exact ⟨atomB_ok hz, by simp, by simp, by rw [oks_cons, oks_cons]; exact ⟨hs, ht, trivial⟩⟩
theorem ok_one {z : Str} {s : Tm} (hz : atomB z = true) (hs : Ok s) : Ok (.comp z [s]) := by
  unfold Ok
  exact ⟨atomB_ok hz, by simp, by simp, by rw [oks_cons]; exact ⟨hs, trivial⟩⟩
theorem ev_int (i : Int) : ev (.int i) = .n i := by rw [ev]; rfl
theorem ev_two {z : Str} {s t : Tm} {g : Int → Int → Rs} {x y : Int} (h : two2.lookup z = some g) (hs : ev s = .n x) (ht : ev t = .n y) : ev (.comp z [s, t]) = bnd (g x y) := by
  rw [ev, if_pos (show isOp (.comp z [s, t]) = true by show (two2.lookup z).isSome = true; rw [h]; rfl), evs, evs, evs, hs, ht]
  show bnd (((two2.lookup z).map fun g => g x y).getD (.n 0)) = _
  rw [h]
  rfl
theorem ev_one {z : Str} {s : Tm} {g : Int → Rs} {x : Int} (h : one1.lookup z = some g) (hs : ev s = .n x) : ev (.comp z [s]) = bnd (g x) := by
  rw [ev, if_pos (show isOp (.comp z [s]) = true by show (one1.lookup z).isSome = true; rw [h]; rfl), evs, evs, hs]
  show bnd (((one1.lookup z).map fun g => g x).getD (.n 0)) = _
  rw [h]
  rfl
/-- the value of an operation on two numbers -/
def spOf : Sp := fun vs H Q _ => ∃ (z : Str) (x y k : Int) (g : Int → Int → Rs), vs = [.str z, .int x, .int y] ∧ two2.lookup z = some g ∧ atomB z = true ∧ Small x ∧ Small y ∧ g x y = .n k ∧ Small k ∧ ∀ H', Ex H H' → Q (.int k) H'
theorem ok_law_of (T : Tz K w mg) : FnOk P w K mg base CX0 7 T.f_law_of T.d_law_of ["_law_name", "_law_x", "_law_y"] spOf := by
  refine T.h_law_of.F.ok sc_law_of (fun vs H Q E h => ?_) (fun cdv A outer s H vs Q E hr h => ?_)
  · obtain ⟨z, x, y, k, g, rfl, _⟩ := h
    rfl
  obtain ⟨z, x, y, k, g, rfl, hg, hz, hx, hy, hk, hs, q⟩ := h
  refine ⟨_, (pss_cons (ps_set (i := 3) sc_law_of.nd rfl (Or.inl rfl) (cl (ok_reck0 T) T.h_reckoned hr (pa_cons (pe_tup (pa_cons (pv 0) (pa_cons (pv 1) (pa_cons (pv 2) pa_nil)))) pa_nil)))
    (pss_one (ps_ret (pe_ifExp (pt_cmpR op_eq (pe_ix ix_tup (pv 3) pe_int (fun _ _ => rfl)) pe_str (nomark _)) (pe_ix ix_tup (pv 3) pe_int (fun _ _ => rfl)) pe_non)))), ?_⟩
  have e : ev (.comp z [.int x, .int y]) = .n k := by rw [ev_two hg (ev_int x) (ev_int y), hk, bnd_in hs]
  refine ⟨_, rfl, _, rfl, _, rfl, (by show 3 ≤ sizeLine; decide), fun p hp => ⟨_, .comp z [.int x, .int y], rfl, rep_comp (SqT.of upd_same) (Reps.cons rep_int (Reps.one rep_int)), ok_two hz (ok_int hx) (ok_int hy), by show 1 + (1 + (1 + 0)) ≤ 1000; decide, fun v' H2 e2 rs => ?_⟩⟩
  rw [e] at rs
  obtain ⟨a, rfl, hT⟩ := rs
  refine ⟨_, rfl, a, _, 0, _, rfl, rfl, hT, at0, rfl, _, rfl, ?_⟩
  rw [decide_eq_true (show V.str "value" = V.str "value" from rfl)]
  exact iteT ⟨_, rfl, a, _, 1, _, rfl, rfl, hT, rfl, q _ ((Ex.new hp).trans e2)⟩
def spNumb : Sp := fun vs H Q _ => ∃ a, vs = [.ref a] ∧ Well H a ∧ ∀ n H', Dn n → Dr a H H' → Q (.int n) H'
theorem ok_law_number (T : Tx K mg) : FnOk P w K mg base CX0 3 T.f_law_number T.d_law_number ["_law_source"] spNumb := by
  refine T.h_law_number.F.ok sc_law_number (fun vs H Q E h => ?_) (fun cdv A outer s H vs Q E hr h => ?_)
  · obtain ⟨a, rfl, _⟩ := h
    rfl
  obtain ⟨a, rfl, hW, q⟩ := h
  refine ⟨_, (pss_cons (ps_set (i := 1) sc_law_number.nd rfl (Or.inl rfl) (cl (ok_law_one T) T.h_law_one hr (pa_cons (pv 0) (pa_cons (pe_lst (pa_cons pe_int (pa_cons pe_int (pa_cons (pe_op op_pow pe_int pe_int) (pa_cons (pe_op op_mulW (pe_op op_pow pe_int pe_int) (pe_op op_pow pe_int pe_int)) pa_nil))))) pa_nil))))
    (pss_one (ps_ret (pe_op op_mulW (cl (ok_law_next T) T.h_law_next hr (pa_cons (pv 0) (pa_cons (pv 1) pa_nil))) (cl (ok_law_one T) T.h_law_one hr (pa_cons (pv 0) (pa_cons (pe_lst (pa_cons pe_int (pa_cons (pe_op op_sub pe_int pe_int) pa_nil))) pa_nil))))))), ?_⟩
  refine ⟨_, rfl, _, _, rfl, rfl, ⟨by decide, by decide, by decide⟩, _, _, rfl, rfl, ⟨by decide, by decide, by decide⟩, _, _, rfl, rfl, ⟨by decide, by decide, by decide⟩, _, _, rfl, rfl, wide_mul (a := 200) (b := 200) (by decide +kernel) (by decide +kernel) (by decide) (by decide) (by decide), (by show 4 ≤ sizeLine; decide), fun l hl => ?_⟩
  have d1 : ∀ o, Dr a H (upd H l o) := fun o => Dr.ex hW (Ex.new hl)
  refine ⟨a, l, _, rfl, (d1 _).well, hW.ne hl, SqL.of upd_same, by simp, (by show 4 ≤ 1000; decide), fun x H2 hx d2 => ?_⟩
  obtain ⟨m, rfl, m0, m1⟩ : ∃ m : Int, x = .int m ∧ 0 < m ∧ m ≤ big := by
    simp only [List.mem_cons, List.not_mem_nil, or_false] at hx
    rcases hx with rfl | rfl | rfl | rfl
    · exact ⟨_, rfl, by decide, by decide +kernel⟩
    · exact ⟨_, rfl, by decide, by decide +kernel⟩
    · exact ⟨_, rfl, by decide +kernel, by decide +kernel⟩
    · exact ⟨_, rfl, by decide +kernel, by decide +kernel⟩
  have mb : m.natAbs < 2 ^ 1000 := by
    have e : big < 2 ^ 1000 := by decide +kernel
    have c := PySem.W.kbt_cast 1000
    generalize big = g at *
    generalize (2 : Nat) ^ 1000 = u at *
    omega
  refine ⟨_, rfl, _, rfl, a, m, rfl, d2.well, m0, mb, fun d H3 h0 h1 d3 => ⟨_, rfl, _, _, rfl, rfl, (by show 2 ≤ sizeLine; decide), fun l2 hl2 => ?_⟩⟩
  have d4 : ∀ o, Dr a H3 (upd H3 l2 o) := fun o => Dr.ex d3.well (Ex.new hl2)
  refine ⟨a, l2, _, rfl, (d4 _).well, d3.well.ne hl2, SqL.of upd_same, by simp, (by show 2 ≤ 1000; decide), fun x2 H4 hx2 d5 => ?_⟩
  have dd := (((d1 _).trans d2).trans d3).trans ((d4 _).trans d5)
  have db : d < big := Int.lt_of_lt_of_le h1 m1
  have dn : d.natAbs < 2 ^ 1000 := by omega
  have n1 : -big < d := by
    have : (0 : Int) < big := by decide +kernel
    generalize big = g at *
    omega
  simp only [List.mem_cons, List.not_mem_nil, or_false] at hx2
  rcases hx2 with rfl | rfl
  · refine ⟨_, _, rfl, rfl, wide_mul dn (show (1 : Int).natAbs < 2 ^ 10 by decide) (by decide) (by decide) (by decide), ?_⟩
    have e : d * 1 = d := Int.mul_one d
    show Q (.int (d * 1)) H4
    rw [e]
    exact q _ _ ⟨n1, db⟩ dd
  · refine ⟨_, _, rfl, rfl, wide_mul dn (show (0 - 1 : Int).natAbs < 2 ^ 10 by decide) (by decide) (by decide) (by decide), ?_⟩
    have e : d * (0 - 1) = -d := by omega
    show Q (.int (d * (0 - 1))) H4
    rw [e]
    refine q _ _ ⟨?_, ?_⟩ dd
    · generalize big = g at *
      omega
    · generalize big = g at *
      omega
end
end Hm

set_option Elab.async false
set_option linter.all false
set_option maxRecDepth 100000
set_option maxHeartbeats 1000000
set_option exponentiation.threshold 4000
namespace Hm
open PySem PySem.Spec PyProof.Rows L2 HT
open Evl (Ex)
theorem neF {a b : Int} (h : a = b) : ¬ ((!decide (V.int a = V.int b)) = true) := by
  rw [h, decide_eq_true rfl]
  decide
theorem leF {a b : Int} (h : ¬ a ≤ b) : ¬ (decide (a ≤ b) = true) := fun c => h (of_decide_eq_true c)
theorem ltF {a b : Int} (h : ¬ a < b) : ¬ (decide (a < b) = true) := fun c => h (of_decide_eq_true c)
theorem bneF {p q : Prop} [Decidable p] [Decidable q] (h : p ↔ q) : ¬ ((!decide (V.bl (decide p) = V.bl (decide q))) = true) := by
  have e : decide p = decide q := by
    by_cases c : p
    · rw [decide_eq_true c, decide_eq_true (h.mp c)]
    · rw [decide_eq_false c, decide_eq_false fun z => c (h.mpr z)]
  rw [e, decide_eq_true rfl]
  decide
theorem not_not_small {x : Int} (h : ¬ ¬ Small x) : Small x := Decidable.byContradiction h
theorem ne_of {a b : Int} (h : (!decide (V.int a = V.int b)) = true) : a ≠ b := fun e => neF e h
def dRs : Rs → PyData
  | .n k => .tuple [.str "value", .int k]
  | .e d => .tuple [.str "error", d]
section
variable {P : Program} {w : World} {K : PySem.W.Frag} {mg : Str → Option Value} {base : Heap}
theorem rs_dp {H : Hp} {v : V} {r : Rs} (h : RsAt K H v r) : Dp K H v (dRs r) := by
  cases r with
  | n k =>
    obtain ⟨a, rfl, hT⟩ := h
    exact .tup hT (.cons (.str _) (.cons (.int _) .nil))
  | e d =>
    obtain ⟨a, x, rfl, hT, hx⟩ := h
    exact .tup hT (.cons (.str _) (.cons (et_dp hx) .nil))
theorem rs_mono {H H' : Hp} (m : Tups K H H') {v : V} {r : Rs} (h : RsAt K H v r) : RsAt K H' v r := by
  cases r with
  | n k =>
    obtain ⟨a, e, hT⟩ := h
    exact ⟨a, e, m _ _ hT⟩
  | e d =>
    obtain ⟨a, x, e, hT, hx⟩ := h
    exact ⟨a, x, e, m _ _ hT, et_mono m hx⟩
theorem shaped_n (k : Int) : SeqAt.shaped (dRs (.n k)) = true := by
  exact (by decide +kernel : (((PyData.str "value").canLay0 && (true && true)) && decide (max 0 (max 0 0) + 1 ≤ 64)) = true)
theorem shaped_div : SeqAt.shaped (dRs (.e dNoDiv)) = true := by decide +kernel
theorem shaped_long : SeqAt.shaped (dRs (.e dTooLong)) = true := by decide +kernel
def spDiv : Sp := fun vs H Q _ => ∃ x y : Int, vs = [.int x, .int y] ∧ Dn x ∧ Dn y ∧ ∀ H', Ex H H' → Q (.bl true) H'
theorem ok_law_divisions_right (T : Tz K w mg) : FnOk P w K mg base CX0 8 T.f_law_divisions_right T.d_law_divisions_right ["_law_x", "_law_y"] spDiv := by
  refine T.h_law_divisions_right.F.ok sc_law_divisions_right (fun vs H Q E h => ?_) (fun cdv A outer s H vs Q E hr h => ?_)
  · obtain ⟨x, y, rfl, _⟩ := h
    rfl
  obtain ⟨x, y, rfl, hx, hy, q⟩ := h
  have hxs := hx.small
  have hys := hy.small
  refine ⟨_, (pss_cons (ps_if (pt_cmpR op_eq (pv 1) pe_int (nomark _))
      (pss_cons (ps_setLc (i := 2) (own := [("_law_name", 7)]) (g := gName 7) rfl sc_law_divisions_right.nd rfl rfl (sw_true rfl rfl rfl (by decide +kernel)) (pi_tup (pe_tup (pa_cons pe_str (pa_cons pe_str (pa_cons pe_str (pa_cons pe_str pa_nil)))))) (blkOk_by (own := [("_law_name", 7)]) (N := ["_law_x", "_law_y", "_law_told", "_law_near", "_law_down", "_law_after", "_law_left", "_law_name"]) (sc := defScope s_law_divisions_right) (by decide +kernel)) (fun _ _ _ _ _ => pg_name (i := 7) sc_law_divisions_right.nd rfl (Or.inl rfl)) (fun _ _ _ _ _ => pts_nil) (fun _ _ _ _ _ => (cl (ok_reck0 T) T.h_reckoned hr (pa_cons (pe_tup (pa_cons (pv 7) (pa_cons (pv 0) (pa_cons (pv 1) pa_nil)))) pa_nil))))
    (pss_one (ps_ret (pe_cmpR (op_eqD hr.units) (pv 2) (pe_op op_rep (pe_lst (pa_cons (pe_tup (pa_cons pe_str (pa_cons (pe_tup (pa_cons pe_str (pa_cons pe_str pa_nil))) pa_nil))) pa_nil)) pe_int) (nomark _)))))
      pss_nil)
    (pss_cons (ps_par (i := 3) (j := 4) rfl sc_law_divisions_right.nd rfl rfl (by decide) rfl rfl (pa_cons (cl (ok_law_of T) T.h_law_of hr (pa_cons pe_str (pa_cons (pv 0) (pa_cons (pv 1) pa_nil)))) (pa_cons (cl (ok_law_of T) T.h_law_of hr (pa_cons pe_str (pa_cons (pv 0) (pa_cons (pv 1) pa_nil)))) pa_nil)) rfl)
    (pss_cons (ps_par (i := 5) (j := 6) rfl sc_law_divisions_right.nd rfl rfl (by decide) rfl rfl (pa_cons (cl (ok_law_of T) T.h_law_of hr (pa_cons pe_str (pa_cons (pv 0) (pa_cons (pv 1) pa_nil)))) (pa_cons (cl (ok_law_of T) T.h_law_of hr (pa_cons pe_str (pa_cons (pv 0) (pa_cons (pv 1) pa_nil)))) pa_nil)) rfl)
    (pss_cons (ps_if (PW.pt (pw_or (pt_cmpR op_ne (pe_op op_add (pe_op op_mulW (pv 3) (pv 1)) (pv 6)) (pv 0) (nomark _)) (pw_or1 (pt_cmpR op_ne (pe_op op_add (pe_op op_mulW (pv 4) (pv 1)) (pv 5)) (pv 0) (nomark _)))))
      (pss_one (ps_ret pe_bl))
      pss_nil)
    (pss_cons (ps_if (PW.pt (pw_or (pt_cmpR op_ge (pe_callB call_abs rfl T.b_abs (by decide +kernel) (pa_cons (pv 6) pa_nil)) (pe_callB call_abs rfl T.b_abs (by decide +kernel) (pa_cons (pv 1) pa_nil)) (nomark _)) (pw_or1 (pt_cmpR op_ge (pe_callB call_abs rfl T.b_abs (by decide +kernel) (pa_cons (pv 5) pa_nil)) (pe_callB call_abs rfl T.b_abs (by decide +kernel) (pa_cons (pv 1) pa_nil)) (nomark _)))))
      (pss_one (ps_ret pe_bl))
      pss_nil)
    (pss_cons (ps_if (PW.pt (pw_or (PW.pt (pw_and (pt_cmpR op_ne (pv 5) pe_int (nomark _)) (pw_and1 (pt_cmpR op_ne (pe_cmpR op_gt (pv 5) pe_int (nomark _)) (pe_cmpR op_gt (pv 1) pe_int (nomark _)) (nomark _))))) (pw_or1 (PW.pt (pw_and (pt_cmpR op_ne (pv 6) pe_int (nomark _)) (pw_and1 (pt_cmpR op_ne (pe_cmpR op_gt (pv 6) pe_int (nomark _)) (pe_cmpR op_gt (pv 0) pe_int (nomark _)) (nomark _))))))))
      (pss_one (ps_ret pe_bl))
      pss_nil)
    (pss_one (ps_ret (pe_cmpR op_eq (pe_op op_sub (pv 3) (pv 4)) (pe_callTy call_int1 rfl T.b_int (by decide +kernel) (pa_cons (pe_cmpR op_ne (pv 6) (pv 5) (nomark _)) pa_nil)) (nomark _)))))))))), ?_⟩
  refine ⟨_, rfl, rfl, _, rfl, ?_⟩
  rw [dec_int]
  by_cases h0 : y = 0
  · rw [beq_true_of h0]
    refine iteT ⟨(by show 4 ≤ sizeLine; decide), fun tp htp => ⟨tp, rfl, ⟨_, SqT.of upd_same⟩, fun D hD => ?_⟩⟩
    have hTn : SqT K (upd H tp (.tup [V.str "//", .str "div", .str "mod", .str "rem"])) tp [V.str "//", .str "div", .str "mod", .str "rem"] := SqT.of upd_same
    have e1 := Ex.new (o := HO.tup [V.str "//", .str "div", .str "mod", .str "rem"]) htp
    have hDn := ex_none e1 hD
    refine lc_it walk_tup (fun i H' => Ex (upd H tp (.tup [V.str "//", .str "div", .str "mod", .str "rem"])) H' ∧ ∃ zs, H' D = some (.lst zs) ∧ zs.length = i ∧ ∀ z ∈ zs, RsAt K H' z (.e dNoDiv)) ⟨Ex.new hD, [], upd_same, rfl, fun z hz => nomatch hz⟩ (fun i H' _ h => Evl.ex_t h.1 hTn) ?_ ?_
    · rintro i v H2 H3 hi ⟨e2, zs, hz, hl, hall⟩ ⟨rfl, hv⟩
      have hi4 : i < 4 := hi
      obtain ⟨z, g, rfl, hg, hat, hgd⟩ : ∃ (z : Str) (g : Int → Int → Rs), v = .str z ∧ two2.lookup z = some g ∧ atomB z = true ∧ g x y = .e dNoDiv := by
        have : i = 0 ∨ i = 1 ∨ i = 2 ∨ i = 3 := by omega
        rcases this with rfl | rfl | rfl | rfl
        · cases hv
          exact ⟨"//", fTz, rfl, rfl, by decide +kernel, if_pos h0⟩
        · cases hv
          exact ⟨"div", fDown, rfl, rfl, by decide +kernel, if_pos h0⟩
        · cases hv
          exact ⟨"mod", fMod, rfl, rfl, by decide +kernel, if_pos h0⟩
        · cases hv
          exact ⟨"rem", fRem, rfl, rfl, by decide +kernel, if_pos h0⟩
      refine ⟨rfl, yesI ⟨_, rfl, _, rfl, _, rfl, (by show 3 ≤ sizeLine; decide), fun p hp => ⟨_, .comp z [.int x, .int y], rfl, rep_comp (SqT.of upd_same) (Reps.cons rep_int (Reps.one rep_int)), ok_two hat (ok_int hxs) (ok_int hys), by show 1 + (1 + (1 + 0)) ≤ 1000; decide, fun v' H4 e4 rs => ?_⟩⟩⟩
      rw [ev_two hg (ev_int x) (ev_int y), hgd] at rs
      have e24 := (Ex.new (o := HO.tup [V.str z, .int x, .int y]) hp).trans e4
      have hz4 := e24 _ _ hz
      have tt := (Tups.of (K := K) e24).trans (Tups.lst (o := HO.lst (zs ++ [v'])) hz4)
      refine ⟨zs, hz4, small5' (by omega), Ex.mut (e2.trans e24) hD, _, upd_same, by rw [List.length_append, hl]; rfl, fun u hu => ?_⟩
      rcases List.mem_append.mp hu with hu | hu
      · exact rs_mono tt (hall u hu)
      · rw [List.mem_singleton.mp hu]
        exact rs_mono (Tups.lst (o := HO.lst (zs ++ [v'])) hz4) rs
    · rintro H2 ⟨e2, zs, hz, hl, hall⟩
      refine ⟨_, rfl, (by show 2 ≤ sizeLine; decide), fun p1 h1 => ⟨(by show 2 ≤ sizeLine; decide), fun p2 h2 => ⟨(by show 1 ≤ sizeLine; decide), fun p3 h3 => ⟨p3, 4, _, rfl, rfl, upd_same, by decide, by decide, (by show 1 * 4 ≤ sizeLine; decide), fun p4 h4 => ?_⟩⟩⟩⟩
      have f1 := Ex.new (o := HO.tup [V.str "evaluation_error", .str "zero_divisor"]) h1
      have f2 := Ex.new (o := HO.tup [V.str "error", .ref p1]) h2
      have f3 := Ex.new (o := HO.lst [V.ref p2]) h3
      have f4 := Ex.new (o := HO.lst (List.replicate (4 : Int).toNat [V.ref p2]).flatten) h4
      have ff := (f1.trans f2).trans (f3.trans f4)
      have sh : SeqAt.shaped (.list (List.replicate 4 (dRs (.e dNoDiv)))) = true := by decide +kernel
      have A1 : ∀ {us : List V} {n : Nat} {H' : Hp}, us.length = n → (∀ u ∈ us, RsAt K H' u (.e dNoDiv)) → DpAll K H' us (List.replicate n (dRs (.e dNoDiv))) := fun {us n H'} => by
        intro hn hu
        induction us generalizing n with
        | nil => cases hn; exact .nil
        | cons u us ih =>
          cases hn
          exact .cons (rs_dp (hu u List.mem_cons_self)) (ih rfl fun t ht => hu t (List.mem_cons_of_mem _ ht))
      have rs2 : RsAt K (upd (upd (upd (upd H2 p1 (.tup [V.str "evaluation_error", .str "zero_divisor"])) p2 (.tup [V.str "error", .ref p1])) p3 (.lst [V.ref p2])) p4 (.lst (List.replicate (4 : Int).toNat [V.ref p2]).flatten)) (.ref p2) (.e dNoDiv) :=
        ⟨p2, .ref p1, rfl, Evl.ex_t (f3.trans f4) (SqT.of upd_same), .tup (Evl.ex_t (f2.trans (f3.trans f4)) (SqT.of upd_same)) (.cons (.str _) (.cons (.str _) .nil))⟩
      refine ⟨_, _, .lst (SqL.of (ff _ _ hz)) (A1 (n := 4) hl fun u hu => rs_mono (Tups.of ff) (hall u hu)), .lst (SqL.of upd_same) (A1 (n := 4) rfl fun u hu => ?_), sh, sh, ?_⟩
      · have : u = .ref p2 := by
          simp at hu
          exact hu
        rw [this]
        exact rs2
      · rw [SeqAt.eqv_refl _ (SeqAt.canLay_of_shaped sh)]
        exact q _ ((e1.trans (Ex.refl _)).trans (e2.trans ff))
  rw [beq_false_of_ne h0]
  have F := div_facts (x := x) h0
  have m1 : CMulW (qz x y) y := wide_mul (Nat.lt_of_le_of_lt qz_le hxs.nat) hys.nat (by decide) (by decide) (by decide)
  have m2 : CMulW (x.fdiv y) y := wide_mul (Nat.lt_of_le_of_lt fdiv_le hxs.nat) hys.nat (by decide) (by decide) (by decide)
  have s1 : Small (qz x y) := not_not_small (fun c => not_small c qz_le hxs)
  have s2 : Small (x.fdiv y) := not_not_small (fun c => not_small c fdiv_le hxs)
  have b1 := F.b1
  have b2 := F.b2
  have s3 : Small (x - y * x.fdiv y) := not_not_small (fun c => not_small c (show _ ≤ y.natAbs by split at b2 <;> split at b2 <;> omega) hys)
  have s4 : Small (x - y * qz x y) := not_not_small (fun c => not_small c (show _ ≤ y.natAbs by split at b1 <;> split at b1 <;> omega) hys)
  refine iteF ⟨_, rfl, _, rfl, "//", x, y, qz x y, fTz, rfl, rfl, by decide +kernel, hxs, hys, if_neg h0, s1, fun H1 e1 => ⟨_, rfl, _, rfl, "div", x, y, x.fdiv y, fDown, rfl, rfl, by decide +kernel, hxs, hys, if_neg h0, s2, fun H2 e2 => ⟨_, _, rfl, ?_⟩⟩⟩
  refine ⟨_, rfl, _, rfl, "mod", x, y, x - y * x.fdiv y, fMod, rfl, rfl, by decide +kernel, hxs, hys, if_neg h0, s3, fun H3 e3 => ⟨_, rfl, _, rfl, "rem", x, y, x - y * qz x y, fRem, rfl, rfl, by decide +kernel, hxs, hys, if_neg h0, s4, fun H4 e4 => ⟨_, _, rfl, ?_⟩⟩⟩
  generalize qz x y = n at *
  generalize x.fdiv y = d at *
  generalize x - y * d = a at *
  generalize x - y * n = l at *
  have ee := (e1.trans e2).trans (e3.trans e4)
  refine ⟨_, rfl, _, rfl, _, _, rfl, rfl, m1, _, rfl, _, _, rfl, rfl, _, rfl, rfl, _, rfl, ite2 (fun c => absurd c (neF F.s1)) (fun _ => ?_)⟩
  refine ⟨_, rfl, _, rfl, _, _, rfl, rfl, m2, _, rfl, _, _, rfl, rfl, _, rfl, rfl, _, rfl, ite2 (fun c => absurd c (neF F.s2)) (fun _ => ?_)⟩
  refine ⟨_, rfl, _, rfl, _, rfl, _, rfl, _, _, rfl, rfl, _, rfl, ite2 (fun c => absurd c (leF b1)) (fun _ => ?_)⟩
  refine ⟨_, rfl, _, rfl, _, rfl, _, rfl, _, _, rfl, rfl, _, rfl, ite2 (fun c => absurd c (leF b2)) (fun _ => ?_)⟩
  have last : (tOp rEq (tOp (rI0 fun i j => V.int (i - j)) (tVar 3) (tVar 4)) (tCB (fun xs H Q => (∃ i, xs = [V.int i] ∧ Q (V.int i) H) ∨ ∃ k, xs = [V.bl k] ∧ Q (V.int (if k = true then 1 else 0)) H) (tCons (tOp rNe (tVar 6) (tVar 5)) tNil))) [some (.int x), some (.int y), none, some (.int n), some (.int d), some (.int a), some (.int l)] H4 Q := by
    refine ⟨_, rfl, _, rfl, _, _, rfl, rfl, _, rfl, _, rfl, rfl, .inr ⟨_, rfl, rfl, ?_⟩⟩
    have e : decide (V.int (n - d) = V.int (if (!decide (V.int l = V.int a)) = true then 1 else 0)) = true := by
      rw [F.f, dec_int]
      by_cases c : l = a
      · rw [if_pos c, dec_int, beq_true_of c]
        rfl
      · rw [if_neg c, dec_int, beq_false_of_ne c]
        rfl
    show Q (.bl (decide (V.int (n - d) = V.int (if (!decide (V.int l = V.int a)) = true then 1 else 0)))) H4
    rw [e]
    exact q _ ee
  have g1 := F.g1
  have g2 := F.g2
  refine ⟨_, rfl, rfl, _, rfl, ite2 (fun c => ?_) (fun _ => ?_)⟩
  · refine ⟨_, rfl, _, _, rfl, rfl, _, rfl, _, _, rfl, rfl, rfl, _, rfl, ite2 (fun c2 => absurd c2 (bneF (g1 (ne_of c)))) (fun _ => ?_)⟩
    refine ⟨_, rfl, rfl, _, rfl, ite2 (fun c3 => ?_) (fun _ => iteF last)⟩
    exact ⟨_, rfl, _, _, rfl, rfl, _, rfl, _, _, rfl, rfl, rfl, _, rfl, ite2 (fun c2 => absurd c2 (bneF (g2 (ne_of c3)))) (fun _ => last)⟩
  · refine iteF ⟨_, rfl, rfl, _, rfl, ite2 (fun c3 => ?_) (fun _ => iteF last)⟩
    exact ⟨_, rfl, _, _, rfl, rfl, _, rfl, _, _, rfl, rfl, rfl, _, rfl, ite2 (fun c2 => absurd c2 (bneF (g2 (ne_of c3)))) (fun _ => last)⟩
end
end Hm

set_option Elab.async false
set_option linter.all false
set_option maxRecDepth 100000
set_option maxHeartbeats 1000000
set_option exponentiation.threshold 4000
namespace Hm
open PySem PySem.Spec PyProof.Rows L2 HT
open Evl (Ex)
theorem small_of {i : Int} (h : i.natAbs < 100000) : Small i := by
  have e : (100000 : Int) < tooGreat := by decide +kernel
  unfold Small
  generalize tooGreat = t at *
  omega
theorem eqT {a b : Int} (h : a = b) : decide (V.int a = V.int b) = true := by rw [h, decide_eq_true rfl]
theorem dn_mul {x m : Int} (h : Dn x) (hm : m.natAbs ≤ 60) : Small (x * m) ∧ CMulW x m := by
  have a := big_small
  have b : (0 : Int) < big := by decide +kernel
  refine ⟨?_, wide_mul h.small.nat (show m.natAbs < 2 ^ 10 by omega) (by decide) (by decide) (by decide)⟩
  have e : (x * m).natAbs ≤ x.natAbs * 60 := by
    rw [Int.natAbs_mul]
    exact Nat.mul_le_mul_left _ hm
  unfold Dn at h
  unfold Small
  generalize x * m = z at *
  generalize big = g at *
  generalize tooGreat = t at *
  omega
section
variable {P : Program} {w : World} {K : PySem.W.Frag} {mg : Str → Option Value} {base : Heap}
theorem ok_law_bits_right (T : Tz K w mg) : FnOk P w K mg base CX0 8 T.f_law_bits_right T.d_law_bits_right ["_law_x", "_law_y"] spDiv := by
  refine T.h_law_bits_right.F.ok sc_law_bits_right (fun vs H Q E h => ?_) (fun cdv A outer s H vs Q E hr h => ?_)
  · obtain ⟨x, y, rfl, _⟩ := h
    rfl
  obtain ⟨x, y, rfl, hx, hy, q⟩ := h
  have hxs := hx.small
  have hys := hy.small
  have ha := and_small hx hy
  have ho := or_small hx hy
  have hu := xor_small hx hy
  refine ⟨_, (pss_cons (ps_par3 (i := 2) (j := 3) (l := 4) rfl sc_law_bits_right.nd rfl rfl rfl (by decide) (by decide) (by decide) rfl rfl rfl (pa_cons (cl (ok_law_of T) T.h_law_of hr (pa_cons pe_str (pa_cons (pv 0) (pa_cons (pv 1) pa_nil)))) (pa_cons (cl (ok_law_of T) T.h_law_of hr (pa_cons pe_str (pa_cons (pv 0) (pa_cons (pv 1) pa_nil)))) (pa_cons (cl (ok_law_of T) T.h_law_of hr (pa_cons pe_str (pa_cons (pv 0) (pa_cons (pv 1) pa_nil)))) pa_nil))) rfl)
    (pss_cons (ps_if (PW.pt (pw_or (pt_cmpR op_ne (pe_op op_add (pv 2) (pv 3)) (pe_op op_add (pv 0) (pv 1)) (nomark _)) (pw_or1 (pt_cmpR op_ne (pe_op op_sub (pv 3) (pv 2)) (pv 4) (nomark _)))))
      (pss_one (ps_ret pe_bl))
      pss_nil)
    (pss_cons (ps_if (pt_cmpR op_ne (cl (ok_law_of T) T.h_law_of hr (pa_cons pe_str (pa_cons (pv 4) (pa_cons (pv 1) pa_nil)))) (pv 0) (nomark _))
      (pss_one (ps_ret pe_bl))
      pss_nil)
    (pss_one (ps_ret (pe_cmpR (op_eqD hr.units) (cl (ok_reck0 T) T.h_reckoned hr (pa_cons (pe_tup (pa_cons pe_str (pa_cons (pe_tup (pa_cons pe_str (pa_cons (pv 0) (pa_cons (pv 1) pa_nil)))) pa_nil))) pa_nil)) (cl (ok_reck0 T) T.h_reckoned hr (pa_cons (pe_tup (pa_cons pe_str (pa_cons (pe_tup (pa_cons pe_str (pa_cons (pv 0) pa_nil))) (pa_cons (pe_tup (pa_cons pe_str (pa_cons (pv 1) pa_nil))) pa_nil)))) pa_nil)) (nomark _))))))), ?_⟩
  refine ⟨_, rfl, _, rfl, "/\\", x, y, Builtin.bitAnd x y, fun x y => .n (Builtin.bitAnd x y), rfl, rfl, by decide +kernel, hxs, hys, rfl, ha, fun H1 e1 => ⟨_, rfl, _, rfl, "\\/", x, y, Builtin.bitOr x y, fun x y => .n (Builtin.bitOr x y), rfl, rfl, by decide +kernel, hxs, hys, rfl, ho, fun H2 e2 => ⟨_, rfl, _, rfl, "xor", x, y, Builtin.bitXor x y, fun x y => .n (Builtin.bitXor x y), rfl, rfl, by decide +kernel, hxs, hys, rfl, hu, fun H3 e3 => ⟨_, _, _, rfl, ?_⟩⟩⟩⟩
  refine ⟨_, rfl, _, rfl, _, _, rfl, rfl, _, rfl, _, rfl, _, _, rfl, rfl, rfl, _, rfl, ite2 (fun c => absurd c (neF (bor_and x y))) (fun _ => ?_)⟩
  refine ⟨_, rfl, _, rfl, _, _, rfl, rfl, _, rfl, rfl, _, rfl, ite2 (fun c => absurd c (neF (bor_xor x y))) (fun _ => ?_)⟩
  refine ⟨_, rfl, _, rfl, "xor", Builtin.bitXor x y, y, x, fun x y => .n (Builtin.bitXor x y), rfl, rfl, by decide +kernel, hu, hys, congrArg Rs.n (xor_back x y), hxs, fun H4 e4 => ⟨_, rfl, rfl, _, rfl, ite2 (fun c => absurd c (neF rfl)) (fun _ => ?_)⟩⟩
  refine ⟨_, rfl, _, rfl, (by show 3 ≤ sizeLine; decide), fun p1 h1 => ⟨(by show 2 ≤ sizeLine; decide), fun p2 h2 => ⟨_, .comp "\\" [.comp "/\\" [.int x, .int y]], rfl, rep_comp (SqT.of upd_same) (Reps.one (rep_comp (Evl.ex_t (Ex.new h2) (SqT.of upd_same)) (Reps.cons rep_int (Reps.one rep_int)))), ok_one (by decide +kernel) (ok_two (by decide +kernel) (ok_int hxs) (ok_int hys)), by show 1 + (1 + (1 + (1 + 0)) + 0) ≤ 1000; decide, fun v1 H5 e5 rs1 => ?_⟩⟩⟩
  refine ⟨_, rfl, (by show 2 ≤ sizeLine; decide), fun p3 h3 => ⟨_, rfl, (by show 2 ≤ sizeLine; decide), fun p4 h4 => ⟨(by show 3 ≤ sizeLine; decide), fun p5 h5 => ⟨_, .comp "\\/" [.comp "\\" [.int x], .comp "\\" [.int y]], rfl, rep_comp (SqT.of upd_same) (Reps.cons (rep_comp (Evl.ex_t ((Ex.new h4).trans (Ex.new h5)) (SqT.of upd_same)) (Reps.one rep_int)) (Reps.one (rep_comp (Evl.ex_t (Ex.new h5) (SqT.of upd_same)) (Reps.one rep_int)))), ok_two (by decide +kernel) (ok_one (by decide +kernel) (ok_int hxs)) (ok_one (by decide +kernel) (ok_int hys)), by show 1 + (1 + (1 + 0) + (1 + (1 + 0) + 0)) ≤ 1000; decide, fun v2 H6 e6 rs2 => ?_⟩⟩⟩⟩
  have hn : ∀ {z : Int}, Small z → z ≠ -tooGreat + 1 → True := fun _ _ => trivial
  have cpl : ∀ {z : Int}, -2 ^ 340 ≤ z ∧ z < 2 ^ 340 → -2 ^ 340 ≤ -z - 1 ∧ -z - 1 < 2 ^ 340 := fun {z} h => by
    generalize (2 : Int) ^ 340 = m at *
    omega
  have hcx := pow_small (cpl (dn_pow hx))
  have hcy := pow_small (cpl (dn_pow hy))
  have hra := rng and_half f01A (fun a b ha hb => by rcases ha with rfl | rfl <;> rcases hb with rfl | rfl <;> decide) 340 x y (dn_pow hx).1 (dn_pow hx).2 (dn_pow hy).1 (dn_pow hy).2
  have hca := pow_small (cpl hra)
  have ea : ev (.comp "\\" [.comp "/\\" [.int x, .int y]]) = .n (-Builtin.bitAnd x y - 1) := by
    rw [ev_one (g := fCpl) (x := Builtin.bitAnd x y) rfl (by rw [ev_two (g := fun x y => .n (Builtin.bitAnd x y)) rfl (ev_int x) (ev_int y), bnd_in ha]), bnd_in hca]
  have eb : ev (.comp "\\/" [.comp "\\" [.int x], .comp "\\" [.int y]]) = .n (-Builtin.bitAnd x y - 1) := by
    rw [ev_two (g := fun x y => .n (Builtin.bitOr x y)) (x := -x - 1) (y := -y - 1) rfl (by rw [ev_one (g := fCpl) rfl (ev_int x), bnd_in hcx]) (by rw [ev_one (g := fCpl) rfl (ev_int y), bnd_in hcy]), ← morgan x y, bnd_in hca]
  rw [ea] at rs1
  rw [eb] at rs2
  have e56 := (Ex.new h3).trans ((Ex.new h4).trans ((Ex.new h5).trans e6))
  have rs1' := rs_mono (Tups.of e56) rs1
  refine ⟨_, _, rs_dp rs1', rs_dp rs2, shaped_n _, shaped_n _, ?_⟩
  rw [SeqAt.eqv_refl _ (SeqAt.canLay_of_shaped (shaped_n _))]
  exact q _ ((e1.trans (e2.trans (e3.trans e4))).trans (((Ex.new h1).trans ((Ex.new h2).trans e5)).trans e56))
def spGcd : Sp := fun vs H Q _ => ∃ x y m : Int, vs = [.int x, .int y, .int m] ∧ Dn x ∧ Dn y ∧ m.natAbs ≤ 60 ∧ ∀ H', Ex H H' → Q (.bl true) H'
theorem ok_law_gcd_right (T : Tz K w mg) : FnOk P w K mg base CX0 8 T.f_law_gcd_right T.d_law_gcd_right ["_law_x", "_law_y", "_law_more"] spGcd := by
  refine T.h_law_gcd_right.F.ok sc_law_gcd_right (fun vs H Q E h => ?_) (fun cdv A outer s H vs Q E hr h => ?_)
  · obtain ⟨x, y, m, rfl, _⟩ := h
    rfl
  obtain ⟨x, y, m, rfl, hx, hy, hm, q⟩ := h
  have hxs := hx.small
  have hys := hy.small
  have hg := gcd_small hxs hys
  have g0 : (0 : Int) ≤ ((Int.gcd x y : Nat) : Int) := Int.natCast_nonneg _
  refine ⟨_, (pss_cons (ps_set (i := 3) sc_law_gcd_right.nd rfl (Or.inl rfl) (cl (ok_law_of T) T.h_law_of hr (pa_cons pe_str (pa_cons (pv 0) (pa_cons (pv 1) pa_nil)))))
    (Evl.pss_cut (ps_if (PW.pt (pw_or (pt_cmpR op_lt (pv 3) pe_int (nomark _)) (pw_or1 (PW.pt (pw_and (pt_cmpR op_eq (pv 3) pe_int (nomark _)) (pw_and1 (pt_cmpR (op_neD hr.units) (pe_tup (pa_cons (pv 0) (pa_cons (pv 1) pa_nil))) (pe_tup (pa_cons pe_int (pa_cons pe_int pa_nil))) (nomark _))))))))
      (pss_one (ps_ret pe_bl))
      pss_nil)
    (Evl.pss_cut (ps_if (PW.pt (pw_and (pt_cmpR op_gt (pv 3) pe_int (nomark _)) (pw_and1 (PW.pt (pw_or (pt_cmpR op_ne (pe_op op_mod (pe_callTy call_int1 rfl T.b_int (by decide +kernel) (pa_cons (pv 0) pa_nil)) (pv 3)) pe_int (nomark _)) (pw_or1 (pt_cmpR op_ne (pe_op op_mod (pe_callTy call_int1 rfl T.b_int (by decide +kernel) (pa_cons (pv 1) pa_nil)) (pv 3)) pe_int (nomark _))))))))
      (pss_one (ps_ret pe_bl))
      pss_nil)
    (pss_one (ps_ret (pe_and (pe_cmpR op_eq (cl (ok_law_of T) T.h_law_of hr (pa_cons pe_str (pa_cons (pe_op op_mulW (pv 0) (pv 2)) (pa_cons (pe_op op_mulW (pv 1) (pv 2)) pa_nil)))) (pe_op op_mulW (pv 3) (pe_callB call_abs rfl T.b_abs (by decide +kernel) (pa_cons (pv 2) pa_nil))) (nomark _)) (pe_one (pe_cmpR op_eq (cl (ok_law_of T) T.h_law_of hr (pa_cons pe_str (pa_cons (pv 1) (pa_cons (pe_op op_add (pv 0) (pe_op op_mulW (pv 2) (pv 1))) pa_nil)))) (pv 3) (nomark _))))))))), ?_⟩
  refine ⟨_, rfl, _, rfl, "gcd", x, y, ((Int.gcd x y : Nat) : Int), fun x y => .n ((Int.gcd x y : Nat) : Int), rfl, rfl, by decide +kernel, hxs, hys, rfl, hg, fun H1 e1 => ?_⟩
  refine ⟨fun σ' H' => σ' = [some (.int x), some (.int y), some (.int m), some (.int ((Int.gcd x y : Nat) : Int))] ∧ Ex H H', ?_, ?_⟩
  · refine ⟨_, rfl, _, _, rfl, rfl, _, rfl, ite2 (fun c => absurd (of_decide_eq_true c) (by omega)) (fun _ => ?_)⟩
    refine ⟨_, rfl, rfl, _, rfl, ite2 (fun c => ?_) (fun _ => iteF ⟨rfl, e1⟩)⟩
    obtain ⟨rfl, rfl⟩ := gcd_zero (V.int.inj (of_decide_eq_true c))
    exact ⟨_, rfl, _, rfl, (by show 2 ≤ sizeLine; decide), fun p1 h1 => ⟨(by show 2 ≤ sizeLine; decide), fun p2 h2 => ⟨.tuple [.int 0, .int 0], .tuple [.int 0, .int 0], .tup (Evl.ex_t (Ex.new h2) (SqT.of upd_same)) (.cons (.int _) (.cons (.int _) .nil)), .tup (SqT.of upd_same) (.cons (.int _) (.cons (.int _) .nil)), by decide +kernel, by decide +kernel, _, rfl, iteF ⟨rfl, e1.trans ((Ex.new h1).trans (Ex.new h2))⟩⟩⟩⟩
  rintro _ H2 ⟨rfl, e2⟩
  refine ⟨fun σ' H' => σ' = [some (.int x), some (.int y), some (.int m), some (.int ((Int.gcd x y : Nat) : Int))] ∧ Ex H H', ?_, ?_⟩
  · refine ⟨_, rfl, _, _, rfl, rfl, _, rfl, ite2 (fun c => ?_) (fun _ => iteF ⟨rfl, e2⟩)⟩
    have pos : (0 : Int) < ((Int.gcd x y : Nat) : Int) := of_decide_eq_true c
    have gm := gcd_mod x y
    refine ⟨_, rfl, .inl ⟨_, rfl, _, rfl, _, _, rfl, rfl, pos, rfl, _, rfl, ite2 (fun c => absurd c (neF gm.1)) (fun _ => ?_)⟩⟩
    exact ⟨_, rfl, .inl ⟨_, rfl, _, rfl, _, _, rfl, rfl, pos, rfl, _, rfl, ite2 (fun c => absurd c (neF gm.2)) (fun _ => ⟨rfl, e2⟩)⟩⟩
  rintro _ H3 ⟨rfl, e3⟩
  have mx := dn_mul hx hm
  have my := dn_mul hy hm
  have sm : Small (x + m * y) := by
    have a := big_small
    have b : (0 : Int) < big := by decide +kernel
    have e : (m * y).natAbs ≤ 60 * y.natAbs := by
      rw [Int.natAbs_mul]
      exact Nat.mul_le_mul_right _ hm
    have h1 := hx
    have h2 := hy
    unfold Dn at h1 h2
    unfold Small
    generalize m * y = z at *
    generalize big = g at *
    generalize tooGreat = t at *
    omega
  have hg2 : Small ((Int.gcd (x * m) (y * m) : Nat) : Int) := gcd_small mx.1 my.1
  have hg3 : Small ((Int.gcd y (x + m * y) : Nat) : Int) := gcd_small hys sm
  have ma : (if m < 0 then -m else m).natAbs < 2 ^ 10 := by split <;> omega
  refine ⟨_, rfl, _, rfl, _, _, rfl, rfl, mx.2, _, rfl, _, rfl, _, _, rfl, rfl, my.2, "gcd", x * m, y * m, ((Int.gcd (x * m) (y * m) : Nat) : Int), fun x y => .n ((Int.gcd x y : Nat) : Int), rfl, rfl, by decide +kernel, mx.1, my.1, rfl, hg2, fun H4 e4 => ?_⟩
  refine ⟨_, rfl, _, rfl, _, rfl, _, _, rfl, rfl, wide_mul hg.nat ma (by decide) (by decide) (by decide), rfl, _, rfl, ?_⟩
  refine ite2 (fun _ => ?_) (fun c => absurd (eqT (gcd_mulR x y m)) c)
  refine ⟨_, rfl, _, rfl, _, rfl, _, rfl, _, _, rfl, rfl, wide_mul (show m.natAbs < 2 ^ 10 by omega) hys.nat (by decide) (by decide) (by decide), _, _, rfl, rfl, "gcd", y, x + m * y, ((Int.gcd y (x + m * y) : Nat) : Int), fun x y => .n ((Int.gcd x y : Nat) : Int), rfl, rfl, by decide +kernel, hys, sm, rfl, hg3, fun H5 e5 => ⟨_, rfl, rfl, ?_⟩⟩
  have ee : decide (V.int ((Int.gcd y (x + m * y) : Nat) : Int) = V.int ((Int.gcd x y : Nat) : Int)) = true := eqT (by rw [gcd_addR])
  show Q (.bl (decide (V.int ((Int.gcd y (x + m * y) : Nat) : Int) = V.int ((Int.gcd x y : Nat) : Int)))) H5
  rw [ee]
  exact q _ (e3.trans (e4.trans e5))
def spShf : Sp := fun vs H Q _ => ∃ (x : Int) (j k : Nat), vs = [.int x, .int (j : Int), .int (k : Int)] ∧ Dn x ∧ j < 70 ∧ k < 70 ∧ ∀ H', Ex H H' → Q (.bl true) H'
theorem ok_law_shifts_right (T : Tz K w mg) : FnOk P w K mg base CX0 8 T.f_law_shifts_right T.d_law_shifts_right ["_law_x", "_law_many", "_law_more"] spShf := by
  refine T.h_law_shifts_right.F.ok sc_law_shifts_right (fun vs H Q E h => ?_) (fun cdv A outer s H vs Q E hr h => ?_)
  · obtain ⟨x, j, k, rfl, _⟩ := h
    rfl
  obtain ⟨x, j, k, rfl, hx, hj, hk, q⟩ := h
  have hxs := hx.small
  have hjs : Small (j : Int) := small_of (by omega)
  have hks : Small (k : Int) := small_of (by omega)
  have hjk : Small ((j : Int) + (k : Int)) := small_of (by omega)
  have hh := shl_small hx hj
  refine ⟨_, (pss_cons (ps_set (i := 3) sc_law_shifts_right.nd rfl (Or.inl rfl) (cl (ok_law_of T) T.h_law_of hr (pa_cons pe_str (pa_cons (pv 0) (pa_cons (pv 1) pa_nil)))))
    (pss_cons (ps_if (PW.pt (pw_or (pt_cmpR op_ne (pv 3) (pe_op op_mulW (pv 0) (pe_op op_shlW pe_int (pv 1))) (nomark _)) (pw_or1 (pt_cmpR op_ne (cl (ok_law_of T) T.h_law_of hr (pa_cons pe_str (pa_cons (pv 3) (pa_cons (pv 1) pa_nil)))) (pv 0) (nomark _)))))
      (pss_one (ps_ret pe_bl))
      pss_nil)
    (pss_cons (ps_if (pt_cmpR op_ne (cl (ok_law_of T) T.h_law_of hr (pa_cons pe_str (pa_cons (pv 0) (pa_cons (pv 1) pa_nil)))) (pe_op op_fdivZ (pv 0) (pe_op op_shlW pe_int (pv 1))) (nomark _))
      (pss_one (ps_ret pe_bl))
      pss_nil)
    (pss_cons (ps_set (i := 4) sc_law_shifts_right.nd rfl (Or.inl rfl) (cl (ok_law_of T) T.h_law_of hr (pa_cons pe_str (pa_cons (cl (ok_law_of T) T.h_law_of hr (pa_cons pe_str (pa_cons (pv 0) (pa_cons (pe_op op_sub pe_int pe_int) pa_nil)))) (pa_cons pe_int pa_nil)))))
    (pss_cons (ps_set (i := 5) sc_law_shifts_right.nd rfl (Or.inl rfl) (cl (ok_law_of T) T.h_law_of hr (pa_cons pe_str (pa_cons (pv 4) (pa_cons (pe_op op_add (pv 1) (pv 2)) pa_nil)))))
    (pss_cons (ps_if (pt_cmpR op_ne (pe_op op_mulW (cl (ok_law_of T) T.h_law_of hr (pa_cons pe_str (pa_cons (pv 4) (pa_cons (pv 1) pa_nil)))) (cl (ok_law_of T) T.h_law_of hr (pa_cons pe_str (pa_cons (pv 4) (pa_cons (pv 2) pa_nil))))) (pv 5) (nomark _))
      (pss_one (ps_ret pe_bl))
      pss_nil)
    (pss_one (ps_ret (pe_and (pe_cmpR op_eq (cl (ok_law_of T) T.h_law_of hr (pa_cons pe_str (pa_cons (pv 0) (pa_cons (pe_op op_pow pe_int pe_int) pa_nil)))) (pe_op op_sub pe_int (pe_callTy call_int1 rfl T.b_int (by decide +kernel) (pa_cons (pe_cmpR op_lt (pv 0) pe_int (nomark _)) pa_nil))) (nomark _)) (pe_one (pe_cmpR op_eq (cl (ok_law_of T) T.h_law_of hr (pa_cons pe_str (pa_cons (pe_op op_sub pe_int pe_int) (pa_cons (pe_op op_add (pe_op op_pow pe_int pe_int) pe_int) pa_nil)))) (pe_op op_sub pe_int pe_int) (nomark _)))))))))))), ?_⟩
  refine ⟨_, rfl, _, rfl, "<<", x, (j : Int), x * 2 ^ j, fShl, rfl, rfl, by decide +kernel, hxs, hjs, shl_val hj, hh, fun H1 e1 => ?_⟩
  have p0 : (0 : Int) < 2 ^ j := PySem.W.kbt_pos j
  have pn : ((1 : Int) * 2 ^ ((j : Int)).toNat).natAbs < 2 ^ 1000 := by
    have c := PySem.W.kbt_cast j
    have e : (1 : Int) * 2 ^ ((j : Int)).toNat = ((2 ^ j : Nat) : Int) := by rw [Int.one_mul]; exact c.symm
    rw [e]
    exact Nat.pow_lt_pow_right (by decide) (by omega)
  have o1 : (1 : Int) * 2 ^ ((j : Int)).toNat = 2 ^ j := Int.one_mul _
  refine ⟨_, rfl, _, rfl, _, rfl, _, _, rfl, rfl, shl_ok (n := 1) (by decide) (by omega), _, _, rfl, rfl, wide_mul hxs.nat pn (by decide) (by decide) (by decide), rfl, _, rfl, ite2 (fun c => absurd c (neF (show x * 2 ^ j = x * (1 * 2 ^ ((j : Int)).toNat) by rw [o1]))) (fun _ => ?_)⟩
  refine ⟨_, rfl, _, rfl, ">>", x * 2 ^ j, (j : Int), x, fShr, rfl, rfl, by decide +kernel, hh, hjs, (shr_val hj).trans (congrArg Rs.n (Int.mul_ediv_cancel x (by omega))), hxs, fun H2 e2 => ⟨_, rfl, rfl, _, rfl, ite2 (fun c => absurd c (neF rfl)) (fun _ => ?_)⟩⟩
  have sd : Small (x / 2 ^ j) := not_not_small (fun c => not_small c (Int.natAbs_ediv_le_natAbs x _) hxs)
  refine ⟨_, rfl, _, rfl, ">>", x, (j : Int), x / 2 ^ j, fShr, rfl, rfl, by decide +kernel, hxs, hjs, shr_val hj, sd, fun H3 e3 => ?_⟩
  refine ⟨_, rfl, _, rfl, _, _, rfl, rfl, shl_ok (n := 1) (by decide) (by omega), _, _, rfl, rfl, divZ (by omega) pn, rfl, _, rfl, ite2 (fun c => absurd c (neF (show x / 2 ^ j = x.fdiv (1 * 2 ^ ((j : Int)).toNat) by rw [o1, Int.fdiv_eq_ediv_of_nonneg x (Int.le_of_lt p0)]))) (fun _ => ?_)⟩
  have hb := @clamp x
  have sM : Small (if 0 - 9 > x then 0 - 9 else x) := by
    split
    · exact small_of (by decide)
    · exact hxs
  have s9 : Small 9 := small_of (by decide)
  have sB := small_of (Nat.lt_of_le_of_lt hb (by decide))
  refine ⟨_, rfl, _, _, rfl, rfl, "max", x, 0 - 9, (if 0 - 9 > x then 0 - 9 else x), fun x y => .n (if y > x then y else x), rfl, rfl, by decide +kernel, hxs, small_of (by decide), rfl, sM, fun H4 e4 => ?_⟩
  refine ⟨"min", (if 0 - 9 > x then 0 - 9 else x), 9, (if (9 : Int) < (if 0 - 9 > x then 0 - 9 else x) then (9 : Int) else (if 0 - 9 > x then 0 - 9 else x)), fun x y => .n (if y < x then y else x), rfl, rfl, by decide +kernel, sM, s9, rfl, sB, fun H5 e5 => ?_⟩
  generalize (if (9 : Int) < (if 0 - 9 > x then 0 - 9 else x) then (9 : Int) else (if 0 - 9 > x then 0 - 9 else x)) = b at *
  have v1 : fPow b ((j : Int) + (k : Int)) = .n (b ^ (j + k)) := by rw [← Int.natCast_add]; exact pow_val hb (by omega)
  refine ⟨_, rfl, _, rfl, _, rfl, _, _, rfl, rfl, "**", b, (j : Int) + (k : Int), b ^ (j + k), fPow, rfl, rfl, by decide +kernel, sB, hjk, v1, pow_le hb (by omega), fun H6 e6 => ?_⟩
  have sj := pow_le hb (show j ≤ 140 by omega)
  have sk := pow_le hb (show k ≤ 140 by omega)
  refine ⟨_, rfl, _, rfl, "**", b, (j : Int), b ^ j, fPow, rfl, rfl, by decide +kernel, sB, hjs, pow_val hb (by omega), sj, fun H7 e7 => ⟨_, rfl, _, rfl, "^", b, (k : Int), b ^ k, fPow, rfl, rfl, by decide +kernel, sB, hks, pow_val hb (by omega), sk, fun H8 e8 => ?_⟩⟩
  refine ⟨_, _, rfl, rfl, small_mul sj sk, _, rfl, rfl, _, rfl, ite2 (fun c => absurd c (neF (Int.pow_add b j k).symm)) (fun _ => ?_)⟩
  have sv : Small (0 - (if x < 0 then 1 else 0)) := small_of (by split <;> decide)
  have t30 : Small ((10 : Int) ^ (30 : Int).toNat) := Dn.small ⟨by decide +kernel, by decide +kernel⟩
  have t40 : Small ((10 : Int) ^ (40 : Int).toNat + 1) := Dn.small ⟨by decide +kernel, by decide +kernel⟩
  refine ⟨_, rfl, _, _, rfl, rfl, ⟨by decide, by decide, by decide⟩, ">>", x, (10 : Int) ^ (30 : Int).toNat, 0 - (if x < 0 then 1 else 0), fShr, rfl, rfl, by decide +kernel, hxs, t30, shr_far hxs (by decide +kernel), sv, fun H9 e9 => ?_⟩
  have ev2 : (0 - (if x < 0 then 1 else 0) : Int) = 0 - (if decide (x < 0) = true then 1 else 0) := by
    by_cases c : x < 0
    · rw [if_pos c, if_pos (decide_eq_true c)]
    · rw [if_neg c, if_neg (by rw [decide_eq_false c]; decide)]
  refine ⟨_, rfl, _, _, rfl, rfl, .inr ⟨_, rfl, _, _, rfl, rfl, rfl, _, rfl, ite2 (fun _ => ?_) (fun c => absurd (eqT ev2) c)⟩⟩
  have vm : fPow (0 - 1) ((10 : Int) ^ (40 : Int).toNat + 1) = .n (0 - 1) := by
    rw [fPow, if_pos (by decide), fSmallPow, if_neg (by decide +kernel), if_neg (by decide), if_neg (by decide +kernel)]
  refine ⟨_, _, rfl, rfl, _, _, rfl, rfl, ⟨by decide, by decide, by decide⟩, _, _, rfl, rfl, "**", 0 - 1, (10 : Int) ^ (40 : Int).toNat + 1, 0 - 1, fPow, rfl, rfl, by decide +kernel, small_of (by decide), t40, vm, small_of (by decide), fun H10 e10 => ⟨_, _, rfl, rfl, rfl, ?_⟩⟩
  have ee := (e1.trans (e2.trans (e3.trans (e4.trans e5)))).trans (e6.trans (e7.trans (e8.trans (e9.trans e10))))
  have last : decide (V.int (0 - 1) = V.int (0 - 1)) = true := decide_eq_true rfl
  show Q (.bl (decide (V.int (0 - 1) = V.int (0 - 1)))) H10
  rw [last]
  exact q _ ee
end
end Hm

set_option Elab.async false
set_option linter.all false
set_option maxRecDepth 100000
set_option maxHeartbeats 1000000
set_option exponentiation.threshold 4000
namespace Hm
open PySem PySem.Spec PyProof.Rows L2 HT
open Evl (Ex)
abbrev tgL : Int := tooGreat - 1
def greatT (s : Int) : List Tm := [.comp "+" [.int (s * tgL), .int s], .comp "-" [.int (s * tgL), .int (0 - s)], .comp "*" [.int (s * (tooGreat / 10)), .int 10], .comp "**" [.int 10, .int 300],
  .comp "<<" [.int s, .int 997], .comp "<<" [.int s, .int (tooGreat / 1000)], .comp "^" [.int (s * 7), .int (tooGreat / 10)], .comp "*" [.int tgL, .int tgL], .comp "**" [.int 2, .int 997]]
def fineT (s : Int) : List Tm := [.comp "+" [.int (s * tgL), .int 0], .comp "*" [.int (s * (tooGreat / 10)), .int 9], .comp "<<" [.int s, .int 996], .comp "**" [.int 2, .int 996], .comp "-" [.int tgL], .comp "\\" [.int (0 - tgL)]]
def fineN (s : Int) : List Int := [s * tgL, s * 9 * (tooGreat / 10), s * (1 * 2 ^ (996 : Int).toNat), 1 * 2 ^ (996 : Int).toNat, 0 - tgL, tgL - 1]
theorem great_1 : (greatT 1).map ev = List.replicate 9 (.e dTooLong) := by kernel_rfl
theorem great_2 : (greatT (-1)).map ev = List.replicate 9 (.e dTooLong) := by kernel_rfl
theorem fine_1 : (fineT 1).map ev = (fineN 1).map .n := by kernel_rfl
theorem fine_2 : (fineT (-1)).map ev = (fineN (-1)).map .n := by kernel_rfl
theorem great_3 : ev (.comp "-" [.comp "+" [.int tgL, .int 1], .int 5]) = .e dTooLong := by kernel_rfl
section
variable {P : Program} {w : World} {K : PySem.W.Frag} {mg : Str → Option Value} {base : Heap}
theorem paired_snoc' {α β : Type} {F : α → β → Prop} : ∀ {l1 : List α} {l2 : List β} {a : α} {b : β}, PySem.Paired F l1 l2 → F a b → PySem.Paired F (l1 ++ [a]) (l2 ++ [b])
  | _, _, _, _, .nil, h => .cons h .nil
  | _, _, _, _, .cons p r, h => .cons p (paired_snoc' r h)
theorem dp_all {H : Hp} : ∀ {zs : List V} {rs : List Rs}, PySem.Paired (RsAt K H) zs rs → DpAll K H zs (rs.map dRs)
  | _, _, .nil => .nil
  | _, _, .cons p r => .cons (rs_dp p) (dp_all r)
theorem all_reck {H1 : Hp} {v0 v1 v2 v3 v4 : V} {l : Addr} {u6 u7 : Option V} {ts : List Tm} {us : List V} {Q' : VK} (hl : H1 l = some (.lst us)) (hR : Reps K H1 ts us) (hO : ∀ t ∈ ts, Ok t ∧ size t ≤ 1000) (hn : ts.length ≤ 1000)
    (q : ∀ D H2 zs, Ex H1 H2 → H2 D = some (.lst zs) → PySem.Paired (RsAt K H2) zs (ts.map ev) → Q' (.ref D) H2) :
    (tLc (iList K (tVar 5)) (gName 7) tYes (tCall (spReck0 K) [] E0 (tCons (tVar 7) tNil)) (List.map (fun x => x.snd) [(("_law_one_here" : Str), 7)])) [some v0, some v1, some v2, some v3, some v4, some (.ref l), u6, u7] H1 Q' := by
  have hlen := hR.len
  refine ⟨_, rfl, l, rfl, ⟨us, SqL.of hl⟩, fun D hD => ?_⟩
  refine lc_it walk_list (fun i H' => Ex H1 H' ∧ ∃ zs, H' D = some (.lst zs) ∧ PySem.Paired (RsAt K H') zs ((ts.take i).map ev)) ⟨Ex.new hD, [], upd_same, .nil⟩ (fun i H' _ h => SqL.of (h.1 _ _ hl)) ?_ ?_
  · rintro i x H2 H3 hi ⟨e2, zs, hz, hp⟩ ⟨rfl, hx⟩
    obtain ⟨t, ht, hRt⟩ := (hR.mono (Tups.of e2)).get hx
    have hot := hO t (List.mem_of_getElem? ht)
    refine ⟨rfl, yesI ⟨_, rfl, x, t, rfl, hRt, hot.1, hot.2, fun v' H4 e4 rs => ?_⟩⟩
    have hz4 := e4 _ _ hz
    have lz := paired_len hp
    rw [List.length_map, List.length_take] at lz
    have tt := (Tups.of (K := K) e4).trans (Tups.lst (o := HO.lst (zs ++ [v'])) hz4)
    refine ⟨zs, hz4, small5' (by omega), Ex.mut (e2.trans e4) hD, _, upd_same, ?_⟩
    rw [List.take_add_one, ht, Option.toList_some, List.map_append]
    exact paired_snoc' (Paired.mapP hp fun _ _ z => rs_mono tt z) (rs_mono (Tups.lst (o := HO.lst (zs ++ [v'])) hz4) rs)
  · rintro H2 ⟨e2, zs, hz, hp⟩
    rw [← hlen, List.take_length] at hp
    exact q D H2 zs e2 hz hp
theorem all_val {H1 : Hp} {v0 v1 v2 v3 v4 v5 : V} {l : Addr} {u7 : Option V} {ns : List Int} {Q' : VK} (hl : H1 l = some (.lst (ns.map V.int))) (hn : ns.length ≤ 1000)
    (q : ∀ D H2 zs, Ex H1 H2 → H2 D = some (.lst zs) → PySem.Paired (RsAt K H2) zs (ns.map .n) → Q' (.ref D) H2) :
    (tLc (iList K (tVar 6)) (gName 7) tYes (tTup (tCons (tC (V.str "value")) (tCons (tVar 7) tNil))) (List.map (fun x => x.snd) [(("_law_one_here" : Str), 7)])) [some v0, some v1, some v2, some v3, some v4, some v5, some (.ref l), u7] H1 Q' := by
  refine ⟨_, rfl, l, rfl, ⟨_, SqL.of hl⟩, fun D hD => ?_⟩
  refine lc_it walk_list (fun i H' => Ex H1 H' ∧ ∃ zs, H' D = some (.lst zs) ∧ PySem.Paired (RsAt K H') zs ((ns.take i).map .n)) ⟨Ex.new hD, [], upd_same, .nil⟩ (fun i H' _ h => SqL.of (h.1 _ _ hl)) ?_ ?_
  · rintro i x H2 H3 hi ⟨e2, zs, hz, hp⟩ ⟨rfl, hx⟩
    rw [List.getElem?_map] at hx
    obtain ⟨k, hk, rfl⟩ := Option.map_eq_some_iff.mp hx
    refine ⟨rfl, yesI ⟨_, rfl, (by show 2 ≤ sizeLine; decide), fun p hp4 => ?_⟩⟩
    have e4 := Ex.new (o := HO.tup [V.str "value", .int k]) hp4
    have hz4 := e4 _ _ hz
    have lz := paired_len hp
    rw [List.length_map, List.length_take] at lz
    have tt := (Tups.of (K := K) e4).trans (Tups.lst (o := HO.lst (zs ++ [V.ref p])) hz4)
    refine ⟨zs, hz4, small5' (by omega), Ex.mut (e2.trans e4) hD, _, upd_same, ?_⟩
    rw [List.take_add_one, hk, Option.toList_some, List.map_append]
    exact paired_snoc' (Paired.mapP hp fun _ _ z => rs_mono tt z) (rs_mono (Tups.lst (o := HO.lst (zs ++ [V.ref p])) hz4) rs_n)
  · rintro H2 ⟨e2, zs, hz, hp⟩
    rw [List.length_map, List.take_length] at hp
    exact q D H2 zs e2 hz hp
theorem dp_rep1 {H : Hp} {g : V} {r : Rs} (h : RsAt K H g r) : ∀ n : Nat, DpAll K H (List.replicate n g) ((List.replicate n r).map dRs)
  | 0 => .nil
  | n + 1 => .cons (rs_dp h) (dp_rep1 h n)
theorem dp_neF {d : PyData} (h : SeqAt.shaped d = true) : V.bl (!PyData.eqv d d) = V.bl false := by
  rw [SeqAt.eqv_refl _ (SeqAt.canLay_of_shaped h)]
  rfl
def spBrk : Sp := fun vs H Q _ => ∃ a, vs = [.ref a] ∧ Well H a ∧ ∀ H', Dr a H H' → Q (.bl true) H'
theorem ok_law_brink_right (T : Tz K w mg) : FnOk P w K mg base CX0 8 T.f_law_brink_right T.d_law_brink_right ["_law_source"] spBrk := by
  refine T.h_law_brink_right.F.ok sc_law_brink_right (fun vs H Q E h => ?_) (fun cdv A outer s H vs Q E hr h => ?_)
  · obtain ⟨a, rfl, _⟩ := h
    rfl
  obtain ⟨a, rfl, hW, q⟩ := h
  refine ⟨_, (Evl.pss_cut (ps_par (i := 1) (j := 2) rfl sc_law_brink_right.nd rfl rfl (by decide) rfl rfl (pa_cons (pe_call0 (ok_law_top T.toTy) (hr.mono (by first | decide | omega)) rfl T.h_law_top.m T.h_law_top.F.kp T.h_law_top.b .nil pass0) (pa_cons (cl (ok_law_one T.toTx) T.h_law_one hr (pa_cons (pv 0) (pa_cons (pe_lst (pa_cons pe_int (pa_cons (pe_op op_sub pe_int pe_int) pa_nil))) pa_nil))) pa_nil)) rfl)
    (Evl.pss_cut (ps_par (i := 3) (j := 4) rfl sc_law_brink_right.nd rfl rfl (by decide) rfl rfl (pa_cons (pe_op op_sub (pv 1) pe_int) (pa_cons (pe_tup (pa_cons pe_str (pa_cons (pe_tup (pa_cons pe_str (pa_cons pe_str pa_nil))) pa_nil))) pa_nil)) rfl)
    (Evl.pss_cut (ps_set (i := 5) sc_law_brink_right.nd rfl (Or.inl rfl) (pe_lst (pa_cons (pe_tup (pa_cons pe_str (pa_cons (pe_op op_mulW (pv 2) (pv 3)) (pa_cons (pv 2) pa_nil)))) (pa_cons (pe_tup (pa_cons pe_str (pa_cons (pe_op op_mulW (pv 2) (pv 3)) (pa_cons (pe_op op_sub pe_int (pv 2)) pa_nil)))) (pa_cons (pe_tup (pa_cons pe_str (pa_cons (pe_op op_mulW (pv 2) (pe_op op_fdiv (pv 1) pe_int)) (pa_cons pe_int pa_nil)))) (pa_cons (pe_tup (pa_cons pe_str (pa_cons pe_int (pa_cons pe_int pa_nil)))) pa_nil))))))
    (Evl.pss_cut (ps_set (i := 5) sc_law_brink_right.nd rfl (Or.inl rfl) (pe_op op_cat (pv 5) (pe_lst (pa_cons (pe_tup (pa_cons pe_str (pa_cons (pv 2) (pa_cons pe_int pa_nil)))) (pa_cons (pe_tup (pa_cons pe_str (pa_cons (pv 2) (pa_cons (pe_op op_fdiv (pv 1) pe_int) pa_nil)))) (pa_cons (pe_tup (pa_cons pe_str (pa_cons (pe_op op_mulW (pv 2) pe_int) (pa_cons (pe_op op_fdiv (pv 1) pe_int) pa_nil)))) pa_nil))))))
    (Evl.pss_cut (ps_set (i := 5) sc_law_brink_right.nd rfl (Or.inl rfl) (pe_op op_cat (pv 5) (pe_lst (pa_cons (pe_tup (pa_cons pe_str (pa_cons (pv 3) (pa_cons (pv 3) pa_nil)))) (pa_cons (pe_tup (pa_cons pe_str (pa_cons pe_int (pa_cons pe_int pa_nil)))) pa_nil)))))
    (Evl.pss_cut (ps_if (PW.pt (pw_or (pt_cmpR (op_neD hr.units) (pe_lc (own := [("_law_one_here", 7)]) (g := gName 7) rfl sc_law_brink_right.nd (pi_list (pv 5)) (blkOk_by (own := [("_law_one_here", 7)]) (N := ["_law_source", "_law_top_here", "_law_sign", "_law_last", "_law_great", "_law_some", "_law_due", "_law_one_here"]) (sc := defScope s_law_brink_right) (by decide +kernel)) (fun _ _ _ _ _ => pg_name (i := 7) sc_law_brink_right.nd rfl (Or.inl rfl)) (fun _ _ _ _ _ => pts_nil) (fun _ _ _ _ _ => (cl (ok_reck0 T) T.h_reckoned hr (pa_cons (pv 7) pa_nil)))) (pe_op op_rep (pe_lst (pa_cons (pv 4) pa_nil)) (pe_callB call_len_seq rfl T.b_len (by decide +kernel) (pa_cons (pv 5) pa_nil))) (nomark _)) (pw_or1 (pt_cmpR (op_neD hr.units) (cl (ok_reck0 T) T.h_reckoned hr (pa_cons (pe_tup (pa_cons pe_str (pa_cons (pe_tup (pa_cons pe_str (pa_cons (pv 3) (pa_cons pe_int pa_nil)))) (pa_cons pe_int pa_nil)))) pa_nil)) (pv 4) (nomark _)))))
      (pss_one (ps_ret pe_bl))
      pss_nil)
    (Evl.pss_cut (ps_set (i := 5) sc_law_brink_right.nd rfl (Or.inl rfl) (pe_lst (pa_cons (pe_tup (pa_cons pe_str (pa_cons (pe_op op_mulW (pv 2) (pv 3)) (pa_cons pe_int pa_nil)))) (pa_cons (pe_tup (pa_cons pe_str (pa_cons (pe_op op_mulW (pv 2) (pe_op op_fdiv (pv 1) pe_int)) (pa_cons pe_int pa_nil)))) (pa_cons (pe_tup (pa_cons pe_str (pa_cons (pv 2) (pa_cons pe_int pa_nil)))) (pa_cons (pe_tup (pa_cons pe_str (pa_cons pe_int (pa_cons pe_int pa_nil)))) pa_nil))))))
    (Evl.pss_cut (ps_set (i := 5) sc_law_brink_right.nd rfl (Or.inl rfl) (pe_op op_cat (pv 5) (pe_lst (pa_cons (pe_tup (pa_cons pe_str (pa_cons (pv 3) pa_nil))) (pa_cons (pe_tup (pa_cons pe_str (pa_cons (pe_op op_sub pe_int (pv 3)) pa_nil))) pa_nil)))))
    (pss_cons (ps_set (i := 6) sc_law_brink_right.nd rfl (Or.inl rfl) (pe_lst (pa_cons (pe_op op_mulW (pv 2) (pv 3)) (pa_cons (pe_op op_mulW (pe_op op_mulW (pv 2) pe_int) (pe_op op_fdiv (pv 1) pe_int)) (pa_cons (pe_op op_mulW (pv 2) (pe_op op_shlW pe_int pe_int)) (pa_cons (pe_op op_shlW pe_int pe_int) (pa_cons (pe_op op_sub pe_int (pv 3)) (pa_cons (pe_op op_sub (pv 3) pe_int) pa_nil))))))))
    (pss_one (ps_ret (pe_cmpR (op_eqD hr.units) (pe_lc (own := [("_law_one_here", 7)]) (g := gName 7) rfl sc_law_brink_right.nd (pi_list (pv 5)) (blkOk_by (own := [("_law_one_here", 7)]) (N := ["_law_source", "_law_top_here", "_law_sign", "_law_last", "_law_great", "_law_some", "_law_due", "_law_one_here"]) (sc := defScope s_law_brink_right) (by decide +kernel)) (fun _ _ _ _ _ => pg_name (i := 7) sc_law_brink_right.nd rfl (Or.inl rfl)) (fun _ _ _ _ _ => pts_nil) (fun _ _ _ _ _ => (cl (ok_reck0 T) T.h_reckoned hr (pa_cons (pv 7) pa_nil)))) (pe_lc (own := [("_law_one_here", 7)]) (g := gName 7) rfl sc_law_brink_right.nd (pi_list (pv 6)) (blkOk_by (own := [("_law_one_here", 7)]) (N := ["_law_source", "_law_top_here", "_law_sign", "_law_last", "_law_great", "_law_some", "_law_due", "_law_one_here"]) (sc := defScope s_law_brink_right) (by decide +kernel)) (fun _ _ _ _ _ => pg_name (i := 7) sc_law_brink_right.nd rfl (Or.inl rfl)) (fun _ _ _ _ _ => pts_nil) (fun _ _ _ _ _ => (pe_tup (pa_cons pe_str (pa_cons (pv 7) pa_nil))))) (nomark _))))))))))))), ?_⟩
  have tl : Small tgL := by constructor <;> decide +kernel
  have t10 : Small (tooGreat / 10) := by constructor <;> decide +kernel
  refine ⟨fun σ' H' => ∃ s : Int, (s = 1 ∨ s = -1) ∧ σ' = [some (.ref a), some (.int tooGreat), some (.int s), none, none, none, none, none] ∧ Dr a H H', ?_, ?_⟩
  · refine ⟨rfl, _, rfl, _, _, rfl, rfl, (by show 2 ≤ sizeLine; decide), fun l hl => ⟨a, l, _, rfl, (Dr.ex hW (Ex.new hl)).well, hW.ne hl, SqL.of upd_same, by simp, (by show 2 ≤ 1000; decide), fun x H2 hx d2 => ?_⟩⟩
    simp only [List.mem_cons, List.not_mem_nil, or_false] at hx
    rcases hx with rfl | rfl
    · exact ⟨_, _, rfl, 1, .inl rfl, rfl, (Dr.ex hW (Ex.new hl)).trans d2⟩
    · exact ⟨_, _, rfl, -1, .inr rfl, rfl, (Dr.ex hW (Ex.new hl)).trans d2⟩
  rintro _ H2 ⟨s, hs, rfl, d2⟩
  have ss : Small s := by rcases hs with rfl | rfl <;> constructor <;> decide +kernel
  have sl : Small (s * tgL) := by rcases hs with rfl | rfl <;> constructor <;> decide +kernel
  have s0 : Small (0 - s) := by rcases hs with rfl | rfl <;> constructor <;> decide +kernel
  have s10 : Small (s * (tooGreat / 10)) := by rcases hs with rfl | rfl <;> constructor <;> decide +kernel
  have s7 : Small (s * 7) := by rcases hs with rfl | rfl <;> constructor <;> decide +kernel
  have s9 : Small (s * 9) := by rcases hs with rfl | rfl <;> constructor <;> decide +kernel
  have sm := small_mul ss tl
  have sm10 := small_mul ss t10
  have smn : ∀ k : Int, Small k → CMulW s k := fun k hk => small_mul ss hk
  have k7 : Small 7 := small_of (by decide)
  have k9 : Small 9 := small_of (by decide)
  have gr : (greatT s).map ev = List.replicate 9 (.e dTooLong) := by
    rcases hs with rfl | rfl
    · exact great_1
    · exact great_2
  have fi : (fineT s).map ev = (fineN s).map .n := by
    rcases hs with rfl | rfl
    · exact fine_1
    · exact fine_2
  refine ⟨fun σ' H' => ∃ g, σ' = [some (.ref a), some (.int tooGreat), some (.int s), some (.int tgL), some g, none, none, none] ∧ Ex H2 H' ∧ RsAt K H' g (.e dTooLong), ?_, ?_⟩
  · exact ⟨_, rfl, _, _, rfl, rfl, (by show 2 ≤ sizeLine; decide), fun p1 h1 => ⟨(by show 2 ≤ sizeLine; decide), fun p2 h2 => ⟨_, _, rfl, .ref p2, rfl, (Ex.new h1).trans (Ex.new h2), p2, .ref p1, rfl, SqT.of upd_same, .tup (Evl.ex_t (Ex.new h2) (SqT.of upd_same)) (.cons (.str _) (.cons (.str _) .nil))⟩⟩⟩
  rintro _ H3 ⟨g, rfl, e3, hg⟩
  have two : ∀ {H' : Hp} {p : Addr} {f : Str} {i j : Int}, SqT K H' p [.str f, .int i, .int j] → Rep K H' (.comp f [.int i, .int j]) (.ref p) := fun h => rep_comp h (Reps.cons rep_int (Reps.one rep_int))
  refine ⟨fun σ' H' => ∃ l us, σ' = [some (.ref a), some (.int tooGreat), some (.int s), some (.int tgL), some g, some (.ref l), none, none] ∧ Ex H3 H' ∧ H' l = some (.lst us) ∧ Reps K H' ((greatT s).take 4) us, ?_, ?_⟩
  · refine ⟨_, rfl, _, rfl, _, _, rfl, rfl, sm, _, rfl, (by show 3 ≤ sizeLine; decide), fun p1 h1 => ⟨_, rfl, _, rfl, _, _, rfl, rfl, sm, _, rfl, _, _, rfl, rfl, (by show 3 ≤ sizeLine; decide), fun p2 h2 => ⟨_, rfl, _, rfl, _, _, rfl, rfl, ⟨by decide, by decide⟩, _, _, rfl, rfl, sm10, (by show 3 ≤ sizeLine; decide), fun p3 h3 => ⟨(by show 3 ≤ sizeLine; decide), fun p4 h4 => ⟨(by show 4 ≤ sizeLine; decide), fun l hl => ?_⟩⟩⟩⟩⟩
    refine ⟨l, _, rfl, (Ex.new h1).trans ((Ex.new h2).trans ((Ex.new h3).trans ((Ex.new h4).trans (Ex.new hl)))), upd_same, ?_⟩
    exact Reps.cons (two (Evl.ex_t ((Ex.new h2).trans ((Ex.new h3).trans ((Ex.new h4).trans (Ex.new hl)))) (SqT.of upd_same))) (Reps.cons (two (Evl.ex_t ((Ex.new h3).trans ((Ex.new h4).trans (Ex.new hl))) (SqT.of upd_same))) (Reps.cons (two (Evl.ex_t ((Ex.new h4).trans (Ex.new hl)) (SqT.of upd_same))) (Reps.one (two (Evl.ex_t (Ex.new hl) (SqT.of upd_same))))))
  rintro _ H4 ⟨l, us, rfl, e4, hl, hU⟩
  refine ⟨fun σ' H' => ∃ l us, σ' = [some (.ref a), some (.int tooGreat), some (.int s), some (.int tgL), some g, some (.ref l), none, none] ∧ Ex H3 H' ∧ H' l = some (.lst us) ∧ Reps K H' ((greatT s).take 7) us, ?_, ?_⟩
  · refine ⟨_, rfl, _, rfl, (by show 3 ≤ sizeLine; decide), fun p1 h1 => ⟨_, rfl, _, rfl, _, _, rfl, rfl, ⟨by decide, by decide⟩, (by show 3 ≤ sizeLine; decide), fun p2 h2 => ⟨_, rfl, _, _, rfl, rfl, smn 7 k7, _, rfl, _, _, rfl, rfl, ⟨by decide, by decide⟩, (by show 3 ≤ sizeLine; decide), fun p3 h3 => ⟨(by show 3 ≤ sizeLine; decide), fun l2 hl2 => ?_⟩⟩⟩⟩
    have hlen := hU.len
    have c4 := fun o => (Ex.new h1).trans ((Ex.new h2).trans ((Ex.new h3).trans (Ex.new (o := o) hl2)))
    refine ⟨l, l2, us, _, rfl, rfl, c4 _ _ _ hl, upd_same, small5 (by rw [← hlen]; show 4 + 3 ≤ 100000; decide), fun l3 hl3 => ?_⟩
    refine ⟨l3, _, rfl, e4.trans ((c4 _).trans (Ex.new hl3)), upd_same, ?_⟩
    exact Reps.app (hU.mono (Tups.of ((c4 _).trans (Ex.new hl3)))) (Reps.cons (two (Evl.ex_t ((Ex.new h2).trans ((Ex.new h3).trans ((Ex.new hl2).trans (Ex.new hl3)))) (SqT.of upd_same))) (Reps.cons (two (Evl.ex_t ((Ex.new h3).trans ((Ex.new hl2).trans (Ex.new hl3))) (SqT.of upd_same))) (Reps.one (two (Evl.ex_t ((Ex.new hl2).trans (Ex.new hl3)) (SqT.of upd_same))))))
  clear hU hl us l e4 H4
  rintro _ H4 ⟨l, us, rfl, e4, hl, hU⟩
  refine ⟨fun σ' H' => ∃ l us, σ' = [some (.ref a), some (.int tooGreat), some (.int s), some (.int tgL), some g, some (.ref l), none, none] ∧ Ex H3 H' ∧ H' l = some (.lst us) ∧ Reps K H' (greatT s) us, ?_, ?_⟩
  · refine ⟨_, rfl, _, rfl, _, rfl, (by show 3 ≤ sizeLine; decide), fun p1 h1 => ⟨(by show 3 ≤ sizeLine; decide), fun p2 h2 => ⟨(by show 2 ≤ sizeLine; decide), fun l2 hl2 => ?_⟩⟩⟩
    have hlen := hU.len
    have c4 := fun o => (Ex.new h1).trans ((Ex.new h2).trans (Ex.new (o := o) hl2))
    refine ⟨l, l2, us, _, rfl, rfl, c4 _ _ _ hl, upd_same, small5 (by rw [← hlen]; show 7 + 2 ≤ 100000; decide), fun l3 hl3 => ?_⟩
    refine ⟨l3, _, rfl, e4.trans ((c4 _).trans (Ex.new hl3)), upd_same, ?_⟩
    exact Reps.app (ts := (greatT s).take 7) (us := (greatT s).drop 7) (hU.mono (Tups.of ((c4 _).trans (Ex.new hl3)))) (Reps.cons (two (Evl.ex_t ((Ex.new h2).trans ((Ex.new hl2).trans (Ex.new hl3))) (SqT.of upd_same))) (Reps.one (two (Evl.ex_t ((Ex.new hl2).trans (Ex.new hl3)) (SqT.of upd_same)))))
  clear hU hl us l e4 H4
  rintro _ H4 ⟨l, us, rfl, e4, hl, hU⟩
  have ok2 : ∀ {z : Str} {i j : Int}, atomB z = true → Small i → Small j → Ok (.comp z [.int i, .int j]) ∧ size (.comp z [.int i, .int j]) ≤ 1000 := fun hz hi hj => ⟨ok_two hz (ok_int hi) (ok_int hj), by show 1 + (1 + (1 + 0)) ≤ 1000; decide⟩
  have ok1 : ∀ {z : Str} {i : Int}, atomB z = true → Small i → Ok (.comp z [.int i]) ∧ size (.comp z [.int i]) ≤ 1000 := fun hz hi => ⟨ok_one hz (ok_int hi), by show 1 + (1 + 0) ≤ 1000; decide⟩
  have t1000 : Small (tooGreat / 1000) := by constructor <;> decide +kernel
  have okG : ∀ t ∈ greatT s, Ok t ∧ size t ≤ 1000 := fun t ht => by
    simp only [greatT, List.mem_cons, List.not_mem_nil, or_false] at ht
    rcases ht with rfl | rfl | rfl | rfl | rfl | rfl | rfl | rfl | rfl
    · exact ok2 (by decide +kernel) sl ss
    · exact ok2 (by decide +kernel) sl s0
    · exact ok2 (by decide +kernel) s10 (small_of (by decide))
    · exact ok2 (by decide +kernel) (small_of (by decide)) (small_of (by decide))
    · exact ok2 (by decide +kernel) ss (small_of (by decide))
    · exact ok2 (by decide +kernel) ss t1000
    · exact ok2 (by decide +kernel) s7 t10
    · exact ok2 (by decide +kernel) tl tl
    · exact ok2 (by decide +kernel) (small_of (by decide)) (small_of (by decide))
  have okF : ∀ t ∈ fineT s, Ok t ∧ size t ≤ 1000 := fun t ht => by
    simp only [fineT, List.mem_cons, List.not_mem_nil, or_false] at ht
    rcases ht with rfl | rfl | rfl | rfl | rfl | rfl
    · exact ok2 (by decide +kernel) sl (small_of (by decide))
    · exact ok2 (by decide +kernel) s10 (small_of (by decide))
    · exact ok2 (by decide +kernel) ss (small_of (by decide))
    · exact ok2 (by decide +kernel) (small_of (by decide)) (small_of (by decide))
    · exact ok1 (by decide +kernel) tl
    · exact ok1 (by decide +kernel) (by constructor <;> decide +kernel)
  refine ⟨fun σ' H' => ∃ l, σ' = [some (.ref a), some (.int tooGreat), some (.int s), some (.int tgL), some g, some (.ref l), none, none] ∧ Ex H3 H', ?_, ?_⟩
  · delta tIfS tOr tTest tOp
    refine all_reck hl hU okG (show 9 ≤ 1000 by decide) fun D H5 zs e5 hD hP => ?_
    rw [gr] at hP
    have g5 := rs_mono (Tups.of (e4.trans e5)) hg
    refine ⟨_, rfl, (by show 1 ≤ sizeLine; decide), fun l2 hl2 => ⟨_, rfl, l, _, rfl, .inl (SqL.of (Ex.new hl2 _ _ (e5 _ _ hl))), l2, _, _, rfl, rfl, upd_same, ?_, ?_, ?_, fun l3 hl3 => ?_⟩⟩
    · have hlen := hU.len
      rw [← hlen]
      show -(2 ^ 63) ≤ ((9 : Nat) : Int)
      decide
    · have hlen := hU.len
      rw [← hlen]
      show ((9 : Nat) : Int) < 2 ^ 63
      decide
    · have hlen := hU.len
      rw [← hlen]
      show 1 * 9 ≤ sizeLine
      decide
    have c5 := (Ex.new (o := .lst [g]) hl2).trans (Ex.new (o := .lst (List.replicate ((us.length : Nat) : Int).toNat [g]).flatten) hl3)
    have g6 := rs_mono (Tups.of c5) g5
    have hD6 := c5 _ _ hD
    have hP6 := Paired.mapP hP fun _ _ z => rs_mono (Tups.of c5) z
    have hlen := hU.len
    have l9 : us.length = 9 := by rw [← hlen]; rfl
    have e8 := e4.trans (e5.trans c5)
    have fl : (List.replicate ((us.length : Nat) : Int).toNat [g]).flatten = List.replicate 9 g := by
      rw [l9]
      rfl
    have sh9 : SeqAt.shaped (.list ((List.replicate 9 (Rs.e dTooLong)).map dRs)) = true := by decide +kernel
    have hL6 : ∀ H' : Hp, H' = upd (upd H5 l2 (.lst [g])) l3 (.lst (List.replicate ((us.length : Nat) : Int).toNat [g]).flatten) → H' l3 = some (.lst (List.replicate 9 g)) := fun H' e => by rw [e, upd_same, fl]
    refine ⟨_, _, .lst (SqL.of hD6) (dp_all hP6), .lst (SqL.of (hL6 _ rfl)) (dp_rep1 g6 9), sh9, sh9, false, dp_neF sh9, iteF ?_⟩
    refine ⟨_, rfl, (by show 3 ≤ sizeLine; decide), fun p1 h1 => ⟨(by show 3 ≤ sizeLine; decide), fun p2 h2 => ?_⟩⟩
    refine ⟨_, .comp "-" [.comp "+" [.int tgL, .int 1], .int 5], rfl, rep_comp (SqT.of upd_same) (Reps.cons (two (Evl.ex_t (Ex.new h2) (SqT.of upd_same))) (Reps.one rep_int)), ok_two (by decide +kernel) (ok2 (by decide +kernel) tl (small_of (by decide))).1 (ok_int (small_of (by decide))), by show 1 + (1 + (1 + (1 + 0)) + (1 + 0)) ≤ 1000; decide, fun v' H7 e7 rs => ⟨_, rfl, ?_⟩⟩
    rw [great_3] at rs
    have e9 := (Ex.new h1).trans ((Ex.new h2).trans e7)
    exact ⟨_, _, rs_dp rs, rs_dp (rs_mono (Tups.of e9) g6), shaped_long, shaped_long, false, dp_neF shaped_long, iteF ⟨l, rfl, e8.trans e9⟩⟩
  clear hU hl us l e4 H4
  rintro _ H4 ⟨l, rfl, e4⟩
  refine ⟨fun σ' H' => ∃ l us, σ' = [some (.ref a), some (.int tooGreat), some (.int s), some (.int tgL), some g, some (.ref l), none, none] ∧ Ex H3 H' ∧ H' l = some (.lst us) ∧ Reps K H' ((fineT s).take 4) us, ?_, ?_⟩
  · refine ⟨_, rfl, _, rfl, _, _, rfl, rfl, sm, (by show 3 ≤ sizeLine; decide), fun p1 h1 => ⟨_, rfl, _, rfl, _, _, rfl, rfl, ⟨by decide, by decide⟩, _, _, rfl, rfl, sm10, (by show 3 ≤ sizeLine; decide), fun p2 h2 => ⟨_, rfl, (by show 3 ≤ sizeLine; decide), fun p3 h3 => ⟨(by show 3 ≤ sizeLine; decide), fun p4 h4 => ⟨(by show 4 ≤ sizeLine; decide), fun l hl => ?_⟩⟩⟩⟩⟩
    refine ⟨l, _, rfl, e4.trans ((Ex.new h1).trans ((Ex.new h2).trans ((Ex.new h3).trans ((Ex.new h4).trans (Ex.new hl))))), upd_same, ?_⟩
    exact Reps.cons (two (Evl.ex_t ((Ex.new h2).trans ((Ex.new h3).trans ((Ex.new h4).trans (Ex.new hl)))) (SqT.of upd_same))) (Reps.cons (two (Evl.ex_t ((Ex.new h3).trans ((Ex.new h4).trans (Ex.new hl))) (SqT.of upd_same))) (Reps.cons (two (Evl.ex_t ((Ex.new h4).trans (Ex.new hl)) (SqT.of upd_same))) (Reps.one (two (Evl.ex_t (Ex.new hl) (SqT.of upd_same))))))
  clear e4 l H4
  rintro _ H4 ⟨l, us, rfl, e4, hl, hU⟩
  refine ⟨fun σ' H' => ∃ l us, σ' = [some (.ref a), some (.int tooGreat), some (.int s), some (.int tgL), some g, some (.ref l), none, none] ∧ Ex H3 H' ∧ H' l = some (.lst us) ∧ Reps K H' (fineT s) us, ?_, ?_⟩
  · refine ⟨_, rfl, _, rfl, (by show 2 ≤ sizeLine; decide), fun p1 h1 => ⟨_, rfl, _, _, rfl, rfl, (by show 2 ≤ sizeLine; decide), fun p2 h2 => ⟨(by show 2 ≤ sizeLine; decide), fun l2 hl2 => ?_⟩⟩⟩
    have hlen := hU.len
    have c4 := fun o => (Ex.new h1).trans ((Ex.new h2).trans (Ex.new (o := o) hl2))
    refine ⟨l, l2, us, _, rfl, rfl, c4 _ _ _ hl, upd_same, small5 (by rw [← hlen]; show 4 + 2 ≤ 100000; decide), fun l3 hl3 => ?_⟩
    refine ⟨l3, _, rfl, e4.trans ((c4 _).trans (Ex.new hl3)), upd_same, ?_⟩
    exact Reps.app (ts := (fineT s).take 4) (us := (fineT s).drop 4) (hU.mono (Tups.of ((c4 _).trans (Ex.new hl3)))) (Reps.cons (rep_comp (Evl.ex_t ((Ex.new h2).trans ((Ex.new hl2).trans (Ex.new hl3))) (SqT.of upd_same)) (Reps.one rep_int)) (Reps.one (rep_comp (Evl.ex_t ((Ex.new hl2).trans (Ex.new hl3)) (SqT.of upd_same)) (Reps.one rep_int))))
  clear hU hl us l e4 H4
  rintro _ H4 ⟨l, us, rfl, e4, hl, hU⟩
  have n996 : ((1 : Int) * 2 ^ (996 : Int).toNat).natAbs < 2 ^ 1000 := by decide +kernel
  refine ⟨_, rfl, _, rfl, _, _, rfl, rfl, sm, _, rfl, _, _, rfl, rfl, smn 9 k9, _, rfl, _, _, rfl, rfl, ⟨by decide, by decide⟩, _, _, rfl, rfl, small_mul s9 t10, _, rfl, _, _, rfl, rfl, shl_ok (n := 1) (j := 996) (by decide) (by decide), _, _, rfl, rfl, wide_mul ss.nat n996 (by decide) (by decide) (by decide), _, _, rfl, rfl, shl_ok (n := 1) (j := 996) (by decide) (by decide), _, rfl, _, _, rfl, rfl, _, rfl, _, _, rfl, rfl, (by show 6 ≤ sizeLine; decide), fun l2 hl2 => ?_⟩
  have e5 := Ex.new (o := HO.lst ((fineN s).map V.int)) hl2
  delta gName tRet tOp
  dsimp only
  refine all_reck (e5 _ _ hl) (hU.mono (Tups.of e5)) okF (show 6 ≤ 1000 by decide) fun D H6 zs e6 hD hP => ?_
  rw [fi] at hP
  refine all_val (ns := fineN s) (e6 _ _ upd_same) (show 6 ≤ 1000 by decide) fun D2 H7 ys e7 hD2 hP2 => ?_
  have hP' := Paired.mapP hP fun _ _ z => rs_mono (Tups.of e7) z
  have shF : SeqAt.shaped (.list (((fineN s).map Rs.n).map dRs)) = true := by
    show (PyData.canLayAll0 (((fineN s).map Rs.n).map dRs) && decide (PyData.depthAll (((fineN s).map Rs.n).map dRs) + 1 ≤ 64)) = true
    have h1 : ∀ ns : List Int, PyData.canLayAll0 ((ns.map Rs.n).map dRs) = true := fun ns => by
      induction ns with
      | nil => rfl
      | cons k ns ih =>
        show ((((PyData.str "value").canLay0 && (true && true))) && PyData.canLayAll0 ((ns.map Rs.n).map dRs)) = true
        rw [ih]
        decide +kernel
    have h2 : ∀ ns : List Int, PyData.depthAll ((ns.map Rs.n).map dRs) ≤ 1 := fun ns => by
      induction ns with
      | nil => exact Nat.zero_le _
      | cons k ns ih =>
        show max (max 0 (max 0 0) + 1) (PyData.depthAll ((ns.map Rs.n).map dRs)) ≤ 1
        omega
    rw [h1, decide_eq_true (by have := h2 (fineN s); omega)]
    rfl
  refine ⟨_, _, .lst (SqL.of (e7 _ _ hD)) (dp_all hP'), .lst (SqL.of hD2) (dp_all hP2), shF, shF, ?_⟩
  rw [SeqAt.eqv_refl _ (SeqAt.canLay_of_shaped shF)]
  exact q _ (d2.trans (Dr.ex d2.well ((e3.trans e4).trans (e5.trans (e6.trans e7)))))
end
end Hm

set_option Elab.async false
set_option linter.all false
set_option maxRecDepth 100000
set_option maxHeartbeats 1000000
namespace Hm
open PySem PySem.Spec PyProof.Rows L2 HT
open Evl (Ex)
def rMulS : R2 := fun x y H Q => ∃ z k, x = .str z ∧ y = .int k ∧ 2 ≤ k ∧ k ≤ 100000 ∧ z.length = 1 ∧ (⟨(List.replicate k.toNat z.cps).foldl (· ++ ·) #[]⟩ : Str).length ≤ sizeLine ∧ Q (.str ⟨(List.replicate k.toNat z.cps).foldl (· ++ ·) #[]⟩) H
section
variable {X : Cx}
theorem op_mulS : OpR X (binaryOp .Mult) rMulS := by
  intro pins s σ H x y v u Q I rx ry h
  obtain ⟨z, k, rfl, rfl, h1, h2, hz, hl, q⟩ := h
  obtain ⟨t, rfl⟩ := rx
  obtain ⟨t', rfl⟩ := ry
  have hk : ¬ k < 1 := by omega
  have hk1 : ¬ ((k == 1 || z.length == 0) = true) := by
    rw [Bool.or_eq_true]
    rintro (e | e)
    · have := eq_of_beq e
      omega
    · have := eq_of_beq e
      omega
  refine PySem.P.mul_str ?_ (fun _ _ => ?_) (fun _ _ => ?_) ?_
  · rw [decide_eq_false (by omega), decide_eq_false (by omega)]
    rfl
  · rw [hz]
    have : (2 ^ 63 - 1 : Int) / k ≥ 1 := (Int.le_ediv_iff_mul_le (by omega)).mpr (by omega)
    omega
  · rw [hz]
    unfold Builtin.Str.tooLong
    exact decide_eq_false (by rw [sizeLine_eq]; omega)
  · rw [if_neg hk, if_neg hk1]
    exact ⟨hl, ⟨.str _, H, I.tok _, ⟨_, rfl⟩, q⟩⟩
end
section
variable {P : Program} {w : World} {K : PySem.W.Frag} {mg : Str → Option Value} {base : Heap}
mutual
theorem dp_ex {H H' : Hp} (m : Ex H H') : ∀ {v : V} {d : PyData}, Dp K H v d → Dp K H' v d
  | _, _, .non => .non
  | _, _, .bl b => .bl b
  | _, _, .int i => .int i
  | _, _, .str s => .str s
  | _, _, .lst h r => .lst (Evl.ex_l m h) (dps_ex m r)
  | _, _, .tup h r => .tup (Evl.ex_t m h) (dps_ex m r)
theorem dps_ex {H H' : Hp} (m : Ex H H') : ∀ {vs : List V} {ds : List PyData}, DpAll K H vs ds → DpAll K H' vs ds
  | _, _, .nil => .nil
  | _, _, .cons h r => .cons (dp_ex m h) (dps_ex m r)
end
/-- what repr tells of it, as long as what is there stands -/
def Shw (K : PySem.W.Frag) (H : Hp) (v : V) (x : Str) : Prop := ∀ H' Q, Ex H H' → Q (.str x) H' → RG.rReprE K [v] H' Q
theorem shw_d {H : Hp} {v : V} {d : PyData} (h : Dp K H v d) (h1 : d.showable = true) (h2 : d.hasDict = false) (h3 : d.depth ≤ 60) (h4 : d.shown.length ≤ sizeLine) : Shw K H v d.shown := fun H' Q e q => .inl ⟨v, d, rfl, dp_ex e h, h1, h2, h3, h4, q⟩
theorem shw_e {H : Hp} {a : Addr} (h : H a = some (.dK [])) : Shw K H (.ref a) "{}" := fun H' Q e q => .inr ⟨a, rfl, e _ _ h, q⟩
/-- an object that is no term -/
def NoT (K : PySem.W.Frag) (H : Hp) (v : V) : Prop := (∃ d, OdAt K H v d ∧ sizeD d ≤ 60000 ∧ isT d = false) ∧ ∃ x, Shw K H v x
theorem NoT.ex {H H' : Hp} {v : V} (e : Ex H H') (h : NoT K H v) : NoT K H' v := by
  obtain ⟨⟨d, h1, h2, h3⟩, x, h4⟩ := h
  exact ⟨⟨d, h1.mono (.of e), h2, h3⟩, x, fun H2 Q e2 q => h4 H2 Q (e.trans e2) q⟩
def spRef (K : PySem.W.Frag) : Sp := fun vs H Q _ => ∃ v, vs = [v] ∧ NoT K H v ∧ ∀ H', Ex H H' → Q (.bl true) H'
theorem ok_law_refused (T : Tz K w mg) : RG.FnG P w K mg base CX0 7 T.f_law_refused T.d_law_refused ["_law_thing"] (spRef K) := by
  refine RG.Fun.free T.h_law_refused.F sc_law_refused (fun us H Q E h => ?_) (fun cdv A outer s H vs Q E free hr h => ?_)
  · obtain ⟨v, rfl, _⟩ := h
    rfl
  obtain ⟨v, rfl, ⟨⟨d, hd, hz, ht⟩, x, hx⟩, q⟩ := h
  have hu := hr.units
  have hu2 : (A.deeper (envOfC "_law_refused" (defScope s_law_refused) s.heap.objs.size T.f_law_refused cdv)).units + 64 < cLine := hu
  refine ⟨_, (pss_cons (ps_try_as (i := 1) rfl rfl sc_law_refused.nd rfl rfl ⟨rfl, by decide, .inl T.e_Bad.at_⟩ takes0
    (fun W pn xe tk _ => pss_one (ps_expr (pe_callS (ok_reckoned T) (hr.mono (by decide)) rfl T.h_reckoned.m T.h_reckoned.F.kp T.h_reckoned.b (fun σ => passAt tk σ) (pa_cons (pv 0) pa_nil))))
    (fun a oe cls d pn hz hf => pss_one (ps_ret (pe_and (pe_cmpR op_eq (pe_callB (id := "repr") (r := RG.rReprE K) (RG.call_reprE free hu2) rfl T.b_repr (by decide +kernel) (pa_cons (pe_xf T.e_Bad.xf T.e_Bad.noF hz hf (pv 1)) pa_nil)) (pe_callB (id := "repr") (r := RG.rReprE K) (RG.call_reprE free hu2) rfl T.b_repr (by decide +kernel) (pa_cons (pv 0) pa_nil)) (nomark _))
      (pe_one (pe_callB (id := "isinstance") (r := RG.rIsD K T.a_Bad a cls d) (RG.call_isD T.x_Bad hz hf) rfl T.b_isinstance (by decide +kernel) (pa_cons (pv 1) (pa_cons (pe_glob (v := .ref T.a_Horn) rfl T.e_Horn.at_ rfl) pa_nil))))))))
    (pss_one (ps_ret pe_bl))), ?_⟩
  refine ⟨_, rfl, v, rfl, .inr ⟨d, hd, hz, ht, fun d2 H2 h2 e2 x2 => ⟨true, T.e_Bad.ex, fun _ a ha => ?_, fun z => by cases z⟩⟩⟩
  refine ⟨_, rfl, rfl, rfl, d2, _, v, rfl, x2, rfl, hx H2 _ e2 ⟨_, rfl, hx H2 _ e2 ⟨rfl, ?_⟩⟩⟩
  exact ⟨true, congrArg V.bl (decide_eq_true rfl), iteT ⟨_, rfl, _, .ref T.a_Horn, true, d2, _, rfl, fun u r => r, rfl, rfl, x2, T.y_Bad, q H2 e2⟩⟩
theorem pow_nat {x : Int} (hx : Dn x) : x.natAbs < 2 ^ 1000 := by
  have h := dn_pow hx
  have e : (2 : Int) ^ 340 < ((2 ^ 1000 : Nat) : Int) := by decide +kernel
  omega
theorem noT_of {H : Hp} {v : V} {d : Od} {e : PyData} (h : OdAt K H v d) (g : Dp K H v e) (c : (decide (sizeD d ≤ 60000) && !isT d && e.showable && !e.hasDict && decide (e.depth ≤ 60) && decide (e.shown.length ≤ sizeLine)) = true) : NoT K H v := by
  simp only [Bool.and_eq_true, decide_eq_true_eq, Bool.not_eq_true'] at c
  obtain ⟨⟨⟨⟨⟨c1, c2⟩, c3⟩, c4⟩, c5⟩, c6⟩ := c
  exact ⟨⟨d, h, c1, c2⟩, _, shw_d g c3 c4 c5 c6⟩
def spLaw (K : PySem.W.Frag) : Sp := fun vs H Q _ => ∃ (a : Addr) (ns : List Int), vs = [.ref a] ∧ SqL K H a (ns.map V.int) ∧ ns.length ≤ 63 ∧ ∀ H', Q (.bl true) H'
theorem ok_law (T : Tz K w mg) : RG.FnG P w K mg base CX0 9 T.f_law T.d_law ["_law_script"] (spLaw K) := by
  refine RG.Fun.free T.h_law.F sc_law (fun vs H Q E h => ?_) (fun cdv A outer s H vs Q E free hr h => ?_)
  · obtain ⟨a, ns, rfl, _⟩ := h
    rfl
  obtain ⟨a, ns, rfl, hS, hn, q⟩ := h
  have hu := hr.units
  refine ⟨_, (pss_cons (ps_for PassesOwn.never rfl (pi_list (pe_slice sl_list (pe_op op_catL (pv 0) (pe_lst (pa_cons pe_int pa_nil))) po_none (po_some pe_int))) (pg_name (i := 1) sc_law.nd rfl (Or.inl rfl))
      (pss_cons (ps_set (i := 2) sc_law.nd rfl (Or.inl rfl) (cl (ok_law_source_of T.toTx) T.h_law_source_of hr (pa_cons (pv 1) pa_nil)))
    (pss_cons (ps_par3 (i := 3) (j := 4) (l := 5) rfl sc_law.nd rfl rfl rfl (by decide) (by decide) (by decide) rfl rfl rfl (pa_cons (cl (ok_law_number T.toTx) T.h_law_number hr (pa_cons (pv 2) pa_nil)) (pa_cons (cl (ok_law_number T.toTx) T.h_law_number hr (pa_cons (pv 2) pa_nil)) (pa_cons (cl (ok_law_one T.toTx) T.h_law_one hr (pa_cons (pv 2) (pa_cons (pe_lst (pa_cons pe_int (pa_cons pe_int (pa_cons (pe_op op_sub pe_int pe_int) (pa_cons pe_int pa_nil))))) pa_nil))) pa_nil))) rfl)
    (pss_cons (ps_if (PW.pt (pw_or (pt_not (pt_val (cl (ok_law_divisions_right T) T.h_law_divisions_right hr (pa_cons (pv 3) (pa_cons (pv 4) pa_nil))))) (pw_or (pt_not (pt_val (cl (ok_law_bits_right T) T.h_law_bits_right hr (pa_cons (pv 3) (pa_cons (pv 4) pa_nil))))) (pw_or1 (pt_not (pt_val (cl (ok_law_gcd_right T) T.h_law_gcd_right hr (pa_cons (pv 3) (pa_cons (pv 4) (pa_cons (pv 5) pa_nil))))))))))
      (pss_one (ps_ret pe_bl))
      pss_nil)
    (pss_cons (ps_if (PW.pt (pw_or (pt_not (pt_val (cl (ok_law_shifts_right T) T.h_law_shifts_right hr (pa_cons (pv 3) (pa_cons (cl (ok_law_next T.toTx) T.h_law_next hr (pa_cons (pv 2) (pa_cons pe_int pa_nil))) (pa_cons (cl (ok_law_next T.toTx) T.h_law_next hr (pa_cons (pv 2) (pa_cons pe_int pa_nil))) pa_nil)))))) (pw_or1 (pt_not (pt_val (cl (ok_law_brink_right T) T.h_law_brink_right hr (pa_cons (pv 2) pa_nil)))))))
      (pss_one (ps_ret pe_bl))
      pss_nil)
    (pss_cons (ps_if (PW.pt (pw_or (pt_cmpR (op_neD hu) (cl (ok_reck0 T) T.h_reckoned hr (pa_cons (pe_tup (pa_cons pe_str (pa_cons (pv 3) pa_nil))) pa_nil)) (pe_tup (pa_cons pe_str (pa_cons (pe_op op_sub (pe_callTy call_int1 rfl T.b_int (by decide +kernel) (pa_cons (pe_cmpR op_gt (pv 3) pe_int (nomark _)) pa_nil)) (pe_callTy call_int1 rfl T.b_int (by decide +kernel) (pa_cons (pe_cmpR op_lt (pv 3) pe_int (nomark _)) pa_nil))) pa_nil))) (nomark _)) (pw_or1 (pt_cmpR (op_neD hu) (cl (ok_reck0 T) T.h_reckoned hr (pa_cons (pe_tup (pa_cons pe_str (pa_cons (pv 3) pa_nil))) pa_nil)) (pe_tup (pa_cons pe_str (pa_cons (pe_callB call_abs rfl T.b_abs (by decide +kernel) (pa_cons (pv 3) pa_nil)) pa_nil))) (nomark _)))))
      (pss_one (ps_ret pe_bl))
      pss_nil)
    (pss_cons (ps_set (i := 6) sc_law.nd rfl (Or.inl rfl) (pe_ix ix_tup (cl (ok_reck0 T) T.h_reckoned hr (pa_cons (pe_tup (pa_cons pe_str (pa_cons (pv 3) pa_nil))) pa_nil)) pe_int (fun _ _ => rfl)))
    (pss_one (ps_if (PW.pt (pw_and (pt_cmpR op_gt (pv 3) pe_int (nomark _)) (pw_and1 (pt_not (pt_chain op_le op_lt (pe_op op_shlW pe_int (pv 6)) (pv 3) (pe_op op_shlW pe_int (pv 6)))))))
      (pss_one (ps_ret pe_bl))
      pss_nil)))))))))
    (pss_cons (ps_for PassesOwn.never rfl (pi_tup (pe_tup (pa_cons pe_non (pa_cons pe_bl (pa_cons (pe_lst (pa_cons pe_int pa_nil)) (pa_cons pe_dnewK (pa_cons (pe_tup pa_nil) (pa_cons (pe_tup (pa_cons pe_str (pa_cons pe_int (pa_cons pe_non pa_nil)))) (pa_cons (pe_tup (pa_cons pe_str (pa_cons pe_bl (pa_cons pe_int pa_nil)))) (pa_cons (pe_tup (pa_cons (pe_op op_sub pe_int pe_int) pa_nil)) (pa_cons (pe_op op_catT (pe_tup (pa_cons pe_str pa_nil)) (pe_op op_repT (pe_tup (pa_cons pe_int pa_nil)) pe_int)) (pa_cons (pe_tup (pa_cons pe_int (pa_cons pe_int pa_nil))) (pa_cons (pe_op op_mulS pe_str pe_int) pa_nil))))))))))))) (pg_name (i := 7) sc_law.nd rfl (Or.inl rfl))
      (pss_one (ps_if (pt_not (pt_val (RG.pe_callG (ok_law_refused T) free (hr.mono (by decide)) rfl T.h_law_refused.m T.h_law_refused.F.kp T.h_law_refused.b .nil pass0 (pa_cons (pv 7) pa_nil))))
      (pss_one (ps_ret pe_bl))
      pss_nil)))
    (pss_one (ps_ret pe_bl)))), ?_⟩
  refine ⟨_, rfl, (by show 1 ≤ sizeLine; decide), fun p1 hp1 => ⟨a, p1, ns.map V.int, [V.int 0], rfl, rfl, Evl.ex_l (Ex.new hp1) hS, upd_same, small5 (by rw [List.length_map]; show ns.length + 1 ≤ _; omega), fun p2 hp2 => ⟨_, rfl, p2, _, rfl, SqL.of upd_same, fun p3 hp3 => ?_⟩⟩⟩
  have hL3 : (upd (upd (upd H p1 (.lst [V.int 0])) p2 (.lst (ns.map V.int ++ [V.int 0]))) p3 (.lst (cutV (ns.map V.int ++ [V.int 0]) none (some 5)))) p3 = some (.lst (cutV (ns.map V.int ++ [V.int 0]) none (some 5))) := upd_same
  generalize upd (upd (upd H p1 (.lst [V.int 0])) p2 (.lst (ns.map V.int ++ [V.int 0]))) p3 (.lst (cutV (ns.map V.int ++ [V.int 0]) none (some 5))) = H3 at *
  have items : ∀ i x, (cutV (ns.map V.int ++ [V.int 0]) none (some 5))[i]? = some x → ∃ z, x = V.int z := fun i x hx => by
    have hm := List.mem_of_getElem? hx
    unfold cutV at hm
    rcases List.mem_append.mp (List.mem_of_mem_drop (List.mem_of_mem_take hm)) with h | h
    · obtain ⟨z, _, e⟩ := List.mem_map.mp h
      exact ⟨z, e.symm⟩
    · exact ⟨0, List.mem_singleton.mp h⟩
  generalize cutV (ns.map V.int ++ [V.int 0]) none (some 5) = xs at *
  refine ⟨p3, rfl, ⟨_, SqL.of hL3⟩, for_list (fun i σ' H' => ∃ c1 c2 c3 c4 c5 c6 c7, σ' = [some (.ref a), c1, c2, c3, c4, c5, c6, c7] ∧ Ex H3 H') ⟨none, none, none, none, none, none, none, rfl, Ex.refl _⟩ (fun i σ' H' _ ⟨_, _, _, _, _, _, _, _, h⟩ => SqL.of (h p3 _ hL3)) ?_ ?_⟩
  · rintro i x σ' H4 hx ⟨c1, c2, c3, c4, c5, c6, c7, rfl, e4⟩
    obtain ⟨z, rfl⟩ := items i x hx
    refine ⟨_, rfl, z, rfl, fun pw x y z2 H5 hpw e5 hL5 => ?_⟩
    have hw5 : Well H5 pw := ⟨x, y, z2, hL5⟩
    refine ⟨_, rfl, pw, rfl, hw5, fun x H6 hx d6 => ⟨_, rfl, pw, rfl, d6.well, fun y H7 hy d7 => ⟨_, rfl, _, _, rfl, rfl, (by show 4 ≤ sizeLine; decide), fun l hl => ⟨pw, l, _, rfl, (Dr.ex d7.well (Ex.new hl)).well, d7.well.ne hl, SqL.of upd_same, by simp, (by show 4 ≤ 1000; decide), fun v H8 hv d8 => ?_⟩⟩⟩⟩
    obtain ⟨m, rfl, hm⟩ : ∃ m : Int, v = .int m ∧ m.natAbs ≤ 60 := by
      simp only [List.mem_cons, List.not_mem_nil, or_false] at hv
      rcases hv with rfl | rfl | rfl | rfl <;> exact ⟨_, rfl, by decide⟩
    have sx := Dn.small hx
    refine ⟨_, _, _, rfl, ?_⟩
    refine ⟨_, rfl, _, rfl, x, y, rfl, hx, hy, fun H9 e9 => ⟨true, rfl, iteF ⟨_, rfl, _, rfl, x, y, rfl, hx, hy, fun H10 e10 => ⟨true, rfl, iteF ⟨_, rfl, _, rfl, _, rfl, x, y, m, rfl, hx, hy, hm, fun H11 e11 => ⟨true, rfl, iteF ?_⟩⟩⟩⟩⟩⟩
    have w11 := (Dr.ex d8.well (e9.trans (e10.trans e11))).well
    refine ⟨_, rfl, _, rfl, pw, _, rfl, w11, by decide, by decide +kernel, fun j H12 j0 j1 d12 => ⟨_, rfl, pw, _, rfl, d12.well, by decide, by decide +kernel, fun k H13 k0 k1 d13 => ⟨x, j.toNat, k.toNat, ?_, hx, by omega, by omega, fun H14 e14 => ⟨true, rfl, iteF ⟨_, rfl, pw, rfl, (Dr.ex d13.well e14).well, fun H15 d15 => ⟨true, rfl, iteF ?_⟩⟩⟩⟩⟩⟩
    · show [V.int x, V.int j, V.int k] = [V.int x, V.int (j.toNat : Int), V.int (k.toNat : Int)]
      rw [Int.toNat_of_nonneg j0, Int.toNat_of_nonneg k0]
    have esg : ev (.comp "sign" [.int x]) = fSgn x := by
      rw [ev_one (g := fSgn) rfl (ev_int x)]
      refine bnd_in ?_
      generalize decide (x > 0) = p
      generalize decide (x < 0) = q
      cases p <;> cases q <;> exact small_of (by decide)
    have eab : ev (.comp "abs" [.int x]) = fAbs x := by
      rw [ev_one (g := fAbs) rfl (ev_int x)]
      refine bnd_in ?_
      unfold Small at sx ⊢
      split <;> omega
    refine ⟨_, rfl, (by show 2 ≤ sizeLine; decide), fun p hp => ⟨_, .comp "sign" [.int x], rfl, rep_comp (SqT.of upd_same) (Reps.one rep_int), ok_one (by decide +kernel) (ok_int sx), by show 1 + (1 + 0) ≤ 1000; decide, fun v' H16 e16 rs => ⟨_, rfl, _, _, rfl, rfl, .inr ⟨_, rfl, _, rfl, _, _, rfl, rfl, .inr ⟨_, rfl, _, _, rfl, rfl, (by show 2 ≤ sizeLine; decide), fun p2 hp2 => ?_⟩⟩⟩⟩⟩
    rw [esg] at rs
    refine ⟨_, _, rs_dp (rs_mono (.of (Ex.new hp2)) rs), rs_dp rs_n, shaped_n _, shaped_n _, false, dp_neF (shaped_n _), iteF ?_⟩
    refine ⟨_, rfl, (by show 2 ≤ sizeLine; decide), fun p3 hp3 => ⟨_, .comp "abs" [.int x], rfl, rep_comp (SqT.of upd_same) (Reps.one rep_int), ok_one (by decide +kernel) (ok_int sx), by show 1 + (1 + 0) ≤ 1000; decide, fun v3 H17 e17 rs3 => ⟨_, rfl, x, rfl, (by show 2 ≤ sizeLine; decide), fun p4 hp4 => ?_⟩⟩⟩
    rw [eab] at rs3
    refine ⟨_, _, rs_dp (rs_mono (.of (Ex.new hp4)) rs3), rs_dp rs_n, shaped_n _, shaped_n _, false, dp_neF (shaped_n _), iteF ?_⟩
    refine ⟨_, rfl, (by show 2 ≤ sizeLine; decide), fun p5 hp5 => ⟨_, .comp "msb" [.int x], rfl, rep_comp (SqT.of upd_same) (Reps.one rep_int), ok_one (by decide +kernel) (ok_int sx), by show 1 + (1 + 0) ≤ 1000; decide, fun v5 H18 e18 rs5 => ?_⟩⟩
    have D := ((((d6.trans d7).trans (Dr.ex d7.well (Ex.new hl))).trans d8).trans (Dr.ex d8.well (e9.trans (e10.trans e11)))).trans (((d12.trans d13).trans (Dr.ex d13.well e14)).trans d15)
    have D' := D.trans (Dr.ex d15.well ((Ex.new hp).trans (e16.trans ((Ex.new hp2).trans ((Ex.new hp3).trans (e17.trans ((Ex.new hp4).trans ((Ex.new hp5).trans e18))))))))
    have fin : Ex H3 H18 := fun b o hb => D'.keep _ _ (ne_of_none (e4 _ _ hb) hpw) (e5 _ _ (e4 _ _ hb))
    by_cases h : 0 < x
    · obtain ⟨k, hk, h1, h2, h3⟩ := msb_val h
      have h4 : Builtin.Int.intBits x ≤ 1000 := PyProof.Rows.intBits_le (pow_nat hx)
      rw [ev_one (g := fMsb) rfl (ev_int x), hk, bnd_in (small_of (by omega))] at rs5
      obtain ⟨b, rfl, hT⟩ := rs5
      have c1 : CShl 1 (k : Int) := shl_ok (n := 1) (by decide) (by omega)
      have c2 : CShl 2 (k : Int) := shl_ok (n := 2) (by decide) (by omega)
      exact ⟨b, _, 1, _, rfl, rfl, hT, rfl, _, rfl, _, _, rfl, rfl, true, congrArg V.bl (decide_eq_true h), iteT ⟨_, rfl, _, _, rfl, rfl, c1, _, rfl, _, _, rfl, rfl, true, congrArg V.bl (decide_eq_true h1), iteT ⟨_, rfl, _, _, rfl, rfl, c2, _, _, rfl, rfl, true, congrArg V.bl (decide_eq_true h2), iteF ⟨_, _, _, _, _, _, _, rfl, fin⟩⟩⟩⟩
    · have hx0 : x < 1 := by omega
      rw [ev_one (g := fMsb) rfl (ev_int x), show fMsb x = _ from if_pos hx0] at rs5
      obtain ⟨b, u, rfl, hT, hu⟩ := rs5
      exact ⟨b, _, 1, _, rfl, rfl, hT, rfl, _, rfl, _, _, rfl, rfl, false, congrArg V.bl (decide_eq_false h), iteF (iteF ⟨_, _, _, _, _, _, _, rfl, fin⟩)⟩
  · rintro σ' H4 ⟨c1, c2, c3, c4, c5, c6, c7, rfl, e4⟩
    refine ⟨(by show 1 ≤ sizeLine; decide), fun p2 h2 => ?_⟩
    have e5 := Ex.new (o := .lst [.int 1]) h2
    have t2 : SqL K (upd H4 p2 (.lst [.int 1])) p2 [.int 1] := SqL.of upd_same
    generalize upd H4 p2 (.lst [.int 1]) = H5 at *
    refine fun p3 h3 => ?_
    have e6 := Ex.new (o := .dK []) h3
    have t3 : (upd H5 p3 (.dK [])) p3 = some (.dK []) := upd_same
    generalize upd H5 p3 (.dK []) = H6 at *
    refine ⟨(by show 0 ≤ sizeLine; decide), fun p4 h4 => ?_⟩
    have e7 := Ex.new (o := .tup []) h4
    have t4 : SqT K (upd H6 p4 (.tup [])) p4 [] := SqT.of upd_same
    generalize upd H6 p4 (.tup []) = H7 at *
    refine ⟨(by show 3 ≤ sizeLine; decide), fun p5 h5 => ?_⟩
    have e8 := Ex.new (o := .tup [.str "+", .int 1, .non]) h5
    have t5 : SqT K (upd H7 p5 (.tup [.str "+", .int 1, .non])) p5 [.str "+", .int 1, .non] := SqT.of upd_same
    generalize upd H7 p5 (.tup [.str "+", .int 1, .non]) = H8 at *
    refine ⟨(by show 3 ≤ sizeLine; decide), fun p6 h6 => ?_⟩
    have e9 := Ex.new (o := .tup [.str "+", .bl true, .int 1]) h6
    have t6 : SqT K (upd H8 p6 (.tup [.str "+", .bl true, .int 1])) p6 [.str "+", .bl true, .int 1] := SqT.of upd_same
    generalize upd H8 p6 (.tup [.str "+", .bl true, .int 1]) = H9 at *
    refine ⟨_, _, rfl, rfl, (by show 1 ≤ sizeLine; decide), fun p7 h7 => ?_⟩
    have e10 := Ex.new (o := .tup [.int (0 - 1)]) h7
    have t7 : SqT K (upd H9 p7 (.tup [.int (0 - 1)])) p7 [.int (0 - 1)] := SqT.of upd_same
    generalize upd H9 p7 (.tup [.int (0 - 1)]) = H10 at *
    refine ⟨(by show 1 ≤ sizeLine; decide), fun p8 h8 => ?_⟩
    have e11 := Ex.new (o := .tup [.str "f"]) h8
    have t8 : SqT K (upd H10 p8 (.tup [.str "f"])) p8 [.str "f"] := SqT.of upd_same
    generalize upd H10 p8 (.tup [.str "f"]) = H11 at *
    refine ⟨(by show 1 ≤ sizeLine; decide), fun p9 h9 => ?_⟩
    have e12 := Ex.new (o := .tup [.int 1]) h9
    have t9 : SqT K (upd H11 p9 (.tup [.int 1])) p9 [.int 1] := SqT.of upd_same
    generalize upd H11 p9 (.tup [.int 1]) = H12 at *
    refine ⟨p9, 9, [.int 1], rfl, rfl, t9, by simp, by decide, by decide, by show 1 ≤ 1000; decide, fun p10 h10 => ?_⟩
    have e13 := Ex.new (o := .tup (List.replicate (Int.toNat 9) [V.int 1]).flatten) h10
    have t10 : SqT K (upd H12 p10 (.tup (List.replicate (Int.toNat 9) [V.int 1]).flatten)) p10 [.int 1, .int 1, .int 1, .int 1, .int 1, .int 1, .int 1, .int 1, .int 1] := SqT.of upd_same
    generalize upd H12 p10 (.tup (List.replicate (Int.toNat 9) [V.int 1]).flatten) = H13 at *
    refine ⟨p8, p10, _, _, rfl, rfl, Evl.ex_t (e12.trans e13) t8, t10, by simp, (by show 1 + 9 ≤ sizeLine; decide), fun z => absurd z (List.cons_ne_nil _ _), fun _ p11 h11 => ?_⟩
    have e14 := Ex.new (o := .tup ([.str "f"] ++ [.int 1, .int 1, .int 1, .int 1, .int 1, .int 1, .int 1, .int 1, .int 1])) h11
    have t11 : SqT K (upd H13 p11 (.tup ([.str "f"] ++ [.int 1, .int 1, .int 1, .int 1, .int 1, .int 1, .int 1, .int 1, .int 1]))) p11 [.str "f", .int 1, .int 1, .int 1, .int 1, .int 1, .int 1, .int 1, .int 1, .int 1] := SqT.of upd_same
    generalize upd H13 p11 (.tup ([.str "f"] ++ [.int 1, .int 1, .int 1, .int 1, .int 1, .int 1, .int 1, .int 1, .int 1])) = H14 at *
    refine ⟨(by show 2 ≤ sizeLine; decide), fun p12 h12 => ?_⟩
    have e15 := Ex.new (o := .tup [.int 5, .int 1]) h12
    have t12 : SqT K (upd H14 p12 (.tup [.int 5, .int 1])) p12 [.int 5, .int 1] := SqT.of upd_same
    generalize upd H14 p12 (.tup [.int 5, .int 1]) = H15 at *
    refine ⟨"a", 41, rfl, rfl, by decide, by decide, by decide, by decide +kernel, (by show 11 ≤ sizeLine; decide), fun p13 h13 => ?_⟩
    have e16 := Ex.new (o := .tup [.non, .bl true, .ref p2, .ref p3, .ref p4, .ref p5, .ref p6, .ref p7, .ref p11, .ref p12, .str ⟨(List.replicate (Int.toNat 41) ("a" : Str).cps).foldl (· ++ ·) #[]⟩]) h13
    have tt : SqT K (upd H15 p13 (.tup [.non, .bl true, .ref p2, .ref p3, .ref p4, .ref p5, .ref p6, .ref p7, .ref p11, .ref p12, .str ⟨(List.replicate (Int.toNat 41) ("a" : Str).cps).foldl (· ++ ·) #[]⟩])) p13 [.non, .bl true, .ref p2, .ref p3, .ref p4, .ref p5, .ref p6, .ref p7, .ref p11, .ref p12, .str ⟨(List.replicate (Int.toNat 41) ("a" : Str).cps).foldl (· ++ ·) #[]⟩] := SqT.of upd_same
    generalize upd H15 p13 (.tup [.non, .bl true, .ref p2, .ref p3, .ref p4, .ref p5, .ref p6, .ref p7, .ref p11, .ref p12, .str ⟨(List.replicate (Int.toNat 41) ("a" : Str).cps).foldl (· ++ ·) #[]⟩]) = H16 at *
    have x15 := e16
    have x14 := e15.trans x15
    have x13 := e14.trans x14
    have x12 := e13.trans x13
    have x11 := e12.trans x12
    have x10 := e11.trans x11
    have x9 := e10.trans x10
    have x8 := e9.trans x9
    have x7 := e8.trans x8
    have x6 := e7.trans x7
    have x5 := e6.trans x6
    have no : ∀ x ∈ [V.non, .bl true, .ref p2, .ref p3, .ref p4, .ref p5, .ref p6, .ref p7, .ref p11, .ref p12, .str ⟨(List.replicate (Int.toNat 41) ("a" : Str).cps).foldl (· ++ ·) #[]⟩], NoT K H16 x := fun x hx => by
      simp only [List.mem_cons, List.not_mem_nil, or_false] at hx
      rcases hx with rfl | rfl | rfl | rfl | rfl | rfl | rfl | rfl | rfl | rfl | rfl
      · exact noT_of .non .non (by decide +kernel)
      · exact noT_of (.bl true) (.bl true) (by decide +kernel)
      · exact noT_of (.lst (Evl.ex_l x5 t2)) (.lst (Evl.ex_l x5 t2) (.cons (.int 1) .nil)) (by decide +kernel)
      · exact ⟨⟨.dic, .dic (x6 _ _ t3), by decide, rfl⟩, _, shw_e (x6 _ _ t3)⟩
      · exact noT_of (.tup (Evl.ex_t x7 t4) .nil) (.tup (Evl.ex_t x7 t4) .nil) (by decide +kernel)
      · exact noT_of (.tup (Evl.ex_t x8 t5) (.cons (.str "+") (.cons (.int 1) (.cons .non .nil)))) (.tup (Evl.ex_t x8 t5) (.cons (.str "+") (.cons (.int 1) (.cons .non .nil)))) (by decide +kernel)
      · exact noT_of (.tup (Evl.ex_t x9 t6) (.cons (.str "+") (.cons (.bl true) (.cons (.int 1) .nil)))) (.tup (Evl.ex_t x9 t6) (.cons (.str "+") (.cons (.bl true) (.cons (.int 1) .nil)))) (by decide +kernel)
      · exact noT_of (.tup (Evl.ex_t x10 t7) (.cons (.int (0 - 1)) .nil)) (.tup (Evl.ex_t x10 t7) (.cons (.int (0 - 1)) .nil)) (by decide +kernel)
      · exact noT_of (.tup (Evl.ex_t x14 t11) (.cons (.str "f") (.cons (.int 1) (.cons (.int 1) (.cons (.int 1) (.cons (.int 1) (.cons (.int 1) (.cons (.int 1) (.cons (.int 1) (.cons (.int 1) (.cons (.int 1) .nil))))))))))) (.tup (Evl.ex_t x14 t11) (.cons (.str "f") (.cons (.int 1) (.cons (.int 1) (.cons (.int 1) (.cons (.int 1) (.cons (.int 1) (.cons (.int 1) (.cons (.int 1) (.cons (.int 1) (.cons (.int 1) .nil))))))))))) (by decide +kernel)
      · exact noT_of (.tup (Evl.ex_t x15 t12) (.cons (.int 5) (.cons (.int 1) .nil))) (.tup (Evl.ex_t x15 t12) (.cons (.int 5) (.cons (.int 1) .nil))) (by decide +kernel)
      · exact noT_of (.str _) (.str _) (by decide +kernel)
    refine ⟨p13, rfl, ⟨_, tt⟩, for_tup (fun i σ' H' => ∃ c1 c2 c3 c4 c5 c6 c7, σ' = [some (.ref a), c1, c2, c3, c4, c5, c6, c7] ∧ Ex H16 H') ⟨c1, c2, c3, c4, c5, c6, c7, rfl, Ex.refl _⟩ (fun i σ' H' _ ⟨_, _, _, _, _, _, _, _, h⟩ => Evl.ex_t h tt) ?_ ?_⟩
    · rintro i x σ' H17 hx ⟨c1, c2, c3, c4, c5, c6, c7, rfl, e17⟩
      exact ⟨_, rfl, x, rfl, (no x (List.mem_of_getElem? hx)).ex e17, fun H18 e18 => ⟨true, rfl, iteF ⟨_, _, _, _, _, _, _, rfl, e17.trans e18⟩⟩⟩
    · rintro σ' H17 _
      exact q H17
end
end Hm

set_option Elab.async false
set_option linter.all false
set_option maxRecDepth 100000
set_option maxHeartbeats 1000000
namespace Hm
open PySem PySem.Spec PyProof.Rows L2 HT
/-! ## the tables of operations, as the module holds them -/
def TEnt (P : Params) (e : DictEntry) (p : Str × Addr) : Prop := e.hash = PyData.keyHash P p.1 ∧ (∃ t, e.key = .str p.1 t) ∧ e.val = .ref p.2
theorem ent_lit {P : Params} : ∀ {es : List DictEntry} {l : List (Str × Addr)}, PySem.Paired (TEnt P) es l → PySem.W.KeysLit P es
  | _, _, .nil => trivial
  | _, _, .cons p r => by
    obtain ⟨h1, ⟨t, h2⟩, _⟩ := p
    exact ⟨⟨_, t, h2, h1⟩, ent_lit r⟩
theorem ent_ref {P : Params} : ∀ {es : List DictEntry} {l : List (Str × Addr)}, PySem.Paired (TEnt P) es l → es.any (·.refKey) = false
  | _, _, .nil => rfl
  | e :: es, _, .cons p r => by
    obtain ⟨h1, ⟨t, h2⟩, _⟩ := p
    rw [List.any_cons, ent_ref r, Bool.or_false]
    unfold DictEntry.refKey
    rw [h2]
theorem ent_find {P : Params} (z : Str) : ∀ {es : List DictEntry} {l : List (Str × Addr)}, PySem.Paired (TEnt P) es l → (es.find? (·.key.isStr z)).map (·.val) = (l.lookup z).map Value.ref
  | _, _, .nil => rfl
  | e :: es, (k, f) :: l, .cons p r => by
    obtain ⟨h1, ⟨t, h2⟩, h3⟩ := p
    dsimp only at h2 h3
    rw [List.find?_cons, List.lookup_cons, h2]
    have c : Value.isStr (.str k t) z = (z == k) := by
      show (k == z) = (z == k)
      rw [Bool.eq_iff_iff]
      constructor
      · intro h
        rw [eq_of_beq h]
        exact beq_self_eq_true z
      · intro h
        rw [eq_of_beq h]
        exact beq_self_eq_true k
    rw [c]
    cases z == k with
    | true =>
      show some e.val = some (Value.ref f)
      rw [h3]
    | false => exact ent_find z r
theorem ent_ns {P : Params} {K : PySem.W.Frag} {d : Addr} {c : Value} {o : Option Addr} {es : Array DictEntry} {n : Nat} {sl : Array (Option Value)} {l : List (Str × Addr)} (h : K.lookup d = some ⟨c, o, .dict es n, sl⟩) (he : PySem.Paired (TEnt P) es.toList l) (z : Str) : PySem.W.nsIn K d z = some ((l.lookup z).map Value.ref) := by
  unfold PySem.W.nsIn
  rw [h]
  dsimp only
  have hf := ent_find z he
  have hr := ent_ref he
  cases hg : es.toList.find? (·.key.isStr z) with
  | none =>
    rw [hg] at hf
    dsimp only
    rw [hr, ← hf]
    rfl
  | some e =>
    rw [hg] at hf
    dsimp only
    rw [← hf]
    rfl
theorem ent_mk {P : Params} {k : Str} {t : Tok} {f : Addr} : TEnt P ⟨PyData.keyHash P k, .str k t, .ref f⟩ (k, f) := ⟨rfl, ⟨t, rfl⟩, rfl⟩
theorem kd_mk {w : World} {K : PySem.W.Frag} {d : Addr} {es : Array DictEntry} {n : Nat} {l : List (Str × Addr)} (h : K.lookup d = some ⟨.type "dict", none, .dict es n, #[]⟩) (hs : (d == sysModules) = false) (he : PySem.Paired (TEnt w.params) es.toList l) : KDict K w d es n := ⟨h, ent_lit he, hs⟩
/-- an error that the module holds -/
theorem mod_err {K : PySem.W.Frag} {a b : Addr} {d1 d2 : Option Addr} {n1 n2 : Nat} {s1 s2 : Array (Option Value)} {t1 t2 t3 : Tok} {x y : Str}
    (h1 : K.lookup a = some ⟨.type "tuple", d1, .seq #[.str "error" t1, .ref b] n1, s1⟩) (h2 : K.lookup b = some ⟨.type "tuple", d2, .seq #[.str x t2, .str y t3] n2, s2⟩) (H : Hp) : RsAt K H (.ref a) (.e (.tuple [.str x, .str y])) :=
  ⟨a, .ref b, rfl, .inr ⟨_, _, n1, h1, rfl, rfl, (by show 2 ≤ sizeLine; decide), (show Vals [V.str "error", V.ref b] [Value.str "error" t1, Value.ref b] from .cons ⟨t1, rfl⟩ (.cons rfl .nil))⟩,
    .tup (xs := [V.str x, V.str y]) (.inr ⟨_, _, n2, h2, rfl, rfl, (by show 2 ≤ sizeLine; decide), (show Vals [V.str x, V.str y] [Value.str x t2, Value.str y t3] from .cons ⟨t2, rfl⟩ (.cons ⟨t3, rfl⟩ .nil))⟩) (.cons (.str x) (.cons (.str y) .nil))⟩
end Hm

set_option Elab.async false
set_option linter.all false
set_option maxRecDepth 100000
set_option maxHeartbeats 4000000
namespace Hm
open PySem PySem.Spec PyProof.Rows L2 HT
theorem kcl_own {K : PySem.W.Frag} {C D : Addr} (h1 : PySem.W.isClsIn K D = true) (h2 : PySem.W.typeIn K (.ref D) = some (.type "type")) (h3 : PySem.W.subIn K (.ref C) (.ref D) = some true) : PySem.W.kitCls K (.ref C) (.ref D) = some true := by
  have e : ((PySem.W.clsIn K D).isSome && PySem.W.typeIn K (.ref D) == some (.type "type")) = true := by
    rw [show (PySem.W.clsIn K D).isSome = true from h1, h2]
    rfl
  show (if ((PySem.W.clsIn K D).isSome && PySem.W.typeIn K (.ref D) == some (.type "type")) = true then PySem.W.subIn K (.ref C) (.ref D) else none) = some true
  rw [if_pos e]
  exact h3
theorem exm_own {K : PySem.W.Frag} {C : Addr} (h0 : PySem.W.subIn K (.ref C) (.type "BaseException") = some true) (h1 : PySem.W.isClsIn K C = true) (h2 : PySem.W.typeIn K (.ref C) = some (.type "type")) (h3 : PySem.W.subIn K (.ref C) (.ref C) = some true) : PySem.W.exmOne K (.ref C) (.ref C) = some true := by
  unfold PySem.W.exmOne
  rw [h0]
  exact kcl_own h1 h2 h3
theorem kit_own {K : PySem.W.Frag} {C D : Addr} (h1 : PySem.W.isClsIn K D = true) (h2 : PySem.W.typeIn K (.ref D) = some (.type "type")) (h3 : PySem.W.subIn K (.ref C) (.ref D) = some true) : PySem.W.kitOne K (.ref C) (.ref D) = some true := by
  unfold PySem.W.kitOne
  split
  · rfl
  · exact kcl_own h1 h2 h3
theorem all_mk {l : PySem.W.OpenLaw} {w : World} {K : PySem.W.Frag} {h : Heap} {mg : Str → Option Value} {fa : Addr} (X : K.In h) (G : h.Ns mainGlobals mg) (hfa : mg "law" = some (.ref fa))
    {f1 : Addr}
    {od1 an1 : Option Addr} {sl1 : Array (Option Value)} {oc1 kV1 dc1 pm1 cd1 ct1 : Value}
    {f2 : Addr}
    {od2 an2 : Option Addr} {sl2 : Array (Option Value)} {oc2 kV2 dc2 pm2 cd2 ct2 : Value}
    {f3 : Addr}
    {od3 an3 : Option Addr} {sl3 : Array (Option Value)} {oc3 kV3 dc3 pm3 cd3 ct3 : Value}
    {f4 : Addr}
    {od4 an4 : Option Addr} {sl4 : Array (Option Value)} {oc4 kV4 dc4 pm4 cd4 ct4 : Value}
    {f5 : Addr}
    {od5 an5 : Option Addr} {sl5 : Array (Option Value)} {oc5 kV5 dc5 pm5 cd5 ct5 : Value}
    {f6 : Addr}
    {od6 an6 : Option Addr} {sl6 : Array (Option Value)} {oc6 kV6 dc6 pm6 cd6 ct6 : Value}
    {f7 : Addr}
    {od7 an7 : Option Addr} {sl7 : Array (Option Value)} {oc7 kV7 dc7 pm7 cd7 ct7 : Value}
    {f8 : Addr}
    {od8 an8 : Option Addr} {sl8 : Array (Option Value)} {oc8 kV8 dc8 pm8 cd8 ct8 : Value}
    {f9 : Addr}
    {od9 an9 : Option Addr} {sl9 : Array (Option Value)} {oc9 kV9 dc9 pm9 cd9 ct9 : Value}
    {f10 : Addr}
    {od10 an10 : Option Addr} {sl10 : Array (Option Value)} {oc10 kV10 dc10 pm10 cd10 ct10 : Value}
    {f11 : Addr}
    {od11 an11 : Option Addr} {sl11 : Array (Option Value)} {oc11 kV11 dc11 pm11 cd11 ct11 : Value}
    {f12 : Addr}
    {od12 an12 : Option Addr} {sl12 : Array (Option Value)} {oc12 kV12 dc12 pm12 cd12 ct12 : Value}
    {f13 : Addr}
    {od13 an13 : Option Addr} {sl13 : Array (Option Value)} {oc13 kV13 dc13 pm13 cd13 ct13 : Value}
    {f14 : Addr}
    {od14 an14 : Option Addr} {sl14 : Array (Option Value)} {oc14 kV14 dc14 pm14 cd14 ct14 : Value}
    {f15 : Addr}
    {od15 an15 : Option Addr} {sl15 : Array (Option Value)} {oc15 kV15 dc15 pm15 cd15 ct15 : Value}
    {f16 : Addr}
    {od16 an16 : Option Addr} {sl16 : Array (Option Value)} {oc16 kV16 dc16 pm16 cd16 ct16 : Value}
    {f17 : Addr}
    {od17 an17 : Option Addr} {sl17 : Array (Option Value)} {oc17 kV17 dc17 pm17 cd17 ct17 : Value}
    {f18 : Addr}
    {od18 an18 : Option Addr} {sl18 : Array (Option Value)} {oc18 kV18 dc18 pm18 cd18 ct18 : Value}
    {f19 : Addr}
    {od19 an19 : Option Addr} {sl19 : Array (Option Value)} {oc19 kV19 dc19 pm19 cd19 ct19 : Value}
    {f20 : Addr}
    {od20 an20 : Option Addr} {sl20 : Array (Option Value)} {oc20 kV20 dc20 pm20 cd20 ct20 : Value}
    {f21 : Addr}
    {od21 an21 : Option Addr} {sl21 : Array (Option Value)} {oc21 kV21 dc21 pm21 cd21 ct21 : Value}
    {f22 : Addr}
    {od22 an22 : Option Addr} {sl22 : Array (Option Value)} {oc22 kV22 dc22 pm22 cd22 ct22 : Value}
    {f23 : Addr}
    {od23 an23 : Option Addr} {sl23 : Array (Option Value)} {oc23 kV23 dc23 pm23 cd23 ct23 : Value}
    {f24 : Addr}
    {od24 an24 : Option Addr} {sl24 : Array (Option Value)} {oc24 kV24 dc24 pm24 cd24 ct24 : Value}
    {f25 : Addr}
    {od25 an25 : Option Addr} {sl25 : Array (Option Value)} {oc25 kV25 dc25 pm25 cd25 ct25 : Value}
    {f26 : Addr}
    {od26 an26 : Option Addr} {sl26 : Array (Option Value)} {oc26 kV26 dc26 pm26 cd26 ct26 : Value}
    {f27 : Addr}
    {od27 an27 : Option Addr} {sl27 : Array (Option Value)} {oc27 kV27 dc27 pm27 cd27 ct27 : Value}
    {f28 : Addr}
    {od28 an28 : Option Addr} {sl28 : Array (Option Value)} {oc28 kV28 dc28 pm28 cd28 ct28 : Value}
    {f29 : Addr}
    {od29 an29 : Option Addr} {sl29 : Array (Option Value)} {oc29 kV29 dc29 pm29 cd29 ct29 : Value}
    {f30 : Addr}
    {od30 an30 : Option Addr} {sl30 : Array (Option Value)} {oc30 kV30 dc30 pm30 cd30 ct30 : Value}
    {f31 : Addr}
    {od31 an31 : Option Addr} {sl31 : Array (Option Value)} {oc31 kV31 dc31 pm31 cd31 ct31 : Value}
    {f32 : Addr}
    {od32 an32 : Option Addr} {sl32 : Array (Option Value)} {oc32 kV32 dc32 pm32 cd32 ct32 : Value}
    {f33 : Addr}
    {od33 an33 : Option Addr} {sl33 : Array (Option Value)} {oc33 kV33 dc33 pm33 cd33 ct33 : Value}
    {f34 : Addr}
    {od34 an34 : Option Addr} {sl34 : Array (Option Value)} {oc34 kV34 dc34 pm34 cd34 ct34 : Value}
    {f35 : Addr}
    {od35 an35 : Option Addr} {sl35 : Array (Option Value)} {oc35 kV35 dc35 pm35 cd35 ct35 : Value}
    {f36 : Addr}
    {od36 an36 : Option Addr} {sl36 : Array (Option Value)} {oc36 kV36 dc36 pm36 cd36 ct36 : Value}
    {f37 : Addr}
    {od37 an37 : Option Addr} {sl37 : Array (Option Value)} {oc37 kV37 dc37 pm37 cd37 ct37 : Value}
    {f38 : Addr}
    {od38 an38 : Option Addr} {sl38 : Array (Option Value)} {oc38 kV38 dc38 pm38 cd38 ct38 : Value}
    {f39 : Addr}
    {od39 an39 : Option Addr} {sl39 : Array (Option Value)} {oc39 kV39 dc39 pm39 cd39 ct39 : Value}
    {f40 : Addr}
    {od40 an40 : Option Addr} {sl40 : Array (Option Value)} {oc40 kV40 dc40 pm40 cd40 ct40 : Value}
    {f41 : Addr}
    {od41 an41 : Option Addr} {sl41 : Array (Option Value)} {oc41 kV41 dc41 pm41 cd41 ct41 : Value}
    {f42 : Addr}
    {od42 an42 : Option Addr} {sl42 : Array (Option Value)} {oc42 kV42 dc42 pm42 cd42 ct42 : Value}
    {f43 : Addr}
    {od43 an43 : Option Addr} {sl43 : Array (Option Value)} {oc43 kV43 dc43 pm43 cd43 ct43 : Value}
    {f44 : Addr}
    {od44 an44 : Option Addr} {sl44 : Array (Option Value)} {oc44 kV44 dc44 pm44 cd44 ct44 : Value}
    {f45 : Addr}
    {od45 an45 : Option Addr} {sl45 : Array (Option Value)} {oc45 kV45 dc45 pm45 cd45 ct45 : Value}
    {f46 : Addr}
    {od46 an46 : Option Addr} {sl46 : Array (Option Value)} {oc46 kV46 dc46 pm46 cd46 ct46 : Value}
    {f47 : Addr}
    {od47 an47 : Option Addr} {sl47 : Array (Option Value)} {oc47 kV47 dc47 pm47 cd47 ct47 : Value}
    {f48 : Addr}
    {od48 an48 : Option Addr} {sl48 : Array (Option Value)} {oc48 kV48 dc48 pm48 cd48 ct48 : Value}
    {f49 : Addr}
    {od49 an49 : Option Addr} {sl49 : Array (Option Value)} {oc49 kV49 dc49 pm49 cd49 ct49 : Value}
    {f50 : Addr}
    {od50 an50 : Option Addr} {sl50 : Array (Option Value)} {oc50 kV50 dc50 pm50 cd50 ct50 : Value}
    {u1 : Tok}
    {u2 : Tok}
    {u3 : Tok}
    {u4 : Tok}
    {u5 : Tok}
    {N1 N2 N3 N4 D1 D2 : Addr} {o1 o2 o3 o4 : Option Addr} {m1 m2 m3 m4 e1 e2 : Nat} {w1 w2 w3 w4 : Array (Option Value)} {g1 g2 g3 g4 g5 g6 : Tok}
    {p0 : Tok}
    {p1 : Tok}
    {p2 : Tok}
    {p3 : Tok}
    {p4 : Tok}
    {p5 : Tok}
    {q0 : Tok}
    {q1 : Tok}
    {q2 : Tok}
    {q3 : Tok}
    {q4 : Tok}
    {q5 : Tok}
    {q6 : Tok}
    {q7 : Tok}
    {q8 : Tok}
    {q9 : Tok}
    {q10 : Tok}
    {q11 : Tok}
    {q12 : Tok}
    {q13 : Tok}
    {q14 : Tok}
    {q15 : Tok}
    {q16 : Tok}
    {aHn aBd iBd NB : Addr} {nmB qB : Str} {bsB : List Value} {snB : List Str} {subB : List Value} {abB : Bool} {colB : Option Bool} {ddB : Option Addr} {mB0 mB1 mB2 mB3 mB5 : Option Value} {odB anB : Option Addr} {slB : Array (Option Value)} {ocB kVB dcB pmB cdB ctB : Value}
    (a1 : PySem.W.nsIn K mainGlobals "is_integer" = some (some (.ref f1)))
    (l1 : K.lookup f1 = some ⟨oc1, od1, .func (PySem.W.fnOf "is_integer" "is_integer" (defArgs s_is_integer) (defBody s_is_integer) (defScope s_is_integer) .none kV1 dc1 pm1 an1 cd1 ct1), sl1⟩)
    (c1 : PySem.W.codeIn K cd1 "is_integer" = true) (k1 : PySem.W.keepIn K (.ref f1) = true)
    (a2 : PySem.W.nsIn K mainGlobals "is_sign" = some (some (.ref f2)))
    (l2 : K.lookup f2 = some ⟨oc2, od2, .func (PySem.W.fnOf "is_sign" "is_sign" (defArgs s_is_sign) (defBody s_is_sign) (defScope s_is_sign) .none kV2 dc2 pm2 an2 cd2 ct2), sl2⟩)
    (c2 : PySem.W.codeIn K cd2 "is_sign" = true) (k2 : PySem.W.keepIn K (.ref f2) = true)
    (a3 : PySem.W.nsIn K mainGlobals "is_atom" = some (some (.ref f3)))
    (l3 : K.lookup f3 = some ⟨oc3, od3, .func (PySem.W.fnOf "is_atom" "is_atom" (defArgs s_is_atom) (defBody s_is_atom) (defScope s_is_atom) .none kV3 dc3 pm3 an3 cd3 ct3), sl3⟩)
    (c3 : PySem.W.codeIn K cd3 "is_atom" = true) (k3 : PySem.W.keepIn K (.ref f3) = true)
    (a4 : PySem.W.nsIn K mainGlobals "is_number" = some (some (.ref f4)))
    (l4 : K.lookup f4 = some ⟨oc4, od4, .func (PySem.W.fnOf "is_number" "is_number" (defArgs s_is_number) (defBody s_is_number) (defScope s_is_number) .none kV4 dc4 pm4 an4 cd4 ct4), sl4⟩)
    (c4 : PySem.W.codeIn K cd4 "is_number" = true) (k4 : PySem.W.keepIn K (.ref f4) = true)
    (a5 : PySem.W.nsIn K mainGlobals "is_term" = some (some (.ref f5)))
    (l5 : K.lookup f5 = some ⟨oc5, od5, .func (PySem.W.fnOf "is_term" "is_term" (defArgs s_is_term) (defBody s_is_term) (defScope s_is_term) .none kV5 dc5 pm5 an5 cd5 ct5), sl5⟩)
    (c5 : PySem.W.codeIn K cd5 "is_term" = true) (k5 : PySem.W.keepIn K (.ref f5) = true)
    (a6 : PySem.W.nsIn K mainGlobals "_is_part" = some (some (.ref f6)))
    (l6 : K.lookup f6 = some ⟨oc6, od6, .func (PySem.W.fnOf "_is_part" "_is_part" (defArgs s_is_part) (defBody s_is_part) (defScope s_is_part) .none kV6 dc6 pm6 an6 cd6 ct6), sl6⟩)
    (c6 : PySem.W.codeIn K cd6 "_is_part" = true) (k6 : PySem.W.keepIn K (.ref f6) = true)
    (a7 : PySem.W.nsIn K mainGlobals "demand_term" = some (some (.ref f7)))
    (l7 : K.lookup f7 = some ⟨oc7, od7, .func (PySem.W.fnOf "demand_term" "demand_term" (defArgs s_demand_term) (defBody s_demand_term) (defScope s_demand_term) .none kV7 dc7 pm7 an7 cd7 ct7), sl7⟩)
    (c7 : PySem.W.codeIn K cd7 "demand_term" = true) (k7 : PySem.W.keepIn K (.ref f7) = true)
    (a8 : PySem.W.nsIn K mainGlobals "is_variable" = some (some (.ref f8)))
    (l8 : K.lookup f8 = some ⟨oc8, od8, .func (PySem.W.fnOf "is_variable" "is_variable" (defArgs s_is_variable) (defBody s_is_variable) (defScope s_is_variable) .none kV8 dc8 pm8 an8 cd8 ct8), sl8⟩)
    (c8 : PySem.W.codeIn K cd8 "is_variable" = true) (k8 : PySem.W.keepIn K (.ref f8) = true)
    (a9 : PySem.W.nsIn K mainGlobals "arguments_of" = some (some (.ref f9)))
    (l9 : K.lookup f9 = some ⟨oc9, od9, .func (PySem.W.fnOf "arguments_of" "arguments_of" (defArgs s_arguments_of) (defBody s_arguments_of) (defScope s_arguments_of) .none kV9 dc9 pm9 an9 cd9 ct9), sl9⟩)
    (c9 : PySem.W.codeIn K cd9 "arguments_of" = true) (k9 : PySem.W.keepIn K (.ref f9) = true)
    (a10 : PySem.W.nsIn K mainGlobals "reckoned" = some (some (.ref f10)))
    (l10 : K.lookup f10 = some ⟨oc10, od10, .func (PySem.W.fnOf "reckoned" "reckoned" (defArgs s_reckoned) (defBody s_reckoned) (defScope s_reckoned) .none kV10 dc10 pm10 an10 cd10 ct10), sl10⟩)
    (c10 : PySem.W.codeIn K cd10 "reckoned" = true) (k10 : PySem.W.keepIn K (.ref f10) = true)
    (a11 : PySem.W.nsIn K mainGlobals "_is_operation" = some (some (.ref f11)))
    (l11 : K.lookup f11 = some ⟨oc11, od11, .func (PySem.W.fnOf "_is_operation" "_is_operation" (defArgs s_is_operation) (defBody s_is_operation) (defScope s_is_operation) .none kV11 dc11 pm11 an11 cd11 ct11), sl11⟩)
    (c11 : PySem.W.codeIn K cd11 "_is_operation" = true) (k11 : PySem.W.keepIn K (.ref f11) = true)
    (a12 : PySem.W.nsIn K mainGlobals "_leaf" = some (some (.ref f12)))
    (l12 : K.lookup f12 = some ⟨oc12, od12, .func (PySem.W.fnOf "_leaf" "_leaf" (defArgs s_leaf) (defBody s_leaf) (defScope s_leaf) .none kV12 dc12 pm12 an12 cd12 ct12), sl12⟩)
    (c12 : PySem.W.codeIn K cd12 "_leaf" = true) (k12 : PySem.W.keepIn K (.ref f12) = true)
    (a13 : PySem.W.nsIn K mainGlobals "_operated" = some (some (.ref f13)))
    (l13 : K.lookup f13 = some ⟨oc13, od13, .func (PySem.W.fnOf "_operated" "_operated" (defArgs s_operated) (defBody s_operated) (defScope s_operated) .none kV13 dc13 pm13 an13 cd13 ct13), sl13⟩)
    (c13 : PySem.W.codeIn K cd13 "_operated" = true) (k13 : PySem.W.keepIn K (.ref f13) = true)
    (a14 : PySem.W.nsIn K mainGlobals "_bounded" = some (some (.ref f14)))
    (l14 : K.lookup f14 = some ⟨oc14, od14, .func (PySem.W.fnOf "_bounded" "_bounded" (defArgs s_bounded) (defBody s_bounded) (defScope s_bounded) .none kV14 dc14 pm14 an14 cd14 ct14), sl14⟩)
    (c14 : PySem.W.codeIn K cd14 "_bounded" = true) (k14 : PySem.W.keepIn K (.ref f14) = true)
    (a15 : PySem.W.nsIn K mainGlobals "_same" = some (some (.ref f15)))
    (l15 : K.lookup f15 = some ⟨oc15, od15, .func (PySem.W.fnOf "_same" "_same" (defArgs s_same) (defBody s_same) (defScope s_same) .none kV15 dc15 pm15 an15 cd15 ct15), sl15⟩)
    (c15 : PySem.W.codeIn K cd15 "_same" = true) (k15 : PySem.W.keepIn K (.ref f15) = true)
    (a16 : PySem.W.nsIn K mainGlobals "_opposite" = some (some (.ref f16)))
    (l16 : K.lookup f16 = some ⟨oc16, od16, .func (PySem.W.fnOf "_opposite" "_opposite" (defArgs s_opposite) (defBody s_opposite) (defScope s_opposite) .none kV16 dc16 pm16 an16 cd16 ct16), sl16⟩)
    (c16 : PySem.W.codeIn K cd16 "_opposite" = true) (k16 : PySem.W.keepIn K (.ref f16) = true)
    (a17 : PySem.W.nsIn K mainGlobals "_absolute" = some (some (.ref f17)))
    (l17 : K.lookup f17 = some ⟨oc17, od17, .func (PySem.W.fnOf "_absolute" "_absolute" (defArgs s_absolute) (defBody s_absolute) (defScope s_absolute) .none kV17 dc17 pm17 an17 cd17 ct17), sl17⟩)
    (c17 : PySem.W.codeIn K cd17 "_absolute" = true) (k17 : PySem.W.keepIn K (.ref f17) = true)
    (a18 : PySem.W.nsIn K mainGlobals "_sign" = some (some (.ref f18)))
    (l18 : K.lookup f18 = some ⟨oc18, od18, .func (PySem.W.fnOf "_sign" "_sign" (defArgs s_sign) (defBody s_sign) (defScope s_sign) .none kV18 dc18 pm18 an18 cd18 ct18), sl18⟩)
    (c18 : PySem.W.codeIn K cd18 "_sign" = true) (k18 : PySem.W.keepIn K (.ref f18) = true)
    (a19 : PySem.W.nsIn K mainGlobals "_complement" = some (some (.ref f19)))
    (l19 : K.lookup f19 = some ⟨oc19, od19, .func (PySem.W.fnOf "_complement" "_complement" (defArgs s_complement) (defBody s_complement) (defScope s_complement) .none kV19 dc19 pm19 an19 cd19 ct19), sl19⟩)
    (c19 : PySem.W.codeIn K cd19 "_complement" = true) (k19 : PySem.W.keepIn K (.ref f19) = true)
    (a20 : PySem.W.nsIn K mainGlobals "_highest_bit" = some (some (.ref f20)))
    (l20 : K.lookup f20 = some ⟨oc20, od20, .func (PySem.W.fnOf "_highest_bit" "_highest_bit" (defArgs s_highest_bit) (defBody s_highest_bit) (defScope s_highest_bit) .none kV20 dc20 pm20 an20 cd20 ct20), sl20⟩)
    (c20 : PySem.W.codeIn K cd20 "_highest_bit" = true) (k20 : PySem.W.keepIn K (.ref f20) = true)
    (a21 : PySem.W.nsIn K mainGlobals "_sum" = some (some (.ref f21)))
    (l21 : K.lookup f21 = some ⟨oc21, od21, .func (PySem.W.fnOf "_sum" "_sum" (defArgs s_sum) (defBody s_sum) (defScope s_sum) .none kV21 dc21 pm21 an21 cd21 ct21), sl21⟩)
    (c21 : PySem.W.codeIn K cd21 "_sum" = true) (k21 : PySem.W.keepIn K (.ref f21) = true)
    (a22 : PySem.W.nsIn K mainGlobals "_difference" = some (some (.ref f22)))
    (l22 : K.lookup f22 = some ⟨oc22, od22, .func (PySem.W.fnOf "_difference" "_difference" (defArgs s_difference) (defBody s_difference) (defScope s_difference) .none kV22 dc22 pm22 an22 cd22 ct22), sl22⟩)
    (c22 : PySem.W.codeIn K cd22 "_difference" = true) (k22 : PySem.W.keepIn K (.ref f22) = true)
    (a23 : PySem.W.nsIn K mainGlobals "_product" = some (some (.ref f23)))
    (l23 : K.lookup f23 = some ⟨oc23, od23, .func (PySem.W.fnOf "_product" "_product" (defArgs s_product) (defBody s_product) (defScope s_product) .none kV23 dc23 pm23 an23 cd23 ct23), sl23⟩)
    (c23 : PySem.W.codeIn K cd23 "_product" = true) (k23 : PySem.W.keepIn K (.ref f23) = true)
    (a24 : PySem.W.nsIn K mainGlobals "_least" = some (some (.ref f24)))
    (l24 : K.lookup f24 = some ⟨oc24, od24, .func (PySem.W.fnOf "_least" "_least" (defArgs s_least) (defBody s_least) (defScope s_least) .none kV24 dc24 pm24 an24 cd24 ct24), sl24⟩)
    (c24 : PySem.W.codeIn K cd24 "_least" = true) (k24 : PySem.W.keepIn K (.ref f24) = true)
    (a25 : PySem.W.nsIn K mainGlobals "_greatest" = some (some (.ref f25)))
    (l25 : K.lookup f25 = some ⟨oc25, od25, .func (PySem.W.fnOf "_greatest" "_greatest" (defArgs s_greatest) (defBody s_greatest) (defScope s_greatest) .none kV25 dc25 pm25 an25 cd25 ct25), sl25⟩)
    (c25 : PySem.W.codeIn K cd25 "_greatest" = true) (k25 : PySem.W.keepIn K (.ref f25) = true)
    (a26 : PySem.W.nsIn K mainGlobals "_common_divisor" = some (some (.ref f26)))
    (l26 : K.lookup f26 = some ⟨oc26, od26, .func (PySem.W.fnOf "_common_divisor" "_common_divisor" (defArgs s_common_divisor) (defBody s_common_divisor) (defScope s_common_divisor) .none kV26 dc26 pm26 an26 cd26 ct26), sl26⟩)
    (c26 : PySem.W.codeIn K cd26 "_common_divisor" = true) (k26 : PySem.W.keepIn K (.ref f26) = true)
    (a27 : PySem.W.nsIn K mainGlobals "_both_bits" = some (some (.ref f27)))
    (l27 : K.lookup f27 = some ⟨oc27, od27, .func (PySem.W.fnOf "_both_bits" "_both_bits" (defArgs s_both_bits) (defBody s_both_bits) (defScope s_both_bits) .none kV27 dc27 pm27 an27 cd27 ct27), sl27⟩)
    (c27 : PySem.W.codeIn K cd27 "_both_bits" = true) (k27 : PySem.W.keepIn K (.ref f27) = true)
    (a28 : PySem.W.nsIn K mainGlobals "_any_bits" = some (some (.ref f28)))
    (l28 : K.lookup f28 = some ⟨oc28, od28, .func (PySem.W.fnOf "_any_bits" "_any_bits" (defArgs s_any_bits) (defBody s_any_bits) (defScope s_any_bits) .none kV28 dc28 pm28 an28 cd28 ct28), sl28⟩)
    (c28 : PySem.W.codeIn K cd28 "_any_bits" = true) (k28 : PySem.W.keepIn K (.ref f28) = true)
    (a29 : PySem.W.nsIn K mainGlobals "_unlike_bits" = some (some (.ref f29)))
    (l29 : K.lookup f29 = some ⟨oc29, od29, .func (PySem.W.fnOf "_unlike_bits" "_unlike_bits" (defArgs s_unlike_bits) (defBody s_unlike_bits) (defScope s_unlike_bits) .none kV29 dc29 pm29 an29 cd29 ct29), sl29⟩)
    (c29 : PySem.W.codeIn K cd29 "_unlike_bits" = true) (k29 : PySem.W.keepIn K (.ref f29) = true)
    (a30 : PySem.W.nsIn K mainGlobals "_towards_zero" = some (some (.ref f30)))
    (l30 : K.lookup f30 = some ⟨oc30, od30, .func (PySem.W.fnOf "_towards_zero" "_towards_zero" (defArgs s_towards_zero) (defBody s_towards_zero) (defScope s_towards_zero) .none kV30 dc30 pm30 an30 cd30 ct30), sl30⟩)
    (c30 : PySem.W.codeIn K cd30 "_towards_zero" = true) (k30 : PySem.W.keepIn K (.ref f30) = true)
    (a31 : PySem.W.nsIn K mainGlobals "_downwards" = some (some (.ref f31)))
    (l31 : K.lookup f31 = some ⟨oc31, od31, .func (PySem.W.fnOf "_downwards" "_downwards" (defArgs s_downwards) (defBody s_downwards) (defScope s_downwards) .none kV31 dc31 pm31 an31 cd31 ct31), sl31⟩)
    (c31 : PySem.W.codeIn K cd31 "_downwards" = true) (k31 : PySem.W.keepIn K (.ref f31) = true)
    (a32 : PySem.W.nsIn K mainGlobals "_modulus" = some (some (.ref f32)))
    (l32 : K.lookup f32 = some ⟨oc32, od32, .func (PySem.W.fnOf "_modulus" "_modulus" (defArgs s_modulus) (defBody s_modulus) (defScope s_modulus) .none kV32 dc32 pm32 an32 cd32 ct32), sl32⟩)
    (c32 : PySem.W.codeIn K cd32 "_modulus" = true) (k32 : PySem.W.keepIn K (.ref f32) = true)
    (a33 : PySem.W.nsIn K mainGlobals "_remainder" = some (some (.ref f33)))
    (l33 : K.lookup f33 = some ⟨oc33, od33, .func (PySem.W.fnOf "_remainder" "_remainder" (defArgs s_remainder) (defBody s_remainder) (defScope s_remainder) .none kV33 dc33 pm33 an33 cd33 ct33), sl33⟩)
    (c33 : PySem.W.codeIn K cd33 "_remainder" = true) (k33 : PySem.W.keepIn K (.ref f33) = true)
    (a34 : PySem.W.nsIn K mainGlobals "_shift_left" = some (some (.ref f34)))
    (l34 : K.lookup f34 = some ⟨oc34, od34, .func (PySem.W.fnOf "_shift_left" "_shift_left" (defArgs s_shift_left) (defBody s_shift_left) (defScope s_shift_left) .none kV34 dc34 pm34 an34 cd34 ct34), sl34⟩)
    (c34 : PySem.W.codeIn K cd34 "_shift_left" = true) (k34 : PySem.W.keepIn K (.ref f34) = true)
    (a35 : PySem.W.nsIn K mainGlobals "_shift_right" = some (some (.ref f35)))
    (l35 : K.lookup f35 = some ⟨oc35, od35, .func (PySem.W.fnOf "_shift_right" "_shift_right" (defArgs s_shift_right) (defBody s_shift_right) (defScope s_shift_right) .none kV35 dc35 pm35 an35 cd35 ct35), sl35⟩)
    (c35 : PySem.W.codeIn K cd35 "_shift_right" = true) (k35 : PySem.W.keepIn K (.ref f35) = true)
    (a36 : PySem.W.nsIn K mainGlobals "_power" = some (some (.ref f36)))
    (l36 : K.lookup f36 = some ⟨oc36, od36, .func (PySem.W.fnOf "_power" "_power" (defArgs s_power) (defBody s_power) (defScope s_power) .none kV36 dc36 pm36 an36 cd36 ct36), sl36⟩)
    (c36 : PySem.W.codeIn K cd36 "_power" = true) (k36 : PySem.W.keepIn K (.ref f36) = true)
    (a37 : PySem.W.nsIn K mainGlobals "_small_power" = some (some (.ref f37)))
    (l37 : K.lookup f37 = some ⟨oc37, od37, .func (PySem.W.fnOf "_small_power" "_small_power" (defArgs s_small_power) (defBody s_small_power) (defScope s_small_power) .none kV37 dc37 pm37 an37 cd37 ct37), sl37⟩)
    (c37 : PySem.W.codeIn K cd37 "_small_power" = true) (k37 : PySem.W.keepIn K (.ref f37) = true)
    (a38 : PySem.W.nsIn K mainGlobals "_law_source_of" = some (some (.ref f38)))
    (l38 : K.lookup f38 = some ⟨oc38, od38, .func (PySem.W.fnOf "_law_source_of" "_law_source_of" (defArgs s_law_source_of) (defBody s_law_source_of) (defScope s_law_source_of) .none kV38 dc38 pm38 an38 cd38 ct38), sl38⟩)
    (c38 : PySem.W.codeIn K cd38 "_law_source_of" = true) (k38 : PySem.W.keepIn K (.ref f38) = true)
    (a39 : PySem.W.nsIn K mainGlobals "_law_next" = some (some (.ref f39)))
    (l39 : K.lookup f39 = some ⟨oc39, od39, .func (PySem.W.fnOf "_law_next" "_law_next" (defArgs s_law_next) (defBody s_law_next) (defScope s_law_next) .none kV39 dc39 pm39 an39 cd39 ct39), sl39⟩)
    (c39 : PySem.W.codeIn K cd39 "_law_next" = true) (k39 : PySem.W.keepIn K (.ref f39) = true)
    (a40 : PySem.W.nsIn K mainGlobals "_law_one" = some (some (.ref f40)))
    (l40 : K.lookup f40 = some ⟨oc40, od40, .func (PySem.W.fnOf "_law_one" "_law_one" (defArgs s_law_one) (defBody s_law_one) (defScope s_law_one) .none kV40 dc40 pm40 an40 cd40 ct40), sl40⟩)
    (c40 : PySem.W.codeIn K cd40 "_law_one" = true) (k40 : PySem.W.keepIn K (.ref f40) = true)
    (a41 : PySem.W.nsIn K mainGlobals "_law_top" = some (some (.ref f41)))
    (l41 : K.lookup f41 = some ⟨oc41, od41, .func (PySem.W.fnOf "_law_top" "_law_top" (defArgs s_law_top) (defBody s_law_top) (defScope s_law_top) .none kV41 dc41 pm41 an41 cd41 ct41), sl41⟩)
    (c41 : PySem.W.codeIn K cd41 "_law_top" = true) (k41 : PySem.W.keepIn K (.ref f41) = true)
    (a42 : PySem.W.nsIn K mainGlobals "_law_of" = some (some (.ref f42)))
    (l42 : K.lookup f42 = some ⟨oc42, od42, .func (PySem.W.fnOf "_law_of" "_law_of" (defArgs s_law_of) (defBody s_law_of) (defScope s_law_of) .none kV42 dc42 pm42 an42 cd42 ct42), sl42⟩)
    (c42 : PySem.W.codeIn K cd42 "_law_of" = true) (k42 : PySem.W.keepIn K (.ref f42) = true)
    (a43 : PySem.W.nsIn K mainGlobals "_law_number" = some (some (.ref f43)))
    (l43 : K.lookup f43 = some ⟨oc43, od43, .func (PySem.W.fnOf "_law_number" "_law_number" (defArgs s_law_number) (defBody s_law_number) (defScope s_law_number) .none kV43 dc43 pm43 an43 cd43 ct43), sl43⟩)
    (c43 : PySem.W.codeIn K cd43 "_law_number" = true) (k43 : PySem.W.keepIn K (.ref f43) = true)
    (a44 : PySem.W.nsIn K mainGlobals "_law_divisions_right" = some (some (.ref f44)))
    (l44 : K.lookup f44 = some ⟨oc44, od44, .func (PySem.W.fnOf "_law_divisions_right" "_law_divisions_right" (defArgs s_law_divisions_right) (defBody s_law_divisions_right) (defScope s_law_divisions_right) .none kV44 dc44 pm44 an44 cd44 ct44), sl44⟩)
    (c44 : PySem.W.codeIn K cd44 "_law_divisions_right" = true) (k44 : PySem.W.keepIn K (.ref f44) = true)
    (a45 : PySem.W.nsIn K mainGlobals "_law_bits_right" = some (some (.ref f45)))
    (l45 : K.lookup f45 = some ⟨oc45, od45, .func (PySem.W.fnOf "_law_bits_right" "_law_bits_right" (defArgs s_law_bits_right) (defBody s_law_bits_right) (defScope s_law_bits_right) .none kV45 dc45 pm45 an45 cd45 ct45), sl45⟩)
    (c45 : PySem.W.codeIn K cd45 "_law_bits_right" = true) (k45 : PySem.W.keepIn K (.ref f45) = true)
    (a46 : PySem.W.nsIn K mainGlobals "_law_gcd_right" = some (some (.ref f46)))
    (l46 : K.lookup f46 = some ⟨oc46, od46, .func (PySem.W.fnOf "_law_gcd_right" "_law_gcd_right" (defArgs s_law_gcd_right) (defBody s_law_gcd_right) (defScope s_law_gcd_right) .none kV46 dc46 pm46 an46 cd46 ct46), sl46⟩)
    (c46 : PySem.W.codeIn K cd46 "_law_gcd_right" = true) (k46 : PySem.W.keepIn K (.ref f46) = true)
    (a47 : PySem.W.nsIn K mainGlobals "_law_shifts_right" = some (some (.ref f47)))
    (l47 : K.lookup f47 = some ⟨oc47, od47, .func (PySem.W.fnOf "_law_shifts_right" "_law_shifts_right" (defArgs s_law_shifts_right) (defBody s_law_shifts_right) (defScope s_law_shifts_right) .none kV47 dc47 pm47 an47 cd47 ct47), sl47⟩)
    (c47 : PySem.W.codeIn K cd47 "_law_shifts_right" = true) (k47 : PySem.W.keepIn K (.ref f47) = true)
    (a48 : PySem.W.nsIn K mainGlobals "_law_brink_right" = some (some (.ref f48)))
    (l48 : K.lookup f48 = some ⟨oc48, od48, .func (PySem.W.fnOf "_law_brink_right" "_law_brink_right" (defArgs s_law_brink_right) (defBody s_law_brink_right) (defScope s_law_brink_right) .none kV48 dc48 pm48 an48 cd48 ct48), sl48⟩)
    (c48 : PySem.W.codeIn K cd48 "_law_brink_right" = true) (k48 : PySem.W.keepIn K (.ref f48) = true)
    (a49 : PySem.W.nsIn K mainGlobals "_law_refused" = some (some (.ref f49)))
    (l49 : K.lookup f49 = some ⟨oc49, od49, .func (PySem.W.fnOf "_law_refused" "_law_refused" (defArgs s_law_refused) (defBody s_law_refused) (defScope s_law_refused) .none kV49 dc49 pm49 an49 cd49 ct49), sl49⟩)
    (c49 : PySem.W.codeIn K cd49 "_law_refused" = true) (k49 : PySem.W.keepIn K (.ref f49) = true)
    (a50 : PySem.W.nsIn K mainGlobals "law" = some (some (.ref f50)))
    (l50 : K.lookup f50 = some ⟨oc50, od50, .func (PySem.W.fnOf "law" "law" (defArgs s_law) (defBody s_law) (defScope s_law) .none kV50 dc50 pm50 an50 cd50 ct50), sl50⟩)
    (c50 : PySem.W.codeIn K cd50 "law" = true) (k50 : PySem.W.keepIn K (.ref f50) = true)
    (y1 : PySem.W.nsIn K mainGlobals "MOST_SIGNS" = some (some (.int 40 u1)))
    (y2 : PySem.W.nsIn K mainGlobals "MOST_ARGUMENTS" = some (some (.int 8 u2)))
    (y3 : PySem.W.nsIn K mainGlobals "BARRED_SIGN" = some (some (.int 37 u3)))
    (y4 : PySem.W.nsIn K mainGlobals "TOO_GREAT" = some (some (.int tooGreat u4)))
    (y5 : PySem.W.nsIn K mainGlobals "MOST_BITS" = some (some (.int 1000 u5)))
    (nd : PySem.W.nsIn K mainGlobals "NO_DIVISOR" = some (some (.ref N1)))
    (nd1 : K.lookup N1 = some ⟨.type "tuple", o1, .seq #[.str "error" g1, .ref N2] m1, w1⟩)
    (nd2 : K.lookup N2 = some ⟨.type "tuple", o2, .seq #[.str "evaluation_error" g2, .str "zero_divisor" g3] m2, w2⟩)
    (tl : PySem.W.nsIn K mainGlobals "TOO_LONG" = some (some (.ref N3)))
    (tl1 : K.lookup N3 = some ⟨.type "tuple", o3, .seq #[.str "error" g4, .ref N4] m3, w3⟩)
    (tl2 : K.lookup N4 = some ⟨.type "tuple", o4, .seq #[.str "resource_error" g5, .str "integer" g6] m4, w4⟩)
    (dg1 : PySem.W.nsIn K mainGlobals "OF_ONE" = some (some (.ref D1)))
    (dd1 : K.lookup D1 = some ⟨.type "dict", none, .dict #[⟨PyData.keyHash w.params "+", .str "+" p0, .ref f15⟩, ⟨PyData.keyHash w.params "-", .str "-" p1, .ref f16⟩, ⟨PyData.keyHash w.params "abs", .str "abs" p2, .ref f17⟩, ⟨PyData.keyHash w.params "sign", .str "sign" p3, .ref f18⟩, ⟨PyData.keyHash w.params "\\", .str "\\" p4, .ref f19⟩, ⟨PyData.keyHash w.params "msb", .str "msb" p5, .ref f20⟩] e1, #[]⟩)
    (ds1 : (D1 == sysModules) = false)
    (dg2 : PySem.W.nsIn K mainGlobals "OF_TWO" = some (some (.ref D2)))
    (dd2 : K.lookup D2 = some ⟨.type "dict", none, .dict #[⟨PyData.keyHash w.params "+", .str "+" q0, .ref f21⟩, ⟨PyData.keyHash w.params "-", .str "-" q1, .ref f22⟩, ⟨PyData.keyHash w.params "*", .str "*" q2, .ref f23⟩, ⟨PyData.keyHash w.params "min", .str "min" q3, .ref f24⟩, ⟨PyData.keyHash w.params "max", .str "max" q4, .ref f25⟩, ⟨PyData.keyHash w.params "gcd", .str "gcd" q5, .ref f26⟩, ⟨PyData.keyHash w.params "/\\", .str "/\\" q6, .ref f27⟩, ⟨PyData.keyHash w.params "\\/", .str "\\/" q7, .ref f28⟩, ⟨PyData.keyHash w.params "xor", .str "xor" q8, .ref f29⟩, ⟨PyData.keyHash w.params "//", .str "//" q9, .ref f30⟩, ⟨PyData.keyHash w.params "div", .str "div" q10, .ref f31⟩, ⟨PyData.keyHash w.params "mod", .str "mod" q11, .ref f32⟩, ⟨PyData.keyHash w.params "rem", .str "rem" q12, .ref f33⟩, ⟨PyData.keyHash w.params "<<", .str "<<" q13, .ref f34⟩, ⟨PyData.keyHash w.params ">>", .str ">>" q14, .ref f35⟩, ⟨PyData.keyHash w.params "**", .str "**" q15, .ref f36⟩, ⟨PyData.keyHash w.params "^", .str "^" q16, .ref f36⟩] e2, #[]⟩)
    (ds2 : (D2 == sysModules) = false)
    (hA : PySem.W.nsIn K mainGlobals "HornError" = some (some (.ref aHn)))
    (hRd : PySem.W.readsIn K aHn (.type "type") = true)
    (hGa : PySem.W.specialIn K (.ref aHn) "__getattribute__" = some (some (.builtin "type.__getattribute__")))
    (hIn : PySem.W.findCls K (.ref aHn) (.type "type") "__init__" = some (.val (.builtin "ValueError.__init__")))
    (bA : PySem.W.nsIn K mainGlobals "BadTerm" = some (some (.ref aBd)))
    (bX : K.lookup aBd = some (excClassObj nmB qB aBd NB bsB [.ref aHn, .type "ValueError", .type "Exception", .type "BaseException", .type "object"] true snB subB abB colB ddB mB0 mB1 mB2 mB3 mB5 "ValueError.__new__"))
    (bSa : PySem.W.findIn K (.ref aBd) "__setattr__" = some (some (.builtin "object.__setattr__")))
    (bEx : PySem.W.subIn K (.ref aBd) (.type "BaseException") = some true)
    (bTy : PySem.W.typeIn K (.ref aBd) = some (.type "type"))
    (bK : PySem.W.keepIn K (.ref aBd) = true)
    (bGa : PySem.W.findIn K (.ref aBd) "__getattribute__" = some (some (.builtin "BaseException.__getattribute__")))
    (bGg : PySem.W.findIn K (.ref aBd) "__getattr__" = some none)
    (bHd : PySem.W.hasDictIn K aBd = true)
    (bNo : PySem.W.findIn K (.ref aBd) "term" = some none)
    (bI : PySem.W.findIn K (.ref aBd) "__init__" = some (some (.ref iBd)))
    (bTi : PySem.W.typeIn K (.ref iBd) = some (.type "function"))
    (bIs : PySem.W.isClsIn K aBd = true)
    (bSu : PySem.W.subIn K (.ref aBd) (.ref aBd) = some true)
    (hIs : PySem.W.isClsIn K aHn = true)
    (hTy : PySem.W.typeIn K (.ref aHn) = some (.type "type"))
    (bSh : PySem.W.subIn K (.ref aBd) (.ref aHn) = some true)
    (bL : K.lookup iBd = some ⟨ocB, odB, .func (PySem.W.fnOf "__init__" "BadTerm.__init__" (defArgs s_BadTerm_init) (defBody s_BadTerm_init) (defScope s_BadTerm_init) .none kVB dcB pmB anB cdB ctB), slB⟩)
    (bC : PySem.W.codeIn K cdB "BadTerm.__init__" = true)
    (bKi : PySem.W.keepIn K (.ref iBd) = true)
    (bCa : PySem.W.findIn K (.ref aBd) "__class__" = some (some (.builtin "object.__class__")))
    (bOg : PySem.W.specialIn K (.builtin "object.__class__") "__get__" = some (some (.builtin "getset_descriptor.__get__")))
    (bOt : PySem.W.takesIn K (.builtin "object.__class__") = some true)
    (bMr : PySem.W.mroIn K aBd (.type "object") = some true)
    (z1 : PySem.W.nsIn K mainGlobals "abs" = some none)
    (z2 : PySem.W.nsIn K mainGlobals "all" = some none)
    (z3 : PySem.W.nsIn K mainGlobals "bool" = some none)
    (z4 : PySem.W.nsIn K mainGlobals "int" = some none)
    (z5 : PySem.W.nsIn K mainGlobals "isinstance" = some none)
    (z6 : PySem.W.nsIn K mainGlobals "len" = some none)
    (z7 : PySem.W.nsIn K mainGlobals "list" = some none)
    (z8 : PySem.W.nsIn K mainGlobals "max" = some none)
    (z9 : PySem.W.nsIn K mainGlobals "min" = some none)
    (z10 : PySem.W.nsIn K mainGlobals "ord" = some none)
    (z11 : PySem.W.nsIn K mainGlobals "range" = some none)
    (z12 : PySem.W.nsIn K mainGlobals "repr" = some none)
    (z13 : PySem.W.nsIn K mainGlobals "reversed" = some none)
    (z14 : PySem.W.nsIn K mainGlobals "str" = some none)
    (z15 : PySem.W.nsIn K mainGlobals "tuple" = some none) :
    ∃ fd : FuncData, (∀ (s : Shared) (v : Value), BindsTo s fd ⟨[v], []⟩ [("_law_script", v)]) ∧ ∀ base : Heap, K.In base → base.Ns mainGlobals mg → RG.FnG l.prog w K mg base CX0 9 fa fd ["_law_script"] (spLaw K) := by
  have e := hfa.symm.trans (PySem.W.mg_of X G a50)
  cases e
  have F1 := fun_mk (st := s_is_integer) l1 c1 k1
  have b1 := F1.binds (ps := ["thing"]) fun _ _ _ _ _ _ us hl => match us, hl with | [_], _ => rfl
  have F2 := fun_mk (st := s_is_sign) l2 c2 k2
  have b2 := F2.binds (ps := ["sign"]) fun _ _ _ _ _ _ us hl => match us, hl with | [_], _ => rfl
  have F3 := fun_mk (st := s_is_atom) l3 c3 k3
  have b3 := F3.binds (ps := ["thing"]) fun _ _ _ _ _ _ us hl => match us, hl with | [_], _ => rfl
  have F4 := fun_mk (st := s_is_number) l4 c4 k4
  have b4 := F4.binds (ps := ["thing"]) fun _ _ _ _ _ _ us hl => match us, hl with | [_], _ => rfl
  have F5 := fun_mk (st := s_is_term) l5 c5 k5
  have b5 := F5.binds (ps := ["thing"]) fun _ _ _ _ _ _ us hl => match us, hl with | [_], _ => rfl
  have F6 := fun_mk (st := s_is_part) l6 c6 k6
  have b6 := F6.binds (ps := ["thing"]) fun _ _ _ _ _ _ us hl => match us, hl with | [_], _ => rfl
  have F7 := fun_mk (st := s_demand_term) l7 c7 k7
  have b7 := F7.binds (ps := ["term"]) fun _ _ _ _ _ _ us hl => match us, hl with | [_], _ => rfl
  have F8 := fun_mk (st := s_is_variable) l8 c8 k8
  have b8 := F8.binds (ps := ["part"]) fun _ _ _ _ _ _ us hl => match us, hl with | [_], _ => rfl
  have F9 := fun_mk (st := s_arguments_of) l9 c9 k9
  have b9 := F9.binds (ps := ["part"]) fun _ _ _ _ _ _ us hl => match us, hl with | [_], _ => rfl
  have F10 := fun_mk (st := s_reckoned) l10 c10 k10
  have b10 := F10.binds (ps := ["term"]) fun _ _ _ _ _ _ us hl => match us, hl with | [_], _ => rfl
  have F11 := fun_mk (st := s_is_operation) l11 c11 k11
  have b11 := F11.binds (ps := ["term"]) fun _ _ _ _ _ _ us hl => match us, hl with | [_], _ => rfl
  have F12 := fun_mk (st := s_leaf) l12 c12 k12
  have b12 := F12.binds (ps := ["term"]) fun _ _ _ _ _ _ us hl => match us, hl with | [_], _ => rfl
  have F13 := fun_mk (st := s_operated) l13 c13 k13
  have b13 := F13.binds (ps := ["name", "values"]) fun _ _ _ _ _ _ us hl => match us, hl with | [_, _], _ => rfl
  have F14 := fun_mk (st := s_bounded) l14 c14 k14
  have b14 := F14.binds (ps := ["result"]) fun _ _ _ _ _ _ us hl => match us, hl with | [_], _ => rfl
  have F15 := fun_mk (st := s_same) l15 c15 k15
  have b15 := F15.binds (ps := ["x"]) fun _ _ _ _ _ _ us hl => match us, hl with | [_], _ => rfl
  have F16 := fun_mk (st := s_opposite) l16 c16 k16
  have b16 := F16.binds (ps := ["x"]) fun _ _ _ _ _ _ us hl => match us, hl with | [_], _ => rfl
  have F17 := fun_mk (st := s_absolute) l17 c17 k17
  have b17 := F17.binds (ps := ["x"]) fun _ _ _ _ _ _ us hl => match us, hl with | [_], _ => rfl
  have F18 := fun_mk (st := s_sign) l18 c18 k18
  have b18 := F18.binds (ps := ["x"]) fun _ _ _ _ _ _ us hl => match us, hl with | [_], _ => rfl
  have F19 := fun_mk (st := s_complement) l19 c19 k19
  have b19 := F19.binds (ps := ["x"]) fun _ _ _ _ _ _ us hl => match us, hl with | [_], _ => rfl
  have F20 := fun_mk (st := s_highest_bit) l20 c20 k20
  have b20 := F20.binds (ps := ["x"]) fun _ _ _ _ _ _ us hl => match us, hl with | [_], _ => rfl
  have F21 := fun_mk (st := s_sum) l21 c21 k21
  have b21 := F21.binds (ps := ["x", "y"]) fun _ _ _ _ _ _ us hl => match us, hl with | [_, _], _ => rfl
  have F22 := fun_mk (st := s_difference) l22 c22 k22
  have b22 := F22.binds (ps := ["x", "y"]) fun _ _ _ _ _ _ us hl => match us, hl with | [_, _], _ => rfl
  have F23 := fun_mk (st := s_product) l23 c23 k23
  have b23 := F23.binds (ps := ["x", "y"]) fun _ _ _ _ _ _ us hl => match us, hl with | [_, _], _ => rfl
  have F24 := fun_mk (st := s_least) l24 c24 k24
  have b24 := F24.binds (ps := ["x", "y"]) fun _ _ _ _ _ _ us hl => match us, hl with | [_, _], _ => rfl
  have F25 := fun_mk (st := s_greatest) l25 c25 k25
  have b25 := F25.binds (ps := ["x", "y"]) fun _ _ _ _ _ _ us hl => match us, hl with | [_, _], _ => rfl
  have F26 := fun_mk (st := s_common_divisor) l26 c26 k26
  have b26 := F26.binds (ps := ["x", "y"]) fun _ _ _ _ _ _ us hl => match us, hl with | [_, _], _ => rfl
  have F27 := fun_mk (st := s_both_bits) l27 c27 k27
  have b27 := F27.binds (ps := ["x", "y"]) fun _ _ _ _ _ _ us hl => match us, hl with | [_, _], _ => rfl
  have F28 := fun_mk (st := s_any_bits) l28 c28 k28
  have b28 := F28.binds (ps := ["x", "y"]) fun _ _ _ _ _ _ us hl => match us, hl with | [_, _], _ => rfl
  have F29 := fun_mk (st := s_unlike_bits) l29 c29 k29
  have b29 := F29.binds (ps := ["x", "y"]) fun _ _ _ _ _ _ us hl => match us, hl with | [_, _], _ => rfl
  have F30 := fun_mk (st := s_towards_zero) l30 c30 k30
  have b30 := F30.binds (ps := ["x", "y"]) fun _ _ _ _ _ _ us hl => match us, hl with | [_, _], _ => rfl
  have F31 := fun_mk (st := s_downwards) l31 c31 k31
  have b31 := F31.binds (ps := ["x", "y"]) fun _ _ _ _ _ _ us hl => match us, hl with | [_, _], _ => rfl
  have F32 := fun_mk (st := s_modulus) l32 c32 k32
  have b32 := F32.binds (ps := ["x", "y"]) fun _ _ _ _ _ _ us hl => match us, hl with | [_, _], _ => rfl
  have F33 := fun_mk (st := s_remainder) l33 c33 k33
  have b33 := F33.binds (ps := ["x", "y"]) fun _ _ _ _ _ _ us hl => match us, hl with | [_, _], _ => rfl
  have F34 := fun_mk (st := s_shift_left) l34 c34 k34
  have b34 := F34.binds (ps := ["x", "y"]) fun _ _ _ _ _ _ us hl => match us, hl with | [_, _], _ => rfl
  have F35 := fun_mk (st := s_shift_right) l35 c35 k35
  have b35 := F35.binds (ps := ["x", "y"]) fun _ _ _ _ _ _ us hl => match us, hl with | [_, _], _ => rfl
  have F36 := fun_mk (st := s_power) l36 c36 k36
  have b36 := F36.binds (ps := ["x", "y"]) fun _ _ _ _ _ _ us hl => match us, hl with | [_, _], _ => rfl
  have F37 := fun_mk (st := s_small_power) l37 c37 k37
  have b37 := F37.binds (ps := ["x", "y"]) fun _ _ _ _ _ _ us hl => match us, hl with | [_, _], _ => rfl
  have F38 := fun_mk (st := s_law_source_of) l38 c38 k38
  have b38 := F38.binds (ps := ["_law_cell"]) fun _ _ _ _ _ _ us hl => match us, hl with | [_], _ => rfl
  have F39 := fun_mk (st := s_law_next) l39 c39 k39
  have b39 := F39.binds (ps := ["_law_source", "_law_many"]) fun _ _ _ _ _ _ us hl => match us, hl with | [_, _], _ => rfl
  have F40 := fun_mk (st := s_law_one) l40 c40 k40
  have b40 := F40.binds (ps := ["_law_source", "_law_some"]) fun _ _ _ _ _ _ us hl => match us, hl with | [_, _], _ => rfl
  have F41 := fun_mk (st := s_law_top) l41 c41 k41
  have b41 := F41.binds (ps := []) fun _ _ _ _ _ _ us hl => match us, hl with | [], _ => rfl
  have F42 := fun_mk (st := s_law_of) l42 c42 k42
  have b42 := F42.binds (ps := ["_law_name", "_law_x", "_law_y"]) fun _ _ _ _ _ _ us hl => match us, hl with | [_, _, _], _ => rfl
  have F43 := fun_mk (st := s_law_number) l43 c43 k43
  have b43 := F43.binds (ps := ["_law_source"]) fun _ _ _ _ _ _ us hl => match us, hl with | [_], _ => rfl
  have F44 := fun_mk (st := s_law_divisions_right) l44 c44 k44
  have b44 := F44.binds (ps := ["_law_x", "_law_y"]) fun _ _ _ _ _ _ us hl => match us, hl with | [_, _], _ => rfl
  have F45 := fun_mk (st := s_law_bits_right) l45 c45 k45
  have b45 := F45.binds (ps := ["_law_x", "_law_y"]) fun _ _ _ _ _ _ us hl => match us, hl with | [_, _], _ => rfl
  have F46 := fun_mk (st := s_law_gcd_right) l46 c46 k46
  have b46 := F46.binds (ps := ["_law_x", "_law_y", "_law_more"]) fun _ _ _ _ _ _ us hl => match us, hl with | [_, _, _], _ => rfl
  have F47 := fun_mk (st := s_law_shifts_right) l47 c47 k47
  have b47 := F47.binds (ps := ["_law_x", "_law_many", "_law_more"]) fun _ _ _ _ _ _ us hl => match us, hl with | [_, _, _], _ => rfl
  have F48 := fun_mk (st := s_law_brink_right) l48 c48 k48
  have b48 := F48.binds (ps := ["_law_source"]) fun _ _ _ _ _ _ us hl => match us, hl with | [_], _ => rfl
  have F49 := fun_mk (st := s_law_refused) l49 c49 k49
  have b49 := F49.binds (ps := ["_law_thing"]) fun _ _ _ _ _ _ us hl => match us, hl with | [_], _ => rfl
  have F50 := fun_mk (st := s_law) l50 c50 k50
  have b50 := F50.binds (ps := ["_law_script"]) fun _ _ _ _ _ _ us hl => match us, hl with | [_], _ => rfl
  have FB := fun_mk (st := s_BadTerm_init) bL bC bKi
  have bB := FB.binds (ps := ["self", "term"]) fun _ _ _ _ _ _ us hl => match us, hl with | [_, _], _ => rfl
  exact ⟨PySem.W.fnOf "law" "law" (defArgs s_law) (defBody s_law) (defScope s_law) .none kV50 dc50 pm50 an50 cd50 ct50, fun s v => .of_eq rfl, fun base _ _ => ok_law (T := ({
    f_is_integer := f1, d_is_integer := _, h_is_integer := ⟨F1, b1, PySem.W.mg_of X G a1⟩,
    f_is_sign := f2, d_is_sign := _, h_is_sign := ⟨F2, b2, PySem.W.mg_of X G a2⟩,
    f_is_atom := f3, d_is_atom := _, h_is_atom := ⟨F3, b3, PySem.W.mg_of X G a3⟩,
    f_is_number := f4, d_is_number := _, h_is_number := ⟨F4, b4, PySem.W.mg_of X G a4⟩,
    f_is_term := f5, d_is_term := _, h_is_term := ⟨F5, b5, PySem.W.mg_of X G a5⟩,
    f_is_part := f6, d_is_part := _, h_is_part := ⟨F6, b6, PySem.W.mg_of X G a6⟩,
    f_demand_term := f7, d_demand_term := _, h_demand_term := ⟨F7, b7, PySem.W.mg_of X G a7⟩,
    f_is_variable := f8, d_is_variable := _, h_is_variable := ⟨F8, b8, PySem.W.mg_of X G a8⟩,
    f_arguments_of := f9, d_arguments_of := _, h_arguments_of := ⟨F9, b9, PySem.W.mg_of X G a9⟩,
    f_reckoned := f10, d_reckoned := _, h_reckoned := ⟨F10, b10, PySem.W.mg_of X G a10⟩,
    f_is_operation := f11, d_is_operation := _, h_is_operation := ⟨F11, b11, PySem.W.mg_of X G a11⟩,
    f_leaf := f12, d_leaf := _, h_leaf := ⟨F12, b12, PySem.W.mg_of X G a12⟩,
    f_operated := f13, d_operated := _, h_operated := ⟨F13, b13, PySem.W.mg_of X G a13⟩,
    f_bounded := f14, d_bounded := _, h_bounded := ⟨F14, b14, PySem.W.mg_of X G a14⟩,
    f_same := f15, d_same := _, h_same := ⟨F15, b15, PySem.W.mg_of X G a15⟩,
    f_opposite := f16, d_opposite := _, h_opposite := ⟨F16, b16, PySem.W.mg_of X G a16⟩,
    f_absolute := f17, d_absolute := _, h_absolute := ⟨F17, b17, PySem.W.mg_of X G a17⟩,
    f_sign := f18, d_sign := _, h_sign := ⟨F18, b18, PySem.W.mg_of X G a18⟩,
    f_complement := f19, d_complement := _, h_complement := ⟨F19, b19, PySem.W.mg_of X G a19⟩,
    f_highest_bit := f20, d_highest_bit := _, h_highest_bit := ⟨F20, b20, PySem.W.mg_of X G a20⟩,
    f_sum := f21, d_sum := _, h_sum := ⟨F21, b21, PySem.W.mg_of X G a21⟩,
    f_difference := f22, d_difference := _, h_difference := ⟨F22, b22, PySem.W.mg_of X G a22⟩,
    f_product := f23, d_product := _, h_product := ⟨F23, b23, PySem.W.mg_of X G a23⟩,
    f_least := f24, d_least := _, h_least := ⟨F24, b24, PySem.W.mg_of X G a24⟩,
    f_greatest := f25, d_greatest := _, h_greatest := ⟨F25, b25, PySem.W.mg_of X G a25⟩,
    f_common_divisor := f26, d_common_divisor := _, h_common_divisor := ⟨F26, b26, PySem.W.mg_of X G a26⟩,
    f_both_bits := f27, d_both_bits := _, h_both_bits := ⟨F27, b27, PySem.W.mg_of X G a27⟩,
    f_any_bits := f28, d_any_bits := _, h_any_bits := ⟨F28, b28, PySem.W.mg_of X G a28⟩,
    f_unlike_bits := f29, d_unlike_bits := _, h_unlike_bits := ⟨F29, b29, PySem.W.mg_of X G a29⟩,
    f_towards_zero := f30, d_towards_zero := _, h_towards_zero := ⟨F30, b30, PySem.W.mg_of X G a30⟩,
    f_downwards := f31, d_downwards := _, h_downwards := ⟨F31, b31, PySem.W.mg_of X G a31⟩,
    f_modulus := f32, d_modulus := _, h_modulus := ⟨F32, b32, PySem.W.mg_of X G a32⟩,
    f_remainder := f33, d_remainder := _, h_remainder := ⟨F33, b33, PySem.W.mg_of X G a33⟩,
    f_shift_left := f34, d_shift_left := _, h_shift_left := ⟨F34, b34, PySem.W.mg_of X G a34⟩,
    f_shift_right := f35, d_shift_right := _, h_shift_right := ⟨F35, b35, PySem.W.mg_of X G a35⟩,
    f_power := f36, d_power := _, h_power := ⟨F36, b36, PySem.W.mg_of X G a36⟩,
    f_small_power := f37, d_small_power := _, h_small_power := ⟨F37, b37, PySem.W.mg_of X G a37⟩,
    f_law_source_of := f38, d_law_source_of := _, h_law_source_of := ⟨F38, b38, PySem.W.mg_of X G a38⟩,
    f_law_next := f39, d_law_next := _, h_law_next := ⟨F39, b39, PySem.W.mg_of X G a39⟩,
    f_law_one := f40, d_law_one := _, h_law_one := ⟨F40, b40, PySem.W.mg_of X G a40⟩,
    f_law_top := f41, d_law_top := _, h_law_top := ⟨F41, b41, PySem.W.mg_of X G a41⟩,
    f_law_of := f42, d_law_of := _, h_law_of := ⟨F42, b42, PySem.W.mg_of X G a42⟩,
    f_law_number := f43, d_law_number := _, h_law_number := ⟨F43, b43, PySem.W.mg_of X G a43⟩,
    f_law_divisions_right := f44, d_law_divisions_right := _, h_law_divisions_right := ⟨F44, b44, PySem.W.mg_of X G a44⟩,
    f_law_bits_right := f45, d_law_bits_right := _, h_law_bits_right := ⟨F45, b45, PySem.W.mg_of X G a45⟩,
    f_law_gcd_right := f46, d_law_gcd_right := _, h_law_gcd_right := ⟨F46, b46, PySem.W.mg_of X G a46⟩,
    f_law_shifts_right := f47, d_law_shifts_right := _, h_law_shifts_right := ⟨F47, b47, PySem.W.mg_of X G a47⟩,
    f_law_brink_right := f48, d_law_brink_right := _, h_law_brink_right := ⟨F48, b48, PySem.W.mg_of X G a48⟩,
    f_law_refused := f49, d_law_refused := _, h_law_refused := ⟨F49, b49, PySem.W.mg_of X G a49⟩,
    f_law := fa, d_law := _, h_law := ⟨F50, b50, PySem.W.mg_of X G a50⟩,
    c_MOST_SIGNS := ⟨_, PySem.W.mg_of X G y1⟩,
    c_MOST_ARGUMENTS := ⟨_, PySem.W.mg_of X G y2⟩,
    c_BARRED_SIGN := ⟨_, PySem.W.mg_of X G y3⟩,
    c_TOO_GREAT := ⟨_, PySem.W.mg_of X G y4⟩,
    c_MOST_BITS := ⟨_, PySem.W.mg_of X G y5⟩,
    a_NO_DIVISOR := N1, m_NO_DIVISOR := PySem.W.mg_of X G nd, r_NO_DIVISOR := mod_err nd1 nd2,
    a_TOO_LONG := N3, m_TOO_LONG := PySem.W.mg_of X G tl, r_TOO_LONG := mod_err tl1 tl2,
    a_OF_ONE := D1, m_OF_ONE := PySem.W.mg_of X G dg1, e_OF_ONE := _, n_OF_ONE := _, k_OF_ONE := kd_mk dd1 ds1 (.cons ent_mk (.cons ent_mk (.cons ent_mk (.cons ent_mk (.cons ent_mk (.cons ent_mk .nil)))))), v_OF_ONE := fun z => ent_ns (P := w.params) dd1 (.cons ent_mk (.cons ent_mk (.cons ent_mk (.cons ent_mk (.cons ent_mk (.cons ent_mk .nil)))))) z,
    a_OF_TWO := D2, m_OF_TWO := PySem.W.mg_of X G dg2, e_OF_TWO := _, n_OF_TWO := _, k_OF_TWO := kd_mk dd2 ds2 (.cons ent_mk (.cons ent_mk (.cons ent_mk (.cons ent_mk (.cons ent_mk (.cons ent_mk (.cons ent_mk (.cons ent_mk (.cons ent_mk (.cons ent_mk (.cons ent_mk (.cons ent_mk (.cons ent_mk (.cons ent_mk (.cons ent_mk (.cons ent_mk (.cons ent_mk .nil))))))))))))))))), v_OF_TWO := fun z => ent_ns (P := w.params) dd2 (.cons ent_mk (.cons ent_mk (.cons ent_mk (.cons ent_mk (.cons ent_mk (.cons ent_mk (.cons ent_mk (.cons ent_mk (.cons ent_mk (.cons ent_mk (.cons ent_mk (.cons ent_mk (.cons ent_mk (.cons ent_mk (.cons ent_mk (.cons ent_mk (.cons ent_mk .nil))))))))))))))))) z,
    a_Horn := aHn, e_Horn := ⟨PySem.W.mg_of X G hA, hRd, hGa, hIn⟩,
    a_Bad := aBd, i_Bad := iBd, d_Bad := _,
    e_Bad := ⟨PySem.W.mg_of X G bA, ⟨⟨_, _, _, _, _, _, _, _, _, _, _, _, _, _, _, bX, (show PySem.HandSPX.refsVE [.type "ValueError", .type "Exception", .type "BaseException", .type "object"] = true by decide +kernel)⟩, bSa, bEx, bTy, bK⟩, ⟨bGa, bGg, bEx, bHd⟩, bNo, bI, bTi, exm_own bEx bIs bTy bSu⟩,
    F_Bad := FB, b_Bad := bB, x_Bad := ⟨bIs, bGa, bGg, bEx, bCa, bOg, bOt, bMr⟩, y_Bad := kit_own hIs hTy bSh,
    b_abs := PySem.W.mg_none_of X G z1,
    b_all := PySem.W.mg_none_of X G z2,
    b_bool := PySem.W.mg_none_of X G z3,
    b_int := PySem.W.mg_none_of X G z4,
    b_isinstance := PySem.W.mg_none_of X G z5,
    b_len := PySem.W.mg_none_of X G z6,
    b_list := PySem.W.mg_none_of X G z7,
    b_max := PySem.W.mg_none_of X G z8,
    b_min := PySem.W.mg_none_of X G z9,
    b_ord := PySem.W.mg_none_of X G z10,
    b_range := PySem.W.mg_none_of X G z11,
    b_repr := PySem.W.mg_none_of X G z12,
    b_reversed := PySem.W.mg_none_of X G z13,
    b_str := PySem.W.mg_none_of X G z14,
    b_tuple := PySem.W.mg_none_of X G z15 } : Tz K w mg))⟩
theorem walk {l : PySem.W.OpenLaw} {q : Program} {loose : List Str} {XP : (Str → Option Value) → Heap → Prop} {YP : World → Heap → Prop} {d : DefRec} {K : Params → PySem.W.Frag} (hn : l.most = some 63) (hdf : d.params.defaults = [])
    (hY : ∀ (w : World) (h : Heap), YP w h → (K w.params).In h)
    (F : ∀ (w : World) (mg : Str → Option Value) (fa : Addr) (h : Heap), (K w.params).In h → h.Ns mainGlobals mg → mg d.name = some (.ref fa) →
      ∃ fd : FuncData, (∀ (s : Shared) (u : Value), BindsTo s fd ⟨[u], []⟩ [("_law_script", u)]) ∧ ∀ base : Heap, (K w.params).In base → base.Ns mainGlobals mg → RG.FnG l.prog w (K w.params) mg base CX0 9 fa fd ["_law_script"] (spLaw (K w.params))) :
    PySem.W.WalkO q loose XP YP l.row.toRowW d [] (fun f vs => PySem.call f vs) :=
  RG.walk_free (n := 63) (k := 9) (x := "_law_script") (CC := fun _ => CX0) (sp := fun w => spLaw (K w.params)) hn (by decide) hdf ⟨rfl, by decide, by decide⟩ hY F (fun _ _ a ns hl hS => ⟨a, ns, rfl, hS, hl, fun _ => rfl⟩) fun _ _ _ _ _ z => z
end Hm

open PySem PySem.W PyProof.Rows
set_option maxRecDepth 100000 in
set_option maxHeartbeats 0 in
theorem PySem.Challenge.cw_hornmill_k42_whole_laws_of_arithmetic_holds : PySem.Challenge.rw_hornmill_k42_whole_laws_of_arithmetic.Holds := by
  w_on; o_law; k_head; (case hw => w_witness2)
  k_fill
  refine Hm.walk (l := PySem.Challenge.rw_hornmill_k42_whole_laws_of_arithmetic) rfl rfl (fun w h Y => PySem.W.kIn_of Y) ?F
  case F =>
    intro w mg fa h KX G hmg
    refine' Hm.all_mk KX G hmg ?a1 ?l1 ?c1 ?k1 ?a2 ?l2 ?c2 ?k2 ?a3 ?l3 ?c3 ?k3 ?a4 ?l4 ?c4 ?k4 ?a5 ?l5 ?c5 ?k5 ?a6 ?l6 ?c6 ?k6 ?a7 ?l7 ?c7 ?k7 ?a8 ?l8 ?c8 ?k8 ?a9 ?l9 ?c9 ?k9 ?a10 ?l10 ?c10 ?k10 ?a11 ?l11 ?c11 ?k11 ?a12 ?l12 ?c12 ?k12 ?a13 ?l13 ?c13 ?k13 ?a14 ?l14 ?c14 ?k14 ?a15 ?l15 ?c15 ?k15 ?a16 ?l16 ?c16 ?k16 ?a17 ?l17 ?c17 ?k17 ?a18 ?l18 ?c18 ?k18 ?a19 ?l19 ?c19 ?k19 ?a20 ?l20 ?c20 ?k20 ?a21 ?l21 ?c21 ?k21 ?a22 ?l22 ?c22 ?k22 ?a23 ?l23 ?c23 ?k23 ?a24 ?l24 ?c24 ?k24 ?a25 ?l25 ?c25 ?k25 ?a26 ?l26 ?c26 ?k26 ?a27 ?l27 ?c27 ?k27 ?a28 ?l28 ?c28 ?k28 ?a29 ?l29 ?c29 ?k29 ?a30 ?l30 ?c30 ?k30 ?a31 ?l31 ?c31 ?k31 ?a32 ?l32 ?c32 ?k32 ?a33 ?l33 ?c33 ?k33 ?a34 ?l34 ?c34 ?k34 ?a35 ?l35 ?c35 ?k35 ?a36 ?l36 ?c36 ?k36 ?a37 ?l37 ?c37 ?k37 ?a38 ?l38 ?c38 ?k38 ?a39 ?l39 ?c39 ?k39 ?a40 ?l40 ?c40 ?k40 ?a41 ?l41 ?c41 ?k41 ?a42 ?l42 ?c42 ?k42 ?a43 ?l43 ?c43 ?k43 ?a44 ?l44 ?c44 ?k44 ?a45 ?l45 ?c45 ?k45 ?a46 ?l46 ?c46 ?k46 ?a47 ?l47 ?c47 ?k47 ?a48 ?l48 ?c48 ?k48 ?a49 ?l49 ?c49 ?k49 ?a50 ?l50 ?c50 ?k50 ?y1 ?y2 ?y3 ?y4 ?y5 ?nd ?nd1 ?nd2 ?tl ?tl1 ?tl2 ?dg1 ?dd1 ?ds1 ?dg2 ?dd2 ?ds2 ?hA ?hRd ?hGa ?hIn ?bA ?bX ?bSa ?bEx ?bTy ?bK ?bGa ?bGg ?bHd ?bNo ?bI ?bTi ?bIs ?bSu ?hIs ?hTy ?bSh ?bL ?bC ?bKi ?bCa ?bOg ?bOt ?bMr ?z1 ?z2 ?z3 ?z4 ?z5 ?z6 ?z7 ?z8 ?z9 ?z10 ?z11 ?z12 ?z13 ?z14 ?z15
    (case a1 => k_is)
    (case l1 => k_is)
    (case c1 => k_is)
    (case k1 => k_is)
    (case a2 => k_is)
    (case l2 => k_is)
    (case c2 => k_is)
    (case k2 => k_is)
    (case a3 => k_is)
    (case l3 => k_is)
    (case c3 => k_is)
    (case k3 => k_is)
    (case a4 => k_is)
    (case l4 => k_is)
    (case c4 => k_is)
    (case k4 => k_is)
    (case a5 => k_is)
    (case l5 => k_is)
    (case c5 => k_is)
    (case k5 => k_is)
    (case a6 => k_is)
    (case l6 => k_is)
    (case c6 => k_is)
    (case k6 => k_is)
    (case a7 => k_is)
    (case l7 => k_is)
    (case c7 => k_is)
    (case k7 => k_is)
    (case a8 => k_is)
    (case l8 => k_is)
    (case c8 => k_is)
    (case k8 => k_is)
    (case a9 => k_is)
    (case l9 => k_is)
    (case c9 => k_is)
    (case k9 => k_is)
    (case a10 => k_is)
    (case l10 => k_is)
    (case c10 => k_is)
    (case k10 => k_is)
    (case a11 => k_is)
    (case l11 => k_is)
    (case c11 => k_is)
    (case k11 => k_is)
    (case a12 => k_is)
    (case l12 => k_is)
    (case c12 => k_is)
    (case k12 => k_is)
    (case a13 => k_is)
    (case l13 => k_is)
    (case c13 => k_is)
    (case k13 => k_is)
    (case a14 => k_is)
    (case l14 => k_is)
    (case c14 => k_is)
    (case k14 => k_is)
    (case a15 => k_is)
    (case l15 => k_is)
    (case c15 => k_is)
    (case k15 => k_is)
    (case a16 => k_is)
    (case l16 => k_is)
    (case c16 => k_is)
    (case k16 => k_is)
    (case a17 => k_is)
    (case l17 => k_is)
    (case c17 => k_is)
    (case k17 => k_is)
    (case a18 => k_is)
    (case l18 => k_is)
    (case c18 => k_is)
    (case k18 => k_is)
    (case a19 => k_is)
    (case l19 => k_is)
    (case c19 => k_is)
    (case k19 => k_is)
    (case a20 => k_is)
    (case l20 => k_is)
    (case c20 => k_is)
    (case k20 => k_is)
    (case a21 => k_is)
    (case l21 => k_is)
    (case c21 => k_is)
    (case k21 => k_is)
    (case a22 => k_is)
    (case l22 => k_is)
    (case c22 => k_is)
    (case k22 => k_is)
    (case a23 => k_is)
    (case l23 => k_is)
    (case c23 => k_is)
    (case k23 => k_is)
    (case a24 => k_is)
    (case l24 => k_is)
    (case c24 => k_is)
    (case k24 => k_is)
    (case a25 => k_is)
    (case l25 => k_is)
    (case c25 => k_is)
    (case k25 => k_is)
    (case a26 => k_is)
    (case l26 => k_is)
    (case c26 => k_is)
    (case k26 => k_is)
    (case a27 => k_is)
    (case l27 => k_is)
    (case c27 => k_is)
    (case k27 => k_is)
    (case a28 => k_is)
    (case l28 => k_is)
    (case c28 => k_is)
    (case k28 => k_is)
    (case a29 => k_is)
    (case l29 => k_is)
    (case c29 => k_is)
    (case k29 => k_is)
    (case a30 => k_is)
    (case l30 => k_is)
    (case c30 => k_is)
    (case k30 => k_is)
    (case a31 => k_is)
    (case l31 => k_is)
    (case c31 => k_is)
    (case k31 => k_is)
    (case a32 => k_is)
    (case l32 => k_is)
    (case c32 => k_is)
    (case k32 => k_is)
    (case a33 => k_is)
    (case l33 => k_is)
    (case c33 => k_is)
    (case k33 => k_is)
    (case a34 => k_is)
    (case l34 => k_is)
    (case c34 => k_is)
    (case k34 => k_is)
    (case a35 => k_is)
    (case l35 => k_is)
    (case c35 => k_is)
    (case k35 => k_is)
    (case a36 => k_is)
    (case l36 => k_is)
    (case c36 => k_is)
    (case k36 => k_is)
    (case a37 => k_is)
    (case l37 => k_is)
    (case c37 => k_is)
    (case k37 => k_is)
    (case a38 => k_is)
    (case l38 => k_is)
    (case c38 => k_is)
    (case k38 => k_is)
    (case a39 => k_is)
    (case l39 => k_is)
    (case c39 => k_is)
    (case k39 => k_is)
    (case a40 => k_is)
    (case l40 => k_is)
    (case c40 => k_is)
    (case k40 => k_is)
    (case a41 => k_is)
    (case l41 => k_is)
    (case c41 => k_is)
    (case k41 => k_is)
    (case a42 => k_is)
    (case l42 => k_is)
    (case c42 => k_is)
    (case k42 => k_is)
    (case a43 => k_is)
    (case l43 => k_is)
    (case c43 => k_is)
    (case k43 => k_is)
    (case a44 => k_is)
    (case l44 => k_is)
    (case c44 => k_is)
    (case k44 => k_is)
    (case a45 => k_is)
    (case l45 => k_is)
    (case c45 => k_is)
    (case k45 => k_is)
    (case a46 => k_is)
    (case l46 => k_is)
    (case c46 => k_is)
    (case k46 => k_is)
    (case a47 => k_is)
    (case l47 => k_is)
    (case c47 => k_is)
    (case k47 => k_is)
    (case a48 => k_is)
    (case l48 => k_is)
    (case c48 => k_is)
    (case k48 => k_is)
    (case a49 => k_is)
    (case l49 => k_is)
    (case c49 => k_is)
    (case k49 => k_is)
    (case a50 => k_is)
    (case l50 => k_is)
    (case c50 => k_is)
    (case k50 => k_is)
    (case y1 => k_is)
    (case y2 => k_is)
    (case y3 => k_is)
    (case y4 => k_is)
    (case y5 => k_is)
    (case nd => k_is)
    (case nd1 => k_is)
    (case nd2 => k_is)
    (case tl => k_is)
    (case tl1 => k_is)
    (case tl2 => k_is)
    (case dg1 => k_is)
    (case dd1 => k_is)
    (case ds1 => first | k_is | decide | rfl)
    (case dg2 => k_is)
    (case dd2 => k_is)
    (case ds2 => first | k_is | decide | rfl)
    (case hA => k_is)
    (case hRd => k_is)
    (case hGa => k_is)
    (case hIn => k_is)
    (case bA => k_is)
    (case bX => k_is)
    (case bSa => k_is)
    (case bEx => k_is)
    (case bTy => k_is)
    (case bK => k_is)
    (case bGa => k_is)
    (case bGg => k_is)
    (case bHd => k_is)
    (case bNo => k_is)
    (case bI => k_is)
    (case bTi => k_is)
    (case bIs => k_is)
    (case bSu => first | rfl | k_is)
    (case hIs => k_is)
    (case hTy => k_is)
    (case bSh => k_is)
    (case bL => k_is)
    (case bC => k_is)
    (case bKi => k_is)
    (case bCa => k_is)
    (case bOg => k_is)
    (case bOt => k_is)
    (case bMr => k_is)
    (case z1 => k_is)
    (case z2 => k_is)
    (case z3 => k_is)
    (case z4 => k_is)
    (case z5 => k_is)
    (case z6 => k_is)
    (case z7 => k_is)
    (case z8 => k_is)
    (case z9 => k_is)
    (case z10 => k_is)
    (case z11 => k_is)
    (case z12 => k_is)
    (case z13 => k_is)
    (case z14 => k_is)
    (case z15 => k_is)
#print axioms PySem.Challenge.cw_hornmill_k42_whole_laws_of_arithmetic_holds

